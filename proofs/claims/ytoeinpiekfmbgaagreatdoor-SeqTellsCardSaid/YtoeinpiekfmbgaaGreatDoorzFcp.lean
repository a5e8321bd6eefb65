/- Layer 9's code: the runner computes. -/
import Derived.Test.YtoeinpiekfmbgaaGreatDoorzHd
namespace Go.Proofs.YtoeinpiekfmbgaaGreatDoor
set_option linter.unusedVariables false
set_option linter.unusedSimpArgs false
open Gm Go.RowKit Go.ChangeShapes Go.WideShapes Go.ChangeAt Go.Sort

section
variable {B r : Nat} {pv l o s : Value} {f : Frm}
/-- What an instruction answers: what is asked for, and a trap. -/
abbrev aks (k t : Int) : Value := .tuple #[akv k, .int .i64 t]
abbrev az0 : Array Value := #[.int .i64 0, .int .i64 0, .int .i64 0, .int .i64 0, .slice none 0 0]
/-- What the two values make lies in a block. -/
def MidP (w : World) (v : V) (ok : Bool) (v7 v8 : Value) (W : World) : Prop := ∃ g, v7 = .pointer (some ⟨g, 0, none⟩) ∧ v8 = .bool ok ∧ w.heap.size < g ∧ Held W g 30 #[.int .i64 v.1, .int .i64 v.2] ∧ Held W w.heap.size 77 az0 ∧ Below w.heap.size w W
theorem set5 {W : World} {g : Nat} {t : TypeId} {a0 a1 a2 a3 a4 : Value} (h : Held W g t #[a0, a1, a2, a3, a4]) (x0 x1 x2 x3 x4 : Value) :
    Held (((((W.setCell ⟨g, 0, none⟩ x0).setCell ⟨g, 1, none⟩ x1).setCell ⟨g, 2, none⟩ x2).setCell ⟨g, 3, none⟩ x3).setCell ⟨g, 4, none⟩ x4) g t #[x0, x1, x2, x3, x4] := ((((h.set_at 0 x0).set_at 1 x1).set_at 2 x2).set_at 3 x3).set_at 4 x4
theorem five {W : World} {g : Nat} {t : TypeId} {a0 a1 a2 a3 a4 : Value} (h : Held W g t #[a0, a1, a2, a3, a4]) : W.cell? ⟨g, 0, none⟩ = some a0 ∧ W.cell? ⟨g, 1, none⟩ = some a1 ∧ W.cell? ⟨g, 2, none⟩ = some a2 ∧ W.cell? ⟨g, 3, none⟩ = some a3 ∧ W.cell? ⟨g, 4, none⟩ = some a4 ∧
    W.frozen? ⟨g, 0, none⟩ = false ∧ W.frozen? ⟨g, 1, none⟩ = false ∧ W.frozen? ⟨g, 2, none⟩ = false ∧ W.frozen? ⟨g, 3, none⟩ = false ∧ W.frozen? ⟨g, 4, none⟩ = false :=
  ⟨h.cell 0, h.cell 1, h.cell 2, h.cell 3, h.cell 4, h.fz 0, h.fz 1, h.fz 2, h.fz 3, h.fz 4⟩
theorem Aft.far5 {B r : Nat} {pv l o s s1 : Value} {w w1 : World} {f1 : Frm} (h : Aft B r pv l o s w f1 s1 w1) {g : Nat} (hg : Off4 r s1 l o g) (hge : w.heap.size ≤ g) (x0 x1 x2 x3 x4 : Value) :
    Aft B r pv l o s w f1 s1 (((((w1.setCell ⟨g, 0, none⟩ x0).setCell ⟨g, 1, none⟩ x1).setCell ⟨g, 2, none⟩ x2).setCell ⟨g, 3, none⟩ x3).setCell ⟨g, 4, none⟩ x4) :=
  ((((h.far hg hge 0 x0).far hg hge 1 x1).far hg hge 2 x2).far hg hge 3 x3).far hg hge 4 x4
/-- The cells that the region reads. -/
def CpS (W0 : World) (r b off d e : Nat) (sv : Value) (lv tv : V) (W : World) : Prop := Below W0.heap.size W0 W ∧ W.cell? ⟨r, 2, none⟩ = some sv ∧ W.cell? ⟨b, off + d * 2, none⟩ = some (.int .i64 lv.1) ∧ W.cell? ⟨b, off + d * 2 + 1, none⟩ = some (.int .i64 lv.2) ∧ W.cell? ⟨b, off + e * 2, none⟩ = some (.int .i64 tv.1) ∧ W.cell? ⟨b, off + e * 2 + 1, none⟩ = some (.int .i64 tv.2)
theorem CpS.keep {W0 : World} {r b off d e : Nat} {sv : Value} {lv tv : V} (h : CpS W0 r b off d e sv lv tv W0) {W : World} (hb : Below W0.heap.size W0 W) : CpS W0 r b off d e sv lv tv W :=
  ⟨hb, (hb.cell (p := ⟨r, 2, none⟩) (block_lt_of_cell h.2.1)).trans h.2.1, (hb.cell (p := ⟨b, off + d * 2, none⟩) (block_lt_of_cell h.2.2.1)).trans h.2.2.1, (hb.cell (p := ⟨b, off + d * 2 + 1, none⟩) (block_lt_of_cell h.2.2.2.1)).trans h.2.2.2.1,
    (hb.cell (p := ⟨b, off + e * 2, none⟩) (block_lt_of_cell h.2.2.2.2.1)).trans h.2.2.2.2.1, (hb.cell (p := ⟨b, off + e * 2 + 1, none⟩) (block_lt_of_cell h.2.2.2.2.2)).trans h.2.2.2.2.2⟩
theorem midp_c {w W0 u : World} {v : V} {ok : Bool} {g : Nat} (h0 : Held W0 w.heap.size 77 az0) (hw0 : Below w.heap.size w W0) (hb : Below W0.heap.size W0 u) (hz : Held u g 30 #[.int .i64 0, .int .i64 0]) (hg : W0.heap.size ≤ g) :
    MidP w v ok (.pointer (some ⟨g, 0, none⟩)) (.bool ok) ((u.setCell ⟨g, 0, none⟩ (.int .i64 v.1)).setCell ⟨g, 1, none⟩ (.int .i64 v.2)) := by
  have hlt := h0.lt
  have hs2 := hw0.size
  have h1 := h0.below hb
  have hw : Below w.heap.size w u := hw0.trans (hb.mono hs2)
  exact ⟨_, rfl, rfl, by omega, (hz.set_at 0 _).set_at 1 _, (h1.far (by omega) 0 _).far (by omega) 1 _, set2b (by omega) hw⟩
theorem midp_b {w W0 u : World} {v : V} {ok : Bool} (h0 : Held W0 w.heap.size 77 az0) (hw0 : Below w.heap.size w W0) (hb : Below W0.heap.size W0 u) :
    MidP w v ok (.pointer (some ⟨u.heap.size, 0, none⟩)) (.bool ok) (u.alloc (.cells #[.int .i64 v.1, .int .i64 v.2] 30)) := by
  have hlt := h0.lt
  have hs := hb.size
  have hs2 := hw0.size
  have hw : Below w.heap.size w u := hw0.trans (hb.mono hs2)
  exact ⟨_, rfl, rfl, by omega, Held.new _ _ _, (h0.below hb).alloc _, hw.alloc hw.size _⟩
set_option maxHeartbeats 2000000 in
set_option maxRecDepth 100000 in
theorem rcompute_any (n : Int) (w : World) (h : RunAt w B r pv l o f s) (h2 : 2 ≤ f.stk.length) (hlen : f.stk.length ≤ 1000) (hpc : 0 ≤ f.pc ∧ f.pc < 9223372036854775807) (hB : B ≤ w.heap.size) :
    Calls Tryz.prog 115 #[.pointer (some ⟨r, 0, none⟩), .int .i64 n] w fun e w' => e = .returned (aks (compF f n).2.1.kd (compF f n).2.2) ∧ ∃ s', Aft B r pv l o s w (compF f n).1 s' w' := by
  have CB := fun W => Lib.hid (rcombine_any n (lowF f) (topF f) W)
  have TK := fun W (hb : Below w.heap.size w W) => Lib.hid (rtake_int (n := 2) 2 rfl W (h.below hb) h2 hlen (Nat.le_trans hB hb.size))
  obtain ⟨⟨As, cs, rfl, hv⟩, _, _⟩ := h.slices
  obtain ⟨b, off, rfl, hlt, hc⟩ := hv (by omega)
  obtain ⟨d, e, he, hd⟩ : ∃ d e, e = d + 1 ∧ f.stk.length = d + 2 := ⟨f.stk.length - 2, _, rfl, by omega⟩
  have gd : ∀ (i m : Nat) (hi : i < f.stk.length), m = i → f.stk[i] = f.stk.getD m (0, 0) := fun i m hi hm => by
    subst hm
    rw [List.getD_eq_getElem?_getD, List.getElem?_eq_getElem hi]; rfl
  obtain ⟨a0, a1⟩ := hc d (by omega)
  obtain ⟨b0, b1⟩ := hc e (by omega)
  have el : f.stk[d] = lowF f := gd d _ (by omega) (by omega)
  have et : f.stk[e] = topF f := gd e _ (by omega) (by omega)
  rw [el] at a0 a1
  rw [et] at b0 b1
  have hpl : (popF f 2).stk.length ≤ 1000 := by unfold popF; simp only [List.length_take]; omega
  have PU := fun s1 W (hr : RunAt W B r pv l o (popF f 2) s1) (hB : B ≤ W.heap.size) W' (hb : Below W.heap.size W W') (y z : Int) (A : Option Addr) (C : Nat) (hv : VAt W' C A [(y, z)]) => Lib.hid (rpush_any 1 1 W' (hr.below hb) hv rfl (by omega) (by omega) (Nat.le_trans hB hb.size))
  have GT := fun v s1 W (hr : RunAt W B r pv l o (pushF (popF f 2) [v]) s1) => Lib.hid (rgoto_any (f.pc + 1) W hr)
  unfold compF
  generalize lowF f = lv at *
  generalize topF f = tv at *
  generalize combF n lv tv = R at *
  obtain ⟨v, ok⟩ := R
  have r2 := h.cells 2
  have r1 := h.cells 1
  have hrl := h.rlt
  have n0 := Nat.ne_of_lt hrl
  have n1 := Nat.ne_of_lt hlt
  simp at r2 r1
  have H := Lib.hid h
  have HB := Lib.hid hB
  have hd3 : (f.stk.length : Int) - 1 = (e : Int) := by omega
  have hd4 : (e : Int) - 1 = (d : Int) := by omega
  have hd5 : (e : Int) < f.stk.length := by omega
  have hd6 : (d : Int) < f.stk.length := by omega
  have hd7 : (f.stk.length : Int) ≤ 1000 := by omega
  have hd8 : (d : Int) ≤ 1000 := by omega
  have hd9 : (e : Int) ≤ 1000 := by omega
  have hd10 : IntKind.i64.wrap (d : Int) = (d : Int) := by simp [IntKind.wrap, IntKind.bits, IntKind.signed]; omega
  have hd11 : IntKind.i64.wrap (e : Int) = (e : Int) := by simp [IntKind.wrap, IntKind.bits, IntKind.signed]; omega

  clear h hB hlen hc hpl hv el et h2 hd he gd
  go_enter Tryz.func115, Tryz.ntmps115
  go_upto_region 2 with (fail)
  go_cut [7, 8] (fun v7 v8 wx => MidP w v ok v7 v8 wx)
  case first =>
    have hS : CpS (w.alloc (.cells az0 77)) r b off d e (.slice (some ⟨b, off, none⟩) f.stk.length cs) lv tv (w.alloc (.cells az0 77)) := ⟨Below.refl _ _, (Below.cell ((Below.refl w.heap.size w).alloc (Nat.le_refl _) _) (p := ⟨r, 2, none⟩) hrl).trans r2, (Below.cell ((Below.refl w.heap.size w).alloc (Nat.le_refl _) _) (p := ⟨b, off + d * 2, none⟩) hlt).trans a0, (Below.cell ((Below.refl w.heap.size w).alloc (Nat.le_refl _) _) (p := ⟨b, off + d * 2 + 1, none⟩) hlt).trans a1,
      (Below.cell ((Below.refl w.heap.size w).alloc (Nat.le_refl _) _) (p := ⟨b, off + e * 2, none⟩) hlt).trans b0, (Below.cell ((Below.refl w.heap.size w).alloc (Nat.le_refl _) _) (p := ⟨b, off + e * 2 + 1, none⟩) hlt).trans b1⟩
    have h0 := Held.new w 77 az0
    have hw0 : Below w.heap.size w (w.alloc (.cells az0 77)) := (Below.refl w.heap.size w).alloc (Nat.le_refl _) _
    generalize w.alloc (.cells az0 77) = W0 at *
    have HS := Lib.hid hS
    clear hS a0 a1 b0 b1 r2
    go_region_held3 (fun W => Below W0.heap.size W0 W ∧ W.cell? ⟨r, 2, none⟩ = some (.slice (some ⟨b, off, none⟩) f.stk.length cs) ∧ W.cell? ⟨b, off + d * 2, none⟩ = some (.int .i64 lv.1) ∧ W.cell? ⟨b, off + d * 2 + 1, none⟩ = some (.int .i64 lv.2) ∧ W.cell? ⟨b, off + e * 2, none⟩ = some (.int .i64 tv.1) ∧ W.cell? ⟨b, off + e * 2 + 1, none⟩ = some (.int .i64 tv.2))
      (first
        | exact HS.out.keep (Below.refl _ _).drew
        | exact HS.out.keep ((Below.refl _ _).alloc (Nat.le_refl _) _).drew
        | exact hq
        | exact HS.out.keep (set2b (Nat.le_refl _) (And.left (by assumption)))
        | exact HS.out.keep (set2b (Below.size (And.left (by assumption))) (And.left (by assumption)))
        | exact HS.out.keep (Below.step (And.left (by assumption)) (by assumption))
        | exact HS.out.keep (Below.drew (And.left (by assumption)))
        | exact HS.out.keep (Below.alloc (And.left (by assumption)) (Below.size (And.left (by assumption))) _)
        | go_keep)
      (first
        | (go_at_call 123; (with_reducible refine (CB _).out.mono ?_); rintro _ u ⟨rfl, hb⟩; (first | have hq := HS.out.keep (Below.step (Below.refl _ _).drew hb) | have hq := HS.out.keep (Below.step (And.left (by assumption)) hb) | have hq := HS.out.keep (Below.step ((Below.refl _ _).alloc (Nat.le_refl _) _).drew hb) | have hq := HS.out.keep (Below.step (Below.alloc (And.left (by assumption)) (Below.size (And.left (by assumption))) _) hb)); (try (first | have hz := (Held.new _ 30 #[.int .i64 0, .int .i64 0]).below hb | have hz := (held_drew (Held.new _ 30 #[.int .i64 0, .int .i64 0])).below hb); (have y0 := hz.cell 0; have y1 := hz.cell 1; have x0 := hz.fz 0; have x1 := hz.fz 1; simp at y0 y1))))
    all_goals go_wp2_with fail
    all_goals go_meet
    all_goals case rel => first | exact midp_c h0 hw0 hq.1 hz (Nat.le_refl _) | exact midp_c h0 hw0 hq.1 hz (Below.size (And.left (by assumption))) | exact midp_b h0 hw0 hq.1
  case rest =>
    obtain ⟨g, rfl, rfl, hgw, hv, hr, hbw⟩ := hcut
    clear a0 a1 b0 b1 CB r2 hd3 hd4 hd5 hd6 hd8 hd9 hd10 hd11 n0 n1
    have v0 := hv.cell 0
    have v1 := hv.cell 1
    obtain ⟨q0, q1, q2, q3, q4, z0, z1, z2, z3, z4⟩ := five hr
    have hgl := hv.lt
    simp at v0 v1
    have A0 := Lib.hid ((Aft.refl H.out).below hbw)
    have OFF := Lib.hid (H.out.off (Nat.le_refl w.heap.size))
    cases ok
    · go_wp2_with fail
      have hr5 := set5 hr (.int .i64 0) (.int .i64 0) (.int .i64 0) (.int .i64 0) (.slice none 0 0)
      have A5 := A0.out.far5 OFF.out (Nat.le_refl _) (.int .i64 0) (.int .i64 0) (.int .i64 0) (.int .i64 0) (.slice none 0 0)
      generalize (World.setCell _ ⟨w.heap.size, 4, none⟩ _) = W5 at *
      obtain ⟨d0, d1, d2, d3, d4, _⟩ := five hr5
      exact bodyPost_ret (v := aks 0 1) (by simp [results, Tryz.results115, go_sem, d0, d1, d2, d3, d4]) rfl ⟨rfl, _, A5⟩
    · have HBu := Nat.le_trans HB.out hbw.size
      have TK2 := TK wc hbw
      clear TK
      go_wp2_with (first
        | (go_at_call 120; ((with_reducible refine TK2.out.mono ?_); rintro _ u2 ⟨A2, c2, s2, rfl, _, ha2⟩; have hv2 := ha2.held hv ⟨fun e => by omega, fun e => by have := (H.out.lts (.inr (.inl e))).2; omega, fun e => by have := (H.out.lts (.inr (.inr (.inl e)))).2; omega, fun e => by have := (H.out.lts (.inr (.inr (.inr e)))).2; omega⟩; have v0 := hv2.cell 0; have v1 := hv2.cell 1; simp at v0 v1; have A2' := A0.out.trans ha2; have HB2 := Nat.le_trans HBu ha2.kp.size))
        | (go_at_call 122; (((with_reducible refine (PU _ _ A2'.run HB2 _ ((Below.refl _ _).alloc (Nat.le_refl _) _) _ _ _ _ (vat_one_e _ _ _ _ ?_)).out.mono ?_); (focus (rfl))); rintro _ u3 ⟨rfl, s3, ha3⟩; have A3 := (A2'.alloc _).trans ha3; have r1 := A3.run.cells 1; simp [pushF, popF] at r1))
        | (go_at_call 116; ((with_reducible refine (GT _ _ _ A3.run).out.mono ?_); rintro _ u4 ⟨rfl, ha4⟩; have A4 := A3.trans ha4; have o2 := ha2.off OFF.out hr.lt; have h2r := (ha2.held hr OFF.out).alloc (.cells #[.int .i64 v.1, .int .i64 v.2] 30); have o3 := ha3.off o2 h2r.lt; have h3r := ha3.held h2r o2; have hof := ha4.off o3 h3r.lt; have hr4 := ha4.held h3r o3; obtain ⟨q0, q1, q2, q3, q4, z0, z1, z2, z3, z4⟩ := five hr4)))
      have hr5 := set5 hr4 (.int .i64 1) (.int .i64 0) (.int .i64 0) (.int .i64 0) (.slice none 0 0)
      have A5 := A4.far5 hof (Nat.le_refl _) (.int .i64 1) (.int .i64 0) (.int .i64 0) (.int .i64 0) (.slice none 0 0)
      generalize (World.setCell _ ⟨w.heap.size, 4, none⟩ _) = W5 at *
      obtain ⟨d0, d1, d2, d3, d4, _⟩ := five hr5
      exact bodyPost_ret (v := aks 1 0) (by simp [results, Tryz.results115, go_sem, d0, d1, d2, d3, d4]) rfl ⟨rfl, _, A5⟩
end
end Go.Proofs.YtoeinpiekfmbgaaGreatDoor

