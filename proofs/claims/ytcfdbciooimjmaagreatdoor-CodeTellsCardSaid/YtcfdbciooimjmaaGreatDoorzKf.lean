/- Layer 7's code: the decoder's function. -/
import Derived.Test.YtcfdbciooimjmaaGreatDoorzKi
import Derived.Test.YtcfdbciooimjmaaGreatDoorzGh
import Derived.Deep.RegionLaw
import Derived.Deep.AppendLies
namespace Go.Proofs.YtcfdbciooimjmaaGreatDoor
set_option linter.unusedVariables false
set_option linter.unusedSimpArgs false
open Go.RowKit Go.ChangeShapes Go.WideShapes Go.ChangeAt Go.Sort

/-- What lies ready while a function is read: the decoder, the function, its code, its result's block. -/
structure Fb (w0 w : World) (g : Nat) (s : ByteArray) (R F : Nat) (i e : Int) (a l m : Int) (v : Value) (c : List Ins) (u : World) : Prop where
  d : Dc u g s i e
  f : Held u F 39 #[.int .i64 a, .int .i64 l, .int .i64 m, v]
  rr : Held u R 39 #[.int .i64 0, .int .i64 0, .int .i64 0, .slice none 0 0]
  own : OwnC u (F + 1) v c
  lo : Below w0.heap.size w0 u
  gr : w.grownBy u (some g)
  ng : w0.heap.size ≤ g
  gw : g < w.heap.size
  wr : w.heap.size ≤ R
  rf : R < F
theorem Fb.below {w0 w : World} {g : Nat} {s : ByteArray} {R F : Nat} {i e a l m : Int} {v : Value} {c : List Ins} {u u' : World} (h : Fb w0 w g s R F i e a l m v c u) (hb : Below u.heap.size u u') : Fb w0 w g s R F i e a l m v c u' :=
  ⟨h.d.below hb, h.f.below hb, h.rr.below hb, h.own.below hb, h.lo.trans (hb.mono h.lo.size), grown_trans h.gr (grown_of_below hb _), h.ng, h.gw, h.wr, h.rf⟩
theorem Fb.dec {w0 w : World} {g : Nat} {s : ByteArray} {R F : Nat} {i e a l m : Int} {v : Value} {c : List Ins} {u u' : World} (h : Fb w0 w g s R F i e a l m v c u) {i' e' : Int} (hd : Dc u' g s i' e') (hg : u.grownBy u' (some g)) : Fb w0 w g s R F i' e' a l m v c u' := by
  have h1 := h.gw
  have h2 := h.wr
  have h3 := h.rf
  refine ⟨hd, held_far h.f hg (by omega), held_far h.rr hg (by omega), h.own.grown hg fun b hb he => ?_, below_grown h.lo hg h.ng, grown_trans h.gr hg, h.ng, h.gw, h.wr, h.rf⟩
  have := (h.own.lt b hb).1
  cases he
  omega
theorem held_row {w w' : World} {g : Nat} {t : TypeId} {cs : Array Value} {row : Option Nat} (h : Held w g t cs) (hg : w.grownBy w' row) (hr : row ≠ some g) : Held w' g t cs := (hg.block g h.lt (Ne.symm hr)).trans h
/-- One instruction more. -/
theorem Fb.push {w0 w : World} {g : Nat} {s : ByteArray} {R F : Nat} {i e a l m : Int} {v v' : Value} {c c' : List Ins} {u u' : World} (h : Fb w0 w g s R F i e a l m v c u) (ho : OwnC u' (F + 1) v' c') (hg : u.grownBy u' v.ownBlock) :
    u'.cell? ⟨F, 3, none⟩ = some v ∧ u'.frozen? ⟨F, 3, none⟩ = false ∧ F < u'.heap.size ∧ Fb w0 w g s R F i e a l m v' c' (u'.setCell ⟨F, 3, none⟩ v') := by
  have h1 := h.gw
  have h2 := h.wr
  have h3 := h.rf
  have h4 := h.ng
  have far : ∀ k, k ≤ F → v.ownBlock ≠ some k := fun k hk he => by
    have := (h.own.lt k he).1
    omega
  have hf := held_row h.f hg (far F (by omega))
  refine ⟨hf.cell 3, hf.fz 3, hf.lt, (held_row h.d hg (far g (by omega))).far (by omega) _ _, hf.set_at 3 v', (held_row h.rr hg (far R (by omega))).far (by omega) _ _, ?_, ?_, grown_far ⟨hg.os.trans h.gr.os, hg.tape.trans h.gr.tape, hg.output.trans h.gr.output, Nat.le_trans h.gr.size hg.size, fun k hk hn => ?_⟩ (by omega) _ _, h.ng, h.gw, h.wr, h.rf⟩
  · refine ho.grown (grown_set1 u' F 3 v') fun b hb he => ?_
    have := (ho.lt b hb).1
    cases he
    omega
  · exact (h.lo.grown hg h.lo.size (fun b hb => by have := (h.own.lt b hb).1; omega)).setCell (by show w0.heap.size ≤ F; omega) _
  · have hk2 : k < u.heap.size := Nat.lt_of_lt_of_le hk h.gr.size
    exact (hg.block k hk2 (Ne.symm (far k (by omega)))).trans (h.gr.block k hk hn)
theorem Fb.cells {w0 w : World} {g : Nat} {s : ByteArray} {R F : Nat} {i e a l m : Int} {v : Value} {c : List Ins} {u : World} (h : Fb w0 w g s R F i e a l m v c u) :
    u.cell? ⟨F, 0, none⟩ = some (.int .i64 a) ∧ u.cell? ⟨F, 1, none⟩ = some (.int .i64 l) ∧ u.cell? ⟨F, 2, none⟩ = some (.int .i64 m) ∧ u.cell? ⟨F, 3, none⟩ = some v ∧ F < u.heap.size :=
  ⟨h.f.cell 0, h.f.cell 1, h.f.cell 2, h.f.cell 3, h.f.lt⟩
theorem Fb.res {w0 w : World} {g : Nat} {s : ByteArray} {R F : Nat} {i e a l m : Int} {v : Value} {c : List Ins} {u : World} (h : Fb w0 w g s R F i e a l m v c u) :
    u.cell? ⟨R, 0, none⟩ = some (.int .i64 0) ∧ u.cell? ⟨R, 1, none⟩ = some (.int .i64 0) ∧ u.cell? ⟨R, 2, none⟩ = some (.int .i64 0) ∧ u.cell? ⟨R, 3, none⟩ = some (.slice none 0 0) ∧ u.frozen? ⟨R, 0, none⟩ = false ∧ u.frozen? ⟨R, 1, none⟩ = false ∧ u.frozen? ⟨R, 2, none⟩ = false ∧ u.frozen? ⟨R, 3, none⟩ = false ∧ R < u.heap.size :=
  ⟨h.rr.cell 0, h.rr.cell 1, h.rr.cell 2, h.rr.cell 3, h.rr.fz 0, h.rr.fz 1, h.rr.fz 2, h.rr.fz 3, h.rr.lt⟩
theorem own_far {u : World} {B : Nat} {v : Value} {c : List Ins} (h : OwnC u B v c) {r : Nat} (hr : r < B) (i : Nat) (x : Value) : OwnC (u.setCell ⟨r, i, none⟩ x) B v c :=
  h.grown (grown_set1 u r i x) fun b hb he => by
    have := (h.lt b hb).1
    cases he
    omega
/-- The result is laid. -/
theorem Fb.fin {w0 w : World} {g : Nat} {s : ByteArray} {R F : Nat} {i e a l m : Int} {v : Value} {c : List Ins} {u : World} (h : Fb w0 w g s R F i e a l m v c u) (x y z t : Value) :
    Held ((((u.setCell ⟨R, 0, none⟩ x).setCell ⟨R, 1, none⟩ y).setCell ⟨R, 2, none⟩ z).setCell ⟨R, 3, none⟩ t) R 39 #[x, y, z, t] ∧ Dc ((((u.setCell ⟨R, 0, none⟩ x).setCell ⟨R, 1, none⟩ y).setCell ⟨R, 2, none⟩ z).setCell ⟨R, 3, none⟩ t) g s i e ∧
    w.grownBy ((((u.setCell ⟨R, 0, none⟩ x).setCell ⟨R, 1, none⟩ y).setCell ⟨R, 2, none⟩ z).setCell ⟨R, 3, none⟩ t) (some g) ∧ OwnC ((((u.setCell ⟨R, 0, none⟩ x).setCell ⟨R, 1, none⟩ y).setCell ⟨R, 2, none⟩ z).setCell ⟨R, 3, none⟩ t) w.heap.size v c := by
  have h1 := h.gw
  have h2 := h.wr
  have h3 := h.rf
  exact ⟨(((h.rr.set_at 0 x).set_at 1 y).set_at 2 z).set_at 3 t, (((h.d.far (by omega) _ _).far (by omega) _ _).far (by omega) _ _).far (by omega) _ _, grown_far (grown_far (grown_far (grown_far h.gr h2 _ _) h2 _ _) h2 _ _) h2 _ _,
    (own_far (own_far (own_far (own_far h.own (by omega) _ _) (by omega) _ _) (by omega) _ _) (by omega) _ _).mono (by omega)⟩

/-- One instruction more, at a step of a region that draws its order. -/
theorem step_append_ins {w : World} {ops : Array Oper} {o : Oper} {a : Act} {K : Act → World → Prop} {Q : Exit → Act → World → Prop} {E : Prop} (hg : o.guard = none) (s x : Operand)
    (hop : o.op = Op.call { callee := Callee.builtin Builtin.append, args := #[s, x], argTypes := #[37, 37] })
    (B : Nat) (w0 : World) (v : Value) (l : List Ins) (i : Ins) (hw : w = w0.alloc (.cells #[.int .i64 i.1, .int .i64 i.2.1, .int .i64 i.2.2] 64)) (hs : a.eval s = v) (own : OwnC w0 B v l)
    (hx : a.eval x = .slice (some ⟨w0.heap.size, 0, none⟩) 1 1) (hlen : l.length ≤ 1000000) (hB : B ≤ w0.heap.size)
    (h : ∀ A c w', OwnC w' B (.slice A (l.length + 1) c) (l ++ [i]) → w0.grownBy w' v.ownBlock → K (a.put o.dst (.slice A (l.length + 1) c)) w') :
    if Region.wanted o (yielded ops a.tmps) = true then Oper.wp Tryz.prog o a w K Q else E := by
  subst hw
  obtain ⟨q, hi, hz0, hz1, hz2⟩ := info_parts infoIn
  have own' : (w0.alloc (.cells #[.int .i64 i.1, .int .i64 i.2.1, .int .i64 i.2.2] 64)).ownsRow B 64 3 v l.length (flatI l) := own.alloc _
  refine step_append_lies (P := Tryz.prog) (Q := Q) _ hg s x 37 hop B 64 q (.agg #[.int .i64 0, .int .i64 0, .int .i64 0]) 3 24 Tryz.underlying37 hi hz0 hz1 hz2 rfl (by decide) v l.length (flatI l) hs own' ⟨w0.heap.size, 0, none⟩ 1 1
    [.int .i64 i.1, .int .i64 i.2.1, .int .i64 i.2.2] hx rfl (World.news_of_block (heap_alloc_last w0 _)) ?_ (by decide) (by unfold maxLen; omega) (by omega) (by simp; omega) _ rfl ?_
  · intro u hu
    simp at hu
    rcases hu with rfl | rfl | rfl <;> rfl
  · intro g cap w' h1 h2 h3 h4
    refine h _ _ w' ?_ ⟨h2.os, h2.tape, h2.output, Nat.le_trans (by simp) h2.size, fun k hk hne => (h2.block k (by simp; omega) hne).trans (Below.heap_alloc w0 _ k hk)⟩
    unfold OwnC
    rw [flatI_snoc, List.length_append]
    exact h1

set_option maxHeartbeats 4000000 in
set_option maxRecDepth 100000 in
theorem dfun_any {g : Nat} {s : ByteArray} {i er : Int} (w0 : World) (hT : TT w0) (h0 : w0.heap.size ≤ g) (w : World) (hw : Below w0.heap.size w0 w) (h : Dc w g s i er) (hs : s.size ≤ 1000000) (hv : Vl s.data.toList i er) :
    Calls Tryz.prog 62 #[.pointer (some ⟨g, 0, none⟩)] w fun x w' => ∃ v, x = .returned (.agg #[.int .i64 (funS s.data.toList i er).1.ar, .int .i64 (funS s.data.toList i er).1.lo, .int .i64 (funS s.data.toList i er).1.sl, v]) ∧
      OwnC w' w.heap.size v (funS s.data.toList i er).1.code ∧ Dc w' g s (funS s.data.toList i er).2.1 (funS s.data.toList i er).2.2 ∧ w.grownBy w' (some g) := by
  unfold funS
  have N1 := fun W h => Lib.hid (dnum_any 0 16 (g := g) (s := s) (i := i) (er := er) W h hs hv)
  have v1 := (sim_num 0 16).2.1 _ _ _ hv
  generalize nmS 0 16 s.data.toList i er = x1 at *
  obtain ⟨a, i1, e1⟩ := x1
  simp only at *
  have N2 := fun W h => Lib.hid (dnum_any 0 16 (g := g) (s := s) (i := i1) (er := e1) W h hs v1)
  have v2 := (sim_num 0 16).2.1 _ _ _ v1
  generalize nmS 0 16 s.data.toList i1 e1 = x2 at *
  obtain ⟨l, i2, e2⟩ := x2
  simp only at *
  have N3 := fun W h => Lib.hid (dnum_any 0 8 (g := g) (s := s) (i := i2) (er := e2) W h hs v2)
  have v3 := (sim_num 0 8).2.1 _ _ _ v2
  generalize nmS 0 8 s.data.toList i2 e2 = x3 at *
  obtain ⟨m, i3, e3⟩ := x3
  simp only at *
  have N4 := fun W h => Lib.hid (dnum_any 1 200 (g := g) (s := s) (i := i3) (er := e3) W h hs v3)
  have v4 := (sim_num 1 200).2.1 _ _ _ v3
  have hn := nmS_bd (a := 1) (b := 200) (by omega) (by omega) s.data.toList i3 e3
  generalize nmS 1 200 s.data.toList i3 e3 = x4 at *
  obtain ⟨nn, i4, e4⟩ := x4
  simp only at *
  obtain ⟨n, rfl⟩ := Int.eq_ofNat_of_zero_le hn.1
  rw [Int.toNat_natCast]
  have hn2 : n ≤ 200 := by omega
  have hV := fun k => (sim_many sim_ins k).2.1 _ _ _ v4
  have HV := Lib.hid hV
  have HL := Lib.hid (fun k => itS_len insS s.data.toList i4 e4 k)
  have hF0 : ∀ u1, Dc u1 g s i3 e3 → (w.alloc (.cells #[.int .i64 0, .int .i64 0, .int .i64 0, .slice none 0 0] 39)).grownBy u1 (some g) → Fb w0 w g s w.heap.size u1.heap.size i3 e3 a l m (.slice none 0 0) [] (u1.alloc (.cells #[.int .i64 a, .int .i64 l, .int .i64 m, .slice none 0 0] 39)) := fun u1 hd hg => by
    have hz := hg.size
    simp at hz
    have hw1 := hw.alloc hw.size (.cells #[.int .i64 0, .int .i64 0, .int .i64 0, .slice none 0 0] 39)
    exact ⟨hd.alloc _, Held.new _ _ _, (held_far (Held.new w 39 #[.int .i64 0, .int .i64 0, .int .i64 0, .slice none 0 0]) hg (by have := h.lt; omega)).alloc _, OwnC.nil _ _, (below_grown hw1 hg h0).alloc (Nat.le_trans hw1.size hg.size) _,
      grown_trans (grown_trans (grown_of_below ((Below.refl w.heap.size w).alloc (Nat.le_refl _) _) _) hg) (grown_of_below ((Below.refl u1.heap.size u1).alloc (Nat.le_refl _) _) _), h0, h.lt, Nat.le_refl _, by omega⟩
  have HF0 := Lib.hid hF0
  have HH := Lib.hid (dc_alloc h (.cells #[.int .i64 0, .int .i64 0, .int .i64 0, .slice none 0 0] 39))
  have HT := Lib.hid hT
  clear v1 v2 v3 v4 hV hF0 h hT hv hw hn
  go_enter Tryz.func62, Tryz.ntmps62
  go_wp2_with (first
    | (go_at_call 61; (with_reducible refine (N1 _ HH.out).out.mono ?_); rintro x u1 ⟨rfl, hd1, hg1⟩)
    | (go_at_call 61; (with_reducible refine (N2 _ hd1).out.mono ?_); rintro x u2 ⟨rfl, hd2, hg2⟩; replace hg2 := grown_trans hg1 hg2)
    | (go_at_call 61; (with_reducible refine (N3 _ hd2).out.mono ?_); rintro x u3 ⟨rfl, hd3, hg3⟩; replace hg3 := grown_trans hg2 hg3; have FB := Lib.hid (HF0.out u3 hd3 hg3); clear hd1 hg1 hd2 hg2 hd3 hg3)
    | (go_at_call 61; (with_reducible refine (N4 _ FB.out.d).out.mono ?_); rintro x u4 ⟨rfl, hd4, hg4⟩; replace FB := Lib.hid (FB.out.dec hd4 hg4); clear hd4 hg4))
  go_loopw [13] (fun j W => ∃ k v, k ≤ n ∧ j = .int .i64 ((k : Nat) : Int) ∧ Fb w0 w g s w.heap.size u3.heap.size (itS insS s.data.toList i4 e4 k).2.1 (itS insS s.data.toList i4 e4 k).2.2 a l m v (itS insS s.data.toList i4 e4 k).1 W) (fun j _ => n - (intOf j).toNat)
  case atStart => exact ⟨0, .slice none 0 0, by omega, rfl, FB.out⟩
  case round =>
    clear FB
    obtain ⟨k, v, hk, rfl, FB⟩ := hrel
    have hlk := HL.out k
    by_cases hlt : k < n
    · have hvk := HV.out k
      have hst : itS insS s.data.toList i4 e4 (k + 1) = ((itS insS s.data.toList i4 e4 k).1 ++ [(insS s.data.toList (itS insS s.data.toList i4 e4 k).2.1 (itS insS s.data.toList i4 e4 k).2.2).1], (insS s.data.toList (itS insS s.data.toList i4 e4 k).2.1 (itS insS s.data.toList i4 e4 k).2.2).2) := rfl
      have HST := Lib.hid hst
      clear hst
      obtain ⟨c, j, ej, hq⟩ : ∃ c j ej, itS insS s.data.toList i4 e4 k = (c, j, ej) := ⟨_, _, _, rfl⟩
      rw [hq] at FB hvk hlk HST
      have HQ := Lib.hid hq
      clear hq
      simp only at hlk
      subst hlk
      have CI := fun W (h : Fb w0 w g s w.heap.size u3.heap.size j ej a l m v c W) => Lib.hid (dins_any w0 HT.out h.ng W h.lo h.d hs hvk)
      generalize insS s.data.toList j ej = y at *
      obtain ⟨⟨o, xa, xb⟩, j2, e2'⟩ := y
      simp only at *
      obtain ⟨Av, cv, rfl, _⟩ := FB.own.code
      obtain ⟨f0, f1, f2, f3, fl⟩ := FB.cells
      have FB := Lib.hid FB
      go_upto_region 4 with (fail)
      go_region_law (first
        | (go_simp; go_at_call 85; (with_reducible refine (CI _ (FB.out.below (Below.refl _ _).drew)).out.mono ?_); rintro x u ⟨rfl, hd, hg⟩; have FB2 := Lib.hid ((FB.out.below (Below.refl _ _).drew).dec hd hg); obtain ⟨k0, k1, k2, k3, kl⟩ := FB2.out.cells; clear hd hg)
        | ((refine step_append_ins (by rfl) _ _ (by rfl) (u3.heap.size + 1) _ _ c (o, xa, xb) rfl (by rfl) FB2.out.own (by rfl) (by omega) (by omega) ?_; intro A3 c3 w2 hown hgr; obtain ⟨z4, z3, zl, FB3⟩ := FB2.out.push hown hgr; clear hown hgr k0 k1 k2 k3)))
      all_goals
        have FB4 := Lib.hid FB3
        clear FB3
        go_wp2_with fail
        go_roundw
        case rel => exact ⟨c.length + 1, _, by omega, by go_num, by rw [HST.out]; exact FB4.out⟩
        case measure => simp [intOf]; omega
    · obtain rfl : k = n := by omega
      obtain ⟨c, j, ej, hq⟩ : ∃ c j ej, itS insS s.data.toList i4 e4 k = (c, j, ej) := ⟨_, _, _, rfl⟩
      rw [hq] at FB hlk
      have HQ := Lib.hid hq
      clear hq
      simp only at hlk FB
      subst hlk
      obtain ⟨Av, cv, rfl, _⟩ := FB.own.code
      obtain ⟨f0, f1, f2, f3, fl⟩ := FB.cells
      obtain ⟨r0, r1, r2, r3, q0, q1, q2, q3, rl⟩ := FB.res
      obtain ⟨hR, hD, hG, hO⟩ := FB.fin (.int .i64 a) (.int .i64 l) (.int .i64 m) (.slice Av c.length cv)
      clear FB
      have HR := Lib.hid hR
      have HD := Lib.hid hD
      have HG := Lib.hid hG
      have HO := Lib.hid hO
      clear hR hD hG hO
      go_wp2_with fail
      have hR := HR.out
      have hD := HD.out
      have hG := HG.out
      have hO := HO.out
      clear HR HD HG HO
      generalize (((World.setCell _ _ _).setCell _ _).setCell _ _).setCell _ _ = W at hR hD hG hO ⊢
      have z0 := hR.cell 0
      have z1 := hR.cell 1
      have z2 := hR.cell 2
      have z3 := hR.cell 3
      simp at z0 z1 z2 z3
      exact bodyPost_ret (v := .agg #[.int .i64 a, .int .i64 l, .int .i64 m, .slice Av c.length cv]) (by simp [results, Tryz.results62, go_sem, z0, z1, z2, z3]) rfl ⟨_, rfl, by rw [HQ.out]; exact hO, by rw [HQ.out]; exact hD, hG⟩
end Go.Proofs.YtcfdbciooimjmaaGreatDoor

