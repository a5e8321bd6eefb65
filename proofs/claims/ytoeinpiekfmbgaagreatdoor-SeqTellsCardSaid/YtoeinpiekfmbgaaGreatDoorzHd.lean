/- Layer 9's code: the runner pops; what two values make; the instructions that only move values. -/
import Derived.Test.YtoeinpiekfmbgaaGreatDoorzFe
import Derived.Test.YtoeinpiekfmbgaaGreatDoorzHc
import Derived.Test.YtoeinpiekfmbgaaGreatDoorzHa
namespace Go.Proofs.YtoeinpiekfmbgaaGreatDoor
set_option linter.unusedVariables false
set_option linter.unusedSimpArgs false
open Gm Go.RowKit Go.ChangeShapes Go.WideShapes Go.ChangeAt Go.Sort

section
variable {B r : Nat} {pv l o s : Value} {f : Frm}

theorem top_at (h1 : 1 ≤ f.stk.length) : (f.stk.drop (f.stk.length - 1))[0]? = some (topF f) := by
  rw [List.getElem?_drop, Nat.add_zero, List.getElem?_eq_getElem (by omega)]
  unfold topF
  rw [List.getD_eq_getElem?_getD, List.getElem?_eq_getElem (by omega)]
  rfl
set_option maxHeartbeats 1000000 in
set_option maxRecDepth 100000 in
theorem rpop_any (w : World) (h : RunAt w B r pv l o f s) (h1 : 1 ≤ f.stk.length) (hlen : f.stk.length ≤ 1000) (hB : B ≤ w.heap.size) :
    Calls Tryz.prog 112 #[.pointer (some ⟨r, 0, none⟩)] w fun e w' => e = .returned (gv (topF f).1 (topF f).2) ∧ ∃ s', Aft B r pv l o s w (popF f 1) s' w' := by
  have T := fun W (hr : RunAt W B r pv l o f s) (hB : B ≤ W.heap.size) => Lib.hid (rtake_int (n := 1) 1 rfl W hr h1 hlen hB)
  have HT := Lib.hid (top_at h1)
  have H := Lib.hid h
  have HB := Lib.hid hB
  have HL := Lib.hid h1
  clear h hB hlen h1
  generalize topF f = tv at *
  go_enter Tryz.func112, Tryz.ntmps112
  go_wp2_with (go_at_call 120; (with_reducible refine (T _ (H.out.below ((Below.refl _ _).alloc (Nat.le_refl _) _)) (Nat.le_trans HB.out (by simp))).out.mono ?_); rintro _ u ⟨A, c, s', rfl, hv, ha⟩; obtain ⟨b, off, rfl, hlt, hc⟩ := hv (by rw [List.length_drop]; have := HL.out; omega); obtain ⟨c0, c1⟩ := hc 0 (by rw [List.length_drop]; have := HL.out; omega); have e0 := HT.out; rw [List.getElem?_eq_getElem (by rw [List.length_drop]; have := HL.out; omega)] at e0; rw [Option.some.inj e0] at c0 c1; have hof := ha.off ⟨(H.out.off (Nat.le_refl _)).r, (H.out.off (Nat.le_refl _)).s, (H.out.off (Nat.le_refl _)).l, (H.out.off (Nat.le_refl _)).o⟩ (show w.heap.size < _ by simp); have hq := ha.held (Held.new w _ _) (H.out.off (Nat.le_refl _)); have q0 := hq.cell 0; have q1 := hq.cell 1; have z0 := hq.fz 0; have z1 := hq.fz 1; have ha2 := Aft.pre ((Below.refl _ _).alloc (Nat.le_refl _) _) ha; simp at q0 q1 c0 c1; clear hc hv e0 hq)
  obtain ⟨d0, d1⟩ := set2c (x := .int .i64 tv.1) (y := .int .i64 tv.2) q0 q1
  exact bodyPost_ret (v := gv tv.1 tv.2) (by simp [results, Tryz.results112, go_sem, d0, d1]) rfl ⟨rfl, s', (ha2.far hof (Nat.le_refl _) 0 _).far hof (Nat.le_refl _) 1 _⟩

set_option maxHeartbeats 1000000 in
set_option maxRecDepth 100000 in
theorem rcombine_any (n : Int) (a b : V) (w : World) :
    Calls Tryz.prog 123 #[.int .i64 n, gv a.1 a.2, gv b.1 b.2] w fun e w' => e = .returned (.tuple #[gv (combF n a b).1.1 (combF n a b).1.2, .bool (combF n a b).2]) ∧ Below w.heap.size w w' := by
  have C1 := fun W => Lib.hid (add_any a.1 a.2 b.1 b.2 W)
  have C2 := fun W => Lib.hid (sub_any a.1 a.2 b.1 b.2 W)
  have C3 := fun W => Lib.hid (mul_any a.1 a.2 b.1 b.2 W)
  have C4 := fun W => Lib.hid (div_any a.1 a.2 b.1 b.2 W)
  change ∀ W, Hid (Calls Tryz.prog 128 #[gv a.1 a.2, gv b.1 b.2] W fun e w' => e = .returned (gv (gAdd a b).1 (gAdd a b).2) ∧ Below W.heap.size W w') at C1
  change ∀ W, Hid (Calls Tryz.prog 129 #[gv a.1 a.2, gv b.1 b.2] W fun e w' => e = .returned (gv (gSub a b).1 (gSub a b).2) ∧ Below W.heap.size W w') at C2
  change ∀ W, Hid (Calls Tryz.prog 130 #[gv a.1 a.2, gv b.1 b.2] W fun e w' => e = .returned (gv (gMul a b).1 (gMul a b).2) ∧ Below W.heap.size W w') at C3
  change ∀ W, Hid (Calls Tryz.prog 131 #[gv a.1 a.2, gv b.1 b.2] W fun e w' => e = .returned (.tuple #[gv (gQuo a b).1 (gQuo a b).2, .bool (decide (gNorm b ≠ 0))]) ∧ Below W.heap.size W w') at C4
  unfold combF
  generalize gAdd a b = x1 at *
  generalize gSub a b = x2 at *
  generalize gMul a b = x3 at *
  generalize gQuo a b = x4 at *
  generalize decide (gNorm b ≠ 0) = d4 at *
  by_cases h3 : n = 3
  · rw [if_pos h3]
    subst h3
    clear C2 C3 C4
    go_enter Tryz.func123, Tryz.ntmps123
    go_wp2_with (go_at_call 128; (with_reducible refine (C1 _).out.mono ?_); rintro _ u ⟨rfl, hb⟩; have hq := ((Held.new2 w _ _ 30 #[.int .i64 0, .int .i64 0])).below hb; have q0 := hq.cell 0; have q1 := hq.cell 1; have z0 := hq.fz 0; have z1 := hq.fz 1; have hbw := Below.step (below3 w _ _ _) hb; simp at q0 q1)
    obtain ⟨d0, d1⟩ := set2c (x := .int .i64 x1.1) (y := .int .i64 x1.2) q0 q1
    exact bodyPost_ret (v := .tuple #[gv x1.1 x1.2, .bool true]) (by simp [results, Tryz.results123, go_sem, d0, d1]) rfl ⟨rfl, set2b (by omega) hbw⟩
  rw [if_neg h3]
  have e3 : (n == 3) = false := by simpa using h3
  by_cases h4 : n = 4
  · rw [if_pos h4]
    subst h4
    clear C1 C3 C4
    go_enter Tryz.func123, Tryz.ntmps123
    go_wp2_with (go_at_call 129; (with_reducible refine (C2 _).out.mono ?_); rintro _ u ⟨rfl, hb⟩; have hq := ((Held.new2 w _ _ 30 #[.int .i64 0, .int .i64 0])).below hb; have q0 := hq.cell 0; have q1 := hq.cell 1; have z0 := hq.fz 0; have z1 := hq.fz 1; have hbw := Below.step (below3 w _ _ _) hb; simp at q0 q1)
    obtain ⟨d0, d1⟩ := set2c (x := .int .i64 x2.1) (y := .int .i64 x2.2) q0 q1
    exact bodyPost_ret (v := .tuple #[gv x2.1 x2.2, .bool true]) (by simp [results, Tryz.results123, go_sem, d0, d1]) rfl ⟨rfl, set2b (by omega) hbw⟩
  rw [if_neg h4]
  have e4 : (n == 4) = false := by simpa using h4
  by_cases h5 : n = 5
  · rw [if_pos h5]
    subst h5
    clear C1 C2 C4
    go_enter Tryz.func123, Tryz.ntmps123
    go_wp2_with (go_at_call 130; (with_reducible refine (C3 _).out.mono ?_); rintro _ u ⟨rfl, hb⟩; have hq := ((Held.new2 w _ _ 30 #[.int .i64 0, .int .i64 0])).below hb; have q0 := hq.cell 0; have q1 := hq.cell 1; have z0 := hq.fz 0; have z1 := hq.fz 1; have hbw := Below.step (below3 w _ _ _) hb; simp at q0 q1)
    obtain ⟨d0, d1⟩ := set2c (x := .int .i64 x3.1) (y := .int .i64 x3.2) q0 q1
    exact bodyPost_ret (v := .tuple #[gv x3.1 x3.2, .bool true]) (by simp [results, Tryz.results123, go_sem, d0, d1]) rfl ⟨rfl, set2b (by omega) hbw⟩
  rw [if_neg h5]
  have e5 : (n == 5) = false := by simpa using h5
  clear C1 C2 C3 h3 h4 h5
  go_enter Tryz.func123, Tryz.ntmps123
  go_wp2_with (go_at_call 131; (with_reducible refine (C4 _).out.mono ?_); rintro _ u ⟨rfl, hb⟩; have hq := ((Held.new2 w _ _ 30 #[.int .i64 0, .int .i64 0])).below hb; have q0 := hq.cell 0; have q1 := hq.cell 1; have z0 := hq.fz 0; have z1 := hq.fz 1; have hbw := Below.step (below3 w _ _ _) hb; simp at q0 q1)
  obtain ⟨d0, d1⟩ := set2c (x := .int .i64 x4.1) (y := .int .i64 x4.2) q0 q1
  exact bodyPost_ret (v := .tuple #[gv x4.1 x4.2, .bool d4]) (by simp [results, Tryz.results123, go_sem, d0, d1]) rfl ⟨rfl, set2b (by omega) hbw⟩
theorem vat_one (W : World) (x y : Int) : VAt (W.alloc (.cells #[.int .i64 x, .int .i64 y] 30)) (W.heap.size + 1) (some ⟨W.heap.size, 0, none⟩) [(x, y)] := fun _ =>
  ⟨W.heap.size, 0, rfl, by omega, fun j hj => by
    obtain rfl : j = 0 := by simpa using hj
    have h := Held.new W 30 #[.int .i64 x, .int .i64 y]
    exact ⟨by simp, by simp⟩⟩
theorem vat_two (W : World) (x y z u : Int) : VAt (W.alloc (.cells #[.int .i64 x, .int .i64 y, .int .i64 z, .int .i64 u] 30)) (W.heap.size + 1) (some ⟨W.heap.size, 0, none⟩) [(x, y), (z, u)] := fun _ =>
  ⟨W.heap.size, 0, rfl, by omega, fun j hj => by
    have h := Held.new W 30 #[.int .i64 x, .int .i64 y, .int .i64 z, .int .i64 u]
    have hj2 : j = 0 ∨ j = 1 := by simp at hj; omega
    rcases hj2 with rfl | rfl
    · exact ⟨by simp, by simp⟩
    · exact ⟨by simp, by simp⟩⟩
theorem move_push (w : World) (x : Int × Int × Int) (h : RunAt w B r pv l o f s) (h0 : x.1 = 0) (hlen : f.stk.length ≤ 1000) (hB : B ≤ w.heap.size) :
    Calls Tryz.prog 118 #[.pointer (some ⟨r, 0, none⟩), iv x.1 x.2.1 x.2.2] w fun e w' => e = .returned (.tuple #[]) ∧ ∃ s', Aft B r pv l o s w (moveF f x) s' w' := by
  have hm : moveF f x = pushF f [(rs x.2.1, rs x.2.2)] := by unfold moveF; rw [if_pos h0]
  rw [hm, h0]
  have GO := fun W => Lib.hid (gof_any x.2.1 x.2.2 W)
  have PU := fun W (hr : RunAt W B r pv l o f s) (hB : B ≤ W.heap.size) (y z : Int) (A : Option Addr) (C : Nat) (hv : VAt W C A [(y, z)]) => Lib.hid (rpush_any 1 1 W hr hv rfl (by omega) (by omega) hB)
  have H := Lib.hid h
  have HB := Lib.hid hB
  generalize rs x.2.1 = y at *
  generalize rs x.2.2 = z at *
  clear h hB hlen h0 hm
  go_enter Tryz.func118, Tryz.ntmps118
  go_wp2_with (first
    | (go_at_call 117; (with_reducible refine (GO _).out.mono ?_); rintro _ u ⟨rfl, hb⟩; have hbw := Below.step ((Below.refl w.heap.size w).alloc (Nat.le_refl _) _) hb)
    | (go_at_call 122; go_loud ((with_reducible refine (PU _ (H.out.below (hbw.alloc hbw.size _)) (Nat.le_trans HB.out (by have := hbw.size; simp; omega)) _ _ _ _ (vat_one _ _ _)).out.mono ?_); rintro _ u2 ⟨rfl, s', ha⟩)))
  go_end0
  exact ⟨rfl, s', Aft.pre (hbw.alloc hbw.size _) ha⟩
end
end Go.Proofs.YtoeinpiekfmbgaaGreatDoor

/- Layer 9's code: the instructions that only move values. -/
namespace Go.Proofs.YtoeinpiekfmbgaaGreatDoor
set_option linter.unusedVariables false
set_option linter.unusedSimpArgs false
open Gm Go.RowKit Go.ChangeShapes Go.WideShapes Go.ChangeAt Go.Sort

section
variable {B r : Nat} {pv l o s : Value} {f : Frm}

theorem vat_one_d (W : World) (x y : Int) (g : Nat) (hg : W.heap.size = g) : VAt (W.alloc (.cells #[.int .i64 x, .int .i64 y] 30)).drew (g + 1) (some ⟨g, 0, none⟩) [(x, y)] := by
  subst hg
  exact vat_one W x y
theorem vat_one_e (W : World) (x y : Int) (g : Nat) (hg : W.heap.size = g) : VAt (W.alloc (.cells #[.int .i64 x, .int .i64 y] 30)) (g + 1) (some ⟨g, 0, none⟩) [(x, y)] := by
  subst hg
  exact vat_one W x y
theorem vat_two_e (W : World) (x y z u : Int) (g : Nat) (hg : W.heap.size = g) : VAt (W.alloc (.cells #[.int .i64 x, .int .i64 y, .int .i64 z, .int .i64 u] 30)) (g + 1) (some ⟨g, 0, none⟩) [(x, y), (z, u)] := by
  subst hg
  exact vat_two W x y z u
theorem has_nat {n : Nat} {i : Int} (h : hasI n i = true) : ∃ k : Nat, i = k ∧ k < n := by
  simp [hasI] at h
  exact ⟨i.toNat, by omega, by omega⟩
set_option maxHeartbeats 1000000 in
set_option maxRecDepth 100000 in
theorem move_load (w : World) (x : Int × Int × Int) (h : RunAt w B r pv l o f s) (h0 : x.1 = 1) (hx : hasI f.loc.length x.2.1 = true) (hlen : f.stk.length ≤ 1000) (hB : B ≤ w.heap.size) :
    Calls Tryz.prog 118 #[.pointer (some ⟨r, 0, none⟩), iv x.1 x.2.1 x.2.2] w fun e w' => e = .returned (.tuple #[]) ∧ ∃ s', Aft B r pv l o s w (moveF f x) s' w' := by
  obtain ⟨k, hk, hkl⟩ := has_nat hx
  have hm : moveF f x = pushF f [f.loc[k]] := by
    unfold moveF
    rw [if_neg (by omega), if_pos h0, hk, Int.toNat_natCast, List.getD_eq_getElem?_getD, List.getElem?_eq_getElem hkl]
    rfl
  rw [hm, h0, hk]
  have PU := fun W (y z : Int) (A : Option Addr) (C : Nat) (hv : VAt W C A [(y, z)]) (hb : Below w.heap.size w W) => Lib.hid (rpush_any 1 1 W (h.below hb) hv rfl (by omega) (by omega) (Nat.le_trans hB hb.size))
  have H := Lib.hid h
  have HB := Lib.hid hB
  obtain ⟨_, ⟨Al, cl, rfl, hl⟩, _⟩ := h.slices
  obtain ⟨b, off, rfl, hlt, hc⟩ := hl (by omega)
  obtain ⟨c0, c1⟩ := hc k hkl
  have r3 := h.cells 3
  have hrl := h.rlt
  have n0 := Nat.ne_of_lt hrl
  have n1 := Nat.ne_of_lt hlt
  simp at r3
  generalize f.loc[k] = v at *
  have HL := Lib.hid hkl
  have hkl2 : (k : Int) < f.loc.length := by omega
  clear h hB hlen h0 hm hx hk hc hl
  go_enter Tryz.func118, Tryz.ntmps118
  go_upto_region 5 with (fail)
  go_region_with (go_at_call 122; go_loud (((with_reducible refine (PU _ _ _ _ _ (vat_one_d _ _ _ _ ?_) ?_).out.mono ?_); (focus (simp)); (focus (go_grown))); rintro _ u2 ⟨rfl, s', ha⟩; have ha2 := Aft.pre (w0 := w) (by go_grown) ha))
  all_goals go_wp2_with fail
  all_goals go_end0
  all_goals exact ⟨rfl, s', ha2⟩
end
end Go.Proofs.YtoeinpiekfmbgaaGreatDoor

