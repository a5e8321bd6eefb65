/- Layer 10: SeqFuel: a program that ends takes no more than its fuel, and ends alike with as much as it takes, and with more; with less it does not. For all programs, arguments, seeds, fuels. -/
import Derived.Test.YtagjddnpaahebaaDoorzSh
import Derived.Test.YtagjddnpaahebaaDoorzSb
namespace Go.Proofs.YtagjddnpaahebaaDoor.seqFuel
set_option linter.unusedVariables false
set_option linter.unusedSimpArgs false
open Gm Go.RowKit Go.ChangeShapes Go.WideShapes Go.ChangeAt Go.Sort

set_option maxHeartbeats 4000000 in
set_option maxRecDepth 100000 in
theorem out {A A2 : Option Addr} {p : List Fun} {args : List V} (c c2 : Nat) (s fuel more : Int) (w : World) (hT : TabB w w.heap.size) (h : ProgAt w w.heap.size A p)
    (hs : (smallP p 300 && decide (args.length ≤ 40)) = false ∨ decide (3000 < fuel) = true ∨ decide (3000 < more) = true) :
    Calls Tryd.prog 3 #[.agg (inpA A p.length c A2 args.length c2 s), .int .i64 fuel, .int .i64 more] w fun e w' => e = .returned (.bool true) ∧ Below w.heap.size w w' := by
  have F10 := fun W (hw : Below w.heap.size w W) => Lib.hid (fixed10 W ((hT.below hw (Nat.le_refl _)).more hw.size))
  have SM := fun W (hw : Below w.heap.size w W) => Lib.hid (small10 (A2 := A2) c args.length c2 s W ((h.below hw (Nat.le_refl _)).more hw.size))
  clear hT h
  generalize (smallP p 300 && decide (args.length ≤ 40)) = b1 at *
  generalize hb2 : decide (3000 < fuel) = b2 at *
  generalize hb3 : decide (3000 < more) = b3 at *
  generalize p.length = pl at *
  generalize args.length = al at *
  have hw0 : Below w.heap.size w (w.alloc (.cells (inpA A pl c A2 al c2 s) 26)) := (Below.refl _ _).alloc (Nat.le_refl _) _
  have hI := Held.new w 26 (inpA A pl c A2 al c2 s)
  cases b1 <;> cases b2 <;> cases b3 <;> simp at hs
  all_goals go_enter Tryd.func3, Tryd.ntmps3
  all_goals go_wp2_with (first
    | (refine wpList_box_arr rfl 26 (.tmp 0) rfl (inpA A pl c A2 al c2 s) rfl ?_)
    | (go_at_call 5; (with_reducible refine (F10 _ hw0).out.mono ?_); rintro _ u ⟨rfl, hb⟩; replace hI := hI.below hb; replace hw0 := Below.step hw0 hb)
    | (guard_target = wpList _ _ _ (Oper.mk _ (Op.load 26 (.tmp 3)) _ _ _ (some _) :: _) _ _; refine wpList_load_rowG 26 (.tmp 3) rfl w.heap.size rfl 26 (inpA A pl c A2 al c2 s) (0, 0) _ hI Tryd.underlying26 rfl (by kernel_rfl) rfl ?_)
    | (go_at_call 6; (with_reducible refine (SM _ hw0).out.mono ?_); rintro _ u ⟨rfl, hb⟩; replace hI := hI.below hb; replace hw0 := Below.step hw0 hb))
  all_goals go_ret
  all_goals exact ⟨rfl, hw0⟩
set_option maxHeartbeats 8000000 in
set_option maxRecDepth 100000 in
theorem good_err {A A2 : Option Addr} {p : List Fun} {args : List V} (c c2 : Nat) (s fuel more : Int) (w : World) (hT : TabB w w.heap.size) (h : ProgAt w w.heap.size A p) (hz : SizedP p) (ha : VAt w w.heap.size A2 args)
    (h1 : (smallP p 300 && decide (args.length ≤ 40)) = true) (h2 : decide (3000 < fuel) = false) (h3 : decide (3000 < more) = false) {b0 b1 b2 m f e : Int} (e1 : evalP p args s fuel = ((0, (0, 0)), 0, e)) (e2 : evalP p args s more = ((b0, (b1, b2)), m, f)) (hne : (e != 0) = true) (hc : (e != 100) = true ∨ ((e != 100) = false ∧ ((f != 0) = true ∨ ((f != 0) = false ∧ decide (fuel < more) = true)))) :
    Calls Tryd.prog 3 #[.agg (inpA A p.length c A2 args.length c2 s), .int .i64 fuel, .int .i64 more] w fun e w' => e = .returned (.bool true) ∧ Below w.heap.size w w' := by
  have F10 := fun W (hw : Below w.heap.size w W) => Lib.hid (fixed10 W ((hT.below hw (Nat.le_refl _)).more hw.size))
  have SM := fun W (hw : Below w.heap.size w W) => Lib.hid (small10 (A2 := A2) c args.length c2 s W ((h.below hw (Nat.le_refl _)).more hw.size))
  rw [h1] at SM
  have hl : args.length ≤ 1000 := by simp only [Bool.and_eq_true, decide_eq_true_eq] at h1; omega
  have EV := Lib.hid (show Ev p A p.length c w from ev_of (c := c) hT h hz)
  have HA := fun W (hw : Below w.heap.size w W) => Lib.hid ((ha.below hw (Nat.le_refl _)).more hw.size)
  have HL := Lib.hid hl
  clear hT h hz ha h1 hl
  generalize p.length = pl at *
  generalize hal : args.length = al at *
  have HAL := Lib.hid hal
  clear hal
  have hw0 : Below w.heap.size w (w.alloc (.cells (inpA A pl c A2 al c2 s) 26)) := (Below.refl _ _).alloc (Nat.le_refl _) _
  have hI := Held.new w 26 (inpA A pl c A2 al c2 s)
  have E1 := Lib.hid e1
  have E2 := Lib.hid e2
  clear e1 e2
  go_enter Tryd.func3, Tryd.ntmps3
  go_upto_region 3 with (first
    | (refine wpList_box_arr rfl 26 (.tmp 0) rfl (inpA A pl c A2 al c2 s) rfl ?_)
    | (go_at_call 5; (with_reducible refine (F10 _ hw0).out.mono ?_); rintro _ u ⟨rfl, hb⟩; replace hI := hI.below hb; replace hw0 := Below.step hw0 hb)
    | (guard_target = wpList _ _ _ (Oper.mk _ (Op.load 26 (.tmp 3)) _ _ _ (some _) :: _) _ _; refine wpList_load_rowG 26 (.tmp 3) rfl w.heap.size rfl 26 (inpA A pl c A2 al c2 s) (0, 0) _ hI Tryd.underlying26 rfl (by kernel_rfl) rfl ?_)
    | (go_at_call 6; (with_reducible refine (SM _ hw0).out.mono ?_); rintro _ u ⟨rfl, hb⟩; replace hI := hI.below hb; replace hw0 := Below.step hw0 hb))
  clear F10 SM h2 h3
  have i0 := hI.cell 0
  have i1 := hI.cell 1
  have i2 := hI.cell 2
  simp at i0 i1 i2
  have hv3 := HA _ hw0
  go_upto_region 4 with (first
    | (go_at_call 7; (with_reducible refine (EV.out.ev _ args al s fuel _ A2 c2 hw0 hv3.out HAL.out (HAL.out ▸ HL.out) E1.out).mono ?_); rintro _ u3 ⟨rfl, hb3⟩; have hz3 := Held.new u3 32 oz0)
    | (guard_target = wpList _ _ _ (Oper.mk _ (Op.alloc 32) _ _ _ none :: _) _ _; refine wpList_alloc_arr rfl 32 rfl oz0 (by kernel_rfl) ?_)
    | (guard_target = wpList _ _ _ (Oper.mk _ (Op.store 32 (.tmp 7) (.tmp 44)) _ _ _ none :: _) _ _; refine wpList_store_row rfl 32 _ _ rfl u3.heap.size oz0 rfl rfl _ _ hz3 (by kernel_rfl) rfl (by simp [Value.oneCell']) ?_))
  obtain ⟨hO3, _, hn3⟩ := out_kept (cs := oz0) hb3
  have hs3 := Below.step hb3 hn3
  replace hw0 := Below.step hw0 hs3
  replace hI := hI.below hs3
  generalize (u3.alloc (.cells oz0 32)).setRow u3.heap.size oz0 = W3 at *
  clear hv3 hb3 hz3 hn3 hs3 i0 i1 i2
  have i0 := hI.cell 0
  have i1 := hI.cell 1
  have i2 := hI.cell 2
  simp at i0 i1 i2
  have hv4 := HA _ hw0
  go_upto_region 5 with (first
    | (go_at_call 7; (with_reducible refine (EV.out.ev _ args al s more _ A2 c2 hw0 hv4.out HAL.out (HAL.out ▸ HL.out) E2.out).mono ?_); rintro _ u4 ⟨rfl, hb4⟩; have hz4 := Held.new u4 32 oz0)
    | (guard_target = wpList _ _ _ (Oper.mk _ (Op.alloc 32) _ _ _ none :: _) _ _; refine wpList_alloc_arr rfl 32 rfl oz0 (by kernel_rfl) ?_)
    | (guard_target = wpList _ _ _ (Oper.mk _ (Op.store 32 (.tmp 10) (.tmp 56)) _ _ _ none :: _) _ _; refine wpList_store_row rfl 32 _ _ rfl u4.heap.size #[.int .i64 b0, .int .i64 b1, .int .i64 b2] rfl rfl _ _ hz4 (by kernel_rfl) rfl (by simp [Value.oneCell']) ?_))
  obtain ⟨hO4, _, hn4⟩ := out_kept (cs := #[.int .i64 b0, .int .i64 b1, .int .i64 b2]) hb4
  have hs4 := Below.step hb4 hn4
  replace hw0 := Below.step hw0 hs4
  replace hI := hI.below hs4
  replace hO3 := hO3.below hs4
  generalize (u4.alloc (.cells oz0 32)).setRow u4.heap.size #[.int .i64 b0, .int .i64 b1, .int .i64 b2] = W4 at *
  clear hv4 hb4 hz4 hn4 hs4 i0 i1 i2
  have x0 := hO3.cell 0
  have x1 := hO3.cell 1
  have x2 := hO3.cell 2
  simp at x0 x1 x2
  have HF := Lib.hid hw0
  clear EV HA HL HAL E1 E2 hO3 hO4 hw0 hI
  rcases hc with hc | ⟨hc, hc2 | ⟨hc2, hc3⟩⟩
  all_goals go_wp2_with fail
  all_goals go_ret
  all_goals exact ⟨rfl, HF.out⟩
set_option maxHeartbeats 8000000 in
set_option maxRecDepth 100000 in
theorem good_ok {A A2 : Option Addr} {p : List Fun} {args : List V} (c c2 : Nat) (s fuel more : Int) (w : World) (hT : TabB w w.heap.size) (h : ProgAt w w.heap.size A p) (hz : SizedP p) (ha : VAt w w.heap.size A2 args)
    (h1 : (smallP p 300 && decide (args.length ≤ 40)) = true) (h2 : decide (3000 < fuel) = false) (h3 : decide (3000 < more) = false) {a0 a1 a2 n b0 b1 b2 m f z : Int} (e1 : evalP p args s fuel = ((a0, (a1, a2)), n, 0)) (e2 : evalP p args s more = ((b0, (b1, b2)), m, f)) (e3 : evalP p args s n = ((a0, (a1, a2)), n, 0)) (e4 : evalP p args s (n - 1) = ((0, (0, 0)), 0, z))
    (n1 : 1 ≤ n) (n2 : n ≤ fuel) (n3 : fuel ≤ 100000) (hf : (f = 0 ∧ b0 = a0 ∧ b1 = a1 ∧ b2 = a2 ∧ m = n) ∨ (f = 100 ∧ more < n) ∨ f = 1) (hh : (n = 1 ∧ z = 1) ∨ (1 < n ∧ z = 100)) :
    Calls Tryd.prog 3 #[.agg (inpA A p.length c A2 args.length c2 s), .int .i64 fuel, .int .i64 more] w fun e w' => e = .returned (.bool true) ∧ Below w.heap.size w w' := by
  have F10 := fun W (hw : Below w.heap.size w W) => Lib.hid (fixed10 W ((hT.below hw (Nat.le_refl _)).more hw.size))
  have SM := fun W (hw : Below w.heap.size w W) => Lib.hid (small10 (A2 := A2) c args.length c2 s W ((h.below hw (Nat.le_refl _)).more hw.size))
  rw [h1] at SM
  have hl : args.length ≤ 1000 := by simp only [Bool.and_eq_true, decide_eq_true_eq] at h1; omega
  have EV := Lib.hid (show Ev p A p.length c w from ev_of (c := c) hT h hz)
  have HA := fun W (hw : Below w.heap.size w W) => Lib.hid ((ha.below hw (Nat.le_refl _)).more hw.size)
  have HL := Lib.hid hl
  clear hT h hz ha h1 hl
  generalize p.length = pl at *
  generalize hal : args.length = al at *
  have HAL := Lib.hid hal
  clear hal
  have hw0 : Below w.heap.size w (w.alloc (.cells (inpA A pl c A2 al c2 s) 26)) := (Below.refl _ _).alloc (Nat.le_refl _) _
  have hI := Held.new w 26 (inpA A pl c A2 al c2 s)
  have E1 := Lib.hid e1
  have E2 := Lib.hid e2
  have E3 := Lib.hid e3
  have E4 := Lib.hid e4
  have hsub : wrap64 (n - 1) = n - 1 := by unfold wrap64; omega
  have t1 : decide (n < 1) = false := decide_eq_false (by omega)
  have t2 : decide (fuel < n) = false := decide_eq_false (by omega)
  have HH := Lib.hid hh
  have HFF : (f = 0 ∧ a0 = b0 ∧ a1 = b1 ∧ a2 = b2 ∧ n = m) ∨ ((f == 0) = false ∧ (f == 100) = true ∧ decide (n ≤ more) = false) ∨ ((f == 0) = false ∧ (f == 100) = false) := by
    rcases hf with hf | hf | hf
    · exact .inl ⟨hf.1, hf.2.1.symm, hf.2.2.1.symm, hf.2.2.2.1.symm, hf.2.2.2.2.symm⟩
    · obtain ⟨rfl, hm⟩ := hf
      exact .inr (.inl ⟨by decide, by decide, decide_eq_false (by omega)⟩)
    · subst hf
      exact .inr (.inr ⟨by decide, by decide⟩)
  clear e1 e2 e3 e4 n1 n2 n3 hf hh
  go_enter Tryd.func3, Tryd.ntmps3
  go_upto_region 3 with (first
    | (refine wpList_box_arr rfl 26 (.tmp 0) rfl (inpA A pl c A2 al c2 s) rfl ?_)
    | (go_at_call 5; (with_reducible refine (F10 _ hw0).out.mono ?_); rintro _ u ⟨rfl, hb⟩; replace hI := hI.below hb; replace hw0 := Below.step hw0 hb)
    | (guard_target = wpList _ _ _ (Oper.mk _ (Op.load 26 (.tmp 3)) _ _ _ (some _) :: _) _ _; refine wpList_load_rowG 26 (.tmp 3) rfl w.heap.size rfl 26 (inpA A pl c A2 al c2 s) (0, 0) _ hI Tryd.underlying26 rfl (by kernel_rfl) rfl ?_)
    | (go_at_call 6; (with_reducible refine (SM _ hw0).out.mono ?_); rintro _ u ⟨rfl, hb⟩; replace hI := hI.below hb; replace hw0 := Below.step hw0 hb))
  clear F10 SM h2 h3
  have i0 := hI.cell 0
  have i1 := hI.cell 1
  have i2 := hI.cell 2
  simp at i0 i1 i2
  have hv3 := HA _ hw0
  go_upto_region 4 with (first
    | (go_at_call 7; (with_reducible refine (EV.out.ev _ args al s fuel _ A2 c2 hw0 hv3.out HAL.out (HAL.out ▸ HL.out) E1.out).mono ?_); rintro _ u3 ⟨rfl, hb3⟩; have hz3 := Held.new u3 32 oz0)
    | (guard_target = wpList _ _ _ (Oper.mk _ (Op.alloc 32) _ _ _ none :: _) _ _; refine wpList_alloc_arr rfl 32 rfl oz0 (by kernel_rfl) ?_)
    | (guard_target = wpList _ _ _ (Oper.mk _ (Op.store 32 (.tmp 7) (.tmp 44)) _ _ _ none :: _) _ _; refine wpList_store_row rfl 32 _ _ rfl u3.heap.size #[.int .i64 a0, .int .i64 a1, .int .i64 a2] rfl rfl _ _ hz3 (by kernel_rfl) rfl (by simp [Value.oneCell']) ?_))
  obtain ⟨hO3, _, hn3⟩ := out_kept (cs := #[.int .i64 a0, .int .i64 a1, .int .i64 a2]) hb3
  have hs3 := Below.step hb3 hn3
  replace hw0 := Below.step hw0 hs3
  replace hI := hI.below hs3
  generalize (u3.alloc (.cells oz0 32)).setRow u3.heap.size #[.int .i64 a0, .int .i64 a1, .int .i64 a2] = W3 at *
  clear hv3 hb3 hz3 hn3 hs3 i0 i1 i2
  have i0 := hI.cell 0
  have i1 := hI.cell 1
  have i2 := hI.cell 2
  simp at i0 i1 i2
  have hv4 := HA _ hw0
  go_upto_region 5 with (first
    | (go_at_call 7; (with_reducible refine (EV.out.ev _ args al s more _ A2 c2 hw0 hv4.out HAL.out (HAL.out ▸ HL.out) E2.out).mono ?_); rintro _ u4 ⟨rfl, hb4⟩; have hz4 := Held.new u4 32 oz0)
    | (guard_target = wpList _ _ _ (Oper.mk _ (Op.alloc 32) _ _ _ none :: _) _ _; refine wpList_alloc_arr rfl 32 rfl oz0 (by kernel_rfl) ?_)
    | (guard_target = wpList _ _ _ (Oper.mk _ (Op.store 32 (.tmp 10) (.tmp 56)) _ _ _ none :: _) _ _; refine wpList_store_row rfl 32 _ _ rfl u4.heap.size #[.int .i64 b0, .int .i64 b1, .int .i64 b2] rfl rfl _ _ hz4 (by kernel_rfl) rfl (by simp [Value.oneCell']) ?_))
  obtain ⟨hO4, _, hn4⟩ := out_kept (cs := #[.int .i64 b0, .int .i64 b1, .int .i64 b2]) hb4
  have hs4 := Below.step hb4 hn4
  replace hw0 := Below.step hw0 hs4
  replace hI := hI.below hs4
  replace hO3 := hO3.below hs4
  generalize (u4.alloc (.cells oz0 32)).setRow u4.heap.size #[.int .i64 b0, .int .i64 b1, .int .i64 b2] = W4 at *
  clear hv4 hb4 hz4 hn4 hs4 i0 i1 i2
  have x0 := hO3.cell 0
  have x1 := hO3.cell 1
  have x2 := hO3.cell 2
  simp at x0 x1 x2
  have y0 := hO4.cell 0
  have y1 := hO4.cell 1
  have y2 := hO4.cell 2
  simp at y0 y1 y2
  have R7 : ∀ (P : Prop), P → P := fun _ h => h
  rcases HFF with ⟨rfl, rfl, rfl, rfl, rfl⟩ | ⟨k1, k2, k3⟩ | ⟨k1, k2⟩
  all_goals go_upto_region 9 with fail
  all_goals clear x0 x1 x2 y0 y1 y2 hO4
  all_goals
    have i0 := hI.cell 0
    have i1 := hI.cell 1
    have i2 := hI.cell 2
    simp at i0 i1 i2
    have hv9 := HA _ hw0
    go_upto_region 10 with (first
      | (go_at_call 7; (with_reducible refine (EV.out.ev _ args al s n _ A2 c2 hw0 hv9.out HAL.out (HAL.out ▸ HL.out) E3.out).mono ?_); rintro _ u9 ⟨rfl, hb9⟩; have hz9 := Held.new u9 32 oz0)
      | (guard_target = wpList _ _ _ (Oper.mk _ (Op.alloc 32) _ _ _ none :: _) _ _; refine wpList_alloc_arr rfl 32 rfl oz0 (by kernel_rfl) ?_)
      | (guard_target = wpList _ _ _ (Oper.mk _ (Op.store 32 (.tmp 13) (.tmp 120)) _ _ _ none :: _) _ _; refine wpList_store_row rfl 32 _ _ rfl u9.heap.size #[.int .i64 a0, .int .i64 a1, .int .i64 a2] rfl rfl _ _ hz9 (by kernel_rfl) rfl (by simp [Value.oneCell']) ?_))
    obtain ⟨hO9, _, hn9⟩ := out_kept (cs := #[.int .i64 a0, .int .i64 a1, .int .i64 a2]) hb9
    have hs9 := Below.step hb9 hn9
    replace hw0 := Below.step hw0 hs9
    replace hI := hI.below hs9
    replace hO3 := hO3.below hs9
    generalize (u9.alloc (.cells oz0 32)).setRow u9.heap.size #[.int .i64 a0, .int .i64 a1, .int .i64 a2] = W9 at *
    clear hv9 hb9 hz9 hn9 hs9 i0 i1 i2
    have i0 := hI.cell 0
    have i1 := hI.cell 1
    have i2 := hI.cell 2
    simp at i0 i1 i2
    have hv10 := HA _ hw0
    go_upto_region 11 with (first
      | (go_at_call 7; (with_reducible refine (EV.out.ev _ args al s (n - 1) _ A2 c2 hw0 hv10.out HAL.out (HAL.out ▸ HL.out) E4.out).mono ?_); rintro _ u10 ⟨rfl, hb10⟩; have hz10 := Held.new u10 32 oz0)
      | (guard_target = wpList _ _ _ (Oper.mk _ (Op.alloc 32) _ _ _ none :: _) _ _; refine wpList_alloc_arr rfl 32 rfl oz0 (by kernel_rfl) ?_)
      | (guard_target = wpList _ _ _ (Oper.mk _ (Op.store 32 (.tmp 16) (.tmp 133)) _ _ _ none :: _) _ _; refine wpList_store_row rfl 32 _ _ rfl u10.heap.size oz0 rfl rfl _ _ hz10 (by kernel_rfl) rfl (by simp [Value.oneCell']) ?_))
    obtain ⟨hO10, _, hn10⟩ := out_kept (cs := oz0) hb10
    have hs10 := Below.step hb10 hn10
    replace hw0 := Below.step hw0 hs10
    replace hI := hI.below hs10
    replace hO3 := hO3.below hs10
    replace hO9 := hO9.below hs10
    generalize (u10.alloc (.cells oz0 32)).setRow u10.heap.size oz0 = W10 at *
    clear hv10 hb10 hz10 hn10 hs10 i0 i1 i2
    have x0 := hO3.cell 0
    have x1 := hO3.cell 1
    have x2 := hO3.cell 2
    simp at x0 x1 x2
    have y0 := hO9.cell 0
    have y1 := hO9.cell 1
    have y2 := hO9.cell 2
    simp at y0 y1 y2
    have HF := Lib.hid hw0
    have HHO := HH.out
    clear EV HA HL HAL E1 E2 E3 E4 hO3 hO9 hO10 hw0 hI HH
    rcases HHO with ⟨rfl, rfl⟩ | ⟨h1, rfl⟩
    · go_wp2_with fail
      go_ret
      exact ⟨rfl, HF.out⟩
    · have d1 : (n == 1) = false := by simp; omega
      have d2 : decide (1 < n) = true := decide_eq_true h1
      clear h1
      go_wp2_with fail
      go_ret
      exact ⟨rfl, HF.out⟩
set_option maxRecDepth 100000 in
theorem walk {A A2 : Option Addr} {p : List Fun} {args : List V} (c c2 : Nat) (s fuel more : Int) (w : World) (hT : TabB w w.heap.size) (h : ProgAt w w.heap.size A p) (hz : SizedP p) (ha : VAt w w.heap.size A2 args) :
    Calls Tryd.prog 3 #[.agg (inpA A p.length c A2 args.length c2 s), .int .i64 fuel, .int .i64 more] w fun e w' => e = .returned (.bool true) ∧ Below w.heap.size w w' := by
  cases h1 : (smallP p 300 && decide (args.length ≤ 40)) with
  | false => exact out c c2 s fuel more w hT h (.inl h1)
  | true =>
    cases h2 : decide (3000 < fuel) with
    | true => exact out c c2 s fuel more w hT h (.inr (.inl h2))
    | false =>
      cases h3 : decide (3000 < more) with
      | true => exact out c c2 s fuel more w hT h (.inr (.inr h3))
      | false =>
        by_cases he : (evalP p args s fuel).2.2 = 0
        · obtain ⟨k1, k2, k3, k4, k5, k6, k7⟩ := fuel_ok he
          have k4 := k4 more
          have k5 := k5 more
          have hcs := evalP_cases p args s more
          rcases hR1 : evalP p args s fuel with ⟨⟨a0, a1, a2⟩, n, e⟩
          rcases hR2 : evalP p args s more with ⟨⟨b0, b1, b2⟩, m, f⟩
          rw [hR1] at k1 k2 k4 k5 k6 k7 he
          rw [hR2] at k4 k5 hcs
          simp only at k1 k2 k4 k5 k6 k7 he
          subst he
          refine good_ok c c2 s fuel more w hT h hz ha h1 h2 h3 hR1 hR2 k6 k7 k1 k2 k3 ?_ ?_
          · have hf : f = 1 ∨ f = 100 ∨ f = 0 := by
              rcases hcs with ⟨e2, _⟩ | ⟨_, ⟨e2, _⟩ | ⟨o2, m2, e2, _, _⟩⟩
              · exact .inl (congrArg (fun R => R.2.2) e2)
              · exact .inr (.inl (congrArg (fun R => R.2.2) e2))
              · exact .inr (.inr (congrArg (fun R => R.2.2) e2))
            rcases hf with hf | hf | hf
            · exact .inr (.inr hf)
            · exact .inr (.inl ⟨hf, k5 hf⟩)
            · obtain ⟨g1, g2⟩ := k4 hf
              simp only [Prod.mk.injEq] at g1
              exact .inl ⟨hf, g1.1, g1.2.1, g1.2.2, g2⟩
          · by_cases hn : n = 1
            · exact .inl ⟨hn, by rw [if_pos hn]⟩
            · exact .inr ⟨by omega, by rw [if_neg hn]⟩
        · obtain ⟨q1, q2⟩ := fuel_err (more := more) he
          rcases hR2 : evalP p args s more with ⟨⟨b0, b1, b2⟩, m, f⟩
          rw [hR2] at q2
          generalize hE : (evalP p args s fuel).2.2 = e at q1 q2 he
          refine good_err c c2 s fuel more w hT h hz ha h1 h2 h3 (e := e) q1 hR2 (by simpa using he) ?_
          rcases q2 with rfl | ⟨rfl, q3⟩
          · exact .inl (by decide)
          · refine .inr ⟨by decide, ?_⟩
            by_cases hf : f = 0
            · refine .inr ⟨by simpa using hf, ?_⟩
              rcases q3 with q3 | q3
              · exact absurd hf q3
              · exact decide_eq_true q3
            · exact .inl (by simpa using hf)
set_option maxRecDepth 100000 in
theorem entry {H : Type} {enc : TypeId × Value → H} (W : World) (base : Nat) (v0 v1 v2 : Value) (d0 d1 d2 : DataW H) (p0 p1 p2 : List MemPlace)
    (k0 : Value.okWide Tryd.prog W .any base 26 v0)
    (k1 : Value.okWide Tryd.prog W .any base 3 v1)
    (k2 : Value.okWide Tryd.prog W .any base 3 v2)
    (h0 : DataW.Trod enc Tryd.prog W 0 (fun _ => true) true 26 v0 d0 p0)
    (h1 : DataW.Trod enc Tryd.prog W 0 (fun _ => true) true 3 v1 d1 p1)
    (h2 : DataW.Trod enc Tryd.prog W 0 (fun _ => true) true 3 v2 d2 p2)
    (hT : TabB W W.heap.size) : Calls Tryd.prog 3 #[v0, v1, v2] W fun e w' => e = .returned (.bool true) ∧ Below W.heap.size W w' := by
  obtain ⟨A, c, P, A2, c2, args, s, rfl, hP, hz, hV⟩ := open_input k0 h0
  obtain ⟨fuel, rfl, _, _, _⟩ := open_int Tryd.underlying3 k1 h1
  obtain ⟨more, rfl, _, _, _⟩ := open_int Tryd.underlying3 k2 h2
  exact walk c c2 s fuel more W hT hP hz hV
end Go.Proofs.YtagjddnpaahebaaDoor.seqFuel

