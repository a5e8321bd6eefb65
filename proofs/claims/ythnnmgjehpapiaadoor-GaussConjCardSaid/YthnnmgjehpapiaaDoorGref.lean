/- Layer 4: the document's own answers: remainders, parts, sums, differences, conjugates. -/
import Derived.Test.YthnnmgjehpapiaaDoorGcj
import Derived.IntWalk
namespace Go.Proofs.YthnnmgjehpapiaaDoor
set_option linter.unusedVariables false
set_option linter.unusedSimpArgs false
open Go.RowKit Go.ChangeShapes Go.WideShapes Go.ChangeAt Gm Fl Go.Sort

set_option maxHeartbeats 400000 in
theorem rrest_any (n : Int) (w : World) : Calls Tryd.prog 30 #[.int .i64 n] w fun e w' => e = .returned (.int .i64 (rs n)) ∧ w = w' := by
  have hbd := tmod_bd n
  by_cases h : Int.tmod n 251 < 0
  · have H1 := Lib.hid (tmod_neg n h)
    go_enter Tryd.func30, Tryd.ntmps30
    go_wp2_with fail
    go_ret
    exact ⟨ret_int H1.out, rfl⟩
  · have h' : 0 ≤ Int.tmod n 251 := by omega
    have H1 := Lib.hid (tmod_pos n h')
    go_enter Tryd.func30, Tryd.ntmps30
    go_wp2_with fail
    go_ret
    exact ⟨ret_int H1.out, rfl⟩

theorem rof_any (a b : Int) (w : World) : Calls Tryd.prog 28 #[.int .i64 a, .int .i64 b] w fun e w' => e = .returned (.agg #[.int .i64 (rs a), .int .i64 (rs b)]) ∧ Below w.heap.size w w' := by
  have C := fun n W => Lib.hid (rrest_any n W)
  go_enter Tryd.func28, Tryd.ntmps28
  go_wp2_with (go_at_call 30; refine (C _ _).out.mono ?_; rintro e v ⟨rfl, rfl⟩)
  exact bodyPost_ret (v := .agg #[.int .i64 (rs a), .int .i64 (rs b)]) (by simp [results, Tryd.results28, go_sem]) rfl ⟨rfl, (Below.refl _ _).alloc (Nat.le_refl _) _⟩

set_option maxHeartbeats 1000000 in
set_option maxRecDepth 100000 in
theorem radd_any (a b c d : Int) (w : World) : Calls Tryd.prog 13 #[.agg #[.int .i64 a, .int .i64 b], .agg #[.int .i64 c, .int .i64 d]] w fun e w' =>
    e = .returned (.agg #[.int .i64 (gAdd (a, b) (c, d)).1, .int .i64 (gAdd (a, b) (c, d)).2]) ∧ Below w.heap.size w w' := by
  have C := fun n W => Lib.hid (rrest_any n W)
  have C2 := fun n m W => Lib.hid (rof_any n m W)
  have ra := rs_bd a
  have rb := rs_bd b
  have rc := rs_bd c
  have rd := rs_bd d
  have y1 : IntKind.i64.wrap (rs a + rs c) = rs a + rs c := IntWalk.i64_in _ (by omega)
  have y2 : IntKind.i64.wrap (rs b + rs d) = rs b + rs d := IntWalk.i64_in _ (by omega)
  clear ra rb rc rd
  go_enter Tryd.func13, Tryd.ntmps13
  go_wp2_with fail
  have hx := ((Held.new w 23 #[.int .i64 a, .int .i64 b]).alloc (.cells #[.int .i64 c, .int .i64 d] 23)).alloc (.cells #[.int .i64 0, .int .i64 0] 23)
  have h1 := (Held.new1 w (.cells #[.int .i64 a, .int .i64 b] 23) 23 #[.int .i64 c, .int .i64 d]).alloc (.cells #[.int .i64 0, .int .i64 0] 23)
  have h2 := Held.new2 w (.cells #[.int .i64 a, .int .i64 b] 23) (.cells #[.int .i64 c, .int .i64 d] 23) 23 #[.int .i64 0, .int .i64 0]
  have hw := below3 w (.cells #[.int .i64 a, .int .i64 b] 23) (.cells #[.int .i64 c, .int .i64 d] 23) (.cells #[.int .i64 0, .int .i64 0] 23)
  generalize ((w.alloc _).alloc _).alloc _ = W0 at hx h1 h2 hw ⊢
  obtain ⟨c0, c1, _, _⟩ := hx.two
  obtain ⟨c2, c3, _, _⟩ := h1.two
  have g0 := fun d os => cell_regrown c0 d os
  have g1 := fun d os => cell_regrown c1 d os
  have g2 := fun d os => cell_regrown c2 d os
  have g3 := fun d os => cell_regrown c3 d os
  clear c0 c1 c2 c3
  refine wp_region_below_tail 15 (by kernel_rfl) (by kernel_rfl) ?_
  simp only [List.take_succ_cons, List.take_zero, List.drop_succ_cons, List.drop_zero]
  repeat (first
    | go_big_quiet_step ((first
      | (go_at_call 30; (with_reducible exact Calls.regrown_same (C _ _).out))
      | (go_at_call 28; (with_reducible exact Calls.regrown_of (C2 _ _ _).out))))
    | quiet_step ((first
      | (go_at_call 30; (with_reducible exact Calls.regrown_same (C _ _).out))
      | (go_at_call 28; (with_reducible exact Calls.regrown_of (C2 _ _ _).out)))))
  refine wpQuiet_nil ?_
  intro v hv
  have hb := below_of_regrown hv
  clear hv g0 g1 g2 g3
  replace h2 := h2.below hb
  replace hw := Below.step hw hb
  obtain ⟨c4, c5, f0, f1⟩ := h2.two
  go_wp2_with fail
  replace hw := set2b (k := w.heap.size + 1 + 1) (x := .int .i64 (rs (rs a + rs c))) (y := .int .i64 (rs (rs b + rs d))) (by omega) hw
  replace h2 := h2.set (.int .i64 (rs (rs a + rs c))) (.int .i64 (rs (rs b + rs d)))
  generalize (v.setCell _ _).setCell _ _ = W2 at h2 hw ⊢
  obtain ⟨d0, d1, _, _⟩ := h2.two
  exact bodyPost_ret (v := .agg #[.int .i64 (rs (rs a + rs c)), .int .i64 (rs (rs b + rs d))]) (by simp [results, Tryd.results13, go_sem, d0, d1]) rfl ⟨rfl, hw⟩

set_option maxHeartbeats 1000000 in
set_option maxRecDepth 100000 in
theorem rsub_any (a b c d : Int) (w : World) : Calls Tryd.prog 15 #[.agg #[.int .i64 a, .int .i64 b], .agg #[.int .i64 c, .int .i64 d]] w fun e w' =>
    e = .returned (.agg #[.int .i64 (gSub (a, b) (c, d)).1, .int .i64 (gSub (a, b) (c, d)).2]) ∧ Below w.heap.size w w' := by
  have C := fun n W => Lib.hid (rrest_any n W)
  have C2 := fun n m W => Lib.hid (rof_any n m W)
  have ra := rs_bd a
  have rb := rs_bd b
  have rc := rs_bd c
  have rd := rs_bd d
  have y1 : IntKind.i64.wrap (rs a - rs c) = rs a - rs c := IntWalk.i64_in _ (by omega)
  have y2 : IntKind.i64.wrap (rs b - rs d) = rs b - rs d := IntWalk.i64_in _ (by omega)
  clear ra rb rc rd
  go_enter Tryd.func15, Tryd.ntmps15
  go_wp2_with fail
  have hx := ((Held.new w 23 #[.int .i64 a, .int .i64 b]).alloc (.cells #[.int .i64 c, .int .i64 d] 23)).alloc (.cells #[.int .i64 0, .int .i64 0] 23)
  have h1 := (Held.new1 w (.cells #[.int .i64 a, .int .i64 b] 23) 23 #[.int .i64 c, .int .i64 d]).alloc (.cells #[.int .i64 0, .int .i64 0] 23)
  have h2 := Held.new2 w (.cells #[.int .i64 a, .int .i64 b] 23) (.cells #[.int .i64 c, .int .i64 d] 23) 23 #[.int .i64 0, .int .i64 0]
  have hw := below3 w (.cells #[.int .i64 a, .int .i64 b] 23) (.cells #[.int .i64 c, .int .i64 d] 23) (.cells #[.int .i64 0, .int .i64 0] 23)
  generalize ((w.alloc _).alloc _).alloc _ = W0 at hx h1 h2 hw ⊢
  obtain ⟨c0, c1, _, _⟩ := hx.two
  obtain ⟨c2, c3, _, _⟩ := h1.two
  have g0 := fun d os => cell_regrown c0 d os
  have g1 := fun d os => cell_regrown c1 d os
  have g2 := fun d os => cell_regrown c2 d os
  have g3 := fun d os => cell_regrown c3 d os
  clear c0 c1 c2 c3
  refine wp_region_below_tail 15 (by kernel_rfl) (by kernel_rfl) ?_
  simp only [List.take_succ_cons, List.take_zero, List.drop_succ_cons, List.drop_zero]
  repeat (first
    | go_big_quiet_step ((first
      | (go_at_call 30; (with_reducible exact Calls.regrown_same (C _ _).out))
      | (go_at_call 28; (with_reducible exact Calls.regrown_of (C2 _ _ _).out))))
    | quiet_step ((first
      | (go_at_call 30; (with_reducible exact Calls.regrown_same (C _ _).out))
      | (go_at_call 28; (with_reducible exact Calls.regrown_of (C2 _ _ _).out)))))
  refine wpQuiet_nil ?_
  intro v hv
  have hb := below_of_regrown hv
  clear hv g0 g1 g2 g3
  replace h2 := h2.below hb
  replace hw := Below.step hw hb
  obtain ⟨c4, c5, f0, f1⟩ := h2.two
  go_wp2_with fail
  replace hw := set2b (k := w.heap.size + 1 + 1) (x := .int .i64 (rs (rs a - rs c))) (y := .int .i64 (rs (rs b - rs d))) (by omega) hw
  replace h2 := h2.set (.int .i64 (rs (rs a - rs c))) (.int .i64 (rs (rs b - rs d)))
  generalize (v.setCell _ _).setCell _ _ = W2 at h2 hw ⊢
  obtain ⟨d0, d1, _, _⟩ := h2.two
  exact bodyPost_ret (v := .agg #[.int .i64 (rs (rs a - rs c)), .int .i64 (rs (rs b - rs d))]) (by simp [results, Tryd.results15, go_sem, d0, d1]) rfl ⟨rfl, hw⟩

set_option maxHeartbeats 1000000 in
set_option maxRecDepth 100000 in
theorem rconj_any (a b : Int) (w : World) : Calls Tryd.prog 19 #[.agg #[.int .i64 a, .int .i64 b]] w fun e w' =>
    e = .returned (.agg #[.int .i64 (gConj (a, b)).1, .int .i64 (gConj (a, b)).2]) ∧ Below w.heap.size w w' := by
  have C := fun n W => Lib.hid (rrest_any n W)
  have C2 := fun n m W => Lib.hid (rof_any n m W)
  have rb := rs_bd b
  have y1 : IntKind.i64.wrap (-(rs b)) = -(rs b) := IntWalk.i64_in _ (by omega)
  have y2 : IntKind.i64.wrap (0 - rs b) = -(rs b) := (IntWalk.i64_in _ (by omega)).trans (by omega)
  clear rb
  go_enter Tryd.func19, Tryd.ntmps19
  go_wp2_with fail
  have hx := (Held.new w 23 #[.int .i64 a, .int .i64 b]).alloc (.cells #[.int .i64 0, .int .i64 0] 23)
  have h1 := Held.new1 w (.cells #[.int .i64 a, .int .i64 b] 23) 23 #[.int .i64 0, .int .i64 0]
  have hw := below2 w (.cells #[.int .i64 a, .int .i64 b] 23) (.cells #[.int .i64 0, .int .i64 0] 23)
  generalize (w.alloc _).alloc _ = W0 at hx h1 hw ⊢
  obtain ⟨c0, c1, _, _⟩ := hx.two
  have g0 := fun d os => cell_regrown c0 d os
  have g1 := fun d os => cell_regrown c1 d os
  clear c0 c1
  refine wp_region_below_tail 8 (by kernel_rfl) (by kernel_rfl) ?_
  simp only [List.take_succ_cons, List.take_zero, List.drop_succ_cons, List.drop_zero]
  repeat (first
    | go_big_quiet_step ((first
      | (go_at_call 30; (with_reducible exact Calls.regrown_same (C _ _).out))
      | (go_at_call 28; (with_reducible exact Calls.regrown_of (C2 _ _ _).out))))
    | quiet_step ((first
      | (go_at_call 30; (with_reducible exact Calls.regrown_same (C _ _).out))
      | (go_at_call 28; (with_reducible exact Calls.regrown_of (C2 _ _ _).out)))))
  refine wpQuiet_nil ?_
  intro v hv
  have hb := below_of_regrown hv
  clear hv g0 g1
  replace h1 := h1.below hb
  replace hw := Below.step hw hb
  obtain ⟨c4, c5, f0, f1⟩ := h1.two
  go_wp2_with fail
  replace hw := set2b (k := w.heap.size + 1) (x := .int .i64 (rs (rs a))) (y := .int .i64 (rs (-(rs b)))) (by omega) hw
  replace h1 := h1.set (.int .i64 (rs (rs a))) (.int .i64 (rs (-(rs b))))
  generalize (v.setCell _ _).setCell _ _ = W2 at h1 hw ⊢
  obtain ⟨d0, d1, _, _⟩ := h1.two
  exact bodyPost_ret (v := .agg #[.int .i64 (rs (rs a)), .int .i64 (rs (-(rs b)))]) (by simp [results, Tryd.results19, go_sem, d0, d1]) rfl ⟨rfl, hw⟩

theorem ret_bool {a b : Bool} (h : a = b) : Ending.returned (.bool a) = .returned (.bool b) := by rw [h]
set_option maxHeartbeats 1000000 in
theorem rmay_any (a b : Int) (w : World) : Calls Tryd.prog 26 #[.agg #[.int .i64 a, .int .i64 b]] w fun e w' => e = .returned (.bool (mayB a b)) ∧ Below w.heap.size w w' := by
  have hb : Below w.heap.size w (w.alloc (.cells #[.int .i64 a, .int .i64 b] 23)) := (Below.refl _ _).alloc (Nat.le_refl _) _
  have hm : mayB a b = (decide (0 ≤ a) && decide (a < 251) && (decide (0 ≤ b) && decide (b < 251))) := rfl
  have HM := Lib.hid hm
  clear hm
  go_enter Tryd.func26, Tryd.ntmps26
  go_wp2_with fail
  all_goals
    go_ret
    rw [HM.out]
    refine ⟨ret_bool ?_, hb⟩
    rw [Bool.eq_iff_iff]
    simp
    omega

end Go.Proofs.YthnnmgjehpapiaaDoor
