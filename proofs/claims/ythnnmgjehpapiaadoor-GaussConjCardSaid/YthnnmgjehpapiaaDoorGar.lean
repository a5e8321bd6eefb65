/- Layer 4's code: sums, differences and products of values, and conjugates, at every input. -/
import Derived.Test.YthnnmgjehpapiaaDoorGof
import Derived.Test.YthnnmgjehpapiaaDoorQt
import Derived.BigQuiet
namespace Go.Proofs.YthnnmgjehpapiaaDoor
set_option linter.unusedVariables false
set_option linter.unusedSimpArgs false
open Go.RowKit Go.ChangeShapes Go.WideShapes Go.ChangeAt Gm Fl

theorem keep3 {w W W' : World} {g h k : Nat} {a b c d e f : Value} (hS : W.cell? ⟨g, 0, none⟩ = some a ∧ W.cell? ⟨g, 1, none⟩ = some b ∧ W.cell? ⟨h, 0, none⟩ = some c ∧ W.cell? ⟨h, 1, none⟩ = some d ∧
      W.cell? ⟨k, 0, none⟩ = some e ∧ W.cell? ⟨k, 1, none⟩ = some f ∧ W.frozen? ⟨k, 0, none⟩ = false ∧ W.frozen? ⟨k, 1, none⟩ = false ∧ Below w.heap.size w W) (hb : Below W.heap.size W W') :
    W'.cell? ⟨g, 0, none⟩ = some a ∧ W'.cell? ⟨g, 1, none⟩ = some b ∧ W'.cell? ⟨h, 0, none⟩ = some c ∧ W'.cell? ⟨h, 1, none⟩ = some d ∧
      W'.cell? ⟨k, 0, none⟩ = some e ∧ W'.cell? ⟨k, 1, none⟩ = some f ∧ W'.frozen? ⟨k, 0, none⟩ = false ∧ W'.frozen? ⟨k, 1, none⟩ = false ∧ Below w.heap.size w W' := by
  obtain ⟨h1, h2, h3, h4, h5, h6, h7, h8, h9⟩ := hS
  have l1 := block_lt_of_cell h1; have l3 := block_lt_of_cell h3; have l5 := block_lt_of_cell h5
  have l2 := block_lt_of_cell h2; have l4 := block_lt_of_cell h4; have l6 := block_lt_of_cell h6
  exact ⟨(hb.cell l1).trans h1, (hb.cell l2).trans h2, (hb.cell l3).trans h3, (hb.cell l4).trans h4, (hb.cell l5).trans h5, (hb.cell l6).trans h6, (hb.frozen l5).trans h7, (hb.frozen l6).trans h8, Below.step h9 hb⟩
theorem start3 (w : World) (t : TypeId) (a b c d e f : Value) (W : World) (hW : W = ((w.alloc (.cells #[a, b] t)).alloc (.cells #[c, d] t)).alloc (.cells #[e, f] t)) :
    W.cell? ⟨w.heap.size, 0, none⟩ = some a ∧ W.cell? ⟨w.heap.size, 1, none⟩ = some b ∧ W.cell? ⟨w.heap.size + 1, 0, none⟩ = some c ∧ W.cell? ⟨w.heap.size + 1, 1, none⟩ = some d ∧
      W.cell? ⟨w.heap.size + 1 + 1, 0, none⟩ = some e ∧ W.cell? ⟨w.heap.size + 1 + 1, 1, none⟩ = some f ∧ W.frozen? ⟨w.heap.size + 1 + 1, 0, none⟩ = false ∧ W.frozen? ⟨w.heap.size + 1 + 1, 1, none⟩ = false ∧ Below w.heap.size w W := by
  subst hW
  have h0 : (((w.alloc (.cells #[a, b] t)).alloc (.cells #[c, d] t)).alloc (.cells #[e, f] t)).heap[w.heap.size]? = some (.cells #[a, b] t (0, 0)) := by
    rw [Below.heap_alloc _ _ _ (by simp; omega), Below.heap_alloc _ _ _ (by simp)]; exact heap_alloc_last w _
  have h1 : (((w.alloc (.cells #[a, b] t)).alloc (.cells #[c, d] t)).alloc (.cells #[e, f] t)).heap[w.heap.size + 1]? = some (.cells #[c, d] t (0, 0)) := by
    rw [Below.heap_alloc _ _ _ (by simp)]
    have := heap_alloc_last (w.alloc (.cells #[a, b] t)) (.cells #[c, d] t)
    simpa using this
  have h2 : (((w.alloc (.cells #[a, b] t)).alloc (.cells #[c, d] t)).alloc (.cells #[e, f] t)).heap[w.heap.size + 1 + 1]? = some (.cells #[e, f] t (0, 0)) := by
    have := heap_alloc_last ((w.alloc (.cells #[a, b] t)).alloc (.cells #[c, d] t)) (.cells #[e, f] t)
    simpa using this
  exact ⟨cell_at h0 0, cell_at h0 1, cell_at h1 0, cell_at h1 1, cell_at h2 0, cell_at h2 1, fz_at h2 0, fz_at h2 1,
    (((Below.refl _ _).alloc (Nat.le_refl _) _).alloc (by simp) _).alloc (by simp; omega) _⟩
theorem set2c {v : World} {k : Nat} {e f x y : Value} (c4 : v.cell? ⟨k, 0, none⟩ = some e) (c5 : v.cell? ⟨k, 1, none⟩ = some f) :
    ((v.setCell ⟨k, 0, none⟩ x).setCell ⟨k, 1, none⟩ y).cell? ⟨k, 0, none⟩ = some x ∧ ((v.setCell ⟨k, 0, none⟩ x).setCell ⟨k, 1, none⟩ y).cell? ⟨k, 1, none⟩ = some y := by
  have h1 : (v.setCell ⟨k, 0, none⟩ x).cell? ⟨k, 0, none⟩ = some x := World.cell?_setCell_same _ _ _ c4
  have h2 : (v.setCell ⟨k, 0, none⟩ x).cell? ⟨k, 1, none⟩ = some f := (World.cell?_setCell_other _ _ _ _ (by simp)).trans c5
  exact ⟨(World.cell?_setCell_other _ _ _ _ (by simp)).trans h1, World.cell?_setCell_same _ _ _ h2⟩
theorem set2b {w v : World} {k : Nat} {x y : Value} (hk : w.heap.size ≤ k) (hw : Below w.heap.size w v) : Below w.heap.size w ((v.setCell ⟨k, 0, none⟩ x).setCell ⟨k, 1, none⟩ y) :=
  (hw.setCell hk _).setCell hk _

set_option maxHeartbeats 1000000 in
set_option maxRecDepth 100000 in
theorem add_any (a b c d : Int) (w : World) : Calls Tryd.prog 12 #[.agg #[.int .i64 a, .int .i64 b], .agg #[.int .i64 c, .int .i64 d]] w fun e w' =>
    e = .returned (.agg #[.int .i64 (gAdd (a, b) (c, d)).1, .int .i64 (gAdd (a, b) (c, d)).2]) ∧ Below w.heap.size w w' := by
  have C := fun n m W => Lib.hid (number_any n m W)
  have ra := rs_bd a
  have rb := rs_bd b
  have rc := rs_bd c
  have rd := rs_bd d
  have k1 : ∀ w, (binOp .add 37 (.complex .f64 (fw (rs a)) (fw (rs b))) (.complex .f64 (fw (rs c)) (fw (rs d)))).run Tryd.prog w = .ok (.complex .f64 (fw (rs a + rs c)) (fw (rs b + rs d))) w := fun w =>
    run_complex_sum w .add (.inl rfl) _ _ _ _ _ _ _ _ (c_sum (add_bits (by omega) (by omega)) (add_bits (by omega) (by omega)))
  have C2 := fun W => Lib.hid (value_any (fw (rs a + rs c)) (fw (rs b + rs d)) (to_int (by omega)) (to_int (by omega)) W)
  clear ra rb rc rd
  go_enter Tryd.func12, Tryd.ntmps12
  go_wp2_with fail
  have hS := start3 w 23 (.int .i64 a) (.int .i64 b) (.int .i64 c) (.int .i64 d) (.int .i64 0) (.int .i64 0) _ rfl
  generalize ((w.alloc _).alloc _).alloc _ = W0 at hS ⊢
  have HS := Lib.hid hS
  obtain ⟨c0, c1, c2, c3, _, _, _, _, _⟩ := hS
  have g0 := fun d os => cell_regrown c0 d os
  have g1 := fun d os => cell_regrown c1 d os
  have g2 := fun d os => cell_regrown c2 d os
  have g3 := fun d os => cell_regrown c3 d os
  clear c0 c1 c2 c3
  refine wp_region_below_tail 6 (by kernel_rfl) (by kernel_rfl) ?_
  simp only [List.take_succ_cons, List.take_zero, List.drop_succ_cons, List.drop_zero]
  repeat (first
    | go_big_quiet_step ((first
        | (go_at_call 29; (with_reducible exact Calls.regrown_of (C _ _ _).out))
        | (go_at_call 32; (with_reducible exact Calls.regrown_of (C2 _).out))))
    | quiet_step ((first
        | (go_at_call 29; (with_reducible exact Calls.regrown_of (C _ _ _).out))
        | (go_at_call 32; (with_reducible exact Calls.regrown_of (C2 _).out)))))
  refine wpQuiet_nil ?_
  intro v hv
  have hb := below_of_regrown hv
  clear hv g0 g1 g2 g3
  obtain ⟨_, _, _, _, c4, c5, f0, f1, hw⟩ := keep3 HS.out hb
  go_wp2_with fail
  obtain ⟨d0, d1⟩ := set2c (x := .int .i64 (rs (rs a + rs c))) (y := .int .i64 (rs (rs b + rs d))) c4 c5
  have hw2 := set2b (k := w.heap.size + 1 + 1) (x := .int .i64 (rs (rs a + rs c))) (y := .int .i64 (rs (rs b + rs d))) (by omega) hw
  generalize (v.setCell _ _).setCell _ _ = W2 at d0 d1 hw2 ⊢
  exact bodyPost_ret (v := .agg #[.int .i64 (rs (rs a + rs c)), .int .i64 (rs (rs b + rs d))]) (by simp [results, Tryd.results12, go_sem, d0, d1]) rfl ⟨rfl, hw2⟩

set_option maxHeartbeats 1000000 in
set_option maxRecDepth 100000 in
theorem sub_any (a b c d : Int) (w : World) : Calls Tryd.prog 14 #[.agg #[.int .i64 a, .int .i64 b], .agg #[.int .i64 c, .int .i64 d]] w fun e w' =>
    e = .returned (.agg #[.int .i64 (gSub (a, b) (c, d)).1, .int .i64 (gSub (a, b) (c, d)).2]) ∧ Below w.heap.size w w' := by
  have C := fun n m W => Lib.hid (number_any n m W)
  have ra := rs_bd a
  have rb := rs_bd b
  have rc := rs_bd c
  have rd := rs_bd d
  have k1 : ∀ w, (binOp .sub 37 (.complex .f64 (fw (rs a)) (fw (rs b))) (.complex .f64 (fw (rs c)) (fw (rs d)))).run Tryd.prog w = .ok (.complex .f64 (fw (rs a - rs c)) (fw (rs b - rs d))) w := fun w =>
    run_complex_sum w .sub (.inr rfl) _ _ _ _ _ _ _ _ (c_sum (sub_bits (by omega) (by omega)) (sub_bits (by omega) (by omega)))
  have C2 := fun W => Lib.hid (value_any (fw (rs a - rs c)) (fw (rs b - rs d)) (to_int (by omega)) (to_int (by omega)) W)
  clear ra rb rc rd
  go_enter Tryd.func14, Tryd.ntmps14
  go_wp2_with fail
  have hS := start3 w 23 (.int .i64 a) (.int .i64 b) (.int .i64 c) (.int .i64 d) (.int .i64 0) (.int .i64 0) _ rfl
  generalize ((w.alloc _).alloc _).alloc _ = W0 at hS ⊢
  have HS := Lib.hid hS
  obtain ⟨c0, c1, c2, c3, _, _, _, _, _⟩ := hS
  have g0 := fun d os => cell_regrown c0 d os
  have g1 := fun d os => cell_regrown c1 d os
  have g2 := fun d os => cell_regrown c2 d os
  have g3 := fun d os => cell_regrown c3 d os
  clear c0 c1 c2 c3
  refine wp_region_below_tail 6 (by kernel_rfl) (by kernel_rfl) ?_
  simp only [List.take_succ_cons, List.take_zero, List.drop_succ_cons, List.drop_zero]
  repeat (first
    | go_big_quiet_step ((first
        | (go_at_call 29; (with_reducible exact Calls.regrown_of (C _ _ _).out))
        | (go_at_call 32; (with_reducible exact Calls.regrown_of (C2 _).out))))
    | quiet_step ((first
        | (go_at_call 29; (with_reducible exact Calls.regrown_of (C _ _ _).out))
        | (go_at_call 32; (with_reducible exact Calls.regrown_of (C2 _).out)))))
  refine wpQuiet_nil ?_
  intro v hv
  have hb := below_of_regrown hv
  clear hv g0 g1 g2 g3
  obtain ⟨_, _, _, _, c4, c5, f0, f1, hw⟩ := keep3 HS.out hb
  go_wp2_with fail
  obtain ⟨d0, d1⟩ := set2c (x := .int .i64 (rs (rs a - rs c))) (y := .int .i64 (rs (rs b - rs d))) c4 c5
  have hw2 := set2b (k := w.heap.size + 1 + 1) (x := .int .i64 (rs (rs a - rs c))) (y := .int .i64 (rs (rs b - rs d))) (by omega) hw
  generalize (v.setCell _ _).setCell _ _ = W2 at d0 d1 hw2 ⊢
  exact bodyPost_ret (v := .agg #[.int .i64 (rs (rs a - rs c)), .int .i64 (rs (rs b - rs d))]) (by simp [results, Tryd.results14, go_sem, d0, d1]) rfl ⟨rfl, hw2⟩

set_option maxHeartbeats 1000000 in
set_option maxRecDepth 100000 in
theorem mul_any (a b c d : Int) (w : World) : Calls Tryd.prog 16 #[.agg #[.int .i64 a, .int .i64 b], .agg #[.int .i64 c, .int .i64 d]] w fun e w' =>
    e = .returned (.agg #[.int .i64 (gMul (a, b) (c, d)).1, .int .i64 (gMul (a, b) (c, d)).2]) ∧ Below w.heap.size w w' := by
  have C := fun n m W => Lib.hid (number_any n m W)
  have ra := rs_bd a
  have rb := rs_bd b
  have rc := rs_bd c
  have rd := rs_bd d
  have m1 := mul_bd ra.1 rc.1 ra.2 rc.2
  have m2 := mul_bd rb.1 rd.1 rb.2 rd.2
  have m3 := mul_bd ra.1 rd.1 ra.2 rd.2
  have m4 := mul_bd rb.1 rc.1 rb.2 rc.2
  have k1 : ∀ w, (binOp .mul 37 (.complex .f64 (fw (rs a)) (fw (rs b))) (.complex .f64 (fw (rs c)) (fw (rs d)))).run Tryd.prog w = .ok (.complex .f64 (fw (rs a * rs c - rs b * rs d)) (fw (rs a * rs d + rs b * rs c))) w := fun w =>
    run_complex_mul w _ _ _ _ _ _ _ (c_mul ra rb rc rd)
  have C2 := fun W => Lib.hid (value_any (fw (rs a * rs c - rs b * rs d)) (fw (rs a * rs d + rs b * rs c)) (to_int (by omega)) (to_int (by omega)) W)
  clear m1 m2 m3 m4
  clear ra rb rc rd
  go_enter Tryd.func16, Tryd.ntmps16
  go_wp2_with fail
  have hS := start3 w 23 (.int .i64 a) (.int .i64 b) (.int .i64 c) (.int .i64 d) (.int .i64 0) (.int .i64 0) _ rfl
  generalize ((w.alloc _).alloc _).alloc _ = W0 at hS ⊢
  have HS := Lib.hid hS
  obtain ⟨c0, c1, c2, c3, _, _, _, _, _⟩ := hS
  have g0 := fun d os => cell_regrown c0 d os
  have g1 := fun d os => cell_regrown c1 d os
  have g2 := fun d os => cell_regrown c2 d os
  have g3 := fun d os => cell_regrown c3 d os
  clear c0 c1 c2 c3
  refine wp_region_below_tail 6 (by kernel_rfl) (by kernel_rfl) ?_
  simp only [List.take_succ_cons, List.take_zero, List.drop_succ_cons, List.drop_zero]
  repeat (first
    | go_big_quiet_step ((first
        | (go_at_call 29; (with_reducible exact Calls.regrown_of (C _ _ _).out))
        | (go_at_call 32; (with_reducible exact Calls.regrown_of (C2 _).out))))
    | quiet_step ((first
        | (go_at_call 29; (with_reducible exact Calls.regrown_of (C _ _ _).out))
        | (go_at_call 32; (with_reducible exact Calls.regrown_of (C2 _).out)))))
  refine wpQuiet_nil ?_
  intro v hv
  have hb := below_of_regrown hv
  clear hv g0 g1 g2 g3
  obtain ⟨_, _, _, _, c4, c5, f0, f1, hw⟩ := keep3 HS.out hb
  go_wp2_with fail
  obtain ⟨d0, d1⟩ := set2c (x := .int .i64 (rs (rs a * rs c - rs b * rs d))) (y := .int .i64 (rs (rs a * rs d + rs b * rs c))) c4 c5
  have hw2 := set2b (k := w.heap.size + 1 + 1) (x := .int .i64 (rs (rs a * rs c - rs b * rs d))) (y := .int .i64 (rs (rs a * rs d + rs b * rs c))) (by omega) hw
  generalize (v.setCell _ _).setCell _ _ = W2 at d0 d1 hw2 ⊢
  exact bodyPost_ret (v := .agg #[.int .i64 (rs (rs a * rs c - rs b * rs d)), .int .i64 (rs (rs a * rs d + rs b * rs c))]) (by simp [results, Tryd.results16, go_sem, d0, d1]) rfl ⟨rfl, hw2⟩

end Go.Proofs.YthnnmgjehpapiaaDoor
