/- Layer 6: whether an instruction may be, as the document has it. -/
import Derived.Test.YtdbmpcdianjaaaaDoorzGf
import Derived.Test.YtdbmpcdianjaaaaDoorzGc
import Derived.BigQuiet
import Derived.Lib.QuietBelow
namespace Go.Proofs.YtdbmpcdianjaaaaDoor
set_option linter.unusedVariables false
set_option linter.unusedSimpArgs false
open Go.RowKit Go.ChangeShapes Go.WideShapes Go.ChangeAt Go.Sort

/-- Three cells of a new block, in whatever world that has grown out of it. -/
theorem three_grown (w : World) (x y z : Value) (t : TypeId) (d : Nat) (os : Array Obj) :
    (grow (redrawn (w.alloc (.cells #[x, y, z] t)) d) os).cell? ⟨w.heap.size, 0, none⟩ = some x ∧ (grow (redrawn (w.alloc (.cells #[x, y, z] t)) d) os).cell? ⟨w.heap.size, 1, none⟩ = some y ∧
    (grow (redrawn (w.alloc (.cells #[x, y, z] t)) d) os).cell? ⟨w.heap.size, 2, none⟩ = some z :=
  ⟨cell_regrown ((Held.new w t #[x, y, z]).cell 0) d os, cell_regrown ((Held.new w t #[x, y, z]).cell 1) d os, cell_regrown ((Held.new w t #[x, y, z]).cell 2) d os⟩

set_option maxHeartbeats 4000000 in
set_option maxRecDepth 100000 in
theorem rmay0 (o a b m0 m1 : Int) (x0 x1 m : Bool) (hF : Cs Tryd.prog 31 #[.int .i64 o] (.int .i64 0)) (h0 : Cs Tryd.prog 32 #[.int .i64 o, .int .i64 0] (.int .i64 m0))
    (h1 : Cs Tryd.prog 32 #[.int .i64 o, .int .i64 1] (.int .i64 m1)) (k0 : decide (a ≤ m0) = x0) (k1 : decide (b ≤ m1) = x1)
    (hm : m = true ↔ 0 ≤ o ∧ o ≤ 16 ∧ 0 ≤ a ∧ 0 ≤ b ∧ b = 0 ∧ a = 0 ∧ (o = 16 → 16 ≤ a) ∧ True) : Ct Tryd.prog 20 #[.agg #[.int .i64 o, .int .i64 a, .int .i64 b]] (.bool m) := fun w => by
  have HM := Lib.hid hm
  clear hm
  skip
  all_goals
    go_enter Tryd.func20, Tryd.ntmps20
    go_wp2_with (go_at_call 31; (with_reducible refine (hF.go _).mono ?_); rintro e v ⟨rfl, rfl⟩)
    all_goals first
      | (go_ret; refine ⟨ret_bool ?_, by go_grown⟩; rw [Bool.eq_iff_iff, HM.out]; first | (simp; done) | (simp; omega) | (simp only [beq_iff_eq, beq_eq_false_iff_ne, ne_eq, bne_iff_ne, bne_eq_false_iff_eq, reduceCtorEq] at *; first | omega | (simp; done) | (simp; omega)))
      | (subst_vars; have g0 := fun x y z t d os => (three_grown w x y z t d os).1; have g1 := fun x y z t d os => (three_grown w x y z t d os).2.1; have g2 := fun x y z t d os => (three_grown w x y z t d os).2.2
         refine wp_region_quiet_below (by kernel_rfl) (by kernel_rfl) ?_
         (repeat (first
           | go_big_quiet_step ((first
               | (go_at_call 32; (with_reducible exact Calls.regrown_same (h0.go _)))
               | (go_at_call 32; (with_reducible exact Calls.regrown_same (h1.go _)))))
           | quiet_step ((first
               | (go_at_call 32; (with_reducible exact Calls.regrown_same (h0.go _)))
               | (go_at_call 32; (with_reducible exact Calls.regrown_same (h1.go _)))))))
         refine wpQuiet_nil ?_
         intro v hv
         have hb := below_of_regrown hv
         clear hv g0 g1 g2
         go_wp2_with fail
         go_ret
         refine ⟨ret_bool ?_, below_laid hb⟩
         rw [Bool.eq_iff_iff, HM.out]; first | (simp; done) | (simp; omega) | (simp only [beq_iff_eq, beq_eq_false_iff_ne, ne_eq, bne_iff_ne, bne_eq_false_iff_eq, reduceCtorEq] at *; first | omega | (simp; done) | (simp; omega)))

set_option maxHeartbeats 4000000 in
set_option maxRecDepth 100000 in
theorem rmay1 (o a b m0 m1 : Int) (x0 x1 m : Bool) (hF : Cs Tryd.prog 31 #[.int .i64 o] (.int .i64 1)) (h0 : Cs Tryd.prog 32 #[.int .i64 o, .int .i64 0] (.int .i64 m0))
    (h1 : Cs Tryd.prog 32 #[.int .i64 o, .int .i64 1] (.int .i64 m1)) (k0 : decide (a ≤ m0) = x0) (k1 : decide (b ≤ m1) = x1)
    (hm : m = true ↔ 0 ≤ o ∧ o ≤ 16 ∧ 0 ≤ a ∧ 0 ≤ b ∧ b = 0 ∧ (o = 16 → 16 ≤ a) ∧ x0 = true ∧ True) : Ct Tryd.prog 20 #[.agg #[.int .i64 o, .int .i64 a, .int .i64 b]] (.bool m) := fun w => by
  have HM := Lib.hid hm
  clear hm
  cases x0
  all_goals
    go_enter Tryd.func20, Tryd.ntmps20
    go_wp2_with (go_at_call 31; (with_reducible refine (hF.go _).mono ?_); rintro e v ⟨rfl, rfl⟩)
    all_goals first
      | (go_ret; refine ⟨ret_bool ?_, by go_grown⟩; rw [Bool.eq_iff_iff, HM.out]; first | (simp; done) | (simp; omega) | (simp only [beq_iff_eq, beq_eq_false_iff_ne, ne_eq, bne_iff_ne, bne_eq_false_iff_eq, reduceCtorEq] at *; first | omega | (simp; done) | (simp; omega)))
      | (subst_vars; have g0 := fun x y z t d os => (three_grown w x y z t d os).1; have g1 := fun x y z t d os => (three_grown w x y z t d os).2.1; have g2 := fun x y z t d os => (three_grown w x y z t d os).2.2
         refine wp_region_quiet_below (by kernel_rfl) (by kernel_rfl) ?_
         (repeat (first
           | go_big_quiet_step ((first
               | (go_at_call 32; (with_reducible exact Calls.regrown_same (h0.go _)))
               | (go_at_call 32; (with_reducible exact Calls.regrown_same (h1.go _)))))
           | quiet_step ((first
               | (go_at_call 32; (with_reducible exact Calls.regrown_same (h0.go _)))
               | (go_at_call 32; (with_reducible exact Calls.regrown_same (h1.go _)))))))
         refine wpQuiet_nil ?_
         intro v hv
         have hb := below_of_regrown hv
         clear hv g0 g1 g2
         go_wp2_with fail
         go_ret
         refine ⟨ret_bool ?_, below_laid hb⟩
         rw [Bool.eq_iff_iff, HM.out]; first | (simp; done) | (simp; omega) | (simp only [beq_iff_eq, beq_eq_false_iff_ne, ne_eq, bne_iff_ne, bne_eq_false_iff_eq, reduceCtorEq] at *; first | omega | (simp; done) | (simp; omega)))

set_option maxHeartbeats 4000000 in
set_option maxRecDepth 100000 in
theorem rmay2 (o a b m0 m1 : Int) (x0 x1 m : Bool) (hF : Cs Tryd.prog 31 #[.int .i64 o] (.int .i64 2)) (h0 : Cs Tryd.prog 32 #[.int .i64 o, .int .i64 0] (.int .i64 m0))
    (h1 : Cs Tryd.prog 32 #[.int .i64 o, .int .i64 1] (.int .i64 m1)) (k0 : decide (a ≤ m0) = x0) (k1 : decide (b ≤ m1) = x1)
    (hm : m = true ↔ 0 ≤ o ∧ o ≤ 16 ∧ 0 ≤ a ∧ 0 ≤ b ∧ (o = 16 → 16 ≤ a) ∧ x0 = true ∧ x1 = true ∧ True) : Ct Tryd.prog 20 #[.agg #[.int .i64 o, .int .i64 a, .int .i64 b]] (.bool m) := fun w => by
  have HM := Lib.hid hm
  clear hm
  cases x0 <;> cases x1
  all_goals
    go_enter Tryd.func20, Tryd.ntmps20
    go_wp2_with (go_at_call 31; (with_reducible refine (hF.go _).mono ?_); rintro e v ⟨rfl, rfl⟩)
    all_goals first
      | (go_ret; refine ⟨ret_bool ?_, by go_grown⟩; rw [Bool.eq_iff_iff, HM.out]; first | (simp; done) | (simp; omega) | (simp only [beq_iff_eq, beq_eq_false_iff_ne, ne_eq, bne_iff_ne, bne_eq_false_iff_eq, reduceCtorEq] at *; first | omega | (simp; done) | (simp; omega)))
      | (subst_vars; have g0 := fun x y z t d os => (three_grown w x y z t d os).1; have g1 := fun x y z t d os => (three_grown w x y z t d os).2.1; have g2 := fun x y z t d os => (three_grown w x y z t d os).2.2
         refine wp_region_quiet_below (by kernel_rfl) (by kernel_rfl) ?_
         (repeat (first
           | go_big_quiet_step ((first
               | (go_at_call 32; (with_reducible exact Calls.regrown_same (h0.go _)))
               | (go_at_call 32; (with_reducible exact Calls.regrown_same (h1.go _)))))
           | quiet_step ((first
               | (go_at_call 32; (with_reducible exact Calls.regrown_same (h0.go _)))
               | (go_at_call 32; (with_reducible exact Calls.regrown_same (h1.go _)))))))
         refine wpQuiet_nil ?_
         intro v hv
         have hb := below_of_regrown hv
         clear hv g0 g1 g2
         go_wp2_with fail
         go_ret
         refine ⟨ret_bool ?_, below_laid hb⟩
         rw [Bool.eq_iff_iff, HM.out]; first | (simp; done) | (simp; omega) | (simp only [beq_iff_eq, beq_eq_false_iff_ne, ne_eq, bne_iff_ne, bne_eq_false_iff_eq, reduceCtorEq] at *; first | omega | (simp; done) | (simp; omega)))

end Go.Proofs.YtdbmpcdianjaaaaDoor

