/- Layer 6: whether an instruction may be, as the document has it. -/
import Derived.Test.YtjibkgildfjjoaaDoorzHd
import Derived.Test.YtjibkgildfjjoaaDoorzQt
import Derived.BigQuiet
import Derived.Lib.QuietBelow
namespace Go.Proofs.YtjibkgildfjjoaaDoor
set_option linter.unusedVariables false
set_option linter.unusedSimpArgs false
open Go.RowKit Go.ChangeShapes Go.WideShapes Go.ChangeAt Go.Sort

/-- Three cells of a new block, in whatever world that has grown out of it. -/
theorem three_grown (w : World) (x y z : Value) (t : TypeId) (d : Nat) (os : Array Obj) :
    (grow (redrawn (w.alloc (.cells #[x, y, z] t)) d) os).cell? ⟨w.heap.size, 0, none⟩ = some x ∧ (grow (redrawn (w.alloc (.cells #[x, y, z] t)) d) os).cell? ⟨w.heap.size, 1, none⟩ = some y ∧
    (grow (redrawn (w.alloc (.cells #[x, y, z] t)) d) os).cell? ⟨w.heap.size, 2, none⟩ = some z :=
  ⟨cell_regrown ((Held.new w t #[x, y, z]).cell 0) d os, cell_regrown ((Held.new w t #[x, y, z]).cell 1) d os, cell_regrown ((Held.new w t #[x, y, z]).cell 2) d os⟩

set_option maxHeartbeats 4000000 in
set_option maxRecDepth 100000 in
theorem rmay0 (o a b m0 m1 : Int) (x0 x1 m : Bool) (hF : Cs Tryd.prog 67 #[.int .i64 o] (.int .i64 0)) (h0 : Cs Tryd.prog 81 #[.int .i64 o, .int .i64 0] (.int .i64 m0))
    (h1 : Cs Tryd.prog 81 #[.int .i64 o, .int .i64 1] (.int .i64 m1)) (k0 : decide (a ≤ m0) = x0) (k1 : decide (b ≤ m1) = x1)
    (hm : m = true ↔ 0 ≤ o ∧ o ≤ 16 ∧ 0 ≤ a ∧ 0 ≤ b ∧ b = 0 ∧ a = 0 ∧ (o = 16 → 16 ≤ a) ∧ True) : Ct Tryd.prog 66 #[.agg #[.int .i64 o, .int .i64 a, .int .i64 b]] (.bool m) := fun w => by
  have HM := Lib.hid hm
  clear hm
  skip
  all_goals
    go_enter Tryd.func66, Tryd.ntmps66
    go_wp2_with (go_at_call 67; (with_reducible refine (hF.go _).mono ?_); rintro e v ⟨rfl, rfl⟩)
    all_goals first
      | (go_ret; refine ⟨ret_bool ?_, by go_grown⟩; rw [Bool.eq_iff_iff, HM.out]; first | (simp; done) | (simp; omega) | (simp only [beq_iff_eq, beq_eq_false_iff_ne, ne_eq, bne_iff_ne, bne_eq_false_iff_eq, reduceCtorEq] at *; first | omega | (simp; done) | (simp; omega)))
      | (subst_vars; have g0 := fun x y z t d os => (three_grown w x y z t d os).1; have g1 := fun x y z t d os => (three_grown w x y z t d os).2.1; have g2 := fun x y z t d os => (three_grown w x y z t d os).2.2
         refine wp_region_quiet_below (by kernel_rfl) (by kernel_rfl) ?_
         (repeat (first
           | go_big_quiet_step ((first
               | (go_at_call 81; (with_reducible exact Calls.regrown_same (h0.go _)))
               | (go_at_call 81; (with_reducible exact Calls.regrown_same (h1.go _)))))
           | quiet_step ((first
               | (go_at_call 81; (with_reducible exact Calls.regrown_same (h0.go _)))
               | (go_at_call 81; (with_reducible exact Calls.regrown_same (h1.go _)))))))
         refine wpQuiet_nil ?_
         intro v hv
         have hb := below_of_regrown hv
         clear hv g0 g1 g2
         go_wp2_with fail
         go_ret
         refine ⟨ret_bool ?_, below_laid hb⟩
         rw [Bool.eq_iff_iff, HM.out]; first | (simp; done) | (simp; omega) | (simp only [beq_iff_eq, beq_eq_false_iff_ne, ne_eq, bne_iff_ne, bne_eq_false_iff_eq, reduceCtorEq] at *; first | omega | (simp; done) | (simp; omega)))

set_option maxHeartbeats 4000000 in
set_option maxRecDepth 100000 in
theorem rmay1 (o a b m0 m1 : Int) (x0 x1 m : Bool) (hF : Cs Tryd.prog 67 #[.int .i64 o] (.int .i64 1)) (h0 : Cs Tryd.prog 81 #[.int .i64 o, .int .i64 0] (.int .i64 m0))
    (h1 : Cs Tryd.prog 81 #[.int .i64 o, .int .i64 1] (.int .i64 m1)) (k0 : decide (a ≤ m0) = x0) (k1 : decide (b ≤ m1) = x1)
    (hm : m = true ↔ 0 ≤ o ∧ o ≤ 16 ∧ 0 ≤ a ∧ 0 ≤ b ∧ b = 0 ∧ (o = 16 → 16 ≤ a) ∧ x0 = true ∧ True) : Ct Tryd.prog 66 #[.agg #[.int .i64 o, .int .i64 a, .int .i64 b]] (.bool m) := fun w => by
  have HM := Lib.hid hm
  clear hm
  cases x0
  all_goals
    go_enter Tryd.func66, Tryd.ntmps66
    go_wp2_with (go_at_call 67; (with_reducible refine (hF.go _).mono ?_); rintro e v ⟨rfl, rfl⟩)
    all_goals first
      | (go_ret; refine ⟨ret_bool ?_, by go_grown⟩; rw [Bool.eq_iff_iff, HM.out]; first | (simp; done) | (simp; omega) | (simp only [beq_iff_eq, beq_eq_false_iff_ne, ne_eq, bne_iff_ne, bne_eq_false_iff_eq, reduceCtorEq] at *; first | omega | (simp; done) | (simp; omega)))
      | (subst_vars; have g0 := fun x y z t d os => (three_grown w x y z t d os).1; have g1 := fun x y z t d os => (three_grown w x y z t d os).2.1; have g2 := fun x y z t d os => (three_grown w x y z t d os).2.2
         refine wp_region_quiet_below (by kernel_rfl) (by kernel_rfl) ?_
         (repeat (first
           | go_big_quiet_step ((first
               | (go_at_call 81; (with_reducible exact Calls.regrown_same (h0.go _)))
               | (go_at_call 81; (with_reducible exact Calls.regrown_same (h1.go _)))))
           | quiet_step ((first
               | (go_at_call 81; (with_reducible exact Calls.regrown_same (h0.go _)))
               | (go_at_call 81; (with_reducible exact Calls.regrown_same (h1.go _)))))))
         refine wpQuiet_nil ?_
         intro v hv
         have hb := below_of_regrown hv
         clear hv g0 g1 g2
         go_wp2_with fail
         go_ret
         refine ⟨ret_bool ?_, below_laid hb⟩
         rw [Bool.eq_iff_iff, HM.out]; first | (simp; done) | (simp; omega) | (simp only [beq_iff_eq, beq_eq_false_iff_ne, ne_eq, bne_iff_ne, bne_eq_false_iff_eq, reduceCtorEq] at *; first | omega | (simp; done) | (simp; omega)))

set_option maxHeartbeats 4000000 in
set_option maxRecDepth 100000 in
theorem rmay2 (o a b m0 m1 : Int) (x0 x1 m : Bool) (hF : Cs Tryd.prog 67 #[.int .i64 o] (.int .i64 2)) (h0 : Cs Tryd.prog 81 #[.int .i64 o, .int .i64 0] (.int .i64 m0))
    (h1 : Cs Tryd.prog 81 #[.int .i64 o, .int .i64 1] (.int .i64 m1)) (k0 : decide (a ≤ m0) = x0) (k1 : decide (b ≤ m1) = x1)
    (hm : m = true ↔ 0 ≤ o ∧ o ≤ 16 ∧ 0 ≤ a ∧ 0 ≤ b ∧ (o = 16 → 16 ≤ a) ∧ x0 = true ∧ x1 = true ∧ True) : Ct Tryd.prog 66 #[.agg #[.int .i64 o, .int .i64 a, .int .i64 b]] (.bool m) := fun w => by
  have HM := Lib.hid hm
  clear hm
  cases x0 <;> cases x1
  all_goals
    go_enter Tryd.func66, Tryd.ntmps66
    go_wp2_with (go_at_call 67; (with_reducible refine (hF.go _).mono ?_); rintro e v ⟨rfl, rfl⟩)
    all_goals first
      | (go_ret; refine ⟨ret_bool ?_, by go_grown⟩; rw [Bool.eq_iff_iff, HM.out]; first | (simp; done) | (simp; omega) | (simp only [beq_iff_eq, beq_eq_false_iff_ne, ne_eq, bne_iff_ne, bne_eq_false_iff_eq, reduceCtorEq] at *; first | omega | (simp; done) | (simp; omega)))
      | (subst_vars; have g0 := fun x y z t d os => (three_grown w x y z t d os).1; have g1 := fun x y z t d os => (three_grown w x y z t d os).2.1; have g2 := fun x y z t d os => (three_grown w x y z t d os).2.2
         refine wp_region_quiet_below (by kernel_rfl) (by kernel_rfl) ?_
         (repeat (first
           | go_big_quiet_step ((first
               | (go_at_call 81; (with_reducible exact Calls.regrown_same (h0.go _)))
               | (go_at_call 81; (with_reducible exact Calls.regrown_same (h1.go _)))))
           | quiet_step ((first
               | (go_at_call 81; (with_reducible exact Calls.regrown_same (h0.go _)))
               | (go_at_call 81; (with_reducible exact Calls.regrown_same (h1.go _)))))))
         refine wpQuiet_nil ?_
         intro v hv
         have hb := below_of_regrown hv
         clear hv g0 g1 g2
         go_wp2_with fail
         go_ret
         refine ⟨ret_bool ?_, below_laid hb⟩
         rw [Bool.eq_iff_iff, HM.out]; first | (simp; done) | (simp; omega) | (simp only [beq_iff_eq, beq_eq_false_iff_ne, ne_eq, bne_iff_ne, bne_eq_false_iff_eq, reduceCtorEq] at *; first | omega | (simp; done) | (simp; omega)))

end Go.Proofs.YtjibkgildfjjoaaDoor

/- Layer 6: whether an instruction may be: the document's answer at every input. -/
namespace Go.Proofs.YtjibkgildfjjoaaDoor
set_option linter.unusedVariables false
set_option linter.unusedSimpArgs false
open Go.RowKit Go.ChangeShapes Go.WideShapes Go.ChangeAt Go.Sort

theorem rmay_any (o a b : Int) : Ct Tryd.prog 66 #[iv o a b] (.bool (mayZ o a b)) := by
  rcases okZ_cases o with ⟨k, hk, rfl⟩ | hn
  · have hk2 : k = 0 ∨ k = 1 ∨ k = 2 ∨ k = 3 ∨ k = 4 ∨ k = 5 ∨ k = 6 ∨ k = 7 ∨ k = 8 ∨ k = 9 ∨ k = 10 ∨ k = 11 ∨ k = 12 ∨ k = 13 ∨ k = 14 ∨ k = 15 ∨ k = 16 := by omega
    rcases hk2 with rfl | rfl | rfl | rfl | rfl | rfl | rfl | rfl | rfl | rfl | rfl | rfl | rfl | rfl | rfl | rfl | rfl
    · have F := rfields_any ((0 : Nat) : Int)
      have h0 := most_any ((0 : Nat) : Int) 0
      have h1 := most_any ((0 : Nat) : Int) 1
      have e : rz ((0 : Nat) : Int) = ⟨⟨#[112, 117, 115, 104]⟩, 2, 0, 1, 0, 250, 250⟩ := by kernel_rfl
      have hm : mayZ ((0 : Nat) : Int) a b = (true && (decide (0 ≤ a) && decide (a ≤ 250)) && (decide (0 ≤ b) && decide (b ≤ 250))) := by unfold mayZ; rw [e]; rfl
      rw [e] at F
      rw [show mostZ ((0 : Nat) : Int) 0 = 250 by kernel_rfl] at h0
      rw [show mostZ ((0 : Nat) : Int) 1 = 250 by kernel_rfl] at h1
      exact rmay2 _ a b _ _ _ _ _ F h0 h1 rfl rfl (by rw [hm]; first | (simp; done) | (simp; omega))
    · have F := rfields_any ((1 : Nat) : Int)
      have h0 := most_any ((1 : Nat) : Int) 0
      have h1 := most_any ((1 : Nat) : Int) 1
      have e : rz ((1 : Nat) : Int) = ⟨⟨#[108, 111, 97, 100]⟩, 1, 0, 1, 0, 15, 0⟩ := by kernel_rfl
      have hm : mayZ ((1 : Nat) : Int) a b = (true && (decide (0 ≤ a) && decide (a ≤ 15)) && (decide (0 ≤ b) && decide (b ≤ 0))) := by unfold mayZ; rw [e]; rfl
      rw [e] at F
      rw [show mostZ ((1 : Nat) : Int) 0 = 15 by kernel_rfl] at h0
      rw [show mostZ ((1 : Nat) : Int) 1 = 15 by kernel_rfl] at h1
      exact rmay1 _ a b _ _ _ _ _ F h0 h1 rfl rfl (by rw [hm]; first | (simp; done) | (simp; omega))
    · have F := rfields_any ((2 : Nat) : Int)
      have h0 := most_any ((2 : Nat) : Int) 0
      have h1 := most_any ((2 : Nat) : Int) 1
      have e : rz ((2 : Nat) : Int) = ⟨⟨#[115, 116, 111, 114, 101]⟩, 1, 1, 0, 0, 15, 0⟩ := by kernel_rfl
      have hm : mayZ ((2 : Nat) : Int) a b = (true && (decide (0 ≤ a) && decide (a ≤ 15)) && (decide (0 ≤ b) && decide (b ≤ 0))) := by unfold mayZ; rw [e]; rfl
      rw [e] at F
      rw [show mostZ ((2 : Nat) : Int) 0 = 15 by kernel_rfl] at h0
      rw [show mostZ ((2 : Nat) : Int) 1 = 15 by kernel_rfl] at h1
      exact rmay1 _ a b _ _ _ _ _ F h0 h1 rfl rfl (by rw [hm]; first | (simp; done) | (simp; omega))
    · have F := rfields_any ((3 : Nat) : Int)
      have h0 := most_any ((3 : Nat) : Int) 0
      have h1 := most_any ((3 : Nat) : Int) 1
      have e : rz ((3 : Nat) : Int) = ⟨⟨#[97, 100, 100]⟩, 0, 2, 1, 0, 0, 0⟩ := by kernel_rfl
      have hm : mayZ ((3 : Nat) : Int) a b = (true && (decide (0 ≤ a) && decide (a ≤ 0)) && (decide (0 ≤ b) && decide (b ≤ 0))) := by unfold mayZ; rw [e]; rfl
      rw [e] at F
      rw [show mostZ ((3 : Nat) : Int) 0 = 255 by kernel_rfl] at h0
      rw [show mostZ ((3 : Nat) : Int) 1 = 255 by kernel_rfl] at h1
      exact rmay0 _ a b _ _ _ _ _ F h0 h1 rfl rfl (by rw [hm]; first | (simp; done) | (simp; omega))
    · have F := rfields_any ((4 : Nat) : Int)
      have h0 := most_any ((4 : Nat) : Int) 0
      have h1 := most_any ((4 : Nat) : Int) 1
      have e : rz ((4 : Nat) : Int) = ⟨⟨#[115, 117, 98]⟩, 0, 2, 1, 0, 0, 0⟩ := by kernel_rfl
      have hm : mayZ ((4 : Nat) : Int) a b = (true && (decide (0 ≤ a) && decide (a ≤ 0)) && (decide (0 ≤ b) && decide (b ≤ 0))) := by unfold mayZ; rw [e]; rfl
      rw [e] at F
      rw [show mostZ ((4 : Nat) : Int) 0 = 255 by kernel_rfl] at h0
      rw [show mostZ ((4 : Nat) : Int) 1 = 255 by kernel_rfl] at h1
      exact rmay0 _ a b _ _ _ _ _ F h0 h1 rfl rfl (by rw [hm]; first | (simp; done) | (simp; omega))
    · have F := rfields_any ((5 : Nat) : Int)
      have h0 := most_any ((5 : Nat) : Int) 0
      have h1 := most_any ((5 : Nat) : Int) 1
      have e : rz ((5 : Nat) : Int) = ⟨⟨#[109, 117, 108]⟩, 0, 2, 1, 0, 0, 0⟩ := by kernel_rfl
      have hm : mayZ ((5 : Nat) : Int) a b = (true && (decide (0 ≤ a) && decide (a ≤ 0)) && (decide (0 ≤ b) && decide (b ≤ 0))) := by unfold mayZ; rw [e]; rfl
      rw [e] at F
      rw [show mostZ ((5 : Nat) : Int) 0 = 255 by kernel_rfl] at h0
      rw [show mostZ ((5 : Nat) : Int) 1 = 255 by kernel_rfl] at h1
      exact rmay0 _ a b _ _ _ _ _ F h0 h1 rfl rfl (by rw [hm]; first | (simp; done) | (simp; omega))
    · have F := rfields_any ((6 : Nat) : Int)
      have h0 := most_any ((6 : Nat) : Int) 0
      have h1 := most_any ((6 : Nat) : Int) 1
      have e : rz ((6 : Nat) : Int) = ⟨⟨#[100, 105, 118]⟩, 0, 2, 1, 0, 0, 0⟩ := by kernel_rfl
      have hm : mayZ ((6 : Nat) : Int) a b = (true && (decide (0 ≤ a) && decide (a ≤ 0)) && (decide (0 ≤ b) && decide (b ≤ 0))) := by unfold mayZ; rw [e]; rfl
      rw [e] at F
      rw [show mostZ ((6 : Nat) : Int) 0 = 255 by kernel_rfl] at h0
      rw [show mostZ ((6 : Nat) : Int) 1 = 255 by kernel_rfl] at h1
      exact rmay0 _ a b _ _ _ _ _ F h0 h1 rfl rfl (by rw [hm]; first | (simp; done) | (simp; omega))
    · have F := rfields_any ((7 : Nat) : Int)
      have h0 := most_any ((7 : Nat) : Int) 0
      have h1 := most_any ((7 : Nat) : Int) 1
      have e : rz ((7 : Nat) : Int) = ⟨⟨#[99, 111, 110, 106]⟩, 0, 1, 1, 0, 0, 0⟩ := by kernel_rfl
      have hm : mayZ ((7 : Nat) : Int) a b = (true && (decide (0 ≤ a) && decide (a ≤ 0)) && (decide (0 ≤ b) && decide (b ≤ 0))) := by unfold mayZ; rw [e]; rfl
      rw [e] at F
      rw [show mostZ ((7 : Nat) : Int) 0 = 255 by kernel_rfl] at h0
      rw [show mostZ ((7 : Nat) : Int) 1 = 255 by kernel_rfl] at h1
      exact rmay0 _ a b _ _ _ _ _ F h0 h1 rfl rfl (by rw [hm]; first | (simp; done) | (simp; omega))
    · have F := rfields_any ((8 : Nat) : Int)
      have h0 := most_any ((8 : Nat) : Int) 0
      have h1 := most_any ((8 : Nat) : Int) 1
      have e : rz ((8 : Nat) : Int) = ⟨⟨#[100, 117, 112]⟩, 0, 1, 2, 0, 0, 0⟩ := by kernel_rfl
      have hm : mayZ ((8 : Nat) : Int) a b = (true && (decide (0 ≤ a) && decide (a ≤ 0)) && (decide (0 ≤ b) && decide (b ≤ 0))) := by unfold mayZ; rw [e]; rfl
      rw [e] at F
      rw [show mostZ ((8 : Nat) : Int) 0 = 255 by kernel_rfl] at h0
      rw [show mostZ ((8 : Nat) : Int) 1 = 255 by kernel_rfl] at h1
      exact rmay0 _ a b _ _ _ _ _ F h0 h1 rfl rfl (by rw [hm]; first | (simp; done) | (simp; omega))
    · have F := rfields_any ((9 : Nat) : Int)
      have h0 := most_any ((9 : Nat) : Int) 0
      have h1 := most_any ((9 : Nat) : Int) 1
      have e : rz ((9 : Nat) : Int) = ⟨⟨#[100, 114, 111, 112]⟩, 0, 1, 0, 0, 0, 0⟩ := by kernel_rfl
      have hm : mayZ ((9 : Nat) : Int) a b = (true && (decide (0 ≤ a) && decide (a ≤ 0)) && (decide (0 ≤ b) && decide (b ≤ 0))) := by unfold mayZ; rw [e]; rfl
      rw [e] at F
      rw [show mostZ ((9 : Nat) : Int) 0 = 255 by kernel_rfl] at h0
      rw [show mostZ ((9 : Nat) : Int) 1 = 255 by kernel_rfl] at h1
      exact rmay0 _ a b _ _ _ _ _ F h0 h1 rfl rfl (by rw [hm]; first | (simp; done) | (simp; omega))
    · have F := rfields_any ((10 : Nat) : Int)
      have h0 := most_any ((10 : Nat) : Int) 0
      have h1 := most_any ((10 : Nat) : Int) 1
      have e : rz ((10 : Nat) : Int) = ⟨⟨#[106, 117, 109, 112]⟩, 1, 0, 0, 0, 199, 0⟩ := by kernel_rfl
      have hm : mayZ ((10 : Nat) : Int) a b = (true && (decide (0 ≤ a) && decide (a ≤ 199)) && (decide (0 ≤ b) && decide (b ≤ 0))) := by unfold mayZ; rw [e]; rfl
      rw [e] at F
      rw [show mostZ ((10 : Nat) : Int) 0 = 199 by kernel_rfl] at h0
      rw [show mostZ ((10 : Nat) : Int) 1 = 199 by kernel_rfl] at h1
      exact rmay1 _ a b _ _ _ _ _ F h0 h1 rfl rfl (by rw [hm]; first | (simp; done) | (simp; omega))
    · have F := rfields_any ((11 : Nat) : Int)
      have h0 := most_any ((11 : Nat) : Int) 0
      have h1 := most_any ((11 : Nat) : Int) 1
      have e : rz ((11 : Nat) : Int) = ⟨⟨#[122, 101, 114, 111]⟩, 1, 1, 0, 0, 199, 0⟩ := by kernel_rfl
      have hm : mayZ ((11 : Nat) : Int) a b = (true && (decide (0 ≤ a) && decide (a ≤ 199)) && (decide (0 ≤ b) && decide (b ≤ 0))) := by unfold mayZ; rw [e]; rfl
      rw [e] at F
      rw [show mostZ ((11 : Nat) : Int) 0 = 199 by kernel_rfl] at h0
      rw [show mostZ ((11 : Nat) : Int) 1 = 199 by kernel_rfl] at h1
      exact rmay1 _ a b _ _ _ _ _ F h0 h1 rfl rfl (by rw [hm]; first | (simp; done) | (simp; omega))
    · have F := rfields_any ((12 : Nat) : Int)
      have h0 := most_any ((12 : Nat) : Int) 0
      have h1 := most_any ((12 : Nat) : Int) 1
      have e : rz ((12 : Nat) : Int) = ⟨⟨#[114, 97, 110, 100]⟩, 0, 0, 1, 0, 0, 0⟩ := by kernel_rfl
      have hm : mayZ ((12 : Nat) : Int) a b = (true && (decide (0 ≤ a) && decide (a ≤ 0)) && (decide (0 ≤ b) && decide (b ≤ 0))) := by unfold mayZ; rw [e]; rfl
      rw [e] at F
      rw [show mostZ ((12 : Nat) : Int) 0 = 255 by kernel_rfl] at h0
      rw [show mostZ ((12 : Nat) : Int) 1 = 255 by kernel_rfl] at h1
      exact rmay0 _ a b _ _ _ _ _ F h0 h1 rfl rfl (by rw [hm]; first | (simp; done) | (simp; omega))
    · have F := rfields_any ((13 : Nat) : Int)
      have h0 := most_any ((13 : Nat) : Int) 0
      have h1 := most_any ((13 : Nat) : Int) 1
      have e : rz ((13 : Nat) : Int) = ⟨⟨#[115, 112, 97, 119, 110]⟩, 2, 0, 0, 0, 15, 7⟩ := by kernel_rfl
      have hm : mayZ ((13 : Nat) : Int) a b = (true && (decide (0 ≤ a) && decide (a ≤ 15)) && (decide (0 ≤ b) && decide (b ≤ 7))) := by unfold mayZ; rw [e]; rfl
      rw [e] at F
      rw [show mostZ ((13 : Nat) : Int) 0 = 15 by kernel_rfl] at h0
      rw [show mostZ ((13 : Nat) : Int) 1 = 7 by kernel_rfl] at h1
      exact rmay2 _ a b _ _ _ _ _ F h0 h1 rfl rfl (by rw [hm]; first | (simp; done) | (simp; omega))
    · have F := rfields_any ((14 : Nat) : Int)
      have h0 := most_any ((14 : Nat) : Int) 0
      have h1 := most_any ((14 : Nat) : Int) 1
      have e : rz ((14 : Nat) : Int) = ⟨⟨#[106, 111, 105, 110]⟩, 1, 0, 1, 0, 7, 0⟩ := by kernel_rfl
      have hm : mayZ ((14 : Nat) : Int) a b = (true && (decide (0 ≤ a) && decide (a ≤ 7)) && (decide (0 ≤ b) && decide (b ≤ 0))) := by unfold mayZ; rw [e]; rfl
      rw [e] at F
      rw [show mostZ ((14 : Nat) : Int) 0 = 7 by kernel_rfl] at h0
      rw [show mostZ ((14 : Nat) : Int) 1 = 7 by kernel_rfl] at h1
      exact rmay1 _ a b _ _ _ _ _ F h0 h1 rfl rfl (by rw [hm]; first | (simp; done) | (simp; omega))
    · have F := rfields_any ((15 : Nat) : Int)
      have h0 := most_any ((15 : Nat) : Int) 0
      have h1 := most_any ((15 : Nat) : Int) 1
      have e : rz ((15 : Nat) : Int) = ⟨⟨#[114, 101, 116]⟩, 0, 1, 0, 0, 0, 0⟩ := by kernel_rfl
      have hm : mayZ ((15 : Nat) : Int) a b = (true && (decide (0 ≤ a) && decide (a ≤ 0)) && (decide (0 ≤ b) && decide (b ≤ 0))) := by unfold mayZ; rw [e]; rfl
      rw [e] at F
      rw [show mostZ ((15 : Nat) : Int) 0 = 255 by kernel_rfl] at h0
      rw [show mostZ ((15 : Nat) : Int) 1 = 255 by kernel_rfl] at h1
      exact rmay0 _ a b _ _ _ _ _ F h0 h1 rfl rfl (by rw [hm]; first | (simp; done) | (simp; omega))
    · have F := rfields_any ((16 : Nat) : Int)
      have h0 := most_any ((16 : Nat) : Int) 0
      have h1 := most_any ((16 : Nat) : Int) 1
      have e : rz ((16 : Nat) : Int) = ⟨⟨#[116, 114, 97, 112]⟩, 1, 0, 0, 16, 255, 0⟩ := by kernel_rfl
      have hm : mayZ ((16 : Nat) : Int) a b = (true && (decide (16 ≤ a) && decide (a ≤ 255)) && (decide (0 ≤ b) && decide (b ≤ 0))) := by unfold mayZ; rw [e]; rfl
      rw [e] at F
      rw [show mostZ ((16 : Nat) : Int) 0 = 255 by kernel_rfl] at h0
      rw [show mostZ ((16 : Nat) : Int) 1 = 255 by kernel_rfl] at h1
      exact rmay1 _ a b _ _ _ _ _ F h0 h1 rfl rfl (by rw [hm]; first | (simp; done) | (simp; omega))
  · have F := rfields_any o
    have hm : mayZ o a b = false := by unfold mayZ; rw [hn]; rfl
    have := okO_no hn
    rw [rz_out hn] at F
    exact rmay0 _ a b _ _ _ _ _ F (most_any o 0) (most_any o 1) rfl rfl (by rw [hm]; simp; omega)
end Go.Proofs.YtjibkgildfjjoaaDoor

