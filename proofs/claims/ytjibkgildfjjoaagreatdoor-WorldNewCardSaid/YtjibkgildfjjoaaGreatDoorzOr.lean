/- Layer 6: the document's own answers, at every input. -/
import Derived.Test.YtjibkgildfjjoaaGreatDoorRows
import Derived.Test.YtjibkgildfjjoaaGreatDoorzHd
import Derived.Test.YtjibkgildfjjoaaGreatDoorzOpl
import Derived.Test.YtjibkgildfjjoaaGreatDoorzQt
import Derived.BigQuiet
import Derived.Lib.QuietBelow
namespace Go.Proofs.YtjibkgildfjjoaaGreatDoor
set_option linter.unusedVariables false
set_option linter.unusedSimpArgs false
open Go.RowKit Go.ChangeShapes Go.WideShapes Go.ChangeAt Go.Sort

set_option maxHeartbeats 1000000 in
theorem rfields_any (n : Int) : Cs Tryz.prog 99 #[.int .i64 n] (.int .i64 (rz n).f) := fun w => by
  have hf : (n = 0 ∨ n = 13 → (rz n).f = 2) ∧ (n = 1 ∨ n = 2 ∨ n = 10 ∨ n = 11 ∨ n = 14 ∨ n = 16 → (rz n).f = 1) ∧ (¬ (n = 0 ∨ n = 13) → ¬ (n = 1 ∨ n = 2 ∨ n = 10 ∨ n = 11 ∨ n = 14 ∨ n = 16) → (rz n).f = 0) := by
    rcases okZ_cases n with ⟨k, hk, rfl⟩ | hn
    · rw [rz_in hk, f_of k hk]
      refine ⟨fun h => ?_, fun h => ?_, fun h h2 => ?_⟩
      · rw [if_pos (by omega)]
      · rw [if_neg (by omega), if_pos (by omega)]
      · rw [if_neg (by omega), if_neg (by omega)]
    · rw [rz_out hn]
      have := okO_no hn
      exact ⟨fun h => by omega, fun h => by omega, fun _ _ => rfl⟩
  generalize (rz n).f = f at *
  have H := Lib.hid hf
  clear hf
  go_enter Tryz.func99, Tryz.ntmps99
  go_wp2_with fail
  all_goals
    go_ret
    refine ⟨ret_int ?_, rfl⟩
    have := H.out
    simp only [beq_iff_eq, beq_eq_false_iff_ne, ne_eq] at *
    omega

set_option maxHeartbeats 1000000 in
theorem most_any (o j : Int) : Cs Tryz.prog 100 #[.int .i64 o, .int .i64 j] (.int .i64 (mostZ o j)) := fun w => by
  have hf : mostZ o j = if o = 0 then 250 else if o = 1 ∨ o = 2 then 15 else if o = 10 ∨ o = 11 then 199 else if o = 13 then (if j = 1 then 7 else 15) else if o = 14 then 7 else 255 := rfl
  generalize mostZ o j = f at *
  have H := Lib.hid hf
  clear hf
  go_enter Tryz.func100, Tryz.ntmps100
  go_wp2_with fail
  all_goals
    go_ret
    refine ⟨ret_int ?_, rfl⟩
    have := H.out
    simp only [beq_iff_eq, beq_eq_false_iff_ne, ne_eq] at *
    simp_all

/-- The names, in a list. -/
def nameArr : Array Value := (opTab.map fun r => .string r.nm).toArray
theorem nameArr_get {k : Nat} (hk : k < 17) : nameArr[k]? = some (.string (orow k).nm) := by
  unfold nameArr
  rw [List.getElem?_toArray, List.getElem?_map, opTab_get hk]
  rfl
set_option maxHeartbeats 1000000 in
set_option maxRecDepth 100000 in
theorem names_any (w : World) : Calls Tryz.prog 116 #[] w fun e w' => e = .returned (.slice (some ⟨w.heap.size, 0, none⟩) 17 17) ∧ Held w' w.heap.size 9 nameArr ∧ Below w.heap.size w w' := by
  go_enter Tryz.func116, Tryz.ntmps116
  go_wp2_with fail
  go_ret
  exact ⟨rfl, Held.new _ _ _, by go_grown⟩
end Go.Proofs.YtjibkgildfjjoaaGreatDoor

/- Layer 6: whether an instruction may be, as the document has it. -/
namespace Go.Proofs.YtjibkgildfjjoaaGreatDoor
set_option linter.unusedVariables false
set_option linter.unusedSimpArgs false
open Go.RowKit Go.ChangeShapes Go.WideShapes Go.ChangeAt Go.Sort

/-- Three cells of a new block, in whatever world that has grown out of it. -/
theorem three_grown (w : World) (x y z : Value) (t : TypeId) (d : Nat) (os : Array Obj) :
    (grow (redrawn (w.alloc (.cells #[x, y, z] t)) d) os).cell? ⟨w.heap.size, 0, none⟩ = some x ∧ (grow (redrawn (w.alloc (.cells #[x, y, z] t)) d) os).cell? ⟨w.heap.size, 1, none⟩ = some y ∧
    (grow (redrawn (w.alloc (.cells #[x, y, z] t)) d) os).cell? ⟨w.heap.size, 2, none⟩ = some z :=
  ⟨cell_regrown ((Held.new w t #[x, y, z]).cell 0) d os, cell_regrown ((Held.new w t #[x, y, z]).cell 1) d os, cell_regrown ((Held.new w t #[x, y, z]).cell 2) d os⟩

set_option maxHeartbeats 4000000 in
set_option maxRecDepth 100000 in
theorem rmay0 (o a b m0 m1 : Int) (x0 x1 m : Bool) (hF : Cs Tryz.prog 99 #[.int .i64 o] (.int .i64 0)) (h0 : Cs Tryz.prog 100 #[.int .i64 o, .int .i64 0] (.int .i64 m0))
    (h1 : Cs Tryz.prog 100 #[.int .i64 o, .int .i64 1] (.int .i64 m1)) (k0 : decide (a ≤ m0) = x0) (k1 : decide (b ≤ m1) = x1)
    (hm : m = true ↔ 0 ≤ o ∧ o ≤ 16 ∧ 0 ≤ a ∧ 0 ≤ b ∧ b = 0 ∧ a = 0 ∧ (o = 16 → 16 ≤ a) ∧ True) : Ct Tryz.prog 78 #[.agg #[.int .i64 o, .int .i64 a, .int .i64 b]] (.bool m) := fun w => by
  have HM := Lib.hid hm
  clear hm
  skip
  all_goals
    go_enter Tryz.func78, Tryz.ntmps78
    go_wp2_with (go_at_call 99; (with_reducible refine (hF.go _).mono ?_); rintro e v ⟨rfl, rfl⟩)
    all_goals first
      | (go_ret; refine ⟨ret_bool ?_, by go_grown⟩; rw [Bool.eq_iff_iff, HM.out]; first | (simp; done) | (simp; omega) | (simp only [beq_iff_eq, beq_eq_false_iff_ne, ne_eq, bne_iff_ne, bne_eq_false_iff_eq, reduceCtorEq] at *; first | omega | (simp; done) | (simp; omega)))
      | (subst_vars; have g0 := fun x y z t d os => (three_grown w x y z t d os).1; have g1 := fun x y z t d os => (three_grown w x y z t d os).2.1; have g2 := fun x y z t d os => (three_grown w x y z t d os).2.2
         refine wp_region_quiet_below (by kernel_rfl) (by kernel_rfl) ?_
         (repeat (first
           | go_big_quiet_step ((first
               | (go_at_call 100; (with_reducible exact Calls.regrown_same (h0.go _)))
               | (go_at_call 100; (with_reducible exact Calls.regrown_same (h1.go _)))))
           | quiet_step ((first
               | (go_at_call 100; (with_reducible exact Calls.regrown_same (h0.go _)))
               | (go_at_call 100; (with_reducible exact Calls.regrown_same (h1.go _)))))))
         refine wpQuiet_nil ?_
         intro v hv
         have hb := below_of_regrown hv
         clear hv g0 g1 g2
         go_wp2_with fail
         go_ret
         refine ⟨ret_bool ?_, below_laid hb⟩
         rw [Bool.eq_iff_iff, HM.out]; first | (simp; done) | (simp; omega) | (simp only [beq_iff_eq, beq_eq_false_iff_ne, ne_eq, bne_iff_ne, bne_eq_false_iff_eq, reduceCtorEq] at *; first | omega | (simp; done) | (simp; omega)))

set_option maxHeartbeats 4000000 in
set_option maxRecDepth 100000 in
theorem rmay1 (o a b m0 m1 : Int) (x0 x1 m : Bool) (hF : Cs Tryz.prog 99 #[.int .i64 o] (.int .i64 1)) (h0 : Cs Tryz.prog 100 #[.int .i64 o, .int .i64 0] (.int .i64 m0))
    (h1 : Cs Tryz.prog 100 #[.int .i64 o, .int .i64 1] (.int .i64 m1)) (k0 : decide (a ≤ m0) = x0) (k1 : decide (b ≤ m1) = x1)
    (hm : m = true ↔ 0 ≤ o ∧ o ≤ 16 ∧ 0 ≤ a ∧ 0 ≤ b ∧ b = 0 ∧ (o = 16 → 16 ≤ a) ∧ x0 = true ∧ True) : Ct Tryz.prog 78 #[.agg #[.int .i64 o, .int .i64 a, .int .i64 b]] (.bool m) := fun w => by
  have HM := Lib.hid hm
  clear hm
  cases x0
  all_goals
    go_enter Tryz.func78, Tryz.ntmps78
    go_wp2_with (go_at_call 99; (with_reducible refine (hF.go _).mono ?_); rintro e v ⟨rfl, rfl⟩)
    all_goals first
      | (go_ret; refine ⟨ret_bool ?_, by go_grown⟩; rw [Bool.eq_iff_iff, HM.out]; first | (simp; done) | (simp; omega) | (simp only [beq_iff_eq, beq_eq_false_iff_ne, ne_eq, bne_iff_ne, bne_eq_false_iff_eq, reduceCtorEq] at *; first | omega | (simp; done) | (simp; omega)))
      | (subst_vars; have g0 := fun x y z t d os => (three_grown w x y z t d os).1; have g1 := fun x y z t d os => (three_grown w x y z t d os).2.1; have g2 := fun x y z t d os => (three_grown w x y z t d os).2.2
         refine wp_region_quiet_below (by kernel_rfl) (by kernel_rfl) ?_
         (repeat (first
           | go_big_quiet_step ((first
               | (go_at_call 100; (with_reducible exact Calls.regrown_same (h0.go _)))
               | (go_at_call 100; (with_reducible exact Calls.regrown_same (h1.go _)))))
           | quiet_step ((first
               | (go_at_call 100; (with_reducible exact Calls.regrown_same (h0.go _)))
               | (go_at_call 100; (with_reducible exact Calls.regrown_same (h1.go _)))))))
         refine wpQuiet_nil ?_
         intro v hv
         have hb := below_of_regrown hv
         clear hv g0 g1 g2
         go_wp2_with fail
         go_ret
         refine ⟨ret_bool ?_, below_laid hb⟩
         rw [Bool.eq_iff_iff, HM.out]; first | (simp; done) | (simp; omega) | (simp only [beq_iff_eq, beq_eq_false_iff_ne, ne_eq, bne_iff_ne, bne_eq_false_iff_eq, reduceCtorEq] at *; first | omega | (simp; done) | (simp; omega)))

set_option maxHeartbeats 4000000 in
set_option maxRecDepth 100000 in
theorem rmay2 (o a b m0 m1 : Int) (x0 x1 m : Bool) (hF : Cs Tryz.prog 99 #[.int .i64 o] (.int .i64 2)) (h0 : Cs Tryz.prog 100 #[.int .i64 o, .int .i64 0] (.int .i64 m0))
    (h1 : Cs Tryz.prog 100 #[.int .i64 o, .int .i64 1] (.int .i64 m1)) (k0 : decide (a ≤ m0) = x0) (k1 : decide (b ≤ m1) = x1)
    (hm : m = true ↔ 0 ≤ o ∧ o ≤ 16 ∧ 0 ≤ a ∧ 0 ≤ b ∧ (o = 16 → 16 ≤ a) ∧ x0 = true ∧ x1 = true ∧ True) : Ct Tryz.prog 78 #[.agg #[.int .i64 o, .int .i64 a, .int .i64 b]] (.bool m) := fun w => by
  have HM := Lib.hid hm
  clear hm
  cases x0 <;> cases x1
  all_goals
    go_enter Tryz.func78, Tryz.ntmps78
    go_wp2_with (go_at_call 99; (with_reducible refine (hF.go _).mono ?_); rintro e v ⟨rfl, rfl⟩)
    all_goals first
      | (go_ret; refine ⟨ret_bool ?_, by go_grown⟩; rw [Bool.eq_iff_iff, HM.out]; first | (simp; done) | (simp; omega) | (simp only [beq_iff_eq, beq_eq_false_iff_ne, ne_eq, bne_iff_ne, bne_eq_false_iff_eq, reduceCtorEq] at *; first | omega | (simp; done) | (simp; omega)))
      | (subst_vars; have g0 := fun x y z t d os => (three_grown w x y z t d os).1; have g1 := fun x y z t d os => (three_grown w x y z t d os).2.1; have g2 := fun x y z t d os => (three_grown w x y z t d os).2.2
         refine wp_region_quiet_below (by kernel_rfl) (by kernel_rfl) ?_
         (repeat (first
           | go_big_quiet_step ((first
               | (go_at_call 100; (with_reducible exact Calls.regrown_same (h0.go _)))
               | (go_at_call 100; (with_reducible exact Calls.regrown_same (h1.go _)))))
           | quiet_step ((first
               | (go_at_call 100; (with_reducible exact Calls.regrown_same (h0.go _)))
               | (go_at_call 100; (with_reducible exact Calls.regrown_same (h1.go _)))))))
         refine wpQuiet_nil ?_
         intro v hv
         have hb := below_of_regrown hv
         clear hv g0 g1 g2
         go_wp2_with fail
         go_ret
         refine ⟨ret_bool ?_, below_laid hb⟩
         rw [Bool.eq_iff_iff, HM.out]; first | (simp; done) | (simp; omega) | (simp only [beq_iff_eq, beq_eq_false_iff_ne, ne_eq, bne_iff_ne, bne_eq_false_iff_eq, reduceCtorEq] at *; first | omega | (simp; done) | (simp; omega)))

end Go.Proofs.YtjibkgildfjjoaaGreatDoor

/- Layer 6: whether an instruction may be: the document's answer at every input. -/
namespace Go.Proofs.YtjibkgildfjjoaaGreatDoor
set_option linter.unusedVariables false
set_option linter.unusedSimpArgs false
open Go.RowKit Go.ChangeShapes Go.WideShapes Go.ChangeAt Go.Sort

theorem rmay_any (o a b : Int) : Ct Tryz.prog 78 #[iv o a b] (.bool (mayZ o a b)) := by
  rcases okZ_cases o with ⟨k, hk, rfl⟩ | hn
  · have hk2 : k = 0 ∨ k = 1 ∨ k = 2 ∨ k = 3 ∨ k = 4 ∨ k = 5 ∨ k = 6 ∨ k = 7 ∨ k = 8 ∨ k = 9 ∨ k = 10 ∨ k = 11 ∨ k = 12 ∨ k = 13 ∨ k = 14 ∨ k = 15 ∨ k = 16 := by omega
    rcases hk2 with rfl | rfl | rfl | rfl | rfl | rfl | rfl | rfl | rfl | rfl | rfl | rfl | rfl | rfl | rfl | rfl | rfl
    · have F := rfields_any ((0 : Nat) : Int)
      have h0 := most_any ((0 : Nat) : Int) 0
      have h1 := most_any ((0 : Nat) : Int) 1
      have e : rz ((0 : Nat) : Int) = ⟨⟨#[112, 117, 115, 104]⟩, 2, 0, 1, 0, 250, 250⟩ := by kernel_rfl
      have hm : mayZ ((0 : Nat) : Int) a b = (true && (decide (0 ≤ a) && decide (a ≤ 250)) && (decide (0 ≤ b) && decide (b ≤ 250))) := by unfold mayZ; rw [e]; rfl
      rw [e] at F
      rw [show mostZ ((0 : Nat) : Int) 0 = 250 by kernel_rfl] at h0
      rw [show mostZ ((0 : Nat) : Int) 1 = 250 by kernel_rfl] at h1
      exact rmay2 _ a b _ _ _ _ _ F h0 h1 rfl rfl (by rw [hm]; first | (simp; done) | (simp; omega))
    · have F := rfields_any ((1 : Nat) : Int)
      have h0 := most_any ((1 : Nat) : Int) 0
      have h1 := most_any ((1 : Nat) : Int) 1
      have e : rz ((1 : Nat) : Int) = ⟨⟨#[108, 111, 97, 100]⟩, 1, 0, 1, 0, 15, 0⟩ := by kernel_rfl
      have hm : mayZ ((1 : Nat) : Int) a b = (true && (decide (0 ≤ a) && decide (a ≤ 15)) && (decide (0 ≤ b) && decide (b ≤ 0))) := by unfold mayZ; rw [e]; rfl
      rw [e] at F
      rw [show mostZ ((1 : Nat) : Int) 0 = 15 by kernel_rfl] at h0
      rw [show mostZ ((1 : Nat) : Int) 1 = 15 by kernel_rfl] at h1
      exact rmay1 _ a b _ _ _ _ _ F h0 h1 rfl rfl (by rw [hm]; first | (simp; done) | (simp; omega))
    · have F := rfields_any ((2 : Nat) : Int)
      have h0 := most_any ((2 : Nat) : Int) 0
      have h1 := most_any ((2 : Nat) : Int) 1
      have e : rz ((2 : Nat) : Int) = ⟨⟨#[115, 116, 111, 114, 101]⟩, 1, 1, 0, 0, 15, 0⟩ := by kernel_rfl
      have hm : mayZ ((2 : Nat) : Int) a b = (true && (decide (0 ≤ a) && decide (a ≤ 15)) && (decide (0 ≤ b) && decide (b ≤ 0))) := by unfold mayZ; rw [e]; rfl
      rw [e] at F
      rw [show mostZ ((2 : Nat) : Int) 0 = 15 by kernel_rfl] at h0
      rw [show mostZ ((2 : Nat) : Int) 1 = 15 by kernel_rfl] at h1
      exact rmay1 _ a b _ _ _ _ _ F h0 h1 rfl rfl (by rw [hm]; first | (simp; done) | (simp; omega))
    · have F := rfields_any ((3 : Nat) : Int)
      have h0 := most_any ((3 : Nat) : Int) 0
      have h1 := most_any ((3 : Nat) : Int) 1
      have e : rz ((3 : Nat) : Int) = ⟨⟨#[97, 100, 100]⟩, 0, 2, 1, 0, 0, 0⟩ := by kernel_rfl
      have hm : mayZ ((3 : Nat) : Int) a b = (true && (decide (0 ≤ a) && decide (a ≤ 0)) && (decide (0 ≤ b) && decide (b ≤ 0))) := by unfold mayZ; rw [e]; rfl
      rw [e] at F
      rw [show mostZ ((3 : Nat) : Int) 0 = 255 by kernel_rfl] at h0
      rw [show mostZ ((3 : Nat) : Int) 1 = 255 by kernel_rfl] at h1
      exact rmay0 _ a b _ _ _ _ _ F h0 h1 rfl rfl (by rw [hm]; first | (simp; done) | (simp; omega))
    · have F := rfields_any ((4 : Nat) : Int)
      have h0 := most_any ((4 : Nat) : Int) 0
      have h1 := most_any ((4 : Nat) : Int) 1
      have e : rz ((4 : Nat) : Int) = ⟨⟨#[115, 117, 98]⟩, 0, 2, 1, 0, 0, 0⟩ := by kernel_rfl
      have hm : mayZ ((4 : Nat) : Int) a b = (true && (decide (0 ≤ a) && decide (a ≤ 0)) && (decide (0 ≤ b) && decide (b ≤ 0))) := by unfold mayZ; rw [e]; rfl
      rw [e] at F
      rw [show mostZ ((4 : Nat) : Int) 0 = 255 by kernel_rfl] at h0
      rw [show mostZ ((4 : Nat) : Int) 1 = 255 by kernel_rfl] at h1
      exact rmay0 _ a b _ _ _ _ _ F h0 h1 rfl rfl (by rw [hm]; first | (simp; done) | (simp; omega))
    · have F := rfields_any ((5 : Nat) : Int)
      have h0 := most_any ((5 : Nat) : Int) 0
      have h1 := most_any ((5 : Nat) : Int) 1
      have e : rz ((5 : Nat) : Int) = ⟨⟨#[109, 117, 108]⟩, 0, 2, 1, 0, 0, 0⟩ := by kernel_rfl
      have hm : mayZ ((5 : Nat) : Int) a b = (true && (decide (0 ≤ a) && decide (a ≤ 0)) && (decide (0 ≤ b) && decide (b ≤ 0))) := by unfold mayZ; rw [e]; rfl
      rw [e] at F
      rw [show mostZ ((5 : Nat) : Int) 0 = 255 by kernel_rfl] at h0
      rw [show mostZ ((5 : Nat) : Int) 1 = 255 by kernel_rfl] at h1
      exact rmay0 _ a b _ _ _ _ _ F h0 h1 rfl rfl (by rw [hm]; first | (simp; done) | (simp; omega))
    · have F := rfields_any ((6 : Nat) : Int)
      have h0 := most_any ((6 : Nat) : Int) 0
      have h1 := most_any ((6 : Nat) : Int) 1
      have e : rz ((6 : Nat) : Int) = ⟨⟨#[100, 105, 118]⟩, 0, 2, 1, 0, 0, 0⟩ := by kernel_rfl
      have hm : mayZ ((6 : Nat) : Int) a b = (true && (decide (0 ≤ a) && decide (a ≤ 0)) && (decide (0 ≤ b) && decide (b ≤ 0))) := by unfold mayZ; rw [e]; rfl
      rw [e] at F
      rw [show mostZ ((6 : Nat) : Int) 0 = 255 by kernel_rfl] at h0
      rw [show mostZ ((6 : Nat) : Int) 1 = 255 by kernel_rfl] at h1
      exact rmay0 _ a b _ _ _ _ _ F h0 h1 rfl rfl (by rw [hm]; first | (simp; done) | (simp; omega))
    · have F := rfields_any ((7 : Nat) : Int)
      have h0 := most_any ((7 : Nat) : Int) 0
      have h1 := most_any ((7 : Nat) : Int) 1
      have e : rz ((7 : Nat) : Int) = ⟨⟨#[99, 111, 110, 106]⟩, 0, 1, 1, 0, 0, 0⟩ := by kernel_rfl
      have hm : mayZ ((7 : Nat) : Int) a b = (true && (decide (0 ≤ a) && decide (a ≤ 0)) && (decide (0 ≤ b) && decide (b ≤ 0))) := by unfold mayZ; rw [e]; rfl
      rw [e] at F
      rw [show mostZ ((7 : Nat) : Int) 0 = 255 by kernel_rfl] at h0
      rw [show mostZ ((7 : Nat) : Int) 1 = 255 by kernel_rfl] at h1
      exact rmay0 _ a b _ _ _ _ _ F h0 h1 rfl rfl (by rw [hm]; first | (simp; done) | (simp; omega))
    · have F := rfields_any ((8 : Nat) : Int)
      have h0 := most_any ((8 : Nat) : Int) 0
      have h1 := most_any ((8 : Nat) : Int) 1
      have e : rz ((8 : Nat) : Int) = ⟨⟨#[100, 117, 112]⟩, 0, 1, 2, 0, 0, 0⟩ := by kernel_rfl
      have hm : mayZ ((8 : Nat) : Int) a b = (true && (decide (0 ≤ a) && decide (a ≤ 0)) && (decide (0 ≤ b) && decide (b ≤ 0))) := by unfold mayZ; rw [e]; rfl
      rw [e] at F
      rw [show mostZ ((8 : Nat) : Int) 0 = 255 by kernel_rfl] at h0
      rw [show mostZ ((8 : Nat) : Int) 1 = 255 by kernel_rfl] at h1
      exact rmay0 _ a b _ _ _ _ _ F h0 h1 rfl rfl (by rw [hm]; first | (simp; done) | (simp; omega))
    · have F := rfields_any ((9 : Nat) : Int)
      have h0 := most_any ((9 : Nat) : Int) 0
      have h1 := most_any ((9 : Nat) : Int) 1
      have e : rz ((9 : Nat) : Int) = ⟨⟨#[100, 114, 111, 112]⟩, 0, 1, 0, 0, 0, 0⟩ := by kernel_rfl
      have hm : mayZ ((9 : Nat) : Int) a b = (true && (decide (0 ≤ a) && decide (a ≤ 0)) && (decide (0 ≤ b) && decide (b ≤ 0))) := by unfold mayZ; rw [e]; rfl
      rw [e] at F
      rw [show mostZ ((9 : Nat) : Int) 0 = 255 by kernel_rfl] at h0
      rw [show mostZ ((9 : Nat) : Int) 1 = 255 by kernel_rfl] at h1
      exact rmay0 _ a b _ _ _ _ _ F h0 h1 rfl rfl (by rw [hm]; first | (simp; done) | (simp; omega))
    · have F := rfields_any ((10 : Nat) : Int)
      have h0 := most_any ((10 : Nat) : Int) 0
      have h1 := most_any ((10 : Nat) : Int) 1
      have e : rz ((10 : Nat) : Int) = ⟨⟨#[106, 117, 109, 112]⟩, 1, 0, 0, 0, 199, 0⟩ := by kernel_rfl
      have hm : mayZ ((10 : Nat) : Int) a b = (true && (decide (0 ≤ a) && decide (a ≤ 199)) && (decide (0 ≤ b) && decide (b ≤ 0))) := by unfold mayZ; rw [e]; rfl
      rw [e] at F
      rw [show mostZ ((10 : Nat) : Int) 0 = 199 by kernel_rfl] at h0
      rw [show mostZ ((10 : Nat) : Int) 1 = 199 by kernel_rfl] at h1
      exact rmay1 _ a b _ _ _ _ _ F h0 h1 rfl rfl (by rw [hm]; first | (simp; done) | (simp; omega))
    · have F := rfields_any ((11 : Nat) : Int)
      have h0 := most_any ((11 : Nat) : Int) 0
      have h1 := most_any ((11 : Nat) : Int) 1
      have e : rz ((11 : Nat) : Int) = ⟨⟨#[122, 101, 114, 111]⟩, 1, 1, 0, 0, 199, 0⟩ := by kernel_rfl
      have hm : mayZ ((11 : Nat) : Int) a b = (true && (decide (0 ≤ a) && decide (a ≤ 199)) && (decide (0 ≤ b) && decide (b ≤ 0))) := by unfold mayZ; rw [e]; rfl
      rw [e] at F
      rw [show mostZ ((11 : Nat) : Int) 0 = 199 by kernel_rfl] at h0
      rw [show mostZ ((11 : Nat) : Int) 1 = 199 by kernel_rfl] at h1
      exact rmay1 _ a b _ _ _ _ _ F h0 h1 rfl rfl (by rw [hm]; first | (simp; done) | (simp; omega))
    · have F := rfields_any ((12 : Nat) : Int)
      have h0 := most_any ((12 : Nat) : Int) 0
      have h1 := most_any ((12 : Nat) : Int) 1
      have e : rz ((12 : Nat) : Int) = ⟨⟨#[114, 97, 110, 100]⟩, 0, 0, 1, 0, 0, 0⟩ := by kernel_rfl
      have hm : mayZ ((12 : Nat) : Int) a b = (true && (decide (0 ≤ a) && decide (a ≤ 0)) && (decide (0 ≤ b) && decide (b ≤ 0))) := by unfold mayZ; rw [e]; rfl
      rw [e] at F
      rw [show mostZ ((12 : Nat) : Int) 0 = 255 by kernel_rfl] at h0
      rw [show mostZ ((12 : Nat) : Int) 1 = 255 by kernel_rfl] at h1
      exact rmay0 _ a b _ _ _ _ _ F h0 h1 rfl rfl (by rw [hm]; first | (simp; done) | (simp; omega))
    · have F := rfields_any ((13 : Nat) : Int)
      have h0 := most_any ((13 : Nat) : Int) 0
      have h1 := most_any ((13 : Nat) : Int) 1
      have e : rz ((13 : Nat) : Int) = ⟨⟨#[115, 112, 97, 119, 110]⟩, 2, 0, 0, 0, 15, 7⟩ := by kernel_rfl
      have hm : mayZ ((13 : Nat) : Int) a b = (true && (decide (0 ≤ a) && decide (a ≤ 15)) && (decide (0 ≤ b) && decide (b ≤ 7))) := by unfold mayZ; rw [e]; rfl
      rw [e] at F
      rw [show mostZ ((13 : Nat) : Int) 0 = 15 by kernel_rfl] at h0
      rw [show mostZ ((13 : Nat) : Int) 1 = 7 by kernel_rfl] at h1
      exact rmay2 _ a b _ _ _ _ _ F h0 h1 rfl rfl (by rw [hm]; first | (simp; done) | (simp; omega))
    · have F := rfields_any ((14 : Nat) : Int)
      have h0 := most_any ((14 : Nat) : Int) 0
      have h1 := most_any ((14 : Nat) : Int) 1
      have e : rz ((14 : Nat) : Int) = ⟨⟨#[106, 111, 105, 110]⟩, 1, 0, 1, 0, 7, 0⟩ := by kernel_rfl
      have hm : mayZ ((14 : Nat) : Int) a b = (true && (decide (0 ≤ a) && decide (a ≤ 7)) && (decide (0 ≤ b) && decide (b ≤ 0))) := by unfold mayZ; rw [e]; rfl
      rw [e] at F
      rw [show mostZ ((14 : Nat) : Int) 0 = 7 by kernel_rfl] at h0
      rw [show mostZ ((14 : Nat) : Int) 1 = 7 by kernel_rfl] at h1
      exact rmay1 _ a b _ _ _ _ _ F h0 h1 rfl rfl (by rw [hm]; first | (simp; done) | (simp; omega))
    · have F := rfields_any ((15 : Nat) : Int)
      have h0 := most_any ((15 : Nat) : Int) 0
      have h1 := most_any ((15 : Nat) : Int) 1
      have e : rz ((15 : Nat) : Int) = ⟨⟨#[114, 101, 116]⟩, 0, 1, 0, 0, 0, 0⟩ := by kernel_rfl
      have hm : mayZ ((15 : Nat) : Int) a b = (true && (decide (0 ≤ a) && decide (a ≤ 0)) && (decide (0 ≤ b) && decide (b ≤ 0))) := by unfold mayZ; rw [e]; rfl
      rw [e] at F
      rw [show mostZ ((15 : Nat) : Int) 0 = 255 by kernel_rfl] at h0
      rw [show mostZ ((15 : Nat) : Int) 1 = 255 by kernel_rfl] at h1
      exact rmay0 _ a b _ _ _ _ _ F h0 h1 rfl rfl (by rw [hm]; first | (simp; done) | (simp; omega))
    · have F := rfields_any ((16 : Nat) : Int)
      have h0 := most_any ((16 : Nat) : Int) 0
      have h1 := most_any ((16 : Nat) : Int) 1
      have e : rz ((16 : Nat) : Int) = ⟨⟨#[116, 114, 97, 112]⟩, 1, 0, 0, 16, 255, 0⟩ := by kernel_rfl
      have hm : mayZ ((16 : Nat) : Int) a b = (true && (decide (16 ≤ a) && decide (a ≤ 255)) && (decide (0 ≤ b) && decide (b ≤ 0))) := by unfold mayZ; rw [e]; rfl
      rw [e] at F
      rw [show mostZ ((16 : Nat) : Int) 0 = 255 by kernel_rfl] at h0
      rw [show mostZ ((16 : Nat) : Int) 1 = 255 by kernel_rfl] at h1
      exact rmay1 _ a b _ _ _ _ _ F h0 h1 rfl rfl (by rw [hm]; first | (simp; done) | (simp; omega))
  · have F := rfields_any o
    have hm : mayZ o a b = false := by unfold mayZ; rw [hn]; rfl
    have := okO_no hn
    rw [rz_out hn] at F
    exact rmay0 _ a b _ _ _ _ _ F (most_any o 0) (most_any o 1) rfl rfl (by rw [hm]; simp; omega)
end Go.Proofs.YtjibkgildfjjoaaGreatDoor

/- Layer 6: the document's Off and On. -/
namespace Go.Proofs.YtjibkgildfjjoaaGreatDoor
set_option linter.unusedVariables false
set_option linter.unusedSimpArgs false
open Go.RowKit Go.ChangeShapes Go.WideShapes Go.ChangeAt Go.Sort

set_option maxHeartbeats 1000000 in
theorem roff_any (n : Int) : Cs Tryz.prog 124 #[.int .i64 n] (.int .i64 (rz n).p) := fun w => by
  have hf : (n = 3 ∨ n = 4 ∨ n = 5 ∨ n = 6 → (rz n).p = 2) ∧ (n = 2 ∨ n = 7 ∨ n = 8 ∨ n = 9 ∨ n = 11 ∨ n = 15 → (rz n).p = 1) ∧ (¬ (n = 3 ∨ n = 4 ∨ n = 5 ∨ n = 6) → ¬ (n = 2 ∨ n = 7 ∨ n = 8 ∨ n = 9 ∨ n = 11 ∨ n = 15) → (rz n).p = 0) := by
    rcases okZ_cases n with ⟨k, hk, rfl⟩ | hn
    · rw [rz_in hk, p_of k hk]
      refine ⟨fun h => ?_, fun h => ?_, fun h h2 => ?_⟩
      · rw [if_pos (by omega)]
      · rw [if_neg (by omega), if_pos (by omega)]
      · rw [if_neg (by omega), if_neg (by omega)]
    · rw [rz_out hn]
      have := okO_no hn
      exact ⟨fun h => by omega, fun h => by omega, fun _ _ => rfl⟩
  generalize (rz n).p = f at *
  have H := Lib.hid hf
  clear hf
  go_enter Tryz.func124, Tryz.ntmps124
  go_wp2_with fail
  all_goals
    go_ret
    refine ⟨ret_int ?_, rfl⟩
    have := H.out
    simp only [beq_iff_eq, beq_eq_false_iff_ne, ne_eq] at *
    omega

set_option maxHeartbeats 1000000 in
theorem ron_any (n : Int) : Cs Tryz.prog 122 #[.int .i64 n] (.int .i64 (rz n).q) := fun w => by
  have hf : (n = 8 → (rz n).q = 2) ∧ (n = 0 ∨ n = 1 ∨ n = 3 ∨ n = 4 ∨ n = 5 ∨ n = 6 ∨ n = 7 ∨ n = 12 ∨ n = 14 → (rz n).q = 1) ∧ (¬ (n = 8) → ¬ (n = 0 ∨ n = 1 ∨ n = 3 ∨ n = 4 ∨ n = 5 ∨ n = 6 ∨ n = 7 ∨ n = 12 ∨ n = 14) → (rz n).q = 0) := by
    rcases okZ_cases n with ⟨k, hk, rfl⟩ | hn
    · rw [rz_in hk, q_of k hk]
      refine ⟨fun h => ?_, fun h => ?_, fun h h2 => ?_⟩
      · rw [if_pos (by omega)]
      · rw [if_neg (by omega), if_pos (by omega)]
      · rw [if_neg (by omega), if_neg (by omega)]
    · rw [rz_out hn]
      have := okO_no hn
      exact ⟨fun h => by omega, fun h => by omega, fun _ _ => rfl⟩
  generalize (rz n).q = f at *
  have H := Lib.hid hf
  clear hf
  go_enter Tryz.func122, Tryz.ntmps122
  go_wp2_with fail
  all_goals
    go_ret
    refine ⟨ret_int ?_, rfl⟩
    have := H.out
    simp only [beq_iff_eq, beq_eq_false_iff_ne, ne_eq] at *
    omega

end Go.Proofs.YtjibkgildfjjoaaGreatDoor

/- Layer 6: the document's names, and what it finds by them. -/
namespace Go.Proofs.YtjibkgildfjjoaaGreatDoor
set_option linter.unusedVariables false
set_option linter.unusedSimpArgs false
open Go.RowKit Go.ChangeShapes Go.WideShapes Go.ChangeAt Go.Sort

set_option maxHeartbeats 1000000 in
set_option maxRecDepth 100000 in
theorem rfind_any (s : ByteArray) : Ct Tryz.prog 104 #[.string s] (.int .i64 (rfnd s)) := fun w => by
  go_enter Tryz.func104, Tryz.ntmps104
  go_wp2_with (go_at_call 116; (with_reducible refine (names_any _).mono ?_); rintro e v ⟨rfl, hx, hb⟩)
  go_loop [4] (fun i => ∃ k : Nat, k ≤ 17 ∧ i = .int .i64 k ∧ (∀ j, j < k → eqS (orow j).nm s = false)) (fun i => 17 - (intOf i).toNat)
  case atStart => exact ⟨0, by omega, rfl, fun j hj => absurd hj (by omega)⟩
  case round =>
    obtain ⟨k, hk, rfl, hn⟩ := hrel
    have HN := Lib.hid hn
    clear hn
    by_cases hlt2 : k < 17
    · have c0 := (hx.cell k).trans (nameArr_get hlt2)
      obtain ⟨nm, hr⟩ : ∃ nm, (orow k).nm = nm := ⟨_, rfl⟩
      rw [hr] at c0
      have HR := Lib.hid hr
      clear hr
      have hq := eqS_toList nm s
      by_cases he : eqS nm s = true
      · have hit := rfnd_hit (idx_hit hlt2 (by rw [HR.out]; exact he) HN.out) hlt2
        have HIT := Lib.hid hit
        clear hit
        rw [he] at hq
        go_wp2_with fail
        go_ret
        exact ⟨ret_int HIT.out.symm, hb⟩
      · rw [Bool.not_eq_true] at he
        rw [he] at hq
        have hn2 : ∀ j, j < k + 1 → eqS (orow j).nm s = false := fun j hj => by
          rcases Nat.lt_succ_iff_lt_or_eq.1 hj with h | rfl
          · exact HN.out j h
          · rw [HR.out]; exact he
        have HN2 := Lib.hid hn2
        clear hn2
        go_wp2_with fail
        go_round
        case rel => exact ⟨k + 1, by omega, by go_num, HN2.out⟩
        case measure => simp [intOf]; omega
    · obtain rfl : k = 17 := by omega
      have hm := rfnd_miss (idx_miss HN.out)
      have HM := Lib.hid hm
      clear hm
      go_wp2
      go_ret
      exact ⟨ret_int HM.out.symm, hb⟩
end Go.Proofs.YtjibkgildfjjoaaGreatDoor

