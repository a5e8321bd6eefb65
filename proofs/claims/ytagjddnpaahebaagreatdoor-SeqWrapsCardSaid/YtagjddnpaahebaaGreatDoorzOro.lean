/- Layer 6: the document's Off and On. -/
import Derived.Test.YtagjddnpaahebaaGreatDoorzGf
namespace Go.Proofs.YtagjddnpaahebaaGreatDoor
set_option linter.unusedVariables false
set_option linter.unusedSimpArgs false
open Go.RowKit Go.ChangeShapes Go.WideShapes Go.ChangeAt Go.Sort

set_option maxHeartbeats 1000000 in
theorem roff_any (n : Int) : Cs Tryz.prog 85 #[.int .i64 n] (.int .i64 (rz n).p) := fun w => by
  have hf : (n = 3 ∨ n = 4 ∨ n = 5 ∨ n = 6 → (rz n).p = 2) ∧ (n = 2 ∨ n = 7 ∨ n = 8 ∨ n = 9 ∨ n = 11 ∨ n = 15 → (rz n).p = 1) ∧ (¬ (n = 3 ∨ n = 4 ∨ n = 5 ∨ n = 6) → ¬ (n = 2 ∨ n = 7 ∨ n = 8 ∨ n = 9 ∨ n = 11 ∨ n = 15) → (rz n).p = 0) := by
    rcases okZ_cases n with ⟨k, hk, rfl⟩ | hn
    · rw [rz_in hk, p_of k hk]
      refine ⟨fun h => ?_, fun h => ?_, fun h h2 => ?_⟩
      · rw [if_pos (by omega)]
      · rw [if_neg (by omega), if_pos (by omega)]
      · rw [if_neg (by omega), if_neg (by omega)]
    · rw [rz_out hn]
      have := okZ_no hn
      exact ⟨fun h => by omega, fun h => by omega, fun _ _ => rfl⟩
  generalize (rz n).p = f at *
  have H := Lib.hid hf
  clear hf
  go_enter Tryz.func85, Tryz.ntmps85
  go_wp2_with fail
  all_goals
    go_ret
    refine ⟨ret_int ?_, rfl⟩
    have := H.out
    simp only [beq_iff_eq, beq_eq_false_iff_ne, ne_eq] at *
    omega

set_option maxHeartbeats 1000000 in
theorem ron_any (n : Int) : Cs Tryz.prog 63 #[.int .i64 n] (.int .i64 (rz n).q) := fun w => by
  have hf : (n = 8 → (rz n).q = 2) ∧ (n = 0 ∨ n = 1 ∨ n = 3 ∨ n = 4 ∨ n = 5 ∨ n = 6 ∨ n = 7 ∨ n = 12 ∨ n = 14 → (rz n).q = 1) ∧ (¬ (n = 8) → ¬ (n = 0 ∨ n = 1 ∨ n = 3 ∨ n = 4 ∨ n = 5 ∨ n = 6 ∨ n = 7 ∨ n = 12 ∨ n = 14) → (rz n).q = 0) := by
    rcases okZ_cases n with ⟨k, hk, rfl⟩ | hn
    · rw [rz_in hk, q_of k hk]
      refine ⟨fun h => ?_, fun h => ?_, fun h h2 => ?_⟩
      · rw [if_pos (by omega)]
      · rw [if_neg (by omega), if_pos (by omega)]
      · rw [if_neg (by omega), if_neg (by omega)]
    · rw [rz_out hn]
      have := okZ_no hn
      exact ⟨fun h => by omega, fun h => by omega, fun _ _ => rfl⟩
  generalize (rz n).q = f at *
  have H := Lib.hid hf
  clear hf
  go_enter Tryz.func63, Tryz.ntmps63
  go_wp2_with fail
  all_goals
    go_ret
    refine ⟨ret_int ?_, rfl⟩
    have := H.out
    simp only [beq_iff_eq, beq_eq_false_iff_ne, ne_eq] at *
    omega

end Go.Proofs.YtagjddnpaahebaaGreatDoor

