/- Layer 4: the document's remainders and parts, and whether a value may be. -/
import Derived.Test.YtkahjodnefclfaaRem
namespace Go.Proofs.Ytkahjodnefclfaa
set_option linter.unusedVariables false
set_option linter.unusedSimpArgs false
open Go.RowKit Go.ChangeShapes Go.WideShapes Go.ChangeAt Gm Go.Sort

set_option maxHeartbeats 400000 in
theorem rrest_any (n : Int) (w : World) : Calls Try.prog 22 #[.int .i64 n] w fun e w' => e = .returned (.int .i64 (rs n)) ∧ w = w' := by
  have hbd := tmod_bd n
  by_cases h : Int.tmod n 251 < 0
  · have H1 := Lib.hid (tmod_neg n h)
    go_enter Try.func22, Try.ntmps22
    go_wp2_with fail
    go_ret
    exact ⟨ret_int H1.out, rfl⟩
  · have h' : 0 ≤ Int.tmod n 251 := by omega
    have H1 := Lib.hid (tmod_pos n h')
    go_enter Try.func22, Try.ntmps22
    go_wp2_with fail
    go_ret
    exact ⟨ret_int H1.out, rfl⟩

theorem rof_any (a b : Int) (w : World) : Calls Try.prog 17 #[.int .i64 a, .int .i64 b] w fun e w' => e = .returned (.agg #[.int .i64 (rs a), .int .i64 (rs b)]) ∧ Below w.heap.size w w' := by
  have C := fun n W => Lib.hid (rrest_any n W)
  go_enter Try.func17, Try.ntmps17
  go_wp2_with (go_at_call 22; refine (C _ _).out.mono ?_; rintro e v ⟨rfl, rfl⟩)
  exact bodyPost_ret (v := .agg #[.int .i64 (rs a), .int .i64 (rs b)]) (by simp [results, Try.results17, go_sem]) rfl ⟨rfl, (Below.refl _ _).alloc (Nat.le_refl _) _⟩

set_option maxHeartbeats 1000000 in
theorem rmay_any (a b : Int) (w : World) : Calls Try.prog 16 #[.agg #[.int .i64 a, .int .i64 b]] w fun e w' => e = .returned (.bool (mayB a b)) ∧ Below w.heap.size w w' := by
  have hb : Below w.heap.size w (w.alloc (.cells #[.int .i64 a, .int .i64 b] 25)) := (Below.refl _ _).alloc (Nat.le_refl _) _
  have hm : mayB a b = (decide (0 ≤ a) && decide (a < 251) && (decide (0 ≤ b) && decide (b < 251))) := rfl
  have HM := Lib.hid hm
  clear hm
  go_enter Try.func16, Try.ntmps16
  go_wp2_with fail
  all_goals
    go_ret
    rw [HM.out]
    refine ⟨ret_bool ?_, hb⟩
    rw [Bool.eq_iff_iff]
    simp
    omega

end Go.Proofs.Ytkahjodnefclfaa
