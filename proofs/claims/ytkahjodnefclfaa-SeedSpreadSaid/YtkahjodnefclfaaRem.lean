/- Layer 4's code: remainders and parts, at every input. -/
import Derived.Test.YtkahjodnefclfaaRows
import Derived.Test.YtkahjodnefclfaaHd
import Derived.Test.YtkahjodnefclfaaGm
namespace Go.Proofs.Ytkahjodnefclfaa
set_option linter.unusedVariables false
set_option linter.unusedSimpArgs false
open Go.RowKit Go.ChangeShapes Go.WideShapes Go.ChangeAt Gm

/-- What the language's % leaves. -/
theorem tmod_is (n : Int) : (0 ≤ n ∧ Int.tmod n 251 = n % 251) ∨ (n < 0 ∧ Int.tmod n 251 = -(-n % 251)) := by
  by_cases h : 0 ≤ n
  · exact .inl ⟨h, Int.tmod_eq_emod_of_nonneg h⟩
  · refine .inr ⟨by omega, ?_⟩
    have e : Int.tmod n 251 = -Int.tmod (-n) 251 := by rw [Int.neg_tmod]; omega
    rw [e, Int.tmod_eq_emod_of_nonneg (by omega)]
theorem tmod_neg (n : Int) (h : Int.tmod n 251 < 0) : Int.tmod n 251 + 251 = rs n := by unfold rs; rcases tmod_is n with ⟨h0, e⟩ | ⟨h0, e⟩ <;> omega
theorem tmod_pos (n : Int) (h : 0 ≤ Int.tmod n 251) : Int.tmod n 251 = rs n := by unfold rs; rcases tmod_is n with ⟨h0, e⟩ | ⟨h0, e⟩ <;> omega
theorem tmod_bd (n : Int) : -251 < Int.tmod n 251 ∧ Int.tmod n 251 < 251 := by rcases tmod_is n with ⟨h0, e⟩ | ⟨h0, e⟩ <;> omega

set_option maxHeartbeats 400000 in
theorem remainder_any (n : Int) (w : World) : Calls Try.prog 23 #[.int .i64 n] w fun e w' => e = .returned (.int .i64 (rs n)) ∧ w = w' := by
  have hbd := tmod_bd n
  by_cases h : Int.tmod n 251 < 0
  · have H1 := Lib.hid (tmod_neg n h)
    go_enter Try.func23, Try.ntmps23
    go_wp2_with fail
    go_ret
    exact ⟨ret_int H1.out, rfl⟩
  · have h' : 0 ≤ Int.tmod n 251 := by omega
    have H1 := Lib.hid (tmod_pos n h')
    go_enter Try.func23, Try.ntmps23
    go_wp2_with fail
    go_ret
    exact ⟨ret_int H1.out, rfl⟩
theorem remainder_in {n : Int} (h0 : 0 ≤ n) (h1 : n < 251) (w : World) : Calls Try.prog 23 #[.int .i64 n] w fun e w' => e = .returned (.int .i64 n) ∧ w = w' := by
  have := remainder_any n w
  rwa [rs_in h0 h1] at this

/-- What Of makes: a value of its own, its parts reduced. -/
theorem gof_any (a b : Int) (w : World) : Calls Try.prog 21 #[.int .i64 a, .int .i64 b] w fun e w' => e = .returned (.agg #[.int .i64 (rs a), .int .i64 (rs b)]) ∧ Below w.heap.size w w' := by
  have C := fun n W => Lib.hid (remainder_any n W)
  go_enter Try.func21, Try.ntmps21
  go_wp2_with (go_at_call 23; refine (C _ _).out.mono ?_; rintro e v ⟨rfl, rfl⟩)
  exact bodyPost_ret (v := .agg #[.int .i64 (rs a), .int .i64 (rs b)]) (by simp [results, Try.results21, go_sem]) rfl ⟨rfl, (Below.refl _ _).alloc (Nat.le_refl _) _⟩

end Go.Proofs.Ytkahjodnefclfaa
