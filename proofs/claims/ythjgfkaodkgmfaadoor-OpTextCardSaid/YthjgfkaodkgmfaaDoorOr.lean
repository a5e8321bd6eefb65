/- Layer 6: the document's own answers, at every input. -/
import Derived.Test.YthjgfkaodkgmfaaDoorOf
import Derived.Test.YthjgfkaodkgmfaaDoorOm
namespace Go.Proofs.YthjgfkaodkgmfaaDoor
set_option linter.unusedVariables false
set_option linter.unusedSimpArgs false
open Go.RowKit Go.ChangeShapes Go.WideShapes Go.ChangeAt Go.Sort

theorem f_of : ∀ k, k < 17 → (orow k).f = (if k = 0 ∨ k = 13 then 2 else if k = 1 ∨ k = 2 ∨ k = 10 ∨ k = 11 ∨ k = 14 ∨ k = 16 then 1 else 0) := by decide
theorem p_of : ∀ k, k < 17 → (orow k).p = (if k = 3 ∨ k = 4 ∨ k = 5 ∨ k = 6 then 2 else if k = 2 ∨ k = 7 ∨ k = 8 ∨ k = 9 ∨ k = 11 ∨ k = 15 then 1 else 0) := by decide
theorem q_of : ∀ k, k < 17 → (orow k).q = (if k = 8 then 2 else if k = 0 ∨ k = 1 ∨ k = 3 ∨ k = 4 ∨ k = 5 ∨ k = 6 ∨ k = 7 ∨ k = 12 ∨ k = 14 then 1 else 0) := by decide
theorem l_of : ∀ k, k < 17 → (orow k).la = (if k = 0 then 250 else if k = 1 ∨ k = 2 ∨ k = 13 then 15 else if k = 10 ∨ k = 11 then 199 else if k = 14 then 7 else if k = 16 then 255 else 0) := by decide
theorem b_of : ∀ k, k < 17 → (orow k).lb = (if k = 0 then 250 else if k = 13 then 7 else 0) := by decide
theorem o_of : ∀ k, k < 17 → (orow k).lo = (if k = 16 then 16 else 0) := by decide
theorem okZ_no {n : Int} (h : okZ n = false) : n < 0 ∨ 16 < n := by
  simp only [okZ, Bool.and_eq_false_iff, decide_eq_false_iff_not] at h
  omega

set_option maxHeartbeats 1000000 in
theorem rfields_any (n : Int) : Cs Tryd.prog 15 #[.int .i64 n] (.int .i64 (rz n).f) := fun w => by
  have hf : (n = 0 ∨ n = 13 → (rz n).f = 2) ∧ (n = 1 ∨ n = 2 ∨ n = 10 ∨ n = 11 ∨ n = 14 ∨ n = 16 → (rz n).f = 1) ∧ (¬ (n = 0 ∨ n = 13) → ¬ (n = 1 ∨ n = 2 ∨ n = 10 ∨ n = 11 ∨ n = 14 ∨ n = 16) → (rz n).f = 0) := by
    rcases okZ_cases n with ⟨k, hk, rfl⟩ | hn
    · rw [rz_in hk, f_of k hk]
      refine ⟨fun h => ?_, fun h => ?_, fun h h2 => ?_⟩
      · rw [if_pos (by omega)]
      · rw [if_neg (by omega), if_pos (by omega)]
      · rw [if_neg (by omega), if_neg (by omega)]
    · rw [rz_out hn]
      have := okZ_no hn
      exact ⟨fun h => by omega, fun h => by omega, fun _ _ => rfl⟩
  generalize (rz n).f = f at *
  have H := Lib.hid hf
  clear hf
  go_enter Tryd.func15, Tryd.ntmps15
  go_wp2_with fail
  all_goals
    go_ret
    refine ⟨ret_int ?_, rfl⟩
    have := H.out
    simp only [beq_iff_eq, beq_eq_false_iff_ne, ne_eq] at *
    omega

set_option maxHeartbeats 1000000 in
theorem roff_any (n : Int) : Cs Tryd.prog 16 #[.int .i64 n] (.int .i64 (rz n).p) := fun w => by
  have hf : (n = 3 ∨ n = 4 ∨ n = 5 ∨ n = 6 → (rz n).p = 2) ∧ (n = 2 ∨ n = 7 ∨ n = 8 ∨ n = 9 ∨ n = 11 ∨ n = 15 → (rz n).p = 1) ∧ (¬ (n = 3 ∨ n = 4 ∨ n = 5 ∨ n = 6) → ¬ (n = 2 ∨ n = 7 ∨ n = 8 ∨ n = 9 ∨ n = 11 ∨ n = 15) → (rz n).p = 0) := by
    rcases okZ_cases n with ⟨k, hk, rfl⟩ | hn
    · rw [rz_in hk, p_of k hk]
      refine ⟨fun h => ?_, fun h => ?_, fun h h2 => ?_⟩
      · rw [if_pos (by omega)]
      · rw [if_neg (by omega), if_pos (by omega)]
      · rw [if_neg (by omega), if_neg (by omega)]
    · rw [rz_out hn]
      have := okZ_no hn
      exact ⟨fun h => by omega, fun h => by omega, fun _ _ => rfl⟩
  generalize (rz n).p = f at *
  have H := Lib.hid hf
  clear hf
  go_enter Tryd.func16, Tryd.ntmps16
  go_wp2_with fail
  all_goals
    go_ret
    refine ⟨ret_int ?_, rfl⟩
    have := H.out
    simp only [beq_iff_eq, beq_eq_false_iff_ne, ne_eq] at *
    omega

set_option maxHeartbeats 1000000 in
theorem ron_any (n : Int) : Cs Tryd.prog 17 #[.int .i64 n] (.int .i64 (rz n).q) := fun w => by
  have hf : (n = 8 → (rz n).q = 2) ∧ (n = 0 ∨ n = 1 ∨ n = 3 ∨ n = 4 ∨ n = 5 ∨ n = 6 ∨ n = 7 ∨ n = 12 ∨ n = 14 → (rz n).q = 1) ∧ (¬ (n = 8) → ¬ (n = 0 ∨ n = 1 ∨ n = 3 ∨ n = 4 ∨ n = 5 ∨ n = 6 ∨ n = 7 ∨ n = 12 ∨ n = 14) → (rz n).q = 0) := by
    rcases okZ_cases n with ⟨k, hk, rfl⟩ | hn
    · rw [rz_in hk, q_of k hk]
      refine ⟨fun h => ?_, fun h => ?_, fun h h2 => ?_⟩
      · rw [if_pos (by omega)]
      · rw [if_neg (by omega), if_pos (by omega)]
      · rw [if_neg (by omega), if_neg (by omega)]
    · rw [rz_out hn]
      have := okZ_no hn
      exact ⟨fun h => by omega, fun h => by omega, fun _ _ => rfl⟩
  generalize (rz n).q = f at *
  have H := Lib.hid hf
  clear hf
  go_enter Tryd.func17, Tryd.ntmps17
  go_wp2_with fail
  all_goals
    go_ret
    refine ⟨ret_int ?_, rfl⟩
    have := H.out
    simp only [beq_iff_eq, beq_eq_false_iff_ne, ne_eq] at *
    omega

/-- A field's greatest number, as the document has it. -/
def mostZ (o j : Int) : Int := if o = 0 then 250 else if o = 1 ∨ o = 2 then 15 else if o = 10 ∨ o = 11 then 199 else if o = 13 then (if j = 1 then 7 else 15) else if o = 14 then 7 else 255
set_option maxHeartbeats 1000000 in
theorem most_any (o j : Int) : Cs Tryd.prog 25 #[.int .i64 o, .int .i64 j] (.int .i64 (mostZ o j)) := fun w => by
  have hf : mostZ o j = if o = 0 then 250 else if o = 1 ∨ o = 2 then 15 else if o = 10 ∨ o = 11 then 199 else if o = 13 then (if j = 1 then 7 else 15) else if o = 14 then 7 else 255 := rfl
  generalize mostZ o j = f at *
  have H := Lib.hid hf
  clear hf
  go_enter Tryd.func25, Tryd.ntmps25
  go_wp2_with fail
  all_goals
    go_ret
    refine ⟨ret_int ?_, rfl⟩
    have := H.out
    simp only [beq_iff_eq, beq_eq_false_iff_ne, ne_eq] at *
    simp_all

/-- The names, in a list. -/
def nameArr : Array Value := (opTab.map fun r => .string r.nm).toArray
theorem nameArr_get {k : Nat} (hk : k < 17) : nameArr[k]? = some (.string (orow k).nm) := by
  unfold nameArr
  rw [List.getElem?_toArray, List.getElem?_map, opTab_get hk]
  rfl
set_option maxHeartbeats 1000000 in
set_option maxRecDepth 100000 in
theorem names_any (w : World) : Calls Tryd.prog 22 #[] w fun e w' => e = .returned (.slice (some ⟨w.heap.size, 0, none⟩) 17 17) ∧ Held w' w.heap.size 9 nameArr ∧ Below w.heap.size w w' := by
  go_enter Tryd.func22, Tryd.ntmps22
  go_wp2_with fail
  go_ret
  exact ⟨rfl, Held.new _ _ _, by go_grown⟩
end Go.Proofs.YthjgfkaodkgmfaaDoor
