/- Layer 7: the document's reading of an instruction. -/
import Derived.Test.YtcfdbciooimjmaaGreatDoorzPr6
namespace Go.Proofs.YtcfdbciooimjmaaGreatDoor
set_option linter.unusedVariables false
set_option linter.unusedSimpArgs false
open Go.RowKit Go.ChangeShapes Go.WideShapes Go.ChangeAt Go.Sort

theorem at_end {s : List UInt8} {i : Int} (h : At s i []) : i = s.length := by
  obtain ⟨h0, h1, h2⟩ := h
  have := congrArg List.length h2
  simp at this
  omega
theorem at_cons {s : ByteArray} {i : Int} {c : UInt8} {r : List UInt8} (h : At s.data.toList i (c :: r)) : ∃ (k : Nat) (hk : k < s.size), i = k ∧ s[k] = c ∧ At s.data.toList (i + 1) r := by
  obtain ⟨h0, h1, h2⟩ := h
  have hlen := congrArg List.length h2
  simp only [List.length_drop, List.length_cons] at hlen
  have hl : s.data.toList.length = s.size := rfl
  have hk : i.toNat < s.size := by omega
  refine ⟨i.toNat, hk, by omega, ?_, by omega, by omega, ?_⟩
  · rw [drop_cons s i.toNat hk] at h2
    exact (List.cons.inj h2).1
  · rw [drop_cons s i.toNat hk] at h2
    rw [← (List.cons.inj h2).2]
    congr 1
    omega

set_option maxHeartbeats 4000000 in
set_option maxRecDepth 100000 in
theorem pins_end (s : ByteArray) (i : Int) (h : i = s.size) : Ct Tryz.prog 64 #[atv s i 0] (.tuple #[iv 0 0 0, atv s i 10]) := fun w => by
  have h1 : (s.size : Int) ≤ i := by omega
  clear h
  go_enter Tryz.func64, Tryz.ntmps64
  go_wp2_with fail
  go_region
  all_goals (try go_wp2_with fail)
  all_goals go_returns
  all_goals exact ⟨rfl, by go_grown⟩

set_option maxHeartbeats 4000000 in
set_option maxRecDepth 100000 in
theorem pins_big (s : ByteArray) (k : Nat) (hk : k < s.size) (hs : s.size ≤ maxLen) (hc : 16 < s[k].toNat) : Ct Tryz.prog 64 #[atv s k 0] (.tuple #[iv (opB s[k]) 0 0, atv s (k + 1) 71]) := fun w => by
  have RF : Cs Tryz.prog 50 #[.int .i64 (s[k].toNat : Int)] (.int .i64 0) := by
    have := rfields_any (opB s[k])
    have hz : okZ (opB s[k]) = false := by unfold okZ opB; simp; omega
    rw [rz_out hz] at this
    exact this
  have h256 := s[k].toNat_lt
  have hc2 : (16 : Int) < s[k].toNat := by omega
  unfold maxLen at hs
  go_enter Tryz.func64, Tryz.ntmps64
  go_wp2_with (go_at_call 50; (with_reducible refine (RF.go _).mono ?_); rintro e v ⟨rfl, rfl⟩)
  go_region
  all_goals (try go_wp2_with fail)
  all_goals go_returns
  all_goals exact ⟨rfl, by go_grown⟩

set_option maxHeartbeats 4000000 in
set_option maxRecDepth 100000 in
theorem pins_none (s : ByteArray) (k : Nat) (hk : k < s.size) (hs : s.size ≤ maxLen) (hc : s[k].toNat ≤ 16) (hf : (rz (opB s[k])).f = 0) : Ct Tryz.prog 64 #[atv s k 0] (.tuple #[iv (opB s[k]) 0 0, atv s (k + 1) 0]) := fun w => by
  have RF : Cs Tryz.prog 50 #[.int .i64 (s[k].toNat : Int)] (.int .i64 0) := by
    have := rfields_any (opB s[k])
    rw [hf] at this
    exact this
  have h256 := s[k].toNat_lt
  have hc2 : (s[k].toNat : Int) ≤ 16 := by omega
  unfold maxLen at hs
  clear hf
  go_enter Tryz.func64, Tryz.ntmps64
  go_wp2_with (go_at_call 50; (with_reducible refine (RF.go _).mono ?_); rintro e v ⟨rfl, rfl⟩)
  go_region
  all_goals (try go_wp2_with fail)
  all_goals go_returns
  all_goals exact ⟨rfl, by go_grown⟩
end Go.Proofs.YtcfdbciooimjmaaGreatDoor

