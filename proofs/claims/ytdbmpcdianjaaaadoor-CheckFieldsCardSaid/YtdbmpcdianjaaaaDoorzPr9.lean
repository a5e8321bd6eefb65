/- Layer 7: the document's Number. -/
import Derived.Test.YtdbmpcdianjaaaaDoorzRdg
import Derived.OpenShut
import Derived.Lib.Hide
import Derived.WalkMore
import Derived.Handy
namespace Go.Proofs.YtdbmpcdianjaaaaDoor
set_option linter.unusedVariables false
set_option linter.unusedSimpArgs false
open Go.RowKit Go.ChangeShapes Go.WideShapes Go.ChangeAt Go.Sort

theorem valD_snoc (l : List UInt8) (c : UInt8) : valD (l ++ [c]) = 10 * valD l + c.toNat - 48 := by simp [valD]
theorem valD_bd : ∀ l : List UInt8, (l.length ≤ 2 → -600 ≤ valD l ∧ valD l ≤ 2600) ∧ (l.length ≤ 3 → -6000 ≤ valD l ∧ valD l ≤ 26000)
  | [] => by simp [valD]
  | [a] => by have := a.toNat_lt; simp [valD]; omega
  | [a, b] => by have := a.toNat_lt; have := b.toNat_lt; simp [valD]; omega
  | [a, b, c] => by have := a.toNat_lt; have := b.toNat_lt; have := c.toNat_lt; simp [valD]; omega
  | a :: b :: c :: d :: l => by simp

set_option maxHeartbeats 2000000 in
set_option maxRecDepth 100000 in
theorem pnumber_any (s : ByteArray) : Ct Tryd.prog 53 #[.string s] (.int .i64 (numV s.data.toList)) := fun w => by
  have hl : s.data.toList.length = s.size := rfl
  by_cases h3 : s.size ≤ 3
  case neg =>
    have hv : numV s.data.toList = -1 := by unfold numV; rw [if_neg (by rw [hl]; omega)]
    have HV := Lib.hid hv
    have h4 : (3 : Int) < s.size := by omega
    clear hv hl
    go_enter Tryd.func53, Tryd.ntmps53
    go_wp2
    go_ret
    rw [HV.out]
    exact ⟨rfl, Below.refl _ _⟩
  have h3' : (s.size : Int) ≤ 3 := by omega
  go_enter Tryd.func53, Tryd.ntmps53
  go_wp2
  go_loop [3, 4] (fun n i => ∃ k : Nat, k ≤ s.size ∧ i = .int .i64 k ∧ n = .int .i64 (valD (s.data.toList.take k))) (fun _ i => s.size - (intOf i).toNat)
  case atStart => exact ⟨0, by omega, rfl, by simp [valD]⟩
  case round =>
    obtain ⟨k, hk, rfl, rfl⟩ := hrel
    by_cases hlt : k < s.size
    · have hb := (valD_bd (s.data.toList.take k)).1 (by simp; omega)
      have hb1 := hb.1
      have hb2 := hb.2
      have hst : valD (s.data.toList.take (k + 1)) = 10 * valD (s.data.toList.take k) + s[k].toNat - 48 := by
        rw [List.take_succ_eq_append_getElem (by rw [hl]; exact hlt), valD_snoc]
        rfl
      have HST := Lib.hid hst
      have h256 := s[k].toNat_lt
      clear hb hst
      generalize valD (s.data.toList.take k) = n at *
      go_wp2_with fail
      go_round
      case rel => exact ⟨k + 1, by omega, by go_num, by rw [HST.out]⟩
      case measure => simp [intOf]; omega
    · obtain rfl : k = s.size := by omega
      rw [List.take_of_length_le (by rw [hl]; omega)]
      have hb := (valD_bd s.data.toList).2 (by omega)
      have hn : numV s.data.toList = if 0 ≤ valD s.data.toList ∧ dgI (valD s.data.toList) = s.data.toList then valD s.data.toList else -1 := by
        unfold numV
        by_cases h : 0 ≤ valD s.data.toList ∧ dgI (valD s.data.toList) = s.data.toList
        · rw [if_pos h, if_pos ⟨by omega, h.1, h.2⟩]
        · rw [if_neg h, if_neg (fun h2 => h ⟨h2.2.1, h2.2.2⟩)]
      have hD := fun h0 => rdg_in (n := valD s.data.toList) h0 (by omega)
      have hb2 := hb.2
      clear hb
      generalize valD s.data.toList = n at *
      by_cases h0 : 0 ≤ n
      · have D := hD h0
        have hq := eqS_toList ⟨(dgI n).toArray⟩ s
        rw [ByteArray.toList_mk] at hq
        by_cases he : dgI n = s.data.toList
        · have hes : eqS ⟨(dgI n).toArray⟩ s = true := eqS_iff.2 (by simp [he])
          rw [if_pos ⟨h0, he⟩] at hn
          rw [hes] at hq
          have HN := Lib.hid hn
          clear hn hes he hD hl
          go_wp2_with (go_at_call 58; (with_reducible refine (D.go _).mono ?_); rintro e v ⟨rfl, hb⟩)
          go_ret
          rw [HN.out]
          exact ⟨rfl, hb⟩
        · have hes : eqS ⟨(dgI n).toArray⟩ s = false := by
            rw [← Bool.not_eq_true, eqS_iff]
            intro e
            exact he (by rw [← e])
          rw [if_neg (fun h => he h.2)] at hn
          rw [hes] at hq
          have HN := Lib.hid hn
          clear hn hes he hD hl
          go_wp2_with (go_at_call 58; (with_reducible refine (D.go _).mono ?_); rintro e v ⟨rfl, hb⟩)
          go_ret
          rw [HN.out]
          exact ⟨rfl, hb⟩
      · rw [if_neg (fun h => h0 h.1)] at hn
        have HN := Lib.hid hn
        clear hn hD hl
        go_wp2_with fail
        go_ret
        rw [HN.out]
        exact ⟨rfl, Below.refl _ _⟩
end Go.Proofs.YtdbmpcdianjaaaaDoor

