/- Layer 6: the document's own answers, at every input. -/
import Derived.Test.YtoeinpiekfmbgaaGreatDoorRows
import Derived.Test.YtoeinpiekfmbgaaGreatDoorzGc
import Derived.Test.YtoeinpiekfmbgaaGreatDoorzGb
namespace Go.Proofs.YtoeinpiekfmbgaaGreatDoor
set_option linter.unusedVariables false
set_option linter.unusedSimpArgs false
open Go.RowKit Go.ChangeShapes Go.WideShapes Go.ChangeAt Go.Sort

set_option maxHeartbeats 1000000 in
theorem rfields_any (n : Int) : Cs Tryz.prog 61 #[.int .i64 n] (.int .i64 (rz n).f) := fun w => by
  have hf : (n = 0 ∨ n = 13 → (rz n).f = 2) ∧ (n = 1 ∨ n = 2 ∨ n = 10 ∨ n = 11 ∨ n = 14 ∨ n = 16 → (rz n).f = 1) ∧ (¬ (n = 0 ∨ n = 13) → ¬ (n = 1 ∨ n = 2 ∨ n = 10 ∨ n = 11 ∨ n = 14 ∨ n = 16) → (rz n).f = 0) := by
    rcases okZ_cases n with ⟨k, hk, rfl⟩ | hn
    · rw [rz_in hk, f_of k hk]
      refine ⟨fun h => ?_, fun h => ?_, fun h h2 => ?_⟩
      · rw [if_pos (by omega)]
      · rw [if_neg (by omega), if_pos (by omega)]
      · rw [if_neg (by omega), if_neg (by omega)]
    · rw [rz_out hn]
      have := okZ_no hn
      exact ⟨fun h => by omega, fun h => by omega, fun _ _ => rfl⟩
  generalize (rz n).f = f at *
  have H := Lib.hid hf
  clear hf
  go_enter Tryz.func61, Tryz.ntmps61
  go_wp2_with fail
  all_goals
    go_ret
    refine ⟨ret_int ?_, rfl⟩
    have := H.out
    simp only [beq_iff_eq, beq_eq_false_iff_ne, ne_eq] at *
    omega

set_option maxHeartbeats 1000000 in
theorem most_any (o j : Int) : Cs Tryz.prog 72 #[.int .i64 o, .int .i64 j] (.int .i64 (mostZ o j)) := fun w => by
  have hf : mostZ o j = if o = 0 then 250 else if o = 1 ∨ o = 2 then 15 else if o = 10 ∨ o = 11 then 199 else if o = 13 then (if j = 1 then 7 else 15) else if o = 14 then 7 else 255 := rfl
  generalize mostZ o j = f at *
  have H := Lib.hid hf
  clear hf
  go_enter Tryz.func72, Tryz.ntmps72
  go_wp2_with fail
  all_goals
    go_ret
    refine ⟨ret_int ?_, rfl⟩
    have := H.out
    simp only [beq_iff_eq, beq_eq_false_iff_ne, ne_eq] at *
    simp_all

/-- The names, in a list. -/
def nameArr : Array Value := (opTab.map fun r => .string r.nm).toArray
theorem nameArr_get {k : Nat} (hk : k < 17) : nameArr[k]? = some (.string (orow k).nm) := by
  unfold nameArr
  rw [List.getElem?_toArray, List.getElem?_map, opTab_get hk]
  rfl
set_option maxHeartbeats 1000000 in
set_option maxRecDepth 100000 in
theorem names_any (w : World) : Calls Tryz.prog 85 #[] w fun e w' => e = .returned (.slice (some ⟨w.heap.size, 0, none⟩) 17 17) ∧ Held w' w.heap.size 9 nameArr ∧ Below w.heap.size w w' := by
  go_enter Tryz.func85, Tryz.ntmps85
  go_wp2_with fail
  go_ret
  exact ⟨rfl, Held.new _ _ _, by go_grown⟩
end Go.Proofs.YtoeinpiekfmbgaaGreatDoor

/- Layer 6: the document's names, and what it finds by them. -/
namespace Go.Proofs.YtoeinpiekfmbgaaGreatDoor
set_option linter.unusedVariables false
set_option linter.unusedSimpArgs false
open Go.RowKit Go.ChangeShapes Go.WideShapes Go.ChangeAt Go.Sort

set_option maxHeartbeats 1000000 in
set_option maxRecDepth 100000 in
theorem rfind_any (s : ByteArray) : Ct Tryz.prog 60 #[.string s] (.int .i64 (rfnd s)) := fun w => by
  go_enter Tryz.func60, Tryz.ntmps60
  go_wp2_with (go_at_call 85; (with_reducible refine (names_any _).mono ?_); rintro e v ⟨rfl, hx, hb⟩)
  go_loop [4] (fun i => ∃ k : Nat, k ≤ 17 ∧ i = .int .i64 k ∧ (∀ j, j < k → eqS (orow j).nm s = false)) (fun i => 17 - (intOf i).toNat)
  case atStart => exact ⟨0, by omega, rfl, fun j hj => absurd hj (by omega)⟩
  case round =>
    obtain ⟨k, hk, rfl, hn⟩ := hrel
    have HN := Lib.hid hn
    clear hn
    by_cases hlt2 : k < 17
    · have c0 := (hx.cell k).trans (nameArr_get hlt2)
      obtain ⟨nm, hr⟩ : ∃ nm, (orow k).nm = nm := ⟨_, rfl⟩
      rw [hr] at c0
      have HR := Lib.hid hr
      clear hr
      have hq := eqS_toList nm s
      by_cases he : eqS nm s = true
      · have hit := rfnd_hit (idx_hit hlt2 (by rw [HR.out]; exact he) HN.out) hlt2
        have HIT := Lib.hid hit
        clear hit
        rw [he] at hq
        go_wp2_with fail
        go_ret
        exact ⟨ret_int HIT.out.symm, hb⟩
      · rw [Bool.not_eq_true] at he
        rw [he] at hq
        have hn2 : ∀ j, j < k + 1 → eqS (orow j).nm s = false := fun j hj => by
          rcases Nat.lt_succ_iff_lt_or_eq.1 hj with h | rfl
          · exact HN.out j h
          · rw [HR.out]; exact he
        have HN2 := Lib.hid hn2
        clear hn2
        go_wp2_with fail
        go_round
        case rel => exact ⟨k + 1, by omega, by go_num, HN2.out⟩
        case measure => simp [intOf]; omega
    · obtain rfl : k = 17 := by omega
      have hm := rfnd_miss (idx_miss HN.out)
      have HM := Lib.hid hm
      clear hm
      go_wp2
      go_ret
      exact ⟨ret_int HM.out.symm, hb⟩
end Go.Proofs.YtoeinpiekfmbgaaGreatDoor

