/- Layer 6: the document's names, and what it finds by them. -/
import Derived.Test.YthjgfkaodkgmfaaDoorOr
namespace Go.Proofs.YthjgfkaodkgmfaaDoor
set_option linter.unusedVariables false
set_option linter.unusedSimpArgs false
open Go.RowKit Go.ChangeShapes Go.WideShapes Go.ChangeAt Go.Sort

set_option maxHeartbeats 1000000 in
set_option maxRecDepth 100000 in
theorem rname_any (n : Int) : Ct Tryd.prog 13 #[.int .i64 n] (.string (rz n).nm) := fun w => by
  rcases okZ_cases n with ⟨k, hk, rfl⟩ | hn
  · rw [rz_in hk]
    have hg := nameArr_get hk
    generalize (orow k).nm = nm at *
    have HG := Lib.hid hg
    clear hg
    go_enter Tryd.func13, Tryd.ntmps13
    go_wp2_with (go_at_call 22; (with_reducible refine (names_any _).mono ?_); rintro e v ⟨rfl, hx, hb⟩; have c0 := (hx.cell k).trans HG.out)
    go_ret
    exact ⟨rfl, hb⟩
  · rw [rz_out hn]
    have h := okZ_no hn
    go_enter Tryd.func13, Tryd.ntmps13
    go_wp2_with fail
    all_goals go_ret
    all_goals exact ⟨rfl, Below.refl _ _⟩

/-- What the document finds. -/
def rfnd (s : ByteArray) : Int := if isF s = true then numF s else -1
theorem rfnd_hit {s : ByteArray} {k : Nat} (h : idxN s = k) (hk : k < 17) : rfnd s = k := by
  unfold rfnd
  rw [(fnd_hit h hk).2, (fnd_hit h hk).1]
  rfl
theorem rfnd_miss {s : ByteArray} (h : idxN s = 17) : rfnd s = -1 := by
  unfold rfnd
  rw [(fnd_miss h).2]
  rfl

set_option maxHeartbeats 1000000 in
set_option maxRecDepth 100000 in
theorem rfind_any (s : ByteArray) : Ct Tryd.prog 10 #[.string s] (.int .i64 (rfnd s)) := fun w => by
  go_enter Tryd.func10, Tryd.ntmps10
  go_wp2_with (go_at_call 22; (with_reducible refine (names_any _).mono ?_); rintro e v ⟨rfl, hx, hb⟩)
  go_loop [4] (fun i => ∃ k : Nat, k ≤ 17 ∧ i = .int .i64 k ∧ (∀ j, j < k → eqS (orow j).nm s = false)) (fun i => 17 - (intOf i).toNat)
  case atStart => exact ⟨0, by omega, rfl, fun j hj => absurd hj (by omega)⟩
  case round =>
    obtain ⟨k, hk, rfl, hn⟩ := hrel
    have HN := Lib.hid hn
    clear hn
    by_cases hlt2 : k < 17
    · have c0 := (hx.cell k).trans (nameArr_get hlt2)
      obtain ⟨nm, hr⟩ : ∃ nm, (orow k).nm = nm := ⟨_, rfl⟩
      rw [hr] at c0
      have HR := Lib.hid hr
      clear hr
      have hq := eqS_toList nm s
      by_cases he : eqS nm s = true
      · have hit := rfnd_hit (idx_hit hlt2 (by rw [HR.out]; exact he) HN.out) hlt2
        have HIT := Lib.hid hit
        clear hit
        rw [he] at hq
        go_wp2_with fail
        go_ret
        exact ⟨ret_int HIT.out.symm, hb⟩
      · rw [Bool.not_eq_true] at he
        rw [he] at hq
        have hn2 : ∀ j, j < k + 1 → eqS (orow j).nm s = false := fun j hj => by
          rcases Nat.lt_succ_iff_lt_or_eq.1 hj with h | rfl
          · exact HN.out j h
          · rw [HR.out]; exact he
        have HN2 := Lib.hid hn2
        clear hn2
        go_wp2_with fail
        go_round
        case rel => exact ⟨k + 1, by omega, by go_num, HN2.out⟩
        case measure => simp [intOf]; omega
    · obtain rfl : k = 17 := by omega
      have hm := rfnd_miss (idx_miss HN.out)
      have HM := Lib.hid hm
      clear hm
      go_wp2
      go_ret
      exact ⟨ret_int HM.out.symm, hb⟩
end Go.Proofs.YthjgfkaodkgmfaaDoor
