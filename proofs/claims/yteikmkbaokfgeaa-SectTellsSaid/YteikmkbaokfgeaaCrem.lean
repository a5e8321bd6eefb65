/- Layer 2's code: the remainder of a byte, of whatever number of 32 bits. -/
import Derived.Test.YteikmkbaokfgeaaRows
import Derived.Test.YteikmkbaokfgeaaCm
import Derived.Test.YteikmkbaokfgeaaCarr
import Derived.WalkKit
import Derived.ProofKit
import Derived.Lib.Hide
import Derived.WalkMore
import Derived.Handy
import Derived.Laws.BitsAllLaws
namespace Go.Proofs.Yteikmkbaokfgeaa
set_option linter.unusedVariables false
set_option linter.unusedSimpArgs false
open Go.RowKit Go.ChangeShapes Go.WideShapes Go.ChangeAt Cm

theorem liter_snoc : ∀ k y, lstep (liter k y) = liter (k + 1) y
  | 0, _ => rfl
  | k + 1, y => by rw [liter, liter_snoc k]; rfl
theorem lstep_odd (y : Nat) (h : ((y : Int) % 2 == 1) = true) (hy : y < 4294967296) : bits .xor .u32 ((y : Int) / 2) 3988292384 = (lstep y : Nat) := by
  have h' : y % 2 = 1 := by simp at h; omega
  rw [u32_xor _ _ (by omega) (by omega) (by decide) (by decide), lstep, if_pos h']
  rfl
theorem lstep_even (y : Nat) (h : ((y : Int) % 2 == 1) = false) : (y : Int) / 2 = (lstep y : Nat) := by
  have h' : ¬ y % 2 = 1 := by simp at h; omega
  rw [lstep, if_neg h']
  omega

set_option maxHeartbeats 400000 in
theorem remainder_any (x : Nat) (w : World) (hx : x < 4294967296) : Calls Try.prog 52 #[.int .u32 x] w fun e w' => e = .returned (.int .u32 (rem8 x)) ∧ w = w' := by
  go_enter Try.func52, Try.ntmps52
  go_wp2
  go_loop [0, 4] (fun y i => ∃ k : Nat, k ≤ 8 ∧ i = .int .i64 k ∧ y = .int .u32 (liter k x : Nat)) (fun _ i => 8 - (intOf i).toNat)
  case atStart => exact ⟨0, by omega, rfl, rfl⟩
  case round =>
    obtain ⟨k, hk, rfl, rfl⟩ := hrel
    have hs := liter_snoc k x
    have hl := liter_lt k hx
    have HS := Lib.hid hs; clear hs
    by_cases hlt : k < 8
    · generalize liter k x = y at *
      go_wp2_with fail
      · go_round
        case rel => exact ⟨k + 1, by omega, by go_num, by rw [← HS.out, lstep_odd y (by assumption) hl]⟩
        case measure => simp [intOf]; omega
      · go_round
        case rel => exact ⟨k + 1, by omega, by go_num, by rw [← HS.out, lstep_even y (by assumption)]⟩
        case measure => simp [intOf]; omega
    · obtain rfl : k = 8 := by omega
      go_wp2
      go_ret
      exact ⟨rfl, rfl⟩
end Go.Proofs.Yteikmkbaokfgeaa
