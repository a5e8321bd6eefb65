import Derived.Test.YteikmkbaokfgeaaRows
import Derived.Test.YteikmkbaokfgeaaWm2
import Derived.WalkKit
import Derived.ProofKit
import Derived.OpenShut
import Derived.Lib.Hide
import Derived.ScopeJumps
import Derived.WalkMore
import Derived.Handy
import Derived.Laws.IdiomStrings
import Derived.RegionTactic
namespace Go.Proofs.Yteikmkbaokfgeaa
set_option linter.unusedVariables false
set_option linter.unusedSimpArgs false
open Go.RowKit Go.ChangeShapes Go.WideShapes Go.ChangeAt

theorem Try.size5 : (Try.prog.info? 5).map (·.size) = some 1 := by kernel_rfl

def fix4 (b0 b1 b2 b3 : UInt8) : Int := b0.toNat + 256 * b1.toNat + 65536 * b2.toNat + 16777216 * b3.toNat

theorem four_of (s : ByteArray) (a : Nat) (ha : a + 4 ≤ s.size) : ∃ b0 b1 b2 b3 r, s.data.toList.drop a = b0 :: b1 :: b2 :: b3 :: r := by
  have h : 4 ≤ (s.data.toList.drop a).length := by simp; omega
  match hl : s.data.toList.drop a with
  | b0 :: b1 :: b2 :: b3 :: r => exact ⟨_, _, _, _, _, rfl⟩
  | [] => rw [hl] at h; simp at h
  | [_] => rw [hl] at h; simp at h
  | [_, _] => rw [hl] at h; simp at h
  | [_, _, _] => rw [hl] at h; simp at h
theorem extract_list (s : ByteArray) (a : Nat) : (s.extract a s.size).data.toList = s.data.toList.drop a := by
  simp [ByteArray.data_extract, Array.toList_extract, List.extract_eq_take_drop]
  rw [List.take_of_length_le (by simp)]
set_option maxHeartbeats 1000000 in
set_option maxRecDepth 100000 in
theorem getFixed_any (s : ByteArray) (a : Nat) (w : World) (hs : s.size ≤ maxLen) (b0 b1 b2 b3 : UInt8) (r : List UInt8) (hd : s.data.toList.drop a = b0 :: b1 :: b2 :: b3 :: r) :
    Calls Try.prog 40 #[.string s, .int .i64 a] w fun e w' => e = .returned (.tuple #[.int .i64 (fix4 b0 b1 b2 b3), .int .i64 (a + 4), .int .i64 0]) ∧ Below w.heap.size w w' := by
  unfold maxLen at hs
  have ha : a + 4 ≤ s.size := by
    have h : (s.data.toList.drop a).length = s.size - a := by simp
    rw [hd] at h; simp at h; omega
  have z1 : (0:Int) ≤ a := by omega
  have z2 : ¬ s.size < a := by omega
  have z3 : a ≤ s.size := by omega
  have z4 : (a : Int) ≤ s.size := by omega
  have hcp := run_copy_four (P := Try.prog) w 38 9 3 5 69 (s.extract a s.size) (.int .u8 0) (.int .u8 0) (.int .u8 0) (.int .u8 0) b0 b1 b2 b3 r (by rw [extract_list, hd]) Try.underlying38 Try.size5
  simp only [bv] at hcp
  have c0 := b0.toNat_lt
  have c1 := b1.toNat_lt
  have c2 := b2.toNat_lt
  have c3 := b3.toNat_lt
  clear hd
  go_enter Try.func40, Try.ntmps40
  go_wp2
  go_region
  clear hcp
  go_wp2
  go_rounds 5
  go_ret3
  refine ⟨?_, ((Below.refl _ _).alloc (Nat.le_refl _) _).drew⟩
  simp [fix4]
  omega

set_option maxHeartbeats 1000000 in
set_option maxRecDepth 100000 in
theorem getFixed_less (s : ByteArray) (a : Nat) (w : World) (hs : s.size ≤ maxLen) (ha : a ≤ s.size) (hb : s.size < a + 4) :
    Calls Try.prog 40 #[.string s, .int .i64 a] w fun e w' => e = .returned (.tuple #[.int .i64 0, .int .i64 a, .int .i64 10]) ∧ Below w.heap.size w w' := by
  unfold maxLen at hs
  have z1 : (0:Int) ≤ a := by omega
  have z2 : ¬ s.size < a := by omega
  have z4 : (a : Int) ≤ s.size := by omega
  have hz : (s.extract a s.size).size = s.size - a := by simp
  obtain ⟨c, hcp⟩ := run_copy_less (P := Try.prog) w 38 9 3 5 69 (s.extract a s.size) (.int .u8 0) (.int .u8 0) (.int .u8 0) (.int .u8 0) (by omega) Try.underlying38 Try.size5
  generalize (s.extract a s.size).size = q at hz hcp
  have z5 : (q : Int) < 4 := by omega
  clear hz
  go_enter Try.func40, Try.ntmps40
  go_wp2
  go_region
  clear hcp
  go_wp2
  go_ret3
  refine ⟨?_, ((Below.refl _ _).alloc (Nat.le_refl _) _).drew⟩
  simp

set_option maxHeartbeats 1000000 in
set_option maxRecDepth 100000 in
theorem getFixed_arg (s : ByteArray) (a : Int) (w : World) (hs : s.size ≤ maxLen) (ha : a < 0 ∨ s.size < a) :
    Calls Try.prog 40 #[.string s, .int .i64 a] w fun e w' => e = .returned (.tuple #[.int .i64 0, .int .i64 a, .int .i64 1]) ∧ Below w.heap.size w w' := by
  unfold maxLen at hs
  by_cases h0 : a < 0
  · go_enter Try.func40, Try.ntmps40
    go_wp2
    go_ret3
    exact ⟨rfl, ((Below.refl _ _).alloc (Nat.le_refl _) _)⟩
  · have h1 : (s.size : Int) < a := by omega
    go_enter Try.func40, Try.ntmps40
    go_wp2
    go_ret3
    exact ⟨rfl, ((Below.refl _ _).alloc (Nat.le_refl _) _)⟩
end Go.Proofs.Yteikmkbaokfgeaa
