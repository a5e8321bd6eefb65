/- Layer 1: what is told of places and numbers that there are not; texts that are put. -/
import Derived.Test.YteikmkbaokfgeaaWget
import Derived.Test.YteikmkbaokfgeaaKit
import Derived.Test.YteikmkbaokfgeaaWput
import Derived.Test.YteikmkbaokfgeaaWpf
import Derived.Test.YteikmkbaokfgeaaWgf
namespace Go.Proofs.Yteikmkbaokfgeaa
set_option linter.unusedVariables false
set_option linter.unusedSimpArgs false
open Go.RowKit Go.ChangeShapes Go.WideShapes Go.ChangeAt

set_option maxHeartbeats 400000 in
theorem get_arg (s : ByteArray) (a : Int) (w : World) (hs : s.size ≤ maxLen) (ha : a < 0 ∨ s.size < a) :
    Calls Try.prog 46 #[.string s, .int .i64 a] w fun e w' => e = .returned (.tuple #[.int .i64 0, .int .i64 a, .int .i64 1]) ∧ w = w' := by
  unfold maxLen at hs
  by_cases h0 : a < 0
  · go_enter Try.func46, Try.ntmps46
    go_wp2
    go_step3
    go_wp2
    try rw [Exit.noGoto_ret]
    go_ret3
    exact ⟨rfl, rfl⟩
  · have h1 : (s.size : Int) < a := by omega
    go_enter Try.func46, Try.ntmps46
    go_wp2
    go_step3
    go_wp2
    try rw [Exit.noGoto_ret]
    go_ret3
    exact ⟨rfl, rfl⟩

set_option maxHeartbeats 400000 in
theorem put_none (n : Int) (w : World) (hn : n < 0 ∨ 281474976710655 < n) :
    Calls Try.prog 43 #[.int .i64 n] w fun e w' => e = .returned (.string ⟨#[]⟩) ∧ w = w' := by
  by_cases h0 : n < 0
  · go_enter Try.func43, Try.ntmps43
    go_wp2
    go_step3
    go_wp2
    try rw [Exit.noGoto_ret]
    go_ret
    exact ⟨rfl, rfl⟩
  · have h1 : 281474976710655 < n := by omega
    go_enter Try.func43, Try.ntmps43
    go_wp2
    go_step3
    go_wp2
    try rw [Exit.noGoto_ret]
    go_ret
    exact ⟨rfl, rfl⟩

set_option maxHeartbeats 400000 in
theorem putFixed_none (n : Int) (w : World) (hn : n < 0 ∨ 4294967295 < n) :
    Calls Try.prog 32 #[.int .i64 n] w fun e w' => e = .returned (.string ⟨#[]⟩) ∧ w = w' := by
  by_cases h0 : n < 0
  · go_enter Try.func32, Try.ntmps32
    go_wp2
    go_ret
    exact ⟨rfl, rfl⟩
  · have h1 : 4294967295 < n := by omega
    go_enter Try.func32, Try.ntmps32
    go_wp2
    go_ret
    exact ⟨rfl, rfl⟩


/-- Put, of every number. -/
theorem put_all (n : Int) (w : World) : Calls Try.prog 43 #[.int .i64 n] w fun e w' => e = .returned (.string ⟨(putF n).toArray⟩) ∧ Below w.heap.size w w' := by
  by_cases h : n < 0 ∨ 281474976710655 < n
  · refine (put_none n w h).mono fun e w' ⟨he, hw⟩ => ⟨?_, below_of_eq hw _⟩
    rw [he, putF, if_pos h]
  · obtain ⟨m, rfl⟩ := Int.eq_ofNat_of_zero_le (by omega : 0 ≤ n)
    refine (put_any m w (by omega)).mono fun e w' ⟨he, hw⟩ => ⟨?_, hw⟩
    rw [he, putF, if_neg h]
    rfl

def fixF (n : Int) : List UInt8 := if n < 0 ∨ 4294967295 < n then [] else fixG n.toNat
/-- PutFixed, of every number. -/
theorem putFixed_all (n : Int) (w : World) : Calls Try.prog 32 #[.int .i64 n] w fun e w' => e = .returned (.string ⟨(fixF n).toArray⟩) ∧ Below w.heap.size w w' := by
  by_cases h : n < 0 ∨ 4294967295 < n
  · refine (putFixed_none n w h).mono fun e w' ⟨he, hw⟩ => ⟨?_, below_of_eq hw _⟩
    rw [he, fixF, if_pos h]
  · obtain ⟨m, rfl⟩ := Int.eq_ofNat_of_zero_le (by omega : 0 ≤ n)
    refine (putFixed_any m w (by omega)).mono fun e w' ⟨he, hw⟩ => ⟨?_, hw⟩
    rw [he, fixF, if_neg h]
    rfl

/-- Get, at every place. -/
theorem get_all (s : ByteArray) (a : Int) (w : World) (hs : s.size ≤ maxLen) :
    Calls Try.prog 46 #[.string s, .int .i64 a] w fun e w' => e = .returned (.tuple #[.int .i64 (getF s.data.toList a).1, .int .i64 (getF s.data.toList a).2.1, .int .i64 (getF s.data.toList a).2.2]) ∧ w = w' := by
  have hl : s.data.toList.length = s.size := rfl
  by_cases h : a < 0 ∨ (s.size : Int) < a
  · refine (get_arg s a w hs h).mono fun e w' ⟨he, hw⟩ => ⟨?_, hw⟩
    rw [he, getF, if_pos (by rw [hl]; exact h)]
  · obtain ⟨m, rfl⟩ := Int.eq_ofNat_of_zero_le (by omega : 0 ≤ a)
    refine (get_any s m w hs (by omega)).mono fun e w' ⟨he, hw⟩ => ⟨?_, hw⟩
    rw [he, getF, if_neg (by rw [hl]; exact h)]
    rfl

/-- What GetFixed tells. -/
def gfxF (s : List UInt8) (a : Int) : Int × Int × Int :=
  if a < 0 ∨ (s.length : Int) < a then (0, a, 1) else
  match s.drop a.toNat with
  | b0 :: b1 :: b2 :: b3 :: _ => (fix4 b0 b1 b2 b3, a + 4, 0)
  | _ => (0, a, 10)

theorem getFixed_all (s : ByteArray) (a : Int) (w : World) (hs : s.size ≤ maxLen) :
    Calls Try.prog 40 #[.string s, .int .i64 a] w fun e w' => e = .returned (.tuple #[.int .i64 (gfxF s.data.toList a).1, .int .i64 (gfxF s.data.toList a).2.1, .int .i64 (gfxF s.data.toList a).2.2]) ∧ Below w.heap.size w w' := by
  have hl : s.data.toList.length = s.size := rfl
  by_cases h : a < 0 ∨ (s.size : Int) < a
  · refine (getFixed_arg s a w hs h).mono fun e w' ⟨he, hw⟩ => ⟨?_, hw⟩
    rw [he, gfxF, if_pos (by rw [hl]; exact h)]
  · obtain ⟨m, rfl⟩ := Int.eq_ofNat_of_zero_le (by omega : 0 ≤ a)
    by_cases h4 : m + 4 ≤ s.size
    · obtain ⟨b0, b1, b2, b3, r, hd⟩ := four_of s m h4
      refine (getFixed_any s m w hs b0 b1 b2 b3 r hd).mono fun e w' ⟨he, hw⟩ => ⟨?_, hw⟩
      rw [he, gfxF, if_neg (by rw [hl]; exact h), Int.toNat_natCast, hd]
    · refine (getFixed_less s m w hs (by omega) (by omega)).mono fun e w' ⟨he, hw⟩ => ⟨?_, hw⟩
      have hlen : (s.data.toList.drop m).length < 4 := by simp; omega
      rw [he, gfxF, if_neg (by rw [hl]; exact h), Int.toNat_natCast]
      split
      · next heq => rw [heq] at hlen; simp at hlen; omega
      · rfl

theorem putG_len : ∀ f n, (putG f n).length ≤ f
  | 0, _ => by simp [putG]
  | f + 1, n => by
    rw [putG]
    split
    · simp
    · simp only [List.length_cons]; have := putG_len f (n / 128); omega
theorem putF_len (n : Int) : (putF n).length ≤ 7 := by
  unfold putF
  split
  · simp
  · exact putG_len 7 _
theorem bytes_append (a : List UInt8) (t : ByteArray) : (⟨a.toArray⟩ : ByteArray) ++ t = ⟨(a ++ t.data.toList).toArray⟩ := by
  apply ByteArray.ext
  simp
/-- What PutText tells. -/
def putTextF (t : List UInt8) : List UInt8 := if 1048576 < t.length then [] else putF t.length ++ t

set_option maxHeartbeats 400000 in
theorem putText_all (t : ByteArray) (w : World) (ht : t.size ≤ maxLen) :
    Calls Try.prog 31 #[.string t] w fun e w' => e = .returned (.string ⟨(putTextF t.data.toList).toArray⟩) ∧ Below w.heap.size w w' := by
  have hl : t.data.toList.length = t.size := rfl
  unfold maxLen at ht
  by_cases h : 1048576 < t.size
  · have hz : (1048576 : Int) < t.size := by omega
    have hf : putTextF t.data.toList = [] := by rw [putTextF, if_pos (by rw [hl]; exact h)]
    have HF := Lib.hid hf; clear hf hl
    go_enter Try.func31, Try.ntmps31
    go_wp2
    go_ret
    rw [HF.out]
    exact ⟨rfl, Below.refl _ _⟩
  · have hz : ¬ (1048576 : Int) < t.size := by omega
    have hf : putTextF t.data.toList = putF t.size ++ t.data.toList := by rw [putTextF, if_neg (by rw [hl]; exact h), hl]
    have HF := Lib.hid hf; clear hf hl
    have hgs : (putF t.size).length + t.size ≤ 9223372036854775807 := by have := putF_len t.size; omega
    go_enter Try.func31, Try.ntmps31
    go_wp2_with (go_at_call 43; refine (put_all _ _).mono ?_; rintro e w' ⟨rfl, hb⟩)
    go_ret
    rw [HF.out]
    refine ⟨?_, hb⟩
    exact congrArg (fun x => Ending.returned (Value.string x)) (bytes_append _ _)
end Go.Proofs.Yteikmkbaokfgeaa
