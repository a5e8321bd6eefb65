/- Layer 3: the bytes of a section: the code's. -/
import Derived.Test.YteikmkbaokfgeaaSrp
import Derived.Test.YteikmkbaokfgeaaCroll
namespace Go.Proofs.Yteikmkbaokfgeaa
set_option linter.unusedVariables false
set_option linter.unusedSimpArgs false
open Go.RowKit Go.ChangeShapes Go.WideShapes Go.ChangeAt Cm

theorem of_all (s : ByteArray) (l : List UInt8) (n : Int) (w : World) (hs : s = ⟨l.toArray⟩) (hl : l.length ≤ maxLen) (h : rollF 0 l = n) :
    Calls Try.prog 24 #[.string s] w fun e w' => e = .returned (.int .i64 n) ∧ Below w.heap.size w w' := by
  subst hs
  exact of_lit _ n w (by show l.toArray.size ≤ _; rw [List.size_toArray]; exact hl) h
theorem cons_app (c : UInt8) (t : ByteArray) : (⟨#[c]⟩ : ByteArray) ++ t = ⟨(c :: t.data.toList).toArray⟩ := by
  apply ByteArray.ext; simp

set_option maxHeartbeats 400000 in
theorem sput_none (tag : Int) (t : ByteArray) (w : World) (ht : t.size ≤ maxLen) (h : tag < 0 ∨ 255 < tag ∨ 1048576 < (t.size : Int)) :
    Calls Try.prog 15 #[.int .i64 tag, .string t] w fun e w' => e = .returned (.string ⟨#[]⟩) ∧ w = w' := by
  unfold maxLen at ht
  have hc : tag < 0 ∨ (0 ≤ tag ∧ 255 < tag) ∨ (0 ≤ tag ∧ tag ≤ 255 ∧ 1048576 < (t.size : Int)) := by omega
  clear h
  rcases hc with h | ⟨h, h'⟩ | ⟨h, h', h''⟩
  all_goals
    go_enter Try.func15, Try.ntmps15
    go_wp2
    go_ret
    exact ⟨rfl, rfl⟩

set_option maxHeartbeats 1000000 in
set_option maxRecDepth 100000 in
theorem sput_in (n : Nat) (t : ByteArray) (w : World) (hn : n < 256) (ht : t.size ≤ 1048576) :
    Calls Try.prog 15 #[.int .i64 n, .string t] w fun e w' => e = .returned (.string ⟨(UInt8.ofNat n :: bodyS (UInt8.ofNat n) t.data.toList).toArray⟩) ∧ Below w.heap.size w w' := by
  have hl : t.data.toList.length = t.size := rfl
  have hc : (n : Int) % 256 = (UInt8.ofNat n).toNat := by rw [UInt8.toNat_ofNat']; omega
  have hc2 : (n : Int) = (UInt8.ofNat n).toNat := by rw [UInt8.toNat_ofNat']; omega
  have hn0 : 0 ≤ (n : Int) := by omega
  have hn1 : (n : Int) ≤ 255 := by omega
  have hn2 : (n : Int) < 256 := by omega
  have htz : (t.size : Int) ≤ 1048576 := by omega
  generalize UInt8.ofNat n = c at *
  have hsum := sum_in (c :: t.data.toList)
  have hb := bodyS_len c t.data.toList
  have hpl : (putTextF t.data.toList).length ≤ t.size + 7 := by
    unfold putTextF
    split
    · simp
    · have := putF_len t.data.toList.length
      simp only [List.length_append]; omega
  obtain ⟨q, hq⟩ : ∃ q, q = rollF 0 (c :: t.data.toList) := ⟨_, rfl⟩
  have hbody : bodyS c t.data.toList = putTextF t.data.toList ++ fixF q := by rw [hq]; rfl
  have C0 := fun W => Lib.hid (putText_all t W (by unfold maxLen; omega))
  have C1 := fun s W hs => Lib.hid (of_all s (c :: t.data.toList) q W hs (by simp only [List.length_cons, hl]; unfold maxLen; omega) hq.symm)
  have hs' := cons_app c t
  have C2 := fun W => Lib.hid (putFixed_all q W)
  have hfl : (fixF q).length = 4 := by rw [hq, fixF_eq hsum.1 hsum.2, fixG_len]
  have HB := Lib.hid hbody
  have HS := Lib.hid hs'
  have g1 : 1 + (putTextF t.data.toList).length ≤ 9223372036854775807 := by omega
  have g2 : 1 + t.size ≤ 9223372036854775807 := by omega
  have g3 : 1 + (putTextF t.data.toList).length + (fixF q).length ≤ 9223372036854775807 := by omega
  have HC := Lib.hid hc2; clear hc2
  clear hn hq hbody hs' hsum hb hl hfl hpl
  generalize (n : Int) = N at *
  generalize putTextF t.data.toList = T at *
  generalize fixF q = X at *
  go_enter Try.func15, Try.ntmps15
  go_wp2_with (first
    | (refine wpList_conv_byte rfl 38 9 5 _ rfl Try.underlying38 Try.underlying5 Try.underlying9 _ _ _ rfl _ rfl rfl c (by simp [*]; try exact HC.out) ?_)
    | (go_at_call 31; (with_reducible refine (C0 _).out.mono ?_); rintro e w1 ⟨rfl, hb1⟩; have hbw := below_laid hb1; clear hb1)
    | (go_at_call 24; refine (C1 _ _ HS.out).out.mono ?_; rintro e w2 ⟨rfl, hb2⟩; replace hbw := Below.step hbw hb2; clear hb2)
    | (go_at_call 32; (with_reducible refine (C2 _).out.mono ?_); rintro e w3 ⟨rfl, hb3⟩; replace hbw := Below.step hbw hb3; clear hb3))
  go_ret
  refine ⟨ret_str ?_, hbw⟩
  rw [HB.out]
  apply ByteArray.ext; simp

/-- The bytes of whatever section. -/
theorem sput_any (tag : Int) (t : ByteArray) (w : World) (ht : t.size ≤ maxLen) :
    Calls Try.prog 15 #[.int .i64 tag, .string t] w fun e w' => e = .returned (.string ⟨(putS tag t.data.toList).toArray⟩) ∧ Below w.heap.size w w' := by
  have hl : t.data.toList.length = t.size := rfl
  by_cases h : tag < 0 ∨ 255 < tag ∨ 1048576 < (t.size : Int)
  · refine (sput_none tag t w ht h).mono fun e w' ⟨he, hw⟩ => ⟨?_, below_of_eq hw _⟩
    rw [he, putS, if_pos (by rw [hl]; exact h)]
  · obtain ⟨n, rfl⟩ := Int.eq_ofNat_of_zero_le (by omega : 0 ≤ tag)
    refine (sput_in n t w (by omega) (by omega)).mono fun e w' ⟨he, hw⟩ => ⟨?_, hw⟩
    rw [he, putS, if_neg (by rw [hl]; exact h), tagB, Int.toNat_natCast]
end Go.Proofs.Yteikmkbaokfgeaa
