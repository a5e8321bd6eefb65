/- Layer 2: the document's own answers. -/
import Derived.Test.YteikmkbaokfgeaaCroll
namespace Go.Proofs.Yteikmkbaokfgeaa
set_option linter.unusedVariables false
set_option linter.unusedSimpArgs false
open Go.RowKit Go.ChangeShapes Go.WideShapes Go.ChangeAt Cm

theorem i64_xor_nat (a b : Nat) (ha : a < 9223372036854775808) (hb : b < 9223372036854775808) : bits .xor .i64 (a : Int) (b : Int) = ((a ^^^ b : Nat) : Int) := by
  have hx : a ^^^ b < 2 ^ 63 := Nat.xor_lt_two_pow ha hb
  have h64 : ∀ n : Nat, n < 9223372036854775808 → (BitVec.ofInt 64 (n : Int)).toNat = n := fun n hn => by
    rw [BitVec.ofInt_natCast, BitVec.toNat_ofNat, Nat.mod_eq_of_lt (by omega)]
  show IntKind.i64.wrap ((BitVec.ofInt 64 (a : Int) ^^^ BitVec.ofInt 64 (b : Int)).toNat : Int) = _
  rw [BitVec.toNat_xor, h64 a ha, h64 b hb]
  generalize a ^^^ b = c at *
  simp only [IntKind.wrap, IntKind.bits, IntKind.signed]
  simp
  omega
theorem i64_xor (a b : Int) (h1 : 0 ≤ a) (h2 : a < 9223372036854775808) (h3 : 0 ≤ b) (h4 : b < 9223372036854775808) : bits .xor .i64 a b = ((a.toNat ^^^ b.toNat : Nat) : Int) := by
  obtain ⟨m, rfl⟩ := Int.eq_ofNat_of_zero_le h1
  obtain ⟨n, rfl⟩ := Int.eq_ofNat_of_zero_le h3
  exact i64_xor_nat m n (by omega) (by omega)

set_option maxHeartbeats 400000 in
theorem xor_any (a b : Int) (w : World) : Calls Try.prog 48 #[.int .i64 a, .int .i64 b] w fun e w' => e = .returned (.int .i64 (bits .xor .i64 a b)) ∧ w = w' := by
  go_enter Try.func48, Try.ntmps48
  go_wp2
  go_ret
  exact ⟨rfl, rfl⟩

theorem half_xor (b : Nat) (hb : b < 4294967296) : bits .xor .i64 ((b : Int) / 2) 3988292384 = ((b / 2 ^^^ 3988292384 : Nat) : Int) ∧ b / 2 ^^^ 3988292384 < 4294967296 := by
  refine ⟨?_, Nat.xor_lt_two_pow (n := 32) (by omega) (by decide)⟩
  rw [i64_xor _ _ (by omega) (by omega) (by omega) (by omega)]
  rfl

set_option maxHeartbeats 400000 in
theorem rest_any : ∀ (k b : Nat) (w : World), b < 4294967296 → k ≤ 1000 → Calls Try.prog 49 #[.int .i64 b, .int .i64 k] w fun e w' => e = .returned (.int .i64 (liter k b : Nat)) ∧ w = w'
  | 0, b, w, hb, _ => by
    go_enter Try.func49, Try.ntmps49
    go_wp2_with fail
    go_ret
    exact ⟨rfl, rfl⟩
  | k + 1, b, w, hb, hk => by
    have h0 : (((k + 1 : Nat) : Int) == 0) = false := by simp; omega
    have hk1 : (((k + 1 : Nat) : Int) - 1) = (k : Int) := by omega
    have hin : (1 : Int) ≤ ((k + 1 : Nat) : Int) := by omega
    by_cases h : b % 2 = 1
    · have h1 : ((b : Int) % 2 == 1) = true := by simp; omega
      obtain ⟨hx, hlt⟩ := half_xor b hb
      obtain ⟨c, hc⟩ : ∃ c, c = b / 2 ^^^ 3988292384 := ⟨_, rfl⟩
      rw [← hc] at hx hlt
      have hl : liter (k + 1) b = liter k c := by rw [liter, lstep, if_pos h, hc]
      have HL := Lib.hid hl; clear hl h hc
      have ih := Lib.hid (rest_any k c w hlt (by omega))
      generalize hK : ((k + 1 : Nat) : Int) = K at *
      clear hK
      go_enter Try.func49, Try.ntmps49
      go_wp2_with (first
        | (go_at_call 48; refine (xor_any _ _ _).mono ?_; rintro e w' ⟨rfl, rfl⟩)
        | (go_at_call 49; (with_reducible refine ih.out.mono ?_); rintro e w' ⟨rfl, rfl⟩))
      go_ret
      rw [HL.out]
      exact ⟨rfl, rfl⟩
    · have h1 : ((b : Int) % 2 == 1) = false := by simp; omega
      obtain ⟨c, hc⟩ : ∃ c, c = b / 2 := ⟨_, rfl⟩
      have hx : (b : Int) / 2 = (c : Int) := by omega
      have hl : liter (k + 1) b = liter k c := by rw [liter, lstep, if_neg h, hc]
      have hlt : c < 4294967296 := by omega
      have HL := Lib.hid hl; clear hl h hc
      have ih := Lib.hid (rest_any k c w hlt (by omega))
      generalize hK : ((k + 1 : Nat) : Int) = K at *
      clear hK
      go_enter Try.func49, Try.ntmps49
      go_wp2_with (first
        | (go_at_call 49; (with_reducible refine ih.out.mono ?_); rintro e w' ⟨rfl, rfl⟩))
      go_ret
      rw [HL.out]
      exact ⟨rfl, rfl⟩

set_option maxHeartbeats 400000 in
theorem rroll_out (sum : Int) (s : ByteArray) (w : World) (h : sum < 0 ∨ 4294967295 < sum) :
    Calls Try.prog 42 #[.int .i64 sum, .string s] w fun e w' => e = .returned (.int .i64 (rollF sum s.data.toList)) ∧ w = w' := by
  have hf : rollF sum s.data.toList = 0 := by rw [rollF, if_pos h]
  rw [hf]
  by_cases h0 : sum < 0
  · clear h hf
    go_enter Try.func42, Try.ntmps42
    go_wp2_with fail
    go_ret
    exact ⟨rfl, rfl⟩
  · have h1 : 4294967295 < sum := by omega
    clear h hf
    go_enter Try.func42, Try.ntmps42
    go_wp2_with fail
    go_ret
    exact ⟨rfl, rfl⟩
theorem ix_i64 (x : Nat) (c : UInt8) : bits .xor .i64 ((x : Int) % 256) (c.toNat : Int) = ((x % 256 ^^^ c.toNat : Nat) : Int) ∧ x % 256 ^^^ c.toNat < 256 := by
  have hc := byte_lt c
  refine ⟨?_, Nat.xor_lt_two_pow (n := 8) (by omega) hc⟩
  rw [i64_xor _ _ (by omega) (by omega) (by omega) (by omega)]
  rfl
theorem step_i64 (x m : Nat) (hx : x < 4294967296) (hm : rem8 m < 4294967296) : bits .xor .i64 ((x : Int) / 256) (rem8 m : Int) = ((x / 256 ^^^ rem8 m : Nat) : Int) := by
  rw [i64_xor _ _ (by omega) (by omega) (by omega) (by omega)]
  rfl

set_option maxHeartbeats 1000000 in
set_option maxRecDepth 100000 in
theorem rroll_in (sum : Nat) (s : ByteArray) (w : World) (h : sum ≤ 4294967295) (hs : s.size ≤ maxLen) :
    Calls Try.prog 42 #[.int .i64 sum, .string s] w fun e w' => e = .returned (.int .i64 (4294967295 - (crcL (4294967295 - sum) s.data.toList : Nat))) ∧ w = w' := by
  unfold maxLen at hs
  have h' : (sum : Int) ≤ 4294967295 := by omega
  go_enter Try.func42, Try.ntmps42
  go_wp2_with fail
  go_loop [5, 6] (fun y i => ∃ k x : Nat, k ≤ s.size ∧ i = .int .i64 k ∧ y = .int .i64 x ∧ x < 4294967296 ∧ crcL (4294967295 - sum) s.data.toList = crcL x (s.data.toList.drop k)) (fun _ i => s.size - (intOf i).toNat)
  case atStart => exact ⟨0, 4294967295 - sum, by omega, rfl, by rw [show ((4294967295 - sum : Nat) : Int) = 4294967295 - (sum : Int) from by omega], by omega, rfl⟩
  case round =>
    obtain ⟨k, x, hk, rfl, rfl, hx, hc⟩ := hrel
    have HC := Lib.hid hc; clear hc
    by_cases hlt : k < s.size
    · obtain ⟨m, hm⟩ : ∃ m, m = x % 256 ^^^ s[k].toNat := ⟨_, rfl⟩
      have hix := ix_i64 x s[k]
      rw [← hm] at hix
      obtain ⟨hix, hm2⟩ := hix
      have hd := drop_cons s k hlt
      have HD := Lib.hid hd; clear hd
      have HM := Lib.hid hm; clear hm
      have hx1 : 0 ≤ (x : Int) := by omega
      have hbb : s[k].toNat < 256 := s[k].toNat_lt
      have hrest := fun w => Lib.hid (rest_any 8 m w (by omega) (by omega))
      go_wp2_with (first
        | (go_at_call 48; refine (xor_any _ _ _).mono ?_; rintro e w' ⟨rfl, rfl⟩)
        | (go_at_call 49; refine (hrest _).out.mono ?_; rintro e w' ⟨rfl, rfl⟩))
      have hr := rem8_lt hm2
      go_round
      case rel =>
        refine ⟨k + 1, x / 256 ^^^ rem8 m, by omega, by go_num, ?_, Nat.xor_lt_two_pow (n := 32) (by omega) hr, ?_⟩
        · have := step_i64 x m hx hr; unfold rem8 at this; rw [this]; rfl
        · rw [HC.out, HD.out, crcL, ← HM.out]
      case measure => simp [intOf]; omega
    · have hc : crcL (4294967295 - sum) s.data.toList = x := by
        rw [HC.out, List.drop_of_length_le (by simp; omega)]; rfl
      have HC' := Lib.hid hc; clear hc
      go_wp2_with fail
      go_ret
      rw [HC'.out]
      exact ⟨rfl, rfl⟩
theorem rroll_any (sum : Int) (s : ByteArray) (w : World) (hs : s.size ≤ maxLen) :
    Calls Try.prog 42 #[.int .i64 sum, .string s] w fun e w' => e = .returned (.int .i64 (rollF sum s.data.toList)) ∧ w = w' := by
  by_cases h : sum < 0 ∨ 4294967295 < sum
  · exact rroll_out sum s w h
  · obtain ⟨n, rfl⟩ := Int.eq_ofNat_of_zero_le (by omega : 0 ≤ sum)
    refine (rroll_in n s w (by omega) hs).mono fun e w' ⟨he, hw⟩ => ⟨?_, hw⟩
    rw [he, rollF, if_neg h, show (4294967295 - (n : Int)).toNat = 4294967295 - n by omega]
set_option maxHeartbeats 400000 in
theorem rof_any (s : ByteArray) (w : World) (hs : s.size ≤ maxLen) :
    Calls Try.prog 29 #[.string s] w fun e w' => e = .returned (.int .i64 (rollF 0 s.data.toList)) ∧ w = w' := by
  go_enter Try.func29, Try.ntmps29
  go_wp2_with (go_at_call 42; refine (rroll_any _ _ _ hs).mono ?_; rintro e w' ⟨rfl, rfl⟩)
  go_ret
  exact ⟨rfl, rfl⟩
end Go.Proofs.Yteikmkbaokfgeaa
