/- Bits of a text that are turned, one by one: plain, and as the code's operations have it. -/
import Derived.Test.YteikmkbaokfgeaaCrem
namespace Go.Proofs.Yteikmkbaokfgeaa.Cbit
set_option linter.unusedVariables false
set_option linter.unusedSimpArgs false
open Go Go.RowKit Cm

/-- A fact that the walk does not open. -/
structure Shut (p : Prop) : Prop where
  out : p
/-- Of a burst's bits as many as there is room for. -/
def seen (f room i : Nat) : Nat := f % 2 ^ (min i room)
theorem seen_zero (f room : Nat) : seen f room 0 = 0 := by simp [seen]; omega
theorem mod_succ (f i : Nat) : f % 2 ^ (i + 1) = f % 2 ^ i + 2 ^ i * (f / 2 ^ i % 2) := by
  rw [Nat.pow_succ, Nat.mod_mul]
theorem seen_set (f room i : Nat) (hi : i < room) (h : f / 2 ^ i % 2 = 1) : seen f room (i + 1) = seen f room i ^^^ 2 ^ i := by
  unfold seen
  rw [Nat.min_eq_left (by omega), Nat.min_eq_left (by omega), mod_succ, h, Nat.mul_one]
  have hlt : f % 2 ^ i < 2 ^ i := Nat.mod_lt _ (Nat.two_pow_pos i)
  have := Nat.two_pow_add_eq_or_of_lt hlt 1
  rw [Nat.mul_one] at this
  rw [Nat.add_comm, this]
  apply Nat.eq_of_testBit_eq
  intro j
  rw [Nat.testBit_or, Nat.testBit_xor, Nat.testBit_two_pow]
  by_cases e : i = j
  · subst e; simp [Nat.testBit_lt_two_pow hlt]
  · simp [e]
theorem seen_not (f room i : Nat) (hi : i < room) (h : f / 2 ^ i % 2 = 0) : seen f room (i + 1) = seen f room i := by
  unfold seen
  rw [Nat.min_eq_left (by omega), Nat.min_eq_left (by omega), mod_succ, h, Nat.mul_zero, Nat.add_zero]
theorem seen_out (f room i : Nat) (hi : room ≤ i) : seen f room (i + 1) = seen f room i := by
  unfold seen
  rw [Nat.min_eq_right (by omega), Nat.min_eq_right (by omega)]
theorem mul_xor (p a b : Nat) : 2 ^ p * (a ^^^ b) = 2 ^ p * a ^^^ 2 ^ p * b := by
  have := @Nat.shiftLeft_xor_distrib p a b
  simp only [Nat.shiftLeft_eq] at this
  rw [Nat.mul_comm, this, Nat.mul_comm a, Nat.mul_comm b]
/-- One bit more is turned. -/
theorem turn_bit {l s : List UInt8} {bit i f room : Nat} (hl : leN l = leN s ^^^ 2 ^ bit * seen f room i) (hi : i < room) (h : f / 2 ^ i % 2 = 1) (j r : Nat) (hj : j < l.length) (hat : bit + i = 8 * j + r) (c : UInt8) (hc : c.toNat = l[j].toNat ^^^ 2 ^ r) :
    leN (l.set j c) = leN s ^^^ 2 ^ bit * seen f room (i + 1) := by
  have e : l[j].toNat ^^^ c.toNat = 2 ^ r := by rw [hc, ← Nat.xor_assoc, Nat.xor_self, Nat.zero_xor]
  rw [leN_set _ _ _ hj, hl, e, ← Nat.pow_add, ← hat, Nat.pow_add, seen_set f room i hi h, mul_xor, Nat.xor_assoc]

theorem seen_all (f room : Nat) (hf : f < 4294967296) : seen f room 32 = f % 2 ^ room := by
  unfold seen
  rcases Nat.le_total room 32 with h | h
  · rw [Nat.min_eq_right h]
  · rw [Nat.min_eq_left h, Nat.mod_eq_of_lt hf, Nat.mod_eq_of_lt (Nat.lt_of_lt_of_le hf (show 2 ^ 32 ≤ 2 ^ room from Nat.pow_le_pow_right (by decide) h))]
theorem turned (a : UInt8) (r : Nat) (hr : r < 8) : ∃ c : UInt8, c.toNat = a.toNat ^^^ 2 ^ r ∧ bits .xor .u8 (a.toNat : Int) (2 ^ r % 256) = (c.toNat : Int) := by
  have ha := byte_lt a
  have hp : 2 ^ r < 256 := Nat.lt_of_le_of_lt (Nat.pow_le_pow_right (by decide) (show r ≤ 7 by omega)) (by decide)
  have hx : a.toNat ^^^ 2 ^ r < 256 := Nat.xor_lt_two_pow (n := 8) ha hp
  have e : (UInt8.ofNat (a.toNat ^^^ 2 ^ r)).toNat = a.toNat ^^^ 2 ^ r := by
    rw [UInt8.toNat_ofNat']; exact Nat.mod_eq_of_lt hx
  refine ⟨_, e, ?_⟩
  have e2 : (2 : Int) ^ r % 256 = ((2 ^ r : Nat) : Int) := by
    have h : ((2 ^ r : Nat) : Int) = (2 : Int) ^ r := by simp
    rw [← h]
    generalize 2 ^ r = u at *
    omega
  rw [e2, u8_xor_nat _ _ ha hp, e]
theorem i64_and1 (x : Int) (h0 : 0 ≤ x) (h1 : x < 9223372036854775808) : bits .and .i64 x 1 = x % 2 :=
  bits_mask .i64 63 (by decide) (fun n h0 h1 => by
    simp only [IntKind.wrap, IntKind.bits, IntKind.signed]
    simp at h1 ⊢
    omega) 1 (by decide) x h0 h1
theorem bit_val (f k : Nat) (hf : f < 4294967296) : bits .and .i64 ((f : Int) / 2 ^ k) 1 = ((f / 2 ^ k % 2 : Nat) : Int) := by
  have e : (f : Int) / 2 ^ k = ((f / 2 ^ k : Nat) : Int) := by simp
  have hl : f / 2 ^ k ≤ f := Nat.div_le_self _ _
  rw [e]
  generalize f / 2 ^ k = g at *
  rw [i64_and1 _ (by omega) (by omega)]
  omega
theorem bit_one (f k : Nat) (hf : f < 4294967296) (h : f / 2 ^ k % 2 = 1) : bits .and .i64 ((f : Int) / 2 ^ k) 1 = 1 := by rw [bit_val f k hf, h]; rfl
theorem bit_zero (f k : Nat) (hf : f < 4294967296) (h : f / 2 ^ k % 2 = 0) : bits .and .i64 ((f : Int) / 2 ^ k) 1 = 0 := by rw [bit_val f k hf, h]; rfl
end Go.Proofs.Yteikmkbaokfgeaa.Cbit
