/- The plain mathematics of layer 2: the remainder's step is linear over exclusive or, and turns no two numbers of 32 bits into one. -/
import Derived.WalkKit
namespace Go.Proofs.Yteikmkbaokfgeaa.Cm
set_option linter.unusedVariables false
set_option linter.unusedSimpArgs false

def lstep (y : Nat) : Nat := if y % 2 = 1 then (y / 2) ^^^ 3988292384 else y / 2
def liter : Nat → Nat → Nat
  | 0, y => y
  | k + 1, y => liter k (lstep y)
def rem8 (b : Nat) : Nat := liter 8 b
def crcL : Nat → List UInt8 → Nat
  | x, [] => x
  | x, c :: r => crcL (x / 256 ^^^ rem8 (x % 256 ^^^ c.toNat)) r
def leN : List UInt8 → Nat
  | [] => 0
  | c :: r => c.toNat ^^^ 256 * leN r

theorem xor_div2 (a b : Nat) : (a ^^^ b) / 2 = a / 2 ^^^ b / 2 := by
  have := @Nat.xor_div_two_pow a b 1
  simpa using this
theorem xor_div256 (a b : Nat) : (a ^^^ b) / 256 = a / 256 ^^^ b / 256 := by
  have := @Nat.xor_div_two_pow a b 8
  simpa using this
theorem xor_mod256 (a b : Nat) : (a ^^^ b) % 256 = a % 256 ^^^ b % 256 := by
  have := @Nat.xor_mod_two_pow a b 8
  simpa using this
theorem xor_mod2 (a b : Nat) : (a ^^^ b) % 2 = (a % 2 + b % 2) % 2 := by
  have := @Nat.xor_mod_two_pow a b 1
  simp only [Nat.pow_one] at this
  rw [this]
  rcases Nat.mod_two_eq_zero_or_one a with h | h <;> rcases Nat.mod_two_eq_zero_or_one b with h' | h' <;> simp [h, h']

theorem lstep_xor (a b : Nat) : lstep (a ^^^ b) = lstep a ^^^ lstep b := by
  have hm := xor_mod2 a b
  have hd := xor_div2 a b
  unfold lstep
  generalize 3988292384 = D
  rcases Nat.mod_two_eq_zero_or_one a with h | h <;> rcases Nat.mod_two_eq_zero_or_one b with h' | h' <;> rw [hm, hd] <;> simp only [h, h'] <;> simp
  · rw [Nat.xor_assoc]
  · rw [Nat.xor_assoc, Nat.xor_assoc, Nat.xor_comm D]
  · rw [Nat.xor_assoc, Nat.xor_comm (b / 2) D, ← Nat.xor_assoc D, Nat.xor_self, Nat.zero_xor]
theorem liter_xor : ∀ k a b, liter k (a ^^^ b) = liter k a ^^^ liter k b
  | 0, _, _ => rfl
  | k + 1, a, b => by rw [liter, liter, liter, lstep_xor, liter_xor k]
theorem lstep_two (y : Nat) : lstep (2 * y) = y := by unfold lstep; rw [if_neg (by omega)]; omega
theorem liter_shift : ∀ k y, liter k (2 ^ k * y) = y
  | 0, y => by simp [liter]
  | k + 1, y => by
    rw [liter, Nat.pow_succ, show 2 ^ k * 2 * y = 2 * (2 ^ k * y) by rw [Nat.mul_comm (2 ^ k) 2, Nat.mul_assoc], lstep_two, liter_shift k]
theorem liter_add : ∀ j k y, liter (j + k) y = liter k (liter j y)
  | 0, k, y => by simp [liter]
  | j + 1, k, y => by rw [show j + 1 + k = (j + k) + 1 by omega, liter, liter, liter_add j k]
theorem lstep_lt {y : Nat} (h : y < 4294967296) : lstep y < 4294967296 := by
  unfold lstep
  split
  · exact Nat.xor_lt_two_pow (n := 32) (by omega) (by decide)
  · omega
theorem liter_lt : ∀ k {y : Nat}, y < 4294967296 → liter k y < 4294967296
  | 0, _, h => h
  | k + 1, _, h => liter_lt k (lstep_lt h)
theorem xor_eq_zero {a b : Nat} (h : a ^^^ b = 0) : a = b := by
  have : a ^^^ b ^^^ b = 0 ^^^ b := by rw [h]
  rw [Nat.xor_assoc, Nat.xor_self, Nat.xor_zero, Nat.zero_xor] at this
  exact this
theorem lstep_zero {y : Nat} (h : y < 4294967296) (h0 : lstep y = 0) : y = 0 := by
  unfold lstep at h0
  split at h0
  · have := xor_eq_zero h0
    omega
  · omega
theorem liter_zero : ∀ k {y : Nat}, y < 4294967296 → liter k y = 0 → y = 0
  | 0, _, _, h => h
  | k + 1, _, h, h0 => lstep_zero h (liter_zero k (lstep_lt h) h0)
theorem liter_of_zero : ∀ k, liter k 0 = 0
  | 0 => rfl
  | k + 1 => by rw [liter, show lstep 0 = 0 from rfl, liter_of_zero k]
theorem split256 (y : Nat) : y = 256 * (y / 256) ^^^ y % 256 := by
  apply Nat.eq_of_testBit_eq
  intro i
  rw [Nat.testBit_xor, show 256 = 2 ^ 8 from rfl, Nat.testBit_two_pow_mul, Nat.testBit_mod_two_pow, Nat.testBit_div_two_pow]
  by_cases h : 8 ≤ i
  · rw [show i - 8 + 8 = i by omega]; simp [h, show ¬ i < 8 by omega]
  · simp [h, show i < 8 by omega]
theorem liter8 (y : Nat) : liter 8 y = y / 256 ^^^ rem8 (y % 256) := by
  conv => lhs; rw [split256 y]
  rw [liter_xor]
  have := liter_shift 8 (y / 256)
  rw [show 2 ^ 8 = 256 from rfl] at this
  rw [this]
  rfl
theorem byte_lt (c : UInt8) : c.toNat < 256 := c.toNat_lt
theorem step_eq (x : Nat) (c : UInt8) : x / 256 ^^^ rem8 (x % 256 ^^^ c.toNat) = liter 8 (x ^^^ c.toNat) := by
  have hc := byte_lt c
  rw [liter8, xor_div256, xor_mod256, Nat.div_eq_of_lt hc, Nat.mod_eq_of_lt hc, Nat.xor_zero]
theorem crcL_eq : ∀ (s : List UInt8) (x : Nat), crcL x s = liter (8 * s.length) (x ^^^ leN s)
  | [], x => by simp [crcL, leN, liter]
  | c :: r, x => by
    rw [crcL, step_eq, crcL_eq r, leN, List.length_cons, show 8 * (r.length + 1) = 8 + 8 * r.length by omega, liter_add]
    congr 1
    rw [← Nat.xor_assoc, liter_xor 8 (x ^^^ c.toNat)]
    congr 1
    exact (liter_shift 8 (leN r)).symm
theorem crcL_lt : ∀ (s : List UInt8) {x : Nat}, x < 4294967296 → crcL x s < 4294967296
  | [], _, h => h
  | c :: r, x, h => by
    rw [crcL, step_eq]
    exact crcL_lt r (liter_lt 8 (Nat.xor_lt_two_pow (n := 32) h (by have := byte_lt c; omega)))
theorem crcL_append : ∀ (s t : List UInt8) (x : Nat), crcL x (s ++ t) = crcL (crcL x s) t
  | [], _, _ => rfl
  | c :: r, t, x => by rw [List.cons_append, crcL, crcL, crcL_append r t]
theorem crcL_inj {s : List UInt8} {x y : Nat} (hx : x < 4294967296) (hy : y < 4294967296) (h : crcL x s = crcL y s) : x = y := by
  rw [crcL_eq, crcL_eq] at h
  have h2 : liter (8 * s.length) ((x ^^^ leN s) ^^^ (y ^^^ leN s)) = 0 := by rw [liter_xor, h, Nat.xor_self]
  rw [show (x ^^^ leN s) ^^^ (y ^^^ leN s) = x ^^^ y by rw [Nat.xor_comm y, Nat.xor_assoc, ← Nat.xor_assoc (leN s), Nat.xor_self, Nat.zero_xor]] at h2
  exact xor_eq_zero (liter_zero _ (Nat.xor_lt_two_pow (n := 32) hx hy) h2)

def rollF (sum : Int) (s : List UInt8) : Int := if sum < 0 ∨ 4294967295 < sum then 0 else 4294967295 - crcL (4294967295 - sum).toNat s
theorem rollF_in {sum : Int} {s : List UInt8} (h0 : 0 ≤ sum) (h1 : sum ≤ 4294967295) : 0 ≤ rollF sum s ∧ rollF sum s ≤ 4294967295 := by
  unfold rollF
  rw [if_neg (by omega)]
  have := crcL_lt s (x := (4294967295 - sum).toNat) (by omega)
  omega
theorem rollF_append {sum : Int} (s t : List UInt8) (h0 : 0 ≤ sum) (h1 : sum ≤ 4294967295) : rollF sum (s ++ t) = rollF (rollF sum s) t := by
  have hh := rollF_in (s := s) h0 h1
  have hl := crcL_lt s (x := (4294967295 - sum).toNat) (by omega)
  have e : (4294967295 - rollF sum s).toNat = crcL (4294967295 - sum).toNat s := by
    rw [rollF, if_neg (by omega)]; omega
  rw [rollF, if_neg (by omega), crcL_append]
  conv => rhs; rw [rollF, if_neg (by omega), e]
theorem rollF_nil {sum : Int} (h0 : 0 ≤ sum) (h1 : sum ≤ 4294967295) : rollF sum [] = sum := by
  rw [rollF, if_neg (by omega), crcL]; omega
theorem rollF_inj {a b : Int} {s : List UInt8} (h0 : 0 ≤ a) (h1 : a ≤ 4294967295) (h2 : 0 ≤ b) (h3 : b ≤ 4294967295) (h : rollF a s = rollF b s) : a = b := by
  rw [rollF, rollF, if_neg (by omega), if_neg (by omega)] at h
  have := crcL_inj (s := s) (x := (4294967295 - a).toNat) (y := (4294967295 - b).toNat) (by omega) (by omega) (by omega)
  omega
/-- The exclusive or of a sum and all bits of 32 is the sum's state. -/
theorem compl_xor {n : Nat} (h : n < 4294967296) : 4294967295 - n = n ^^^ 4294967295 := by
  have hx : n ^^^ 4294967295 < 4294967296 := Nat.xor_lt_two_pow (n := 32) h (by decide)
  apply Nat.eq_of_testBit_eq
  intro i
  have h1 : 4294967295 - n = 2 ^ 32 - (n + 1) := by omega
  have h2 : (4294967295 : Nat) = 2 ^ 32 - 1 := rfl
  rw [Nat.testBit_xor]
  conv => rhs; rw [h2]
  rw [h1, Nat.testBit_two_pow_sub_succ h, Nat.testBit_two_pow_sub_one]
  by_cases hi : i < 32
  · simp [hi]
  · simp [hi]
    exact Nat.testBit_lt_two_pow (Nat.lt_of_lt_of_le h (show 2 ^ 32 ≤ 2 ^ i from Nat.pow_le_pow_right (by decide) (by omega)))
/-- As many bytes are the same number just if they are the same. -/
theorem leN_cons (c : UInt8) (r : List UInt8) : leN (c :: r) % 256 = c.toNat ∧ leN (c :: r) / 256 = leN r := by
  have hc := byte_lt c
  rw [leN, xor_mod256, xor_div256, Nat.mod_eq_of_lt hc, Nat.div_eq_of_lt hc]
  simp
theorem leN_inj : ∀ {a b : List UInt8}, a.length = b.length → leN a = leN b → a = b
  | [], [], _, _ => rfl
  | c :: r, d :: s, hl, h => by
    have h1 := leN_cons c r
    have h2 := leN_cons d s
    rw [h] at h1
    rw [leN_inj (a := r) (b := s) (by simpa using hl) (h1.2.symm.trans h2.2), UInt8.toNat_inj.1 (h1.1.symm.trans h2.1)]
theorem leN_lt : ∀ (s : List UInt8), leN s < 2 ^ (8 * s.length)
  | [] => by simp [leN]
  | c :: r => by
    have := leN_lt r
    have h1 := leN_cons c r
    rw [List.length_cons, show 8 * (r.length + 1) = 8 * r.length + 8 by omega, Nat.pow_add]
    have := byte_lt c
    omega
/-- Texts whose numbers part by a burst of 32 bits. -/
theorem burst {s b : List UInt8} {bit f g : Nat} (hl : b.length = s.length) (hbit : bit ≤ 8 * s.length) (hf : f < 4294967296) (hg : g = f % 2 ^ (8 * s.length - bit)) (h : leN b = leN s ^^^ 2 ^ bit * g) (x : Nat) :
    crcL x b = crcL x s ↔ b = s := by
  constructor
  · intro e
    rw [crcL_eq, crcL_eq, hl, h, ← Nat.xor_assoc, liter_xor] at e
    have e0 : liter (8 * s.length) (2 ^ bit * g) = 0 := by
      have : liter (8 * s.length) (x ^^^ leN s) ^^^ (liter (8 * s.length) (x ^^^ leN s) ^^^ liter (8 * s.length) (2 ^ bit * g)) = liter (8 * s.length) (x ^^^ leN s) ^^^ liter (8 * s.length) (x ^^^ leN s) := by rw [e]
      rw [← Nat.xor_assoc, Nat.xor_self, Nat.zero_xor] at this
      exact this
    rw [show 8 * s.length = bit + (8 * s.length - bit) by omega, liter_add, liter_shift] at e0
    have g0 := liter_zero _ (Nat.lt_of_le_of_lt (by rw [hg]; exact Nat.mod_le _ _) hf) e0
    rw [g0] at h
    exact leN_inj hl (by simpa using h)
  · rintro rfl; rfl
/-- Of texts of as many bytes the exclusive or of the states hangs on that of the texts. -/
theorem alone {a b c d : List UInt8} (hb : b.length = a.length) (hc : c.length = a.length) (hd : d.length = a.length) (h : leN d = leN a ^^^ leN b ^^^ leN c) (x : Nat) :
    crcL x a ^^^ crcL x b ^^^ crcL x c = crcL x d := by
  rw [crcL_eq, crcL_eq, crcL_eq, crcL_eq, hb, hc, hd, h, ← liter_xor, ← liter_xor]
  congr 1
  generalize leN a = A; generalize leN b = B; generalize leN c = C
  apply Nat.eq_of_testBit_eq
  intro i
  simp only [Nat.testBit_xor]
  cases x.testBit i <;> cases A.testBit i <;> cases B.testBit i <;> cases C.testBit i <;> rfl
theorem crcL_one (x : Nat) (c : UInt8) : crcL x [c] = x / 256 ^^^ rem8 (x % 256 ^^^ c.toNat) := rfl

/-- One byte of a text is another one. -/
theorem leN_set : ∀ (s : List UInt8) (i : Nat) (c : UInt8) (hi : i < s.length), leN (s.set i c) = leN s ^^^ 2 ^ (8 * i) * (s[i].toNat ^^^ c.toNat)
  | d :: r, 0, c, _ => by
    simp only [List.set_cons_zero, leN, List.getElem_cons_zero, Nat.mul_zero, Nat.pow_zero, Nat.one_mul]
    generalize 256 * leN r = R
    rw [Nat.xor_assoc, Nat.xor_comm R, ← Nat.xor_assoc, ← Nat.xor_assoc, Nat.xor_self, Nat.zero_xor]
  | d :: r, i + 1, c, hi => by
    simp only [List.set_cons_succ, leN, List.getElem_cons_succ]
    rw [leN_set r i c (by simpa using hi), show 8 * (i + 1) = 8 + 8 * i by omega, Nat.pow_add, Nat.mul_assoc, show 2 ^ 8 = 256 from rfl, Nat.xor_assoc]
    congr 1
    have := @Nat.shiftLeft_xor_distrib 8 (leN r) (2 ^ (8 * i) * ((r[i]'(by simpa using hi)).toNat ^^^ c.toNat))
    simp only [Nat.shiftLeft_eq, show 2 ^ 8 = 256 from rfl] at this
    rw [Nat.mul_comm 256, this, Nat.mul_comm (leN r), Nat.mul_comm _ 256]
end Go.Proofs.Yteikmkbaokfgeaa.Cm
