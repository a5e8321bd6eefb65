/- The plain mathematics of layer 4: Gaussian integers modulo 251. -/
import Derived.WalkKit
namespace Go.Proofs.YtoeinpiekfmbgaaGreatDoor.Gm
set_option linter.unusedVariables false
set_option linter.unusedSimpArgs false

abbrev V := Int × Int
def rs (n : Int) : Int := n % 251
def gOf (x : V) : V := (rs x.1, rs x.2)
def gAdd (a b : V) : V := gOf (rs a.1 + rs b.1, rs a.2 + rs b.2)
def gSub (a b : V) : V := gOf (rs a.1 - rs b.1, rs a.2 - rs b.2)
def gMul (a b : V) : V := gOf (rs a.1 * rs b.1 - rs a.2 * rs b.2, rs a.1 * rs b.2 + rs a.2 * rs b.1)
def gConj (a : V) : V := gOf (rs a.1, -(rs a.2))
def gMay (a : V) : Prop := 0 ≤ a.1 ∧ a.1 < 251 ∧ 0 ≤ a.2 ∧ a.2 < 251
def gOne : V := (1, 0)
def gNorm (b : V) : Int := rs (rs b.1 * rs b.1 + rs b.2 * rs b.2)
/-- The inverse of a number from 1 to 250. -/
def kinv (n : Int) : Int := ((n.toNat ^ 249 % 251 : Nat) : Int)
def gQuo (a b : V) : V := if gNorm b = 0 then (0, 0) else gOf ((gMul a (gConj b)).1 * kinv (gNorm b), (gMul a (gConj b)).2 * kinv (gNorm b))
def gPow (a : V) : Nat → V
  | 0 => gOne
  | n + 1 => gMul (gPow a n) a

theorem rs_rs (n : Int) : rs (rs n) = rs n := by unfold rs; omega
theorem rs_bd (n : Int) : 0 ≤ rs n ∧ rs n < 251 := by unfold rs; omega
theorem rs_in {n : Int} (h0 : 0 ≤ n) (h1 : n < 251) : rs n = n := by unfold rs; omega
theorem rs_mul (a b : Int) : rs (rs a * rs b) = rs (a * b) := by unfold rs; rw [← Int.mul_emod]
theorem rs_add (a b : Int) : rs (rs a + rs b) = rs (a + b) := by unfold rs; omega
theorem rs_sub (a b : Int) : rs (rs a - rs b) = rs (a - b) := by unfold rs; omega
theorem rs_neg (a : Int) : rs (-(rs a)) = rs (-a) := by unfold rs; omega
theorem rs_mulr (a b : Int) : rs (a * rs b) = rs (a * b) := by rw [← rs_mul, rs_rs, rs_mul]
theorem of_may (a : V) : gMay (gOf a) := ⟨(rs_bd _).1, (rs_bd _).2, (rs_bd _).1, (rs_bd _).2⟩
theorem of_in {a : V} (h : gMay a) : gOf a = a := by
  obtain ⟨h0, h1, h2, h3⟩ := h
  exact Prod.ext (rs_in h0 h1) (rs_in h2 h3)
theorem mul_def (a b : V) : gMul a b = gOf (a.1 * b.1 - a.2 * b.2, a.1 * b.2 + a.2 * b.1) := by
  unfold gMul gOf
  refine Prod.ext ?_ ?_
  · show rs (rs a.1 * rs b.1 - rs a.2 * rs b.2) = rs (a.1 * b.1 - a.2 * b.2)
    rw [← rs_sub, rs_mul, rs_mul, rs_sub]
  · show rs (rs a.1 * rs b.2 + rs a.2 * rs b.1) = rs (a.1 * b.2 + a.2 * b.1)
    rw [← rs_add, rs_mul, rs_mul, rs_add]
theorem add_def (a b : V) : gAdd a b = gOf (a.1 + b.1, a.2 + b.2) := Prod.ext (rs_add _ _) (rs_add _ _)
theorem conj_def (a : V) : gConj a = gOf (a.1, -a.2) := Prod.ext (rs_rs _) (rs_neg _)
theorem mul_ofl (a b : V) : gMul (gOf a) b = gMul a b := by simp [gMul, gOf, rs_rs]
theorem mul_ofr (a b : V) : gMul a (gOf b) = gMul a b := by simp [gMul, gOf, rs_rs]
theorem add_ofl (a b : V) : gAdd (gOf a) b = gAdd a b := by simp [gAdd, gOf, rs_rs]
theorem add_ofr (a b : V) : gAdd a (gOf b) = gAdd a b := by simp [gAdd, gOf, rs_rs]
theorem conj_of (a : V) : gConj (gOf a) = gConj a := by simp [gConj, gOf, rs_rs]
theorem norm_of (a : V) : gNorm (gOf a) = gNorm a := by simp [gNorm, gOf, rs_rs]
theorem quo_of (a b : V) : gQuo (gOf a) (gOf b) = gQuo a b := by unfold gQuo; rw [norm_of, conj_of, mul_ofl]
theorem mul_may (a b : V) : gMay (gMul a b) := of_may _
theorem add_may (a b : V) : gMay (gAdd a b) := of_may _
theorem conj_may (a : V) : gMay (gConj a) := of_may _
theorem quo_may (a b : V) : gMay (gQuo a b) := by
  unfold gQuo
  split
  · exact ⟨by decide, by decide, by decide, by decide⟩
  · exact of_may _
theorem one_may : gMay gOne := ⟨by decide, by decide, by decide, by decide⟩
theorem pow_may (a : V) : ∀ n, gMay (gPow a n)
  | 0 => one_may
  | n + 1 => mul_may _ _

theorem add_comm (a b : V) : gAdd a b = gAdd b a := by rw [add_def, add_def]; congr 2 <;> grind
theorem mul_comm (a b : V) : gMul a b = gMul b a := by rw [mul_def, mul_def]; congr 2 <;> grind
theorem add_assoc (a b c : V) : gAdd (gAdd a b) c = gAdd a (gAdd b c) := by
  rw [add_def a b, add_ofl, add_def b c, add_ofr, add_def, add_def]; congr 2 <;> grind
theorem mul_assoc (a b c : V) : gMul (gMul a b) c = gMul a (gMul b c) := by
  rw [mul_def a b, mul_ofl, mul_def b c, mul_ofr, mul_def, mul_def]; congr 2 <;> grind
theorem conj_conj (a : V) : gConj (gConj a) = gOf a := by
  rw [conj_def a, conj_of, conj_def]
  show gOf (a.1, - -a.2) = gOf a
  rw [Int.neg_neg]
theorem mul_conj (a : V) : gMul a (gConj a) = (gNorm a, 0) := by
  rw [conj_def, mul_ofr, mul_def]
  refine Prod.ext ?_ ?_
  · show rs (a.1 * a.1 - a.2 * -a.2) = rs (rs a.1 * rs a.1 + rs a.2 * rs a.2)
    rw [← rs_add (rs a.1 * rs a.1), rs_mul, rs_mul, rs_add]
    congr 1; grind
  · show rs (a.1 * -a.2 + a.2 * a.1) = 0
    rw [show a.1 * -a.2 + a.2 * a.1 = 0 by grind]; rfl
theorem mul_one (a : V) : gMul a gOne = gOf a := by
  rw [mul_def]; unfold gOne
  show gOf (a.1 * 1 - a.2 * 0, a.1 * 0 + a.2 * 1) = gOf a
  rw [show a.1 * 1 - a.2 * 0 = a.1 by omega, show a.1 * 0 + a.2 * 1 = a.2 by omega]
theorem one_mul (a : V) : gMul gOne a = gOf a := by rw [mul_comm, mul_one]

/-! ### What divides -/
theorem kinv_nat : ∀ n, n < 251 → n ≠ 0 → (n * (n ^ 249 % 251)) % 251 = 1 := by decide +kernel
theorem kinv_mul {n : Int} (h0 : 0 < n) (h1 : n < 251) : rs (n * kinv n) = 1 := by
  obtain ⟨m, rfl⟩ := Int.eq_ofNat_of_zero_le (by omega : 0 ≤ n)
  have := kinv_nat m (by omega) (by omega)
  unfold kinv rs
  rw [Int.toNat_natCast]
  omega
theorem kinv_bd (n : Int) : 0 ≤ kinv n ∧ kinv n < 251 := by unfold kinv; omega
theorem no_root : ∀ t, t < 251 → (t * t + 1) % 251 ≠ 0 := by decide +kernel
theorem prime_nat : ∀ a, a < 251 → a ≠ 0 → ∀ b, b < 251 → (a * b) % 251 = 0 → b = 0 := by
  intro a ha h0 b hb h
  have hk := kinv_nat a ha h0
  have e : (a ^ 249 % 251 * (a * b)) % 251 = 0 := by rw [Nat.mul_mod, h]; simp
  rw [← Nat.mul_assoc, Nat.mul_comm (a ^ 249 % 251) a, Nat.mul_mod, hk] at e
  omega
theorem rs_zero_mul {a b : Int} (h : rs (a * b) = 0) : rs a = 0 ∨ rs b = 0 := by
  rw [← rs_mul] at h
  obtain ⟨a0, a1⟩ := rs_bd a
  obtain ⟨b0, b1⟩ := rs_bd b
  generalize rs a = x at *
  generalize rs b = y at *
  obtain ⟨m, rfl⟩ := Int.eq_ofNat_of_zero_le a0
  obtain ⟨n, rfl⟩ := Int.eq_ofNat_of_zero_le b0
  by_cases hm : m = 0
  · left; omega
  · right
    have hn : ((m * n : Nat) : Int) = (m : Int) * n := by simp
    have := prime_nat m (by omega) hm n (by omega) (by unfold rs at h; rw [← hn] at h; omega)
    omega
theorem norm_zero {b : V} (h : gNorm b = 0) : gOf b = (0, 0) := by
  unfold gNorm at h
  obtain ⟨a0, a1⟩ := rs_bd b.1
  obtain ⟨b0, b1⟩ := rs_bd b.2
  have e : gOf b = (rs b.1, rs b.2) := rfl
  rw [e]
  generalize rs b.1 = x at *
  generalize rs b.2 = y at *
  by_cases hy : y = 0
  · subst hy
    have hx : rs (x * x) = 0 := by rw [← h]; congr 1; grind
    rcases rs_zero_mul hx with h | h <;> (rw [rs_in a0 a1] at h; rw [h])
  · exfalso
    have hk := kinv_mul (by omega : 0 < y) b1
    have hb := kinv_bd y
    -- the square of x over y would be -1
    have e1 : rs ((x * kinv y) * (x * kinv y) + 1) = 0 := by
      have e2 : rs ((x * x + y * y) * (kinv y * kinv y)) = 0 := by rw [← rs_mul, h]; simp [rs]
      have e3 : (x * x + y * y) * (kinv y * kinv y) = (x * kinv y) * (x * kinv y) + (y * kinv y) * (y * kinv y) := by grind
      rw [e3, ← rs_add, ← rs_mul (y * kinv y), hk] at e2
      rw [← rs_add]
      exact e2
    have e4 : rs (rs (x * kinv y) * rs (x * kinv y) + 1) = 0 := by rw [← rs_add, rs_mul, rs_add]; exact e1
    obtain ⟨t0, t1⟩ := rs_bd (x * kinv y)
    generalize rs (x * kinv y) = t at *
    obtain ⟨m, rfl⟩ := Int.eq_ofNat_of_zero_le t0
    refine no_root m (by omega) ?_
    unfold rs at e4
    have : ((m * m + 1 : Nat) : Int) = (m : Int) * m + 1 := by simp
    rw [← this] at e4
    omega
theorem norm_iff (b : V) : gNorm b = 0 ↔ gOf b = (0, 0) := by
  refine ⟨norm_zero, fun h => ?_⟩
  have h1 : rs b.1 = 0 := congrArg Prod.fst h
  have h2 : rs b.2 = 0 := congrArg Prod.snd h
  unfold gNorm
  rw [h1, h2]; rfl
theorem norm_bd (b : V) : 0 ≤ gNorm b ∧ gNorm b < 251 := rs_bd _
/-- The quotient times what divides. -/
theorem quo_mul {a b : V} (h : gNorm b ≠ 0) : gMul (gQuo a b) b = gOf a := by
  obtain ⟨n0, n1⟩ := norm_bd b
  have hk := kinv_mul (by omega : 0 < gNorm b) n1
  unfold gQuo
  rw [if_neg h, mul_ofl]
  have e : gMul ((gMul a (gConj b)).1 * kinv (gNorm b), (gMul a (gConj b)).2 * kinv (gNorm b)) b = gMul (gMul (gMul a (gConj b)) (kinv (gNorm b), 0)) b := by
    rw [mul_def (gMul a (gConj b)) (kinv (gNorm b), 0), mul_ofl]
    simp
  rw [e, mul_assoc, mul_comm (kinv (gNorm b), 0) b, ← mul_assoc, mul_assoc a, mul_comm (gConj b) b, mul_conj, mul_assoc, mul_def (gNorm b, 0)]
  have e2 : gOf (gNorm b * kinv (gNorm b) - 0 * 0, gNorm b * 0 + 0 * kinv (gNorm b)) = gOne := by
    refine Prod.ext ?_ ?_
    · show rs (gNorm b * kinv (gNorm b) - 0 * 0) = 1
      rw [Int.mul_zero, Int.sub_zero, hk]
    · show rs (gNorm b * 0 + 0 * kinv (gNorm b)) = 0
      rw [Int.mul_zero, Int.zero_mul]; rfl
  show gMul a (gOf (gNorm b * kinv (gNorm b) - 0 * 0, gNorm b * 0 + 0 * kinv (gNorm b))) = gOf a
  rw [e2, mul_one]
/-- What is not 0 can be struck out. -/
theorem mul_cancel {a b c : V} (h : gNorm c ≠ 0) (e : gMul a c = gMul b c) : gOf a = gOf b := by
  have hq := quo_mul (a := gOne) h
  have h1 : gMul (gMul a c) (gQuo gOne c) = gOf a := by
    rw [mul_assoc, mul_comm c, hq, show gOf gOne = gOne from rfl, mul_one]
  have h2 : gMul (gMul b c) (gQuo gOne c) = gOf b := by
    rw [mul_assoc, mul_comm c, hq, show gOf gOne = gOne from rfl, mul_one]
  rw [← h1, e, h2]
theorem zero_mul (a : V) : gMul (0, 0) a = (0, 0) := by rw [mul_def]; simp [gOf, rs]
theorem pow_add (a : V) (m : Nat) : ∀ n, gPow a (m + n) = gMul (gPow a m) (gPow a n)
  | 0 => by rw [Nat.add_zero, gPow, mul_one, of_in (pow_may a m)]
  | n + 1 => by rw [← Nat.add_assoc, gPow, pow_add a m n, gPow, mul_assoc]
theorem pow_of (a : V) : ∀ n, gPow (gOf a) n = gPow a n
  | 0 => rfl
  | n + 1 => by rw [gPow, gPow, pow_of a n, mul_ofr]
theorem pow_mul (a : V) (m : Nat) : ∀ n, gPow a (m * n) = gPow (gPow a m) n
  | 0 => rfl
  | n + 1 => by rw [Nat.mul_succ, pow_add, pow_mul a m n, gPow]
theorem mul_pow (a b : V) : ∀ n, gPow (gMul a b) n = gMul (gPow a n) (gPow b n)
  | 0 => rfl
  | n + 1 => by
    rw [gPow, mul_pow a b n, gPow, gPow, mul_assoc, mul_assoc, ← mul_assoc (gPow b n), mul_comm (gPow b n) a, mul_assoc]
/-- By squares, the number's bits the lowest first. -/
def pwB (a : V) : List Bool → V
  | [] => gOne
  | b :: r => if b then gMul (gMul (pwB a r) (pwB a r)) a else gMul (pwB a r) (pwB a r)
def bv : List Bool → Nat
  | [] => 0
  | b :: r => 2 * bv r + (if b then 1 else 0)
theorem pwB_eq (a : V) : ∀ l, pwB a l = gPow a (bv l)
  | [] => rfl
  | b :: r => by
    rw [pwB, bv, pwB_eq a r]
    cases b
    · simp only [Bool.false_eq_true, if_false]; rw [Nat.add_zero, Nat.two_mul, pow_add]
    · simp only [if_true]; rw [gPow, Nat.two_mul, pow_add]
def b251 : List Bool := [true, true, false, true, true, true, true, true]
theorem frob1 : ∀ t, t < 251 → pwB (1, (t : Nat)) b251 = gOf (1, -(t : Int)) := by decide +kernel
theorem frob2 : ∀ t, t < 251 → pwB (((t : Nat) : Int), 0) b251 = ((t : Int), 0) := by decide +kernel
theorem frob3 : pwB (0, 1) b251 = (0, 250) := by decide +kernel
theorem pow251 {a : V} (h : gMay a) : gPow a 251 = gConj a := by
  have hb : (251 : Nat) = bv b251 := rfl
  obtain ⟨h0, h1, h2, h3⟩ := h
  obtain ⟨x, y⟩ := a
  simp only at h0 h1 h2 h3
  obtain ⟨m, rfl⟩ := Int.eq_ofNat_of_zero_le h0
  obtain ⟨n, rfl⟩ := Int.eq_ofNat_of_zero_le h2
  by_cases hm : m = 0
  · subst hm
    have e : gMul ((n : Int), 0) (0, 1) = (((0 : Nat) : Int), (n : Int)) := by
      rw [mul_def]
      refine Prod.ext ?_ ?_
      · show rs ((n : Int) * 0 - 0 * 1) = 0; simp [rs]
      · show rs ((n : Int) * 1 + 0 * 0) = n; rw [Int.mul_one]; simp; exact rs_in (by omega) h3
    rw [← e, mul_pow, hb, ← pwB_eq, ← pwB_eq, frob2 n (by omega), frob3, mul_def, mul_def, conj_of, conj_def]
    refine Prod.ext ?_ ?_
    · show rs ((n : Int) * 0 - 0 * 250) = rs ((n : Int) * 0 - 0 * 1); simp
    · show rs ((n : Int) * 250 + 0 * 0) = rs (-((n : Int) * 1 + 0 * 0)); unfold rs; omega
  · have hk := kinv_mul (n := (m : Int)) (by omega) (by omega)
    obtain ⟨t, ht⟩ : ∃ t : Nat, rs ((n : Int) * kinv m) = (t : Int) := by
      obtain ⟨p0, _⟩ := rs_bd ((n : Int) * kinv m)
      exact Int.eq_ofNat_of_zero_le p0
    have ht1 : t < 251 := by have := (rs_bd ((n : Int) * kinv m)).2; omega
    have hmt : rs ((m : Int) * t) = n := by
      rw [← ht, rs_mulr, show (m : Int) * (n * kinv m) = n * (m * kinv m) by grind, ← rs_mul, hk, Int.mul_one, rs_rs, rs_in (by omega) h3]
    have e : gMul ((m : Int), 0) (1, (t : Int)) = ((m : Int), (n : Int)) := by
      rw [mul_def]
      refine Prod.ext ?_ ?_
      · show rs ((m : Int) * 1 - 0 * t) = m
        rw [Int.mul_one, Int.zero_mul, Int.sub_zero]; exact rs_in (by omega) h1
      · show rs ((m : Int) * t + 0 * 1) = n
        rw [Int.zero_mul, Int.add_zero]; exact hmt
    rw [← e, mul_pow, hb, ← pwB_eq, ← pwB_eq, frob2 m (by omega), frob1 t ht1, mul_ofr, mul_def, mul_def, conj_of, conj_def]
    refine Prod.ext ?_ ?_
    · show rs ((m : Int) * 1 - 0 * -(t : Int)) = rs ((m : Int) * 1 - 0 * t); simp
    · show rs ((m : Int) * -(t : Int) + 0 * 1) = rs (-((m : Int) * t + 0 * 1)); congr 1; grind
theorem pow63001 {a : V} (h : gMay a) : gPow a 63001 = a := by
  rw [show 63001 = 251 * 251 from rfl, pow_mul, pow251 h, pow251 (conj_may a), conj_conj, of_in h]
theorem pow63000 {a : V} (h : gMay a) (h0 : a ≠ (0, 0)) : gPow a 63000 = gOne := by
  have hn : gNorm a ≠ 0 := fun e => h0 (by have := norm_zero e; rw [of_in h] at this; exact this)
  have h1 := pow63001 h
  rw [gPow] at h1
  have h2 := mul_cancel (a := gPow a 63000) (b := gOne) hn (by rw [h1, one_mul, of_in h])
  rw [of_in (pow_may a 63000)] at h2
  exact h2
theorem pow62999 {a : V} (h : gMay a) (h0 : a ≠ (0, 0)) : gPow a 62999 = gQuo gOne a := by
  have hn : gNorm a ≠ 0 := fun e => h0 (by have := norm_zero e; rw [of_in h] at this; exact this)
  have h1 : gMul (gPow a 62999) a = gOne := pow63000 h h0
  have h2 := quo_mul (a := gOne) hn
  have h3 := mul_cancel (a := gPow a 62999) (b := gQuo gOne a) hn (by rw [h1, h2]; rfl)
  rw [of_in (pow_may a 62999), of_in (quo_may _ _)] at h3
  exact h3
/-- Whether a value may be. -/
def mayB (a b : Int) : Bool := decide (0 ≤ a) && decide (a < 251) && (decide (0 ≤ b) && decide (b < 251))
end Go.Proofs.YtoeinpiekfmbgaaGreatDoor.Gm

