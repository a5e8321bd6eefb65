/- Layer 1: what was put is read; what is read was put: the plain mathematics. -/
import Derived.Test.YteikmkbaokfgeaaWrt
namespace Go.Proofs.Yteikmkbaokfgeaa
set_option linter.unusedVariables false
set_option linter.unusedSimpArgs false
open Go

theorem flaw_zero (c k : Nat) (hk : k ≤ 6) (h6 : k = 6 → c < 64 ∨ 127 < c) (h0 : 0 < k → 0 < c) : flawF c k = 0 := by
  unfold flawF
  rw [if_neg (by omega), if_neg (by omega), if_neg (by omega)]

/-- What was put is read, whatever stands behind. -/
theorem getL_putG (r : List UInt8) : ∀ (f k m : Nat) (n0 : Int), f + k = 7 → 0 < f → m < 128 ^ f → (f = 1 → m < 64) → (2 ≤ f → m < 64 * 128 ^ (f - 1)) → (0 < k → 0 < m) →
    getL (putG f m ++ r) k n0 = (n0 + m * 128 ^ k, k + (putG f m).length, 0)
  | 0, _, _, _, _, h, _, _, _, _ => by omega
  | f + 1, k, m, n0, hfk, _, hm, h1, h2, hk => by
    rw [putG]
    by_cases h : m < 128
    · rw [if_pos h]
      have hz := flaw_zero m k (by omega) (fun e => .inl (h1 (by omega))) hk
      have e1 : ((UInt8.ofNat m).toNat : Nat) = m := by simp; omega
      rw [List.singleton_append, getL, e1, if_neg (by rw [hz]; simp), if_pos h]
      have : (m : Int) % 128 = m := by omega
      rw [this]
      simp
    · rw [if_neg h]
      have hf : f ≠ 0 := by rintro rfl; simp at hm; omega
      have e1 : ((UInt8.ofNat (m % 128 + 128)).toNat : Nat) = m % 128 + 128 := by simp; omega
      have hz := flaw_zero (m % 128 + 128) k (by omega) (fun e => by omega) (fun _ => by omega)
      rw [List.cons_append, getL, e1, if_neg (by rw [hz]; simp), if_neg (by omega)]
      rw [Nat.pow_succ] at hm
      have hlt : m < 64 * 128 ^ f := by have := h2 (by omega); simpa using this
      have hq : (2 ≤ f → m / 128 < 64 * 128 ^ (f - 1)) := fun h => by
        obtain ⟨g, rfl⟩ : ∃ g, f = g + 1 := ⟨f - 1, by omega⟩
        rw [Nat.pow_succ] at hlt
        simp only [Nat.add_sub_cancel]
        omega
      rw [getL_putG r f (k + 1) (m / 128) _ (by omega) (by omega) (by omega) (fun e => by subst e; simp at hlt; omega) hq (by omega)]
      have e2 : (((m % 128 + 128 : Nat) : Int) % 128) = (m : Int) % 128 := by omega
      rw [e2, Int.pow_succ]
      have e3 : (m : Int) = 128 * ((m / 128 : Nat) : Int) + (m : Int) % 128 := by omega
      have e4 : (m : Int) % 128 * 128 ^ k + ((m / 128 : Nat) : Int) * (128 ^ k * 128) = (m : Int) * 128 ^ k := by
        conv => rhs; rw [e3]
        generalize (128 : Int) ^ k = t
        generalize (m : Int) % 128 = u
        generalize ((m / 128 : Nat) : Int) = v
        rw [Int.add_mul, Int.mul_comm 128 v, Int.mul_assoc, Int.mul_comm 128 t, Int.add_comm]
      simp only [List.length_cons]
      rw [Int.add_assoc, e4]
      refine Prod.ext rfl (Prod.ext ?_ rfl)
      simp only []
      omega

/-- What is read was put. -/
theorem putG_getL : ∀ (l : List UInt8) (k : Nat) (n0 m : Int) (k' : Nat), k ≤ 7 → getL l k n0 = (m, k', 0) →
    ∃ v : Nat, m = n0 + v * 128 ^ k ∧ k < k' ∧ k' ≤ k + l.length ∧ k' ≤ 7 ∧ putG (7 - k) v = l.take (k' - k) ∧ (0 < k → 0 < v) ∧ 0 < 7 - k ∧ v < 64 * 128 ^ (7 - k - 1)
  | [], k, n0, m, k', _, h => by simp [getL] at h
  | c :: r, k, n0, m, k', hk, h => by
    rw [getL] at h
    by_cases hf : flawF c.toNat k ≠ 0
    · rw [if_pos hf] at h; simp at h; exact absurd h.2.2 hf
    · rw [if_neg hf] at h
      have hf0 : flawF c.toNat k = 0 := by simpa using hf
      have hk6 := flaw_lt _ _ hk hf0
      have hz : (0 < k → 0 < c.toNat) ∧ (k = 6 → c.toNat < 64 ∨ 127 < c.toNat) := by
        unfold flawF at hf0
        rw [if_neg (by omega)] at hf0
        split at hf0
        · simp at hf0
        · split at hf0
          · simp at hf0
          · omega
      obtain ⟨g, hg⟩ : ∃ g, 7 - k = g + 1 := ⟨6 - k, by omega⟩
      by_cases hc : c.toNat < 128
      · rw [if_pos hc] at h
        simp only [Prod.mk.injEq, and_true] at h
        obtain ⟨h1, h2⟩ := h
        refine ⟨c.toNat, ?_, by omega, by simp only [List.length_cons]; omega, by omega, ?_, hz.1, by omega, ?_⟩
        · rw [← h1]
          have : (c.toNat : Int) % 128 = c.toNat := by omega
          rw [this]
        · rw [hg, putG, if_pos hc, ← h2, show k + 1 - k = 1 from by omega]
          simp
        · by_cases e : k = 6
          · subst e; have := hz.2 rfl; simp; omega
          · obtain ⟨i, hi⟩ : ∃ i, 7 - k - 1 = i + 1 := ⟨5 - k, by omega⟩
            rw [hi, Nat.pow_succ]
            have : 0 < 128 ^ i := Nat.pow_pos (by omega)
            omega
      · rw [if_neg hc] at h
        have ih := putG_getL r (k + 1) _ m k' (by omega) h
        obtain ⟨v, e1, e2, e3, e3', e4, e5, e6, e7⟩ := ih
        have hlt := c.toNat_lt
        have hv := e5 (by omega)
        refine ⟨c.toNat % 128 + 128 * v, ?_, by omega, by simp only [List.length_cons]; omega, e3', ?_, by omega, by omega, ?_⟩
        · rw [e1, Int.pow_succ]
          generalize (128 : Int) ^ k = t
          rw [Int.add_assoc]
          congr 1
          have : ((c.toNat % 128 + 128 * v : Nat) : Int) = (c.toNat : Int) % 128 + 128 * v := by omega
          rw [this, Int.add_mul]
          congr 1
          rw [Int.mul_comm t 128, ← Int.mul_assoc, Int.mul_comm (v : Int) 128]
        · rw [hg, putG, if_neg (by omega)]
          have q1 : (c.toNat % 128 + 128 * v) % 128 + 128 = c.toNat := by omega
          have q2 : (c.toNat % 128 + 128 * v) / 128 = v := by omega
          rw [q1, q2, show g = 7 - (k + 1) from by omega, e4]
          have : k' - k = (k' - (k + 1)) + 1 := by omega
          rw [this, List.take_succ_cons]
          simp
        · obtain ⟨i, hi⟩ : ∃ i, 7 - k - 1 = i + 1 := ⟨5 - k, by omega⟩
          have hi' : 7 - (k + 1) - 1 = i := by omega
          rw [hi'] at e7
          rw [hi, Nat.pow_succ]
          omega

theorem getF_put (a b : List UInt8) (n : Nat) (hn : n ≤ 281474976710655) : getF (a ++ putG 7 n ++ b) (a.length : Int) = ((n : Int), (a.length : Int) + ((putG 7 n).length : Int), (0 : Int)) := by
  unfold getF
  rw [if_neg (by simp only [List.length_append]; omega)]
  have hd : (a ++ putG 7 n ++ b).drop (Int.toNat (a.length : Int)) = putG 7 n ++ b := by
    rw [Int.toNat_natCast, List.append_assoc, List.drop_left]
  rw [hd, getL_putG b 7 0 n 0 (by omega) (by omega) (by omega) (by omega) (fun _ => by omega) (by omega)]
  simp

theorem put_getF (b : List UInt8) (m p : Int) (h : getF b 0 = (m, p, 0)) : ∃ k : Nat, p = k ∧ 1 ≤ k ∧ k ≤ b.length ∧ putF m = b.take k ∧ 0 ≤ m ∧ m ≤ 281474976710655 := by
  unfold getF at h
  rw [if_neg (by omega)] at h
  simp only [Int.toNat_zero, List.drop_zero, Prod.mk.injEq] at h
  obtain ⟨h1, h2, h3⟩ := h
  obtain ⟨v, e1, e2, e3, _, e4, _, _, e7⟩ := putG_getL b 0 0 m (getL b 0 0).2.1 (by omega) (Prod.ext h1 (Prod.ext rfl h3))
  simp at e1 e7 e4
  refine ⟨(getL b 0 0).2.1, by omega, by omega, by omega, ?_, by omega, by omega⟩
  rw [putF, if_neg (by omega), e1, Int.toNat_natCast, e4]

theorem gfxF_fix (a b : List UInt8) (n : Nat) (hn : n ≤ 4294967295) : gfxF (a ++ fixG n ++ b) (a.length : Int) = ((n : Int), (a.length : Int) + 4, (0 : Int)) := by
  unfold gfxF
  rw [if_neg (by simp only [List.length_append]; omega)]
  have hd : (a ++ fixG n ++ b).drop (Int.toNat (a.length : Int)) = fixG n ++ b := by
    rw [Int.toNat_natCast, List.append_assoc, List.drop_left]
  rw [hd]
  simp only [fixG, List.cons_append]
  refine Prod.ext ?_ rfl
  simp [fix4]
  omega
end Go.Proofs.Yteikmkbaokfgeaa
