/- The plain mathematics of layer 5: seeds. -/
import Derived.WalkKit
namespace Go.Proofs.Ytkahjodnefclfaa.Sdm
set_option linter.unusedVariables false
set_option linter.unusedSimpArgs false

def mulF (a m : Nat) : Nat := a * m % 4294967296
def shF (x k : Nat) : Nat := x ^^^ x / 2 ^ k
def mixN (s n : Nat) : Nat := shF (mulF (shF (mulF (shF (s ^^^ mulF ((n + 1) % 4294967296) 2654435761) 15) 2246822507) 15) 2246822507) 13
def childN (s k : Nat) : Nat := mixN (mixN s 1) k

theorem mulF_lt (a m : Nat) : mulF a m < 4294967296 := Nat.mod_lt _ (by decide)
theorem mulF_inj {a b m v : Nat} (hv : m * v % 4294967296 = 1) (ha : a < 4294967296) (hb : b < 4294967296) (h : mulF a m = mulF b m) : a = b := by
  have key : ∀ x, x < 4294967296 → mulF x m * v % 4294967296 = x := fun x hx => by
    unfold mulF
    rw [Nat.mod_mul_mod, Nat.mul_assoc, Nat.mul_mod, hv, Nat.mul_one, Nat.mod_mod, Nat.mod_eq_of_lt hx]
  rw [← key a ha, h, key b hb]
theorem xor_zero_eq {a b : Nat} (h : a ^^^ b = 0) : a = b := by
  have : a ^^^ b ^^^ b = 0 ^^^ b := by rw [h]
  rw [Nat.xor_assoc, Nat.xor_self, Nat.xor_zero, Nat.zero_xor] at this
  exact this
theorem shF_xor (a b k : Nat) : shF (a ^^^ b) k = shF a k ^^^ shF b k := by
  unfold shF
  rw [Nat.xor_div_two_pow]
  generalize a / 2 ^ k = c
  generalize b / 2 ^ k = d
  rw [Nat.xor_assoc, Nat.xor_assoc, ← Nat.xor_assoc b, Nat.xor_comm b c, Nat.xor_assoc c]
theorem shF_zero {z k : Nat} (hk : 1 ≤ k) (h : shF z k = 0) : z = 0 := by
  have e := xor_zero_eq h
  rcases Nat.eq_zero_or_pos z with h0 | h0
  · exact h0
  · have h2 : 2 ≤ 2 ^ k := by
      have := Nat.pow_le_pow_right (n := 2) (by decide) hk
      simpa using this
    have := Nat.div_lt_self h0 h2
    omega
theorem shF_inj {a b k : Nat} (hk : 1 ≤ k) (h : shF a k = shF b k) : a = b := by
  refine xor_zero_eq (shF_zero hk ?_)
  rw [shF_xor, h, Nat.xor_self]
theorem shF_lt {x k : Nat} (h : x < 4294967296) : shF x k < 4294967296 := by
  unfold shF
  exact Nat.xor_lt_two_pow (n := 32) h (Nat.lt_of_le_of_lt (Nat.div_le_self _ _) h)
theorem inv1 : 2654435761 * 244002641 % 4294967296 = 1 := by decide
theorem mix_lt {s n : Nat} : mixN s n < 4294967296 := shF_lt (mulF_lt _ _)
theorem tail_inj {a b : Nat} (ha : a < 4294967296) (hb : b < 4294967296) (h : shF (mulF (shF (mulF (shF a 15) 2246822507) 15) 2246822507) 13 = shF (mulF (shF (mulF (shF b 15) 2246822507) 15) 2246822507) 13) : a = b := by
  have hv : 2246822507 * 2781581891 % 4294967296 = 1 := by decide
  have h1 := shF_inj (by decide) h
  have h2 := mulF_inj hv (shF_lt (mulF_lt _ _)) (shF_lt (mulF_lt _ _)) h1
  have h3 := shF_inj (by decide) h2
  have h4 := mulF_inj hv (shF_lt ha) (shF_lt hb) h3
  exact shF_inj (by decide) h4
theorem start_lt {s n : Nat} (h : s < 4294967296) : s ^^^ mulF ((n + 1) % 4294967296) 2654435761 < 4294967296 := Nat.xor_lt_two_pow (n := 32) h (mulF_lt _ _)
theorem mix_inj_seed {a b n : Nat} (ha : a < 4294967296) (hb : b < 4294967296) (h : mixN a n = mixN b n) : a = b := by
  have h1 := tail_inj (start_lt ha) (start_lt hb) h
  have : a ^^^ mulF ((n + 1) % 4294967296) 2654435761 ^^^ mulF ((n + 1) % 4294967296) 2654435761 = b ^^^ mulF ((n + 1) % 4294967296) 2654435761 ^^^ mulF ((n + 1) % 4294967296) 2654435761 := by rw [h1]
  rw [Nat.xor_assoc, Nat.xor_assoc, Nat.xor_self, Nat.xor_zero, Nat.xor_zero] at this
  exact this
theorem mix_inj_num {s m n : Nat} (hs : s < 4294967296) (hm : m < 4294967296) (hn : n < 4294967296) (h : mixN s m = mixN s n) : m = n := by
  have h1 := tail_inj (start_lt hs) (start_lt hs) h
  have h2 : mulF ((m + 1) % 4294967296) 2654435761 = mulF ((n + 1) % 4294967296) 2654435761 := by
    have : s ^^^ (s ^^^ mulF ((m + 1) % 4294967296) 2654435761) = s ^^^ (s ^^^ mulF ((n + 1) % 4294967296) 2654435761) := by rw [h1]
    rw [← Nat.xor_assoc, ← Nat.xor_assoc, Nat.xor_self, Nat.zero_xor, Nat.zero_xor] at this
    exact this
  have h3 := mulF_inj inv1 (Nat.mod_lt _ (by decide)) (Nat.mod_lt _ (by decide)) h2
  omega
theorem child_inj_seed {a b k : Nat} (ha : a < 4294967296) (hb : b < 4294967296) (h : childN a k = childN b k) : a = b := mix_inj_seed ha hb (mix_inj_seed mix_lt mix_lt h)
theorem child_inj_num {s m n : Nat} (hm : m < 4294967296) (hn : n < 4294967296) (h : childN s m = childN s n) : m = n := mix_inj_num mix_lt hm hn h
end Go.Proofs.Ytkahjodnefclfaa.Sdm
