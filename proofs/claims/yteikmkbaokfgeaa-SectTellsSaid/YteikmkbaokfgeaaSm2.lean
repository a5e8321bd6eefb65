/- The plain mathematics of layer 3's statements. -/
import Derived.Test.YteikmkbaokfgeaaSm
namespace Go.Proofs.Yteikmkbaokfgeaa
set_option linter.unusedVariables false
set_option linter.unusedSimpArgs false
open Go Cm

/-- Of a number's bytes the first ones alone are cut off. -/
theorem getL_cut : ∀ (f k m j : Nat) (n0 : Int), f + k = 7 → 0 < f → m < 128 ^ f → (f = 1 → m < 64) → (2 ≤ f → m < 64 * 128 ^ (f - 1)) → (0 < k → 0 < m) → j < (putG f m).length →
    getL ((putG f m).take j) k n0 = (0, 0, 10)
  | 0, _, _, _, _, _, h, _, _, _, _, _ => by omega
  | f + 1, k, m, 0, n0, _, _, _, _, _, _, _ => by rw [List.take_zero]; rfl
  | f + 1, k, m, j + 1, n0, hfk, _, hm, h1, h2, hk, hj => by
    rw [putG] at hj ⊢
    by_cases h : m < 128
    · rw [if_pos h] at hj; simp at hj
    · rw [if_neg h] at hj ⊢
      have e1 : ((UInt8.ofNat (m % 128 + 128)).toNat : Nat) = m % 128 + 128 := by simp; omega
      have hz := flaw_zero (m % 128 + 128) k (by omega) (fun e => by omega) (fun _ => by omega)
      rw [List.take_succ_cons, getL, e1, if_neg (by rw [hz]; simp), if_neg (by omega)]
      have hf : f ≠ 0 := by rintro rfl; simp at hm; omega
      rw [Nat.pow_succ] at hm
      have hlt : m < 64 * 128 ^ f := by have := h2 (by omega); simpa using this
      have hq : (2 ≤ f → m / 128 < 64 * 128 ^ (f - 1)) := fun h => by
        obtain ⟨g, rfl⟩ : ∃ g, f = g + 1 := ⟨f - 1, by omega⟩
        rw [Nat.pow_succ] at hlt
        simp only [Nat.add_sub_cancel]
        omega
      exact getL_cut f (k + 1) (m / 128) j _ (by omega) (by omega) (by omega) (fun e => by subst e; simp at hlt; omega) hq (by omega) (by simpa using hj)

theorem secG_cut (c : UInt8) (p : List UInt8) (m : Nat) (hp : p.length ≤ 1048576) (hm : m < (bodyS c p).length) : (secG c ((bodyS c p).take m)).2.2 = 10 := by
  have hs := sum_in (c :: p)
  have e : bodyS c p = putG 7 p.length ++ (p ++ fixG (rollF 0 (c :: p)).toNat) := by
    rw [bodyS, putTextF_eq hp, fixF_eq hs.1 hs.2]; simp
  have hlen : (bodyS c p).length = (putG 7 p.length).length + (p.length + 4) := by rw [e]; simp [fixG_len]
  rcases Nat.lt_or_ge m (putG 7 p.length).length with h | h
  · have ht : (bodyS c p).take m = (putG 7 p.length).take m := by rw [e, List.take_append_of_le_length (Nat.le_of_lt h)]
    have hg := getL_cut 7 0 p.length m 0 (by omega) (by omega) (by omega) (by omega) (fun _ => by omega) (by omega) h
    rw [secG, ht, hg]
    simp
  · have ht : (bodyS c p).take m = putG 7 p.length ++ (p ++ fixG (rollF 0 (c :: p)).toNat).take (m - (putG 7 p.length).length) := by
      rw [e, List.take_append, List.take_of_length_le h]
    have hg : getL ((bodyS c p).take m) 0 0 = ((p.length : Int), (putG 7 p.length).length, 0) := by
      rw [ht, getL_putG _ 7 0 p.length 0 (by omega) (by omega) (by omega) (by omega) (fun _ => by omega) (by omega)]
      simp
    have hl : ((bodyS c p).take m).length = m := by rw [List.length_take]; omega
    rw [secG, hg]
    simp only
    rw [hl, if_neg (by simp), if_neg (by omega), if_pos (by omega)]

theorem putS_length {t : Int} {p : List UInt8} (h0 : 0 ≤ t) (h1 : t ≤ 255) (hp : p.length ≤ 1048576) : (putS t p).length = (putTextF p).length + 5 := by
  rw [putS_eq h0 h1 hp, List.length_cons, bodyS_len]
theorem getS_cut {t : Int} {p : List UInt8} (h0 : 0 ≤ t) (h1 : t ≤ 255) (hp : p.length ≤ 1048576) (m : Nat) (hm : m < (putS t p).length) : getS ((putS t p).take m) 0 = (0, [], 0, 10) := by
  rw [putS_eq h0 h1 hp] at hm ⊢
  unfold getS
  rw [if_neg (by omega)]
  simp only [Int.toNat_zero, List.drop_zero]
  cases m with
  | zero => rfl
  | succ m =>
    rw [List.take_succ_cons]
    have hc := secG_cut (tagB t) p m hp (by simpa using hm)
    simp only
    rw [hc]
    simp
theorem getS_put {t : Int} {p : List UInt8} (h0 : 0 ≤ t) (h1 : t ≤ 255) (hp : p.length ≤ 1048576) (r : List UInt8) : getS (putS t p ++ r) 0 = (t, p, ((putS t p).length : Int), 0) := by
  have hl := putS_length h0 h1 hp
  unfold getS
  rw [if_neg (by omega)]
  simp only [Int.toNat_zero, List.drop_zero]
  rw [hl, putS_eq h0 h1 hp, List.cons_append]
  simp only
  rw [secG_put _ _ _ hp]
  simp only
  rw [if_neg (by simp), tagB_val h0 h1]
  refine Prod.ext rfl (Prod.ext rfl (Prod.ext ?_ rfl))
  simp only
  omega

/-- Sections and what stands behind them. -/
theorem allS_app {s t : List UInt8} (h : (allS s).2.2 = 0) : allS (s ++ t) = if (allS t).2.2 ≠ 0 then ([], s.length + (allS t).2.1, (allS t).2.2) else ((allS s).1 ++ (allS t).1, s.length + (allS t).2.1, 0) := by
  obtain ⟨e1, e2, e3⟩ := allS_eq h
  have := allS_put (allS s).1 t e3
  rw [← e1] at this
  exact this
theorem allS_join {l : List (Int × List UInt8)} (h : okS l) : allS (joinS l) = (l, (joinS l).length, 0) := by
  have := allS_put l [] h
  rw [List.append_nil, allS_nil] at this
  simpa using this
theorem all_count (s : List UInt8) : (allS s).1.length ≤ s.length := by
  by_cases h : (allS s).2.2 = 0
  · obtain ⟨e1, e2, e3⟩ := allS_eq h
    suffices H : ∀ l : List (Int × List UInt8), okS l → l.length ≤ (joinS l).length by
      have := H _ e3
      rw [← e1] at this
      exact this
    intro l
    induction l with
    | nil => simp
    | cons x l ih =>
      intro hl
      obtain ⟨h0, h1, h2⟩ := hl x (by simp)
      have := ih (fun y hy => hl y (by simp [hy]))
      rw [joinS_cons, List.length_append, putS_length h0 h1 h2, List.length_cons]
      omega
  · rw [allS_bad h]; simp
/-- Each section's text is short where all is. -/
theorem all_sizes (s : List UInt8) : ∀ x ∈ (allS s).1, x.2.length ≤ s.length := by
  intro x hx
  have h : (allS s).2.2 = 0 := by
    apply Classical.byContradiction
    intro h
    rw [allS_bad h] at hx; simp at hx
  obtain ⟨e1, e2, e3⟩ := allS_eq h
  suffices H : ∀ l : List (Int × List UInt8), okS l → ∀ x ∈ l, x.2.length ≤ (joinS l).length by
    have := H _ e3 x hx
    rw [← e1] at this
    exact this
  intro l
  induction l with
  | nil => intro _ x hx; simp at hx
  | cons y l ih =>
    intro hl x hx
    obtain ⟨h0, h1, h2⟩ := hl y (by simp)
    rw [joinS_cons, List.length_append, putS_length h0 h1 h2]
    rcases List.mem_cons.1 hx with rfl | hx
    · rw [putTextF_eq h2, List.length_append]; omega
    · have := ih (fun z hz => hl z (by simp [hz])) x hx
      omega
end Go.Proofs.Yteikmkbaokfgeaa
