/- The plain mathematics of layer 3: sections as lists of bytes. -/
import Derived.Test.YteikmkbaokfgeaaWlaw
import Derived.Test.YteikmkbaokfgeaaCm
namespace Go.Proofs.Yteikmkbaokfgeaa
set_option linter.unusedVariables false
set_option linter.unusedSimpArgs false
open Go Cm

def tagB (tag : Int) : UInt8 := UInt8.ofNat tag.toNat
/-- A section's bytes behind its tag's. -/
def bodyS (c : UInt8) (p : List UInt8) : List UInt8 := putTextF p ++ fixF (rollF 0 (c :: p))
def putS (tag : Int) (p : List UInt8) : List UInt8 := if tag < 0 ∨ 255 < tag ∨ 1048576 < (p.length : Int) then [] else tagB tag :: bodyS (tagB tag) p

def secG (c : UInt8) (t : List UInt8) : List UInt8 × Nat × Int :=
  if (getL t 0 0).2.2 ≠ 0 then ([], 0, (getL t 0 0).2.2)
  else if 1048576 < (getL t 0 0).1 then ([], 0, 11)
  else if (t.length : Int) - (getL t 0 0).2.1 < (getL t 0 0).1 + 4 then ([], 0, 10)
  else if (gfxF t ((getL t 0 0).2.1 + (getL t 0 0).1)).1 ≠ rollF 0 (c :: (t.drop (getL t 0 0).2.1).take (getL t 0 0).1.toNat) then ([], 0, 30)
  else ((t.drop (getL t 0 0).2.1).take (getL t 0 0).1.toNat, (getL t 0 0).2.1 + (getL t 0 0).1.toNat + 4, 0)

def getS (s : List UInt8) (a : Int) : Int × List UInt8 × Int × Int :=
  if a < 0 ∨ (s.length : Int) < a then (0, [], a, 1) else
  match s.drop a.toNat with
  | [] => (0, [], a, 10)
  | c :: t => if (secG c t).2.2 ≠ 0 then (0, [], a, (secG c t).2.2) else (c.toNat, (secG c t).1, a + 1 + (secG c t).2.1, 0)

def secsG : Nat → List UInt8 → List (Int × List UInt8) × Nat × Int
  | 0, _ => ([], 0, 0)
  | _ + 1, [] => ([], 0, 0)
  | f + 1, c :: t => if (secG c t).2.2 ≠ 0 then ([], 0, (secG c t).2.2)
    else if (secsG f (t.drop (secG c t).2.1)).2.2 ≠ 0 then ([], 1 + (secG c t).2.1 + (secsG f (t.drop (secG c t).2.1)).2.1, (secsG f (t.drop (secG c t).2.1)).2.2)
    else ((c.toNat, (secG c t).1) :: (secsG f (t.drop (secG c t).2.1)).1, 1 + (secG c t).2.1 + (secsG f (t.drop (secG c t).2.1)).2.1, 0)
def allS (s : List UInt8) : List (Int × List UInt8) × Nat × Int := secsG s.length s
def joinS (l : List (Int × List UInt8)) : List UInt8 := (l.map fun x => putS x.1 x.2).flatten

theorem sum_in (l : List UInt8) : 0 ≤ rollF 0 l ∧ rollF 0 l ≤ 4294967295 := rollF_in (by decide) (by decide)
theorem fixF_eq {n : Int} (h0 : 0 ≤ n) (h1 : n ≤ 4294967295) : fixF n = fixG n.toNat := by rw [fixF, if_neg (by omega)]
theorem fixG_len (n : Nat) : (fixG n).length = 4 := rfl
theorem putTextF_eq {p : List UInt8} (h : p.length ≤ 1048576) : putTextF p = putG 7 p.length ++ p := by
  rw [putTextF, if_neg (by omega), putF, if_neg (by omega)]; rfl

theorem secG_put (c : UInt8) (p r : List UInt8) (h : p.length ≤ 1048576) : secG c (bodyS c p ++ r) = (p, (putTextF p).length + 4, 0) := by
  have hs := sum_in (c :: p)
  have e : bodyS c p ++ r = putG 7 p.length ++ (p ++ (fixG (rollF 0 (c :: p)).toNat ++ r)) := by
    rw [bodyS, putTextF_eq h, fixF_eq hs.1 hs.2]; simp
  have hg : getL (bodyS c p ++ r) 0 0 = ((p.length : Int), (putG 7 p.length).length, 0) := by
    rw [e, getL_putG _ 7 0 p.length 0 (by omega) (by omega) (by omega) (by omega) (fun _ => by omega) (by omega)]
    simp
  have hl : (bodyS c p ++ r).length = (putG 7 p.length).length + (p.length + (4 + r.length)) := by rw [e]; simp [fixG_len]
  have hd : (bodyS c p ++ r).drop (putG 7 p.length).length = p ++ (fixG (rollF 0 (c :: p)).toNat ++ r) := by rw [e, List.drop_left]
  have ht : (p ++ (fixG (rollF 0 (c :: p)).toNat ++ r)).take p.length = p := List.take_left
  have hx : gfxF (bodyS c p ++ r) (((putG 7 p.length).length : Int) + (p.length : Int)) = (rollF 0 (c :: p), ((putG 7 p.length).length : Int) + (p.length : Int) + 4, 0) := by
    have := gfxF_fix (putG 7 p.length ++ p) r (rollF 0 (c :: p)).toNat (by omega)
    rw [show putG 7 p.length ++ p ++ fixG (rollF 0 (c :: p)).toNat ++ r = bodyS c p ++ r by rw [e]; simp] at this
    rw [show ((putG 7 p.length ++ p).length : Int) = ((putG 7 p.length).length : Int) + (p.length : Int) by simp] at this
    rw [this]
    refine Prod.ext ?_ rfl
    simp only []
    omega
  unfold secG
  rw [hg]
  simp only [Int.toNat_natCast]
  rw [hl, if_neg (by simp), if_neg (by omega), if_neg (by omega), hx, hd, ht, if_neg (by simp), putTextF_eq h, List.length_append]

theorem fix4_of (b0 b1 b2 b3 : UInt8) : fixG (fix4 b0 b1 b2 b3).toNat = [b0, b1, b2, b3] := by
  have c0 := b0.toNat_lt; have c1 := b1.toNat_lt; have c2 := b2.toNat_lt; have c3 := b3.toNat_lt
  have e : (fix4 b0 b1 b2 b3).toNat = b0.toNat + 256 * b1.toNat + 65536 * b2.toNat + 16777216 * b3.toNat := by unfold fix4; omega
  rw [e]
  unfold fixG
  generalize hn : b0.toNat + 256 * b1.toNat + 65536 * b2.toNat + 16777216 * b3.toNat = n
  rw [show n % 256 = b0.toNat by omega, show n / 256 % 256 = b1.toNat by omega, show n / 65536 % 256 = b2.toNat by omega, show n / 16777216 = b3.toNat by omega]
  simp

theorem secG_of {c : UInt8} {t p : List UInt8} {k : Nat} (h : secG c t = (p, k, 0)) : p.length ≤ 1048576 ∧ k = (putTextF p).length + 4 ∧ t = bodyS c p ++ t.drop k := by
  unfold secG at h
  obtain ⟨n, m, e, hg⟩ : ∃ n m e, getL t 0 0 = (n, m, e) := ⟨_, _, _, rfl⟩
  rw [hg] at h
  simp only at h
  split at h
  · simp only [Prod.mk.injEq] at h; rename_i h0; exact absurd h.2.2 h0
  · rename_i h0
    have h0 : e = 0 := by simpa using h0
    subst h0
    split at h
    · simp at h
    · rename_i h1
      split at h
      · simp at h
      · rename_i h2
        split at h
        · simp at h
        · rename_i h3
          have h3 : (gfxF t ((m : Int) + n)).1 = rollF 0 (c :: (t.drop m).take n.toNat) := by simpa using h3
          simp only [Prod.mk.injEq] at h
          obtain ⟨hp, hk, _⟩ := h
          obtain ⟨v, e1, e2, e3, _, e4, _, _, e7⟩ := putG_getL t 0 0 n m (by omega) hg
          simp at e1 e4 e7
          subst e1
          rw [Int.toNat_natCast] at hp hk h3
          have hpl : p.length = v := by rw [← hp]; simp; omega
          have h4 : ∃ b0 b1 b2 b3 r, (t.drop m).drop v = b0 :: b1 :: b2 :: b3 :: r := by
            have hh : 4 ≤ ((t.drop m).drop v).length := by simp; omega
            match hl : (t.drop m).drop v with
            | b0 :: b1 :: b2 :: b3 :: r => exact ⟨_, _, _, _, _, rfl⟩
            | [] => rw [hl] at hh; simp at hh
            | [_] => rw [hl] at hh; simp at hh
            | [_, _] => rw [hl] at hh; simp at hh
            | [_, _, _] => rw [hl] at hh; simp at hh
          obtain ⟨b0, b1, b2, b3, r, hb⟩ := h4
          have hbd : t.drop (m + v) = b0 :: b1 :: b2 :: b3 :: r := by rw [← List.drop_drop]; exact hb
          have hf : gfxF t ((m : Int) + v) = (fix4 b0 b1 b2 b3, (m : Int) + v + 4, 0) := by
            unfold gfxF
            rw [if_neg (by omega), show ((m : Int) + v).toNat = m + v by omega, hbd]
          rw [hf, hp] at h3
          have hs := sum_in (c :: p)
          have hfix : fixF (rollF 0 (c :: p)) = [b0, b1, b2, b3] := by
            rw [fixF_eq hs.1 hs.2, ← h3, fix4_of]
          have hpt : putTextF p = t.take m ++ p := by rw [putTextF_eq (by omega), hpl, e4]
          have hle : p.length ≤ 1048576 := by omega
          have hml : (t.take m).length = m := by simp; omega
          have hkk : k = (putTextF p).length + 4 := by rw [hpt, List.length_append, hml, hpl]; omega
          refine ⟨hle, hkk, ?_⟩
          have hr : t.drop k = r := by
            rw [show k = (m + v) + 4 by omega, ← List.drop_drop, hbd]; rfl
          rw [bodyS, hpt, hfix, hr]
          have e5 : t.drop m = p ++ b0 :: b1 :: b2 :: b3 :: r := by
            rw [← hb, ← hp, List.take_append_drop]
          have e6 := List.take_append_drop m t
          rw [e5] at e6
          exact e6.symm.trans (by simp)

theorem secG_bd (c : UInt8) (t : List UInt8) : (secG c t).2.1 ≤ t.length := by
  by_cases h : (secG c t).2.2 = 0
  · obtain ⟨p, k, e, hg⟩ : ∃ p k e, secG c t = (p, k, e) := ⟨_, _, _, rfl⟩
    rw [hg] at h ⊢
    simp only at h
    subst h
    obtain ⟨h1, h2, h3⟩ := secG_of hg
    rcases Nat.le_total k t.length with hh | hh
    · exact hh
    · rw [List.drop_of_length_le hh] at h3
      have := congrArg List.length h3
      have hs := sum_in (c :: p)
      simp [bodyS, fixF_eq hs.1 hs.2, fixG_len] at this
      simp only; omega
  · unfold secG at h ⊢
    split
    · simp
    · rename_i h0
      rw [if_neg h0] at h
      split
      · simp
      · rename_i h1
        rw [if_neg h1] at h
        split
        · simp
        · rename_i h2
          rw [if_neg h2] at h
          split
          · simp
          · rename_i h3
            rw [if_neg h3] at h
            simp at h

theorem tag_lt (c : UInt8) : (0 : Int) ≤ c.toNat ∧ (c.toNat : Int) ≤ 255 := by have := c.toNat_lt; omega
theorem tagB_toNat (c : UInt8) : tagB (c.toNat : Int) = c := by simp [tagB]
theorem tagB_val {t : Int} (h0 : 0 ≤ t) (h1 : t ≤ 255) : ((tagB t).toNat : Int) = t := by
  unfold tagB; rw [UInt8.toNat_ofNat', Nat.mod_eq_of_lt (by omega)]; omega
theorem putS_eq {t : Int} {p : List UInt8} (h0 : 0 ≤ t) (h1 : t ≤ 255) (hp : p.length ≤ 1048576) : putS t p = tagB t :: bodyS (tagB t) p := by
  rw [putS, if_neg (by omega)]
theorem bodyS_len (c : UInt8) (p : List UInt8) : (bodyS c p).length = (putTextF p).length + 4 := by
  have hs := sum_in (c :: p)
  rw [bodyS, List.length_append, fixF_eq hs.1 hs.2, fixG_len]

/-- Fuel beyond the bytes is of no moment. -/
theorem secsG_fuel : ∀ (f g : Nat) (s : List UInt8), s.length ≤ f → s.length ≤ g → secsG f s = secsG g s
  | 0, 0, _, _, _ => rfl
  | 0, g + 1, s, h, _ => by
    have : s = [] := List.eq_nil_of_length_eq_zero (by omega)
    subst this; rfl
  | f + 1, 0, s, _, h => by
    have : s = [] := List.eq_nil_of_length_eq_zero (by omega)
    subst this; rfl
  | f + 1, g + 1, [], _, _ => rfl
  | f + 1, g + 1, c :: t, h, h' => by
    simp only [List.length_cons] at h h'
    have ih := secsG_fuel f g (t.drop (secG c t).2.1) (by simp; omega) (by simp; omega)
    rw [secsG, secsG, ih]
theorem allS_nil : allS [] = ([], 0, 0) := rfl
theorem allS_cons (c : UInt8) (t : List UInt8) : allS (c :: t) = if (secG c t).2.2 ≠ 0 then ([], 0, (secG c t).2.2)
    else if (allS (t.drop (secG c t).2.1)).2.2 ≠ 0 then ([], 1 + (secG c t).2.1 + (allS (t.drop (secG c t).2.1)).2.1, (allS (t.drop (secG c t).2.1)).2.2)
    else (((c.toNat : Int), (secG c t).1) :: (allS (t.drop (secG c t).2.1)).1, 1 + (secG c t).2.1 + (allS (t.drop (secG c t).2.1)).2.1, 0) := by
  unfold allS
  rw [List.length_cons, secsG, secsG_fuel t.length (t.drop (secG c t).2.1).length _ (by simp) (Nat.le_refl _)]

def okS (l : List (Int × List UInt8)) : Prop := ∀ x ∈ l, 0 ≤ x.1 ∧ x.1 ≤ 255 ∧ x.2.length ≤ 1048576

theorem joinS_cons (x : Int × List UInt8) (l : List (Int × List UInt8)) : joinS (x :: l) = putS x.1 x.2 ++ joinS l := by simp [joinS]
theorem joinS_app (a b : List (Int × List UInt8)) : joinS (a ++ b) = joinS a ++ joinS b := by simp [joinS]

/-- Sections that were put, and what stands behind them. -/
theorem allS_put : ∀ (l : List (Int × List UInt8)) (t : List UInt8), okS l → allS (joinS l ++ t) =
    if (allS t).2.2 ≠ 0 then ([], (joinS l).length + (allS t).2.1, (allS t).2.2) else (l ++ (allS t).1, (joinS l).length + (allS t).2.1, 0)
  | [], t, _ => by
    obtain ⟨a, b, e, h⟩ : ∃ a b e, allS t = (a, b, e) := ⟨_, _, _, rfl⟩
    have hnil : (allS t).2.2 ≠ 0 → (allS t).1 = [] := by
      intro h
      cases t with
      | nil => simp [allS_nil] at h
      | cons c t =>
        rw [allS_cons] at h ⊢
        split
        · rfl
        · rename_i h0
          rw [if_neg h0] at h
          split
          · rfl
          · rename_i h1
            rw [if_neg h1] at h
            simp at h
    rw [h] at hnil
    simp only [joinS, List.map_nil, List.flatten_nil, List.nil_append, List.length_nil, Nat.zero_add, h]
    by_cases he : e = 0
    · subst he; simp
    · simp only at hnil; rw [if_pos he, hnil he]
  | x :: l, t, h => by
    obtain ⟨h0, h1, h2⟩ := h x (by simp)
    have ih := allS_put l t (fun y hy => h y (by simp [hy]))
    rw [joinS_cons, putS_eq h0 h1 h2, List.cons_append, List.cons_append, allS_cons, List.append_assoc, secG_put _ _ _ h2]
    have hd : (bodyS (tagB x.1) x.2 ++ (joinS l ++ t)).drop ((putTextF x.2).length + 4) = joinS l ++ t := by
      rw [← bodyS_len (tagB x.1) x.2, List.drop_left]
    simp only
    rw [hd, ih, if_neg (by simp), tagB_val h0 h1]
    have hlen : (tagB x.1 :: (bodyS (tagB x.1) x.2 ++ joinS l)).length = 1 + ((putTextF x.2).length + 4) + (joinS l).length := by
      rw [List.length_cons, List.length_append, bodyS_len]; omega
    by_cases he : (allS t).2.2 = 0
    · have he' : ¬ (allS t).2.2 ≠ 0 := by simpa using he
      rw [if_neg he', if_neg he', hlen]
      simp only
      rw [if_neg (by simp)]
      refine Prod.ext rfl (Prod.ext ?_ rfl)
      simp only; omega
    · rw [if_pos he, if_pos he, hlen]
      simp only
      rw [if_pos he]
      refine Prod.ext rfl (Prod.ext ?_ rfl)
      simp only; omega

/-- Bytes that are sections are those of these sections alone. -/
theorem allS_of : ∀ (f : Nat) (s : List UInt8), s.length ≤ f → (allS s).2.2 = 0 → s = joinS (allS s).1 ∧ (allS s).2.1 = s.length ∧ okS (allS s).1
  | 0, s, hl, h => by
    have : s = [] := List.eq_nil_of_length_eq_zero (by omega)
    subst this
    exact ⟨rfl, rfl, fun x hx => absurd hx (by simp [allS_nil])⟩
  | f + 1, [], hl, h => ⟨rfl, rfl, fun x hx => absurd hx (by simp [allS_nil])⟩
  | f + 1, c :: t, hl, h => by
    rw [allS_cons] at h ⊢
    simp only [List.length_cons] at hl
    by_cases h0 : (secG c t).2.2 = 0
    · rw [if_neg (by simpa using h0)] at h ⊢
      by_cases h1 : (allS (t.drop (secG c t).2.1)).2.2 = 0
      · rw [if_neg (by simpa using h1)] at h ⊢
        obtain ⟨i1, i2, i3⟩ := allS_of f (t.drop (secG c t).2.1) (by simp; omega) h1
        obtain ⟨p, k, e, hg⟩ : ∃ p k e, secG c t = (p, k, e) := ⟨_, _, _, rfl⟩
        have hb := secG_bd c t
        rw [hg] at h0 i1 i2 i3 hb ⊢
        simp only at h0 i1 i2 i3 hb ⊢
        subst h0
        obtain ⟨g1, g2, g3⟩ := secG_of hg
        refine ⟨?_, ?_, ?_⟩
        · rw [joinS_cons, putS_eq (tag_lt c).1 (tag_lt c).2 g1, tagB_toNat, ← i1, List.cons_append, ← g3]
        · rw [i2, List.length_cons, List.length_drop]; omega
        · intro x hx
          rcases List.mem_cons.1 hx with rfl | hx
          · exact ⟨(tag_lt c).1, (tag_lt c).2, g1⟩
          · exact i3 x hx
      · rw [if_pos h1] at h; exact absurd h h1
    · rw [if_pos h0] at h; exact absurd h h0
theorem allS_eq {s : List UInt8} (h : (allS s).2.2 = 0) : s = joinS (allS s).1 ∧ (allS s).2.1 = s.length ∧ okS (allS s).1 := allS_of s.length s (Nat.le_refl _) h
theorem allS_bad {s : List UInt8} (h : (allS s).2.2 ≠ 0) : (allS s).1 = [] := by
  cases s with
  | nil => simp [allS_nil] at h
  | cons c t =>
    rw [allS_cons] at h ⊢
    split
    · rfl
    · rename_i h0
      rw [if_neg h0] at h
      split
      · rfl
      · rename_i h1
        rw [if_neg h1] at h
        simp at h
theorem allS_bd {s : List UInt8} : (allS s).2.1 ≤ s.length := by
  by_cases h : (allS s).2.2 = 0
  · exact Nat.le_of_eq (allS_eq h).2.1
  · suffices H : ∀ (f : Nat) (s : List UInt8), s.length ≤ f → (allS s).2.1 ≤ s.length from H _ s (Nat.le_refl _)
    intro f
    induction f with
    | zero =>
      intro s hl
      have : s = [] := List.eq_nil_of_length_eq_zero (by omega)
      subst this; simp [allS_nil]
    | succ f ih =>
      intro s hl
      cases s with
      | nil => simp [allS_nil]
      | cons c t =>
        simp only [List.length_cons] at hl
        have i := ih (t.drop (secG c t).2.1) (by simp; omega)
        have hb := secG_bd c t
        rw [List.length_drop] at i
        rw [allS_cons, List.length_cons]
        split
        · simp
        · split
          · simp only; omega
          · simp only; omega
end Go.Proofs.Yteikmkbaokfgeaa
