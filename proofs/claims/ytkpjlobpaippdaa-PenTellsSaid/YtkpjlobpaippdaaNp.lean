/- Layer 11, plain: rings as lists. -/
import Derived.Test.YtkpjlobpaippdaaKit
namespace Go.Proofs.Ytkpjlobpaippdaa
set_option linter.unusedVariables false
set_option linter.unusedSimpArgs false
open Go

abbrev RefP := Int × Int
/-- A ring: its places, the first one's index, how many items, how many at most. -/
structure Rng where
  buf : List RefP
  head : Int
  many : Int
  most : Int
def mayN (n : Nat) (h m t : Int) : Bool := decide (1 ≤ t) && decide (t ≤ 1024) && (decide (1 ≤ (n : Int)) && decide ((n : Int) ≤ t)) && (decide (0 ≤ h) && decide (h < n)) && (decide (0 ≤ m) && decide (m ≤ n))
def mayR (r : Rng) : Bool := mayN r.buf.length r.head r.many r.most
theorem mayR_iff (r : Rng) : mayR r = true ↔ (1 ≤ r.most ∧ r.most ≤ 1024) ∧ (1 ≤ (r.buf.length : Int) ∧ (r.buf.length : Int) ≤ r.most) ∧ (0 ≤ r.head ∧ r.head < r.buf.length) ∧ 0 ≤ r.many ∧ r.many ≤ r.buf.length := by
  simp [mayR, mayN, and_assoc]
def idxN (h n i : Nat) : Nat := if n ≤ h + i then h + i - n else h + i
def itemsN (b : List RefP) (h m : Nat) : List RefP := (List.range m).map fun i => b.getD (idxN h b.length i) (0, 0)
def itemsR (r : Rng) : List RefP := if mayR r = true then itemsN r.buf r.head.toNat r.many.toNat else []
theorem itemsN_len (b : List RefP) (h m : Nat) : (itemsN b h m).length = m := by simp [itemsN]
theorem itemsN_get {b : List RefP} {h m i : Nat} (hi : i < m) : (itemsN b h m)[i]? = some (b.getD (idxN h b.length i) (0, 0)) := by
  simp [itemsN, hi]
theorem itemsN_succ (b : List RefP) (h m : Nat) : itemsN b h (m + 1) = itemsN b h m ++ [b.getD (idxN h b.length m) (0, 0)] := by
  simp [itemsN, List.range_succ]
theorem idxN_lt {h n i : Nat} (hh : h < n) (hi : i < n) : idxN h n i < n := by unfold idxN; split <;> omega
theorem idxN_inj {h n i j : Nat} (hh : h < n) (hi : i < n) (hj : j < n) (e : idxN h n i = idxN h n j) : i = j := by
  unfold idxN at e
  split at e <;> split at e <;> omega
/-- From index 0 on they stand in order. -/
theorem itemsN_zero {b : List RefP} {m : Nat} (hm : m ≤ b.length) : itemsN b 0 m = b.take m := by
  apply List.ext_getElem?
  intro i
  by_cases hi : i < m
  · rw [itemsN_get hi, List.getElem?_take, if_pos hi, List.getD_eq_getElem?_getD, show idxN 0 b.length i = i by unfold idxN; rw [if_neg (by omega)]; omega, List.getElem?_eq_getElem (by omega)]
    rfl
  · rw [List.getElem?_eq_none (by rw [itemsN_len]; omega), List.getElem?_eq_none (by rw [List.length_take]; omega)]
/-- An item more, at the place behind them. -/
theorem itemsN_push {b : List RefP} {h m : Nat} (x : RefP) (hh : h < b.length) (hm : m < b.length) : itemsN (b.set (idxN h b.length m) x) h (m + 1) = itemsN b h m ++ [x] := by
  rw [itemsN_succ, List.length_set]
  congr 1
  · apply List.ext_getElem?
    intro i
    by_cases hi : i < m
    · rw [itemsN_get hi, itemsN_get hi, List.length_set, List.getD_eq_getElem?_getD, List.getD_eq_getElem?_getD, List.getElem?_set_ne fun e => by have := idxN_inj hh hm (by omega) e; omega]
    · rw [List.getElem?_eq_none (by rw [itemsN_len]; omega), List.getElem?_eq_none (by rw [itemsN_len]; omega)]
  · rw [List.getD_eq_getElem?_getD, List.getElem?_set_self (idxN_lt hh hm)]
    rfl
/-- Without the first one. -/
theorem itemsN_tail {b : List RefP} {h m : Nat} (hh : h < b.length) (hm : m < b.length) : itemsN b h (m + 1) = b.getD h (0, 0) :: itemsN b (if h + 1 = b.length then 0 else h + 1) m := by
  apply List.ext_getElem?
  intro i
  cases i with
  | zero =>
    rw [itemsN_get (Nat.succ_pos m), List.getElem?_cons_zero, show idxN h b.length 0 = h by unfold idxN; rw [if_neg (by omega)]; omega]
  | succ i =>
    rw [List.getElem?_cons_succ]
    by_cases hi : i < m
    · rw [itemsN_get (by omega), itemsN_get hi]
      congr 2
      unfold idxN
      split <;> split <;> split <;> omega
    · rw [List.getElem?_eq_none (by rw [itemsN_len]; omega), List.getElem?_eq_none (by rw [itemsN_len]; omega)]
/-- Of a ring that may be. -/
theorem ring_nat {r : Rng} (h : mayR r = true) : ∃ (b : List RefP) (hd m t : Nat), r = ⟨b, hd, m, t⟩ ∧ 1 ≤ t ∧ t ≤ 1024 ∧ 1 ≤ b.length ∧ b.length ≤ t ∧ hd < b.length ∧ m ≤ b.length := by
  obtain ⟨⟨a1, a2⟩, ⟨b1, b2⟩, ⟨c1, c2⟩, d1, d2⟩ := (mayR_iff r).1 h
  obtain ⟨b, hd, m, t⟩ := r
  simp only at a1 a2 b1 b2 c1 c2 d1 d2
  refine ⟨b, hd.toNat, m.toNat, t.toNat, ?_, by omega, by omega, by omega, by omega, by omega, by omega⟩
  rw [Int.toNat_of_nonneg c1, Int.toNat_of_nonneg d1, Int.toNat_of_nonneg (by omega)]
theorem ring_may {b : List RefP} {hd m t : Nat} (h1 : 1 ≤ t) (h2 : t ≤ 1024) (h3 : 1 ≤ b.length) (h4 : b.length ≤ t) (h5 : hd < b.length) (h6 : m ≤ b.length) : mayR ⟨b, hd, m, t⟩ = true :=
  (mayR_iff _).2 ⟨⟨by simp only; omega, by simp only; omega⟩, ⟨by simp only; omega, by simp only; omega⟩, ⟨by simp only; omega, by simp only; omega⟩, by simp only; omega, by simp only; omega⟩
theorem items_nat {b : List RefP} {hd m t : Nat} (h : mayR ⟨b, hd, m, t⟩ = true) : itemsR ⟨b, hd, m, t⟩ = itemsN b hd m := by
  unfold itemsR
  rw [if_pos h]
  simp only [Int.toNat_natCast]
theorem items_len {r : Rng} (h : mayR r = true) : ((itemsR r).length : Int) = r.many := by
  obtain ⟨b, hd, m, t, rfl, _⟩ := ring_nat h
  rw [items_nat h, itemsN_len]
/-- The places, laid anew if they are full. -/
def roomR (r : Rng) : Rng := if r.many = r.buf.length then ⟨itemsR r ++ List.replicate ((min (2 * r.many) r.most).toNat - (itemsR r).length) (0, 0), 0, r.many, r.most⟩ else r
def putR (r : Rng) (x : RefP) : Rng := ⟨r.buf.set (idxN r.head.toNat r.buf.length r.many.toNat) x, r.head, r.many + 1, r.most⟩
/-- An item more. -/
def oneR (r : Rng) (x : RefP) : Rng := putR (roomR r) x
theorem room_ok {r : Rng} (h : mayR r = true) (hm : r.many < r.most) : mayR (roomR r) = true ∧ itemsR (roomR r) = itemsR r ∧ (roomR r).many = r.many ∧ (roomR r).most = r.most ∧ r.many < (roomR r).buf.length ∧ r.buf.length ≤ (roomR r).buf.length ∧ ((roomR r).buf.length = r.buf.length ∨ ((roomR r).buf.length : Int) ≤ 2 * r.many) := by
  by_cases hf : r.many = r.buf.length
  · have e : roomR r = ⟨itemsR r ++ List.replicate ((min (2 * r.many) r.most).toNat - (itemsR r).length) (0, 0), 0, r.many, r.most⟩ := if_pos hf
    have hl := items_len h
    obtain ⟨⟨a1, a2⟩, ⟨b1, b2⟩, ⟨c1, c2⟩, d1, d2⟩ := (mayR_iff r).1 h
    have hlen : (((roomR r).buf.length : Nat) : Int) = min (2 * r.many) r.most := by
      rw [e]
      simp only [List.length_append, List.length_replicate]
      omega
    have hmay : mayR (roomR r) = true := by
      refine (mayR_iff _).2 ?_
      rw [hlen, e]
      simp only
      exact ⟨⟨a1, a2⟩, ⟨by omega, by omega⟩, ⟨by omega, by omega⟩, by omega, by omega⟩
    refine ⟨hmay, ?_, by rw [e], by rw [e], by rw [hlen]; omega, by omega, .inr (by rw [hlen]; omega)⟩
    have e2 : roomR r = ⟨itemsR r ++ List.replicate ((min (2 * r.many) r.most).toNat - (itemsR r).length) (0, 0), ((0 : Nat) : Int), ((itemsR r).length : Int), r.most⟩ := by rw [e, hl]; rfl
    unfold itemsR
    rw [if_pos hmay, if_pos h]
    rw [e2]
    simp only [Int.toNat_natCast]
    rw [itemsN_zero (by rw [List.length_append]; omega), List.take_left']
    · unfold itemsR; rw [if_pos h]
    · rfl
  · have e : roomR r = r := if_neg hf
    rw [e]
    obtain ⟨⟨a1, a2⟩, ⟨b1, b2⟩, ⟨c1, c2⟩, d1, d2⟩ := (mayR_iff r).1 h
    exact ⟨h, rfl, rfl, rfl, by omega, Nat.le_refl _, .inl rfl⟩
theorem put_ok {r : Rng} (h : mayR r = true) (hm : r.many < r.buf.length) (x : RefP) : mayR (putR r x) = true ∧ itemsR (putR r x) = itemsR r ++ [x] ∧ (putR r x).buf.length = r.buf.length := by
  obtain ⟨b, hd, m, t, rfl, h1, h2, h3, h4, h5, h6⟩ := ring_nat h
  have hm' : m < b.length := by simp only at hm; omega
  have e : putR ⟨b, hd, m, t⟩ x = ⟨b.set (idxN hd b.length m) x, hd, ((m + 1 : Nat) : Int), t⟩ := by
    unfold putR
    simp only [Int.toNat_natCast]
    rfl
  have hmay : mayR (putR ⟨b, hd, m, t⟩ x) = true := by
    rw [e]
    exact ring_may h1 h2 (by rw [List.length_set]; exact h3) (by rw [List.length_set]; exact h4) (by rw [List.length_set]; exact h5) (by rw [List.length_set]; omega)
  refine ⟨hmay, ?_, by rw [e]; simp⟩
  rw [e] at hmay ⊢
  rw [items_nat hmay, items_nat h, itemsN_push x h5 hm']
theorem one_ok {r : Rng} (h : mayR r = true) (hm : r.many < r.most) (x : RefP) : mayR (oneR r x) = true ∧ itemsR (oneR r x) = itemsR r ++ [x] ∧ (oneR r x).many = r.many + 1 ∧ (oneR r x).most = r.most ∧ r.buf.length ≤ (oneR r x).buf.length ∧ ((oneR r x).buf.length = r.buf.length ∨ ((oneR r x).buf.length : Int) ≤ 2 * (oneR r x).many) := by
  obtain ⟨k1, k2, k3, k4, k5, k6, k7⟩ := room_ok h hm
  obtain ⟨p1, p2, p3⟩ := put_ok k1 (by rw [k3]; exact k5) x
  have hmn : (oneR r x).many = r.many + 1 := by show (roomR r).many + 1 = _; rw [k3]
  refine ⟨p1, by show itemsR (putR (roomR r) x) = _; rw [p2, k2], hmn, k4, by show r.buf.length ≤ (putR (roomR r) x).buf.length; rw [p3]; exact k6, ?_⟩
  rw [hmn]
  show (putR (roomR r) x).buf.length = _ ∨ ((putR (roomR r) x).buf.length : Int) ≤ _
  rw [p3]
  rcases k7 with k | k
  · exact .inl k
  · exact .inr (by omega)
/-- Items more. -/
def manyR (r : Rng) (l : List RefP) : Rng := l.foldl oneR r
theorem many_ok : ∀ (l : List RefP) {r : Rng} (_ : mayR r = true) (_ : r.many + l.length ≤ r.most), mayR (manyR r l) = true ∧ itemsR (manyR r l) = itemsR r ++ l ∧ (manyR r l).many = r.many + l.length ∧ (manyR r l).most = r.most ∧ r.buf.length ≤ (manyR r l).buf.length ∧
    ((manyR r l).buf.length = r.buf.length ∨ ((manyR r l).buf.length : Int) ≤ 2 * (manyR r l).many)
  | [], r, h, _ => ⟨h, by simp [manyR], by simp [manyR], rfl, Nat.le_refl _, .inl rfl⟩
  | x :: l, r, h, hm => by
    have hx : r.many < r.most := by simp only [List.length_cons] at hm; omega
    obtain ⟨o1, o2, o3, o4, o5, o6⟩ := one_ok h hx x
    obtain ⟨q1, q2, q3, q4, q5, q6⟩ := many_ok l o1 (by rw [o3, o4]; simp only [List.length_cons] at hm; omega)
    refine ⟨q1, ?_, ?_, q4.trans o4, Nat.le_trans o5 q5, ?_⟩
    · show itemsR (manyR (oneR r x) l) = _
      rw [q2, o2]; simp
    · show (manyR (oneR r x) l).many = _
      rw [q3, o3]; simp only [List.length_cons]; omega
    · show (manyR (oneR r x) l).buf.length = _ ∨ _
      rcases q6 with q | q
      · rcases o6 with o | o
        · exact .inl (q.trans o)
        · refine .inr ?_
          show ((manyR (oneR r x) l).buf.length : Int) ≤ 2 * (manyR (oneR r x) l).many
          rw [q, q3]; omega
      · exact .inr q
theorem many_append (r : Rng) (l k : List RefP) : manyR r (l ++ k) = manyR (manyR r l) k := List.foldl_append
def pushR (r : Rng) (l : List RefP) : Rng × Int := if mayR r = false then (r, 1) else if r.most < r.many + l.length then (r, 110) else (manyR r l, 0)
def popR (r : Rng) : Rng × RefP × Bool := if (itemsR r).length = 0 then (r, (0, 0), false) else ({ r with many := r.many - 1 }, (itemsR r).getD ((itemsR r).length - 1) (0, 0), true)
def stealR (r : Rng) : Rng × RefP × Bool := if (itemsR r).length = 0 then (r, (0, 0), false) else ({ r with many := r.many - 1, head := if r.head + 1 = r.buf.length then 0 else r.head + 1 }, (itemsR r).getD 0 (0, 0), true)
/-- So many are stolen. -/
def stealN : Nat → Rng → Rng
  | 0, r => r
  | n + 1, r => stealN n (stealR r).1
def halfN (r : Rng) : Nat := ((itemsR r).length + 1) / 2
def halfR (r : Rng) : Rng × List RefP := (stealN (halfN r) r, (itemsR r).take (halfN r))
def newR (room most : Int) : Rng × Bool := if 1 ≤ most ∧ most ≤ 1024 ∧ 1 ≤ room ∧ room ≤ most then (⟨List.replicate room.toNat (0, 0), 0, 0, most⟩, true) else (⟨[], 0, 0, 0⟩, false)
theorem pop_ok {r : Rng} (h : mayR r = true) (h0 : 0 < (itemsR r).length) : mayR (popR r).1 = true ∧ itemsR (popR r).1 = (itemsR r).dropLast ∧ (popR r).2.1 = (itemsR r).getD ((itemsR r).length - 1) (0, 0) ∧ (popR r).2.2 = true ∧ (popR r).1.most = r.most ∧ (popR r).1.buf = r.buf := by
  have e : popR r = ({ r with many := r.many - 1 }, (itemsR r).getD ((itemsR r).length - 1) (0, 0), true) := if_neg (by omega)
  rw [e]
  have hl := items_len h
  obtain ⟨b, hd, m, t, rfl, h1, h2, h3, h4, h5, h6⟩ := ring_nat h
  simp only at hl
  cases m with
  | zero => omega
  | succ m =>
    have e2 : ({ (⟨b, hd, ((m + 1 : Nat) : Int), t⟩ : Rng) with many := ((m + 1 : Nat) : Int) - 1 } : Rng) = ⟨b, hd, (m : Int), t⟩ := by simp
    simp only
    rw [show (((m + 1 : Nat) : Int) - 1) = (m : Int) by omega]
    have hmay := ring_may (b := b) (hd := hd) (m := m) (t := t) h1 h2 h3 h4 h5 (by omega)
    refine ⟨hmay, ?_, by simp, by simp, by simp, by simp⟩
    rw [items_nat hmay, items_nat h, itemsN_succ, List.dropLast_concat]
theorem steal_ok {r : Rng} (h : mayR r = true) (h0 : 0 < (itemsR r).length) : mayR (stealR r).1 = true ∧ itemsR r = (stealR r).2.1 :: itemsR (stealR r).1 ∧ (stealR r).2.2 = true ∧ (stealR r).1.most = r.most ∧ (stealR r).1.buf = r.buf := by
  have e : stealR r = ({ r with many := r.many - 1, head := if r.head + 1 = r.buf.length then 0 else r.head + 1 }, (itemsR r).getD 0 (0, 0), true) := if_neg (by omega)
  rw [e]
  have hl := items_len h
  obtain ⟨b, hd, m, t, rfl, h1, h2, h3, h4, h5, h6⟩ := ring_nat h
  simp only at hl
  cases m with
  | zero => omega
  | succ m =>
    simp only
    have eh : (if (hd : Int) + 1 = (b.length : Int) then (0 : Int) else (hd : Int) + 1) = ((if hd + 1 = b.length then 0 else hd + 1 : Nat) : Int) := by
      split <;> split <;> omega
    rw [show (((m + 1 : Nat) : Int) - 1) = (m : Int) by omega, eh]
    have hmay := ring_may (b := b) (hd := if hd + 1 = b.length then 0 else hd + 1) (m := m) (t := t) h1 h2 h3 h4 (by split <;> omega) (by omega)
    refine ⟨hmay, ?_, by simp, by simp, by simp⟩
    rw [items_nat hmay, items_nat h, itemsN_tail h5 (by omega)]
    rfl
theorem stealN_ok : ∀ (n : Nat) {r : Rng} (_ : mayR r = true) (_ : n ≤ (itemsR r).length), mayR (stealN n r) = true ∧ itemsR (stealN n r) = (itemsR r).drop n ∧ (stealN n r).most = r.most ∧ (stealN n r).buf = r.buf
  | 0, r, h, _ => ⟨h, by simp [stealN], rfl, rfl⟩
  | n + 1, r, h, hn => by
    obtain ⟨s1, s2, s3, s4, s5⟩ := steal_ok h (by omega)
    have hl : (itemsR r).length = (itemsR (stealR r).1).length + 1 := by rw [s2]; rfl
    obtain ⟨q1, q2, q3, q4⟩ := stealN_ok n s1 (by omega)
    refine ⟨q1, ?_, q3.trans s4, q4.trans s5⟩
    show itemsR (stealN n (stealR r).1) = _
    rw [q2]
    conv => rhs; rw [s2]
    rfl
theorem steal_no {r : Rng} (h : (itemsR r).length = 0) : stealR r = (r, (0, 0), false) := if_pos h
theorem pop_no {r : Rng} (h : (itemsR r).length = 0) : popR r = (r, (0, 0), false) := if_pos h
theorem new_may {room most : Int} (h : (newR room most).2 = true) : mayR (newR room most).1 = true ∧ itemsR (newR room most).1 = [] ∧ ((newR room most).1.buf.length : Int) = room ∧ (newR room most).1.most = most ∧ (newR room most).1.many = 0 := by
  unfold newR at h ⊢
  split at h
  · rename_i hc
    rw [if_pos hc]
    have hmay : mayR ⟨List.replicate room.toNat (0, 0), 0, 0, most⟩ = true := (mayR_iff _).2 ⟨⟨by simp only; omega, by simp only; omega⟩, ⟨by simp only [List.length_replicate]; omega, by simp only [List.length_replicate]; omega⟩, ⟨by simp only; omega, by simp only [List.length_replicate]; omega⟩, by simp only; omega, by simp only [List.length_replicate]; omega⟩
    refine ⟨hmay, ?_, by simp only [List.length_replicate]; omega, rfl, rfl⟩
    unfold itemsR
    rw [if_pos hmay]
    rfl
  · cases h
end Go.Proofs.Ytkpjlobpaippdaa
