/- Layer 11, plain: what the laws of rings say. -/
import Derived.Test.YthmnaclmbglkdaaNp
namespace Go.Proofs.Ythmnaclmbglkdaa
set_option linter.unusedVariables false
set_option linter.unusedSimpArgs false
open Go

/-- So many are popped. -/
def popN : Nat → Rng → Rng
  | 0, r => r
  | n + 1, r => (popR (popN n r)).1
theorem popN_ok {a : Rng} (h : mayR a = true) : ∀ (k : Nat) (_ : k ≤ (itemsR a).length), mayR (popN k a) = true ∧ itemsR (popN k a) = (itemsR a).take ((itemsR a).length - k) ∧ (popN k a).most = a.most ∧ (popN k a).buf = a.buf
  | 0, _ => ⟨h, by simp [popN], rfl, rfl⟩
  | k + 1, hk => by
    obtain ⟨q1, q2, q3, q4⟩ := popN_ok h k (by omega)
    have hl : (itemsR (popN k a)).length = (itemsR a).length - k := by rw [q2, List.length_take]; omega
    obtain ⟨p1, p2, p3, p4, p5, p6⟩ := pop_ok q1 (by omega)
    refine ⟨p1, ?_, p5.trans q3, p6.trans q4⟩
    show itemsR (popR (popN k a)).1 = _
    rw [p2, q2, List.dropLast_eq_take, List.length_take, List.take_take]
    congr 1
    omega
theorem popN_at {a : Rng} (h : mayR a = true) {k : Nat} (hk : k < (itemsR a).length) : (popR (popN k a)).2.1 = (itemsR a).getD ((itemsR a).length - 1 - k) (0, 0) ∧ (popR (popN k a)).2.2 = true := by
  obtain ⟨q1, q2, q3, q4⟩ := popN_ok h k (by omega)
  have hl : (itemsR (popN k a)).length = (itemsR a).length - k := by rw [q2, List.length_take]; omega
  obtain ⟨p1, p2, p3, p4, p5, p6⟩ := pop_ok q1 (by omega)
  refine ⟨?_, p4⟩
  rw [p3, hl, q2, List.getD_eq_getElem?_getD, List.getD_eq_getElem?_getD, List.getElem?_take, if_pos (by omega)]
  congr 2
  omega
/-- RingEnds: what was pushed is popped in the other order; then all is as it was. -/
theorem ends_pop {r : Rng} {l : List RefP} (h : mayR r = true) (hf : r.many + l.length ≤ r.most) : (∀ k, k < l.length → (popR (popN k (manyR r l))).2.1 = l.getD (l.length - 1 - k) (0, 0) ∧ (popR (popN k (manyR r l))).2.2 = true) ∧ itemsR (popN l.length (manyR r l)) = itemsR r := by
  obtain ⟨q1, q2, q3, q4, q5, q6⟩ := many_ok l h hf
  have hl : (itemsR (manyR r l)).length = (itemsR r).length + l.length := by rw [q2, List.length_append]
  refine ⟨fun k hk => ?_, ?_⟩
  · obtain ⟨e1, e2⟩ := popN_at q1 (k := k) (by omega)
    refine ⟨?_, e2⟩
    rw [e1, hl, q2, List.getD_eq_getElem?_getD, List.getD_eq_getElem?_getD, List.getElem?_append_right (by omega)]
    congr 2
    omega
  · obtain ⟨_, e, _⟩ := popN_ok q1 l.length (by omega)
    rw [e, hl, q2, List.take_append_of_le_length (by omega), List.take_of_length_le (by omega)]
/-- RingEnds: all are stolen in their order; then nothing is left. -/
theorem ends_steal {a : Rng} (h : mayR a = true) {k : Nat} (hk : k < (itemsR a).length) : (stealR (stealN k a)).2.1 = (itemsR a).getD k (0, 0) ∧ (stealR (stealN k a)).2.2 = true := by
  obtain ⟨q1, q2, q3, q4⟩ := stealN_ok k h (by omega)
  have h0 : 0 < (itemsR (stealN k a)).length := by rw [q2, List.length_drop]; omega
  obtain ⟨s1, s2, s3, _⟩ := steal_ok q1 h0
  refine ⟨?_, s3⟩
  rw [q2, List.drop_eq_getElem_cons hk] at s2
  rw [List.getD_eq_getElem?_getD, List.getElem?_eq_getElem hk]
  exact (List.cons.inj s2).1.symm
theorem ends_none {a : Rng} (h : mayR a = true) : (stealR (stealN (itemsR a).length a)).2.2 = false := by
  obtain ⟨q1, q2, q3, q4⟩ := stealN_ok (itemsR a).length h (Nat.le_refl _)
  rw [steal_no (by rw [q2, List.length_drop]; omega)]
/-- RingHalf: both halves are all. -/
theorem half_all {r : Rng} (h : mayR r = true) : itemsR (halfR r).1 = (itemsR r).drop (halfN r) ∧ (halfR r).2 ++ itemsR (halfR r).1 = itemsR r ∧ (halfR r).2.length = halfN r ∧ (itemsR (halfR r).1).length + halfN r = (itemsR r).length ∧ mayR (halfR r).1 = true := by
  have hn : halfN r ≤ (itemsR r).length := by unfold halfN; omega
  obtain ⟨q1, q2, q3, q4⟩ := stealN_ok (halfN r) h hn
  refine ⟨q2, ?_, ?_, ?_, q1⟩
  · show (itemsR r).take (halfN r) ++ itemsR (stealN (halfN r) r) = _
    rw [q2, List.take_append_drop]
  · show ((itemsR r).take (halfN r)).length = _
    rw [List.length_take]; omega
  · show (itemsR (stealN (halfN r) r)).length + halfN r = _
    rw [q2, List.length_drop]; omega
/-- RingRound: a ring with room does not grow. -/
theorem one_len {r : Rng} (h : mayR r = true) (hm : r.many < r.buf.length) (x : RefP) : (oneR r x).buf.length = r.buf.length := by
  have e : roomR r = r := if_neg (by omega)
  obtain ⟨p1, p2, p3⟩ := put_ok h hm x
  show (putR (roomR r) x).buf.length = _
  rw [e, p3]
theorem round_ok {r : Rng} {room : Nat} (h : mayR r = true) (h0 : itemsR r = []) (hb : r.buf.length = room) (ht : r.most = room) (hr : 1 ≤ room) (x : RefP) :
    pushR r [x] = (oneR r x, 0) ∧ mayR (oneR r x) = true ∧ (stealR (oneR r x)).2 = (x, true) ∧ mayR (stealR (oneR r x)).1 = true ∧ itemsR (stealR (oneR r x)).1 = [] ∧ (stealR (oneR r x)).1.buf.length = room ∧ (stealR (oneR r x)).1.most = room := by
  have hl := items_len h
  rw [h0] at hl
  have hm0 : r.many = 0 := by simpa using hl.symm
  have hlt : r.many < r.most := by omega
  obtain ⟨o1, o2, o3, o4, o5, o6⟩ := one_ok h hlt x
  rw [h0, List.nil_append] at o2
  obtain ⟨s1, s2, s3, s4, s5⟩ := steal_ok o1 (by rw [o2]; simp)
  rw [o2] at s2
  obtain ⟨e1, e2⟩ := List.cons.inj s2
  refine ⟨?_, o1, Prod.ext e1.symm s3, s1, e2.symm, ?_, by rw [s4, o4, ht]⟩
  · unfold pushR
    rw [if_neg (by rw [h]; decide), if_neg (by simp; omega)]
    rfl
  · rw [s5, one_len h (by omega), hb]
/-- RingParts: pushed as the first ones, and then the others. -/
theorem parts_all {r : Rng} {l : List RefP} {cut : Nat} (hc : cut ≤ l.length) (h : mayR r = true) :
    ((pushR r (l.take cut)).2 ≠ 0 → (pushR r l).2 = 110) ∧ ((pushR r (l.take cut)).2 = 0 → pushR (pushR r (l.take cut)).1 (l.drop cut) = ((if (pushR r l).2 = 0 then (pushR r l).1 else (pushR r (l.take cut)).1), (pushR r l).2)) := by
  have hlt : (l.take cut).length = cut := by rw [List.length_take]; omega
  have hld : (l.drop cut).length = l.length - cut := List.length_drop
  have hno : ¬ mayR r = false := by rw [h]; decide
  by_cases hf : r.most < r.many + (l.take cut).length
  · have e : pushR r (l.take cut) = (r, 110) := by unfold pushR; rw [if_neg hno, if_pos hf]
    rw [e]
    refine ⟨fun _ => ?_, fun e0 => by simp at e0⟩
    unfold pushR
    rw [if_neg hno, if_pos (by rw [hlt] at hf; omega)]
  · have e : pushR r (l.take cut) = (manyR r (l.take cut), 0) := by unfold pushR; rw [if_neg hno, if_neg hf]
    rw [e]
    refine ⟨fun e0 => absurd rfl e0, fun _ => ?_⟩
    obtain ⟨q1, q2, q3, q4, q5, q6⟩ := many_ok (l.take cut) h (by omega)
    have hno2 : ¬ mayR (manyR r (l.take cut)) = false := by rw [q1]; decide
    by_cases hf2 : r.most < r.many + l.length
    · have e2 : pushR r l = (r, 110) := by unfold pushR; rw [if_neg hno, if_pos hf2]
      rw [e2]
      simp only
      unfold pushR
      rw [if_neg hno2, if_pos (by rw [q3, q4, hlt, hld]; omega), if_neg (by decide)]
    · have e2 : pushR r l = (manyR r l, 0) := by unfold pushR; rw [if_neg hno, if_neg hf2]
      rw [e2]
      simp only
      unfold pushR
      rw [if_neg hno2, if_neg (by rw [q3, q4, hlt, hld]; omega), if_pos trivial, ← many_append, List.take_append_drop]
end Go.Proofs.Ythmnaclmbglkdaa
