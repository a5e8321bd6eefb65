/- The plain mathematics of floats that are whole numbers: binary64 words of whole numbers below 2^53: sums, differences, products of them are exact. -/
import Derived.Laws.FloatArith
import Derived.Laws.ComplexArith
namespace Go.Proofs.YthnnmgjehpapiaaDoor.Fl
set_option linter.unusedVariables false
set_option linter.unusedSimpArgs false
open Ieee

/-- The rung of a whole number that is not 0. -/
def rung (k : Nat) : Nat := (k.log2 + 1022) * 2 ^ 52 + k * 2 ^ (52 - k.log2)
/-- The word of a whole number. -/
def fw (n : Int) : Nat := if n = 0 then 0 else double.word (decide (n < 0)) (rung n.natAbs)

theorem log2_bd (k : Nat) (hk : k ≠ 0) : 2 ^ k.log2 ≤ k ∧ k < 2 ^ (k.log2 + 1) := ⟨Nat.log2_self_le hk, Nat.lt_log2_self⟩
theorem log2_mul_pow (k : Nat) (hk : k ≠ 0) (j : Nat) : (k * 2 ^ j).log2 = k.log2 + j := by
  obtain ⟨a, b⟩ := log2_bd k hk
  refine (Nat.log2_eq_iff (Nat.mul_ne_zero hk (Nat.pos_iff_ne_zero.1 (Nat.two_pow_pos j)))).2 ⟨?_, ?_⟩
  · rw [Nat.pow_add]; exact Nat.mul_le_mul_right _ a
  · rw [show k.log2 + j + 1 = (k.log2 + 1) + j by omega, Nat.pow_add]; exact Nat.mul_lt_mul_of_pos_right b (Nat.two_pow_pos _)
theorem log2_le {k : Nat} (hk : k ≠ 0) (h : k < 2 ^ 53) : k.log2 ≤ 52 := by
  have := (Nat.log2_lt hk).2 h
  omega
theorem sig_bd {k : Nat} (hk : k ≠ 0) (h : k < 2 ^ 53) : 2 ^ 52 ≤ k * 2 ^ (52 - k.log2) ∧ k * 2 ^ (52 - k.log2) < 2 ^ 53 := by
  have hl := log2_le hk h
  obtain ⟨a, b⟩ := log2_bd k hk
  constructor
  · calc 2 ^ 52 = 2 ^ k.log2 * 2 ^ (52 - k.log2) := by rw [← Nat.pow_add]; congr 1; omega
      _ ≤ _ := Nat.mul_le_mul_right _ a
  · calc k * 2 ^ (52 - k.log2) < 2 ^ (k.log2 + 1) * 2 ^ (52 - k.log2) := Nat.mul_lt_mul_of_pos_right b (Nat.two_pow_pos _)
      _ = 2 ^ 53 := by rw [← Nat.pow_add]; congr 1; omega
theorem cut_exact (way : Toward) (hw : way = .even ∨ way = .zero) (neg : Bool) {low : Nat} (hl : low ≠ 0) (drop : Nat) : way.cut neg (low * 2 ^ drop) drop = low := by
  have hd : min drop ((low * 2 ^ drop).log2 + 2) = drop := by rw [log2_mul_pow low hl]; omega
  have hp : 0 < 2 ^ drop := Nat.two_pow_pos _
  unfold Toward.cut
  simp only [hd, Nat.one_shiftLeft, Nat.mul_mod_left, Nat.mul_div_cancel _ hp]
  rcases hw with rfl | rfl
  · have : ¬ (2 ^ drop = 0) := by omega
    simp [this]
  · simp
theorem nearest_val (neg : Bool) {k : Nat} (hk : k ≠ 0) (h : k < 2 ^ 53) (j : Nat) : double.nearest neg (k * 2 ^ j) (-(j : Int)) = double.word neg (rung k) := by
  have hl := log2_le hk h
  obtain ⟨s0, s1⟩ := sig_bd hk h
  have hm : k * 2 ^ j ≠ 0 := Nat.mul_ne_zero hk (Nat.pos_iff_ne_zero.1 (Nat.two_pow_pos j))
  have hlast : max (-(j : Int) + (k * 2 ^ j).log2 - double.fractionBits) double.leastPlace = (k.log2 : Int) - 52 := by
    rw [log2_mul_pow k hk]
    show max (-(j : Int) + (k.log2 + j : Nat) - 52) (-1074) = (k.log2 : Int) - 52
    omega
  have hup : (k * 2 ^ j) <<< (-(j : Int) - ((k.log2 : Int) - 52)).toNat = (k * 2 ^ (52 - k.log2)) * 2 ^ ((k.log2 : Int) - 52 - -(j : Int)).toNat := by
    rw [Nat.shiftLeft_eq, Nat.mul_assoc, Nat.mul_assoc, ← Nat.pow_add, ← Nat.pow_add]
    congr 2
    omega
  unfold Format.nearest
  rw [if_neg hm]
  simp only [hlast, hup]
  rw [cut_exact .even (.inl rfl) neg (by omega)]
  congr 1
  show min (((k.log2 : Int) - 52 - -1074).toNat * 2 ^ 52 + k * 2 ^ (52 - k.log2)) (2047 * 2 ^ 52) = rung k
  unfold rung
  rw [show ((k.log2 : Int) - 52 - -1074).toNat = k.log2 + 1022 by omega]
  generalize k * 2 ^ (52 - k.log2) = s at *
  omega
theorem read_word (neg : Bool) {k : Nat} (hk : k ≠ 0) (h : k < 2 ^ 53) : double.read (double.word neg (rung k)) = .number neg (k * 2 ^ (52 - k.log2)) (-((52 - k.log2 : Nat) : Int)) := by
  have hl := log2_le hk h
  obtain ⟨s0, s1⟩ := sig_bd hk h
  have hr : rung k = (k.log2 + 1022) * 2 ^ 52 + k * 2 ^ (52 - k.log2) := rfl
  generalize k * 2 ^ (52 - k.log2) = s at *
  have hw : double.word neg (rung k) / double.signWeight % 2 = (if neg then 1 else 0) ∧ double.word neg (rung k) % double.signWeight = rung k := by
    show (if neg then 2 ^ 63 + rung k else rung k) / 2 ^ 63 % 2 = _ ∧ (if neg then 2 ^ 63 + rung k else rung k) % 2 ^ 63 = rung k
    cases neg <;> simp only [Bool.false_eq_true, if_false, if_true] <;> omega
  unfold Format.read
  simp only [hw.1, hw.2]
  have hb : double.binade = 2 ^ 52 := rfl
  have hi : double.infRung = 2047 * 2 ^ 52 := rfl
  have hp : double.leastPlace = -1074 := rfl
  rw [hb, hi, hp, if_neg (by omega), if_pos (by omega)]
  have e1 : 2 ^ 52 + rung k % 2 ^ 52 = s := by omega
  have e2 : (-1074 : Int) + ((rung k / 2 ^ 52 - 1 : Nat) : Int) = -((52 - k.log2 : Nat) : Int) := by omega
  rw [e1, e2]
  cases neg <;> rfl

/-- A datum that is a whole number (a zero's sign left open). -/
def Is0 (d : Datum) (n : Int) : Prop := ∃ s m j, d = .number s m (-(j : Nat)) ∧ signed s m 0 = n * 2 ^ j
/-- A datum that is a whole number; no zero is negative. -/
def Is (d : Datum) (n : Int) : Prop := ∃ s m j, d = .number s m (-(j : Nat)) ∧ signed s m 0 = n * 2 ^ j ∧ (m = 0 → s = false)
theorem Is.to0 {d : Datum} {n : Int} (h : Is d n) : Is0 d n := by obtain ⟨s, m, j, e, h, _⟩ := h; exact ⟨s, m, j, e, h⟩
theorem signed0 (s : Bool) (m : Nat) : signed s m 0 = if s then -(m : Int) else m := by unfold signed; simp
theorem signed_up (s : Bool) (m u : Nat) : signed s m u = signed s m 0 * 2 ^ u := by
  unfold signed
  cases s <;> simp [Nat.shiftLeft_eq, Int.neg_mul]
theorem pow_pos (j : Nat) : (0 : Int) < 2 ^ j := Int.pow_pos (by decide)

theorem read_is {n : Int} (h : n.natAbs < 2 ^ 53) : Is (double.read (fw n)) n := by
  unfold fw
  by_cases h0 : n = 0
  · subst h0
    exact ⟨false, 0, 1074, rfl, (Int.zero_mul _).symm, fun _ => rfl⟩
  · rw [if_neg h0, read_word _ (by omega) h]
    refine ⟨_, _, _, rfl, ?_, fun hz => absurd hz (Nat.mul_ne_zero (by omega) (Nat.pos_iff_ne_zero.1 (Nat.two_pow_pos _)))⟩
    generalize 52 - n.natAbs.log2 = j
    rw [signed0]
    have e : ((n.natAbs * 2 ^ j : Nat) : Int) = (n.natAbs : Int) * 2 ^ j := by simp
    rw [e]
    by_cases hn : n < 0
    · rw [decide_eq_true hn, if_pos rfl, ← Int.neg_mul]; congr 1; omega
    · rw [decide_eq_false hn, if_neg (by decide)]; congr 1; omega
theorem write_is {d : Datum} {n : Int} (hd : Is d n) (h : n.natAbs < 2 ^ 53) : double.write d = fw n := by
  obtain ⟨s, m, j, rfl, hs, hz⟩ := hd
  have hp := pow_pos j
  rw [signed0] at hs
  show double.nearest s m (-(j : Nat)) = fw n
  unfold fw
  by_cases h0 : n = 0
  · subst h0
    have hm : m = 0 := by cases s <;> simp at hs <;> omega
    rw [if_pos rfl, hm, hz hm]; rfl
  · rw [if_neg h0]
    have hm : m = n.natAbs * 2 ^ j ∧ s = decide (n < 0) := by
      cases s
      · simp only [Bool.false_eq_true, if_false] at hs
        have hn : ¬ n < 0 := fun hn => by
          have := Int.mul_neg_of_neg_of_pos hn hp
          omega
        refine ⟨?_, by simp [hn]⟩
        apply Int.ofNat_inj.1
        rw [hs, Int.natCast_mul, Int.natCast_pow, Int.natAbs_of_nonneg (by omega)]; rfl
      · simp only [if_true] at hs
        have hn : n < 0 := by
          rcases Int.lt_trichotomy n 0 with h | h | h
          · exact h
          · exact absurd h h0
          · have := Int.mul_pos h hp
            omega
        refine ⟨?_, by simp [hn]⟩
        apply Int.ofNat_inj.1
        have : (m : Int) = -n * 2 ^ j := by rw [Int.neg_mul]; omega
        rw [this, Int.natCast_mul, Int.natCast_pow, show ((n.natAbs : Nat) : Int) = -n by omega]; rfl
    rw [hm.1, hm.2]
    exact nearest_val _ (by omega) h j
theorem sum_is {d e : Datum} {a b : Int} (hd : Is d a) (he : Is0 e b) : ∃ r, d.sum e = some r ∧ Is r (a + b) := by
  obtain ⟨s, m, i, rfl, hs, hz⟩ := hd
  obtain ⟨t, n, j, rfl, ht⟩ := he
  refine ⟨_, rfl, ?_⟩
  have hbase : min (-(i : Int)) (-(j : Int)) = -((max i j : Nat) : Int) := by omega
  rw [hbase]
  have h1 : signed s m (-(i : Int) - -((max i j : Nat) : Int)).toNat = a * 2 ^ (max i j) := by
    rw [signed_up, hs, Int.mul_assoc, ← Int.pow_add]; congr 2; omega
  have h2 : signed t n (-(j : Int) - -((max i j : Nat) : Int)).toNat = b * 2 ^ (max i j) := by
    rw [signed_up, ht, Int.mul_assoc, ← Int.pow_add]; congr 2; omega
  rw [h1, h2, ← Int.add_mul]
  refine ⟨_, _, _, rfl, ?_, ?_⟩
  · rw [signed0]
    generalize (a + b) * 2 ^ (max i j) = v
    by_cases hv : v = 0
    · subst hv; simp
    · rw [if_neg hv]
      by_cases hn : v < 0
      · rw [decide_eq_true hn, if_pos rfl]; omega
      · rw [decide_eq_false hn, if_neg (by decide)]; omega
  · intro hv
    have hv0 : (a + b) * 2 ^ (max i j) = 0 := by omega
    rw [if_pos hv0]
    have hab : a + b = 0 := by
      rcases Int.mul_eq_zero.1 hv0 with h | h
      · exact h
      · have := pow_pos (max i j); omega
    cases s
    · rfl
    · cases t
      · rfl
      · exfalso
        rw [signed0, if_pos rfl] at hs ht
        have pi := pow_pos i
        have pj := pow_pos j
        have hm : m ≠ 0 := fun h => by cases hz h
        have ha : a < 0 := by
          rcases (show a < 0 ∨ 0 ≤ a by omega) with h | h
          · exact h
          · have := Int.mul_nonneg h (Int.le_of_lt pi); omega
        have hb : b ≤ 0 := by
          rcases (show 0 < b ∨ b ≤ 0 by omega) with h | h
          · have := Int.mul_pos h pj; omega
          · exact h
        omega
theorem opp_is {d : Datum} {n : Int} (h : Is d n) : Is0 d.opposite (-n) := by
  obtain ⟨s, m, j, rfl, hs, _⟩ := h
  refine ⟨!s, m, j, rfl, ?_⟩
  rw [signed0] at *
  rw [Int.neg_mul, ← hs]
  cases s <;> simp
theorem product_is {d e : Datum} {a b : Int} (hd : Is d a) (he : Is e b) (ha : 0 ≤ a) (hb : 0 ≤ b) : ∃ r, d.product e = some r ∧ Is r (a * b) := by
  obtain ⟨s, m, i, rfl, hs, hz⟩ := hd
  obtain ⟨t, n, j, rfl, ht, hz'⟩ := he
  have sf : ∀ {s : Bool} {m i : Nat} {a : Int}, 0 ≤ a → signed s m 0 = a * 2 ^ i → (m = 0 → s = false) → s = false ∧ (m : Int) = a * 2 ^ i := fun {s m i a} ha hs hz => by
    rw [signed0] at hs
    have p := Int.mul_nonneg ha (Int.le_of_lt (pow_pos i))
    cases s
    · exact ⟨rfl, by simpa using hs⟩
    · rw [if_pos rfl] at hs
      have : m = 0 := by omega
      cases hz this
  obtain ⟨rfl, hm⟩ := sf ha hs hz
  obtain ⟨rfl, hn⟩ := sf hb ht hz'
  refine ⟨_, rfl, false, m * n, i + j, ?_, ?_, fun _ => rfl⟩
  · show Datum.number (false ^^ false) (m * n) (-(i : Int) + -(j : Int)) = _
    rw [show (-(i : Int) + -(j : Int)) = -((i + j : Nat) : Int) by omega]; rfl
  · rw [signed0, if_neg (by decide), show ((m * n : Nat) : Int) = (m : Int) * n by simp, hm, hn, Int.pow_add]
    grind
theorem int_is {d : Datum} {n : Int} (h : Is0 d n) : d.toInt .zero = some n := by
  obtain ⟨s, m, j, rfl, hs⟩ := h
  have hp := pow_pos j
  show some (signed s (Toward.zero.cut s (m <<< (-(j : Int)).toNat) (- -(j : Int)).toNat) 0) = some n
  rw [show (-(j : Int)).toNat = 0 by omega, show (- -(j : Int)).toNat = j by omega, Nat.shiftLeft_zero]
  rw [signed0] at *
  congr 1
  by_cases hm : m = 0
  · subst hm
    have h0 : n * 2 ^ j = 0 := by cases s <;> simp at hs <;> omega
    have hn : n = 0 := by
      rcases Int.mul_eq_zero.1 h0 with h | h
      · exact h
      · omega
    subst hn
    have : Toward.zero.cut s 0 j = 0 := by unfold Toward.cut; simp
    rw [this]; simp
  · have hnn : m = n.natAbs * 2 ^ j := by
      have := congrArg Int.natAbs hs
      rw [Int.natAbs_mul, Int.natAbs_pow] at this
      have h2 : (if s = true then -(m : Int) else m).natAbs = m := by cases s <;> simp
      rw [h2] at this
      exact this
    have hn0 : n.natAbs ≠ 0 := fun h => hm (by rw [hnn, h, Nat.zero_mul])
    rw [hnn, cut_exact .zero (.inr rfl) s hn0 j]
    cases s
    · simp only [Bool.false_eq_true, if_false] at hs ⊢
      rcases (show n < 0 ∨ 0 ≤ n by omega) with h | h
      · have := Int.mul_neg_of_neg_of_pos h hp; omega
      · omega
    · simp only [if_true] at hs ⊢
      rcases (show 0 < n ∨ n ≤ 0 by omega) with h | h
      · have := Int.mul_pos h hp; omega
      · omega

/-! ### As the model's operations have them -/
theorem of_int {n : Int} (h : n.natAbs < 2 ^ 53) : floatOfInt .f64 n = fw n := by
  refine write_is (d := .number (n < 0) n.natAbs 0) ⟨_, _, 0, rfl, ?_, fun hz => ?_⟩ h
  · rw [signed0]
    by_cases hn : n < 0
    · rw [decide_eq_true hn, if_pos rfl]; omega
    · rw [decide_eq_false hn, if_neg (by decide)]; omega
  · exact decide_eq_false (by omega)
theorem add_bits {a b : Int} (ha : a.natAbs < 2 ^ 52) (hb : b.natAbs < 2 ^ 52) : floatBits .add .f64 (fw a) (fw b) = some (fw (a + b)) := by
  obtain ⟨r, hr, hi⟩ := sum_is (read_is (n := a) (by omega)) (read_is (n := b) (by omega)).to0
  show ((double.read (fw a)).sum (double.read (fw b))).map double.write = _
  rw [hr, Option.map_some, write_is hi (by omega)]
theorem sub_bits {a b : Int} (ha : a.natAbs < 2 ^ 52) (hb : b.natAbs < 2 ^ 52) : floatBits .sub .f64 (fw a) (fw b) = some (fw (a - b)) := by
  obtain ⟨r, hr, hi⟩ := sum_is (read_is (n := a) (by omega)) (opp_is (read_is (n := b) (by omega)))
  show ((double.read (fw a)).sum (double.read (fw b)).opposite).map double.write = _
  rw [hr, Option.map_some, write_is hi (by omega), Int.sub_eq_add_neg]
theorem mul_bits {a b : Int} (ha : 0 ≤ a) (hb : 0 ≤ b) (h : (a * b).natAbs < 2 ^ 53) (ha1 : a.natAbs < 2 ^ 53) (hb1 : b.natAbs < 2 ^ 53) : floatBits .mul .f64 (fw a) (fw b) = some (fw (a * b)) := by
  obtain ⟨r, hr, hi⟩ := product_is (read_is ha1) (read_is hb1) ha hb
  show ((double.read (fw a)).product (double.read (fw b))).map double.write = _
  rw [hr, Option.map_some, write_is hi h]
theorem to_int {n : Int} (h : n.natAbs < 2 ^ 53) : floatToIntVal .f64 (fw n) .i64 = some n := by
  unfold floatToIntVal
  show (match (double.read (fw n)).toInt .zero with | some n => _ | none => _) = _
  rw [int_is (read_is h).to0]
  have hm : (IntKind.min .i64) = -9223372036854775808 := rfl
  have hM : (IntKind.max .i64) = 9223372036854775807 := rfl
  simp only [hm, hM]
  rw [if_pos (by omega)]
theorem neg_int_nat : ∀ n, n < 251 → floatToIntVal .f64 (Op.negFloat .f64 (fw (n : Nat))) .i64 = some (-(n : Int)) := by decide +kernel
theorem neg_int {n : Int} (h0 : 0 ≤ n) (h1 : n < 251) : floatToIntVal .f64 (Op.negFloat .f64 (fw n)) .i64 = some (-n) := by
  obtain ⟨m, rfl⟩ := Int.eq_ofNat_of_zero_le h0
  exact neg_int_nat m (by omega)
/-- Whether it is 0: as '==' tells. -/
theorem zero_nat : ∀ n, n < 251 → (FloatKind.format .f64).order (fw (n : Nat)) 0 = some (if n = 0 then .eq else .gt) := by decide +kernel
theorem zero_is {n : Int} (h0 : 0 ≤ n) (h1 : n < 251) : ((FloatKind.format .f64).order (fw n) 0 == some .eq) = decide (n = 0) := by
  obtain ⟨m, rfl⟩ := Int.eq_ofNat_of_zero_le h0
  rw [zero_nat m (by omega)]
  by_cases h : m = 0
  · subst h; rfl
  · rw [if_neg h, decide_eq_false (by omega)]; rfl
theorem c_sum {op : BinOp} {a b c d x y : Int} (h1 : floatBits op .f64 (fw a) (fw c) = some (fw x)) (h2 : floatBits op .f64 (fw b) (fw d) = some (fw y)) : cSumBits op .f64 (fw a) (fw b) (fw c) (fw d) = some (fw x, fw y) := by
  simp [cSumBits, h1, h2]
theorem mul_bd {a b : Int} (ha : 0 ≤ a) (hb : 0 ≤ b) (ha1 : a < 251) (hb1 : b < 251) : 0 ≤ a * b ∧ a * b ≤ 62500 := by
  refine ⟨Int.mul_nonneg ha hb, ?_⟩
  have := Int.mul_le_mul (show a ≤ 250 by omega) (show b ≤ 250 by omega) hb (by decide)
  omega
theorem c_mul {a b c d : Int} (ha : 0 ≤ a ∧ a < 251) (hb : 0 ≤ b ∧ b < 251) (hc : 0 ≤ c ∧ c < 251) (hd : 0 ≤ d ∧ d < 251) :
    cMulBits (fw a) (fw b) (fw c) (fw d) = some (fw (a * c - b * d), fw (a * d + b * c)) := by
  have m1 := mul_bd ha.1 hc.1 ha.2 hc.2
  have m2 := mul_bd hb.1 hd.1 hb.2 hd.2
  have m3 := mul_bd ha.1 hd.1 ha.2 hd.2
  have m4 := mul_bd hb.1 hc.1 hb.2 hc.2
  unfold cMulBits
  rw [mul_bits ha.1 hc.1 (by omega) (by omega) (by omega), mul_bits hb.1 hd.1 (by omega) (by omega) (by omega), mul_bits ha.1 hd.1 (by omega) (by omega) (by omega), mul_bits hb.1 hc.1 (by omega) (by omega) (by omega)]
  simp only [Option.bind_some]
  rw [sub_bits (by omega) (by omega), add_bits (by omega) (by omega)]
  rfl
end Go.Proofs.YthnnmgjehpapiaaDoor.Fl
