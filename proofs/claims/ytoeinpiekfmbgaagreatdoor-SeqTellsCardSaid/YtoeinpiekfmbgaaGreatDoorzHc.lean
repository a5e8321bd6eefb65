/- Layer 4's code: remainders and parts, at every input. -/
import Derived.Test.YtoeinpiekfmbgaaGreatDoorRows
import Derived.Test.YtoeinpiekfmbgaaGreatDoorzGc
import Derived.Test.YtoeinpiekfmbgaaGreatDoorzGm
import Derived.Laws.FloatArith
import Derived.Laws.ComplexArith
import Derived.WalkKit
import Derived.ProofKit
import Derived.WalkLawsBesides
import Derived.Lib.Hide
import Derived.Handy
import Derived.BigQuiet
import Derived.OpenShut
import Derived.Lib.SmallJoins
namespace Go.Proofs.YtoeinpiekfmbgaaGreatDoor
set_option linter.unusedVariables false
set_option linter.unusedSimpArgs false
open Go.RowKit Go.ChangeShapes Go.WideShapes Go.ChangeAt Gm

/-- What the language's % leaves. -/
theorem tmod_is (n : Int) : (0 ≤ n ∧ Int.tmod n 251 = n % 251) ∨ (n < 0 ∧ Int.tmod n 251 = -(-n % 251)) := by
  by_cases h : 0 ≤ n
  · exact .inl ⟨h, Int.tmod_eq_emod_of_nonneg h⟩
  · refine .inr ⟨by omega, ?_⟩
    have e : Int.tmod n 251 = -Int.tmod (-n) 251 := by rw [Int.neg_tmod]; omega
    rw [e, Int.tmod_eq_emod_of_nonneg (by omega)]
theorem tmod_neg (n : Int) (h : Int.tmod n 251 < 0) : Int.tmod n 251 + 251 = rs n := by unfold rs; rcases tmod_is n with ⟨h0, e⟩ | ⟨h0, e⟩ <;> omega
theorem tmod_pos (n : Int) (h : 0 ≤ Int.tmod n 251) : Int.tmod n 251 = rs n := by unfold rs; rcases tmod_is n with ⟨h0, e⟩ | ⟨h0, e⟩ <;> omega
theorem tmod_bd (n : Int) : -251 < Int.tmod n 251 ∧ Int.tmod n 251 < 251 := by rcases tmod_is n with ⟨h0, e⟩ | ⟨h0, e⟩ <;> omega

set_option maxHeartbeats 400000 in
theorem remainder_any (n : Int) (w : World) : Calls Tryz.prog 124 #[.int .i64 n] w fun e w' => e = .returned (.int .i64 (rs n)) ∧ w = w' := by
  have hbd := tmod_bd n
  by_cases h : Int.tmod n 251 < 0
  · have H1 := Lib.hid (tmod_neg n h)
    go_enter Tryz.func124, Tryz.ntmps124
    go_wp2_with fail
    go_ret
    exact ⟨ret_int H1.out, rfl⟩
  · have h' : 0 ≤ Int.tmod n 251 := by omega
    have H1 := Lib.hid (tmod_pos n h')
    go_enter Tryz.func124, Tryz.ntmps124
    go_wp2_with fail
    go_ret
    exact ⟨ret_int H1.out, rfl⟩
/-- What Of makes: a value of its own, its parts reduced. -/
theorem gof_any (a b : Int) (w : World) : Calls Tryz.prog 117 #[.int .i64 a, .int .i64 b] w fun e w' => e = .returned (.agg #[.int .i64 (rs a), .int .i64 (rs b)]) ∧ Below w.heap.size w w' := by
  have C := fun n W => Lib.hid (remainder_any n W)
  go_enter Tryz.func117, Tryz.ntmps117
  go_wp2_with (go_at_call 124; refine (C _ _).out.mono ?_; rintro e v ⟨rfl, rfl⟩)
  exact bodyPost_ret (v := .agg #[.int .i64 (rs a), .int .i64 (rs b)]) (by simp [results, Tryz.results117, go_sem]) rfl ⟨rfl, (Below.refl _ _).alloc (Nat.le_refl _) _⟩

end Go.Proofs.YtoeinpiekfmbgaaGreatDoor

/- The plain mathematics of floats that are whole numbers: binary64 words of whole numbers below 2^53: sums, differences, products of them are exact. -/
namespace Go.Proofs.YtoeinpiekfmbgaaGreatDoor.Fl
set_option linter.unusedVariables false
set_option linter.unusedSimpArgs false
open Ieee

/-- The rung of a whole number that is not 0. -/
def rung (k : Nat) : Nat := (k.log2 + 1022) * 2 ^ 52 + k * 2 ^ (52 - k.log2)
/-- The word of a whole number. -/
def fw (n : Int) : Nat := if n = 0 then 0 else double.word (decide (n < 0)) (rung n.natAbs)

theorem log2_bd (k : Nat) (hk : k ≠ 0) : 2 ^ k.log2 ≤ k ∧ k < 2 ^ (k.log2 + 1) := ⟨Nat.log2_self_le hk, Nat.lt_log2_self⟩
theorem log2_mul_pow (k : Nat) (hk : k ≠ 0) (j : Nat) : (k * 2 ^ j).log2 = k.log2 + j := by
  obtain ⟨a, b⟩ := log2_bd k hk
  refine (Nat.log2_eq_iff (Nat.mul_ne_zero hk (Nat.pos_iff_ne_zero.1 (Nat.two_pow_pos j)))).2 ⟨?_, ?_⟩
  · rw [Nat.pow_add]; exact Nat.mul_le_mul_right _ a
  · rw [show k.log2 + j + 1 = (k.log2 + 1) + j by omega, Nat.pow_add]; exact Nat.mul_lt_mul_of_pos_right b (Nat.two_pow_pos _)
theorem log2_le {k : Nat} (hk : k ≠ 0) (h : k < 2 ^ 53) : k.log2 ≤ 52 := by
  have := (Nat.log2_lt hk).2 h
  omega
theorem sig_bd {k : Nat} (hk : k ≠ 0) (h : k < 2 ^ 53) : 2 ^ 52 ≤ k * 2 ^ (52 - k.log2) ∧ k * 2 ^ (52 - k.log2) < 2 ^ 53 := by
  have hl := log2_le hk h
  obtain ⟨a, b⟩ := log2_bd k hk
  constructor
  · calc 2 ^ 52 = 2 ^ k.log2 * 2 ^ (52 - k.log2) := by rw [← Nat.pow_add]; congr 1; omega
      _ ≤ _ := Nat.mul_le_mul_right _ a
  · calc k * 2 ^ (52 - k.log2) < 2 ^ (k.log2 + 1) * 2 ^ (52 - k.log2) := Nat.mul_lt_mul_of_pos_right b (Nat.two_pow_pos _)
      _ = 2 ^ 53 := by rw [← Nat.pow_add]; congr 1; omega
theorem cut_exact (way : Toward) (hw : way = .even ∨ way = .zero) (neg : Bool) {low : Nat} (hl : low ≠ 0) (drop : Nat) : way.cut neg (low * 2 ^ drop) drop = low := by
  have hd : min drop ((low * 2 ^ drop).log2 + 2) = drop := by rw [log2_mul_pow low hl]; omega
  have hp : 0 < 2 ^ drop := Nat.two_pow_pos _
  unfold Toward.cut
  simp only [hd, Nat.one_shiftLeft, Nat.mul_mod_left, Nat.mul_div_cancel _ hp]
  rcases hw with rfl | rfl
  · have : ¬ (2 ^ drop = 0) := by omega
    simp [this]
  · simp
theorem nearest_val (neg : Bool) {k : Nat} (hk : k ≠ 0) (h : k < 2 ^ 53) (j : Nat) : double.nearest neg (k * 2 ^ j) (-(j : Int)) = double.word neg (rung k) := by
  have hl := log2_le hk h
  obtain ⟨s0, s1⟩ := sig_bd hk h
  have hm : k * 2 ^ j ≠ 0 := Nat.mul_ne_zero hk (Nat.pos_iff_ne_zero.1 (Nat.two_pow_pos j))
  have hlast : max (-(j : Int) + (k * 2 ^ j).log2 - double.fractionBits) double.leastPlace = (k.log2 : Int) - 52 := by
    rw [log2_mul_pow k hk]
    show max (-(j : Int) + (k.log2 + j : Nat) - 52) (-1074) = (k.log2 : Int) - 52
    omega
  have hup : (k * 2 ^ j) <<< (-(j : Int) - ((k.log2 : Int) - 52)).toNat = (k * 2 ^ (52 - k.log2)) * 2 ^ ((k.log2 : Int) - 52 - -(j : Int)).toNat := by
    rw [Nat.shiftLeft_eq, Nat.mul_assoc, Nat.mul_assoc, ← Nat.pow_add, ← Nat.pow_add]
    congr 2
    omega
  unfold Format.nearest
  rw [if_neg hm]
  simp only [hlast, hup]
  rw [cut_exact .even (.inl rfl) neg (by omega)]
  congr 1
  show min (((k.log2 : Int) - 52 - -1074).toNat * 2 ^ 52 + k * 2 ^ (52 - k.log2)) (2047 * 2 ^ 52) = rung k
  unfold rung
  rw [show ((k.log2 : Int) - 52 - -1074).toNat = k.log2 + 1022 by omega]
  generalize k * 2 ^ (52 - k.log2) = s at *
  omega
theorem read_word (neg : Bool) {k : Nat} (hk : k ≠ 0) (h : k < 2 ^ 53) : double.read (double.word neg (rung k)) = .number neg (k * 2 ^ (52 - k.log2)) (-((52 - k.log2 : Nat) : Int)) := by
  have hl := log2_le hk h
  obtain ⟨s0, s1⟩ := sig_bd hk h
  have hr : rung k = (k.log2 + 1022) * 2 ^ 52 + k * 2 ^ (52 - k.log2) := rfl
  generalize k * 2 ^ (52 - k.log2) = s at *
  have hw : double.word neg (rung k) / double.signWeight % 2 = (if neg then 1 else 0) ∧ double.word neg (rung k) % double.signWeight = rung k := by
    show (if neg then 2 ^ 63 + rung k else rung k) / 2 ^ 63 % 2 = _ ∧ (if neg then 2 ^ 63 + rung k else rung k) % 2 ^ 63 = rung k
    cases neg <;> simp only [Bool.false_eq_true, if_false, if_true] <;> omega
  unfold Format.read
  simp only [hw.1, hw.2]
  have hb : double.binade = 2 ^ 52 := rfl
  have hi : double.infRung = 2047 * 2 ^ 52 := rfl
  have hp : double.leastPlace = -1074 := rfl
  rw [hb, hi, hp, if_neg (by omega), if_pos (by omega)]
  have e1 : 2 ^ 52 + rung k % 2 ^ 52 = s := by omega
  have e2 : (-1074 : Int) + ((rung k / 2 ^ 52 - 1 : Nat) : Int) = -((52 - k.log2 : Nat) : Int) := by omega
  rw [e1, e2]
  cases neg <;> rfl

/-- A datum that is a whole number (a zero's sign left open). -/
def Is0 (d : Datum) (n : Int) : Prop := ∃ s m j, d = .number s m (-(j : Nat)) ∧ signed s m 0 = n * 2 ^ j
/-- A datum that is a whole number; no zero is negative. -/
def Is (d : Datum) (n : Int) : Prop := ∃ s m j, d = .number s m (-(j : Nat)) ∧ signed s m 0 = n * 2 ^ j ∧ (m = 0 → s = false)
theorem Is.to0 {d : Datum} {n : Int} (h : Is d n) : Is0 d n := by obtain ⟨s, m, j, e, h, _⟩ := h; exact ⟨s, m, j, e, h⟩
theorem signed0 (s : Bool) (m : Nat) : signed s m 0 = if s then -(m : Int) else m := by unfold signed; simp
theorem signed_up (s : Bool) (m u : Nat) : signed s m u = signed s m 0 * 2 ^ u := by
  unfold signed
  cases s <;> simp [Nat.shiftLeft_eq, Int.neg_mul]
theorem pow_pos (j : Nat) : (0 : Int) < 2 ^ j := Int.pow_pos (by decide)

theorem read_is {n : Int} (h : n.natAbs < 2 ^ 53) : Is (double.read (fw n)) n := by
  unfold fw
  by_cases h0 : n = 0
  · subst h0
    exact ⟨false, 0, 1074, rfl, (Int.zero_mul _).symm, fun _ => rfl⟩
  · rw [if_neg h0, read_word _ (by omega) h]
    refine ⟨_, _, _, rfl, ?_, fun hz => absurd hz (Nat.mul_ne_zero (by omega) (Nat.pos_iff_ne_zero.1 (Nat.two_pow_pos _)))⟩
    generalize 52 - n.natAbs.log2 = j
    rw [signed0]
    have e : ((n.natAbs * 2 ^ j : Nat) : Int) = (n.natAbs : Int) * 2 ^ j := by simp
    rw [e]
    by_cases hn : n < 0
    · rw [decide_eq_true hn, if_pos rfl, ← Int.neg_mul]; congr 1; omega
    · rw [decide_eq_false hn, if_neg (by decide)]; congr 1; omega
theorem write_is {d : Datum} {n : Int} (hd : Is d n) (h : n.natAbs < 2 ^ 53) : double.write d = fw n := by
  obtain ⟨s, m, j, rfl, hs, hz⟩ := hd
  have hp := pow_pos j
  rw [signed0] at hs
  show double.nearest s m (-(j : Nat)) = fw n
  unfold fw
  by_cases h0 : n = 0
  · subst h0
    have hm : m = 0 := by cases s <;> simp at hs <;> omega
    rw [if_pos rfl, hm, hz hm]; rfl
  · rw [if_neg h0]
    have hm : m = n.natAbs * 2 ^ j ∧ s = decide (n < 0) := by
      cases s
      · simp only [Bool.false_eq_true, if_false] at hs
        have hn : ¬ n < 0 := fun hn => by
          have := Int.mul_neg_of_neg_of_pos hn hp
          omega
        refine ⟨?_, by simp [hn]⟩
        apply Int.ofNat_inj.1
        rw [hs, Int.natCast_mul, Int.natCast_pow, Int.natAbs_of_nonneg (by omega)]; rfl
      · simp only [if_true] at hs
        have hn : n < 0 := by
          rcases Int.lt_trichotomy n 0 with h | h | h
          · exact h
          · exact absurd h h0
          · have := Int.mul_pos h hp
            omega
        refine ⟨?_, by simp [hn]⟩
        apply Int.ofNat_inj.1
        have : (m : Int) = -n * 2 ^ j := by rw [Int.neg_mul]; omega
        rw [this, Int.natCast_mul, Int.natCast_pow, show ((n.natAbs : Nat) : Int) = -n by omega]; rfl
    rw [hm.1, hm.2]
    exact nearest_val _ (by omega) h j
theorem sum_is {d e : Datum} {a b : Int} (hd : Is d a) (he : Is0 e b) : ∃ r, d.sum e = some r ∧ Is r (a + b) := by
  obtain ⟨s, m, i, rfl, hs, hz⟩ := hd
  obtain ⟨t, n, j, rfl, ht⟩ := he
  refine ⟨_, rfl, ?_⟩
  have hbase : min (-(i : Int)) (-(j : Int)) = -((max i j : Nat) : Int) := by omega
  rw [hbase]
  have h1 : signed s m (-(i : Int) - -((max i j : Nat) : Int)).toNat = a * 2 ^ (max i j) := by
    rw [signed_up, hs, Int.mul_assoc, ← Int.pow_add]; congr 2; omega
  have h2 : signed t n (-(j : Int) - -((max i j : Nat) : Int)).toNat = b * 2 ^ (max i j) := by
    rw [signed_up, ht, Int.mul_assoc, ← Int.pow_add]; congr 2; omega
  rw [h1, h2, ← Int.add_mul]
  refine ⟨_, _, _, rfl, ?_, ?_⟩
  · rw [signed0]
    generalize (a + b) * 2 ^ (max i j) = v
    by_cases hv : v = 0
    · subst hv; simp
    · rw [if_neg hv]
      by_cases hn : v < 0
      · rw [decide_eq_true hn, if_pos rfl]; omega
      · rw [decide_eq_false hn, if_neg (by decide)]; omega
  · intro hv
    have hv0 : (a + b) * 2 ^ (max i j) = 0 := by omega
    rw [if_pos hv0]
    have hab : a + b = 0 := by
      rcases Int.mul_eq_zero.1 hv0 with h | h
      · exact h
      · have := pow_pos (max i j); omega
    cases s
    · rfl
    · cases t
      · rfl
      · exfalso
        rw [signed0, if_pos rfl] at hs ht
        have pi := pow_pos i
        have pj := pow_pos j
        have hm : m ≠ 0 := fun h => by cases hz h
        have ha : a < 0 := by
          rcases (show a < 0 ∨ 0 ≤ a by omega) with h | h
          · exact h
          · have := Int.mul_nonneg h (Int.le_of_lt pi); omega
        have hb : b ≤ 0 := by
          rcases (show 0 < b ∨ b ≤ 0 by omega) with h | h
          · have := Int.mul_pos h pj; omega
          · exact h
        omega
theorem opp_is {d : Datum} {n : Int} (h : Is d n) : Is0 d.opposite (-n) := by
  obtain ⟨s, m, j, rfl, hs, _⟩ := h
  refine ⟨!s, m, j, rfl, ?_⟩
  rw [signed0] at *
  rw [Int.neg_mul, ← hs]
  cases s <;> simp
theorem product_is {d e : Datum} {a b : Int} (hd : Is d a) (he : Is e b) (ha : 0 ≤ a) (hb : 0 ≤ b) : ∃ r, d.product e = some r ∧ Is r (a * b) := by
  obtain ⟨s, m, i, rfl, hs, hz⟩ := hd
  obtain ⟨t, n, j, rfl, ht, hz'⟩ := he
  have sf : ∀ {s : Bool} {m i : Nat} {a : Int}, 0 ≤ a → signed s m 0 = a * 2 ^ i → (m = 0 → s = false) → s = false ∧ (m : Int) = a * 2 ^ i := fun {s m i a} ha hs hz => by
    rw [signed0] at hs
    have p := Int.mul_nonneg ha (Int.le_of_lt (pow_pos i))
    cases s
    · exact ⟨rfl, by simpa using hs⟩
    · rw [if_pos rfl] at hs
      have : m = 0 := by omega
      cases hz this
  obtain ⟨rfl, hm⟩ := sf ha hs hz
  obtain ⟨rfl, hn⟩ := sf hb ht hz'
  refine ⟨_, rfl, false, m * n, i + j, ?_, ?_, fun _ => rfl⟩
  · show Datum.number (false ^^ false) (m * n) (-(i : Int) + -(j : Int)) = _
    rw [show (-(i : Int) + -(j : Int)) = -((i + j : Nat) : Int) by omega]; rfl
  · rw [signed0, if_neg (by decide), show ((m * n : Nat) : Int) = (m : Int) * n by simp, hm, hn, Int.pow_add]
    grind
theorem int_is {d : Datum} {n : Int} (h : Is0 d n) : d.toInt .zero = some n := by
  obtain ⟨s, m, j, rfl, hs⟩ := h
  have hp := pow_pos j
  show some (signed s (Toward.zero.cut s (m <<< (-(j : Int)).toNat) (- -(j : Int)).toNat) 0) = some n
  rw [show (-(j : Int)).toNat = 0 by omega, show (- -(j : Int)).toNat = j by omega, Nat.shiftLeft_zero]
  rw [signed0] at *
  congr 1
  by_cases hm : m = 0
  · subst hm
    have h0 : n * 2 ^ j = 0 := by cases s <;> simp at hs <;> omega
    have hn : n = 0 := by
      rcases Int.mul_eq_zero.1 h0 with h | h
      · exact h
      · omega
    subst hn
    have : Toward.zero.cut s 0 j = 0 := by unfold Toward.cut; simp
    rw [this]; simp
  · have hnn : m = n.natAbs * 2 ^ j := by
      have := congrArg Int.natAbs hs
      rw [Int.natAbs_mul, Int.natAbs_pow] at this
      have h2 : (if s = true then -(m : Int) else m).natAbs = m := by cases s <;> simp
      rw [h2] at this
      exact this
    have hn0 : n.natAbs ≠ 0 := fun h => hm (by rw [hnn, h, Nat.zero_mul])
    rw [hnn, cut_exact .zero (.inr rfl) s hn0 j]
    cases s
    · simp only [Bool.false_eq_true, if_false] at hs ⊢
      rcases (show n < 0 ∨ 0 ≤ n by omega) with h | h
      · have := Int.mul_neg_of_neg_of_pos h hp; omega
      · omega
    · simp only [if_true] at hs ⊢
      rcases (show 0 < n ∨ n ≤ 0 by omega) with h | h
      · have := Int.mul_pos h hp; omega
      · omega

/-! ### As the model's operations have them -/
theorem of_int {n : Int} (h : n.natAbs < 2 ^ 53) : floatOfInt .f64 n = fw n := by
  refine write_is (d := .number (n < 0) n.natAbs 0) ⟨_, _, 0, rfl, ?_, fun hz => ?_⟩ h
  · rw [signed0]
    by_cases hn : n < 0
    · rw [decide_eq_true hn, if_pos rfl]; omega
    · rw [decide_eq_false hn, if_neg (by decide)]; omega
  · exact decide_eq_false (by omega)
theorem add_bits {a b : Int} (ha : a.natAbs < 2 ^ 52) (hb : b.natAbs < 2 ^ 52) : floatBits .add .f64 (fw a) (fw b) = some (fw (a + b)) := by
  obtain ⟨r, hr, hi⟩ := sum_is (read_is (n := a) (by omega)) (read_is (n := b) (by omega)).to0
  show ((double.read (fw a)).sum (double.read (fw b))).map double.write = _
  rw [hr, Option.map_some, write_is hi (by omega)]
theorem sub_bits {a b : Int} (ha : a.natAbs < 2 ^ 52) (hb : b.natAbs < 2 ^ 52) : floatBits .sub .f64 (fw a) (fw b) = some (fw (a - b)) := by
  obtain ⟨r, hr, hi⟩ := sum_is (read_is (n := a) (by omega)) (opp_is (read_is (n := b) (by omega)))
  show ((double.read (fw a)).sum (double.read (fw b)).opposite).map double.write = _
  rw [hr, Option.map_some, write_is hi (by omega), Int.sub_eq_add_neg]
theorem mul_bits {a b : Int} (ha : 0 ≤ a) (hb : 0 ≤ b) (h : (a * b).natAbs < 2 ^ 53) (ha1 : a.natAbs < 2 ^ 53) (hb1 : b.natAbs < 2 ^ 53) : floatBits .mul .f64 (fw a) (fw b) = some (fw (a * b)) := by
  obtain ⟨r, hr, hi⟩ := product_is (read_is ha1) (read_is hb1) ha hb
  show ((double.read (fw a)).product (double.read (fw b))).map double.write = _
  rw [hr, Option.map_some, write_is hi h]
theorem to_int {n : Int} (h : n.natAbs < 2 ^ 53) : floatToIntVal .f64 (fw n) .i64 = some n := by
  unfold floatToIntVal
  show (match (double.read (fw n)).toInt .zero with | some n => _ | none => _) = _
  rw [int_is (read_is h).to0]
  have hm : (IntKind.min .i64) = -9223372036854775808 := rfl
  have hM : (IntKind.max .i64) = 9223372036854775807 := rfl
  simp only [hm, hM]
  rw [if_pos (by omega)]
theorem neg_int_nat : ∀ n, n < 251 → floatToIntVal .f64 (Op.negFloat .f64 (fw (n : Nat))) .i64 = some (-(n : Int)) := by decide +kernel
theorem neg_int {n : Int} (h0 : 0 ≤ n) (h1 : n < 251) : floatToIntVal .f64 (Op.negFloat .f64 (fw n)) .i64 = some (-n) := by
  obtain ⟨m, rfl⟩ := Int.eq_ofNat_of_zero_le h0
  exact neg_int_nat m (by omega)
/-- Whether it is 0: as '==' tells. -/
theorem zero_nat : ∀ n, n < 251 → (FloatKind.format .f64).order (fw (n : Nat)) 0 = some (if n = 0 then .eq else .gt) := by decide +kernel
theorem zero_is {n : Int} (h0 : 0 ≤ n) (h1 : n < 251) : ((FloatKind.format .f64).order (fw n) 0 == some .eq) = decide (n = 0) := by
  obtain ⟨m, rfl⟩ := Int.eq_ofNat_of_zero_le h0
  rw [zero_nat m (by omega)]
  by_cases h : m = 0
  · subst h; rfl
  · rw [if_neg h, decide_eq_false (by omega)]; rfl
theorem c_sum {op : BinOp} {a b c d x y : Int} (h1 : floatBits op .f64 (fw a) (fw c) = some (fw x)) (h2 : floatBits op .f64 (fw b) (fw d) = some (fw y)) : cSumBits op .f64 (fw a) (fw b) (fw c) (fw d) = some (fw x, fw y) := by
  simp [cSumBits, h1, h2]
theorem mul_bd {a b : Int} (ha : 0 ≤ a) (hb : 0 ≤ b) (ha1 : a < 251) (hb1 : b < 251) : 0 ≤ a * b ∧ a * b ≤ 62500 := by
  refine ⟨Int.mul_nonneg ha hb, ?_⟩
  have := Int.mul_le_mul (show a ≤ 250 by omega) (show b ≤ 250 by omega) hb (by decide)
  omega
theorem c_mul {a b c d : Int} (ha : 0 ≤ a ∧ a < 251) (hb : 0 ≤ b ∧ b < 251) (hc : 0 ≤ c ∧ c < 251) (hd : 0 ≤ d ∧ d < 251) :
    cMulBits (fw a) (fw b) (fw c) (fw d) = some (fw (a * c - b * d), fw (a * d + b * c)) := by
  have m1 := mul_bd ha.1 hc.1 ha.2 hc.2
  have m2 := mul_bd hb.1 hd.1 hb.2 hd.2
  have m3 := mul_bd ha.1 hd.1 ha.2 hd.2
  have m4 := mul_bd hb.1 hc.1 hb.2 hc.2
  unfold cMulBits
  rw [mul_bits ha.1 hc.1 (by omega) (by omega) (by omega), mul_bits hb.1 hd.1 (by omega) (by omega) (by omega), mul_bits ha.1 hd.1 (by omega) (by omega) (by omega), mul_bits hb.1 hc.1 (by omega) (by omega) (by omega)]
  simp only [Option.bind_some]
  rw [sub_bits (by omega) (by omega), add_bits (by omega) (by omega)]
  rfl
end Go.Proofs.YtoeinpiekfmbgaaGreatDoor.Fl

/- Layer 4's code: remainders, parts, and values as complex numbers, at every input. -/
namespace Go.Proofs.YtoeinpiekfmbgaaGreatDoor
set_option linter.unusedVariables false
set_option linter.unusedSimpArgs false
open Go.RowKit Go.ChangeShapes Go.WideShapes Go.ChangeAt Gm Fl

set_option maxHeartbeats 400000 in
theorem number_any (a b : Int) (w : World) : Calls Tryz.prog 132 #[.agg #[.int .i64 a, .int .i64 b]] w fun e w' => e = .returned (.complex .f64 (fw (rs a)) (fw (rs b))) ∧ Below w.heap.size w w' := by
  have C := fun n m W => Lib.hid (gof_any n m W)
  have ra := rs_bd a
  have rb := rs_bd b
  have e1 : floatOfInt .f64 (rs a) = fw (rs a) := of_int (by omega)
  have e2 : floatOfInt .f64 (rs b) = fw (rs b) := of_int (by omega)
  go_enter Tryz.func132, Tryz.ntmps132
  go_wp2_with (go_at_call 117; refine (C _ _ _).out.mono ?_; rintro e v ⟨rfl, hb⟩; obtain ⟨hx, hw⟩ := one_laid (by simp) hb; have c0 := cell_at hx 0; have c1 := cell_at hx 1; have f0 := fz_at hx 0; have f1 := fz_at hx 1; have hz : w.heap.size < v.heap.size := by have := hb.size; simp at this; omega)
  go_ret
  exact ⟨rfl, (hw.setCell (by simp) _).setCell (by simp) _⟩
set_option maxHeartbeats 400000 in
theorem value_any {x y : Int} (f g : Nat) (h1 : floatToIntVal .f64 f .i64 = some x) (h2 : floatToIntVal .f64 g .i64 = some y) (w : World) : Calls Tryz.prog 133 #[.complex .f64 f g] w fun e w' => e = .returned (.agg #[.int .i64 (rs x), .int .i64 (rs y)]) ∧ Below w.heap.size w w' := by
  have C := fun n m W => Lib.hid (gof_any n m W)
  have k1 : ∀ w, (convert 171 3 (.float .f64 f)).run Tryz.prog w = .ok (.int .i64 x) w := fun w => run_convert_float_int w _ _ _ _ _ _ (by kernel_rfl) Tryz.underlying3 h1
  have k2 : ∀ w, (convert 171 3 (.float .f64 g)).run Tryz.prog w = .ok (.int .i64 y) w := fun w => run_convert_float_int w _ _ _ _ _ _ (by kernel_rfl) Tryz.underlying3 h2
  clear h1 h2
  go_enter Tryz.func133, Tryz.ntmps133
  go_wp2_with (go_at_call 117; refine (C _ _ _).out.mono ?_; rintro e v ⟨rfl, hb⟩; obtain ⟨hx, hw⟩ := one_laid (by simp) hb; have c0 := cell_at hx 0; have c1 := cell_at hx 1; have f0 := fz_at hx 0; have f1 := fz_at hx 1; have hz : w.heap.size < v.heap.size := by have := hb.size; simp at this; omega)
  have hx2 := set2 (x := .int .i64 (rs x)) (y := .int .i64 (rs y)) hx
  have hw2 : Below w.heap.size w ((v.setCell ⟨w.heap.size, 0, none⟩ (.int .i64 (rs x))).setCell ⟨w.heap.size, 1, none⟩ (.int .i64 (rs y))) := (hw.setCell (by simp) _).setCell (by simp) _
  generalize (v.setCell _ _).setCell _ _ = W2 at hx2 hw2 ⊢
  have d0 := cell_at hx2 0
  have d1 := cell_at hx2 1
  exact bodyPost_ret (v := .agg #[.int .i64 (rs x), .int .i64 (rs y)]) (by simp [results, Tryz.results133, go_sem, d0, d1]) rfl ⟨rfl, hw2⟩
end Go.Proofs.YtoeinpiekfmbgaaGreatDoor

/- Layer 4's code: sums, differences and products of values, and conjugates, at every input. -/
namespace Go.Proofs.YtoeinpiekfmbgaaGreatDoor
set_option linter.unusedVariables false
set_option linter.unusedSimpArgs false
open Go.RowKit Go.ChangeShapes Go.WideShapes Go.ChangeAt Gm Fl

theorem keep3 {w W W' : World} {g h k : Nat} {a b c d e f : Value} (hS : W.cell? ⟨g, 0, none⟩ = some a ∧ W.cell? ⟨g, 1, none⟩ = some b ∧ W.cell? ⟨h, 0, none⟩ = some c ∧ W.cell? ⟨h, 1, none⟩ = some d ∧
      W.cell? ⟨k, 0, none⟩ = some e ∧ W.cell? ⟨k, 1, none⟩ = some f ∧ W.frozen? ⟨k, 0, none⟩ = false ∧ W.frozen? ⟨k, 1, none⟩ = false ∧ Below w.heap.size w W) (hb : Below W.heap.size W W') :
    W'.cell? ⟨g, 0, none⟩ = some a ∧ W'.cell? ⟨g, 1, none⟩ = some b ∧ W'.cell? ⟨h, 0, none⟩ = some c ∧ W'.cell? ⟨h, 1, none⟩ = some d ∧
      W'.cell? ⟨k, 0, none⟩ = some e ∧ W'.cell? ⟨k, 1, none⟩ = some f ∧ W'.frozen? ⟨k, 0, none⟩ = false ∧ W'.frozen? ⟨k, 1, none⟩ = false ∧ Below w.heap.size w W' := by
  obtain ⟨h1, h2, h3, h4, h5, h6, h7, h8, h9⟩ := hS
  have l1 := block_lt_of_cell h1; have l3 := block_lt_of_cell h3; have l5 := block_lt_of_cell h5
  have l2 := block_lt_of_cell h2; have l4 := block_lt_of_cell h4; have l6 := block_lt_of_cell h6
  exact ⟨(hb.cell l1).trans h1, (hb.cell l2).trans h2, (hb.cell l3).trans h3, (hb.cell l4).trans h4, (hb.cell l5).trans h5, (hb.cell l6).trans h6, (hb.frozen l5).trans h7, (hb.frozen l6).trans h8, Below.step h9 hb⟩
theorem start3 (w : World) (t : TypeId) (a b c d e f : Value) (W : World) (hW : W = ((w.alloc (.cells #[a, b] t)).alloc (.cells #[c, d] t)).alloc (.cells #[e, f] t)) :
    W.cell? ⟨w.heap.size, 0, none⟩ = some a ∧ W.cell? ⟨w.heap.size, 1, none⟩ = some b ∧ W.cell? ⟨w.heap.size + 1, 0, none⟩ = some c ∧ W.cell? ⟨w.heap.size + 1, 1, none⟩ = some d ∧
      W.cell? ⟨w.heap.size + 1 + 1, 0, none⟩ = some e ∧ W.cell? ⟨w.heap.size + 1 + 1, 1, none⟩ = some f ∧ W.frozen? ⟨w.heap.size + 1 + 1, 0, none⟩ = false ∧ W.frozen? ⟨w.heap.size + 1 + 1, 1, none⟩ = false ∧ Below w.heap.size w W := by
  subst hW
  have h0 : (((w.alloc (.cells #[a, b] t)).alloc (.cells #[c, d] t)).alloc (.cells #[e, f] t)).heap[w.heap.size]? = some (.cells #[a, b] t (0, 0)) := by
    rw [Below.heap_alloc _ _ _ (by simp; omega), Below.heap_alloc _ _ _ (by simp)]; exact heap_alloc_last w _
  have h1 : (((w.alloc (.cells #[a, b] t)).alloc (.cells #[c, d] t)).alloc (.cells #[e, f] t)).heap[w.heap.size + 1]? = some (.cells #[c, d] t (0, 0)) := by
    rw [Below.heap_alloc _ _ _ (by simp)]
    have := heap_alloc_last (w.alloc (.cells #[a, b] t)) (.cells #[c, d] t)
    simpa using this
  have h2 : (((w.alloc (.cells #[a, b] t)).alloc (.cells #[c, d] t)).alloc (.cells #[e, f] t)).heap[w.heap.size + 1 + 1]? = some (.cells #[e, f] t (0, 0)) := by
    have := heap_alloc_last ((w.alloc (.cells #[a, b] t)).alloc (.cells #[c, d] t)) (.cells #[e, f] t)
    simpa using this
  exact ⟨cell_at h0 0, cell_at h0 1, cell_at h1 0, cell_at h1 1, cell_at h2 0, cell_at h2 1, fz_at h2 0, fz_at h2 1,
    (((Below.refl _ _).alloc (Nat.le_refl _) _).alloc (by simp) _).alloc (by simp; omega) _⟩

set_option maxHeartbeats 1000000 in
set_option maxRecDepth 100000 in
theorem add_any (a b c d : Int) (w : World) : Calls Tryz.prog 128 #[.agg #[.int .i64 a, .int .i64 b], .agg #[.int .i64 c, .int .i64 d]] w fun e w' =>
    e = .returned (.agg #[.int .i64 (gAdd (a, b) (c, d)).1, .int .i64 (gAdd (a, b) (c, d)).2]) ∧ Below w.heap.size w w' := by
  have C := fun n m W => Lib.hid (number_any n m W)
  have ra := rs_bd a
  have rb := rs_bd b
  have rc := rs_bd c
  have rd := rs_bd d
  have k1 : ∀ w, (binOp .add 168 (.complex .f64 (fw (rs a)) (fw (rs b))) (.complex .f64 (fw (rs c)) (fw (rs d)))).run Tryz.prog w = .ok (.complex .f64 (fw (rs a + rs c)) (fw (rs b + rs d))) w := fun w =>
    run_complex_sum w .add (.inl rfl) _ _ _ _ _ _ _ _ (c_sum (add_bits (by omega) (by omega)) (add_bits (by omega) (by omega)))
  have C2 := fun W => Lib.hid (value_any (fw (rs a + rs c)) (fw (rs b + rs d)) (to_int (by omega)) (to_int (by omega)) W)
  clear ra rb rc rd
  go_enter Tryz.func128, Tryz.ntmps128
  go_wp2_with fail
  have hS := start3 w 30 (.int .i64 a) (.int .i64 b) (.int .i64 c) (.int .i64 d) (.int .i64 0) (.int .i64 0) _ rfl
  generalize ((w.alloc _).alloc _).alloc _ = W0 at hS ⊢
  have HS := Lib.hid hS
  obtain ⟨c0, c1, c2, c3, _, _, _, _, _⟩ := hS
  have g0 := fun d os => cell_regrown c0 d os
  have g1 := fun d os => cell_regrown c1 d os
  have g2 := fun d os => cell_regrown c2 d os
  have g3 := fun d os => cell_regrown c3 d os
  clear c0 c1 c2 c3
  refine wp_region_below_tail 6 (by kernel_rfl) (by kernel_rfl) ?_
  simp only [List.take_succ_cons, List.take_zero, List.drop_succ_cons, List.drop_zero]
  repeat (first
    | go_big_quiet_step ((first
        | (go_at_call 132; (with_reducible exact Calls.regrown_of (C _ _ _).out))
        | (go_at_call 133; (with_reducible exact Calls.regrown_of (C2 _).out))))
    | quiet_step ((first
        | (go_at_call 132; (with_reducible exact Calls.regrown_of (C _ _ _).out))
        | (go_at_call 133; (with_reducible exact Calls.regrown_of (C2 _).out)))))
  refine wpQuiet_nil ?_
  intro v hv
  have hb := below_of_regrown hv
  clear hv g0 g1 g2 g3
  obtain ⟨_, _, _, _, c4, c5, f0, f1, hw⟩ := keep3 HS.out hb
  go_wp2_with fail
  obtain ⟨d0, d1⟩ := set2c (x := .int .i64 (rs (rs a + rs c))) (y := .int .i64 (rs (rs b + rs d))) c4 c5
  have hw2 := set2b (k := w.heap.size + 1 + 1) (x := .int .i64 (rs (rs a + rs c))) (y := .int .i64 (rs (rs b + rs d))) (by omega) hw
  generalize (v.setCell _ _).setCell _ _ = W2 at d0 d1 hw2 ⊢
  exact bodyPost_ret (v := .agg #[.int .i64 (rs (rs a + rs c)), .int .i64 (rs (rs b + rs d))]) (by simp [results, Tryz.results128, go_sem, d0, d1]) rfl ⟨rfl, hw2⟩

set_option maxHeartbeats 1000000 in
set_option maxRecDepth 100000 in
theorem sub_any (a b c d : Int) (w : World) : Calls Tryz.prog 129 #[.agg #[.int .i64 a, .int .i64 b], .agg #[.int .i64 c, .int .i64 d]] w fun e w' =>
    e = .returned (.agg #[.int .i64 (gSub (a, b) (c, d)).1, .int .i64 (gSub (a, b) (c, d)).2]) ∧ Below w.heap.size w w' := by
  have C := fun n m W => Lib.hid (number_any n m W)
  have ra := rs_bd a
  have rb := rs_bd b
  have rc := rs_bd c
  have rd := rs_bd d
  have k1 : ∀ w, (binOp .sub 168 (.complex .f64 (fw (rs a)) (fw (rs b))) (.complex .f64 (fw (rs c)) (fw (rs d)))).run Tryz.prog w = .ok (.complex .f64 (fw (rs a - rs c)) (fw (rs b - rs d))) w := fun w =>
    run_complex_sum w .sub (.inr rfl) _ _ _ _ _ _ _ _ (c_sum (sub_bits (by omega) (by omega)) (sub_bits (by omega) (by omega)))
  have C2 := fun W => Lib.hid (value_any (fw (rs a - rs c)) (fw (rs b - rs d)) (to_int (by omega)) (to_int (by omega)) W)
  clear ra rb rc rd
  go_enter Tryz.func129, Tryz.ntmps129
  go_wp2_with fail
  have hS := start3 w 30 (.int .i64 a) (.int .i64 b) (.int .i64 c) (.int .i64 d) (.int .i64 0) (.int .i64 0) _ rfl
  generalize ((w.alloc _).alloc _).alloc _ = W0 at hS ⊢
  have HS := Lib.hid hS
  obtain ⟨c0, c1, c2, c3, _, _, _, _, _⟩ := hS
  have g0 := fun d os => cell_regrown c0 d os
  have g1 := fun d os => cell_regrown c1 d os
  have g2 := fun d os => cell_regrown c2 d os
  have g3 := fun d os => cell_regrown c3 d os
  clear c0 c1 c2 c3
  refine wp_region_below_tail 6 (by kernel_rfl) (by kernel_rfl) ?_
  simp only [List.take_succ_cons, List.take_zero, List.drop_succ_cons, List.drop_zero]
  repeat (first
    | go_big_quiet_step ((first
        | (go_at_call 132; (with_reducible exact Calls.regrown_of (C _ _ _).out))
        | (go_at_call 133; (with_reducible exact Calls.regrown_of (C2 _).out))))
    | quiet_step ((first
        | (go_at_call 132; (with_reducible exact Calls.regrown_of (C _ _ _).out))
        | (go_at_call 133; (with_reducible exact Calls.regrown_of (C2 _).out)))))
  refine wpQuiet_nil ?_
  intro v hv
  have hb := below_of_regrown hv
  clear hv g0 g1 g2 g3
  obtain ⟨_, _, _, _, c4, c5, f0, f1, hw⟩ := keep3 HS.out hb
  go_wp2_with fail
  obtain ⟨d0, d1⟩ := set2c (x := .int .i64 (rs (rs a - rs c))) (y := .int .i64 (rs (rs b - rs d))) c4 c5
  have hw2 := set2b (k := w.heap.size + 1 + 1) (x := .int .i64 (rs (rs a - rs c))) (y := .int .i64 (rs (rs b - rs d))) (by omega) hw
  generalize (v.setCell _ _).setCell _ _ = W2 at d0 d1 hw2 ⊢
  exact bodyPost_ret (v := .agg #[.int .i64 (rs (rs a - rs c)), .int .i64 (rs (rs b - rs d))]) (by simp [results, Tryz.results129, go_sem, d0, d1]) rfl ⟨rfl, hw2⟩

set_option maxHeartbeats 1000000 in
set_option maxRecDepth 100000 in
theorem mul_any (a b c d : Int) (w : World) : Calls Tryz.prog 130 #[.agg #[.int .i64 a, .int .i64 b], .agg #[.int .i64 c, .int .i64 d]] w fun e w' =>
    e = .returned (.agg #[.int .i64 (gMul (a, b) (c, d)).1, .int .i64 (gMul (a, b) (c, d)).2]) ∧ Below w.heap.size w w' := by
  have C := fun n m W => Lib.hid (number_any n m W)
  have ra := rs_bd a
  have rb := rs_bd b
  have rc := rs_bd c
  have rd := rs_bd d
  have m1 := mul_bd ra.1 rc.1 ra.2 rc.2
  have m2 := mul_bd rb.1 rd.1 rb.2 rd.2
  have m3 := mul_bd ra.1 rd.1 ra.2 rd.2
  have m4 := mul_bd rb.1 rc.1 rb.2 rc.2
  have k1 : ∀ w, (binOp .mul 168 (.complex .f64 (fw (rs a)) (fw (rs b))) (.complex .f64 (fw (rs c)) (fw (rs d)))).run Tryz.prog w = .ok (.complex .f64 (fw (rs a * rs c - rs b * rs d)) (fw (rs a * rs d + rs b * rs c))) w := fun w =>
    run_complex_mul w _ _ _ _ _ _ _ (c_mul ra rb rc rd)
  have C2 := fun W => Lib.hid (value_any (fw (rs a * rs c - rs b * rs d)) (fw (rs a * rs d + rs b * rs c)) (to_int (by omega)) (to_int (by omega)) W)
  clear m1 m2 m3 m4
  clear ra rb rc rd
  go_enter Tryz.func130, Tryz.ntmps130
  go_wp2_with fail
  have hS := start3 w 30 (.int .i64 a) (.int .i64 b) (.int .i64 c) (.int .i64 d) (.int .i64 0) (.int .i64 0) _ rfl
  generalize ((w.alloc _).alloc _).alloc _ = W0 at hS ⊢
  have HS := Lib.hid hS
  obtain ⟨c0, c1, c2, c3, _, _, _, _, _⟩ := hS
  have g0 := fun d os => cell_regrown c0 d os
  have g1 := fun d os => cell_regrown c1 d os
  have g2 := fun d os => cell_regrown c2 d os
  have g3 := fun d os => cell_regrown c3 d os
  clear c0 c1 c2 c3
  refine wp_region_below_tail 6 (by kernel_rfl) (by kernel_rfl) ?_
  simp only [List.take_succ_cons, List.take_zero, List.drop_succ_cons, List.drop_zero]
  repeat (first
    | go_big_quiet_step ((first
        | (go_at_call 132; (with_reducible exact Calls.regrown_of (C _ _ _).out))
        | (go_at_call 133; (with_reducible exact Calls.regrown_of (C2 _).out))))
    | quiet_step ((first
        | (go_at_call 132; (with_reducible exact Calls.regrown_of (C _ _ _).out))
        | (go_at_call 133; (with_reducible exact Calls.regrown_of (C2 _).out)))))
  refine wpQuiet_nil ?_
  intro v hv
  have hb := below_of_regrown hv
  clear hv g0 g1 g2 g3
  obtain ⟨_, _, _, _, c4, c5, f0, f1, hw⟩ := keep3 HS.out hb
  go_wp2_with fail
  obtain ⟨d0, d1⟩ := set2c (x := .int .i64 (rs (rs a * rs c - rs b * rs d))) (y := .int .i64 (rs (rs a * rs d + rs b * rs c))) c4 c5
  have hw2 := set2b (k := w.heap.size + 1 + 1) (x := .int .i64 (rs (rs a * rs c - rs b * rs d))) (y := .int .i64 (rs (rs a * rs d + rs b * rs c))) (by omega) hw
  generalize (v.setCell _ _).setCell _ _ = W2 at d0 d1 hw2 ⊢
  exact bodyPost_ret (v := .agg #[.int .i64 (rs (rs a * rs c - rs b * rs d)), .int .i64 (rs (rs a * rs d + rs b * rs c))]) (by simp [results, Tryz.results130, go_sem, d0, d1]) rfl ⟨rfl, hw2⟩

end Go.Proofs.YtoeinpiekfmbgaaGreatDoor

/- Layer 4's code: conjugates, whether a value may be, quotients, powers, at every input. -/
namespace Go.Proofs.YtoeinpiekfmbgaaGreatDoor
set_option linter.unusedVariables false
set_option linter.unusedSimpArgs false
open Go.RowKit Go.ChangeShapes Go.WideShapes Go.ChangeAt Gm Fl

set_option maxHeartbeats 1000000 in
theorem maypart_any (n : Int) (w : World) : Calls Tryz.prog 41 #[.int .i64 n] w fun e w' => e = .returned (.bool (decide (0 ≤ n) && decide (n < 251))) ∧ w = w' := by
  by_cases h : 0 ≤ n
  · by_cases h' : n < 251
    all_goals
      go_enter Tryz.func41, Tryz.ntmps41
      go_wp2_with fail
      go_ret
      simp [h, h']
  · go_enter Tryz.func41, Tryz.ntmps41
    go_wp2_with fail
    go_ret
    exact ⟨by rw [decide_eq_false (by omega : ¬ 0 ≤ n)]; rfl, rfl⟩

set_option maxHeartbeats 1000000 in
theorem may_any (a b : Int) (w : World) : Calls Tryz.prog 23 #[.agg #[.int .i64 a, .int .i64 b]] w fun e w' => e = .returned (.bool (mayB a b)) ∧ Below w.heap.size w w' := by
  have C := fun n W => Lib.hid (maypart_any n W)
  go_enter Tryz.func23, Tryz.ntmps23
  go_wp2_with (go_at_call 41; refine (C _ _).out.mono ?_; rintro e v ⟨rfl, rfl⟩)
  · go_ret
    have hh : 0 ≤ a ∧ a < 251 := by assumption
    refine ⟨?_, (Below.refl _ _).alloc (Nat.le_refl _) _⟩
    rw [mayB, decide_eq_true hh.1, decide_eq_true hh.2]; simp
  · go_ret
    have hh : ¬(0 ≤ a ∧ a < 251) := by assumption
    refine ⟨?_, (Below.refl _ _).alloc (Nat.le_refl _) _⟩
    have : (decide (0 ≤ a) && decide (a < 251)) = false := by simpa using hh
    rw [mayB, this]; simp

set_option maxHeartbeats 1000000 in
theorem conj_any (a b : Int) (w : World) : Calls Tryz.prog 125 #[.agg #[.int .i64 a, .int .i64 b]] w fun e w' => e = .returned (.agg #[.int .i64 (gConj (a, b)).1, .int .i64 (gConj (a, b)).2]) ∧ Below w.heap.size w w' := by
  have C := fun n m W => Lib.hid (number_any n m W)
  have ra := rs_bd a
  have rb := rs_bd b
  have C2 := fun W => Lib.hid (value_any (fw (rs a)) (Op.negFloat .f64 (fw (rs b))) (to_int (by omega)) (neg_int rb.1 rb.2) W)
  clear ra rb
  have kn : ∀ w, (Op.unary .neg (.float .f64 (fw (rs b)))).run Tryz.prog w = .ok (.float .f64 (Op.negFloat .f64 (fw (rs b)))) w := fun w => rfl
  go_enter Tryz.func125, Tryz.ntmps125
  go_wp2_with (first
    | (go_at_call 132; refine (C _ _ _).out.mono ?_; rintro e v ⟨rfl, hb⟩; have hk := (Held.new1 w _ _ _).below hb; have hw := Below.step (below2 w _ _) hb; clear hb)
    | (go_at_call 133; refine (C2 _).out.mono ?_; rintro e v2 ⟨rfl, hb⟩; replace hk := hk.below hb; replace hw := Below.step hw hb; clear hb; obtain ⟨c0, c1, f0, f1⟩ := hk.two))
  replace hk := hk.set (.int .i64 (rs (rs a))) (.int .i64 (rs (-(rs b))))
  replace hw := set2b (k := w.heap.size + 1) (x := .int .i64 (rs (rs a))) (y := .int .i64 (rs (-(rs b)))) (by omega) hw
  generalize (v2.setCell _ _).setCell _ _ = W2 at hk hw ⊢
  obtain ⟨d0, d1, _, _⟩ := hk.two
  exact bodyPost_ret (v := .agg #[.int .i64 (rs (rs a)), .int .i64 (rs (-(rs b)))]) (by simp [results, Tryz.results125, go_sem, d0, d1]) rfl ⟨rfl, hw⟩
end Go.Proofs.YtoeinpiekfmbgaaGreatDoor

/- Layer 4's code: powers, quotients, at every input. -/
namespace Go.Proofs.YtoeinpiekfmbgaaGreatDoor
set_option linter.unusedVariables false
set_option linter.unusedSimpArgs false
open Go.RowKit Go.ChangeShapes Go.WideShapes Go.ChangeAt Gm Fl

theorem pow_sq (x : V) (k : Nat) : gPow (gMul x x) k = gPow x (2 * k) := by rw [mul_pow, ← pow_add, Nat.two_mul]
theorem step_odd {p x r : V} {m : Nat} (h : gMul p (gPow x m) = r) (hm : m % 2 = 1) : gMul (gMul p x) (gPow (gMul x x) (m / 2)) = r := by
  have e : gPow x m = gMul (gPow x (2 * (m / 2))) x := by
    conv => lhs; rw [show m = 2 * (m / 2) + 1 by omega]
    rfl
  rw [← h, pow_sq, mul_assoc, mul_comm x, e]
theorem step_even {p x r : V} {m : Nat} (h : gMul p (gPow x m) = r) (hm : m % 2 = 0) : gMul p (gPow (gMul x x) (m / 2)) = r := by
  rw [← h, pow_sq, show 2 * (m / 2) = m by omega]
theorem step_end {p x r : V} (h : gMul p (gPow x 0) = r) (hp : gMay p) : p = r := by
  rw [← h, gPow, mul_one, of_in hp]
theorem step_start (a : V) (n : Nat) : gMul gOne (gPow a n) = gPow a n := by rw [one_mul, of_in (pow_may a n)]

/-- What the loop keeps. -/
def PowR (w : World) (r : V) (n : Value) (wr : World) : Prop :=
  ∃ (m : Nat) (x y p q : Int), n = .int .i64 m ∧ m ≤ 9223372036854775807 ∧ Held wr w.heap.size 30 #[.int .i64 x, .int .i64 y] ∧ Held wr (w.heap.size + 1) 30 #[.int .i64 0, .int .i64 0] ∧
    Held wr (w.heap.size + 1 + 1) 30 #[.int .i64 p, .int .i64 q] ∧ Below w.heap.size w wr ∧ gMay (p, q) ∧ gMul (p, q) (gPow (x, y) m) = r

theorem par_odd {m : Nat} (h : m % 2 = 1) : ((m : Int) % 2 == 1) = true := by simp; omega
theorem par_even {m : Nat} (h : m % 2 = 0) : ((m : Int) % 2 == 1) = false := by simp; omega

set_option maxHeartbeats 1000000 in
set_option maxRecDepth 100000 in
theorem pow_nat (a b : Int) (n : Nat) (w : World) (hn : n ≤ 9223372036854775807) : Calls Tryz.prog 136 #[.agg #[.int .i64 a, .int .i64 b], .int .i64 n] w fun e w' =>
    e = .returned (.agg #[.int .i64 (gPow (a, b) n).1, .int .i64 (gPow (a, b) n).2]) ∧ Below w.heap.size w w' := by
  have C := fun x y z u W => Lib.hid (mul_any x y z u W)
  have hmy := pow_may (a, b) n
  have H0 : PowR w (gPow (a, b) n) (.int .i64 n) ((((w.alloc (.cells #[.int .i64 a, .int .i64 b] 30)).alloc (.cells #[.int .i64 0, .int .i64 0] 30)).alloc (.cells #[.int .i64 1, .int .i64 0] 30))) :=
    ⟨n, a, b, 1, 0, rfl, hn, ((Held.new w _ _).alloc _).alloc _, (Held.new1 w _ _ _).alloc _, Held.new2 w _ _ _ _, below3 w _ _ _, one_may, step_start (a, b) n⟩
  generalize gPow (a, b) n = r at *
  go_enter Tryz.func136, Tryz.ntmps136
  go_wp2_with fail
  go_loopw [1] (fun n wr => PowR w r n wr) (fun n _ => (intOf n).toNat)
  case atStart => exact H0
  case round =>
    obtain ⟨m, x, y, p, q, rfl, hm, hx, h1, h2, hw, hp, hr⟩ := hrel
    obtain ⟨c0, c1, f0, f1⟩ := hx.two
    obtain ⟨c2, c3, f2, f3⟩ := h2.two
    by_cases hm0 : m = 0
    · subst hm0
      have he := step_end hr hp
      obtain ⟨e0, e1, f4, f5⟩ := h1.two
      obtain rfl : p = r.1 := congrArg Prod.fst he
      obtain rfl : q = r.2 := congrArg Prod.snd he
      clear he hr hp
      go_wp2_with fail
      replace h1 := h1.set (.int .i64 r.1) (.int .i64 r.2)
      replace hw := set2b (k := w.heap.size + 1) (x := .int .i64 r.1) (y := .int .i64 r.2) (by omega) hw
      generalize (wr.setCell _ _).setCell _ _ = W2 at h1 hw ⊢
      obtain ⟨d0, d1, _, _⟩ := h1.two
      exact bodyPost_ret (v := .agg #[.int .i64 r.1, .int .i64 r.2]) (by simp [results, Tryz.results136, go_sem, d0, d1]) rfl ⟨rfl, hw⟩
    · rcases Nat.mod_two_eq_zero_or_one m with hpar | hpar
      · have HR := Lib.hid (step_even hr hpar)
        have hB := par_even hpar
        have hpos : 0 < m := by omega
        clear hr hpar hm0
        go_wp2_with (go_at_call 130; refine (C _ _ _ _ _).out.mono ?_; rintro e v ⟨rfl, hb⟩; replace hx := hx.below hb; replace h1 := h1.below hb; replace h2 := h2.below hb; replace hw := Below.step hw hb; clear hb c0 c1 c2 c3 f0 f1 f2 f3; obtain ⟨c0, c1, f0, f1⟩ := hx.two)
        go_roundw
        case rel => exact ⟨m / 2, _, _, p, q, by go_num, by omega, hx.set _ _, (h1.far (by omega) _ _).far (by omega) _ _, (h2.far (by omega) _ _).far (by omega) _ _, set2b (Nat.le_refl _) hw, hp, HR.out⟩
        case measure => simp [intOf]; omega
      · have HR := Lib.hid (step_odd hr hpar)
        have hB := par_odd hpar
        have hpos : 0 < m := by omega
        have hp2 := mul_may (p, q) (x, y)
        clear hr hpar hm0
        go_wp2_with (first
          | (go_at_call 130; (with_reducible refine (C p q x y _).out.mono ?_); rintro e v ⟨rfl, hb⟩; replace hx := hx.below hb; replace h1 := h1.below hb; replace h2 := h2.below hb; replace hw := Below.step hw hb; clear hb c0 c1 c2 c3 f0 f1 f2 f3; obtain ⟨c0, c1, f0, f1⟩ := hx.two; obtain ⟨c2, c3, f2, f3⟩ := h2.two)
          | (go_at_call 130; (with_reducible refine (C x y x y _).out.mono ?_); rintro e v2 ⟨rfl, hb⟩; replace hx := ((hx.far (by omega) _ _).far (by omega) _ _).below hb; replace h1 := ((h1.far (by omega) _ _).far (by omega) _ _).below hb; replace h2 := (h2.set _ _).below hb; replace hw := Below.step (set2b (by omega) hw) hb; clear hb c0 c1 c2 c3 f0 f1 f2 f3; obtain ⟨c0, c1, f0, f1⟩ := hx.two))
        go_roundw
        case rel => exact ⟨m / 2, _, _, _, _, by go_num, by omega, hx.set _ _, (h1.far (by omega) _ _).far (by omega) _ _, (h2.far (by omega) _ _).far (by omega) _ _, set2b (Nat.le_refl _) hw, hp2, HR.out⟩
        case measure => simp [intOf]; omega

theorem quo_pow {a b : V} (h : gNorm b ≠ 0) : gMul a (gPow b 62999) = gQuo a b := by
  have hb : gOf b ≠ (0, 0) := fun e => h ((norm_iff b).2 e)
  have h1 : gPow b 62999 = gQuo gOne b := by rw [← pow_of, pow62999 (of_may b) hb]; exact (quo_of gOne b)
  have h2 : gMul (gMul a (gQuo gOne b)) b = gMul (gQuo a b) b := by rw [mul_assoc, quo_mul h, quo_mul h]; exact mul_one a
  have h3 := mul_cancel h h2
  rw [h1]
  rwa [of_in (mul_may _ _), of_in (quo_may _ _)] at h3
theorem quo_zero {a b : V} (h : gNorm b = 0) : gQuo a b = (0, 0) := if_pos h

set_option maxHeartbeats 1000000 in
set_option maxRecDepth 100000 in
theorem div_any (a b c d : Int) (w : World) : Calls Tryz.prog 131 #[.agg #[.int .i64 a, .int .i64 b], .agg #[.int .i64 c, .int .i64 d]] w fun e w' =>
    e = .returned (.tuple #[.agg #[.int .i64 (gQuo (a, b) (c, d)).1, .int .i64 (gQuo (a, b) (c, d)).2], .bool (decide (gNorm (c, d) ≠ 0))]) ∧ Below w.heap.size w w' := by
  have C := fun n m W => Lib.hid (number_any n m W)
  have rc := rs_bd c
  have rd := rs_bd d
  have z1 := zero_is rc.1 rc.2
  have z2 := zero_is rd.1 rd.2
  clear rc rd
  by_cases h : gNorm (c, d) = 0
  · have h0 := (norm_iff (c, d)).1 h
    have h1 : rs c = 0 := congrArg Prod.fst h0
    have h2 : rs d = 0 := congrArg Prod.snd h0
    rw [quo_zero h, decide_eq_false (fun e => e h)]
    rw [decide_eq_true h1] at z1
    rw [decide_eq_true h2] at z2
    clear h h0 h1 h2
    go_enter Tryz.func131, Tryz.ntmps131
    go_wp2_with (go_at_call 132; (with_reducible refine (C _ _ _).out.mono ?_); rintro e v ⟨rfl, hb⟩; have h2 := (Held.new2 w _ _ _ _).below hb; have hw := Below.step (below3 w _ _ _) hb; clear hb; obtain ⟨c0, c1, f0, f1⟩ := h2.two)
    replace hw := set2b (k := w.heap.size + 1 + 1) (x := .int .i64 0) (y := .int .i64 0) (by omega) hw
    replace h2 := h2.set (.int .i64 0) (.int .i64 0)
    generalize (v.setCell _ _).setCell _ _ = W2 at h2 hw ⊢
    obtain ⟨d0, d1, _, _⟩ := h2.two
    exact bodyPost_ret (v := .tuple #[.agg #[.int .i64 0, .int .i64 0], .bool false]) (by simp [results, Tryz.results131, go_sem, d0, d1]) rfl ⟨rfl, hw⟩
  · obtain ⟨r, hr⟩ : ∃ r, r = gPow (c, d) 62999 := ⟨_, rfl⟩
    obtain ⟨q, hq⟩ : ∃ q, q = gQuo (a, b) (c, d) := ⟨_, rfl⟩
    have CP : ∀ W, Hid (Calls Tryz.prog 136 #[.agg #[.int .i64 c, .int .i64 d], .int .i64 62999] W fun e w' => e = .returned (.agg #[.int .i64 r.1, .int .i64 r.2]) ∧ Below W.heap.size W w') := fun W => by
      rw [hr]; exact Lib.hid (pow_nat c d 62999 W (by decide))
    have CM : ∀ W, Hid (Calls Tryz.prog 130 #[.agg #[.int .i64 a, .int .i64 b], .agg #[.int .i64 r.1, .int .i64 r.2]] W fun e w' => e = .returned (.agg #[.int .i64 q.1, .int .i64 q.2]) ∧ Below W.heap.size W w') := fun W => by
      rw [hq, ← quo_pow h, ← hr]; exact Lib.hid (mul_any a b r.1 r.2 W)
    rw [← hq]
    clear hr hq
    have hz : ((FloatKind.format .f64).order (fw (rs c)) 0 == some .eq) = false ∨ (((FloatKind.format .f64).order (fw (rs c)) 0 == some .eq) = true ∧ ((FloatKind.format .f64).order (fw (rs d)) 0 == some .eq) = false) := by
      rw [z1, z2]
      by_cases h1 : rs c = 0
      · right
        refine ⟨decide_eq_true h1, decide_eq_false fun h2 => h ((norm_iff (c, d)).2 ?_)⟩
        exact Prod.ext h1 h2
      · exact .inl (decide_eq_false h1)
    rw [decide_eq_true h]
    clear z1 z2 h
    rcases hz with z1 | ⟨z1, z2⟩
    all_goals
      go_enter Tryz.func131, Tryz.ntmps131
      go_wp2_with (go_at_call 132; (with_reducible refine (C _ _ _).out.mono ?_); rintro e v ⟨rfl, hb⟩; have hx := (((Held.new w _ _).alloc _).alloc _).below hb; have h1 := ((Held.new1 w _ _ _).alloc _).below hb; have h2 := (Held.new2 w _ _ _ _).below hb; have hw := Below.step (below3 w _ _ _) hb; clear hb)
      obtain ⟨c0, c1, _, _⟩ := hx.two
      obtain ⟨c2, c3, _, _⟩ := h1.two
      have g0 := fun d os => cell_regrown c0 d os
      have g1 := fun d os => cell_regrown c1 d os
      have g2 := fun d os => cell_regrown c2 d os
      have g3 := fun d os => cell_regrown c3 d os
      clear c0 c1 c2 c3
      refine wp_region_below_tail 4 (by kernel_rfl) (by kernel_rfl) ?_
      simp only [List.take_succ_cons, List.take_zero, List.drop_succ_cons, List.drop_zero]
      repeat (first
        | go_big_quiet_step ((first
            | (go_at_call 136; (with_reducible exact Calls.regrown_of (CP _).out))
            | (go_at_call 130; (with_reducible exact Calls.regrown_of (CM _).out))))
        | quiet_step ((first
            | (go_at_call 136; (with_reducible exact Calls.regrown_of (CP _).out))
            | (go_at_call 130; (with_reducible exact Calls.regrown_of (CM _).out)))))
      refine wpQuiet_nil ?_
      intro v2 hv
      have hb := below_of_regrown hv
      clear hv g0 g1 g2 g3
      replace h2 := h2.below hb
      replace hw := Below.step hw hb
      obtain ⟨c4, c5, f0, f1⟩ := h2.two
      go_wp2_with fail
      replace hw := set2b (k := w.heap.size + 1 + 1) (x := .int .i64 q.1) (y := .int .i64 q.2) (by omega) hw
      replace h2 := h2.set (.int .i64 q.1) (.int .i64 q.2)
      generalize (v2.setCell _ _).setCell _ _ = W2 at h2 hw ⊢
      obtain ⟨d0, d1, _, _⟩ := h2.two
      exact bodyPost_ret (v := .tuple #[.agg #[.int .i64 q.1, .int .i64 q.2], .bool true]) (by simp [results, Tryz.results131, go_sem, d0, d1]) rfl ⟨rfl, hw⟩
end Go.Proofs.YtoeinpiekfmbgaaGreatDoor

/- Values of two ints: arguments opened, comparisons, parts. -/
namespace Go.Proofs.YtoeinpiekfmbgaaGreatDoor
set_option linter.unusedVariables false
set_option linter.unusedSimpArgs false
open Go.ChangeShapes Go.WideShapes Go.ChangeAt Go.RowKit Go.Joins

theorem eqv_run (a b c d : Int) (W : World) : (binOp .eql 30 (gv a b) (gv c d)).run Tryz.prog W = .ok (.bool (decide ((a, b) = (c, d)))) W := by
  by_cases h1 : a = c <;> by_cases h2 : b = d <;> simp [go_sem, h1, h2]
end Go.Proofs.YtoeinpiekfmbgaaGreatDoor

