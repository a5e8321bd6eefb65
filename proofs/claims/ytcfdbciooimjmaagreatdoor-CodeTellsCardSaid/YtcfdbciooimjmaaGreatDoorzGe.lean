/- The plain mathematics of layer 2: the remainder's step is linear over exclusive or, and turns no two numbers of 32 bits into one. -/
import Derived.WalkKit
import Derived.Laws.Rows
import Derived.Laws.Tables
import Derived.Laws.World
import Derived.Deep.WholeRow
import Derived.Test.YtcfdbciooimjmaaGreatDoorRows
import Derived.ProofKit
import Derived.Lib.Hide
import Derived.WalkMore
import Derived.Handy
import Derived.Laws.BitsAllLaws
import Derived.Test.YtcfdbciooimjmaaGreatDoorzGc
import Derived.LoopTactic
import Derived.Laws.CopyOwn
namespace Go.Proofs.YtcfdbciooimjmaaGreatDoor.Cm
set_option linter.unusedVariables false
set_option linter.unusedSimpArgs false

def lstep (y : Nat) : Nat := if y % 2 = 1 then (y / 2) ^^^ 3988292384 else y / 2
def liter : Nat → Nat → Nat
  | 0, y => y
  | k + 1, y => liter k (lstep y)
def rem8 (b : Nat) : Nat := liter 8 b
def crcL : Nat → List UInt8 → Nat
  | x, [] => x
  | x, c :: r => crcL (x / 256 ^^^ rem8 (x % 256 ^^^ c.toNat)) r
def leN : List UInt8 → Nat
  | [] => 0
  | c :: r => c.toNat ^^^ 256 * leN r

theorem xor_div2 (a b : Nat) : (a ^^^ b) / 2 = a / 2 ^^^ b / 2 := by
  have := @Nat.xor_div_two_pow a b 1
  simpa using this
theorem xor_div256 (a b : Nat) : (a ^^^ b) / 256 = a / 256 ^^^ b / 256 := by
  have := @Nat.xor_div_two_pow a b 8
  simpa using this
theorem xor_mod256 (a b : Nat) : (a ^^^ b) % 256 = a % 256 ^^^ b % 256 := by
  have := @Nat.xor_mod_two_pow a b 8
  simpa using this
theorem xor_mod2 (a b : Nat) : (a ^^^ b) % 2 = (a % 2 + b % 2) % 2 := by
  have := @Nat.xor_mod_two_pow a b 1
  simp only [Nat.pow_one] at this
  rw [this]
  rcases Nat.mod_two_eq_zero_or_one a with h | h <;> rcases Nat.mod_two_eq_zero_or_one b with h' | h' <;> simp [h, h']

theorem lstep_xor (a b : Nat) : lstep (a ^^^ b) = lstep a ^^^ lstep b := by
  have hm := xor_mod2 a b
  have hd := xor_div2 a b
  unfold lstep
  generalize 3988292384 = D
  rcases Nat.mod_two_eq_zero_or_one a with h | h <;> rcases Nat.mod_two_eq_zero_or_one b with h' | h' <;> rw [hm, hd] <;> simp only [h, h'] <;> simp
  · rw [Nat.xor_assoc]
  · rw [Nat.xor_assoc, Nat.xor_assoc, Nat.xor_comm D]
  · rw [Nat.xor_assoc, Nat.xor_comm (b / 2) D, ← Nat.xor_assoc D, Nat.xor_self, Nat.zero_xor]
theorem liter_xor : ∀ k a b, liter k (a ^^^ b) = liter k a ^^^ liter k b
  | 0, _, _ => rfl
  | k + 1, a, b => by rw [liter, liter, liter, lstep_xor, liter_xor k]
theorem lstep_two (y : Nat) : lstep (2 * y) = y := by unfold lstep; rw [if_neg (by omega)]; omega
theorem liter_shift : ∀ k y, liter k (2 ^ k * y) = y
  | 0, y => by simp [liter]
  | k + 1, y => by
    rw [liter, Nat.pow_succ, show 2 ^ k * 2 * y = 2 * (2 ^ k * y) by rw [Nat.mul_comm (2 ^ k) 2, Nat.mul_assoc], lstep_two, liter_shift k]
theorem liter_add : ∀ j k y, liter (j + k) y = liter k (liter j y)
  | 0, k, y => by simp [liter]
  | j + 1, k, y => by rw [show j + 1 + k = (j + k) + 1 by omega, liter, liter, liter_add j k]
theorem lstep_lt {y : Nat} (h : y < 4294967296) : lstep y < 4294967296 := by
  unfold lstep
  split
  · exact Nat.xor_lt_two_pow (n := 32) (by omega) (by decide)
  · omega
theorem liter_lt : ∀ k {y : Nat}, y < 4294967296 → liter k y < 4294967296
  | 0, _, h => h
  | k + 1, _, h => liter_lt k (lstep_lt h)
theorem xor_eq_zero {a b : Nat} (h : a ^^^ b = 0) : a = b := by
  have : a ^^^ b ^^^ b = 0 ^^^ b := by rw [h]
  rw [Nat.xor_assoc, Nat.xor_self, Nat.xor_zero, Nat.zero_xor] at this
  exact this
theorem lstep_zero {y : Nat} (h : y < 4294967296) (h0 : lstep y = 0) : y = 0 := by
  unfold lstep at h0
  split at h0
  · have := xor_eq_zero h0
    omega
  · omega
theorem liter_zero : ∀ k {y : Nat}, y < 4294967296 → liter k y = 0 → y = 0
  | 0, _, _, h => h
  | k + 1, _, h, h0 => lstep_zero h (liter_zero k (lstep_lt h) h0)
theorem liter_of_zero : ∀ k, liter k 0 = 0
  | 0 => rfl
  | k + 1 => by rw [liter, show lstep 0 = 0 from rfl, liter_of_zero k]
theorem split256 (y : Nat) : y = 256 * (y / 256) ^^^ y % 256 := by
  apply Nat.eq_of_testBit_eq
  intro i
  rw [Nat.testBit_xor, show 256 = 2 ^ 8 from rfl, Nat.testBit_two_pow_mul, Nat.testBit_mod_two_pow, Nat.testBit_div_two_pow]
  by_cases h : 8 ≤ i
  · rw [show i - 8 + 8 = i by omega]; simp [h, show ¬ i < 8 by omega]
  · simp [h, show i < 8 by omega]
theorem liter8 (y : Nat) : liter 8 y = y / 256 ^^^ rem8 (y % 256) := by
  conv => lhs; rw [split256 y]
  rw [liter_xor]
  have := liter_shift 8 (y / 256)
  rw [show 2 ^ 8 = 256 from rfl] at this
  rw [this]
  rfl
theorem byte_lt (c : UInt8) : c.toNat < 256 := c.toNat_lt
theorem step_eq (x : Nat) (c : UInt8) : x / 256 ^^^ rem8 (x % 256 ^^^ c.toNat) = liter 8 (x ^^^ c.toNat) := by
  have hc := byte_lt c
  rw [liter8, xor_div256, xor_mod256, Nat.div_eq_of_lt hc, Nat.mod_eq_of_lt hc, Nat.xor_zero]
theorem crcL_eq : ∀ (s : List UInt8) (x : Nat), crcL x s = liter (8 * s.length) (x ^^^ leN s)
  | [], x => by simp [crcL, leN, liter]
  | c :: r, x => by
    rw [crcL, step_eq, crcL_eq r, leN, List.length_cons, show 8 * (r.length + 1) = 8 + 8 * r.length by omega, liter_add]
    congr 1
    rw [← Nat.xor_assoc, liter_xor 8 (x ^^^ c.toNat)]
    congr 1
    exact (liter_shift 8 (leN r)).symm
theorem crcL_lt : ∀ (s : List UInt8) {x : Nat}, x < 4294967296 → crcL x s < 4294967296
  | [], _, h => h
  | c :: r, x, h => by
    rw [crcL, step_eq]
    exact crcL_lt r (liter_lt 8 (Nat.xor_lt_two_pow (n := 32) h (by have := byte_lt c; omega)))
theorem crcL_append : ∀ (s t : List UInt8) (x : Nat), crcL x (s ++ t) = crcL (crcL x s) t
  | [], _, _ => rfl
  | c :: r, t, x => by rw [List.cons_append, crcL, crcL, crcL_append r t]
theorem crcL_inj {s : List UInt8} {x y : Nat} (hx : x < 4294967296) (hy : y < 4294967296) (h : crcL x s = crcL y s) : x = y := by
  rw [crcL_eq, crcL_eq] at h
  have h2 : liter (8 * s.length) ((x ^^^ leN s) ^^^ (y ^^^ leN s)) = 0 := by rw [liter_xor, h, Nat.xor_self]
  rw [show (x ^^^ leN s) ^^^ (y ^^^ leN s) = x ^^^ y by rw [Nat.xor_comm y, Nat.xor_assoc, ← Nat.xor_assoc (leN s), Nat.xor_self, Nat.zero_xor]] at h2
  exact xor_eq_zero (liter_zero _ (Nat.xor_lt_two_pow (n := 32) hx hy) h2)

def rollF (sum : Int) (s : List UInt8) : Int := if sum < 0 ∨ 4294967295 < sum then 0 else 4294967295 - crcL (4294967295 - sum).toNat s
theorem rollF_in {sum : Int} {s : List UInt8} (h0 : 0 ≤ sum) (h1 : sum ≤ 4294967295) : 0 ≤ rollF sum s ∧ rollF sum s ≤ 4294967295 := by
  unfold rollF
  rw [if_neg (by omega)]
  have := crcL_lt s (x := (4294967295 - sum).toNat) (by omega)
  omega
theorem rollF_append {sum : Int} (s t : List UInt8) (h0 : 0 ≤ sum) (h1 : sum ≤ 4294967295) : rollF sum (s ++ t) = rollF (rollF sum s) t := by
  have hh := rollF_in (s := s) h0 h1
  have hl := crcL_lt s (x := (4294967295 - sum).toNat) (by omega)
  have e : (4294967295 - rollF sum s).toNat = crcL (4294967295 - sum).toNat s := by
    rw [rollF, if_neg (by omega)]; omega
  rw [rollF, if_neg (by omega), crcL_append]
  conv => rhs; rw [rollF, if_neg (by omega), e]
theorem rollF_nil {sum : Int} (h0 : 0 ≤ sum) (h1 : sum ≤ 4294967295) : rollF sum [] = sum := by
  rw [rollF, if_neg (by omega), crcL]; omega
theorem rollF_inj {a b : Int} {s : List UInt8} (h0 : 0 ≤ a) (h1 : a ≤ 4294967295) (h2 : 0 ≤ b) (h3 : b ≤ 4294967295) (h : rollF a s = rollF b s) : a = b := by
  rw [rollF, rollF, if_neg (by omega), if_neg (by omega)] at h
  have := crcL_inj (s := s) (x := (4294967295 - a).toNat) (y := (4294967295 - b).toNat) (by omega) (by omega) (by omega)
  omega
/-- The exclusive or of a sum and all bits of 32 is the sum's state. -/
theorem compl_xor {n : Nat} (h : n < 4294967296) : 4294967295 - n = n ^^^ 4294967295 := by
  have hx : n ^^^ 4294967295 < 4294967296 := Nat.xor_lt_two_pow (n := 32) h (by decide)
  apply Nat.eq_of_testBit_eq
  intro i
  have h1 : 4294967295 - n = 2 ^ 32 - (n + 1) := by omega
  have h2 : (4294967295 : Nat) = 2 ^ 32 - 1 := rfl
  rw [Nat.testBit_xor]
  conv => rhs; rw [h2]
  rw [h1, Nat.testBit_two_pow_sub_succ h, Nat.testBit_two_pow_sub_one]
  by_cases hi : i < 32
  · simp [hi]
  · simp [hi]
    exact Nat.testBit_lt_two_pow (Nat.lt_of_lt_of_le h (show 2 ^ 32 ≤ 2 ^ i from Nat.pow_le_pow_right (by decide) (by omega)))
/-- As many bytes are the same number just if they are the same. -/
theorem leN_cons (c : UInt8) (r : List UInt8) : leN (c :: r) % 256 = c.toNat ∧ leN (c :: r) / 256 = leN r := by
  have hc := byte_lt c
  rw [leN, xor_mod256, xor_div256, Nat.mod_eq_of_lt hc, Nat.div_eq_of_lt hc]
  simp
theorem leN_inj : ∀ {a b : List UInt8}, a.length = b.length → leN a = leN b → a = b
  | [], [], _, _ => rfl
  | c :: r, d :: s, hl, h => by
    have h1 := leN_cons c r
    have h2 := leN_cons d s
    rw [h] at h1
    rw [leN_inj (a := r) (b := s) (by simpa using hl) (h1.2.symm.trans h2.2), UInt8.toNat_inj.1 (h1.1.symm.trans h2.1)]
theorem leN_lt : ∀ (s : List UInt8), leN s < 2 ^ (8 * s.length)
  | [] => by simp [leN]
  | c :: r => by
    have := leN_lt r
    have h1 := leN_cons c r
    rw [List.length_cons, show 8 * (r.length + 1) = 8 * r.length + 8 by omega, Nat.pow_add]
    have := byte_lt c
    omega
/-- Texts whose numbers part by a burst of 32 bits. -/
theorem burst {s b : List UInt8} {bit f g : Nat} (hl : b.length = s.length) (hbit : bit ≤ 8 * s.length) (hf : f < 4294967296) (hg : g = f % 2 ^ (8 * s.length - bit)) (h : leN b = leN s ^^^ 2 ^ bit * g) (x : Nat) :
    crcL x b = crcL x s ↔ b = s := by
  constructor
  · intro e
    rw [crcL_eq, crcL_eq, hl, h, ← Nat.xor_assoc, liter_xor] at e
    have e0 : liter (8 * s.length) (2 ^ bit * g) = 0 := by
      have : liter (8 * s.length) (x ^^^ leN s) ^^^ (liter (8 * s.length) (x ^^^ leN s) ^^^ liter (8 * s.length) (2 ^ bit * g)) = liter (8 * s.length) (x ^^^ leN s) ^^^ liter (8 * s.length) (x ^^^ leN s) := by rw [e]
      rw [← Nat.xor_assoc, Nat.xor_self, Nat.zero_xor] at this
      exact this
    rw [show 8 * s.length = bit + (8 * s.length - bit) by omega, liter_add, liter_shift] at e0
    have g0 := liter_zero _ (Nat.lt_of_le_of_lt (by rw [hg]; exact Nat.mod_le _ _) hf) e0
    rw [g0] at h
    exact leN_inj hl (by simpa using h)
  · rintro rfl; rfl
/-- Of texts of as many bytes the exclusive or of the states hangs on that of the texts. -/
theorem alone {a b c d : List UInt8} (hb : b.length = a.length) (hc : c.length = a.length) (hd : d.length = a.length) (h : leN d = leN a ^^^ leN b ^^^ leN c) (x : Nat) :
    crcL x a ^^^ crcL x b ^^^ crcL x c = crcL x d := by
  rw [crcL_eq, crcL_eq, crcL_eq, crcL_eq, hb, hc, hd, h, ← liter_xor, ← liter_xor]
  congr 1
  generalize leN a = A; generalize leN b = B; generalize leN c = C
  apply Nat.eq_of_testBit_eq
  intro i
  simp only [Nat.testBit_xor]
  cases x.testBit i <;> cases A.testBit i <;> cases B.testBit i <;> cases C.testBit i <;> rfl
theorem crcL_one (x : Nat) (c : UInt8) : crcL x [c] = x / 256 ^^^ rem8 (x % 256 ^^^ c.toNat) := rfl

/-- One byte of a text is another one. -/
theorem leN_set : ∀ (s : List UInt8) (i : Nat) (c : UInt8) (hi : i < s.length), leN (s.set i c) = leN s ^^^ 2 ^ (8 * i) * (s[i].toNat ^^^ c.toNat)
  | d :: r, 0, c, _ => by
    simp only [List.set_cons_zero, leN, List.getElem_cons_zero, Nat.mul_zero, Nat.pow_zero, Nat.one_mul]
    generalize 256 * leN r = R
    rw [Nat.xor_assoc, Nat.xor_comm R, ← Nat.xor_assoc, ← Nat.xor_assoc, Nat.xor_self, Nat.zero_xor]
  | d :: r, i + 1, c, hi => by
    simp only [List.set_cons_succ, leN, List.getElem_cons_succ]
    rw [leN_set r i c (by simpa using hi), show 8 * (i + 1) = 8 + 8 * i by omega, Nat.pow_add, Nat.mul_assoc, show 2 ^ 8 = 256 from rfl, Nat.xor_assoc]
    congr 1
    have := @Nat.shiftLeft_xor_distrib 8 (leN r) (2 ^ (8 * i) * ((r[i]'(by simpa using hi)).toNat ^^^ c.toNat))
    simp only [Nat.shiftLeft_eq, show 2 ^ 8 = 256 from rfl] at this
    rw [Nat.mul_comm 256, this, Nat.mul_comm (leN r), Nat.mul_comm _ 256]
end Go.Proofs.YtcfdbciooimjmaaGreatDoor.Cm

/- Arrays as whole rows of cells: a new one, by whatever name its zero cells have. -/
namespace Go.Proofs.YtcfdbciooimjmaaGreatDoor
set_option linter.unusedVariables false
set_option linter.unusedSimpArgs false
open Go

theorem wpList_alloc_arr {P : Program} {w : World} {ops : Array Oper} {rest : List Oper} {o : Oper} {a : Act} {Q : Exit → Act → World → Prop} (hg : o.guard = none) (t : TypeId) (ho : o.op = .alloc t) (c : Array Value)
    (hz : (P.info? t).map (·.zero) = some (some (.agg c))) (h : wpList P ops Q rest (a.put o.dst (.pointer (some ⟨w.heap.size, 0, none⟩))) (w.alloc (.cells c t))) : wpList P ops Q (o :: rest) a w := by
  cases hq : P.info? t with
  | none => simp [hq] at hz
  | some i =>
    simp [hq] at hz
    have hrun : (Instr.alloc t true (.tuple #[])).run P w = .ok (.pointer (some ⟨w.heap.size, 0, none⟩)) (w.alloc (.cells c t)) := by
      simp [Instr.alloc, zeroValue, typeInfo, hq, hz, newVar, newRow, Value.cells]
    refine wpList_plain hg fun K hK => ?_
    unfold Oper.wp execOp
    simp only [ho, Sem.run_bind, hrun, Result.andThen_ok]
    exact hK _ _ h
end Go.Proofs.YtcfdbciooimjmaaGreatDoor

/- Layer 2's code: the remainder of a byte, of whatever number of 32 bits. -/
namespace Go.Proofs.YtcfdbciooimjmaaGreatDoor
set_option linter.unusedVariables false
set_option linter.unusedSimpArgs false
open Go.RowKit Go.ChangeShapes Go.WideShapes Go.ChangeAt Cm

theorem liter_snoc : ∀ k y, lstep (liter k y) = liter (k + 1) y
  | 0, _ => rfl
  | k + 1, y => by rw [liter, liter_snoc k]; rfl
theorem lstep_odd (y : Nat) (h : ((y : Int) % 2 == 1) = true) (hy : y < 4294967296) : bits .xor .u32 ((y : Int) / 2) 3988292384 = (lstep y : Nat) := by
  have h' : y % 2 = 1 := by simp at h; omega
  rw [u32_xor _ _ (by omega) (by omega) (by decide) (by decide), lstep, if_pos h']
  rfl
theorem lstep_even (y : Nat) (h : ((y : Int) % 2 == 1) = false) : (y : Int) / 2 = (lstep y : Nat) := by
  have h' : ¬ y % 2 = 1 := by simp at h; omega
  rw [lstep, if_neg h']
  omega

set_option maxHeartbeats 400000 in
theorem remainder_any (x : Nat) (w : World) (hx : x < 4294967296) : Calls Tryz.prog 107 #[.int .u32 x] w fun e w' => e = .returned (.int .u32 (rem8 x)) ∧ w = w' := by
  go_enter Tryz.func107, Tryz.ntmps107
  go_wp2
  go_loop [0, 4] (fun y i => ∃ k : Nat, k ≤ 8 ∧ i = .int .i64 k ∧ y = .int .u32 (liter k x : Nat)) (fun _ i => 8 - (intOf i).toNat)
  case atStart => exact ⟨0, by omega, rfl, rfl⟩
  case round =>
    obtain ⟨k, hk, rfl, rfl⟩ := hrel
    have hs := liter_snoc k x
    have hl := liter_lt k hx
    have HS := Lib.hid hs; clear hs
    by_cases hlt : k < 8
    · generalize liter k x = y at *
      go_wp2_with fail
      · go_round
        case rel => exact ⟨k + 1, by omega, by go_num, by rw [← HS.out, lstep_odd y (by assumption) hl]⟩
        case measure => simp [intOf]; omega
      · go_round
        case rel => exact ⟨k + 1, by omega, by go_num, by rw [← HS.out, lstep_even y (by assumption)]⟩
        case measure => simp [intOf]; omega
    · obtain rfl : k = 8 := by omega
      go_wp2
      go_ret
      exact ⟨rfl, rfl⟩
end Go.Proofs.YtcfdbciooimjmaaGreatDoor

/- Layer 2's code: the array of the 256 remainders. -/
namespace Go.Proofs.YtcfdbciooimjmaaGreatDoor
set_option linter.unusedVariables false
set_option linter.unusedSimpArgs false
open Go.RowKit Go.ChangeShapes Go.WideShapes Go.ChangeAt Cm

def tabV (k i : Nat) : Value := .int .u32 (if i < k then (rem8 i : Int) else 0)
/-- The array, filled up to k. -/
def tab (k : Nat) : Array Value := (Array.range 256).map (tabV k)
theorem tab_size (k : Nat) : (tab k).size = 256 := by simp [tab]
theorem tab_at (k i : Nat) (h : i < 256) : (tab k)[i]? = some (tabV k i) := by
  simp [tab, Array.getElem?_map, Array.getElem?_range, h]
theorem tab_set (k : Nat) (h : k < 256) : (tab k).setIfInBounds k (.int .u32 (rem8 k : Nat)) = tab (k + 1) := by
  apply Array.ext_getElem?
  intro i
  rw [Array.getElem?_setIfInBounds, tab_size]
  by_cases hi : i < 256
  · rw [tab_at _ _ hi, tab_at _ _ hi]
    by_cases e : k = i
    · subst e; simp [h, tabV]
    · rw [if_neg e, tabV, tabV]
      congr 2
      by_cases h1 : i < k
      · rw [if_pos h1, if_pos (by omega)]
      · rw [if_neg h1, if_neg (by omega)]
  · rw [if_neg (by omega), Array.getElem?_eq_none (by rw [tab_size]; omega), Array.getElem?_eq_none (by rw [tab_size]; omega)]
theorem tab_one (k : Nat) : (tab k).all (·.oneCell') = true := by
  rw [Array.all_eq_true_iff_forall_mem]
  intro v hv
  obtain ⟨j, _, rfl⟩ := Array.mem_map.1 hv
  rfl
theorem tab_zero : tab 0 = Array.replicate 256 (.int .u32 0) := by
  apply Array.ext_getElem?
  intro i
  by_cases hi : i < 256
  · rw [tab_at _ _ hi]; simp [Array.getElem?_replicate, hi, tabV]
  · rw [Array.getElem?_eq_none (by rw [tab_size]; omega), Array.getElem?_eq_none (by simp; omega)]
theorem infoArr : (Tryz.prog.info? 120).map (fun i => (i.zero, i.size)) = some (some (.agg (tab 0)), 256) := by rw [tab_zero]; kernel_rfl
theorem zeroArr : (Tryz.prog.info? 120).map (·.zero) = some (some (.agg (tab 0))) := by
  have := infoArr
  cases h : Tryz.prog.info? 120 with
  | none => simp [h] at this
  | some i => simp [h] at this; simp [this.1]
theorem sizeArr : (Tryz.prog.info? 120).map (·.size) = some 256 := by
  have := infoArr
  cases h : Tryz.prog.info? 120 with
  | none => simp [h] at this
  | some i => simp [h] at this; simp [this.2]

def RemJ (w : World) (b k : Nat) (W : World) : Prop :=
  W.heap[b]? = some (.cells (tab 0) 120 (0, 0)) ∧ W.heap[b + 1]? = some (.cells (tab k) 120 (0, 0)) ∧ Below b w W

set_option maxHeartbeats 400000 in
set_option maxRecDepth 100000 in
theorem remainders_any (w : World) : Calls Tryz.prog 89 #[] w fun e w' => e = .returned (.agg (tab 256)) ∧ Below w.heap.size w w' := by
  go_enter Tryz.func89, Tryz.ntmps89
  go_wp2_with (refine wpList_alloc_arr rfl 120 rfl (tab 0) zeroArr ?_)
  have h0 : RemJ w w.heap.size 0 ((w.alloc (.cells (tab 0) 120)).alloc (.cells (tab 0) 120)) :=
    ⟨heap_alloc2_old w _ _, heap_alloc2_new w _ _, ((Below.refl _ _).alloc (Nat.le_refl _) _).alloc (by simp) _⟩
  have H0 := Lib.hid h0; clear h0
  generalize (w.alloc (.cells (tab 0) 120)).alloc (.cells (tab 0) 120) = W0 at *
  go_loopw [3] (fun i W => ∃ k : Nat, k ≤ 256 ∧ i = .int .i64 k ∧ RemJ w w.heap.size k W) (fun i _ => 256 - (intOf i).toNat)
  case atStart => exact ⟨0, by omega, rfl, H0.out⟩
  case round =>
    obtain ⟨k, hk, rfl, j1, j2, j3⟩ := hrel
    by_cases hlt : k < 256
    · have c0 : wr.cell? ⟨w.heap.size + 1, k, none⟩ = some (.int .u32 0) := by
        rw [cell_of_row _ _ k _ _ _ j2, tab_at _ _ hlt, tabV, if_neg (by omega)]
      have f0 : wr.frozen? ⟨w.heap.size + 1, k, none⟩ = false := frozen_of_row _ _ _ _ _ j2
      have J1 := Lib.hid j1; have J2 := Lib.hid j2; clear j1 j2
      have hk' : (k : Int) < 256 := by omega
      go_wp2_with (go_at_call 107; refine (remainder_any _ _ (by omega)).mono ?_; rintro e w' ⟨rfl, rfl⟩)
      go_roundw
      case rel =>
        refine ⟨k + 1, by omega, by go_num, ?_, ?_, j3.setCell (by simp) _⟩
        · rw [heap_setCell_other _ _ _ _ (by simp), J1.out]
        · rw [heap_setCell_same _ _ _ _ _ _ J2.out, tab_set _ hlt]
      case measure => simp [intOf]; omega
    · obtain rfl : k = 256 := by omega
      have J1 := Lib.hid j1; have J2 := Lib.hid j2; clear j1 j2
      go_wp2_with (first
        | (refine wpList_load_row rfl 120 _ rfl (w.heap.size + 1) rfl _ _ _ _ J2.out Tryz.underlying120 rfl (by rw [tab_size]; exact sizeArr) ?_)
        | (refine wpList_store_row rfl 120 _ _ rfl w.heap.size (tab 256) rfl rfl _ _ J1.out (by rw [tab_size]; exact sizeArr) (by rw [tab_size, tab_size]) (tab_one _) ?_))
      refine bodyPost_ret (v := .agg (tab 256)) (results_cell_row rfl _ _ w.heap.size 120 (tab 256) (0, 0) _ rfl (setRow_heap _ _ _ _ _ _ J1.out) Tryz.underlying120 rfl (by rw [tab_size]; exact sizeArr)) rfl ⟨rfl, below_setRow j3 (Nat.le_refl _) _⟩
end Go.Proofs.YtcfdbciooimjmaaGreatDoor

/- Layer 2's code: Roll and Of, at every input. -/
namespace Go.Proofs.YtcfdbciooimjmaaGreatDoor
set_option linter.unusedVariables false
set_option linter.unusedSimpArgs false
open Go.RowKit Go.ChangeShapes Go.WideShapes Go.ChangeAt Cm


set_option maxHeartbeats 400000 in
theorem roll_out (sum : Int) (s : ByteArray) (w : World) (h : sum < 0 ∨ 4294967295 < sum) :
    Calls Tryz.prog 76 #[.int .i64 sum, .string s] w fun e w' => e = .returned (.int .i64 (rollF sum s.data.toList)) ∧ w = w' := by
  have hf : rollF sum s.data.toList = 0 := by rw [rollF, if_pos h]
  rw [hf]
  by_cases h0 : sum < 0
  · clear h hf
    go_enter Tryz.func76, Tryz.ntmps76
    go_wp2_with fail
    go_ret
    exact ⟨rfl, rfl⟩
  · have h1 : 4294967295 < sum := by omega
    clear h hf
    go_enter Tryz.func76, Tryz.ntmps76
    go_wp2_with fail
    go_ret
    exact ⟨rfl, rfl⟩

theorem ix_u8 (x : Nat) (c : UInt8) : bits .xor .u8 ((x : Int) % 256) (c.toNat : Int) = ((x % 256 ^^^ c.toNat : Nat) : Int) ∧ x % 256 ^^^ c.toNat < 256 := by
  have hc := byte_lt c
  refine ⟨?_, Nat.xor_lt_two_pow (n := 8) (by omega) hc⟩
  rw [u8_xor _ _ (by omega) (by omega) (by omega) (by omega)]
  rfl
theorem step_u32 (x m : Nat) (hx : x < 4294967296) (hm : rem8 m < 4294967296) : bits .xor .u32 ((x : Int) / 256) (rem8 m : Int) = ((x / 256 ^^^ rem8 m : Nat) : Int) := by
  rw [u32_xor _ _ (by omega) (by omega) (by omega) (by omega)]
  rfl
theorem rem8_lt {m : Nat} (h : m < 256) : rem8 m < 4294967296 := liter_lt 8 (by omega)

set_option maxHeartbeats 1000000 in
set_option maxRecDepth 100000 in
theorem roll_in (sum : Nat) (s : ByteArray) (w : World) (h : sum ≤ 4294967295) (hs : s.size ≤ maxLen) :
    Calls Tryz.prog 76 #[.int .i64 sum, .string s] w fun e w' => e = .returned (.int .i64 (4294967295 - (crcL (4294967295 - sum) s.data.toList : Nat))) ∧ Below w.heap.size w w' := by
  unfold maxLen at hs
  have h' : (sum : Int) ≤ 4294967295 := by omega
  go_enter Tryz.func76, Tryz.ntmps76
  go_wp2_with fail
  refine (remainders_any _).mono ?_
  rintro e w1 ⟨rfl, hb⟩
  go_wp2_with (first
    | (refine wpList_alloc_arr rfl 120 rfl (tab 0) zeroArr ?_)
    | (refine wpList_store_row rfl 120 _ _ rfl w1.heap.size (tab 256) rfl rfl _ _ (heap_alloc_new _ _) (by rw [tab_size]; exact sizeArr) (by rw [tab_size, tab_size]) (tab_one _) ?_))
  have hW : ((w1.alloc (.cells (tab 0) 120)).setRow w1.heap.size (tab 256)).heap[w1.heap.size]? = some (.cells (tab 256) 120 (0, 0)) := setRow_heap _ _ _ _ _ _ (heap_alloc_new _ _)
  have hB : Below w.heap.size w ((w1.alloc (.cells (tab 0) 120)).setRow w1.heap.size (tab 256)) := below_setRow (hb.alloc hb.size _) hb.size _
  generalize (w1.alloc (.cells (tab 0) 120)).setRow w1.heap.size (tab 256) = W at *
  generalize w1.heap.size = b at *
  clear hb
  have HW := Lib.hid hW; clear hW
  go_loop [6, 20] (fun y i => ∃ k x : Nat, k ≤ s.size ∧ i = .int .i64 k ∧ y = .int .u32 x ∧ x < 4294967296 ∧ crcL (4294967295 - sum) s.data.toList = crcL x (s.data.toList.drop k)) (fun _ i => s.size - (intOf i).toNat)
  case atStart => exact ⟨0, 4294967295 - sum, by omega, rfl, by rw [show ((4294967295 - sum : Nat) : Int) = 4294967295 - (sum : Int) from by omega], by omega, rfl⟩
  case round =>
    obtain ⟨k, x, hk, rfl, rfl, hx, hc⟩ := hrel
    have HC := Lib.hid hc; clear hc
    by_cases hlt : k < s.size
    · obtain ⟨m, hm⟩ : ∃ m, m = x % 256 ^^^ s[k].toNat := ⟨_, rfl⟩
      have hix := ix_u8 x s[k]
      rw [← hm] at hix
      obtain ⟨hix, hm2⟩ := hix
      have hd := drop_cons s k hlt
      have HD := Lib.hid hd; clear hd
      have hcell : W.cell? ⟨b, m, none⟩ = some (.int .u32 (rem8 m)) := by
        rw [cell_of_row _ _ m _ _ _ HW.out, tab_at _ _ hm2, tabV, if_pos hm2]
      have HM := Lib.hid hm; clear hm
      have hm3 : (m : Int) < 256 := by omega
      go_wp2_with fail
      have hr := rem8_lt hm2
      go_round
      case rel =>
        refine ⟨k + 1, x / 256 ^^^ rem8 m, by omega, by go_num, by rw [step_u32 x m hx hr], Nat.xor_lt_two_pow (n := 32) (by omega) hr, ?_⟩
        rw [HC.out, HD.out, crcL, ← HM.out]
      case measure => simp [intOf]; omega
    · have hc : crcL (4294967295 - sum) s.data.toList = x := by
        rw [HC.out, List.drop_of_length_le (by simp; omega)]; rfl
      have HC' := Lib.hid hc; clear hc
      go_wp2_with fail
      go_ret
      rw [HC'.out]
      exact ⟨rfl, hB⟩

/-- Roll, at every input. -/
theorem roll_any (sum : Int) (s : ByteArray) (w : World) (hs : s.size ≤ maxLen) :
    Calls Tryz.prog 76 #[.int .i64 sum, .string s] w fun e w' => e = .returned (.int .i64 (rollF sum s.data.toList)) ∧ Below w.heap.size w w' := by
  by_cases h : sum < 0 ∨ 4294967295 < sum
  · exact (roll_out sum s w h).mono fun e w' ⟨he, hw⟩ => ⟨he, below_of_eq hw _⟩
  · obtain ⟨n, rfl⟩ := Int.eq_ofNat_of_zero_le (by omega : 0 ≤ sum)
    refine (roll_in n s w (by omega) hs).mono fun e w' ⟨he, hw⟩ => ⟨?_, hw⟩
    rw [he, rollF, if_neg h, show (4294967295 - (n : Int)).toNat = 4294967295 - n by omega]

set_option maxHeartbeats 400000 in
theorem of_any (s : ByteArray) (w : World) (hs : s.size ≤ maxLen) :
    Calls Tryz.prog 51 #[.string s] w fun e w' => e = .returned (.int .i64 (rollF 0 s.data.toList)) ∧ Below w.heap.size w w' := by
  go_enter Tryz.func51, Tryz.ntmps51
  go_wp2_with (go_at_call 76; refine (roll_any _ _ _ hs).mono ?_; rintro e w' ⟨rfl, hb⟩)
  go_ret
  exact ⟨rfl, by assumption⟩
theorem roll_lit (sum : Int) (s : ByteArray) (n : Int) (w : World) (hs : s.size ≤ maxLen) (h : rollF sum s.data.toList = n) :
    Calls Tryz.prog 76 #[.int .i64 sum, .string s] w fun e w' => e = .returned (.int .i64 n) ∧ Below w.heap.size w w' := by
  have := roll_any sum s w hs; rw [h] at this; exact this
theorem of_lit (s : ByteArray) (n : Int) (w : World) (hs : s.size ≤ maxLen) (h : rollF 0 s.data.toList = n) :
    Calls Tryz.prog 51 #[.string s] w fun e w' => e = .returned (.int .i64 n) ∧ Below w.heap.size w w' := by
  have := of_any s w hs; rw [h] at this; exact this

end Go.Proofs.YtcfdbciooimjmaaGreatDoor

/- Layer 2: the document's own answers. -/
namespace Go.Proofs.YtcfdbciooimjmaaGreatDoor
set_option linter.unusedVariables false
set_option linter.unusedSimpArgs false
open Go.RowKit Go.ChangeShapes Go.WideShapes Go.ChangeAt Cm

theorem i64_xor_nat (a b : Nat) (ha : a < 9223372036854775808) (hb : b < 9223372036854775808) : bits .xor .i64 (a : Int) (b : Int) = ((a ^^^ b : Nat) : Int) := by
  have hx : a ^^^ b < 2 ^ 63 := Nat.xor_lt_two_pow ha hb
  have h64 : ∀ n : Nat, n < 9223372036854775808 → (BitVec.ofInt 64 (n : Int)).toNat = n := fun n hn => by
    rw [BitVec.ofInt_natCast, BitVec.toNat_ofNat, Nat.mod_eq_of_lt (by omega)]
  show IntKind.i64.wrap ((BitVec.ofInt 64 (a : Int) ^^^ BitVec.ofInt 64 (b : Int)).toNat : Int) = _
  rw [BitVec.toNat_xor, h64 a ha, h64 b hb]
  generalize a ^^^ b = c at *
  simp only [IntKind.wrap, IntKind.bits, IntKind.signed]
  simp
  omega
theorem i64_xor (a b : Int) (h1 : 0 ≤ a) (h2 : a < 9223372036854775808) (h3 : 0 ≤ b) (h4 : b < 9223372036854775808) : bits .xor .i64 a b = ((a.toNat ^^^ b.toNat : Nat) : Int) := by
  obtain ⟨m, rfl⟩ := Int.eq_ofNat_of_zero_le h1
  obtain ⟨n, rfl⟩ := Int.eq_ofNat_of_zero_le h3
  exact i64_xor_nat m n (by omega) (by omega)

set_option maxHeartbeats 400000 in
theorem xor_any (a b : Int) (w : World) : Calls Tryz.prog 90 #[.int .i64 a, .int .i64 b] w fun e w' => e = .returned (.int .i64 (bits .xor .i64 a b)) ∧ w = w' := by
  go_enter Tryz.func90, Tryz.ntmps90
  go_wp2
  go_ret
  exact ⟨rfl, rfl⟩

theorem half_xor (b : Nat) (hb : b < 4294967296) : bits .xor .i64 ((b : Int) / 2) 3988292384 = ((b / 2 ^^^ 3988292384 : Nat) : Int) ∧ b / 2 ^^^ 3988292384 < 4294967296 := by
  refine ⟨?_, Nat.xor_lt_two_pow (n := 32) (by omega) (by decide)⟩
  rw [i64_xor _ _ (by omega) (by omega) (by omega) (by omega)]
  rfl

set_option maxHeartbeats 400000 in
theorem rest_any : ∀ (k b : Nat) (w : World), b < 4294967296 → k ≤ 1000 → Calls Tryz.prog 91 #[.int .i64 b, .int .i64 k] w fun e w' => e = .returned (.int .i64 (liter k b : Nat)) ∧ w = w'
  | 0, b, w, hb, _ => by
    go_enter Tryz.func91, Tryz.ntmps91
    go_wp2_with fail
    go_ret
    exact ⟨rfl, rfl⟩
  | k + 1, b, w, hb, hk => by
    have h0 : (((k + 1 : Nat) : Int) == 0) = false := by simp; omega
    have hk1 : (((k + 1 : Nat) : Int) - 1) = (k : Int) := by omega
    have hin : (1 : Int) ≤ ((k + 1 : Nat) : Int) := by omega
    by_cases h : b % 2 = 1
    · have h1 : ((b : Int) % 2 == 1) = true := by simp; omega
      obtain ⟨hx, hlt⟩ := half_xor b hb
      obtain ⟨c, hc⟩ : ∃ c, c = b / 2 ^^^ 3988292384 := ⟨_, rfl⟩
      rw [← hc] at hx hlt
      have hl : liter (k + 1) b = liter k c := by rw [liter, lstep, if_pos h, hc]
      have HL := Lib.hid hl; clear hl h hc
      have ih := Lib.hid (rest_any k c w hlt (by omega))
      generalize hK : ((k + 1 : Nat) : Int) = K at *
      clear hK
      go_enter Tryz.func91, Tryz.ntmps91
      go_wp2_with (first
        | (go_at_call 90; refine (xor_any _ _ _).mono ?_; rintro e w' ⟨rfl, rfl⟩)
        | (go_at_call 91; (with_reducible refine ih.out.mono ?_); rintro e w' ⟨rfl, rfl⟩))
      go_ret
      rw [HL.out]
      exact ⟨rfl, rfl⟩
    · have h1 : ((b : Int) % 2 == 1) = false := by simp; omega
      obtain ⟨c, hc⟩ : ∃ c, c = b / 2 := ⟨_, rfl⟩
      have hx : (b : Int) / 2 = (c : Int) := by omega
      have hl : liter (k + 1) b = liter k c := by rw [liter, lstep, if_neg h, hc]
      have hlt : c < 4294967296 := by omega
      have HL := Lib.hid hl; clear hl h hc
      have ih := Lib.hid (rest_any k c w hlt (by omega))
      generalize hK : ((k + 1 : Nat) : Int) = K at *
      clear hK
      go_enter Tryz.func91, Tryz.ntmps91
      go_wp2_with (first
        | (go_at_call 91; (with_reducible refine ih.out.mono ?_); rintro e w' ⟨rfl, rfl⟩))
      go_ret
      rw [HL.out]
      exact ⟨rfl, rfl⟩

set_option maxHeartbeats 400000 in
theorem rroll_out (sum : Int) (s : ByteArray) (w : World) (h : sum < 0 ∨ 4294967295 < sum) :
    Calls Tryz.prog 77 #[.int .i64 sum, .string s] w fun e w' => e = .returned (.int .i64 (rollF sum s.data.toList)) ∧ w = w' := by
  have hf : rollF sum s.data.toList = 0 := by rw [rollF, if_pos h]
  rw [hf]
  by_cases h0 : sum < 0
  · clear h hf
    go_enter Tryz.func77, Tryz.ntmps77
    go_wp2_with fail
    go_ret
    exact ⟨rfl, rfl⟩
  · have h1 : 4294967295 < sum := by omega
    clear h hf
    go_enter Tryz.func77, Tryz.ntmps77
    go_wp2_with fail
    go_ret
    exact ⟨rfl, rfl⟩
theorem ix_i64 (x : Nat) (c : UInt8) : bits .xor .i64 ((x : Int) % 256) (c.toNat : Int) = ((x % 256 ^^^ c.toNat : Nat) : Int) ∧ x % 256 ^^^ c.toNat < 256 := by
  have hc := byte_lt c
  refine ⟨?_, Nat.xor_lt_two_pow (n := 8) (by omega) hc⟩
  rw [i64_xor _ _ (by omega) (by omega) (by omega) (by omega)]
  rfl
theorem step_i64 (x m : Nat) (hx : x < 4294967296) (hm : rem8 m < 4294967296) : bits .xor .i64 ((x : Int) / 256) (rem8 m : Int) = ((x / 256 ^^^ rem8 m : Nat) : Int) := by
  rw [i64_xor _ _ (by omega) (by omega) (by omega) (by omega)]
  rfl

set_option maxHeartbeats 1000000 in
set_option maxRecDepth 100000 in
theorem rroll_in (sum : Nat) (s : ByteArray) (w : World) (h : sum ≤ 4294967295) (hs : s.size ≤ maxLen) :
    Calls Tryz.prog 77 #[.int .i64 sum, .string s] w fun e w' => e = .returned (.int .i64 (4294967295 - (crcL (4294967295 - sum) s.data.toList : Nat))) ∧ w = w' := by
  unfold maxLen at hs
  have h' : (sum : Int) ≤ 4294967295 := by omega
  go_enter Tryz.func77, Tryz.ntmps77
  go_wp2_with fail
  go_loop [5, 6] (fun y i => ∃ k x : Nat, k ≤ s.size ∧ i = .int .i64 k ∧ y = .int .i64 x ∧ x < 4294967296 ∧ crcL (4294967295 - sum) s.data.toList = crcL x (s.data.toList.drop k)) (fun _ i => s.size - (intOf i).toNat)
  case atStart => exact ⟨0, 4294967295 - sum, by omega, rfl, by rw [show ((4294967295 - sum : Nat) : Int) = 4294967295 - (sum : Int) from by omega], by omega, rfl⟩
  case round =>
    obtain ⟨k, x, hk, rfl, rfl, hx, hc⟩ := hrel
    have HC := Lib.hid hc; clear hc
    by_cases hlt : k < s.size
    · obtain ⟨m, hm⟩ : ∃ m, m = x % 256 ^^^ s[k].toNat := ⟨_, rfl⟩
      have hix := ix_i64 x s[k]
      rw [← hm] at hix
      obtain ⟨hix, hm2⟩ := hix
      have hd := drop_cons s k hlt
      have HD := Lib.hid hd; clear hd
      have HM := Lib.hid hm; clear hm
      have hx1 : 0 ≤ (x : Int) := by omega
      have hbb : s[k].toNat < 256 := s[k].toNat_lt
      have hrest := fun w => Lib.hid (rest_any 8 m w (by omega) (by omega))
      go_wp2_with (first
        | (go_at_call 90; refine (xor_any _ _ _).mono ?_; rintro e w' ⟨rfl, rfl⟩)
        | (go_at_call 91; refine (hrest _).out.mono ?_; rintro e w' ⟨rfl, rfl⟩))
      have hr := rem8_lt hm2
      go_round
      case rel =>
        refine ⟨k + 1, x / 256 ^^^ rem8 m, by omega, by go_num, ?_, Nat.xor_lt_two_pow (n := 32) (by omega) hr, ?_⟩
        · have := step_i64 x m hx hr; unfold rem8 at this; rw [this]; rfl
        · rw [HC.out, HD.out, crcL, ← HM.out]
      case measure => simp [intOf]; omega
    · have hc : crcL (4294967295 - sum) s.data.toList = x := by
        rw [HC.out, List.drop_of_length_le (by simp; omega)]; rfl
      have HC' := Lib.hid hc; clear hc
      go_wp2_with fail
      go_ret
      rw [HC'.out]
      exact ⟨rfl, rfl⟩
theorem rroll_any (sum : Int) (s : ByteArray) (w : World) (hs : s.size ≤ maxLen) :
    Calls Tryz.prog 77 #[.int .i64 sum, .string s] w fun e w' => e = .returned (.int .i64 (rollF sum s.data.toList)) ∧ w = w' := by
  by_cases h : sum < 0 ∨ 4294967295 < sum
  · exact rroll_out sum s w h
  · obtain ⟨n, rfl⟩ := Int.eq_ofNat_of_zero_le (by omega : 0 ≤ sum)
    refine (rroll_in n s w (by omega) hs).mono fun e w' ⟨he, hw⟩ => ⟨?_, hw⟩
    rw [he, rollF, if_neg h, show (4294967295 - (n : Int)).toNat = 4294967295 - n by omega]
set_option maxHeartbeats 400000 in
theorem rof_any (s : ByteArray) (w : World) (hs : s.size ≤ maxLen) :
    Calls Tryz.prog 52 #[.string s] w fun e w' => e = .returned (.int .i64 (rollF 0 s.data.toList)) ∧ w = w' := by
  go_enter Tryz.func52, Tryz.ntmps52
  go_wp2_with (go_at_call 77; refine (rroll_any _ _ _ hs).mono ?_; rintro e w' ⟨rfl, rfl⟩)
  go_ret
  exact ⟨rfl, rfl⟩
end Go.Proofs.YtcfdbciooimjmaaGreatDoor

