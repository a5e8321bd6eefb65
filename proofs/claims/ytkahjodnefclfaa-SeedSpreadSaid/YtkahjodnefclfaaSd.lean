/- Layer 5's code: seeds, at every input. -/
import Derived.Test.YtkahjodnefclfaaRem
import Derived.Test.YtkahjodnefclfaaSdm
import Derived.Laws.BitsAllLaws
namespace Go.Proofs.Ytkahjodnefclfaa
set_option linter.unusedVariables false
set_option linter.unusedSimpArgs false
open Go.RowKit Go.ChangeShapes Go.WideShapes Go.ChangeAt Gm Sdm

/-- Whether a number is a seed. -/
def isZ (n : Int) : Bool := decide (0 ≤ n) && decide (n ≤ 4294967295)
/-- What a seed and a number are mixed into. -/
def mixZ (s n : Int) : Int := if isZ s = true ∧ isZ n = true then (mixN s.toNat n.toNat : Nat) else 0

set_option maxHeartbeats 1000000 in
theorem smay_any (n : Int) (w : World) : Calls Try.prog 18 #[.int .i64 n] w fun e w' => e = .returned (.bool (isZ n)) ∧ w = w' := by
  have hm : isZ n = (decide (0 ≤ n) && decide (n ≤ 4294967295)) := rfl
  have HM := Lib.hid hm
  clear hm
  go_enter Try.func18, Try.ntmps18
  go_wp2_with fail
  all_goals
    go_ret
    rw [HM.out]
    refine ⟨ret_bool ?_, rfl⟩
    rw [Bool.eq_iff_iff]
    simp
    omega

theorem isZ_nat {n : Nat} (h : n < 4294967296) : isZ n = true := by simp [isZ]; omega
theorem cs_may {n : Int} {b : Bool} (h : isZ n = b) : Cs Try.prog 18 #[.int .i64 n] (.bool b) := fun W => by have := smay_any n W; rwa [h] at this

/-- One round, and some. -/
def rnd (x : Nat) : Nat := mulF (shF x 15) 2246822507
def rndk : Nat → Nat → Nat
  | 0, x => x
  | k + 1, x => rnd (rndk k x)
def start (s n : Nat) : Nat := s ^^^ mulF ((n + 1) % 4294967296) 2654435761
theorem rndk_lt {k x : Nat} (h : x < 4294967296) : rndk k x < 4294967296 := by
  cases k with
  | zero => exact h
  | succ k => exact mulF_lt _ _
theorem mix_rnd (s n : Nat) : mixN s n = shF (rndk 2 (start s n)) 13 := rfl
theorem u32_start (s n : Nat) (hs : s < 4294967296) : bits .xor .u32 (s : Int) (((n : Int) + 1) % 4294967296 * 2654435761 % 4294967296) = (start s n : Nat) := by
  have e : ((n : Int) + 1) % 4294967296 * 2654435761 % 4294967296 = ((mulF ((n + 1) % 4294967296) 2654435761 : Nat) : Int) := by unfold mulF; omega
  rw [e, u32_xor_nat _ _ hs (mulF_lt _ _), start]
theorem u32_sh (x k : Nat) (hx : x < 4294967296) : bits .xor .u32 (x : Int) ((x : Int) / 2 ^ k) = (shF x k : Nat) := by
  have e : (x : Int) / 2 ^ k = ((x / 2 ^ k : Nat) : Int) := by simp
  rw [e, u32_xor_nat _ _ hx (Nat.lt_of_le_of_lt (Nat.div_le_self _ _) hx), shF]
theorem u32_rnd (x : Nat) (hx : x < 4294967296) : bits .xor .u32 (x : Int) ((x : Int) / 32768) * 2246822507 % 4294967296 = (rnd x : Nat) := by
  have := u32_sh x 15 hx
  rw [show (2 : Int) ^ 15 = 32768 from rfl] at this
  rw [this]; simp [rnd, mulF]
theorem i64_xor_nat (a b : Nat) (ha : a < 4294967296) (hb : b < 4294967296) : bits .xor .i64 (a : Int) (b : Int) = ((a ^^^ b : Nat) : Int) := by
  have hx : a ^^^ b < 2 ^ 32 := Nat.xor_lt_two_pow (by omega) (by omega)
  show IntKind.i64.wrap ((BitVec.ofInt 64 (a : Int) ^^^ BitVec.ofInt 64 (b : Int)).toNat : Int) = _
  have e : ∀ c : Nat, c < 4294967296 → (BitVec.ofInt 64 (c : Int)).toNat = c := fun c hc => by rw [BitVec.ofInt_natCast, BitVec.toNat_ofNat]; exact Nat.mod_eq_of_lt (by omega)
  rw [BitVec.toNat_xor, e a ha, e b hb]
  simp only [IntKind.wrap, IntKind.bits, IntKind.signed]
  simp
  omega
theorem i64_sh (x k : Nat) (hx : x < 4294967296) : bits .xor .i64 (x : Int) ((x : Int) / 2 ^ k) = (shF x k : Nat) := by
  have e : (x : Int) / 2 ^ k = ((x / 2 ^ k : Nat) : Int) := by simp
  rw [e, i64_xor_nat _ _ hx (Nat.lt_of_le_of_lt (Nat.div_le_self _ _) hx), shF]

set_option maxHeartbeats 1000000 in
set_option maxRecDepth 100000 in
theorem mix_in (s n : Nat) (w : World) (hs : s < 4294967296) (hn : n < 4294967296) : Calls Try.prog 9 #[.int .i64 s, .int .i64 n] w fun e w' => e = .returned (.int .i64 (mixN s n : Nat)) ∧ w = w' := by
  have C1 := cs_may (isZ_nat hs)
  have C2 := cs_may (isZ_nat hn)
  go_enter Try.func9, Try.ntmps9
  go_wp2_with (first
    | (go_at_call 18; (with_reducible refine (C1.go _).mono ?_); rintro e v ⟨rfl, rfl⟩)
    | (go_at_call 18; (with_reducible refine (C2.go _).mono ?_); rintro e v ⟨rfl, rfl⟩))
  go_loop [5, 21] (fun y i => ∃ k : Nat, k ≤ 2 ∧ i = .int .i64 k ∧ y = .int .u32 (rndk k (start s n) : Nat)) (fun _ i => 2 - (intOf i).toNat)
  case atStart => exact ⟨0, by omega, rfl, by rw [u32_start s n hs]; rfl⟩
  case round =>
    obtain ⟨k, hk, rfl, rfl⟩ := hrel
    have hx : rndk k (start s n) < 4294967296 := rndk_lt (Nat.xor_lt_two_pow (n := 32) hs (mulF_lt _ _))
    by_cases hlt : k < 2
    · have hr := u32_rnd _ hx
      have HR := Lib.hid hr
      clear hr
      go_wp2_with fail
      go_round
      case rel => exact ⟨k + 1, by omega, by go_num, by rw [HR.out]; rfl⟩
      case measure => simp [intOf]; omega
    · obtain rfl : k = 2 := by omega
      have hr := u32_sh _ 13 hx
      rw [← mix_rnd, show (2 : Int) ^ 13 = 8192 from rfl] at hr
      have HR := Lib.hid hr
      clear hr
      have hm : mixN s n < 4294967296 := mix_lt
      go_wp2_with fail
      go_ret
      refine ⟨ret_int ?_, rfl⟩
      rw [HR.out]
      unfold wrap64
      omega
theorem mix_out (s n : Int) (w : World) (h : (isZ s && isZ n) = false) : Calls Try.prog 9 #[.int .i64 s, .int .i64 n] w fun e w' => e = .returned (.int .i64 0) ∧ w = w' := by
  by_cases hs : isZ s = true
  · have hn : isZ n = false := by simpa [hs] using h
    have C1 := cs_may hs
    have C2 := cs_may hn
    clear h hs hn
    go_enter Try.func9, Try.ntmps9
    go_wp2_with (first
      | (go_at_call 18; (with_reducible refine (C1.go _).mono ?_); rintro e v ⟨rfl, rfl⟩)
      | (go_at_call 18; (with_reducible refine (C2.go _).mono ?_); rintro e v ⟨rfl, rfl⟩))
    go_ret
    exact ⟨rfl, rfl⟩
  · have hs : isZ s = false := by simpa using hs
    have C1 := cs_may hs
    clear h hs
    go_enter Try.func9, Try.ntmps9
    go_wp2_with (go_at_call 18; (with_reducible refine (C1.go _).mono ?_); rintro e v ⟨rfl, rfl⟩)
    go_ret
    exact ⟨rfl, rfl⟩
theorem isZ_of {n : Int} (h : isZ n = true) : ∃ m : Nat, n = m ∧ m < 4294967296 := by
  simp [isZ] at h
  exact ⟨n.toNat, by omega, by omega⟩
/-- Mix, at every input. -/
theorem mix_any (s n : Int) : Cs Try.prog 9 #[.int .i64 s, .int .i64 n] (.int .i64 (mixZ s n)) := fun w => by
  by_cases h : isZ s = true ∧ isZ n = true
  · obtain ⟨s, rfl, hs⟩ := isZ_of h.1
    obtain ⟨n, rfl, hn⟩ := isZ_of h.2
    have := mix_in s n w hs hn
    rwa [show ((mixN s n : Nat) : Int) = mixZ s n by rw [mixZ, if_pos h]; rfl] at this
  · have := mix_out s n w (by rw [Bool.eq_false_iff]; simpa using h)
    rwa [show (0 : Int) = mixZ s n by rw [mixZ, if_neg h]] at this

/-- What a seed and an index are used for. -/
def useZ (s u k : Int) : Int := if isZ s = true then mixZ (mixZ s u) k else 0
theorem use_any (s u k : Int) : Cs Try.prog 20 #[.int .i64 s, .int .i64 u, .int .i64 k] (.int .i64 (useZ s u k)) := fun w => by
  by_cases hs : isZ s = true
  · have C1 := cs_may hs
    have C2 := mix_any s u
    have C3 := mix_any (mixZ s u) k
    rw [useZ, if_pos hs]
    generalize mixZ (mixZ s u) k = y at *
    generalize mixZ s u = x at *
    clear hs
    go_enter Try.func20, Try.ntmps20
    go_wp2_with (first
      | (go_at_call 18; (with_reducible refine (C1.go _).mono ?_); rintro e v ⟨rfl, rfl⟩)
      | (go_at_call 9; (with_reducible refine (C2.go _).mono ?_); rintro e v ⟨rfl, rfl⟩)
      | (go_at_call 9; (with_reducible refine (C3.go _).mono ?_); rintro e v ⟨rfl, rfl⟩))
    go_ret
    exact ⟨rfl, rfl⟩
  · have hs : isZ s = false := by simpa using hs
    have C1 := cs_may hs
    rw [useZ, if_neg (by simp [hs])]
    clear hs
    go_enter Try.func20, Try.ntmps20
    go_wp2_with (go_at_call 18; (with_reducible refine (C1.go _).mono ?_); rintro e v ⟨rfl, rfl⟩)
    go_ret
    exact ⟨rfl, rfl⟩
theorem child_any (s k : Int) : Cs Try.prog 11 #[.int .i64 s, .int .i64 k] (.int .i64 (useZ s 1 k)) := fun w => by
  have C1 := use_any s 1 k
  generalize useZ s 1 k = x at *
  go_enter Try.func11, Try.ntmps11
  go_wp2_with (go_at_call 20; (with_reducible refine (C1.go _).mono ?_); rintro e v ⟨rfl, rfl⟩)
  go_ret
  exact ⟨rfl, rfl⟩

theorem mixZ_bd (s n : Int) : 0 ≤ mixZ s n ∧ mixZ s n ≤ 4294967295 := by
  unfold mixZ
  split
  · have := @mix_lt s.toNat n.toNat; omega
  · omega
theorem useZ_bd (s u k : Int) : 0 ≤ useZ s u k ∧ useZ s u k ≤ 4294967295 := by
  unfold useZ
  split
  · exact mixZ_bd _ _
  · omega
/-- What is drawn. -/
def drawZ (s k : Int) : Int × Int := (rs (useZ s 2 k), rs (useZ s 2 k / 65536))
theorem draw_any (s k : Int) : Ct Try.prog 13 #[.int .i64 s, .int .i64 k] (gv (drawZ s k).1 (drawZ s k).2) := fun w => by
  have C1 := use_any s 2 k
  have hb := useZ_bd s 2 k
  show Calls Try.prog 13 _ w fun e w' => e = .returned (gv (rs (useZ s 2 k)) (rs (useZ s 2 k / 65536))) ∧ _
  have C2 : Ct Try.prog 21 #[.int .i64 (useZ s 2 k), .int .i64 (useZ s 2 k / 65536)] (gv (rs (useZ s 2 k)) (rs (useZ s 2 k / 65536))) := fun W => gof_any _ _ W
  generalize rs (useZ s 2 k) = p at *
  generalize rs (useZ s 2 k / 65536) = q at *
  generalize useZ s 2 k = x at *
  obtain ⟨h0, h1⟩ := hb
  go_enter Try.func13, Try.ntmps13
  go_wp2_with (first
    | (go_at_call 20; (with_reducible refine (C1.go _).mono ?_); rintro e v ⟨rfl, rfl⟩)
    | (go_at_call 21; (with_reducible refine (C2.go _).mono ?_); rintro e v ⟨rfl, hb⟩; have hx := (Held.new w _ _).below hb; have hw := below_laid hb; clear hb; obtain ⟨c0, c1, f0, f1⟩ := hx.two))
  replace hx := hx.set (.int .i64 p) (.int .i64 q)
  replace hw := set2b (k := w.heap.size) (x := .int .i64 p) (y := .int .i64 q) (by omega) hw
  generalize (v.setCell _ _).setCell _ _ = W2 at hx hw ⊢
  obtain ⟨d0, d1, _, _⟩ := hx.two
  exact bodyPost_ret (v := gv p q) (by simp [results, Try.results13, go_sem, d0, d1]) rfl ⟨rfl, hw⟩
end Go.Proofs.Ytkahjodnefclfaa
