/- Layer 2: CrcAlone: of texts of as many bytes the sums' exclusive or hangs on that of the texts alone. For every three texts. -/
import Derived.Test.YtmmifpippdgidaaCroll
import Derived.Test.YtmmifpippdgidaaCbyt
import Derived.Test.YtmmifpippdgidaaL2bytes
import Derived.RegionTactic
import Derived.ChangeAlike
import Derived.BigQuiet
import Derived.Lib.QuietBelow
namespace Go.Proofs.Ytmmifpippdgidaa.crcAlone
set_option linter.unusedVariables false
set_option linter.unusedSimpArgs false
open Go.ChangeShapes Go.WideShapes Go.ChangeAt Go.RowKit Cm
open Go.Sort

def mix : Nat → List UInt8 → List UInt8 → List UInt8 → List UInt8
  | 0, A, _, _ => A
  | k + 1, a :: A, b :: B, c :: C => (a ^^^ (b ^^^ c)) :: mix k A B C
  | _ + 1, A, _, _ => A
theorem mix_len : ∀ k A B C, (mix k A B C).length = A.length
  | 0, _, _, _ => rfl
  | k + 1, [], _, _ => rfl
  | k + 1, _ :: _, [], _ => rfl
  | k + 1, _ :: _, _ :: _, [] => rfl
  | k + 1, a :: A, b :: B, c :: C => by simp [mix, mix_len k A B C]
theorem mix_at : ∀ k A B C (h : k < A.length), (mix k A B C)[k]'(by rw [mix_len]; exact h) = A[k]
  | 0, _, _, _, _ => rfl
  | k + 1, _ :: _, [], _, _ => rfl
  | k + 1, _ :: _, _ :: _, [], _ => rfl
  | k + 1, a :: A, b :: B, c :: C, h => by
    simp only [mix, List.getElem_cons_succ]
    exact mix_at k A B C (by simpa using h)
theorem mix_set : ∀ k A B C (h : k < A.length) (hb : k < B.length) (hc : k < C.length), (mix k A B C).set k (A[k] ^^^ (B[k] ^^^ C[k])) = mix (k + 1) A B C
  | 0, a :: A, b :: B, c :: C, _, _, _ => by simp [mix]
  | k + 1, a :: A, b :: B, c :: C, h, hb, hc => by
    rw [mix, List.set_cons_succ, mix]
    congr 1
    exact mix_set k A B C (by simpa using h) (by simpa using hb) (by simpa using hc)
theorem mix_num : ∀ A B C, B.length = A.length → C.length = A.length → leN (mix A.length A B C) = leN A ^^^ leN B ^^^ leN C
  | [], [], [], _, _ => rfl
  | a :: A, b :: B, c :: C, hb, hc => by
    rw [List.length_cons, mix, leN, leN, leN, leN, mix_num A B C (by simpa using hb) (by simpa using hc), UInt8.toNat_xor, UInt8.toNat_xor]
    rw [show 256 = 2 ^ 8 from rfl]
    apply Nat.eq_of_testBit_eq
    intro i
    simp only [Nat.testBit_xor, Nat.testBit_two_pow_mul]
    cases a.toNat.testBit i <;> cases b.toNat.testBit i <;> cases c.toNat.testBit i <;> by_cases h : 8 ≤ i <;> simp [h]

theorem byte3 (a b c : UInt8) : bits .xor .u8 (a.toNat : Int) (bits .xor .u8 (b.toNat : Int) (c.toNat : Int)) = ((a ^^^ (b ^^^ c)).toNat : Int) := by
  have := byte_lt a
  have := byte_lt b
  have := byte_lt c
  rw [u8_xor_nat _ _ (byte_lt b) (byte_lt c), u8_xor_nat _ _ (byte_lt a) (Nat.xor_lt_two_pow (n := 8) (byte_lt b) (byte_lt c)), UInt8.toNat_xor, UInt8.toNat_xor]

theorem ret_true {b : Bool} (h : b = true) : Ending.returned (.bool b) = .returned (.bool true) := by rw [h]
theorem four_xor {x0 x1 x2 x3 : Nat} (h : x0 ^^^ x1 ^^^ x2 = x3) (h0 : x0 < 4294967296) (h1 : x1 < 4294967296) (h2 : x2 < 4294967296) :
    bits .xor .i64 (bits .xor .i64 (4294967295 - (x0 : Int)) (4294967295 - (x1 : Int))) (4294967295 - (x2 : Int)) = 4294967295 - (x3 : Int) := by
  subst h
  have l1 : x0 ^^^ x1 < 4294967296 := Nat.xor_lt_two_pow (n := 32) h0 h1
  have l2 : x0 ^^^ x1 ^^^ x2 < 4294967296 := Nat.xor_lt_two_pow (n := 32) l1 h2
  have l3 : (4294967295 - x0) ^^^ (4294967295 - x1) < 4294967296 := Nat.xor_lt_two_pow (n := 32) (by omega) (by omega)
  have k0 := compl_xor h0
  have k1 := compl_xor h1
  have k2 := compl_xor h2
  have k3 := compl_xor l2
  rw [show 4294967295 - (x0 : Int) = ((4294967295 - x0 : Nat) : Int) by omega, show 4294967295 - (x1 : Int) = ((4294967295 - x1 : Nat) : Int) by omega, show 4294967295 - (x2 : Int) = ((4294967295 - x2 : Nat) : Int) by omega,
    show 4294967295 - ((x0 ^^^ x1 ^^^ x2 : Nat) : Int) = ((4294967295 - (x0 ^^^ x1 ^^^ x2) : Nat) : Int) by omega, i64_xor_nat _ _ (by omega) (by omega), i64_xor_nat _ _ (by omega) (by omega)]
  congr 1
  rw [k0, k1, k2, k3]
  generalize 4294967295 = M
  apply Nat.eq_of_testBit_eq
  intro i
  simp only [Nat.testBit_xor]
  cases x0.testBit i <;> cases x1.testBit i <;> cases x2.testBit i <;> cases M.testBit i <;> rfl

set_option maxHeartbeats 1000000 in
set_option maxRecDepth 100000 in
theorem walk (a0 a1 a2 : ByteArray) (w0 : a0.size ≤ maxLen) (w1 : a1.size ≤ maxLen) (w2 : a2.size ≤ maxLen) (w : World) :
    Calls Try.prog 6 #[.string a0, .string a1, .string a2] w fun e w' => e = .returned (.bool true) ∧ Below w.heap.size w w' := by
  have hb : Below w.heap.size w w := Below.refl _ _
  by_cases h : a0.size ≤ 200 ∧ a0.size = a1.size ∧ a0.size = a2.size
  · obtain ⟨h0, h1, h2⟩ := h
    have d1 : ((a0.size : Int) != a1.size) = false := by simp; omega
    have d2 : ((a0.size : Int) != a2.size) = false := by simp; omega
    have H1 := Lib.hid h1; have H2 := Lib.hid h2; clear h1 h2
    unfold maxLen at w0 w1 w2
    go_enter Try.func6, Try.ntmps6
    go_wp2_with (first
      | (go_at_call 9; refine (fixed_true _).mono ?_; rintro e v ⟨rfl, hb1⟩; replace hb := Below.step hb hb1; clear hb1)
      | (refine wpList_bytes_of rfl 9 27 5 _ rfl Try.underlying9 Try.underlying27 Try.underlying5 a0 rfl ?_; intro cap v' hat hb2 hz; have hvb := hb.size; replace hb := Below.step hb hb2; clear hb2))
    have hbb := hb.size
    generalize v.heap.size = b at *
    go_loopw [8] (fun i W => ∃ k : Nat, k ≤ a0.size ∧ i = .int .i64 k ∧ BytesAt W b (mix k a0.data.toList a1.data.toList a2.data.toList) ∧ Below w.heap.size w W) (fun i _ => a0.size - (intOf i).toNat)
    case atStart => exact ⟨0, by omega, rfl, hat, hb⟩
    case round =>
      obtain ⟨k, hk, rfl, hat, hb⟩ := hrel
      by_cases hlt : k < a0.size
      · have l0 : k < a0.data.toList.length := hlt
        have l1 : k < a1.data.toList.length := by have := H1.out; show k < a1.size; omega
        have l2 : k < a2.data.toList.length := by have := H2.out; show k < a2.size; omega
        have c0 := hat.cell k (by rw [mix_len]; exact l0)
        rw [mix_at _ _ _ _ l0] at c0
        have c1 : wr.cell? ⟨b, k, none⟩ = some (.int .u8 (a0[k].toNat : Int)) := c0
        clear c0
        have f0 := hat.fz k (by rw [mix_len]; exact l0)
        have hset := fun W (h : BytesAt W b (mix k a0.data.toList a1.data.toList a2.data.toList)) => (mix_set k a0.data.toList a1.data.toList a2.data.toList l0 l1 l2) ▸ h.set k (a0.data.toList[k] ^^^ (a1.data.toList[k] ^^^ a2.data.toList[k]))
        have HS := Lib.hid hset; clear hset
        have HA := Lib.hid hat; clear hat
        have z0 : (0 : Int) ≤ k := by omega
        have z1 : (k : Int) < a0.size := by omega
        have z2 : k < a1.size := l1
        have z3 : k < a2.size := l2
        clear hk
        go_wp2_with fail
        go_region
        go_wp2_with fail
        go_roundw
        case rel =>
          refine ⟨k + 1, by omega, by go_num, ?_, (hb.setCell (p := ⟨b, k, none⟩) hvb _).drew⟩
          rw [byte3]
          exact (HS.out _ HA.out).drew
        case measure => simp [intOf]; omega
      · obtain rfl : k = a0.size := by omega
        have hal := alone (a := a0.data.toList) (b := a1.data.toList) (c := a2.data.toList) (d := mix a0.size a0.data.toList a1.data.toList a2.data.toList) H1.out.symm H2.out.symm (by rw [mix_len]) (mix_num _ _ _ H1.out.symm H2.out.symm) 4294967295
        have hml : (mix a0.size a0.data.toList a1.data.toList a2.data.toList).length = a0.size := by rw [mix_len]; rfl
        generalize mix a0.size a0.data.toList a1.data.toList a2.data.toList = l at *
        obtain ⟨x0, e0⟩ : ∃ x, x = crcL 4294967295 a0.data.toList := ⟨_, rfl⟩
        obtain ⟨x1, e1⟩ : ∃ x, x = crcL 4294967295 a1.data.toList := ⟨_, rfl⟩
        obtain ⟨x2, e2⟩ : ∃ x, x = crcL 4294967295 a2.data.toList := ⟨_, rfl⟩
        obtain ⟨x3, e3⟩ : ∃ x, x = crcL 4294967295 l := ⟨_, rfl⟩
        rw [← e0, ← e1, ← e2, ← e3] at hal
        have y0 : x0 < 4294967296 := by rw [e0]; exact crcL_lt _ (by decide)
        have y1 : x1 < 4294967296 := by rw [e1]; exact crcL_lt _ (by decide)
        have y2 : x2 < 4294967296 := by rw [e2]; exact crcL_lt _ (by decide)
        have C0 := fun W => Lib.hid (of_lit a0 (4294967295 - (x0 : Int)) W (by unfold maxLen; omega) (by rw [e0]; rfl))
        have C1 := fun W => Lib.hid (of_lit a1 (4294967295 - (x1 : Int)) W (by unfold maxLen; omega) (by rw [e1]; rfl))
        have C2 := fun W => Lib.hid (of_lit a2 (4294967295 - (x2 : Int)) W (by unfold maxLen; omega) (by rw [e2]; rfl))
        have C3 := fun W => Lib.hid (of_lit ⟨l.toArray⟩ (4294967295 - (x3 : Int)) W (by unfold maxLen; show l.toArray.size ≤ _; rw [List.size_toArray, hml]; omega) (by rw [e3]; rfl))
        clear e0 e1 e2 e3
        have hcv := hat.conv_grown (P := Try.prog) 27 9 5 a0.size cap hml Try.underlying27 Try.underlying5 Try.underlying9
        have HL := Lib.hid hml; clear hml
        have HF := Lib.hid (four_xor hal y0 y1 y2); clear hal
        clear hat
        go_wp2_with fail
        refine wp_region_quiet_below (by kernel_rfl) (by kernel_rfl) ?_
        repeat (first
          | go_big_quiet_step ((go_at_call 10; (first | (with_reducible exact Calls.regrown_of (C0 _).out) | (with_reducible exact Calls.regrown_of (C1 _).out) | (with_reducible exact Calls.regrown_of (C2 _).out) | (with_reducible exact Calls.regrown_of (C3 _).out))))
          | quiet_step ((go_at_call 10; (first | (with_reducible exact Calls.regrown_of (C0 _).out) | (with_reducible exact Calls.regrown_of (C1 _).out) | (with_reducible exact Calls.regrown_of (C2 _).out) | (with_reducible exact Calls.regrown_of (C3 _).out)))))
        refine wpQuiet_nil ?_
        intro W hW
        replace hb := Below.step hb (below_of_regrown hW)
        clear hW
        go_wp2
        go_ret
        refine ⟨ret_true ?_, hb⟩
        rw [HF.out]; simp
  · have hc : (200 : Int) < a0.size ∨ (a0.size ≤ 200 ∧ ((a0.size : Int) != a1.size) = true) ∨ (a0.size ≤ 200 ∧ ((a0.size : Int) != a1.size) = false ∧ ((a0.size : Int) != a2.size) = true) := by
      simp
      omega
    unfold maxLen at w0 w1 w2
    clear h
    rcases hc with h | ⟨h, h'⟩ | ⟨h, h', h''⟩
    all_goals
      go_enter Try.func6, Try.ntmps6
      go_wp2_with (go_at_call 9; refine (fixed_true _).mono ?_; rintro e v ⟨rfl, hb1⟩; replace hb := Below.step hb hb1; clear hb1)
      go_ret
      exact ⟨rfl, hb⟩
end Go.Proofs.Ytmmifpippdgidaa.crcAlone
