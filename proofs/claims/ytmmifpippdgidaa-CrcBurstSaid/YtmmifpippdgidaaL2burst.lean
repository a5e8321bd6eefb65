/- Layer 2: CrcBurst: texts that are the same but within 32 bits side by side, and not the same there, have unlike sums. For every text and every pair of numbers. -/
import Derived.Test.YtmmifpippdgidaaCroll
import Derived.Test.YtmmifpippdgidaaCbyt
import Derived.RegionTactic
import Derived.ChangeAlike
import Derived.BigQuiet
import Derived.Lib.QuietBelow
namespace Go.Proofs.Ytmmifpippdgidaa.crcBurst
set_option linter.unusedVariables false
set_option linter.unusedSimpArgs false
open Go.ChangeShapes Go.WideShapes Go.ChangeAt Go.RowKit Cm
open Go.Sort

/-- A fact that the walk does not open. -/
structure Shut (p : Prop) : Prop where
  out : p
/-- Of a burst's bits as many as there is room for. -/
def seen (f room i : Nat) : Nat := f % 2 ^ (min i room)
theorem seen_zero (f room : Nat) : seen f room 0 = 0 := by simp [seen]; omega
theorem mod_succ (f i : Nat) : f % 2 ^ (i + 1) = f % 2 ^ i + 2 ^ i * (f / 2 ^ i % 2) := by
  rw [Nat.pow_succ, Nat.mod_mul]
theorem seen_set (f room i : Nat) (hi : i < room) (h : f / 2 ^ i % 2 = 1) : seen f room (i + 1) = seen f room i ^^^ 2 ^ i := by
  unfold seen
  rw [Nat.min_eq_left (by omega), Nat.min_eq_left (by omega), mod_succ, h, Nat.mul_one]
  have hlt : f % 2 ^ i < 2 ^ i := Nat.mod_lt _ (Nat.two_pow_pos i)
  have := Nat.two_pow_add_eq_or_of_lt hlt 1
  rw [Nat.mul_one] at this
  rw [Nat.add_comm, this]
  apply Nat.eq_of_testBit_eq
  intro j
  rw [Nat.testBit_or, Nat.testBit_xor, Nat.testBit_two_pow]
  by_cases e : i = j
  · subst e; simp [Nat.testBit_lt_two_pow hlt]
  · simp [e]
theorem seen_not (f room i : Nat) (hi : i < room) (h : f / 2 ^ i % 2 = 0) : seen f room (i + 1) = seen f room i := by
  unfold seen
  rw [Nat.min_eq_left (by omega), Nat.min_eq_left (by omega), mod_succ, h, Nat.mul_zero, Nat.add_zero]
theorem seen_out (f room i : Nat) (hi : room ≤ i) : seen f room (i + 1) = seen f room i := by
  unfold seen
  rw [Nat.min_eq_right (by omega), Nat.min_eq_right (by omega)]
theorem mul_xor (p a b : Nat) : 2 ^ p * (a ^^^ b) = 2 ^ p * a ^^^ 2 ^ p * b := by
  have := @Nat.shiftLeft_xor_distrib p a b
  simp only [Nat.shiftLeft_eq] at this
  rw [Nat.mul_comm, this, Nat.mul_comm a, Nat.mul_comm b]
/-- One bit more is turned. -/
theorem turn_bit {l s : List UInt8} {bit i f room : Nat} (hl : leN l = leN s ^^^ 2 ^ bit * seen f room i) (hi : i < room) (h : f / 2 ^ i % 2 = 1) (j r : Nat) (hj : j < l.length) (hat : bit + i = 8 * j + r) (c : UInt8) (hc : c.toNat = l[j].toNat ^^^ 2 ^ r) :
    leN (l.set j c) = leN s ^^^ 2 ^ bit * seen f room (i + 1) := by
  have e : l[j].toNat ^^^ c.toNat = 2 ^ r := by rw [hc, ← Nat.xor_assoc, Nat.xor_self, Nat.zero_xor]
  rw [leN_set _ _ _ hj, hl, e, ← Nat.pow_add, ← hat, Nat.pow_add, seen_set f room i hi h, mul_xor, Nat.xor_assoc]

theorem ret_true {b : Bool} (h : b = true) : Ending.returned (.bool b) = .returned (.bool true) := by rw [h]
theorem seen_all (f room : Nat) (hf : f < 4294967296) : seen f room 32 = f % 2 ^ room := by
  unfold seen
  rcases Nat.le_total room 32 with h | h
  · rw [Nat.min_eq_right h]
  · rw [Nat.min_eq_left h, Nat.mod_eq_of_lt hf, Nat.mod_eq_of_lt (Nat.lt_of_lt_of_le hf (show 2 ^ 32 ≤ 2 ^ room from Nat.pow_le_pow_right (by decide) h))]
theorem turned (a : UInt8) (r : Nat) (hr : r < 8) : ∃ c : UInt8, c.toNat = a.toNat ^^^ 2 ^ r ∧ bits .xor .u8 (a.toNat : Int) (2 ^ r % 256) = (c.toNat : Int) := by
  have ha := byte_lt a
  have hp : 2 ^ r < 256 := Nat.lt_of_le_of_lt (Nat.pow_le_pow_right (by decide) (show r ≤ 7 by omega)) (by decide)
  have hx : a.toNat ^^^ 2 ^ r < 256 := Nat.xor_lt_two_pow (n := 8) ha hp
  have e : (UInt8.ofNat (a.toNat ^^^ 2 ^ r)).toNat = a.toNat ^^^ 2 ^ r := by
    rw [UInt8.toNat_ofNat']; exact Nat.mod_eq_of_lt hx
  refine ⟨_, e, ?_⟩
  have e2 : (2 : Int) ^ r % 256 = ((2 ^ r : Nat) : Int) := by
    have h : ((2 ^ r : Nat) : Int) = (2 : Int) ^ r := by simp
    rw [← h]
    generalize 2 ^ r = u at *
    omega
  rw [e2, u8_xor_nat _ _ ha hp, e]
theorem i64_and1 (x : Int) (h0 : 0 ≤ x) (h1 : x < 9223372036854775808) : bits .and .i64 x 1 = x % 2 :=
  bits_mask .i64 63 (by decide) (fun n h0 h1 => by
    simp only [IntKind.wrap, IntKind.bits, IntKind.signed]
    simp at h1 ⊢
    omega) 1 (by decide) x h0 h1
theorem bit_val (f k : Nat) (hf : f < 4294967296) : bits .and .i64 ((f : Int) / 2 ^ k) 1 = ((f / 2 ^ k % 2 : Nat) : Int) := by
  have e : (f : Int) / 2 ^ k = ((f / 2 ^ k : Nat) : Int) := by simp
  have hl : f / 2 ^ k ≤ f := Nat.div_le_self _ _
  rw [e]
  generalize f / 2 ^ k = g at *
  rw [i64_and1 _ (by omega) (by omega)]
  omega
theorem bit_one (f k : Nat) (hf : f < 4294967296) (h : f / 2 ^ k % 2 = 1) : bits .and .i64 ((f : Int) / 2 ^ k) 1 = 1 := by rw [bit_val f k hf, h]; rfl
theorem bit_zero (f k : Nat) (hf : f < 4294967296) (h : f / 2 ^ k % 2 = 0) : bits .and .i64 ((f : Int) / 2 ^ k) 1 = 0 := by rw [bit_val f k hf, h]; rfl

set_option maxHeartbeats 1000000 in
set_option maxRecDepth 100000 in
theorem walk (a0 : ByteArray) (a1 a2 : Int) (w0 : a0.size ≤ maxLen) (_w1 : (Lit.int .i64 a1).wf = true) (_w2 : (Lit.int .i64 a2).wf = true) (w : World) :
    Calls Try.prog 5 #[.string a0, .int .i64 a1, .int .i64 a2] w fun e w' => e = .returned (.bool true) ∧ Below w.heap.size w w' := by
  have hb : Below w.heap.size w w := Below.refl _ _
  by_cases h : a0.size ≤ 500 ∧ 0 ≤ a1 ∧ a1 < 8 * a0.size ∧ 1 ≤ a2 ∧ a2 < 4294967296
  · obtain ⟨h0, h1, h2, h3, h4⟩ := h
    clear _w1 _w2
    obtain ⟨p, rfl⟩ := Int.eq_ofNat_of_zero_le h1
    obtain ⟨f, rfl⟩ := Int.eq_ofNat_of_zero_le (by omega : 0 ≤ a2)
    unfold maxLen at w0
    have d0 : decide ((500 : Int) < a0.size) = false := by simp; omega
    have d1 : decide ((p : Int) < 0) = false := by simp
    obtain ⟨N, hN⟩ : ∃ N : Nat, 8 * (a0.size : Int) = N := ⟨8 * a0.size, by omega⟩
    have hN1 : (N : Int) ≤ 4000 := by omega
    have d2 : decide (N ≤ p) = false := by simp; omega
    have d3 : decide ((f : Int) < 1) = false := by simp; omega
    have d4 : decide (4294967296 ≤ (f : Int)) = false := by simp; omega
    have H2 := Lib.hid h2
    have H0 := Lib.hid h0
    have H4 : Shut (f < 4294967296) := ⟨by omega⟩
    clear h0 h1 h2 h3 h4
    go_enter Try.func5, Try.ntmps5
    go_wp2_with (first
      | (go_at_call 9; refine (fixed_true _).mono ?_; rintro e v ⟨rfl, hb1⟩; replace hb := Below.step hb hb1; clear hb1)
      | (refine wpList_bytes_of rfl 9 27 5 _ rfl Try.underlying9 Try.underlying27 Try.underlying5 a0 rfl ?_; intro cap v' hat hb2 hz; have hvb := hb.size; replace hb := Below.step hb hb2; clear hb2))
    clear d0 d1 d2 d3 d4
    have hbb := hb.size
    generalize v.heap.size = b at *
    go_loopw [8] (fun i W => ∃ (k : Nat) (l : List UInt8), k ≤ 32 ∧ i = .int .i64 k ∧ BytesAt W b l ∧ l.length = a0.size ∧ leN l = leN a0.data.toList ^^^ 2 ^ p * seen f (8 * a0.size - p) k ∧ Below w.heap.size w W) (fun i _ => 32 - (intOf i).toNat)
    case atStart => exact ⟨0, a0.data.toList, by omega, rfl, hat, rfl, by rw [seen_zero]; simp, hb⟩
    case round =>
      obtain ⟨k, l, hk, rfl, hat, hl, hn, hb⟩ := hrel
      by_cases hlt : k < 32
      · have HN := Lib.hid hn; clear hn
        obtain ⟨q, hq⟩ : ∃ q : Nat, ((p : Int) + k) = (q : Int) := ⟨p + k, by omega⟩
        have hp : (p : Int) < 8 * a0.size := H2.out
        have hq1 : (q : Int) < 5000 := by omega
        clear hp
        by_cases hbit : f / 2 ^ k % 2 = 1
        · have hbt := bit_one f k H4.out hbit
          by_cases hroom : q < N
          · obtain ⟨j, hj⟩ : ∃ j : Nat, (q : Int) / 8 = (j : Int) := ⟨q / 8, by omega⟩
            obtain ⟨r, hr⟩ : ∃ r : Nat, (q : Int) % 8 = (r : Int) := ⟨q % 8, by omega⟩
            have hr8 : (r : Int) < 8 := by omega
            have hjl : j < l.length := by omega
            have hjz : (j : Int) < a0.size := by omega
            have c0 := hat.cell j hjl
            have f0 := hat.fz j hjl
            have HQ : Shut (q = 8 * j + r ∧ p + k = q) := ⟨by omega, by omega⟩
            have HB : Shut (f / 2 ^ k % 2 = 1) := ⟨hbit⟩
            clear hbit
            go_wp2_with fail
            go_region
            go_wp2_with fail
            obtain ⟨c, hc, hc2⟩ := turned l[j] r (by omega)
            go_roundw
            case rel =>
              refine ⟨k + 1, l.set j c, by omega, by go_num, ?_, by rw [List.length_set, hl], ?_, (hb.setCell (p := ⟨b, j, none⟩) hvb _).drew⟩
              · rw [hc2]; exact (hat.set j c).drew
              · exact turn_bit HN.out (by have := HQ.out; omega) HB.out j r hjl (by have := HQ.out; omega) c hc
            case measure => simp [intOf]; omega
          · have HB : Shut (f / 2 ^ k % 2 = 1) := ⟨hbit⟩
            have HQ : Shut (N ≤ q ∧ p + k = q) := ⟨by omega, by omega⟩
            clear hbit
            go_wp2_with fail
            go_roundw
            case rel =>
              refine ⟨k + 1, l, by omega, by go_num, hat, hl, ?_, hb⟩
              rw [HN.out, seen_out]
              have := HQ.out
              omega
            case measure => simp [intOf]; omega
        · have hbt := bit_zero f k H4.out (by omega)
          have HB : Shut (f / 2 ^ k % 2 = 0) := ⟨by omega⟩
          have HQ : Shut (p + k = q) := ⟨by omega⟩
          clear hbit
          go_wp2_with fail
          go_roundw
          case rel =>
            refine ⟨k + 1, l, by omega, by go_num, hat, hl, ?_, hb⟩
            rw [HN.out]
            by_cases hr : k < 8 * a0.size - p
            · rw [seen_not _ _ _ hr HB.out]
            · rw [seen_out _ _ _ (by omega)]
          case measure => simp [intOf]; omega
      · obtain rfl : k = 32 := by omega
        have hp : (p : Int) < 8 * a0.size := H2.out
        have hbu := burst (s := a0.data.toList) (b := l) (bit := p) (f := f) hl (by show p ≤ 8 * a0.size; omega) H4.out (seen_all f (8 * a0.size - p) H4.out) hn 4294967295
        clear hp
        obtain ⟨x, e0⟩ : ∃ x, x = rollF 0 l := ⟨_, rfl⟩
        obtain ⟨y, e1⟩ : ∃ x, x = rollF 0 a0.data.toList := ⟨_, rfl⟩
        have hz0 : a0.size ≤ maxLen := by unfold maxLen; omega
        have C0 := fun W => Lib.hid (of_lit ⟨l.toArray⟩ x W (by show l.toArray.size ≤ _; rw [List.size_toArray, hl]; exact hz0) e0.symm)
        have C1 := fun W => Lib.hid (of_lit a0 y W hz0 e1.symm)
        have hfin : (x == y) = (l == a0.data.toList) := by
          rw [e0, e1, Bool.eq_iff_iff, beq_iff_eq, beq_iff_eq]
          constructor
          · intro h
            have h1 : crcL 4294967295 l = crcL 4294967295 a0.data.toList := by
              rw [rollF, rollF, if_neg (by omega), if_neg (by omega)] at h
              have e : (4294967295 - (0 : Int)).toNat = 4294967295 := by decide
              rw [e] at h
              omega
            exact hbu.1 h1
          · intro h
            rw [← h]
        have HF : Shut ((x == y) = (l == a0.data.toList)) := ⟨hfin⟩
        clear hfin e0 e1 hbu hn hz0
        have hcv := hat.conv_grown (P := Try.prog) 27 9 5 a0.size cap hl Try.underlying27 Try.underlying5 Try.underlying9
        have HL : Shut (l.length = a0.size) := ⟨hl⟩
        clear hat hl
        go_wp2_with fail
        refine wp_region_quiet_below (by kernel_rfl) (by kernel_rfl) ?_
        repeat (first
          | go_big_quiet_step ((go_at_call 10; (first | (with_reducible exact Calls.regrown_of (C0 _).out) | (with_reducible exact Calls.regrown_of (C1 _).out))))
          | quiet_step ((go_at_call 10; (first | (with_reducible exact Calls.regrown_of (C0 _).out) | (with_reducible exact Calls.regrown_of (C1 _).out)))))
        refine wpQuiet_nil ?_
        intro W hW
        replace hb := Below.step hb (below_of_regrown hW)
        clear hW
        go_wp2
        go_ret
        refine ⟨ret_true ?_, hb⟩
        rw [HF.out, ByteArray.toList_eq]; simp
  · have hc : (500 : Int) < a0.size ∨ (a0.size ≤ 500 ∧ a1 < 0) ∨ (a0.size ≤ 500 ∧ 0 ≤ a1 ∧ 8 * a0.size ≤ a1) ∨ (a0.size ≤ 500 ∧ 0 ≤ a1 ∧ a1 < 8 * a0.size ∧ a2 < 1) ∨ (a0.size ≤ 500 ∧ 0 ≤ a1 ∧ a1 < 8 * a0.size ∧ 1 ≤ a2 ∧ 4294967296 ≤ a2) := by omega
    unfold maxLen at w0
    clear h
    rcases hc with h | ⟨h, h'⟩ | ⟨h, h', h''⟩ | ⟨h, h', h'', h3⟩ | ⟨h, h', h'', h3, h4⟩
    all_goals
      go_enter Try.func5, Try.ntmps5
      go_wp2_with (go_at_call 9; refine (fixed_true _).mono ?_; rintro e v ⟨rfl, hb1⟩; replace hb := Below.step hb hb1; clear hb1)
      go_ret
      exact ⟨rfl, hb⟩
end Go.Proofs.Ytmmifpippdgidaa.crcBurst
