/- Layer 2: CrcBytes: a byte more rolls the sum on by that byte's own remainder: the same of every sum with the same lowest eight bits, but for what is above them. For every pair of texts and every number. -/
import Derived.Test.YtmmifpippdgidaaCroll
import Derived.Test.YtmmifpippdgidaaCconv
import Derived.Test.YtmmifpippdgidaaCref
namespace Go.Proofs.Ytmmifpippdgidaa.crcBytes
set_option linter.unusedVariables false
set_option linter.unusedSimpArgs false
open Go.ChangeShapes Go.WideShapes Go.ChangeAt Go.RowKit Cm

theorem ret_true {b : Bool} (h : b = true) : Ending.returned (.bool b) = .returned (.bool true) := by rw [h]
theorem i64_and255 (x : Int) (h0 : 0 ≤ x) (h1 : x < 9223372036854775808) : bits .and .i64 x 255 = x % 256 :=
  bits_mask .i64 63 (by decide) (fun n h0 h1 => by
    simp only [IntKind.wrap, IntKind.bits, IntKind.signed]
    simp at h1 ⊢
    omega) 8 (by decide) x h0 h1
theorem other_byte (c : UInt8) (u v : Nat) (hu : u < 4294967296) (hv : v < 4294967296) :
    ∃ d : UInt8, d.toNat = c.toNat ^^^ u % 256 ^^^ v % 256 ∧ bits .xor .u8 (bits .xor .u8 (c.toNat : Int) (bits .and .i64 (u : Int) 255 % 256)) (bits .and .i64 (v : Int) 255 % 256) = (d.toNat : Int) := by
  have hc := byte_lt c
  have h1 : c.toNat ^^^ u % 256 < 256 := Nat.xor_lt_two_pow (n := 8) hc (by omega)
  have h2 : c.toNat ^^^ u % 256 ^^^ v % 256 < 256 := Nat.xor_lt_two_pow (n := 8) h1 (by omega)
  have e : (UInt8.ofNat (c.toNat ^^^ u % 256 ^^^ v % 256)).toNat = c.toNat ^^^ u % 256 ^^^ v % 256 := by
    rw [UInt8.toNat_ofNat']; exact Nat.mod_eq_of_lt h2
  refine ⟨UInt8.ofNat (c.toNat ^^^ u % 256 ^^^ v % 256), e, ?_⟩
  rw [i64_and255 _ (by omega) (by omega), i64_and255 _ (by omega) (by omega), show (u : Int) % 256 % 256 = ((u % 256 : Nat) : Int) by omega, show (v : Int) % 256 % 256 = ((v % 256 : Nat) : Int) by omega,
    u8_xor_nat _ _ hc (by omega), u8_xor_nat _ _ h1 (by omega), e]
theorem last_eq {c d : UInt8} {u v : Nat} (hd : d.toNat = c.toNat ^^^ u % 256 ^^^ v % 256) (hu : u < 4294967296) (hv : v < 4294967296) {x y P Q : Int} (hx : x = 4294967295 - u) (hy : y = 4294967295 - v) (hP : P = rollF x [c]) (hQ : Q = rollF y [d]) :
    bits .xor .i64 (4294967295 - P) (4294967295 - Q) = bits .xor .i64 ((u : Int) / 256) ((v : Int) / 256) := by
  have e1 : (4294967295 - x).toNat = u := by omega
  have e2 : (4294967295 - y).toNat = v := by omega
  rw [rollF, if_neg (by omega), e1] at hP
  rw [rollF, if_neg (by omega), e2] at hQ
  have l1 := crcL_lt [c] hu
  have l2 := crcL_lt [d] hv
  rw [hP, hQ, i64_xor _ _ (by omega) (by omega) (by omega) (by omega), i64_xor _ _ (by omega) (by omega) (by omega) (by omega)]
  rw [show (4294967295 - (4294967295 - (crcL u [c] : Int))).toNat = crcL u [c] by omega, show (4294967295 - (4294967295 - (crcL v [d] : Int))).toNat = crcL v [d] by omega,
    show ((u : Int) / 256).toNat = u / 256 by omega, show ((v : Int) / 256).toNat = v / 256 by omega, crcL_one, crcL_one, hd]
  have e3 : v % 256 ^^^ (c.toNat ^^^ u % 256 ^^^ v % 256) = u % 256 ^^^ c.toNat := by
    rw [Nat.xor_comm (c.toNat), Nat.xor_comm (v % 256), Nat.xor_assoc, Nat.xor_self, Nat.xor_zero]
  rw [e3]
  congr 1
  generalize rem8 _ = R
  rw [Nat.xor_comm (v / 256), Nat.xor_assoc, ← Nat.xor_assoc R, Nat.xor_self, Nat.zero_xor]

set_option maxHeartbeats 1000000 in
set_option maxRecDepth 100000 in
theorem walk (a0 a1 : ByteArray) (a2 : Int) (w0 : a0.size ≤ maxLen) (w1 : a1.size ≤ maxLen) (_w2 : (Lit.int .i64 a2).wf = true) (w : World) :
    Calls Try.prog 8 #[.string a0, .string a1, .int .i64 a2] w fun e w' => e = .returned (.bool true) ∧ Below w.heap.size w w' := by
  have hb : Below w.heap.size w w := Below.refl _ _
  by_cases h : a0.size ≤ 100 ∧ a1.size ≤ 100 ∧ 0 ≤ a2 ∧ a2 ≤ 255
  · obtain ⟨h0, h1, h2, h3⟩ := h
    obtain ⟨c, rfl⟩ : ∃ c : UInt8, a2 = c.toNat := ⟨UInt8.ofNat a2.toNat, by simp; omega⟩
    obtain ⟨u, hu⟩ : ∃ u, u = crcL 4294967295 a0.data.toList := ⟨_, rfl⟩
    obtain ⟨v, hv⟩ : ∃ v, v = crcL 4294967295 a1.data.toList := ⟨_, rfl⟩
    have u1 : u < 4294967296 := by rw [hu]; exact crcL_lt _ (by decide)
    have v1 : v < 4294967296 := by rw [hv]; exact crcL_lt _ (by decide)
    obtain ⟨x, hx⟩ : ∃ x : Int, x = 4294967295 - u := ⟨_, rfl⟩
    obtain ⟨y, hy⟩ : ∃ y : Int, y = 4294967295 - v := ⟨_, rfl⟩
    have C1 := fun W => Lib.hid (of_lit a0 x W w0 (by rw [hx, hu]; rfl))
    have C2 := fun W => Lib.hid (of_lit a1 y W w1 (by rw [hy, hv]; rfl))
    obtain ⟨d, hd, hbyte⟩ := other_byte c u v u1 v1
    obtain ⟨P, hP⟩ : ∃ P, P = rollF x [c] := ⟨_, rfl⟩
    obtain ⟨Q, hQ⟩ : ∃ Q, Q = rollF y [d] := ⟨_, rfl⟩
    have C3 := fun W => Lib.hid (roll_lit x ⟨#[c]⟩ P W (Nat.le_trans (Nat.le_refl 1) (by decide)) hP.symm)
    have C4 := fun W => Lib.hid (roll_lit y ⟨#[d]⟩ Q W (Nat.le_trans (Nat.le_refl 1) (by decide)) hQ.symm)
    have hfin := last_eq hd u1 v1 hx hy hP hQ
    have eu : (u : Int) = 4294967295 - x := by omega
    have ev : (v : Int) = 4294967295 - y := by omega
    rw [eu, ev] at hbyte hfin
    have x0 : 0 ≤ x := by omega
    have x1 : x ≤ 4294967295 := by omega
    have y0 : 0 ≤ y := by omega
    have y1 : y ≤ 4294967295 := by omega
    obtain ⟨p0, p1⟩ := rollF_in (s := [c]) x0 x1
    obtain ⟨q0, q1⟩ := rollF_in (s := [d]) y0 y1
    rw [← hP] at p0 p1
    rw [← hQ] at q0 q1
    have c1 : (c.toNat : Int) < 256 := by have := c.toNat_lt; omega
    have HF := Lib.hid hfin
    clear hu hv h2 h3 hP hQ hd eu ev hx hy hfin u1 v1 u v
    unfold maxLen at w0 w1
    go_enter Try.func8, Try.ntmps8
    go_wp2_with (first
      | (go_at_call 9; refine (fixed_true _).mono ?_; rintro e v ⟨rfl, hb1⟩; replace hb := Below.step hb hb1; clear hb1)
      | (go_at_call 10; (first | (with_reducible refine (C1 _).out.mono ?_) | (with_reducible refine (C2 _).out.mono ?_)); rintro e v ⟨rfl, hb1⟩; replace hb := Below.step hb hb1; clear hb1)
      | (refine wpList_conv_byte rfl 27 9 5 _ rfl Try.underlying27 Try.underlying5 Try.underlying9 _ _ _ rfl _ rfl (by simp) _ rfl ?_)
      | (go_at_call 12; (with_reducible refine (C3 _).out.mono ?_); rintro e v ⟨rfl, hb1⟩; replace hb := Below.step ((hb.alloc hb.size _).alloc (by have := hb.size; simp; omega) _) hb1; clear hb1)
      | (go_at_call 12; (with_reducible refine (C4 _).out.mono ?_); rintro e v ⟨rfl, hb1⟩; replace hb := Below.step hb hb1; clear hb1))
    go_ret
    refine ⟨ret_true ?_, hb⟩
    rw [HF.out]
    simp
  · have hc : (100 : Int) < a0.size ∨ (a0.size ≤ 100 ∧ (100 : Int) < a1.size) ∨ (a0.size ≤ 100 ∧ a1.size ≤ 100 ∧ a2 < 0) ∨ (a0.size ≤ 100 ∧ a1.size ≤ 100 ∧ 255 < a2) := by omega
    unfold maxLen at w0 w1
    clear h
    rcases hc with h | ⟨h, h'⟩ | ⟨h, h', h''⟩ | ⟨h, h', h''⟩
    all_goals
      go_enter Try.func8, Try.ntmps8
      go_wp2_with (go_at_call 9; refine (fixed_true _).mono ?_; rintro e v ⟨rfl, hb1⟩; replace hb := Below.step hb hb1; clear hb1)
      go_ret
      exact ⟨rfl, hb⟩
end Go.Proofs.Ytmmifpippdgidaa.crcBytes
