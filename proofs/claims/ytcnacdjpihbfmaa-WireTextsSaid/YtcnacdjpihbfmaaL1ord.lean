/- Layer 1: WireOrder: of two numbers that are put the bytes are the same just if they are; a greater one has no fewer; a text that is put is as many bytes longer as tell how many it has. For every pair of numbers and every text. -/
import Derived.Test.YtcnacdjpihbfmaaL1fix
import Derived.ShutString
namespace Go.Proofs.Ytcnacdjpihbfmaa.wireOrder
set_option linter.unusedVariables false
set_option linter.unusedSimpArgs false
open Go.ChangeShapes Go.WideShapes Go.ChangeAt Go.RowKit
open Go.ChangeMaps (open_string shut_string)

theorem putG_pos : ∀ f n, 0 < f → 1 ≤ (putG f n).length
  | 0, _, h => by omega
  | f + 1, n, _ => by rw [putG]; split <;> simp
theorem putG_mono : ∀ f m n, m ≤ n → (putG f m).length ≤ (putG f n).length
  | 0, _, _, _ => by simp [putG]
  | f + 1, m, n, h => by
    rw [putG, putG]
    by_cases hn : n < 128
    · rw [if_pos hn, if_pos (by omega)]; simp
    · rw [if_neg hn]
      split
      · simp
      · simp only [List.length_cons]
        have := putG_mono f (m / 128) (n / 128) (by omega)
        omega
theorem putG_one (f n : Nat) (h : 1 ≤ f) : (putG (f + 1) n).length = 1 ↔ n < 128 := by
  rw [putG]
  split
  · simp [*]
  · have := putG_pos f (n / 128) (by omega)
    simp only [List.length_cons]
    omega
theorem ofNat_inj {a b : Nat} (ha : a < 256) (hb : b < 256) (h : UInt8.ofNat a = UInt8.ofNat b) : a = b := by
  have := congrArg UInt8.toNat h
  simp at this
  omega
theorem putG_inj : ∀ f m n, m < 128 ^ f → n < 128 ^ f → putG f m = putG f n → m = n
  | 0, m, n, hm, hn, _ => by simp at hm hn; omega
  | f + 1, m, n, hm, hn, h => by
    rw [Nat.pow_succ] at hm hn
    rw [putG, putG] at h
    by_cases h1 : m < 128 <;> by_cases h2 : n < 128
    · rw [if_pos h1, if_pos h2] at h
      simp only [List.cons.injEq, and_true] at h
      exact ofNat_inj (by omega) (by omega) h
    · rw [if_pos h1, if_neg h2] at h
      simp only [List.cons.injEq] at h
      have := ofNat_inj (by omega) (by omega) h.1
      omega
    · rw [if_neg h1, if_pos h2] at h
      simp only [List.cons.injEq] at h
      have := ofNat_inj (by omega) (by omega) h.1
      omega
    · rw [if_neg h1, if_neg h2] at h
      simp only [List.cons.injEq] at h
      have e1 := ofNat_inj (by omega) (by omega) h.1
      have e2 := putG_inj f (m / 128) (n / 128) (by omega) (by omega) h.2
      omega
theorem putF_nat {n : Int} (h : 0 ≤ n) (h' : n ≤ 281474976710655) : putF n = putG 7 n.toNat := by rw [putF, if_neg (by omega)]

set_option maxHeartbeats 1000000 in
set_option maxRecDepth 100000 in
theorem walk (a0 a1 : Int) (a2 : ByteArray) (_w0 : (Lit.int .i64 a0).wf = true) (_w1 : (Lit.int .i64 a1).wf = true) (w2 : a2.size ≤ maxLen) (w : World) :
    Calls Try.prog 7 #[.int .i64 a0, .int .i64 a1, .string a2] w fun e w' => e = .returned (.bool true) ∧ Below w.heap.size w w' := by
  have hlen : a2.data.toList.length = a2.size := rfl
  have w2' := w2
  unfold maxLen at w2'
  by_cases h : 0 ≤ a0 ∧ a0 ≤ a1 ∧ a1 ≤ 281474976710655 ∧ a2.size ≤ 300
  · obtain ⟨h0, h1, h2, h3⟩ := h
    obtain ⟨x, hx⟩ : ∃ x, x = putF a0 := ⟨_, rfl⟩
    obtain ⟨y, hy⟩ : ∃ y, y = putF a1 := ⟨_, rfl⟩
    obtain ⟨z, hz⟩ : ∃ z, z = putF a2.size := ⟨_, rfl⟩
    obtain ⟨u, hu⟩ : ∃ u, u = putTextF a2.data.toList := ⟨_, rfl⟩
    have Cx : ∀ W, Hid (Calls Try.prog 18 #[.int .i64 a0] W fun e w' => e = .returned (.string ⟨x.toArray⟩) ∧ Below W.heap.size W w') := fun W => Lib.hid (by rw [hx]; exact put_all a0 W)
    have Cy : ∀ W, Hid (Calls Try.prog 18 #[.int .i64 a1] W fun e w' => e = .returned (.string ⟨y.toArray⟩) ∧ Below W.heap.size W w') := fun W => Lib.hid (by rw [hy]; exact put_all a1 W)
    have Cz : ∀ W, Hid (Calls Try.prog 18 #[.int .i64 a2.size] W fun e w' => e = .returned (.string ⟨z.toArray⟩) ∧ Below W.heap.size W w') := fun W => Lib.hid (by rw [hz]; exact put_all a2.size W)
    have Cu : ∀ W, Hid (Calls Try.prog 22 #[.string a2] W fun e w' => e = .returned (.string ⟨u.toArray⟩) ∧ Below W.heap.size W w') := fun W => Lib.hid (by rw [hu]; exact putText_all a2 W w2)
    rw [putF_nat h0 (by omega)] at hx
    rw [putF_nat (by omega) h2] at hy
    have f1 : x.length ≤ y.length := by rw [hx, hy]; exact putG_mono 7 _ _ (by omega)
    have f2 : 1 ≤ x.length := by rw [hx]; exact putG_pos 7 _ (by omega)
    have f3 : y.length ≤ 7 := by rw [hy]; exact putG_len 7 _
    have f7 : z.length ≤ 7 := by rw [hz]; exact putF_len _
    have f4 : (u.length : Int) = (a2.size : Int) + z.length := by
      rw [hu, hz, putTextF, if_neg (by omega), hlen]; simp; omega
    have f5 : ((x.length : Int) == 1) = decide (a0 < 128) := by
      have := putG_one 6 a0.toNat (by omega)
      rw [← hx] at this
      rw [Bool.eq_iff_iff]; simp; omega
    have f6 : (x == y) = (a0 == a1) := by
      rw [Bool.eq_iff_iff, beq_iff_eq, beq_iff_eq]
      constructor
      · intro e
        have := putG_inj 7 a0.toNat a1.toNat (by omega) (by omega) (by rw [← hx, ← hy]; exact e)
        omega
      · intro e; rw [hx, hy, e]
    clear hx hy hz hu hlen
    have hb : Below w.heap.size w w := Below.refl _ _
    go_enter Try.func7, Try.ntmps7
    go_wp2_with (first
      | (go_at_call 8; refine (fixed_true _).mono ?_; rintro e w1 ⟨rfl, hb1⟩; replace hb := Below.step hb hb1; clear hb1)
      | (go_at_call 18; first | (with_reducible refine (Cx _).out.mono ?_) | (with_reducible refine (Cy _).out.mono ?_) | (with_reducible refine (Cz _).out.mono ?_)
         rintro e w1 ⟨rfl, hb1⟩; replace hb := Below.step hb hb1; clear hb1)
      | (go_at_call 22; refine (Cu _).out.mono ?_; rintro e w1 ⟨rfl, hb1⟩; replace hb := Below.step hb hb1; clear hb1))
    go_ret
    exact ⟨rfl, hb⟩
  · have hb : Below w.heap.size w w := Below.refl _ _
    by_cases c0 : a0 < 0
    · clear h
      go_enter Try.func7, Try.ntmps7
      go_wp2_with (go_at_call 8; refine (fixed_true _).mono ?_; rintro e w1 ⟨rfl, hb1⟩; replace hb := Below.step hb hb1; clear hb1)
      go_ret
      exact ⟨rfl, hb⟩
    · by_cases c1 : a1 < a0
      · clear h
        go_enter Try.func7, Try.ntmps7
        go_wp2_with (go_at_call 8; refine (fixed_true _).mono ?_; rintro e w1 ⟨rfl, hb1⟩; replace hb := Below.step hb hb1; clear hb1)
        go_ret
        exact ⟨rfl, hb⟩
      · by_cases c2 : 281474976710655 < a1
        · clear h
          go_enter Try.func7, Try.ntmps7
          go_wp2_with (go_at_call 8; refine (fixed_true _).mono ?_; rintro e w1 ⟨rfl, hb1⟩; replace hb := Below.step hb hb1; clear hb1)
          go_ret
          exact ⟨rfl, hb⟩
        · have c3 : (300 : Int) < a2.size := by omega
          clear h
          go_enter Try.func7, Try.ntmps7
          go_wp2_with (go_at_call 8; refine (fixed_true _).mono ?_; rintro e w1 ⟨rfl, hb1⟩; replace hb := Below.step hb hb1; clear hb1)
          go_ret
          exact ⟨rfl, hb⟩

/-! ### THE ROW's STEP -/

end Go.Proofs.Ytcnacdjpihbfmaa.wireOrder
