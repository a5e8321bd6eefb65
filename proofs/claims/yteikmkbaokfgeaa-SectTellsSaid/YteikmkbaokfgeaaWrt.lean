/- Layer 1: what is left, the error, texts. -/
import Derived.Test.YteikmkbaokfgeaaWrn
import Derived.StillTailTactics
namespace Go.Proofs.Yteikmkbaokfgeaa
set_option linter.unusedVariables false
set_option linter.unusedSimpArgs false
open Go.RowKit Go.ChangeShapes Go.WideShapes Go.ChangeAt

set_option maxHeartbeats 1000000 in
theorem left_any {w : World} {b : Nat} {s : ByteArray} {a e : Int} (h : Rd w b s a e) (hs : s.size ≤ maxLen) (ha : 0 ≤ a) (ha' : a ≤ s.size) :
    Calls Try.prog 25 #[.pointer (some ⟨b, 0, none⟩)] w fun en w' => en = .returned (.int .i64 (if e = 0 then s.size - a else 0)) ∧ ∃ n, w' = w.drewN n := by
  have H := Lib.hid h
  have h0 := h.c0
  have h1 := h.c1
  clear h
  unfold maxLen at hs
  by_cases he : e = 0
  · subst he
    rw [if_pos rfl]
    go_enter Try.func25, Try.ntmps25
    go_wp2_with (go_at_call 37; refine (reads_any H.out).mono ?_; rintro en w' ⟨rfl, rfl⟩)
    go_quiet (fail)
    go_wp2
    go_ret
    exact ⟨rfl, _, rfl⟩
  · have heb : (e == 0) = false := by simpa using he
    rw [if_neg he]
    clear he
    go_enter Try.func25, Try.ntmps25
    go_wp2_with (go_at_call 37; refine (reads_any H.out).mono ?_; rintro en w' ⟨rfl, rfl⟩)
    go_ret
    exact ⟨rfl, 0, rfl⟩

set_option maxHeartbeats 1000000 in
theorem error_any {w : World} {b : Nat} {s : ByteArray} {a e : Int} (h : Rd w b s a e) :
    Calls Try.prog 23 #[.pointer (some ⟨b, 0, none⟩)] w fun en w' => en = .returned (.tuple #[.int .i64 e, .int .i64 (if e = 0 then 0 else a)]) ∧ ∃ n, w' = w.drewN n := by
  have h1 := h.c1
  have h2 := h.c2
  clear h
  by_cases he : e = 0
  · subst he
    rw [if_pos rfl]
    go_enter Try.func23, Try.ntmps23
    go_wp2
    go_ret2
    exact ⟨rfl, 0, rfl⟩
  · have heb : (e == 0) = false := by simpa using he
    rw [if_neg he]
    clear he
    go_enter Try.func23, Try.ntmps23
    go_wp2
    go_quiet (fail)
    go_wp2
    go_ret2
    exact ⟨rfl, _, rfl⟩

set_option maxHeartbeats 400000 in
theorem new_any (s : ByteArray) (w : World) :
    Calls Try.prog 20 #[.string s] w fun en w' => en = .returned (.pointer (some ⟨w.heap.size, 0, none⟩)) ∧ Rd w' w.heap.size s 0 0 ∧ Below w.heap.size w w' ∧ w'.heap.size = w.heap.size + 1 := by
  go_enter Try.func20, Try.ntmps20
  go_wp2
  go_ret
  exact ⟨rfl, heap_alloc_last w _, (Below.refl _ _).alloc (Nat.le_refl _) _, by simp⟩

theorem getL_bd : ∀ (l : List UInt8) (k : Nat) (n0 : Int), k ≤ 7 → 0 ≤ n0 → n0 < 128 ^ k →
    0 ≤ (getL l k n0).1 ∧ (getL l k n0).1 < 562949953421312 ∧ ((getL l k n0).2.2 = 0 → k < (getL l k n0).2.1 ∧ (getL l k n0).2.1 ≤ k + l.length) ∧ ((getL l k n0).2.2 ≠ 0 → (getL l k n0).1 = 0 ∧ (getL l k n0).2.1 = 0)
  | [], k, n0, h1, h2, h3 => by simp [getL]
  | c :: r, k, n0, h1, h2, h3 => by
    rw [getL]
    by_cases hf : flawF c.toNat k ≠ 0
    · rw [if_pos hf]; simp [hf]
    · rw [if_neg hf]
      have hk := flaw_lt _ _ h1 (by simpa using hf)
      have hg := group_in k n0 ((c.toNat : Int) % 128) hk h2 h3 (by omega) (by omega)
      by_cases hc : c.toNat < 128
      · rw [if_pos hc]
        refine ⟨hg.2.1, ?_, by simp, by simp⟩
        refine Int.lt_of_lt_of_le hg.2.2 ?_
        rcases (by omega : k = 0 ∨ k = 1 ∨ k = 2 ∨ k = 3 ∨ k = 4 ∨ k = 5 ∨ k = 6) with rfl | rfl | rfl | rfl | rfl | rfl | rfl <;> decide
      · rw [if_neg hc]
        have ih := getL_bd r (k + 1) _ (by omega) hg.2.1 hg.2.2
        refine ⟨ih.1, ih.2.1, fun h => ?_, ih.2.2.2⟩
        have := ih.2.2.1 h
        simp only [List.length_cons]
        omega

/-- What Get tells lies within its bounds. -/
theorem getF_bd (s : List UInt8) (a : Int) : 0 ≤ (getF s a).1 ∧ (getF s a).1 < 562949953421312 ∧ ((getF s a).2.2 = 0 → 0 ≤ a ∧ a < (getF s a).2.1 ∧ (getF s a).2.1 ≤ s.length) ∧ ((getF s a).2.2 ≠ 0 → (getF s a).1 = 0 ∧ (getF s a).2.1 = a) := by
  unfold getF
  by_cases h : a < 0 ∨ (s.length : Int) < a
  · simp [if_pos h]
  · rw [if_neg h]
    have hb := getL_bd (s.drop a.toNat) 0 0 (by omega) (by omega) (by decide)
    refine ⟨hb.1, hb.2.1, fun he => ?_, fun he => ?_⟩
    · have := hb.2.2.1 he
      simp only [List.length_drop] at this
      simp only []
      omega
    · have := hb.2.2.2 he
      simp [this.1, this.2]

/-- What a read of a text comes to. -/
def textF (s : List UInt8) (a e most : Int) : List UInt8 × Int × Int :=
  if (numF s a e most).2.2 ≠ 0 then ([], a, (numF s a e most).2.2)
  else if (s.length : Int) - (numF s a e most).2.1 < (numF s a e most).1 then ([], a, 10)
  else ((s.drop (numF s a e most).2.1.toNat).take (numF s a e most).1.toNat, (numF s a e most).2.1 + (numF s a e most).1, 0)
end Go.Proofs.Yteikmkbaokfgeaa
