/- Layer 1: the reader's numbers of four bytes. -/
import Derived.Test.YteikmkbaokfgeaaWrn
import Derived.Deep.RegionHeld3
import Derived.Deep.RegionWith
namespace Go.Proofs.Yteikmkbaokfgeaa
set_option linter.unusedVariables false
set_option linter.unusedSimpArgs false
open Go.RowKit Go.ChangeShapes Go.WideShapes Go.ChangeAt

set_option maxHeartbeats 1000000 in
theorem fixed_any {w : World} {b : Nat} {s : ByteArray} {a e : Int} (h : Rd w b s a e) (hs : s.size ≤ maxLen) :
    Calls Try.prog 22 #[.pointer (some ⟨b, 0, none⟩)] w fun en w' => en = .returned (.int .i64 (fixdF s.data.toList a e).1) ∧ Rd w' b s (fixdF s.data.toList a e).2.1 (fixdF s.data.toList a e).2.2 ∧ w.grownBy w' (some b) := by
  have H := Lib.hid h
  have h0 := h.c0
  have h1 := h.c1
  clear h
  by_cases he : e = 0
  · subst he
    obtain ⟨n, p, q, hg⟩ : ∃ n p q, gfxF s.data.toList a = (n, p, q) := ⟨_, _, _, rfl⟩
    have HG : ∀ W, Hid (Calls Try.prog 40 #[.string s, .int .i64 a] W fun e w' => e = .returned (.tuple #[.int .i64 n, .int .i64 p, .int .i64 q]) ∧ Below W.heap.size W w') :=
      fun W => Lib.hid (by have := getFixed_all s a W hs; rw [hg] at this; exact this)
    have hfin : fixdF s.data.toList a 0 = if q ≠ 0 then (0, a, q) else (n, p, 0) := by
      rw [fixdF, if_neg (by simp), hg]
    have HF := Lib.hid hfin; clear hfin hg
    have hlt := H.out.lt
    by_cases hq : q = 0
    · subst hq
      go_enter Try.func22, Try.ntmps22
      go_wp2_with (go_at_call 37; refine (reads_any H.out).mono ?_; rintro en w' ⟨rfl, rfl⟩)
      go_region_with (first
        | (go_at_call 40; refine (HG _).out.mono ?_; rintro en w1 ⟨rfl, hb⟩)
        | (go_at_call 39; refine (take_ok (Rd.below (w := w.drew) H.out hb hlt) _ _).mono ?_; rintro en w2 ⟨rfl, hr, ho⟩))
      all_goals
        go_wp2
        go_ret
        rw [HF.out, if_neg (by simp)]
        exact ⟨rfl, hr, only_trans (only_trans (only_drew (only_refl _ _)) (only_of_below hb _)) ho⟩
    · have hqn : (q != 0) = true := by simpa using hq
      have Hq := Lib.hid hq; clear hq
      go_enter Try.func22, Try.ntmps22
      go_wp2_with (go_at_call 37; refine (reads_any H.out).mono ?_; rintro en w' ⟨rfl, rfl⟩)
      go_region_with (first
        | (go_at_call 40; refine (HG _).out.mono ?_; rintro en w1 ⟨rfl, hb⟩)
        | (go_at_call 39; refine (take_err (Rd.below (w := w.drew) H.out hb hlt) _ _ _ hqn).mono ?_; rintro en w2 ⟨rfl, hr, ho⟩))
      all_goals
        go_wp2
        go_ret
        rw [HF.out, if_pos Hq.out]
        exact ⟨rfl, hr, only_trans (only_trans (only_drew (only_refl _ _)) (only_of_below hb _)) ho⟩
  · have heb : (e == 0) = false := by simpa using he
    have hf : fixdF s.data.toList a e = (0, a, e) := by rw [fixdF, if_pos he]
    have HF := Lib.hid hf; clear hf he
    go_enter Try.func22, Try.ntmps22
    go_wp2_with (go_at_call 37; refine (reads_any H.out).mono ?_; rintro en w' ⟨rfl, rfl⟩)
    go_ret
    rw [HF.out]
    exact ⟨rfl, H.out, only_refl _ _⟩
end Go.Proofs.Yteikmkbaokfgeaa
