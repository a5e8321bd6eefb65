/- Layer 1: the reader's numbers and texts. -/
import Derived.Test.YteikmkbaokfgeaaWrd
namespace Go.Proofs.Yteikmkbaokfgeaa
set_option linter.unusedVariables false
set_option linter.unusedSimpArgs false
open Go.RowKit Go.ChangeShapes Go.WideShapes Go.ChangeAt

/-- What a read of a number comes to: the number, where the reader stands, its error. -/
def numF (s : List UInt8) (a e most : Int) : Int × Int × Int :=
  if e ≠ 0 then (0, a, e)
  else if (getF s a).2.2 ≠ 0 then (0, a, (getF s a).2.2)
  else if most < (getF s a).1 then (0, a, 11)
  else ((getF s a).1, (getF s a).2.1, 0)
def fixdF (s : List UInt8) (a e : Int) : Int × Int × Int :=
  if e ≠ 0 then (0, a, e)
  else if (gfxF s a).2.2 ≠ 0 then (0, a, (gfxF s a).2.2)
  else ((gfxF s a).1, (gfxF s a).2.1, 0)

theorem quiet_left {P : Program} {f : FuncId} {args : Array Value} {w : World} {n : Nat} {v : Value}
    (h : Calls P f args (w.drewN n) fun e w' => e = .returned v ∧ w.drewN n = w') : Calls P f args (w.drewN n) fun e w'' => e = .returned v ∧ ∃ m, w'' = w.drewN m :=
  h.mono fun _ _ ⟨he, hw⟩ => ⟨he, n, hw.symm⟩

set_option maxHeartbeats 1000000 in
theorem number_any {w : World} {b : Nat} {s : ByteArray} {a e : Int} (h : Rd w b s a e) (most : Int) (hs : s.size ≤ maxLen) :
    Calls Try.prog 38 #[.pointer (some ⟨b, 0, none⟩), .int .i64 most] w fun en w' => en = .returned (.int .i64 (numF s.data.toList a e most).1) ∧ Rd w' b s (numF s.data.toList a e most).2.1 (numF s.data.toList a e most).2.2 ∧ w.grownBy w' (some b) := by
  have H := Lib.hid h
  have h0 := h.c0
  have h1 := h.c1
  clear h
  by_cases he : e = 0
  · subst he
    obtain ⟨n, p, q, hg⟩ : ∃ n p q, getF s.data.toList a = (n, p, q) := ⟨_, _, _, rfl⟩
    have HG : ∀ W, Hid (Calls Try.prog 46 #[.string s, .int .i64 a] W fun e w' => e = .returned (.tuple #[.int .i64 n, .int .i64 p, .int .i64 q]) ∧ W = w') :=
      fun W => Lib.hid (by have := get_all s a W hs; rw [hg] at this; exact this)
    have hfin : numF s.data.toList a 0 most = if q ≠ 0 then (0, a, q) else if most < n then (0, a, 11) else (n, p, 0) := by
      rw [numF, if_neg (by simp), hg]
    have HF := Lib.hid hfin; clear hfin hg
    by_cases hq : q = 0
    · subst hq
      by_cases hm : most < n
      · go_enter Try.func38, Try.ntmps38
        go_wp2_with (go_at_call 37; refine (reads_any H.out).mono ?_; rintro en w' ⟨rfl, rfl⟩)
        go_quiet ((go_at_call 46; exact quiet_left (HG _).out))
        go_wp2_with (go_at_call 39; refine (take_err (H.out.drewN _) _ _ _ rfl).mono ?_; rintro en w' ⟨rfl, hr, ho⟩)
        go_ret
        rw [HF.out, if_neg (by simp), if_pos hm]
        exact ⟨rfl, hr, only_trans (only_drewN (only_refl _ _) _) ho⟩
      · go_enter Try.func38, Try.ntmps38
        go_wp2_with (go_at_call 37; refine (reads_any H.out).mono ?_; rintro en w' ⟨rfl, rfl⟩)
        go_quiet ((go_at_call 46; exact quiet_left (HG _).out))
        go_wp2_with (go_at_call 39; refine (take_ok (H.out.drewN _) _ _).mono ?_; rintro en w' ⟨rfl, hr, ho⟩)
        go_ret
        rw [HF.out, if_neg (by simp), if_neg (by omega)]
        exact ⟨rfl, hr, only_trans (only_drewN (only_refl _ _) _) ho⟩
    · have hqb : (q == 0) = false := by simpa using hq
      have hqn : (q != 0) = true := by simpa using hq
      have Hq := Lib.hid hq; clear hq
      go_enter Try.func38, Try.ntmps38
      go_wp2_with (go_at_call 37; refine (reads_any H.out).mono ?_; rintro en w' ⟨rfl, rfl⟩)
      go_quiet ((go_at_call 46; exact quiet_left (HG _).out))
      go_wp2_with (go_at_call 39; refine (take_err (H.out.drewN _) _ _ _ hqn).mono ?_; rintro en w' ⟨rfl, hr, ho⟩)
      go_ret
      rw [HF.out, if_pos Hq.out]
      exact ⟨rfl, hr, only_trans (only_drewN (only_refl _ _) _) ho⟩
  · have heb : (e == 0) = false := by simpa using he
    have hf : numF s.data.toList a e most = (0, a, e) := by rw [numF, if_pos he]
    have HF := Lib.hid hf; clear hf he
    go_enter Try.func38, Try.ntmps38
    go_wp2_with (go_at_call 37; refine (reads_any H.out).mono ?_; rintro en w' ⟨rfl, rfl⟩)
    go_ret
    rw [HF.out]
    exact ⟨rfl, H.out, only_refl _ _⟩
end Go.Proofs.Yteikmkbaokfgeaa
