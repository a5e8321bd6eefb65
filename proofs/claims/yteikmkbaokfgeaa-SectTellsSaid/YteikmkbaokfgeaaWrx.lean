/- Layer 1: the reader's texts. -/
import Derived.Test.YteikmkbaokfgeaaWrt
import Derived.Test.YteikmkbaokfgeaaKit
namespace Go.Proofs.Yteikmkbaokfgeaa
set_option linter.unusedVariables false
set_option linter.unusedSimpArgs false
open Go.RowKit Go.ChangeShapes Go.WideShapes Go.ChangeAt

theorem Rd.far {w : World} {b : Nat} {s : ByteArray} {a e : Int} (h : Rd w b s a e) {p : Addr} (hp : b ≠ p.block) (u : Value) : Rd (w.setCell p u) b s a e := (Below.heap_setCell w p u b hp).trans h
theorem Rd.alloc {w : World} {b : Nat} {s : ByteArray} {a e : Int} (h : Rd w b s a e) (o : Obj) : Rd (w.alloc o) b s a e := (Below.heap_alloc w o b h.lt).trans h

theorem Rd.set0 {w : World} {b : Nat} {s : ByteArray} {a e : Int} (h : Rd w b s a e) (s' : ByteArray) : Rd (w.setCell ⟨b, 0, none⟩ (.string s')) b s' a e := by
  unfold Rd at h ⊢; simp [World.setCell, Array.getElem?_modify, h]
set_option maxHeartbeats 1000000 in
set_option maxRecDepth 100000 in
theorem text_any {w : World} {b : Nat} {s : ByteArray} {a e : Int} (h : Rd w b s a e) (most : Int) (hs : s.size ≤ maxLen) (ha : 0 ≤ a) (ha' : a ≤ s.size) :
    Calls Try.prog 21 #[.pointer (some ⟨b, 0, none⟩), .int .i64 most] w fun en w' => en = .returned (.string ⟨(textF s.data.toList a e most).1.toArray⟩) ∧ Rd w' b s (textF s.data.toList a e most).2.1 (textF s.data.toList a e most).2.2 ∧ w.grownBy w' (some b) := by
  have H := Lib.hid h
  have h0 := h.c0
  have h1 := h.c1
  have h2 := h.c2
  have hlt := h.lt
  have hss := hs
  unfold maxLen at hss
  clear h
  by_cases he : e = 0
  · subst he
    have hbd := getF_bd s.data.toList a
    have hl : s.data.toList.length = s.size := rfl
    rw [hl] at hbd
    obtain ⟨n, p, q, hg⟩ : ∃ n p q, numF s.data.toList a 0 most = (n, p, q) := ⟨_, _, _, rfl⟩
    have hn : 0 ≤ n ∧ n < 562949953421312 ∧ (q = 0 → 0 ≤ p ∧ p ≤ s.size) ∧ (q ≠ 0 → p = a ∧ n = 0) := by
      unfold numF at hg
      rw [if_neg (by simp)] at hg
      split at hg
      · simp only [Prod.mk.injEq] at hg; omega
      · split at hg <;> simp only [Prod.mk.injEq] at hg <;> omega
    obtain ⟨n0, n1, n2, n3⟩ := hn
    have HN : ∀ {W : World}, Rd W b s a 0 → Hid (Calls Try.prog 38 #[.pointer (some ⟨b, 0, none⟩), .int .i64 most] W fun en w' => en = .returned (.int .i64 n) ∧ Rd w' b s p q ∧ W.grownBy w' (some b)) :=
      fun hW => Lib.hid (by have := number_any hW most hs; rw [hg] at this; exact this)
    have hfin : textF s.data.toList a 0 most = if q ≠ 0 then ([], a, q) else if (s.size : Int) - p < n then ([], a, 10) else ((s.data.toList.drop p.toNat).take n.toNat, p + n, 0) := by
      rw [textF, hg, hl]
    have HF := Lib.hid hfin; clear hfin hg hbd hl
    by_cases hq : q = 0
    · subst hq
      obtain ⟨p0, p1⟩ := n2 rfl
      clear n3 n2
      by_cases hm : (s.size : Int) - p < n
      · go_enter Try.func21, Try.ntmps21
        go_wp2_with (first
          | (go_at_call 37; refine (reads_any H.out).mono ?_; rintro en w' ⟨rfl, rfl⟩)
          | (go_at_call 38; refine (HN (H.out.alloc _)).out.mono ?_; rintro en w1 ⟨rfl, hr1, ho1⟩; have k := laid_kept ho1 hlt; have k0 := cell_at k 0; have k1 := cell_at k 1; have k2 := cell_at k 2; have r0 := hr1.c0; have r1 := hr1.c1; have r2 := hr1.c2; have g0 := hr1.fz 0; have g1 := hr1.fz 1; have g2 := hr1.fz 2; clear k; simp at k0 k1 k2)
          | (go_at_call 37; refine (reads_any hr1).mono ?_; rintro en w' ⟨rfl, rfl⟩)
          | (go_at_call 25; refine (left_any hr1 hs (by omega) p1).mono ?_; rintro en w2 ⟨rfl, nq, rfl⟩))
        go_ret
        rw [HF.out, if_neg (by simp), if_pos hm]
        exact ⟨rfl, ((((hr1.drewN nq).set0 s).set1 a).set2 0).set2 10,
          only_setCell (only_setCell (only_setCell (only_setCell (only_drewN (only_trans (only_alloc (only_refl _ _) _) ho1) _) (.inl rfl) _) (.inl rfl) _) (.inl rfl) _) (.inl rfl) _⟩
      · obtain ⟨p', rfl⟩ := Int.eq_ofNat_of_zero_le p0
        obtain ⟨n', rfl⟩ := Int.eq_ofNat_of_zero_le n0
        have q1 : p' + n' ≤ s.size := by omega
        have q2 : (p' : Int) + n' ≤ s.size := by omega
        have q3 : (0 : Int) ≤ (p' : Int) + n' := by omega
        have q4 : (p' : Int) ≤ (p' : Int) + n' := by omega
        have hm' : (n' : Int) ≤ (s.size : Int) - p' := by omega
        have hx : s.extract p' (p' + n') = ⟨((s.data.toList.drop p').take n').toArray⟩ := by
          apply ByteArray.ext
          simp [ByteArray.data_extract]
          apply Array.toList_inj.1
          simp [Array.toList_extract, List.extract_eq_take_drop]
        have HX := Lib.hid hx; clear hx
        have Q := Lib.hid (And.intro q1 (And.intro q2 (And.intro q3 (And.intro q4 hm'))))
        have hmb : decide ((s.size : Int) - p' < n') = false := by simp; omega
        have Hm := Lib.hid hm
        clear hm q1 q4 hm' n0 p0 n1
        go_enter Try.func21, Try.ntmps21
        go_wp2_with (first
          | (go_at_call 37; refine (reads_any H.out).mono ?_; rintro en w' ⟨rfl, rfl⟩)
          | (go_at_call 38; refine (HN (H.out.alloc _)).out.mono ?_; rintro en w1 ⟨rfl, hr1, ho1⟩; have k := laid_kept ho1 hlt; have k0 := cell_at k 0; have k1 := cell_at k 1; have k2 := cell_at k 2; have r0 := hr1.c0; have r1 := hr1.c1; have r2 := hr1.c2; have g0 := hr1.fz 0; have g1 := hr1.fz 1; have g2 := hr1.fz 2; clear k; simp at k0 k1 k2)
          | (go_at_call 37; refine (reads_any hr1).mono ?_; rintro en w' ⟨rfl, rfl⟩)
          | (go_at_call 25; refine (left_any hr1 hs (by omega) p1).mono ?_; rintro en w2 ⟨rfl, nq, rfl⟩))
        obtain ⟨q1, _, _, q4, _⟩ := Q.out
        clear Q
        have hrW := (hr1.drewN nq).set1 (p' + n')
        have hoW := only_setCell (only_drewN (only_trans (only_alloc (only_refl _ _) _) ho1) nq) (p := ⟨b, 1, none⟩) (.inl rfl) (Value.int .i64 ((p' : Int) + n'))
        generalize (World.setCell (w1.drewN nq) ⟨b, 1, none⟩ (Value.int .i64 ((p' : Int) + n'))) = W at *
        clear ho1 hr1 r0 r1 r2 g0 g1 g2 k0 k1 k2 h0 h1 h2
        have r0 := hrW.c0
        obtain ⟨m, hmm⟩ : ∃ m, m = p' + n' := ⟨_, rfl⟩
        have r1 : W.cell? ⟨b, 1, none⟩ = some (.int .i64 (m : Int)) := by have := hrW.c1; rw [this, hmm]; simp
        have m1 : p' ≤ m := by omega
        have m2 : m ≤ s.size := by omega
        have Hmm := Lib.hid hmm
        have HrW := Lib.hid hrW
        clear hmm hrW q1 q2 q3 q4 hmb hss
        rw [← Hmm.out] at HX
        go_quiet (fail)
        go_wp2
        go_ret
        rw [HF.out, if_neg (by simp), if_neg (by have := Hm.out; omega)]
        refine ⟨?_, HrW.out, only_drewN hoW _⟩
        exact congrArg (fun x => Ending.returned (Value.string x)) HX.out
    · have hqb : (q == 0) = false := by simpa using hq
      obtain ⟨rfl, rfl⟩ := n3 hq
      have Hq := Lib.hid hq; clear hq n2 n3
      go_enter Try.func21, Try.ntmps21
      go_wp2_with (first
        | (go_at_call 37; refine (reads_any H.out).mono ?_; rintro en w' ⟨rfl, rfl⟩)
        | (go_at_call 38; refine (HN (H.out.alloc _)).out.mono ?_; rintro en w1 ⟨rfl, hr1, ho1⟩; have k := laid_kept ho1 hlt; have k0 := cell_at k 0; have k1 := cell_at k 1; have k2 := cell_at k 2; have r0 := hr1.c0; have r1 := hr1.c1; have r2 := hr1.c2; have g0 := hr1.fz 0; have g1 := hr1.fz 1; have g2 := hr1.fz 2; clear k; simp at k0 k1 k2)
        | (go_at_call 37; refine (reads_any hr1).mono ?_; rintro en w' ⟨rfl, rfl⟩)
        | (go_at_call 25; refine (left_any hr1 hs (by omega) p1).mono ?_; rintro en w2 ⟨rfl, nq, rfl⟩))
      go_ret
      rw [HF.out, if_pos Hq.out]
      exact ⟨rfl, hr1, only_trans (only_alloc (only_refl _ _) _) ho1⟩
  · have heb : (e == 0) = false := by simpa using he
    have hf : textF s.data.toList a e most = ([], a, e) := by rw [textF, numF, if_pos he, if_pos he]
    have HF := Lib.hid hf; clear hf he
    go_enter Try.func21, Try.ntmps21
    go_wp2_with (go_at_call 37; refine (reads_any H.out).mono ?_; rintro en w' ⟨rfl, rfl⟩)
    go_ret
    rw [HF.out]
    exact ⟨rfl, H.out, only_refl _ _⟩
end Go.Proofs.Yteikmkbaokfgeaa
