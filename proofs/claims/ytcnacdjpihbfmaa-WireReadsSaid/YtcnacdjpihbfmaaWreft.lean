/- Layer 1: the document's answers: its reader's Fixed and Text. -/
import Derived.Test.YtcnacdjpihbfmaaWrefn
namespace Go.Proofs.Ytcnacdjpihbfmaa
set_option linter.unusedVariables false
set_option linter.unusedSimpArgs false
open Go.RowKit Go.ChangeShapes Go.WideShapes Go.ChangeAt

set_option maxHeartbeats 1000000 in
set_option maxRecDepth 100000 in
theorem rfixd_all (s : ByteArray) (a e : Int) (w : World) (hs : s.size ≤ 1048576) :
    Calls Try.prog 12 #[.agg #[.string s, .int .i64 a, .int .i64 e]] w fun en w' => en = .returned (.tuple #[.int .i64 (fixdF s.data.toList a e).1, rdV s (fixdF s.data.toList a e).2.1 (fixdF s.data.toList a e).2.2]) ∧ Below w.heap.size w w' := by
  by_cases he : e = 0
  · subst he
    obtain ⟨n, p, q, hg⟩ : ∃ n p q, gfxF s.data.toList a = (n, p, q) := ⟨_, _, _, rfl⟩
    have HG : Ct Try.prog 26 #[.string s, .int .i64 a] (.tuple #[.int .i64 n, .int .i64 p, .int .i64 q]) :=
      fun W => by have := rfix_all s a W hs; rw [hg] at this; exact this
    have hfin : fixdF s.data.toList a 0 = if q ≠ 0 then (0, a, q) else (n, p, 0) := by
      rw [fixdF, if_neg (by simp), hg]
    have HF := Lib.hid hfin; clear hfin hg
    by_cases hq : q = 0
    · subst hq
      go_enter Try.func12, Try.ntmps12
      go_wp2_with fail
      refine (HG.go _).mono ?_
      rintro e w1 ⟨rfl, hb1⟩
      obtain ⟨k1, k2, hb⟩ := two_laid (by simp) hb1
      have f0 := cell_at k1 0; have f1 := cell_at k1 1; have f2 := cell_at k1 2; have g0 := cell_at k2 0; have g1 := cell_at k2 1; have g2 := cell_at k2 2
      have y0 := fz_at k1 0; have y1 := fz_at k1 1; have y2 := fz_at k1 2; have x0 := fz_at k2 0; have x1 := fz_at k2 1; have x2 := fz_at k2 2
      clear k1 k2 hb1
      simp at f0 f1 f2 g0 g1 g2
      go_wp2
      go_region
      all_goals
        go_wp2
        refine bodyPost_ret (v := .tuple #[.int .i64 n, rdV s p 0]) (by simp [results, rdV, Try.results12, go_sem, *]) rfl ?_
        rw [HF.out, if_neg (by simp)]
        refine ⟨rfl, ?_⟩
        go_grown
    · have hqn : (q != 0) = true := by simpa using hq
      have Hq := Lib.hid hq; clear hq
      go_enter Try.func12, Try.ntmps12
      go_wp2_with fail
      refine (HG.go _).mono ?_
      rintro e w1 ⟨rfl, hb1⟩
      obtain ⟨k1, k2, hb⟩ := two_laid (by simp) hb1
      have f0 := cell_at k1 0; have f1 := cell_at k1 1; have f2 := cell_at k1 2; have g0 := cell_at k2 0; have g1 := cell_at k2 1; have g2 := cell_at k2 2
      have y0 := fz_at k1 0; have y1 := fz_at k1 1; have y2 := fz_at k1 2; have x0 := fz_at k2 0; have x1 := fz_at k2 1; have x2 := fz_at k2 2
      clear k1 k2 hb1
      simp at f0 f1 f2 g0 g1 g2
      go_wp2
      go_region
      all_goals
        go_wp2
        refine bodyPost_ret (v := .tuple #[.int .i64 0, rdV s a q]) (by simp [results, rdV, Try.results12, go_sem, *]) rfl ?_
        rw [HF.out, if_pos Hq.out]
        refine ⟨rfl, ?_⟩
        go_grown
  · have heb : (e != 0) = true := by simpa using he
    have hf : fixdF s.data.toList a e = (0, a, e) := by rw [fixdF, if_pos he]
    have HF := Lib.hid hf; clear hf he
    go_enter Try.func12, Try.ntmps12
    go_wp2
    go_region
    all_goals
      go_wp2
      go_returns
      rw [HF.out]
      refine ⟨rfl, ?_⟩
      go_grown
set_option maxHeartbeats 2000000 in
set_option maxRecDepth 100000 in
theorem rtext_all (s : ByteArray) (a e most : Int) (w : World) (hs : s.size ≤ 1048576) (ha : 0 ≤ a) (ha' : a ≤ s.size) :
    Calls Try.prog 14 #[.agg #[.string s, .int .i64 a, .int .i64 e], .int .i64 most] w fun en w' => en = .returned (.tuple #[.string ⟨(textF s.data.toList a e most).1.toArray⟩, rdV s (textF s.data.toList a e most).2.1 (textF s.data.toList a e most).2.2]) ∧ Below w.heap.size w w' := by
  have hbd := getF_bd s.data.toList a
  have hl : s.data.toList.length = s.size := rfl
  rw [hl] at hbd
  obtain ⟨n, p, q, hg⟩ : ∃ n p q, numF s.data.toList a e most = (n, p, q) := ⟨_, _, _, rfl⟩
  have hn : 0 ≤ n ∧ n < 562949953421312 ∧ (q = 0 → 0 ≤ p ∧ p ≤ s.size) ∧ (q ≠ 0 → p = a ∧ n = 0) := by
    unfold numF at hg
    split at hg
    · simp only [Prod.mk.injEq] at hg; omega
    · split at hg
      · simp only [Prod.mk.injEq] at hg; omega
      · split at hg <;> simp only [Prod.mk.injEq] at hg <;> omega
  obtain ⟨n0, n1, n2, n3⟩ := hn
  have HN : Ct Try.prog 10 #[.agg #[.string s, .int .i64 a, .int .i64 e], .int .i64 most] (.tuple #[.int .i64 n, .agg #[.string s, .int .i64 p, .int .i64 q]]) :=
    fun W => by have := rnum_all s a e most W hs; rw [hg] at this; exact this
  have hfin : textF s.data.toList a e most = if q ≠ 0 then ([], a, q) else if (s.size : Int) - p < n then ([], a, 10) else ((s.data.toList.drop p.toNat).take n.toNat, p + n, 0) := by
    rw [textF, hg, hl]
  have HF := Lib.hid hfin; clear hfin hg hbd hl
  by_cases hq : q = 0
  · subst hq
    obtain ⟨p0, p1⟩ := n2 rfl
    clear n3 n2
    by_cases hm : (s.size : Int) - p < n
    · go_enter Try.func14, Try.ntmps14
      go_wp2_with fail
      refine (HN.go _).mono ?_
      rintro e w1 ⟨rfl, hb1⟩
      obtain ⟨k1, k2, hb⟩ := two_laid (by simp) hb1
      have f0 := cell_at k1 0; have f1 := cell_at k1 1; have f2 := cell_at k1 2; have g0 := cell_at k2 0; have g1 := cell_at k2 1; have g2 := cell_at k2 2
      have y0 := fz_at k1 0; have y1 := fz_at k1 1; have y2 := fz_at k1 2; have x0 := fz_at k2 0; have x1 := fz_at k2 1; have x2 := fz_at k2 2
      have hsz := hb1.size
      simp at hsz
      have hlt0 : w.heap.size < w1.heap.size := by omega
      have hlt1 : w.heap.size + 1 < w1.heap.size := by omega
      clear k1 k2 hb1 hsz
      simp at f0 f1 f2 g0 g1 g2
      go_wp2
      go_region
      all_goals
        go_wp2
        refine bodyPost_ret (v := .tuple #[.string ⟨#[]⟩, rdV s a 10]) (by simp [results, rdV, Try.results14, go_sem, *]) rfl ?_
        rw [HF.out, if_neg (by simp), if_pos hm]
        refine ⟨rfl, ?_⟩
        go_grown
    · obtain ⟨p', rfl⟩ := Int.eq_ofNat_of_zero_le p0
      obtain ⟨n', rfl⟩ := Int.eq_ofNat_of_zero_le n0
      have q1 : p' + n' ≤ s.size := by omega
      have q2 : (p' : Int) + n' ≤ s.size := by omega
      have q3 : (0 : Int) ≤ (p' : Int) + n' := by omega
      have q4 : (p' : Int) ≤ (p' : Int) + n' := by omega
      have hx : s.extract p' (p' + n') = ⟨((s.data.toList.drop p').take n').toArray⟩ := by
        apply ByteArray.ext
        simp [ByteArray.data_extract]
        apply Array.toList_inj.1
        simp [Array.toList_extract, List.extract_eq_take_drop]
      have HX := Lib.hid hx; clear hx
      have hmb : decide ((s.size : Int) - p' < n') = false := by simp; omega
      have Hm := Lib.hid hm
      clear hm n0 p0 n1
      go_enter Try.func14, Try.ntmps14
      go_wp2_with fail
      refine (HN.go _).mono ?_
      rintro e w1 ⟨rfl, hb1⟩
      obtain ⟨k1, k2, hb⟩ := two_laid (by simp) hb1
      have f0 := cell_at k1 0; have f1 := cell_at k1 1; have f2 := cell_at k1 2; have g0 := cell_at k2 0; have g1 := cell_at k2 1; have g2 := cell_at k2 2
      have y0 := fz_at k1 0; have y1 := fz_at k1 1; have y2 := fz_at k1 2; have x0 := fz_at k2 0; have x1 := fz_at k2 1; have x2 := fz_at k2 2
      have hsz := hb1.size
      simp at hsz
      have hlt0 : w.heap.size < w1.heap.size := by omega
      have hlt1 : w.heap.size + 1 < w1.heap.size := by omega
      clear k1 k2 hb1 hsz
      simp at f0 f1 f2 g0 g1 g2
      go_wp2
      go_region
      all_goals
        go_wp2
        refine bodyPost_ret (v := .tuple #[.string (s.extract p' (p' + n')), rdV s (p' + n') 0]) (by simp [results, rdV, Try.results14, go_sem, *]) rfl ?_
        rw [HF.out, if_neg (by simp), if_neg (by have := Hm.out; omega)]
        refine ⟨by rw [HX.out]; rfl, ?_⟩
        go_grown
  · obtain ⟨rfl, rfl⟩ := n3 hq
    have hqn : (q != 0) = true := by simpa using hq
    have Hq := Lib.hid hq; clear hq n2 n3
    go_enter Try.func14, Try.ntmps14
    go_wp2_with fail
    refine (HN.go _).mono ?_
    rintro e w1 ⟨rfl, hb1⟩
    obtain ⟨k1, k2, hb⟩ := two_laid (by simp) hb1
    have f0 := cell_at k1 0; have f1 := cell_at k1 1; have f2 := cell_at k1 2; have g0 := cell_at k2 0; have g1 := cell_at k2 1; have g2 := cell_at k2 2
    have y0 := fz_at k1 0; have y1 := fz_at k1 1; have y2 := fz_at k1 2; have x0 := fz_at k2 0; have x1 := fz_at k2 1; have x2 := fz_at k2 2
    have hsz := hb1.size
    simp at hsz
    have hlt0 : w.heap.size < w1.heap.size := by omega
    have hlt1 : w.heap.size + 1 < w1.heap.size := by omega
    clear k1 k2 hb1 hsz
    simp at f0 f1 f2 g0 g1 g2
    go_wp2
    go_region
    all_goals
      go_wp2
      refine bodyPost_ret (v := .tuple #[.string ⟨#[]⟩, rdV s p q]) (by simp [results, rdV, Try.results14, go_sem, *]) rfl ?_
      rw [HF.out, if_pos Hq.out]
      refine ⟨rfl, ?_⟩
      go_grown
end Go.Proofs.Ytcnacdjpihbfmaa
