/- Layer 9: FrameGives: an end that is given to a slot that is busy is taken there, once; who waits for it waits no longer; other slots stay; in whatever order two are given all is the same. For all frames. -/
import Derived.Test.YtjnbockdfjhfgaaDoorzL9fix
import Derived.Test.YtjnbockdfjhfgaaDoorzHi
import Derived.Test.YtjnbockdfjhfgaaDoorzHa
namespace Go.Proofs.YtjnbockdfjhfgaaDoor.frameGives
set_option linter.unusedVariables false
set_option linter.unusedSimpArgs false
open Gm Go.RowKit Go.ChangeShapes Go.WideShapes Go.ChangeAt Go.Sort

abbrev outs (a b c d e f : Int) : Array Value := #[.int .i64 a, .int .i64 b, .int .i64 c, .int .i64 d, .int .i64 e, .int .i64 f]
abbrev ats (a b : Int) : Array Value := #[.int .i64 a, .int .i64 b]
theorem slotAt {W : World} {B g k : Nat} {cs : Array Value} {F : Frm} (h : FB W B g cs F) {x : Slt} (hx : F.slt[k]? = some x) : ∃ b c, cs[4]? = some (.slice (some ⟨b, 0, none⟩) F.slt.length c) ∧
    W.cell? ⟨b, k * 6, none⟩ = some (.int .i64 x.st) ∧ W.cell? ⟨b, k * 6 + 3, none⟩ = some (.int .i64 x.tr) ∧ W.cell? ⟨b, k * 6 + 4, none⟩ = some (.int .i64 x.re) ∧ W.cell? ⟨b, k * 6 + 5, none⟩ = some (.int .i64 x.im) := by
  obtain ⟨hk, rfl⟩ := List.getElem?_eq_some_iff.1 hx
  obtain ⟨s, l, o, e, _, _, h1⟩ := h.own
  obtain ⟨b, c', e2⟩ := own_form h1 (by omega)
  rw [e2] at h1 e
  obtain ⟨⟨k0, _, _, k3, k4, k5⟩, _⟩ := own_ss h1 hk
  simp only [Value.agg.injEq] at e
  subst e
  exact ⟨b, c', rfl, k0, k3, k4, k5⟩
set_option maxHeartbeats 4000000 in
set_option maxRecDepth 100000 in
theorem out {v : Value} {F : Frm} (a0 a1 t0 x0 y0 t1 x1 y1 : Int) (w : World) (hT : TabB w w.heap.size) (hf : FrmAt w w.heap.size v F) (hs : (decide (F.stk.length ≤ 40) && decide (F.loc.length ≤ 40) && decide (F.slt.length ≤ 40)) = false) :
    Calls Tryd.prog 5 #[v, .agg (ats a0 a1), .agg (outs t0 x0 y0 t1 x1 y1)] w fun e w' => e = .returned (.bool true) ∧ Below w.heap.size w w' := by
  obtain ⟨cs, rfl, hc⟩ := hf.cells
  have S9 := fun W (hw : Below w.heap.size w W) => Lib.hid (rsmallf_any W (hf.below hw (Nat.le_refl _)))
  have F9 := fun W (hw : Below w.heap.size w W) => Lib.hid (fixed9 W ((hT.below hw (Nat.le_refl _)).more hw.size))
  have hw : Below w.heap.size w (((w.alloc (.cells cs 40)).alloc (.cells (ats a0 a1) 56)).alloc (.cells (outs t0 x0 y0 t1 x1 y1) 57)) := below3 w _ _ _
  have hP : PB (((w.alloc (.cells cs 40)).alloc (.cells (ats a0 a1) 56)).alloc (.cells (outs t0 x0 y0 t1 x1 y1) 57)) w.heap.size w.heap.size cs F := ⟨((Held.new _ _ _).alloc _).alloc _, hf.below hw (Nat.le_refl _), hc, hw.size⟩
  have hA : Held (((w.alloc (.cells cs 40)).alloc (.cells (ats a0 a1) 56)).alloc (.cells (outs t0 x0 y0 t1 x1 y1) 57)) (w.heap.size + 1) 56 (ats a0 a1) := (Held.new1 _ _ _ _).alloc _
  have hO : Held (((w.alloc (.cells cs 40)).alloc (.cells (ats a0 a1) 56)).alloc (.cells (outs t0 x0 y0 t1 x1 y1) 57)) (w.heap.size + 1 + 1) 57 (outs t0 x0 y0 t1 x1 y1) := Held.new2 _ _ _ _ _
  rw [hs] at S9
  clear hT hf hc hs
  go_enter Tryd.func5, Tryd.ntmps5
  go_wp2_with (first
      | (refine wpList_box_arr rfl 40 (.tmp 0) rfl cs rfl ?_)
      | (refine wpList_box_arr rfl 56 (.tmp 1) rfl (ats a0 a1) rfl ?_)
      | (refine wpList_box_arr rfl 57 (.tmp 2) rfl (outs t0 x0 y0 t1 x1 y1) rfl ?_)
      | (go_at_call 7; (with_reducible refine (F9 _ hw).out.mono ?_); rintro _ u ⟨rfl, hb⟩; replace hP := hP.below hb; replace hA := hA.below hb; replace hO := hO.below hb; replace hw := hw.trans (hb.mono hw.size); clear hb)
      | (guard_target = wpList _ _ _ (Oper.mk _ (Op.load 40 (.tmp 3)) _ _ _ (some _) :: _) _ _; refine wpList_load_rowG 40 (.tmp 3) rfl w.heap.size rfl 40 _ (0, 0) _ hP.held Tryd.underlying40 rfl (fb_info hP.fc) rfl ?_)
      | (go_at_call 13; (with_reducible refine (S9 _ hw).out.mono ?_); rintro _ u ⟨rfl, hb⟩; replace hP := hP.below hb; replace hA := hA.below hb; replace hO := hO.below hb; replace hw := hw.trans (hb.mono hw.size); clear hb))
  go_ret
  exact ⟨rfl, hw⟩
set_option maxHeartbeats 4000000 in
set_option maxRecDepth 100000 in
theorem good {v : Value} {F : Frm} (a0 a1 t0 x0 y0 t1 x1 y1 : Int) (w : World) (hT : TabB w w.heap.size) (hf : FrmAt w w.heap.size v F) (hs : (decide (F.stk.length ≤ 40) && decide (F.loc.length ≤ 40) && decide (F.slt.length ≤ 40)) = true) :
    Calls Tryd.prog 5 #[v, .agg (ats a0 a1), .agg (outs t0 x0 y0 t1 x1 y1)] w fun e w' => e = .returned (.bool true) ∧ Below w.heap.size w w' := by
  obtain ⟨cs, rfl, hc⟩ := hf.cells
  have S9 := fun W (hw : Below w.heap.size w W) => Lib.hid (rsmallf_any W (hf.below hw (Nat.le_refl _)))
  have F9 := fun W (hw : Below w.heap.size w W) => Lib.hid (fixed9 W ((hT.below hw (Nat.le_refl _)).more hw.size))
  have hw : Below w.heap.size w (((w.alloc (.cells cs 40)).alloc (.cells (ats a0 a1) 56)).alloc (.cells (outs t0 x0 y0 t1 x1 y1) 57)) := below3 w _ _ _
  have hP : PB (((w.alloc (.cells cs 40)).alloc (.cells (ats a0 a1) 56)).alloc (.cells (outs t0 x0 y0 t1 x1 y1) 57)) w.heap.size w.heap.size cs F := ⟨((Held.new _ _ _).alloc _).alloc _, hf.below hw (Nat.le_refl _), hc, hw.size⟩
  have hA : Held (((w.alloc (.cells cs 40)).alloc (.cells (ats a0 a1) 56)).alloc (.cells (outs t0 x0 y0 t1 x1 y1) 57)) (w.heap.size + 1) 56 (ats a0 a1) := (Held.new1 _ _ _ _).alloc _
  have hO : Held (((w.alloc (.cells cs 40)).alloc (.cells (ats a0 a1) 56)).alloc (.cells (outs t0 x0 y0 t1 x1 y1) 57)) (w.heap.size + 1 + 1) 57 (outs t0 x0 y0 t1 x1 y1) := Held.new2 _ _ _ _ _
  have CX := Lib.hid (cx_of (c := 0) hT (ProgAt.nil w w.heap.size none) nil_sized)
  rw [hs] at S9
  simp only [Bool.and_eq_true, decide_eq_true_eq] at hs
  have hlF : FrmLen F := ⟨by omega, by omega, by omega⟩
  have HF := Lib.hid hlF
  have hlen := fun (f : Frm) (hl : FrmLen f) sl t v => (show FrmLen (giveF f sl t v).1 from ⟨by rw [(give_lens f sl t v).1]; exact hl.stk, by rw [(give_lens f sl t v).2.1]; exact hl.loc, by rw [(give_lens f sl t v).2.2]; exact hl.slt⟩)
  have hlG := hlen F hlF a0 t0 (x0, y0)
  have hno := @give_no F a0 t0 (x0, y0)
  have hyes := @give_yes F a0 t0 (x0, y0)
  have hag := @give_again F a0 t0 t1 (x0, y0) (x1, y1)
  have hsl := (give_lens F a0 t0 (x0, y0)).2.2
  have hsw := fun h : a0 ≠ a1 => give_swap F h t0 t1 (x0, y0) (x1, y1)
  generalize hR1 : giveF F a0 t0 (x0, y0) = R1 at *
  obtain ⟨G, is⟩ := R1
  simp only at hno hyes hag hlG hsl hsw
  have HG := Lib.hid hlG
  have HR1 := Lib.hid hR1
  have HNO := Lib.hid hno
  have HYES := Lib.hid hyes
  have HAG := Lib.hid hag
  have HSL := Lib.hid hsl
  have HSW := Lib.hid hsw
  have HLEN := Lib.hid hlen
  clear hT hf hc hs hlF hlen hlG hR1 hno hyes hag hsl hsw
  go_enter Tryd.func5, Tryd.ntmps5
  go_upto_region 3 with (first
      | (refine wpList_box_arr rfl 40 (.tmp 0) rfl cs rfl ?_)
      | (refine wpList_box_arr rfl 56 (.tmp 1) rfl (ats a0 a1) rfl ?_)
      | (refine wpList_box_arr rfl 57 (.tmp 2) rfl (outs t0 x0 y0 t1 x1 y1) rfl ?_)
      | (go_at_call 7; (with_reducible refine (F9 _ hw).out.mono ?_); rintro _ u ⟨rfl, hb⟩; replace hP := hP.below hb; replace hA := hA.below hb; replace hO := hO.below hb; replace hw := hw.trans (hb.mono hw.size); clear hb)
      | (guard_target = wpList _ _ _ (Oper.mk _ (Op.load 40 (.tmp 3)) _ _ _ (some _) :: _) _ _; refine wpList_load_rowG 40 (.tmp 3) rfl w.heap.size rfl 40 _ (0, 0) _ hP.held Tryd.underlying40 rfl (fb_info hP.fc) rfl ?_)
      | (go_at_call 13; (with_reducible refine (S9 _ hw).out.mono ?_); rintro _ u ⟨rfl, hb⟩; replace hP := hP.below hb; replace hA := hA.below hb; replace hO := hO.below hb; replace hw := hw.trans (hb.mono hw.size); clear hb))
  clear S9 F9
  have xa0 := hA.cell 0
  have xa1 := hA.cell 1
  have xo0 := hO.cell 0
  have xo1 := hO.cell 1
  have xo2 := hO.cell 2
  have xo3 := hO.cell 3
  have xo4 := hO.cell 4
  have xo5 := hO.cell 5
  simp at xa0 xa1 xo0 xo1 xo2 xo3 xo4 xo5
  go_upto_region 4 with (first
    | (guard_target = wpList _ _ _ (Oper.mk _ (Op.load 40 (.tmp 3)) _ _ _ none :: _) _ _; refine wpList_load_row rfl 40 (.tmp 3) rfl w.heap.size rfl 40 _ (0, 0) _ hP.held Tryd.underlying40 rfl (fb_info hP.fc) ?_)
    | (go_at_call 17; (with_reducible refine (CX.out.giv _ F _ _ a0 t0 x0 y0 hw hP.frm HF.out HR1.out).mono ?_); rintro _ u ⟨v', rfl, ho, hb⟩; obtain ⟨cs', rfl, hc'⟩ := ho.cells; have hg2 := Held.new u 40 fz0)
    | (refine wpList_store_row rfl 40 _ _ rfl u.heap.size cs' rfl rfl _ _ hg2 (fb_info hc') hc'.size.symm hc'.one ?_))
  obtain ⟨hN, hbW, hs, hw1⟩ := fr_stored (z := fz0) hw hw.size hb ho hc'
  replace hP := hP.below hbW
  replace hA := hA.below hbW
  replace hO := hO.below hbW
  have hG := hN
  clear ho hc' hg2 hb hs hN hw hbW
  clear xa0 xa1 xo0 xo1 xo2 xo3 xo4 xo5
  have hw := hw1
  clear hw1
  generalize World.setRow _ u.heap.size cs' = W3 at *
  generalize u.heap.size = g7 at *
  replace hG : FB _ _ _ _ G := hG
  cases is
  · obtain rfl := HNO.out rfl
    clear HNO HYES HAG HSL HSW HLEN
    go_wp2_with (first
      | (guard_target = wpList _ _ _ (Oper.mk _ (Op.load 40 (.tmp 7)) _ _ _ none :: _) _ _; refine wpList_load_row rfl 40 (.tmp 7) rfl g7 rfl 40 _ (0, 0) _ hG.held Tryd.underlying40 rfl (fb_info hG.fc) ?_)
      | (guard_target = wpList _ _ _ (Oper.mk _ (Op.load 40 (.tmp 3)) _ _ _ none :: _) _ _; refine wpList_load_row rfl 40 (.tmp 3) rfl w.heap.size rfl 40 _ (0, 0) _ hP.held Tryd.underlying40 rfl (fb_info hP.fc) ?_)
      | (go_at_call 15; (with_reducible refine (rsame_eq _ hG.frm hP.frm HG.out (Nat.le_refl _) (Nat.le_refl _)).mono ?_); rintro _ u2 ⟨rfl, hb2⟩; replace hw := hw.trans (hb2.mono hw.size)))
    go_ret
    exact ⟨rfl, hw⟩
  · have hag2 := HAG.out rfl
    obtain ⟨k, hk0, hk, hsl, hnw, _⟩ := HYES.out rfl
    subst hk0
    have HAG2 := Lib.hid hag2
    have HK := Lib.hid hk
    have HS := Lib.hid hsl
    have HNW := Lib.hid hnw
    clear HNO HYES HAG hag2 hk hsl hnw
    go_upto_region 6 with fail
    have xa0 := hA.cell 0
    have xa1 := hA.cell 1
    have xo0 := hO.cell 0
    have xo1 := hO.cell 1
    have xo2 := hO.cell 2
    have xo3 := hO.cell 3
    have xo4 := hO.cell 4
    have xo5 := hO.cell 5
    simp at xa0 xa1 xo0 xo1 xo2 xo3 xo4 xo5
    go_upto_region 7 with (first
      | (guard_target = wpList _ _ _ (Oper.mk _ (Op.load 40 (.tmp 7)) _ _ _ none :: _) _ _; refine wpList_load_row rfl 40 (.tmp 7) rfl g7 rfl 40 _ (0, 0) _ hG.held Tryd.underlying40 rfl (fb_info hG.fc) ?_)
      | (go_at_call 17; (with_reducible refine (CX.out.giv _ G _ _ k t1 x1 y1 hw hG.frm HG.out HAG2.out).mono ?_); rintro _ u ⟨v', rfl, ho, hb⟩; obtain ⟨cs', rfl, hc'⟩ := ho.cells; have hg2 := Held.new u 40 fz0)
      | (refine wpList_store_row rfl 40 _ _ rfl u.heap.size cs' rfl rfl _ _ hg2 (fb_info hc') hc'.size.symm hc'.one ?_))
    obtain ⟨hN, hbW, hs, hw1⟩ := fr_stored (z := fz0) hw hw.size hb ho hc'
    replace hG := hG.below hbW
    replace hP := hP.below hbW
    replace hA := hA.below hbW
    replace hO := hO.below hbW
    have hB := hN
    clear ho hc' hg2 hb hs hN hw hbW
    clear xa0 xa1 xo0 xo1 xo2 xo3 xo4 xo5
    have hw := hw1
    clear hw1
    generalize World.setRow _ u.heap.size cs' = W6 at *
    generalize u.heap.size = g9 at *
    replace hB : FB _ _ _ _ G := hB
    have hn1 : (G.st == 1) = false ∨ ((G.st == 1) = true ∧ (G.wt == (k : Int)) = false) := by
      by_cases h : G.st = 1
      · exact .inr ⟨by simpa using h, by simpa using fun e => HNW.out ⟨h, e⟩⟩
      · exact .inl (by simpa using h)
    have hkl : (k : Int) < F.slt.length := by have := HK.out; omega
    have hk00 : ¬ ((k : Int) < 0) := by omega
    have n5 : ((F.slt.length : Int) != F.slt.length) = false := by simp
    obtain ⟨A4, c4, e4⟩ := hG.fc.c4
    obtain ⟨B4, d4, i4⟩ := hP.fc.c4
    rw [HSL.out] at e4
    go_upto_if 88 with (first
      | (guard_target = wpList _ _ _ (Oper.mk _ (Op.load 40 (.tmp 7)) _ _ _ (some _) :: _) _ _; refine wpList_load_rowG 40 (.tmp 7) rfl g7 rfl 40 _ (0, 0) _ hG.held Tryd.underlying40 rfl (fb_info hG.fc) rfl ?_)
      | (guard_target = wpList _ _ _ (Oper.mk _ (Op.load 40 (.tmp 9)) _ _ _ (some _) :: _) _ _; refine wpList_load_rowG 40 (.tmp 9) rfl g9 rfl 40 _ (0, 0) _ hB.held Tryd.underlying40 rfl (fb_info hB.fc) rfl ?_)
      | (go_at_call 15; (with_reducible refine (rsame_eq _ hG.frm hB.frm HG.out (Nat.le_refl _) (Nat.le_refl _)).mono ?_); rintro _ u2 ⟨rfl, hb2⟩; replace hP := hP.below hb2; replace hA := hA.below hb2; replace hO := hO.below hb2; replace hG := hG.below hb2; replace hB := hB.below hb2; replace hw := hw.trans (hb2.mono hw.size); clear hb2; have y8 := (hG.held.cell 8).trans hG.fc.c8; have y9 := (hG.held.cell 9).trans hG.fc.c9; have y4 := (hG.held.cell 4).trans e4; have x4 := (hP.held.cell 4).trans i4; have xa0 := hA.cell 0; simp at xa0; rcases hn1 with hn1 | ⟨hn1, hn2⟩))
    all_goals
      clear y8 y9 y4 x4 xa0 hn1 n5
      try clear hn2
      clear hB e4 i4
      have hGk : G.slt[k]? = some ⟨2, -1, 0, t0, x0, y0⟩ := by rw [HS.out, List.getElem?_set_self HK.out]
      obtain ⟨sb, sc, e4, s0, s3, s4, s5⟩ := slotAt hG hGk
      simp only at s0 s3 s4 s5
      rw [HSL.out] at e4
      have y4 := (hG.held.cell 4).trans e4
      have xa0 := hA.cell 0
      have xo0 := hO.cell 0
      have xo1 := hO.cell 1
      have xo2 := hO.cell 2
      simp at xa0 xo0 xo1 xo2
      have NEO : ∀ W, (binOp .neq 36 (outv t0 x0 y0) (outv t0 x0 y0)).run Tryd.prog W = .ok (.bool false) W := fun W => by simp [go_sem]
      clear hGk e4
      go_upto_region 9 with fail
      go_wp2_with fail
      go_quiet (fail)
      have hDr := below_drewN (Below.refl u2.heap.size u2) nq
      replace hP := hP.below hDr
      replace hA := hA.below hDr
      replace hO := hO.below hDr
      replace hG := hG.below hDr
      replace hw := hw.trans (hDr.mono hw.size)
      clear hDr s0 s3 s4 s5 y4 xa0 xo0 xo1 xo2 NEO
      generalize World.drewN u2 nq = W9 at *
      have xa0 := hA.cell 0
      have xa1 := hA.cell 1
      simp at xa0 xa1
      by_cases heq : (k : Int) = a1
      · have he1 : ((k : Int) == a1) = true := by simpa using heq
        clear heq
        go_wp2_with fail
        go_ret
        exact ⟨rfl, hw⟩
      · have he1 : ((k : Int) == a1) = false := by simpa using heq
        have hsw := HSW.out heq
        have HSW2 := Lib.hid hsw
        clear heq hsw HSW
        go_upto_region 13 with fail
        clear xa0 xa1
        have xa0 := hA.cell 0
        have xa1 := hA.cell 1
        have xo0 := hO.cell 0
        have xo1 := hO.cell 1
        have xo2 := hO.cell 2
        have xo3 := hO.cell 3
        have xo4 := hO.cell 4
        have xo5 := hO.cell 5
        simp at xa0 xa1 xo0 xo1 xo2 xo3 xo4 xo5
        go_upto_region 14 with (first
          | (guard_target = wpList _ _ _ (Oper.mk _ (Op.load 40 (.tmp 7)) _ _ _ none :: _) _ _; refine wpList_load_row rfl 40 (.tmp 7) rfl g7 rfl 40 _ (0, 0) _ hG.held Tryd.underlying40 rfl (fb_info hG.fc) ?_)
          | (go_at_call 17; (with_reducible refine (CX.out.giv _ G _ _ a1 t1 x1 y1 hw hG.frm HG.out rfl).mono ?_); rintro _ u ⟨v', rfl, ho, hb⟩; obtain ⟨cs', rfl, hc'⟩ := ho.cells; have hg2 := Held.new u 40 fz0)
          | (refine wpList_store_row rfl 40 _ _ rfl u.heap.size cs' rfl rfl _ _ hg2 (fb_info hc') hc'.size.symm hc'.one ?_))
        obtain ⟨hN, hbW, hs, hw1⟩ := fr_stored (z := fz0) hw hw.size hb ho hc'
        clear hG
        replace hP := hP.below hbW
        replace hA := hA.below hbW
        replace hO := hO.below hbW
        have hC := hN
        clear ho hc' hg2 hb hs hN hw hbW
        clear xa0 xa1 xo0 xo1 xo2 xo3 xo4 xo5
        have hw := hw1
        clear hw1
        generalize World.setRow _ u.heap.size cs' = W13 at *
        generalize u.heap.size = g11 at *
        have xa0 := hA.cell 0
        have xa1 := hA.cell 1
        have xo0 := hO.cell 0
        have xo1 := hO.cell 1
        have xo2 := hO.cell 2
        have xo3 := hO.cell 3
        have xo4 := hO.cell 4
        have xo5 := hO.cell 5
        simp at xa0 xa1 xo0 xo1 xo2 xo3 xo4 xo5
        go_upto_region 15 with (first
          | (guard_target = wpList _ _ _ (Oper.mk _ (Op.load 40 (.tmp 3)) _ _ _ none :: _) _ _; refine wpList_load_row rfl 40 (.tmp 3) rfl w.heap.size rfl 40 _ (0, 0) _ hP.held Tryd.underlying40 rfl (fb_info hP.fc) ?_)
          | (go_at_call 17; (with_reducible refine (CX.out.giv _ F _ _ a1 t1 x1 y1 hw hP.frm HF.out rfl).mono ?_); rintro _ u ⟨v', rfl, ho, hb⟩; obtain ⟨cs', rfl, hc'⟩ := ho.cells; have hg2 := Held.new u 40 fz0)
          | (refine wpList_store_row rfl 40 _ _ rfl u.heap.size cs' rfl rfl _ _ hg2 (fb_info hc') hc'.size.symm hc'.one ?_))
        obtain ⟨hN, hbW, hs, hw1⟩ := fr_stored (z := fz0) hw hw.size hb ho hc'
        replace hC := hC.below hbW
        replace hP := hP.below hbW
        replace hA := hA.below hbW
        replace hO := hO.below hbW
        have hDD := hN
        clear ho hc' hg2 hb hs hN hw hbW
        clear xa0 xa1 xo0 xo1 xo2 xo3 xo4 xo5
        have hw := hw1
        clear hw1
        generalize World.setRow _ u.heap.size cs' = W14 at *
        generalize u.heap.size = g13 at *
        have hLD := HLEN.out F HF.out a1 t1 (x1, y1)
        have HLD := Lib.hid hLD
        clear hLD
        replace hDD : FB _ _ _ _ (giveF F a1 t1 (x1, y1)).1 := hDD
        have xa0 := hA.cell 0
        have xa1 := hA.cell 1
        have xo0 := hO.cell 0
        have xo1 := hO.cell 1
        have xo2 := hO.cell 2
        have xo3 := hO.cell 3
        have xo4 := hO.cell 4
        have xo5 := hO.cell 5
        simp at xa0 xa1 xo0 xo1 xo2 xo3 xo4 xo5
        go_upto_region 16 with (first
          | (guard_target = wpList _ _ _ (Oper.mk _ (Op.load 40 (.tmp 13)) _ _ _ none :: _) _ _; refine wpList_load_row rfl 40 (.tmp 13) rfl g13 rfl 40 _ (0, 0) _ hDD.held Tryd.underlying40 rfl (fb_info hDD.fc) ?_)
          | (go_at_call 17; (with_reducible refine (CX.out.giv _ (giveF F a1 t1 (x1, y1)).1 _ _ k t0 x0 y0 hw hDD.frm HLD.out rfl).mono ?_); rintro _ u ⟨v', rfl, ho, hb⟩; obtain ⟨cs', rfl, hc'⟩ := ho.cells; have hg2 := Held.new u 40 fz0)
          | (refine wpList_store_row rfl 40 _ _ rfl u.heap.size cs' rfl rfl _ _ hg2 (fb_info hc') hc'.size.symm hc'.one ?_))
        obtain ⟨hN, hbW, hs, hw1⟩ := fr_stored (z := fz0) hw hw.size hb ho hc'
        replace hC := hC.below hbW
        replace hP := hP.below hbW
        replace hA := hA.below hbW
        replace hO := hO.below hbW
        have hE := hN
        clear ho hc' hg2 hb hs hN hw hbW
        clear xa0 xa1 xo0 xo1 xo2 xo3 xo4 xo5
        have hw := hw1
        clear hw1
        generalize World.setRow _ u.heap.size cs' = W15 at *
        generalize u.heap.size = g15 at *
        replace hE : FB _ _ _ _ (giveF (giveF F a1 t1 (x1, y1)).1 k t0 (x0, y0)).1 := hE
        rw [← HSW2.out] at hE
        replace hC : FB _ _ _ _ (giveF G a1 t1 (x1, y1)).1 := hC
        have hLC := HLEN.out G HG.out a1 t1 (x1, y1)
        generalize (giveF G a1 t1 (x1, y1)).1 = Z at *
        go_wp2_with (first
          | (guard_target = wpList _ _ _ (Oper.mk _ (Op.load 40 (.tmp 11)) _ _ _ none :: _) _ _; refine wpList_load_row rfl 40 (.tmp 11) rfl g11 rfl 40 _ (0, 0) _ hC.held Tryd.underlying40 rfl (fb_info hC.fc) ?_)
          | (guard_target = wpList _ _ _ (Oper.mk _ (Op.load 40 (.tmp 15)) _ _ _ none :: _) _ _; refine wpList_load_row rfl 40 (.tmp 15) rfl g15 rfl 40 _ (0, 0) _ hE.held Tryd.underlying40 rfl (fb_info hE.fc) ?_)
          | (go_at_call 15; (with_reducible refine (rsame_eq _ hC.frm hE.frm hLC (Nat.le_refl _) (Nat.le_refl _)).mono ?_); rintro _ u5 ⟨rfl, hb5⟩; replace hw := hw.trans (hb5.mono hw.size)))
        go_ret
        exact ⟨rfl, hw⟩
theorem walk {v : Value} {F : Frm} (a0 a1 t0 x0 y0 t1 x1 y1 : Int) (w : World) (hT : TabB w w.heap.size) (hf : FrmAt w w.heap.size v F) :
    Calls Tryd.prog 5 #[v, .agg (ats a0 a1), .agg (outs t0 x0 y0 t1 x1 y1)] w fun e w' => e = .returned (.bool true) ∧ Below w.heap.size w w' := by
  cases h2 : (decide (F.stk.length ≤ 40) && decide (F.loc.length ≤ 40) && decide (F.slt.length ≤ 40))
  · exact out a0 a1 t0 x0 y0 t1 x1 y1 w hT hf h2
  · exact good a0 a1 t0 x0 y0 t1 x1 y1 w hT hf h2
set_option maxRecDepth 100000 in
theorem entry {H : Type} {enc : TypeId × Value → H} (W : World) (base : Nat) (v0 v1 v2 : Value) (d0 d1 d2 : DataW H) (p0 p1 p2 : List MemPlace)
    (k0 : Value.okWide Tryd.prog W .any base 40 v0)
    (k1 : Value.okWide Tryd.prog W .any base 56 v1)
    (k2 : Value.okWide Tryd.prog W .any base 57 v2)
    (h0 : DataW.Trod enc Tryd.prog W 0 (fun _ => true) true 40 v0 d0 p0)
    (h1 : DataW.Trod enc Tryd.prog W 0 (fun _ => true) true 56 v1 d1 p1)
    (h2 : DataW.Trod enc Tryd.prog W 0 (fun _ => true) true 57 v2 d2 p2)
    (hT : TabB W W.heap.size) : Calls Tryd.prog 5 #[v0, v1, v2] W fun e w' => e = .returned (.bool true) ∧ Below W.heap.size W w' := by
  obtain ⟨F, hf⟩ := open_frame k0 h0
  obtain ⟨a0, a1, rfl⟩ := open_int2 k1 h1
  obtain ⟨t0, x0, y0, t1, x1, y1, rfl⟩ := open_outs2 k2 h2
  exact walk a0 a1 t0 x0 y0 t1 x1 y1 W hT hf
end Go.Proofs.YtjnbockdfjhfgaaDoor.frameGives

