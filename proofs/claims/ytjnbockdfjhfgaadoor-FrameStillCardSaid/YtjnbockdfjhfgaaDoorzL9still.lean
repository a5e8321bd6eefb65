/- Layer 9: FrameStill: a frame that waits, or ends, does nothing; what an instruction does leaves function, seed and parent as they are, and counts no more than one spawn, one draw; the same is done again of the same. For all programs and frames. -/
import Derived.Test.YtjnbockdfjhfgaaDoorzL9fix
import Derived.Test.YtjnbockdfjhfgaaDoorzPr1
import Derived.Test.YtjnbockdfjhfgaaDoorzHi
namespace Go.Proofs.YtjnbockdfjhfgaaDoor
set_option linter.unusedVariables false
set_option linter.unusedSimpArgs false
open Gm Go.RowKit Go.ChangeShapes Go.WideShapes Go.ChangeAt Go.Sort
theorem rsameact_at {W : World} {a : ActP} {v v' : Value} (h : ActAt W W.heap.size v a) (h' : ActAt W W.heap.size v' a) (hl : a.ar.length ≤ 1000) :
    Calls Tryd.prog 16 #[v, v'] W fun e w' => e = .returned (.bool true) ∧ Below W.heap.size W w' := by
  obtain ⟨A, c, e, h1⟩ := h
  obtain ⟨A2, c2, e2, h2⟩ := h'
  exact rsameact_eq c c2 W e e2 h1 h2 (Nat.le_refl _) (Nat.le_refl _) hl
theorem neqr_same (a b : Int) (W : World) : (binOp .neq 38 (.agg #[.int .i64 a, .int .i64 b]) (.agg #[.int .i64 a, .int .i64 b])).run Tryd.prog W = .ok (.bool false) W := by
  simp [go_sem]
end Go.Proofs.YtjnbockdfjhfgaaDoor
namespace Go.Proofs.YtjnbockdfjhfgaaDoor.frameStill
open Gm Go.RowKit Go.ChangeShapes Go.WideShapes Go.ChangeAt Go.Sort

set_option maxHeartbeats 4000000 in
set_option maxRecDepth 100000 in
theorem out {A : Option Addr} {p : List Fun} {v : Value} {F : Frm} (c : Nat) (w : World) (hT : TabB w w.heap.size) (hp : ProgAt w w.heap.size A p) (hf : FrmAt w w.heap.size v F) (hs : smallP p 300 = false ∨ (decide (F.stk.length ≤ 40) && decide (F.loc.length ≤ 40) && decide (F.slt.length ≤ 40)) = false) :
    Calls Tryd.prog 4 #[.slice A p.length c, v] w fun e w' => e = .returned (.bool true) ∧ Below w.heap.size w w' := by
  obtain ⟨cs, rfl, hc⟩ := hf.cells
  have S7 := fun W (hw : Below w.heap.size w W) => Lib.hid (psmall_any c 300 W (hp.below hw (Nat.le_refl _)))
  have S9 := fun W (hw : Below w.heap.size w W) => Lib.hid (rsmallf_any W (hf.below hw (Nat.le_refl _)))
  have F9 := fun W (hw : Below w.heap.size w W) => Lib.hid (fixed9 W ((hT.below hw (Nat.le_refl _)).more hw.size))
  generalize (decide (F.stk.length ≤ 40) && decide (F.loc.length ≤ 40) && decide (F.slt.length ≤ 40)) = b2 at *
  generalize smallP p 300 = b1 at *
  have hP : PB (w.alloc (.cells cs 40)) w.heap.size w.heap.size cs F := ⟨Held.new _ _ _, hf.below ((Below.refl _ _).alloc (Nat.le_refl _) _) (Nat.le_refl _), hc, by simp⟩
  have hw : Below w.heap.size w (w.alloc (.cells cs 40)) := (Below.refl _ _).alloc (Nat.le_refl _) _
  clear hT hp hf hc
  rcases (show b1 = false ∨ (b1 = true ∧ b2 = false) by cases b1 <;> simp_all) with rfl | ⟨rfl, rfl⟩
  all_goals
    clear hs
    go_enter Tryd.func4, Tryd.ntmps4
    go_wp2_with (first
      | (refine wpList_box_arr rfl 40 _ rfl cs rfl ?_)
      | (go_at_call 7; (with_reducible refine (F9 _ hw).out.mono ?_); rintro _ u ⟨rfl, hb⟩; replace hP := hP.below hb; replace hw := hw.trans (hb.mono hw.size); clear hb)
      | (go_at_call 8; (with_reducible refine (S7 _ hw).out.mono ?_); rintro _ _ ⟨rfl, rfl⟩)
      | (guard_target = wpList _ _ _ (Oper.mk _ (Op.load 40 (.tmp 3)) _ _ _ (some _) :: _) _ _; refine wpList_load_rowG 40 (.tmp 3) rfl w.heap.size rfl 40 _ (0, 0) _ hP.held Tryd.underlying40 rfl (fb_info hP.fc) rfl ?_)
      | (go_at_call 13; (with_reducible refine (S9 _ hw).out.mono ?_); rintro _ u ⟨rfl, hb⟩; replace hP := hP.below hb; replace hw := hw.trans (hb.mono hw.size); clear hb))
    go_ret
    exact ⟨rfl, hw⟩
set_option maxHeartbeats 8000000 in
set_option maxRecDepth 100000 in
theorem good {A : Option Addr} {p : List Fun} {v : Value} {F : Frm} (c : Nat) (w : World) (hT : TabB w w.heap.size) (hp : ProgAt w w.heap.size A p) (hz : SizedP p) (hf : FrmAt w w.heap.size v F) (hs1 : smallP p 300 = true) (hs2 : (decide (F.stk.length ≤ 40) && decide (F.loc.length ≤ 40) && decide (F.slt.length ≤ 40)) = true) :
    Calls Tryd.prog 4 #[.slice A p.length c, v] w fun e w' => e = .returned (.bool true) ∧ Below w.heap.size w w' := by
  obtain ⟨cs, rfl, hc⟩ := hf.cells
  have S7 := fun W (hw : Below w.heap.size w W) => Lib.hid (psmall_any c 300 W (hp.below hw (Nat.le_refl _)))
  have S9 := fun W (hw : Below w.heap.size w W) => Lib.hid (rsmallf_any W (hf.below hw (Nat.le_refl _)))
  have F9 := fun W (hw : Below w.heap.size w W) => Lib.hid (fixed9 W ((hT.below hw (Nat.le_refl _)).more hw.size))
  have CX := Lib.hid (cx_of (c := c) hT hp hz)
  rw [hs1] at S7
  rw [hs2] at S9
  simp only [Bool.and_eq_true, decide_eq_true_eq] at hs2
  have hP : PB (w.alloc (.cells cs 40)) w.heap.size w.heap.size cs F := ⟨Held.new _ _ _, hf.below ((Below.refl _ _).alloc (Nat.le_refl _) _) (Nat.le_refl _), hc, by simp⟩
  have hw : Below w.heap.size w (w.alloc (.cells cs 40)) := (Below.refl _ _).alloc (Nat.le_refl _) _
  have hlF : FrmLen F := ⟨by omega, by omega, by omega⟩
  have hR := do_len p F
  obtain ⟨hk, ha1, ha2⟩ := do_keeps p F
  have hst : F.st ≠ 0 → doF p F = (F, act0) := fun h => by unfold doF; rw [if_pos (.inl h)]
  generalize hRe : doF p F = R at *
  obtain ⟨G, a⟩ := R
  simp only at hR hk ha1 ha2
  have hlG : FrmLen G := ⟨by omega, by rw [hk.loc]; exact hlF.loc, by rw [hk.slt]; exact hlF.slt⟩
  have hla : a.ar.length ≤ 1000 := by omega
  have HR := Lib.hid hRe
  have HF := Lib.hid hlF
  have HG := Lib.hid hlG
  have HA := Lib.hid hla
  have HK := Lib.hid hk
  have HST := Lib.hid hst
  have HA1 := Lib.hid ha1
  have HA2 := Lib.hid ha2
  clear hT hp hf hc hz hs1 hs2 hR hRe hlF hlG hla hk hst ha1 ha2
  generalize p.length = pn at *
  go_enter Tryd.func4, Tryd.ntmps4
  go_upto_region 3 with (first
    | (refine wpList_box_arr rfl 40 _ rfl cs rfl ?_)
    | (go_at_call 7; (with_reducible refine (F9 _ hw).out.mono ?_); rintro _ u ⟨rfl, hb⟩; replace hP := hP.below hb; replace hw := hw.trans (hb.mono hw.size); clear hb)
    | (go_at_call 8; (with_reducible refine (S7 _ hw).out.mono ?_); rintro _ _ ⟨rfl, rfl⟩)
    | (guard_target = wpList _ _ _ (Oper.mk _ (Op.load 40 (.tmp 3)) _ _ _ (some _) :: _) _ _; refine wpList_load_rowG 40 (.tmp 3) rfl w.heap.size rfl 40 _ (0, 0) _ hP.held Tryd.underlying40 rfl (fb_info hP.fc) rfl ?_)
    | (go_at_call 13; (with_reducible refine (S9 _ hw).out.mono ?_); rintro _ u ⟨rfl, hb⟩; replace hP := hP.below hb; replace hw := hw.trans (hb.mono hw.size); clear hb))
  clear S7 S9 F9
  go_upto_region 4 with (first
    | (guard_target = wpList _ _ _ (Oper.mk _ (Op.load 40 (.tmp 3)) _ _ _ none :: _) _ _; refine wpList_load_row rfl 40 (.tmp 3) rfl w.heap.size rfl 40 _ (0, 0) _ hP.held Tryd.underlying40 rfl (fb_info hP.fc) ?_)
    | (go_at_call 14; (with_reducible refine (CX.out.act _ F _ _ hw hP.frm HF.out HR.out).mono ?_); rintro _ u ⟨v', av, rfl, ho, ha, hb⟩; obtain ⟨cs', rfl, hc'⟩ := ho.cells; obtain ⟨ca', rfl, hac⟩ := ha.cells; have hg1 := (Held.new u 40 fz0).alloc (.cells az0 50); have hg2 := (Held.new1 u (.cells fz0 40) 50 az0).row (Nat.ne_of_gt (Nat.lt_succ_self _)) cs')
    | (refine wpList_store_row rfl 40 _ _ rfl u.heap.size cs' rfl rfl _ _ hg1 (fb_info hc') hc'.size.symm hc'.one ?_)
    | (refine wpList_store_row rfl 50 _ _ rfl (u.heap.size + 1) ca' rfl rfl _ _ hg2 (ab_info hac) hac.size.symm hac.one ?_))
  obtain ⟨hN, hM, hbW, hs, hw1⟩ := do_new (z := fz0) (y := az0) hw hw.size hb ho hc' ha hac
  replace hP := hP.below hbW
  have hG : FB _ w.heap.size u.heap.size cs' G := hN
  have aA : AB _ w.heap.size (u.heap.size + 1) ca' a := hM
  clear ho hc' ha hac hg1 hg2 hb hs hN hM hw hbW
  have hw := hw1
  clear hw1
  generalize World.setRow _ (u.heap.size + 1) ca' = W3 at *
  generalize u.heap.size + 1 = g6 at *
  generalize u.heap.size = g5 at *
  go_upto_region 5 with (first
    | (guard_target = wpList _ _ _ (Oper.mk _ (Op.load 40 (.tmp 3)) _ _ _ none :: _) _ _; refine wpList_load_row rfl 40 (.tmp 3) rfl w.heap.size rfl 40 _ (0, 0) _ hP.held Tryd.underlying40 rfl (fb_info hP.fc) ?_)
    | (go_at_call 14; (with_reducible refine (CX.out.act _ F _ _ hw hP.frm HF.out HR.out).mono ?_); rintro _ u ⟨v', av, rfl, ho, ha, hb⟩; obtain ⟨cs', rfl, hc'⟩ := ho.cells; obtain ⟨ca', rfl, hac⟩ := ha.cells; have hg1 := (Held.new u 40 fz0).alloc (.cells az0 50); have hg2 := (Held.new1 u (.cells fz0 40) 50 az0).row (Nat.ne_of_gt (Nat.lt_succ_self _)) cs')
    | (refine wpList_store_row rfl 40 _ _ rfl u.heap.size cs' rfl rfl _ _ hg1 (fb_info hc') hc'.size.symm hc'.one ?_)
    | (refine wpList_store_row rfl 50 _ _ rfl (u.heap.size + 1) ca' rfl rfl _ _ hg2 (ab_info hac) hac.size.symm hac.one ?_))
  obtain ⟨hN, hM, hbW, hs, hw1⟩ := do_new (z := fz0) (y := az0) hw hw.size hb ho hc' ha hac
  replace hP := hP.below hbW
  replace hG := hG.below hbW
  replace aA := aA.below hbW
  have hH : FB _ w.heap.size u.heap.size cs' G := hN
  have aB : AB _ w.heap.size (u.heap.size + 1) ca' a := hM
  clear ho hc' ha hac hg1 hg2 hb hs hN hM hw hbW
  have hw := hw1
  clear hw1
  generalize World.setRow _ (u.heap.size + 1) ca' = W4 at *
  generalize u.heap.size + 1 = g8 at *
  generalize u.heap.size = g7 at *
  have HST2 : (F.st != 0) = false ∨ ((F.st != 0) = true ∧ (G, a) = (F, act0)) := by
    by_cases h : F.st = 0
    · exact .inl (by simpa using h)
    · exact .inr ⟨by simpa using h, HST.out h⟩
  clear HST HR
  have HK2 : G.fn = F.fn ∧ G.seed = F.seed ∧ G.uat = F.uat ∧ G.ugn = F.ugn ∧ G.usl = F.usl ∧ G.loc.length = F.loc.length ∧ G.slt.length = F.slt.length := ⟨HK.out.fn, HK.out.seed, HK.out.uat, HK.out.ugn, HK.out.usl, HK.out.loc, HK.out.slt⟩
  have D1 : Hid ((G.spn == F.spn) = true ∨ ((G.spn == F.spn) = false ∧ (a.kd == 2) = true ∧ (G.spn == wrap64 (F.spn + 1)) = true)) := Lib.hid (by
    by_cases h : G.spn = F.spn
    · exact .inl (by simpa using h)
    · have := HK.out.spn.resolve_left h
      exact .inr ⟨by simpa using h, by simpa using this.1, by simpa using this.2⟩)
  have D2 : Hid ((G.drw == F.drw) = true ∨ ((G.drw == F.drw) = false ∧ (G.drw == wrap64 (F.drw + 1)) = true)) := Lib.hid (by
    by_cases h : G.drw = F.drw
    · exact .inl (by simpa using h)
    · have := HK.out.drw.resolve_left h
      exact .inr ⟨by simpa using h, by simpa using this⟩)
  have D3 : Hid ((a.kd == 2) = true ∨ ((a.kd == 2) = false ∧ ((a.ar.length : Int) == 0) = true)) := Lib.hid (by
    by_cases h : a.kd = 2
    · exact .inl (by simpa using h)
    · have := HA1.out.resolve_left h
      exact .inr ⟨by simpa using h, by simp [this]⟩)
  have D4 : Hid ((a.kd != 4) = true ∨ ((a.kd != 4) = false ∧ (G.st == 2) = true)) := Lib.hid (by
    by_cases h : a.kd = 4
    · exact .inr ⟨by simpa using h, by simpa using HA2.out h⟩
    · exact .inl (by simpa using h))
  have HK3 := Lib.hid HK2
  clear HK HK2 HA1 HA2
  have R5 : ∀ {ops : Array Oper}, True := fun {_} => trivial
  clear R5
  rcases HST2 with e0 | ⟨e0, e1⟩
  · have x8 := (hP.held.cell 8).trans hP.fc.c8
    go_upto_if 59 with (first
      | (guard_target = wpList _ _ _ (Oper.mk _ (Op.load 40 (.tmp 5)) _ _ _ none :: _) _ _; refine wpList_load_row rfl 40 (.tmp 5) rfl g5 rfl 40 _ (0, 0) _ hG.held Tryd.underlying40 rfl (fb_info hG.fc) ?_)
      | (guard_target = wpList _ _ _ (Oper.mk _ (Op.load 40 (.tmp 7)) _ _ _ none :: _) _ _; refine wpList_load_row rfl 40 (.tmp 7) rfl g7 rfl 40 _ (0, 0) _ hH.held Tryd.underlying40 rfl (fb_info hH.fc) ?_)
      | (guard_target = wpList _ _ _ (Oper.mk _ (Op.load 50 (.tmp 6)) _ _ _ (some _) :: _) _ _; refine wpList_load_rowG 50 (.tmp 6) rfl g6 rfl 50 _ (0, 0) _ aA.held Tryd.underlying50 rfl (ab_info aA.ac) rfl ?_)
      | (guard_target = wpList _ _ _ (Oper.mk _ (Op.load 50 (.tmp 8)) _ _ _ (some _) :: _) _ _; refine wpList_load_rowG 50 (.tmp 8) rfl g8 rfl 50 _ (0, 0) _ aB.held Tryd.underlying50 rfl (ab_info aB.ac) rfl ?_)
      | (go_at_call 15; (with_reducible refine (rsame_eq _ hG.frm hH.frm HG.out (Nat.le_refl _) (Nat.le_refl _)).mono ?_); rintro _ u2 ⟨rfl, hb2⟩; replace hP := hP.below hb2; replace hG := hG.below hb2; replace hH := hH.below hb2; replace aA := aA.below hb2; replace aB := aB.below hb2; replace hw := hw.trans (hb2.mono hw.size); clear hb2)
      | (go_at_call 16; (with_reducible refine (rsameact_at aA.own.at aB.own.at HA.out).mono ?_); rintro _ u3 ⟨rfl, hb3⟩; replace hP := hP.below hb3; replace hG := hG.below hb3; replace hH := hH.below hb3; replace aA := aA.below hb3; replace aB := aB.below hb3; replace hw := hw.trans (hb3.mono hw.size); clear hb3; have x8 := (hP.held.cell 8).trans hP.fc.c8))
    go_upto_region 7 with fail
    have k := HK3.out
    obtain ⟨k1, k2, k3, k4, k5, k6, k7⟩ := k
    obtain ⟨A3, c3, e3⟩ := hG.fc.c3
    obtain ⟨A4, c4, e4⟩ := hG.fc.c4
    obtain ⟨B3, d3, i3⟩ := hP.fc.c3
    obtain ⟨B4, d4, i4⟩ := hP.fc.c4
    rw [k6] at e3
    rw [k7] at e4
    have y0 := (hG.held.cell 0).trans hG.fc.c0
    have y5 := (hG.held.cell 5).trans hG.fc.c5
    have y13 := (hG.held.cell 13).trans hG.fc.c13
    have y14 := (hG.held.cell 14).trans hG.fc.c14
    have y15 := (hG.held.cell 15).trans hG.fc.c15
    rw [k1] at y0
    rw [k2] at y5
    rw [k3] at y13
    rw [k4] at y14
    rw [k5] at y15
    have y3 := (hG.held.cell 3).trans e3
    have y4 := (hG.held.cell 4).trans e4
    have x0 := (hP.held.cell 0).trans hP.fc.c0
    have x5 := (hP.held.cell 5).trans hP.fc.c5
    have x13 := (hP.held.cell 13).trans hP.fc.c13
    have x14 := (hP.held.cell 14).trans hP.fc.c14
    have x15 := (hP.held.cell 15).trans hP.fc.c15
    have x3 := (hP.held.cell 3).trans i3
    have x4 := (hP.held.cell 4).trans i4
    have n1 : (F.fn != F.fn) = false := by simp
    have n2 : (F.seed != F.seed) = false := by simp
    have n3 : (F.usl != F.usl) = false := by simp
    have n4 : ((F.loc.length : Int) != F.loc.length) = false := by simp
    have n5 : ((F.slt.length : Int) != F.slt.length) = false := by simp
    have NR := neqr_same F.uat F.ugn
    clear e3 e4 i3 i4 k1 k2 k3 k4 k5 k6 k7
    go_upto_region 9 with fail
    clear y0 y5 y13 y14 y15 y3 y4 x0 x5 x13 x14 x15 x3 x4 n1 n2 n3 n4 n5 NR
    obtain ⟨A5, c5, e5⟩ := aA.ac.c4
    have y6 := (hG.held.cell 6).trans hG.fc.c6
    have y7 := (hG.held.cell 7).trans hG.fc.c7
    have y8 := (hG.held.cell 8).trans hG.fc.c8
    have x6 := (hP.held.cell 6).trans hP.fc.c6
    have x7 := (hP.held.cell 7).trans hP.fc.c7
    have z0 := (aA.held.cell 0).trans aA.ac.c0
    have z4 := (aA.held.cell 4).trans e5
    have HW := Lib.hid hw
    clear hw e5 hP hG hH aA aB
    rcases D1.out with f1 | ⟨f1, f1b, f1c⟩ <;> rcases D2.out with f2 | ⟨f2, f2b⟩ <;> rcases D3.out with f3 | ⟨f3, f3b⟩ <;> rcases D4.out with f4 | ⟨f4, f4b⟩
    all_goals first
      | (exfalso; rw [f1b] at f3; exact absurd f3 (by decide))
      | (go_wp2_with fail
         go_ret
         exact ⟨rfl, HW.out⟩)
  · obtain ⟨rfl, rfl⟩ : F = G ∧ act0 = a := by simpa [eq_comm] using e1
    clear e1
    have w1 : (act0.kd != 0) = false := rfl
    go_upto_if 59 with (first
      | (guard_target = wpList _ _ _ (Oper.mk _ (Op.load 40 (.tmp 5)) _ _ _ none :: _) _ _; refine wpList_load_row rfl 40 (.tmp 5) rfl g5 rfl 40 _ (0, 0) _ hG.held Tryd.underlying40 rfl (fb_info hG.fc) ?_)
      | (guard_target = wpList _ _ _ (Oper.mk _ (Op.load 40 (.tmp 7)) _ _ _ none :: _) _ _; refine wpList_load_row rfl 40 (.tmp 7) rfl g7 rfl 40 _ (0, 0) _ hH.held Tryd.underlying40 rfl (fb_info hH.fc) ?_)
      | (guard_target = wpList _ _ _ (Oper.mk _ (Op.load 50 (.tmp 6)) _ _ _ (some _) :: _) _ _; refine wpList_load_rowG 50 (.tmp 6) rfl g6 rfl 50 _ (0, 0) _ aA.held Tryd.underlying50 rfl (ab_info aA.ac) rfl ?_)
      | (guard_target = wpList _ _ _ (Oper.mk _ (Op.load 50 (.tmp 8)) _ _ _ (some _) :: _) _ _; refine wpList_load_rowG 50 (.tmp 8) rfl g8 rfl 50 _ (0, 0) _ aB.held Tryd.underlying50 rfl (ab_info aB.ac) rfl ?_)
      | (guard_target = wpList _ _ _ (Oper.mk _ (Op.load 40 (.tmp 3)) _ _ _ (some _) :: _) _ _; refine wpList_load_rowG 40 (.tmp 3) rfl w.heap.size rfl 40 _ (0, 0) _ hP.held Tryd.underlying40 rfl (fb_info hP.fc) rfl ?_)
      | (guard_target = wpList _ _ _ (Oper.mk _ (Op.load 40 (.tmp 5)) _ _ _ (some _) :: _) _ _; refine wpList_load_rowG 40 (.tmp 5) rfl g5 rfl 40 _ (0, 0) _ hG.held Tryd.underlying40 rfl (fb_info hG.fc) rfl ?_)
      | (go_at_call 15; (with_reducible refine (rsame_eq _ hG.frm hH.frm HG.out (Nat.le_refl _) (Nat.le_refl _)).mono ?_); rintro _ u2 ⟨rfl, hb2⟩; replace hP := hP.below hb2; replace hG := hG.below hb2; replace hH := hH.below hb2; replace aA := aA.below hb2; replace aB := aB.below hb2; replace hw := hw.trans (hb2.mono hw.size); clear hb2)
      | (go_at_call 16; (with_reducible refine (rsameact_at aA.own.at aB.own.at HA.out).mono ?_); rintro _ u3 ⟨rfl, hb3⟩; replace hP := hP.below hb3; replace hG := hG.below hb3; replace hH := hH.below hb3; replace aA := aA.below hb3; replace aB := aB.below hb3; replace hw := hw.trans (hb3.mono hw.size); clear hb3; have x8 := (hP.held.cell 8).trans hP.fc.c8)
      | (go_at_call 15; (with_reducible refine (rsame_eq _ hP.frm hG.frm HG.out (Nat.le_refl _) (Nat.le_refl _)).mono ?_); rintro _ u4 ⟨rfl, hb4⟩; replace hP := hP.below hb4; replace hG := hG.below hb4; replace hH := hH.below hb4; replace aA := aA.below hb4; replace aB := aB.below hb4; replace hw := hw.trans (hb4.mono hw.size); clear hb4; have z0 : _ = some (Value.int .i64 0) := (aA.held.cell 0).trans aA.ac.c0))
    go_upto_region 7 with fail
    clear w1 z0
    obtain ⟨A3, c3, e3⟩ := hG.fc.c3
    obtain ⟨A4, c4, e4⟩ := hG.fc.c4
    obtain ⟨B3, d3, i3⟩ := hP.fc.c3
    obtain ⟨B4, d4, i4⟩ := hP.fc.c4
    have y0 := (hG.held.cell 0).trans hG.fc.c0
    have y5 := (hG.held.cell 5).trans hG.fc.c5
    have y13 := (hG.held.cell 13).trans hG.fc.c13
    have y14 := (hG.held.cell 14).trans hG.fc.c14
    have y15 := (hG.held.cell 15).trans hG.fc.c15
    have y3 := (hG.held.cell 3).trans e3
    have y4 := (hG.held.cell 4).trans e4
    have x0 := (hP.held.cell 0).trans hP.fc.c0
    have x5 := (hP.held.cell 5).trans hP.fc.c5
    have x13 := (hP.held.cell 13).trans hP.fc.c13
    have x14 := (hP.held.cell 14).trans hP.fc.c14
    have x15 := (hP.held.cell 15).trans hP.fc.c15
    have x3 := (hP.held.cell 3).trans i3
    have x4 := (hP.held.cell 4).trans i4
    have n1 : (F.fn != F.fn) = false := by simp
    have n2 : (F.seed != F.seed) = false := by simp
    have n3 : (F.usl != F.usl) = false := by simp
    have n4 : ((F.loc.length : Int) != F.loc.length) = false := by simp
    have n5 : ((F.slt.length : Int) != F.slt.length) = false := by simp
    have NR := neqr_same F.uat F.ugn
    clear e3 e4 i3 i4
    go_upto_region 9 with fail
    clear y0 y5 y13 y14 y15 y3 y4 x0 x5 x13 x14 x15 x3 x4 n1 n2 n3 n4 n5 NR
    obtain ⟨A5, c5, e5⟩ := aA.ac.c4
    have y6 := (hG.held.cell 6).trans hG.fc.c6
    have y7 := (hG.held.cell 7).trans hG.fc.c7
    have y8 := (hG.held.cell 8).trans hG.fc.c8
    have x6 := (hP.held.cell 6).trans hP.fc.c6
    have x7 := (hP.held.cell 7).trans hP.fc.c7
    have z0 : _ = some (Value.int .i64 0) := (aA.held.cell 0).trans aA.ac.c0
    have z4 : _ = some (Value.slice A5 0 c5) := (aA.held.cell 4).trans e5
    have HW := Lib.hid hw
    clear hw e5 hP hG hH aA aB
    have f1 : (F.spn == F.spn) = true := by simp
    have f2 : (F.drw == F.drw) = true := by simp
    go_wp2_with fail
    go_ret
    exact ⟨rfl, HW.out⟩
theorem walk {A : Option Addr} {p : List Fun} {v : Value} {F : Frm} (c : Nat) (w : World) (hT : TabB w w.heap.size) (hp : ProgAt w w.heap.size A p) (hz : SizedP p) (hf : FrmAt w w.heap.size v F) :
    Calls Tryd.prog 4 #[.slice A p.length c, v] w fun e w' => e = .returned (.bool true) ∧ Below w.heap.size w w' := by
  cases h1 : smallP p 300
  · exact out c w hT hp hf (.inl h1)
  · cases h2 : (decide (F.stk.length ≤ 40) && decide (F.loc.length ≤ 40) && decide (F.slt.length ≤ 40))
    · exact out c w hT hp hf (.inr h2)
    · exact good c w hT hp hz hf h1 h2
set_option maxRecDepth 100000 in
theorem entry {H : Type} {enc : TypeId × Value → H} (W : World) (base : Nat) (v0 v1 : Value) (d0 d1 : DataW H) (p0 p1 : List MemPlace)
    (k0 : Value.okWide Tryd.prog W .any base 23 v0)
    (k1 : Value.okWide Tryd.prog W .any base 40 v1)
    (h0 : DataW.Trod enc Tryd.prog W 0 (fun _ => true) true 23 v0 d0 p0)
    (h1 : DataW.Trod enc Tryd.prog W 0 (fun _ => true) true 40 v1 d1 p1)
    (hT : TabB W W.heap.size) : Calls Tryd.prog 4 #[v0, v1] W fun e w' => e = .returned (.bool true) ∧ Below W.heap.size W w' := by
  obtain ⟨A0, c0, ps0, rfl, hp0, hz0⟩ := open_prog k0 h0
  obtain ⟨F, hf⟩ := open_frame k1 h1
  exact walk c0 W hT hp0 hz0 hf
end Go.Proofs.YtjnbockdfjhfgaaDoor.frameStill

