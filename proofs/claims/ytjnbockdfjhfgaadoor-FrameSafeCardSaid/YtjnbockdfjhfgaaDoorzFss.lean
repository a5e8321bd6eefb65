/- Layer 9: an instruction; a child's end is given at once: the law's own step. -/
import Derived.Test.YtjnbockdfjhfgaaDoorzL9fix
import Derived.Test.YtjnbockdfjhfgaaDoorzHa
import Derived.Test.YtjnbockdfjhfgaaDoorzFrq
namespace Go.Proofs.YtjnbockdfjhfgaaDoor
set_option linter.unusedVariables false
set_option linter.unusedSimpArgs false
open Gm Go.RowKit Go.ChangeShapes Go.WideShapes Go.ChangeAt Go.Sort
theorem tyOF9 : 36 ≠ 40 := by decide
/-- What the step leaves. -/
def StpQ (w : World) (R : Frm × Int) (e : Ending) (w' : World) : Prop := ∃ v', e = .returned (.tuple #[v', .int .i64 R.2]) ∧ OwnF w' 0 v' R.1 ∧ Below w.heap.size w w'
set_option maxHeartbeats 8000000 in
set_option maxRecDepth 100000 in
theorem step_any {p : List Fun} {A : Option Addr} {n c : Nat} {U : World} (HC : Hid (Cx p A n c U)) {w : World} {F : Frm} {cs : Array Value} (t x y : Int) (hU : Below U.heap.size U w) (hf : FrmAt w w.heap.size (.agg cs) F) (hl : FrmLen F) (hl2 : F.stk.length ≤ 900) :
    Calls Tryd.prog 12 #[.slice A n c, .agg cs, outv t x y] w fun e w' => StpQ w (stepP p F t (x, y)) e w' := by
  obtain ⟨_, e9, hc⟩ := hf.cells
  simp only [Value.agg.injEq] at e9
  subst e9
  have hw0 := below3 w (.cells cs 40) (.cells #[.int .i64 t, .int .i64 x, .int .i64 y] 36) (.cells fz0 40)
  have hP : PB (((w.alloc (.cells cs 40)).alloc (.cells #[.int .i64 t, .int .i64 x, .int .i64 y] 36)).alloc (.cells fz0 40)) w.heap.size w.heap.size cs F := ⟨((Held.new _ _ _).alloc _).alloc _, hf.below hw0 (Nat.le_refl _), hc, hw0.size⟩
  have hO : Held (((w.alloc (.cells cs 40)).alloc (.cells #[.int .i64 t, .int .i64 x, .int .i64 y] 36)).alloc (.cells fz0 40)) (w.heap.size + 1) 36 #[.int .i64 t, .int .i64 x, .int .i64 y] := (Held.new1 _ _ _ _).alloc _
  have hR : Held (((w.alloc (.cells cs 40)).alloc (.cells #[.int .i64 t, .int .i64 x, .int .i64 y] 36)).alloc (.cells fz0 40)) (w.heap.size + 1 + 1) 40 fz0 := Held.new2 _ _ _ _ _
  have HF := Lib.hid hl
  have hlG : FrmLen (doF p F).1 := ⟨Nat.le_trans (do_len p F).1 (by omega), by rw [(do_keeps p F).1.loc]; exact hl.loc, by rw [(do_keeps p F).1.slt]; exact hl.slt⟩
  generalize hS : stepP p F t (x, y) = S
  unfold stepP at hS
  generalize hD : doF p F = D at *
  obtain ⟨G, a⟩ := D
  simp only at hS hlG
  have HS := Lib.hid hS
  have HD := Lib.hid hD
  have HG := Lib.hid hlG
  have HU := Lib.hid hU
  clear hS hD hlG hl hl2 hf hc hU
  go_enter Tryd.func12, Tryd.ntmps12
  go_upto_region 2 with (first
    | (refine wpList_box_arr rfl 40 (.tmp 1) rfl cs rfl ?_)
    | (refine wpList_box_arr rfl 36 (.tmp 2) rfl #[.int .i64 t, .int .i64 x, .int .i64 y] rfl ?_)
    | (guard_target = wpList _ _ _ (Oper.mk _ (Op.load 40 (.tmp 4)) _ _ _ none :: _) _ _; refine wpList_load_row rfl 40 (.tmp 4) rfl w.heap.size rfl 40 _ (0, 0) _ hP.held Tryd.underlying40 rfl (fb_info hP.fc) ?_)
    | (go_at_call 14; (with_reducible refine (HC.out.act _ F _ _ (HU.out.trans (hw0.mono HU.out.size)) hP.frm HF.out HD.out).mono ?_); rintro _ u ⟨v', av, rfl, ho, ha, hb⟩; obtain ⟨cs', rfl, hc'⟩ := ho.cells; obtain ⟨ca', rfl, hac⟩ := ha.cells; have hg1 := (Held.new u 40 fz0).alloc (.cells az0 50); have hg2 := (Held.new1 u (.cells fz0 40) 50 az0).row (Nat.ne_of_gt (Nat.lt_succ_self _)) cs')
    | (refine wpList_store_row rfl 40 _ _ rfl u.heap.size cs' rfl rfl _ _ hg1 (fb_info hc') hc'.size.symm hc'.one ?_)
    | (refine wpList_store_row rfl 50 _ _ rfl (u.heap.size + 1) ca' rfl rfl _ _ hg2 (ab_info hac) hac.size.symm hac.one ?_))
  obtain ⟨hN, hM, hbW, hs, hw1⟩ := do_new (z := fz0) (y := az0) hw0 hw0.size hb ho hc' ha hac
  have HNE := Lib.hid (show w.heap.size + 1 + 1 < u.heap.size by have := hR.lt; omega)
  replace hO := hO.below hbW
  replace hR := hR.below hbW
  have hK : FB _ w.heap.size u.heap.size cs' G := hN
  have hA : AB _ w.heap.size (u.heap.size + 1) ca' a := hM
  clear ho hc' ha hac hg1 hg2 hb hs hN hM hbW hP hw0
  generalize World.setRow _ (u.heap.size + 1) ca' = W1 at *
  generalize u.heap.size + 1 = g9 at *
  generalize u.heap.size = g8 at *
  have z0 := (hA.held.cell 0).trans hA.ac.c0
  by_cases hk : a.kd = 2
  · have ek : (a.kd == 2) = true := by simpa using hk
    have hS2 := HS.out
    rw [if_pos hk] at hS2
    have HS2 := Lib.hid hS2
    have HK2 := Lib.hid hk
    clear hS2 hk HS HD
    go_upto_region 3 with fail
    have z2 := (hA.held.cell 2).trans hA.ac.c2
    have xo0 := hO.cell 0
    have xo1 := hO.cell 1
    have xo2 := hO.cell 2
    simp at xo0 xo1 xo2
    go_upto_region 4 with (first
      | (guard_target = wpList _ _ _ (Oper.mk _ (Op.load 40 (.tmp 8)) _ _ _ none :: _) _ _; refine wpList_load_row rfl 40 (.tmp 8) rfl g8 rfl 40 _ (0, 0) _ hK.held Tryd.underlying40 rfl (fb_info hK.fc) ?_)
      | (go_at_call 17; (with_reducible refine (HC.out.giv _ G _ _ a.sl t x y (HU.out.trans (hw1.mono HU.out.size)) hK.frm HG.out rfl).mono ?_); rintro _ u ⟨v', rfl, ho, hb⟩; obtain ⟨cs', rfl, hc'⟩ := ho.cells; have hg1 := hK.held.below hb)
      | (refine wpList_store_row rfl 40 _ _ rfl g8 cs' rfl rfl _ _ hg1 (fb_info hc') (hK.fc.size.trans hc'.size.symm) hc'.one ?_))
    obtain ⟨hN, hkb, hs, hw2⟩ := fr_into hw1 hK.held hb ho hc' hK.ge
    have hne8 : w.heap.size + 1 + 1 ≠ g8 := by have := HNE.out; omega
    replace hO := hkb.held hO (held_ne hO hK.held tyOF9)
    replace hR := hkb.held hR hne8
    replace hA := hA.kb hK.held tyFV hkb (held_ne hA.held hK.held tyAF)
    replace hK := hN
    clear ho hc' hg1 hb hkb hs hN hw1 xo0 xo1 xo2 z0 z2 hne8 ek
    have hw1 := hw2
    clear hw2
    generalize World.setRow _ g8 cs' = W2 at *
    generalize (giveF G a.sl t (x, y)).1 = Z at *
    obtain ⟨s, l, o, e, o1, o2, o3⟩ := hK.own
    obtain ⟨As, ks, rfl, _⟩ := o1.lies
    obtain ⟨Al, kl, rfl, _⟩ := o2.lies
    obtain ⟨Ao, ko, rfl, _⟩ := o3.lies
    simp only [Value.agg.injEq] at e
    subst e
    have hh := hK.held
    have hge := hK.ge
    clear hK
    have p0 := hR.cell 0
    have pz0 := hR.fz 0
    have q0 := hh.cell 0
    have p1 := hR.cell 1
    have pz1 := hR.fz 1
    have q1 := hh.cell 1
    have p2 := hR.cell 2
    have pz2 := hR.fz 2
    have q2 := hh.cell 2
    have p3 := hR.cell 3
    have pz3 := hR.fz 3
    have q3 := hh.cell 3
    have p4 := hR.cell 4
    have pz4 := hR.fz 4
    have q4 := hh.cell 4
    have p5 := hR.cell 5
    have pz5 := hR.fz 5
    have q5 := hh.cell 5
    have p6 := hR.cell 6
    have pz6 := hR.fz 6
    have q6 := hh.cell 6
    have p7 := hR.cell 7
    have pz7 := hR.fz 7
    have q7 := hh.cell 7
    have p8 := hR.cell 8
    have pz8 := hR.fz 8
    have q8 := hh.cell 8
    have p9 := hR.cell 9
    have pz9 := hR.fz 9
    have q9 := hh.cell 9
    have p10 := hR.cell 10
    have pz10 := hR.fz 10
    have q10 := hh.cell 10
    have p11 := hR.cell 11
    have pz11 := hR.fz 11
    have q11 := hh.cell 11
    have p12 := hR.cell 12
    have pz12 := hR.fz 12
    have q12 := hh.cell 12
    have p13 := hR.cell 13
    have pz13 := hR.fz 13
    have q13 := hh.cell 13
    have p14 := hR.cell 14
    have pz14 := hR.fz 14
    have q14 := hh.cell 14
    have p15 := hR.cell 15
    have pz15 := hR.fz 15
    have q15 := hh.cell 15
    have z0 := (hA.held.cell 0).trans hA.ac.c0
    simp at p0 p1 p2 p3 p4 p5 p6 p7 p8 p9 p10 p11 p12 p13 p14 p15 q0 q1 q2 q3 q4 q5 q6 q7 q8 q9 q10 q11 q12 q13 q14 q15
    have ng8 : g8 ≠ w.heap.size + 1 + 1 := by have := HNE.out; omega
    have ng9 : g9 ≠ w.heap.size + 1 + 1 := held_ne hA.held hR tyAF
    have gl := hh.lt
    have gl2 := hR.lt
    have gl3 := hA.held.lt
    go_region
    all_goals
      have s1 := set16 hR (.int .i64 Z.fn) (.int .i64 Z.pc) (.slice As Z.stk.length ks) (.slice Al Z.loc.length kl) (.slice Ao Z.slt.length ko) (.int .i64 Z.seed) (.int .i64 Z.spn) (.int .i64 Z.drw) (.int .i64 Z.st) (.int .i64 Z.wt) (.int .i64 Z.otr) (.int .i64 Z.ore) (.int .i64 Z.oim) (.int .i64 Z.uat) (.int .i64 Z.ugn) (.int .i64 Z.usl)
      have s2 := far16 W2 (w.heap.size + 1 + 1) (.int .i64 Z.fn) (.int .i64 Z.pc) (.slice As Z.stk.length ks) (.slice Al Z.loc.length kl) (.slice Ao Z.slt.length ko) (.int .i64 Z.seed) (.int .i64 Z.spn) (.int .i64 Z.drw) (.int .i64 Z.st) (.int .i64 Z.wt) (.int .i64 Z.otr) (.int .i64 Z.ore) (.int .i64 Z.oim) (.int .i64 Z.uat) (.int .i64 Z.ugn) (.int .i64 Z.usl)
      have s3 := below16 (.int .i64 Z.fn) (.int .i64 Z.pc) (.slice As Z.stk.length ks) (.slice Al Z.loc.length kl) (.slice Ao Z.slt.length ko) (.int .i64 Z.seed) (.int .i64 Z.spn) (.int .i64 Z.drw) (.int .i64 Z.st) (.int .i64 Z.wt) (.int .i64 Z.otr) (.int .i64 Z.ore) (.int .i64 Z.oim) (.int .i64 Z.uat) (.int .i64 Z.ugn) (.int .i64 Z.usl) (show w.heap.size ≤ w.heap.size + 1 + 1 by omega) hw1
      have a1 := row_apart o1 hR tyFV
      have a2 := row_apart o2 hR tyFV
      have a3 := row_apart o3 hR tyFS
      generalize (World.setCell (World.setCell _ ⟨w.heap.size + 1 + 1, 14, none⟩ _) ⟨w.heap.size + 1 + 1, 15, none⟩ _) = W9 at *
      have hfin := Lib.hid (show OwnF W9.drew 0 (fv Z (.slice As Z.stk.length ks) (.slice Al Z.loc.length kl) (.slice Ao Z.slt.length ko)) Z ∧ Below w.heap.size w W9.drew from ⟨⟨_, _, _, rfl, row_same o1 fun g e => s2 g (a1 g e), row_same o2 fun g e => s2 g (a2 g e), row_same o3 fun g e => s2 g (a3 g e)⟩, s3.drew⟩)
      have l1 := run_loadVar_row (P := Tryd.prog) _ (w.heap.size + 1 + 1) 40 40 _ (0, 0) _ (held_drew s1) Tryd.underlying40 rfl (by kernel_rfl)
      clear p0 p1 p2 p3 p4 p5 p6 p7 p8 p9 p10 p11 p12 p13 p14 p15 q0 q1 q2 q3 q4 q5 q6 q7 q8 q9 q10 q11 q12 q13 q14 q15 pz0 pz1 pz2 pz3 pz4 pz5 pz6 pz7 pz8 pz9 pz10 pz11 pz12 pz13 pz14 pz15 z0 s1 s2 s3 a1 a2 a3 o1 o2 o3 hh hR hA hO ng8 ng9 gl gl2 gl3
      generalize W9.drew = W10 at *
      go_wp2_with fail
      exact bodyPost_ret (results_ct (v2 := .int .i64 a.kd) rfl _ _ rfl rfl l1) rfl  ⟨fv Z (.slice As Z.stk.length ks) (.slice Al Z.loc.length kl) (.slice Ao Z.slt.length ko), by rw [← HS2.out, HK2.out], by rw [← HS2.out]; exact hfin.out.1, hfin.out.2⟩
  · have ek : (a.kd == 2) = false := by simpa using hk
    have hS2 := HS.out
    rw [if_neg hk] at hS2
    have HS2 := Lib.hid hS2
    clear hS2 hk HS HD
    go_upto_region 4 with fail
    clear z0 ek
    generalize G = Z at *
    obtain ⟨s, l, o, e, o1, o2, o3⟩ := hK.own
    obtain ⟨As, ks, rfl, _⟩ := o1.lies
    obtain ⟨Al, kl, rfl, _⟩ := o2.lies
    obtain ⟨Ao, ko, rfl, _⟩ := o3.lies
    simp only [Value.agg.injEq] at e
    subst e
    have hh := hK.held
    have hge := hK.ge
    clear hK
    have p0 := hR.cell 0
    have pz0 := hR.fz 0
    have q0 := hh.cell 0
    have p1 := hR.cell 1
    have pz1 := hR.fz 1
    have q1 := hh.cell 1
    have p2 := hR.cell 2
    have pz2 := hR.fz 2
    have q2 := hh.cell 2
    have p3 := hR.cell 3
    have pz3 := hR.fz 3
    have q3 := hh.cell 3
    have p4 := hR.cell 4
    have pz4 := hR.fz 4
    have q4 := hh.cell 4
    have p5 := hR.cell 5
    have pz5 := hR.fz 5
    have q5 := hh.cell 5
    have p6 := hR.cell 6
    have pz6 := hR.fz 6
    have q6 := hh.cell 6
    have p7 := hR.cell 7
    have pz7 := hR.fz 7
    have q7 := hh.cell 7
    have p8 := hR.cell 8
    have pz8 := hR.fz 8
    have q8 := hh.cell 8
    have p9 := hR.cell 9
    have pz9 := hR.fz 9
    have q9 := hh.cell 9
    have p10 := hR.cell 10
    have pz10 := hR.fz 10
    have q10 := hh.cell 10
    have p11 := hR.cell 11
    have pz11 := hR.fz 11
    have q11 := hh.cell 11
    have p12 := hR.cell 12
    have pz12 := hR.fz 12
    have q12 := hh.cell 12
    have p13 := hR.cell 13
    have pz13 := hR.fz 13
    have q13 := hh.cell 13
    have p14 := hR.cell 14
    have pz14 := hR.fz 14
    have q14 := hh.cell 14
    have p15 := hR.cell 15
    have pz15 := hR.fz 15
    have q15 := hh.cell 15
    have z0 := (hA.held.cell 0).trans hA.ac.c0
    simp at p0 p1 p2 p3 p4 p5 p6 p7 p8 p9 p10 p11 p12 p13 p14 p15 q0 q1 q2 q3 q4 q5 q6 q7 q8 q9 q10 q11 q12 q13 q14 q15
    have ng8 : g8 ≠ w.heap.size + 1 + 1 := by have := HNE.out; omega
    have ng9 : g9 ≠ w.heap.size + 1 + 1 := held_ne hA.held hR tyAF
    have gl := hh.lt
    have gl2 := hR.lt
    have gl3 := hA.held.lt
    go_region
    all_goals
      have s1 := set16 hR (.int .i64 Z.fn) (.int .i64 Z.pc) (.slice As Z.stk.length ks) (.slice Al Z.loc.length kl) (.slice Ao Z.slt.length ko) (.int .i64 Z.seed) (.int .i64 Z.spn) (.int .i64 Z.drw) (.int .i64 Z.st) (.int .i64 Z.wt) (.int .i64 Z.otr) (.int .i64 Z.ore) (.int .i64 Z.oim) (.int .i64 Z.uat) (.int .i64 Z.ugn) (.int .i64 Z.usl)
      have s2 := far16 W1 (w.heap.size + 1 + 1) (.int .i64 Z.fn) (.int .i64 Z.pc) (.slice As Z.stk.length ks) (.slice Al Z.loc.length kl) (.slice Ao Z.slt.length ko) (.int .i64 Z.seed) (.int .i64 Z.spn) (.int .i64 Z.drw) (.int .i64 Z.st) (.int .i64 Z.wt) (.int .i64 Z.otr) (.int .i64 Z.ore) (.int .i64 Z.oim) (.int .i64 Z.uat) (.int .i64 Z.ugn) (.int .i64 Z.usl)
      have s3 := below16 (.int .i64 Z.fn) (.int .i64 Z.pc) (.slice As Z.stk.length ks) (.slice Al Z.loc.length kl) (.slice Ao Z.slt.length ko) (.int .i64 Z.seed) (.int .i64 Z.spn) (.int .i64 Z.drw) (.int .i64 Z.st) (.int .i64 Z.wt) (.int .i64 Z.otr) (.int .i64 Z.ore) (.int .i64 Z.oim) (.int .i64 Z.uat) (.int .i64 Z.ugn) (.int .i64 Z.usl) (show w.heap.size ≤ w.heap.size + 1 + 1 by omega) hw1
      have a1 := row_apart o1 hR tyFV
      have a2 := row_apart o2 hR tyFV
      have a3 := row_apart o3 hR tyFS
      generalize (World.setCell (World.setCell _ ⟨w.heap.size + 1 + 1, 14, none⟩ _) ⟨w.heap.size + 1 + 1, 15, none⟩ _) = W9 at *
      have hfin := Lib.hid (show OwnF W9.drew 0 (fv Z (.slice As Z.stk.length ks) (.slice Al Z.loc.length kl) (.slice Ao Z.slt.length ko)) Z ∧ Below w.heap.size w W9.drew from ⟨⟨_, _, _, rfl, row_same o1 fun g e => s2 g (a1 g e), row_same o2 fun g e => s2 g (a2 g e), row_same o3 fun g e => s2 g (a3 g e)⟩, s3.drew⟩)
      have l1 := run_loadVar_row (P := Tryd.prog) _ (w.heap.size + 1 + 1) 40 40 _ (0, 0) _ (held_drew s1) Tryd.underlying40 rfl (by kernel_rfl)
      clear p0 p1 p2 p3 p4 p5 p6 p7 p8 p9 p10 p11 p12 p13 p14 p15 q0 q1 q2 q3 q4 q5 q6 q7 q8 q9 q10 q11 q12 q13 q14 q15 pz0 pz1 pz2 pz3 pz4 pz5 pz6 pz7 pz8 pz9 pz10 pz11 pz12 pz13 pz14 pz15 z0 s1 s2 s3 a1 a2 a3 o1 o2 o3 hh hR hA hO ng8 ng9 gl gl2 gl3
      generalize W9.drew = W10 at *
      go_wp2_with fail
      exact bodyPost_ret (results_ct (v2 := .int .i64 a.kd) rfl _ _ rfl rfl l1) rfl  ⟨fv Z (.slice As Z.stk.length ks) (.slice Al Z.loc.length kl) (.slice Ao Z.slt.length ko), by rw [← HS2.out], by rw [← HS2.out]; exact hfin.out.1, hfin.out.2⟩
end Go.Proofs.YtjnbockdfjhfgaaDoor

