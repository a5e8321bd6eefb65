/- Layer 12: frames compared, at every input: the code's. -/
import Derived.Test.YtjibkgildfjjoaaDoorzYo
namespace Go.Proofs.YtjibkgildfjjoaaDoor
set_option linter.unusedVariables false
set_option linter.unusedSimpArgs false
open Go.RowKit Go.ChangeShapes Go.WideShapes Go.ChangeAt Go.Sort

theorem eqo_run (a b c d e f : Int) (W : World) : (binOp .eql 37 (outv a b c) (outv d e f)).run Tryd.prog W = .ok (.bool (decide ((a, b, c) = (d, e, f)))) W := by
  by_cases h1 : a = d <;> by_cases h2 : b = e <;> by_cases h3 : c = f <;> simp [go_sem, h1, h2, h3]
theorem frm_eq (f g : Frm) : decide (f = g) = ((f.fn == g.fn) && (f.pc == g.pc) && decide (f.stk = g.stk) && decide (f.loc = g.loc) && decide (f.slt = g.slt) && (f.seed == g.seed) && (f.spn == g.spn) && (f.drw == g.drw) && (f.st == g.st) && (f.wt == g.wt) &&
    decide ((f.otr, f.ore, f.oim) = (g.otr, g.ore, g.oim)) && decide ((f.uat, f.ugn) = (g.uat, g.ugn)) && (f.usl == g.usl)) := by
  obtain ⟨f1, f2, f3, f4, f5, f6, f7, f8, f9, f10, f11, f12, f13, f14, f15, f16⟩ := f
  obtain ⟨g1, g2, g3, g4, g5, g6, g7, g8, g9, g10, g11, g12, g13, g14, g15, g16⟩ := g
  rw [Bool.eq_iff_iff]
  simp only [decide_eq_true_eq, Frm.mk.injEq, Bool.and_eq_true, beq_iff_eq, Prod.mk.injEq]
  constructor
  · rintro ⟨h1, h2, h3, h4, h5, h6, h7, h8, h9, h10, h11, h12, h13, h14, h15, h16⟩
    exact ⟨⟨⟨⟨⟨⟨⟨⟨⟨⟨⟨⟨h1, h2⟩, h3⟩, h4⟩, h5⟩, h6⟩, h7⟩, h8⟩, h9⟩, h10⟩, h11, h12, h13⟩, h14, h15⟩, h16⟩
  · rintro ⟨⟨⟨⟨⟨⟨⟨⟨⟨⟨⟨⟨h1, h2⟩, h3⟩, h4⟩, h5⟩, h6⟩, h7⟩, h8⟩, h9⟩, h10⟩, h11, h12, h13⟩, h14, h15⟩, h16⟩
    exact ⟨h1, h2, h3, h4, h5, h6, h7, h8, h9, h10, h11, h12, h13, h14, h15, h16⟩
set_option maxHeartbeats 8000000 in
set_option maxRecDepth 100000 in
theorem fsame_z {B B' : Nat} {cs ds : Array Value} {f g : Frm} (w : World) (h : FrmAt w B (.agg cs) f) (h' : FrmAt w B' (.agg ds) g) (hl : FrmLen f) (hl' : FrmLen g) (hB : B ≤ w.heap.size) (hB' : B' ≤ w.heap.size) :
    Calls Tryd.prog 41 #[.agg cs, .agg ds] w fun e w' => e = .returned (.bool (decide (f = g))) ∧ Below w.heap.size w w' := by
  obtain ⟨A1, c1, A2, c2, A3, c3, e, h1, h2, h3⟩ := h
  obtain ⟨B1, d1, B2, d2, B3, d3, e', g1, g2, g3⟩ := h'
  rw [e, e']
  clear e e'
  have V1 := fun W (hb : Below w.heap.size w W) => Lib.hid (svals_z c1 d1 W rfl rfl (h1.below hb hB) (g1.below hb hB') (Nat.le_trans hl.stk (by decide)) (Nat.le_trans hl'.stk (by decide)))
  have V2 := fun W (hb : Below w.heap.size w W) => Lib.hid (svals_z c2 d2 W rfl rfl (h2.below hb hB) (g2.below hb hB') (Nat.le_trans hl.loc (by decide)) (Nat.le_trans hl'.loc (by decide)))
  have V3 := fun W (hb : Below w.heap.size w W) => Lib.hid (sslots_z c3 d3 W rfl rfl (h3.below hb hB) (g3.below hb hB') (Nat.le_trans hl.slt (by decide)) (Nat.le_trans hl'.slt (by decide)))
  have HE := Lib.hid (frm_eq f g)
  clear h1 h2 h3 g1 g2 g3 hl hl' hB hB'
  obtain ⟨fn, pc, stk, loc, slt, seed, spn, drw, st, wt, otr, ore, oim, uat, ugn, usl⟩ := f
  obtain ⟨fn', pc', stk', loc', slt', seed', spn', drw', st', wt', otr', ore', oim', uat', ugn', usl'⟩ := g
  generalize decide (Frm.mk fn pc stk loc slt seed spn drw st wt otr ore oim uat ugn usl = Frm.mk fn' pc' stk' loc' slt' seed' spn' drw' st' wt' otr' ore' oim' uat' ugn' usl') = R at *
  simp only at HE V1 V2 V3
  have EO := eqo_run otr ore oim otr' ore' oim'
  have ER := eqr_run uat ugn uat' ugn'
  obtain ⟨b1, e1⟩ : ∃ b, (fn == fn') = b := ⟨_, rfl⟩
  obtain ⟨b2, e2⟩ : ∃ b, (pc == pc') = b := ⟨_, rfl⟩
  generalize decide (stk = stk') = b3 at *
  generalize decide (loc = loc') = b4 at *
  generalize decide (slt = slt') = b5 at *
  obtain ⟨b6, e6⟩ : ∃ b, (seed == seed') = b := ⟨_, rfl⟩
  obtain ⟨b7, e7⟩ : ∃ b, (spn == spn') = b := ⟨_, rfl⟩
  obtain ⟨b8, e8⟩ : ∃ b, (drw == drw') = b := ⟨_, rfl⟩
  obtain ⟨b9, e9⟩ : ∃ b, (st == st') = b := ⟨_, rfl⟩
  obtain ⟨b10, e10⟩ : ∃ b, (wt == wt') = b := ⟨_, rfl⟩
  generalize decide ((otr, ore, oim) = (otr', ore', oim')) = b11 at *
  generalize decide ((uat, ugn) = (uat', ugn')) = b12 at *
  obtain ⟨b13, e13⟩ : ∃ b, (usl == usl') = b := ⟨_, rfl⟩
  rw [e1, e2, e6, e7, e8, e9, e10, e13] at HE
  generalize stk.length = n1 at *
  generalize loc.length = n2 at *
  generalize slt.length = n3 at *
  generalize stk'.length = m1 at *
  generalize loc'.length = m2 at *
  generalize slt'.length = m3 at *
  go_enter Tryd.func41, Tryd.ntmps41
  go_wp2_with (first
    | (go_at_call 61; (((with_reducible refine (V1 _ ?_).out.mono ?_); (focus (go_grown))); rintro _ u ⟨rfl, hb⟩; have hbw := Below.step (below2 w _ _) hb; have hx := ((Held.new w _ _).alloc _).below hb; have hy := (Held.new1 w _ _ _).below hb; have x3 := hx.cell 3; have y3 := hy.cell 3; simp at x3 y3; clear V1))
    | (go_at_call 61; (((with_reducible refine (V2 _ hbw).out.mono ?_)); rintro _ u2 ⟨rfl, hb2⟩; replace hx := hx.below hb2; replace hy := hy.below hb2; replace hbw := Below.step hbw hb2; have x4 := hx.cell 4; have y4 := hy.cell 4; simp at x4 y4))
    | (go_at_call 62; (((with_reducible refine (V3 _ hbw).out.mono ?_)); rintro _ u3 ⟨rfl, hb3⟩; replace hx := hx.below hb3; replace hy := hy.below hb3; replace hbw := Below.step hbw hb3; have x5 := hx.cell 5; have y5 := hy.cell 5; have x6 := hx.cell 6; have y6 := hy.cell 6; have x7 := hx.cell 7; have y7 := hy.cell 7; have x8 := hx.cell 8; have y8 := hy.cell 8; have x9 := hx.cell 9; have y9 := hy.cell 9; have x10 := hx.cell 10; have y10 := hy.cell 10; have x11 := hx.cell 11; have y11 := hy.cell 11; have x12 := hx.cell 12; have y12 := hy.cell 12; have x13 := hx.cell 13; have y13 := hy.cell 13; have x14 := hx.cell 14; have y14 := hy.cell 14; have x15 := hx.cell 15; have y15 := hy.cell 15; simp at x5 y5 x6 y6 x7 y7 x8 y8 x9 y9 x10 y10 x11 y11 x12 y12 x13 y13 x14 y14 x15 y15)))
  all_goals
    go_ret
    clear V2 V3 EO ER
    rw [HE.out]
    refine ⟨ret_bool (by simp only [*, Bool.true_and, Bool.and_true, Bool.false_and, Bool.and_false]), ?_⟩
    first
      | exact hbw
      | go_grown
end Go.Proofs.YtjibkgildfjjoaaDoor

