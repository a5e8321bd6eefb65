/- Layer 12: frames compared, at every input: the document's. -/
import Derived.Test.YtjibkgildfjjoaaGreatDoorzYb
namespace Go.Proofs.YtjibkgildfjjoaaGreatDoor
set_option linter.unusedVariables false
set_option linter.unusedSimpArgs false
open Go.RowKit Go.ChangeShapes Go.WideShapes Go.ChangeAt Go.Sort

theorem eqo_run2 (a b c d e f : Int) (W : World) : (binOp .eql 40 (outv a b c) (outv d e f)).run Tryz.prog W = .ok (.bool (decide ((a, b, c) = (d, e, f)))) W := by
  by_cases h1 : a = d <;> by_cases h2 : b = e <;> by_cases h3 : c = f <;> simp [go_sem, h1, h2, h3]
theorem frm_eq2 (f g : Frm) : decide (f = g) = (decide (f.stk = g.stk) && decide (f.loc = g.loc) && decide (f.slt = g.slt) && (f.fn == g.fn) && (f.pc == g.pc) && (f.seed == g.seed) && (f.spn == g.spn) && (f.drw == g.drw) && (f.st == g.st) && (f.wt == g.wt) &&
    decide ((f.otr, f.ore, f.oim) = (g.otr, g.ore, g.oim)) && decide ((f.uat, f.ugn) = (g.uat, g.ugn)) && (f.usl == g.usl)) := by
  obtain ⟨f1, f2, f3, f4, f5, f6, f7, f8, f9, f10, f11, f12, f13, f14, f15, f16⟩ := f
  obtain ⟨g1, g2, g3, g4, g5, g6, g7, g8, g9, g10, g11, g12, g13, g14, g15, g16⟩ := g
  rw [Bool.eq_iff_iff]
  simp only [decide_eq_true_eq, Frm.mk.injEq, Bool.and_eq_true, beq_iff_eq, Prod.mk.injEq]
  constructor
  · rintro ⟨h1, h2, h3, h4, h5, h6, h7, h8, h9, h10, h11, h12, h13, h14, h15, h16⟩
    exact ⟨⟨⟨⟨⟨⟨⟨⟨⟨⟨⟨⟨h3, h4⟩, h5⟩, h1⟩, h2⟩, h6⟩, h7⟩, h8⟩, h9⟩, h10⟩, h11, h12, h13⟩, h14, h15⟩, h16⟩
  · rintro ⟨⟨⟨⟨⟨⟨⟨⟨⟨⟨⟨⟨h3, h4⟩, h5⟩, h1⟩, h2⟩, h6⟩, h7⟩, h8⟩, h9⟩, h10⟩, h11, h12, h13⟩, h14, h15⟩, h16⟩
    exact ⟨h1, h2, h3, h4, h5, h6, h7, h8, h9, h10, h11, h12, h13, h14, h15, h16⟩
set_option maxHeartbeats 8000000 in
set_option maxRecDepth 100000 in
theorem rsamef_z {B B' : Nat} {cs ds : Array Value} {f g : Frm} (w : World) (h : FrmAt w B (.agg cs) f) (h' : FrmAt w B' (.agg ds) g) (hl : FrmLen f) (hl' : FrmLen g) (hB : B ≤ w.heap.size) (hB' : B' ≤ w.heap.size) :
    Calls Tryz.prog 24 #[.agg cs, .agg ds] w fun e w' => e = .returned (.bool (decide (f = g))) ∧ Below w.heap.size w w' := by
  obtain ⟨A1, c1, A2, c2, A3, c3, e, h1, h2, h3⟩ := h
  obtain ⟨B1, d1, B2, d2, B3, d3, e', g1, g2, g3⟩ := h'
  rw [e, e']
  clear e e'
  have V1 := fun W (hb : Below w.heap.size w W) => Lib.hid (rvals_z c1 d1 W rfl rfl (h1.below hb hB) (g1.below hb hB') (Nat.le_trans hl.stk (by decide)) (Nat.le_trans hl'.stk (by decide)))
  have V2 := fun W (hb : Below w.heap.size w W) => Lib.hid (rvals_z c2 d2 W rfl rfl (h2.below hb hB) (g2.below hb hB') (Nat.le_trans hl.loc (by decide)) (Nat.le_trans hl'.loc (by decide)))
  have H3 := fun W (hb : Below w.heap.size w W) => Lib.hid (h3.below hb hB)
  have G3 := fun W (hb : Below w.heap.size w W) => Lib.hid (g3.below hb hB')
  have hl3 : (f.slt.length : Int) ≤ 1000 := by have := hl.slt; omega
  have hl4 : (g.slt.length : Int) ≤ 1000 := by have := hl'.slt; omega
  have HE := Lib.hid (frm_eq2 f g)
  have HS : Hid (f.slt ≠ g.slt → decide (f.slt = g.slt) = false) := Lib.hid decide_eq_false
  have HS1 : Hid (f.slt = g.slt → decide (f.slt = g.slt) = true) := Lib.hid decide_eq_true
  clear h1 h2 h3 g1 g2 g3 hl hl' hB hB'
  obtain ⟨fn, pc, stk, loc, slt, seed, spn, drw, st, wt, otr, ore, oim, uat, ugn, usl⟩ := f
  obtain ⟨fn', pc', stk', loc', slt', seed', spn', drw', st', wt', otr', ore', oim', uat', ugn', usl'⟩ := g
  generalize decide (Frm.mk fn pc stk loc slt seed spn drw st wt otr ore oim uat ugn usl = Frm.mk fn' pc' stk' loc' slt' seed' spn' drw' st' wt' otr' ore' oim' uat' ugn' usl') = R at *
  simp only at HE V1 V2 H3 G3 hl3 hl4 HS HS1
  have EO := eqo_run2 otr ore oim otr' ore' oim'
  have ER := eqr_run uat ugn uat' ugn'
  obtain ⟨b1, e1⟩ : ∃ b, (fn == fn') = b := ⟨_, rfl⟩
  obtain ⟨b2, e2⟩ : ∃ b, (pc == pc') = b := ⟨_, rfl⟩
  generalize decide (stk = stk') = b3 at *
  generalize decide (loc = loc') = b4 at *
  generalize decide (slt = slt') = b5 at *
  obtain ⟨b6, e6⟩ : ∃ b, (seed == seed') = b := ⟨_, rfl⟩
  obtain ⟨b7, e7⟩ : ∃ b, (spn == spn') = b := ⟨_, rfl⟩
  obtain ⟨b8, e8⟩ : ∃ b, (drw == drw') = b := ⟨_, rfl⟩
  obtain ⟨b9, e9⟩ : ∃ b, (st == st') = b := ⟨_, rfl⟩
  obtain ⟨b10, e10⟩ : ∃ b, (wt == wt') = b := ⟨_, rfl⟩
  generalize decide ((otr, ore, oim) = (otr', ore', oim')) = b11 at *
  generalize decide ((uat, ugn) = (uat', ugn')) = b12 at *
  obtain ⟨b13, e13⟩ : ∃ b, (usl == usl') = b := ⟨_, rfl⟩
  rw [e1, e2, e6, e7, e8, e9, e10, e13] at HE
  generalize stk.length = n1 at *
  generalize loc.length = n2 at *
  generalize stk'.length = m1 at *
  generalize loc'.length = m2 at *
  obtain ⟨n3, hn3⟩ : ∃ n, slt.length = n := ⟨_, rfl⟩
  obtain ⟨m3, hm3⟩ : ∃ n, slt'.length = n := ⟨_, rfl⟩
  rw [hn3] at hl3 ⊢
  rw [hm3] at hl4 ⊢
  have HN := Lib.hid hn3
  have HM := Lib.hid hm3
  clear hn3 hm3
  have NO : Hid (n3 ≠ m3 → b5 = false) := Lib.hid fun h => HS.out fun e => h (by rw [← HN.out, ← HM.out, e])
  by_cases hlen : n3 = m3
  case neg =>
    have ne : ((n3 : Int) != (m3 : Int)) = true := by simpa using fun e : (n3 : Int) = m3 => hlen (by omega)
    obtain rfl : b5 = false := NO.out hlen
    clear hlen
    go_enter Tryz.func24, Tryz.ntmps24
    go_wp2_with fail
    go_ret
    rw [HE.out]
    exact ⟨ret_bool (by simp only [Bool.false_and, Bool.and_false]), by go_grown⟩
  case pos =>
  subst hlen
  cases b3 with
  | false =>
    go_enter Tryz.func24, Tryz.ntmps24
    go_wp2_with (go_at_call 53; ((with_reducible refine (V1 _ ?_).out.mono ?_); (focus (go_grown))); rintro _ u ⟨rfl, hb⟩; have hbw := Below.step (below2 w _ _) hb)
    go_ret
    rw [HE.out]
    exact ⟨ret_bool (by simp only [Bool.false_and, Bool.and_false]), hbw⟩
  | true =>
  cases b4 with
  | false =>
    go_enter Tryz.func24, Tryz.ntmps24
    go_wp2_with (first
      | (go_at_call 53; (((with_reducible refine (V1 _ ?_).out.mono ?_); (focus (go_grown))); rintro _ u ⟨rfl, hb⟩; have hbw := Below.step (below2 w _ _) hb; have hx := ((Held.new w _ _).alloc _).below hb; have hy := (Held.new1 w _ _ _).below hb; have x3 := hx.cell 3; have y3 := hy.cell 3; simp at x3 y3))
      | (go_at_call 53; (((with_reducible refine (V2 _ hbw).out.mono ?_)); rintro _ u2 ⟨rfl, hb2⟩; replace hbw := Below.step hbw hb2)))
    go_ret
    rw [HE.out]
    exact ⟨ret_bool (by simp only [Bool.false_and, Bool.and_false]), hbw⟩
  | true =>
  go_enter Tryz.func24, Tryz.ntmps24
  go_wp2_with (first
    | (go_at_call 53; (((with_reducible refine (V1 _ ?_).out.mono ?_); (focus (go_grown))); rintro _ u ⟨rfl, hb⟩; have hbw := Below.step (below2 w _ _) hb; have hx := ((Held.new w _ _).alloc _).below hb; have hy := (Held.new1 w _ _ _).below hb; have x3 := hx.cell 3; have y3 := hy.cell 3; simp at x3 y3))
    | (go_at_call 53; (((with_reducible refine (V2 _ hbw).out.mono ?_)); rintro _ u2 ⟨rfl, hb2⟩; replace hx := hx.below hb2; replace hy := hy.below hb2; replace hbw := Below.step hbw hb2; have x4 := hx.cell 4; have y4 := hy.cell 4; simp at x4 y4)))
  have HX := Lib.hid hx
  have HY := Lib.hid hy
  have HW := Lib.hid hbw
  have hxl := hx.lt
  have hyl := hy.lt
  clear V1 V2 hx hy x3 y3
  go_loopw [5] (fun iv W => ∃ j : Nat, iv = .int .i64 j ∧ j ≤ n3 ∧ slt.take j = slt'.take j ∧ Below u2.heap.size u2 W) (fun iv _ => n3 - (intOf iv).toNat)
  case atStart => exact ⟨0, rfl, by omega, by simp, Below.refl _ _⟩
  case round =>
    obtain ⟨j, rfl, hj, htk, hw⟩ := hrel
    have HTK := Lib.hid htk
    clear htk
    replace x4 := (hw.cell (p := ⟨w.heap.size, 4, none⟩) hxl).trans x4
    replace y4 := (hw.cell (p := ⟨w.heap.size + 1, 4, none⟩) hyl).trans y4
    by_cases hlt : j < n3
    · have hjl : j < slt.length := by rw [HN.out]; exact hlt
      have hjk : j < slt'.length := by rw [HM.out]; exact hlt
      obtain ⟨k1, off1, rfl, q1, hc1⟩ := (H3 _ hbw).out (by omega)
      obtain ⟨k2, off2, rfl, q2, hc2⟩ := (G3 _ hbw).out (by omega)
      obtain ⟨a0, a1, a2, a3, a4, a5⟩ := hc1 j hjl
      obtain ⟨d0, d1', d2', d3', d4, d5⟩ := hc2 j hjk
      have l1 : k1 < u2.heap.size := block_lt_of_cell a0
      have l2 : k2 < u2.heap.size := block_lt_of_cell d0
      replace a0 := (hw.cell (p := ⟨k1, off1 + j * 6, none⟩) l1).trans a0
      replace a1 := (hw.cell (p := ⟨k1, off1 + j * 6 + 1, none⟩) l1).trans a1
      replace a2 := (hw.cell (p := ⟨k1, off1 + j * 6 + 2, none⟩) l1).trans a2
      replace a3 := (hw.cell (p := ⟨k1, off1 + j * 6 + 3, none⟩) l1).trans a3
      replace a4 := (hw.cell (p := ⟨k1, off1 + j * 6 + 4, none⟩) l1).trans a4
      replace a5 := (hw.cell (p := ⟨k1, off1 + j * 6 + 5, none⟩) l1).trans a5
      replace d0 := (hw.cell (p := ⟨k2, off2 + j * 6, none⟩) l2).trans d0
      replace d1' := (hw.cell (p := ⟨k2, off2 + j * 6 + 1, none⟩) l2).trans d1'
      replace d2' := (hw.cell (p := ⟨k2, off2 + j * 6 + 2, none⟩) l2).trans d2'
      replace d3' := (hw.cell (p := ⟨k2, off2 + j * 6 + 3, none⟩) l2).trans d3'
      replace d4 := (hw.cell (p := ⟨k2, off2 + j * 6 + 4, none⟩) l2).trans d4
      replace d5 := (hw.cell (p := ⟨k2, off2 + j * 6 + 5, none⟩) l2).trans d5
      clear hc1 hc2
      have T1 := Lib.hid (List.take_succ_eq_append_getElem hjl)
      have T2 := Lib.hid (List.take_succ_eq_append_getElem hjk)
      have NE9 : Hid (slt[j] ≠ slt'[j] → b5 = false) := Lib.hid fun hne => HS.out fun e => hne (by subst e; rfl)
      have hlt2 : (j : Int) < n3 := by omega
      have hj0 : (0 : Int) ≤ j := by omega
      generalize slt[j] = y at *
      generalize slt'[j] = x at *
      by_cases hyx : y = x
      · subst hyx
        have NE : ∀ W, (binOp .neq 96 (sv y) (sv y)).run Tryz.prog W = .ok (.bool false) W := fun W => by rw [neqs_run]; simp
        go_wp2_with fail
        go_quiet (fail)
        go_wp2_with fail
        go_roundw
        case rel => exact ⟨j + 1, by go_num, by omega, by rw [T1.out, T2.out, HTK.out], below_drewN hw _⟩
        case measure => simp [intOf]; omega
      · have NE : ∀ W, (binOp .neq 96 (sv y) (sv x)).run Tryz.prog W = .ok (.bool true) W := fun W => by rw [neqs_run, decide_eq_true hyx]
        obtain rfl : b5 = false := NE9.out hyx
        have HWW := Lib.hid (Below.step HW.out hw)
        clear hyx
        go_wp2_with fail
        go_quiet (fail)
        go_wp2_with fail
        go_ret
        rw [HE.out]
        exact ⟨ret_bool (by simp only [Bool.false_and, Bool.and_false]), below_drewN HWW.out _⟩
    · obtain rfl : j = n3 := by omega
      obtain rfl : b5 = true := HS1.out (by
        have := HTK.out
        rwa [List.take_of_length_le (by rw [HN.out]; exact Nat.le_refl _), List.take_of_length_le (by rw [HM.out]; exact Nat.le_refl _)] at this)
      have hx := HX.out.below hw
      have hy := HY.out.below hw
      have x0 := hx.cell 0
      have y0 := hy.cell 0
      have x1 := hx.cell 1
      have y1 := hy.cell 1
      have x5 := hx.cell 5
      have y5 := hy.cell 5
      have x6 := hx.cell 6
      have y6 := hy.cell 6
      have x7 := hx.cell 7
      have y7 := hy.cell 7
      have x8 := hx.cell 8
      have y8 := hy.cell 8
      have x9 := hx.cell 9
      have y9 := hy.cell 9
      have x10 := hx.cell 10
      have y10 := hy.cell 10
      have x11 := hx.cell 11
      have y11 := hy.cell 11
      have x12 := hx.cell 12
      have y12 := hy.cell 12
      have x13 := hx.cell 13
      have y13 := hy.cell 13
      have x14 := hx.cell 14
      have y14 := hy.cell 14
      have x15 := hx.cell 15
      have y15 := hy.cell 15
      simp at x0 y0 x1 y1 x5 y5 x6 y6 x7 y7 x8 y8 x9 y9 x10 y10 x11 y11 x12 y12 x13 y13 x14 y14 x15 y15
      have HWW := Lib.hid (Below.step HW.out hw)
      clear hx hy hw hlt
      go_wp2_with fail
      all_goals
        go_ret
        clear EO ER
        rw [HE.out]
        exact ⟨ret_bool (by simp only [*, Bool.true_and, Bool.and_true, Bool.false_and, Bool.and_false]), HWW.out⟩
end Go.Proofs.YtjibkgildfjjoaaGreatDoor

