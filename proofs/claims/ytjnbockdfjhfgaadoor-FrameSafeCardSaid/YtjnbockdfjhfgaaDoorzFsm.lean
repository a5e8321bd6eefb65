/- Layer 9's code: Same, of frames that are the same, and of frames at unlike places. -/
import Derived.Test.YtjnbockdfjhfgaaDoorzRf
import Derived.Test.YtjnbockdfjhfgaaDoorzHb
import Derived.Test.YtjnbockdfjhfgaaDoorzFc
namespace Go.Proofs.YtjnbockdfjhfgaaDoor
set_option linter.unusedVariables false
set_option linter.unusedSimpArgs false
open Gm Go.RowKit Go.ChangeShapes Go.WideShapes Go.ChangeAt Go.Sort

set_option maxHeartbeats 1000000 in
set_option maxRecDepth 100000 in
theorem sveq_any {A A2 : Option Addr} {l : List V} {B B' : Nat} (c c2 : Nat) (w : World) (h1 : VAt w B A l) (h2 : VAt w B' A2 l) (hl : l.length ≤ 1000) :
    Calls Tryd.prog 37 #[.slice A l.length c, .slice A2 l.length c2] w fun e w' => e = .returned (.bool true) ∧ Below w.heap.size w w' := by
  have H1 := Lib.hid h1
  have H2 := Lib.hid h2
  clear h1 h2
  have hl2 : (l.length : Int) ≤ 1000 := by omega
  go_enter Tryd.func37, Tryd.ntmps37
  go_wp2_with fail
  go_loopw [13] (fun iv W => ∃ j : Nat, iv = .int .i64 j ∧ j ≤ l.length ∧ Below w.heap.size w W) (fun iv _ => l.length - (intOf iv).toNat)
  case atStart => exact ⟨0, rfl, by omega, Below.refl _ _⟩
  case round =>
    obtain ⟨j, rfl, hj, hw⟩ := hrel
    by_cases hlt : j < l.length
    · obtain ⟨b1, off1, rfl, _, hc1⟩ := H1.out (by omega)
      obtain ⟨b2, off2, rfl, _, hc2⟩ := H2.out (by omega)
      obtain ⟨a0, a1⟩ := hc1 j hlt
      obtain ⟨d0, d1⟩ := hc2 j hlt
      replace a0 := (hw.cell (p := ⟨b1, off1 + j * 2, none⟩) (block_lt_of_cell a0)).trans a0
      replace a1 := (hw.cell (p := ⟨b1, off1 + j * 2 + 1, none⟩) (block_lt_of_cell a1)).trans a1
      replace d0 := (hw.cell (p := ⟨b2, off2 + j * 2, none⟩) (block_lt_of_cell d0)).trans d0
      replace d1 := (hw.cell (p := ⟨b2, off2 + j * 2 + 1, none⟩) (block_lt_of_cell d1)).trans d1
      clear hc1 hc2
      generalize l[j] = v at *
      have NE : ∀ W, (binOp .neq 33 (gv v.1 v.2) (gv v.1 v.2)).run Tryd.prog W = .ok (.bool false) W := fun W => by rw [neqv_run]; simp
      go_wp2_with fail
      go_quiet (fail)
      go_wp2_with fail
      go_roundw
      case rel => exact ⟨j + 1, by go_num, by omega, below_drewN hw _⟩
      case measure => simp [intOf]; omega
    · obtain rfl : j = l.length := by omega
      go_wp2_with fail
      go_ret
      exact ⟨rfl, hw⟩
set_option maxHeartbeats 1000000 in
set_option maxRecDepth 100000 in
theorem sseq_any {A A2 : Option Addr} {l : List Slt} {B B' : Nat} (c c2 : Nat) (w : World) (h1 : SAt w B A l) (h2 : SAt w B' A2 l) (hl : l.length ≤ 1000) :
    Calls Tryd.prog 38 #[.slice A l.length c, .slice A2 l.length c2] w fun e w' => e = .returned (.bool true) ∧ Below w.heap.size w w' := by
  have H1 := Lib.hid h1
  have H2 := Lib.hid h2
  clear h1 h2
  have hl2 : (l.length : Int) ≤ 1000 := by omega
  go_enter Tryd.func38, Tryd.ntmps38
  go_wp2_with fail
  go_loopw [13] (fun iv W => ∃ j : Nat, iv = .int .i64 j ∧ j ≤ l.length ∧ Below w.heap.size w W) (fun iv _ => l.length - (intOf iv).toNat)
  case atStart => exact ⟨0, rfl, by omega, Below.refl _ _⟩
  case round =>
    obtain ⟨j, rfl, hj, hw⟩ := hrel
    by_cases hlt : j < l.length
    · obtain ⟨b1, off1, rfl, _, hc1⟩ := H1.out (by omega)
      obtain ⟨b2, off2, rfl, _, hc2⟩ := H2.out (by omega)
      obtain ⟨a0, a1, a2, a3, a4, a5⟩ := hc1 j hlt
      obtain ⟨d0, d1', d2', d3', d4, d5⟩ := hc2 j hlt
      have l1 := block_lt_of_cell a0
      have l2 := block_lt_of_cell d0
      replace a0 := (hw.cell (p := ⟨b1, off1 + j * 6, none⟩) l1).trans a0
      replace a1 := (hw.cell (p := ⟨b1, off1 + j * 6 + 1, none⟩) l1).trans a1
      replace a2 := (hw.cell (p := ⟨b1, off1 + j * 6 + 2, none⟩) l1).trans a2
      replace a3 := (hw.cell (p := ⟨b1, off1 + j * 6 + 3, none⟩) l1).trans a3
      replace a4 := (hw.cell (p := ⟨b1, off1 + j * 6 + 4, none⟩) l1).trans a4
      replace a5 := (hw.cell (p := ⟨b1, off1 + j * 6 + 5, none⟩) l1).trans a5
      replace d0 := (hw.cell (p := ⟨b2, off2 + j * 6, none⟩) l2).trans d0
      replace d1' := (hw.cell (p := ⟨b2, off2 + j * 6 + 1, none⟩) l2).trans d1'
      replace d2' := (hw.cell (p := ⟨b2, off2 + j * 6 + 2, none⟩) l2).trans d2'
      replace d3' := (hw.cell (p := ⟨b2, off2 + j * 6 + 3, none⟩) l2).trans d3'
      replace d4 := (hw.cell (p := ⟨b2, off2 + j * 6 + 4, none⟩) l2).trans d4
      replace d5 := (hw.cell (p := ⟨b2, off2 + j * 6 + 5, none⟩) l2).trans d5
      clear hc1 hc2
      generalize l[j] = y at *
      have NE := neqs_same y.st y.kat y.kgn y.tr y.re y.im
      go_wp2_with fail
      go_quiet (fail)
      go_wp2_with fail
      go_roundw
      case rel => exact ⟨j + 1, by go_num, by omega, below_drewN hw _⟩
      case measure => simp [intOf]; omega
    · obtain rfl : j = l.length := by omega
      go_wp2_with fail
      go_ret
      exact ⟨rfl, hw⟩
set_option maxHeartbeats 4000000 in
set_option maxRecDepth 100000 in
theorem fsame_eq {B B' : Nat} {v v' : Value} {f : Frm} (w : World) (h : FrmAt w B v f) (h' : FrmAt w B' v' f) (hl : FrmLen f) (hB : B ≤ w.heap.size) (hB' : B' ≤ w.heap.size) :
    Calls Tryd.prog 20 #[v, v'] w fun e w' => e = .returned (.bool true) ∧ Below w.heap.size w w' := by
  obtain ⟨A1, c1, A2, c2, A3, c3, rfl, h1, h2, h3⟩ := h
  obtain ⟨B1, d1, B2, d2, B3, d3, rfl, g1, g2, g3⟩ := h'
  have V1 := fun W (hb : Below w.heap.size w W) => Lib.hid (sveq_any c1 d1 W (h1.below hb hB) (g1.below hb hB') hl.stk)
  have V2 := fun W (hb : Below w.heap.size w W) => Lib.hid (sveq_any c2 d2 W (h2.below hb hB) (g2.below hb hB') hl.loc)
  have V3 := fun W (hb : Below w.heap.size w W) => Lib.hid (sseq_any c3 d3 W (h3.below hb hB) (g3.below hb hB') hl.slt)
  have EO := eqo_same f.otr f.ore f.oim
  have ER := eqr_same f.uat f.ugn
  clear h1 h2 h3 g1 g2 g3 hl hB hB'
  obtain ⟨fn, pc, stk, loc, slt, seed, spn, drw, st, wt, otr, ore, oim, uat, ugn, usl⟩ := f
  simp only at *
  go_enter Tryd.func20, Tryd.ntmps20
  go_wp2_with (first
    | (go_at_call 37; (((with_reducible refine (V1 _ ?_).out.mono ?_); (focus (go_grown))); rintro _ u ⟨rfl, hb⟩; have hbw := Below.step (below2 w _ _) hb; have hx := ((Held.new w _ _).alloc _).below hb; have hy := (Held.new1 w _ _ _).below hb; have x3 := hx.cell 3; have y3 := hy.cell 3; simp at x3 y3))
    | (go_at_call 37; (((with_reducible refine (V2 _ hbw).out.mono ?_)); rintro _ u2 ⟨rfl, hb2⟩; replace hx := hx.below hb2; replace hy := hy.below hb2; replace hbw := Below.step hbw hb2; have x4 := hx.cell 4; have y4 := hy.cell 4; simp at x4 y4))
    | (go_at_call 38; (((with_reducible refine (V3 _ hbw).out.mono ?_)); rintro _ u3 ⟨rfl, hb3⟩; replace hx := hx.below hb3; replace hy := hy.below hb3; replace hbw := Below.step hbw hb3; have x5 := hx.cell 5; have y5 := hy.cell 5; have x6 := hx.cell 6; have y6 := hy.cell 6; have x7 := hx.cell 7; have y7 := hy.cell 7; have x8 := hx.cell 8; have y8 := hy.cell 8; have x9 := hx.cell 9; have y9 := hy.cell 9; have x10 := hx.cell 10; have y10 := hy.cell 10; have x11 := hx.cell 11; have y11 := hy.cell 11; have x12 := hx.cell 12; have y12 := hy.cell 12; have x13 := hx.cell 13; have y13 := hy.cell 13; have x14 := hx.cell 14; have y14 := hy.cell 14; have x15 := hx.cell 15; have y15 := hy.cell 15; simp at x5 y5 x6 y6 x7 y7 x8 y8 x9 y9 x10 y10 x11 y11 x12 y12 x13 y13 x14 y14 x15 y15)))
  go_ret
  exact ⟨rfl, hbw⟩
set_option maxHeartbeats 4000000 in
set_option maxRecDepth 100000 in
theorem fsame_pc {B B' : Nat} {v v' : Value} {f g : Frm} (w : World) (h : FrmAt w B v f) (h' : FrmAt w B' v' g) (he : f.fn = g.fn) (hne : f.pc ≠ g.pc) :
    Calls Tryd.prog 20 #[v, v'] w fun e w' => e = .returned (.bool false) ∧ Below w.heap.size w w' := by
  obtain ⟨A1, c1, A2, c2, A3, c3, rfl, h1, h2, h3⟩ := h
  obtain ⟨B1, d1, B2, d2, B3, d3, rfl, g1, g2, g3⟩ := h'
  have e1 : (f.pc == g.pc) = false := by simpa using hne
  have e0 : (f.fn == g.fn) = true := by simpa using he
  clear h1 h2 h3 g1 g2 g3 hne he
  generalize f.stk.length = n1
  generalize f.loc.length = n2
  generalize f.slt.length = n3
  generalize g.stk.length = m1
  generalize g.loc.length = m2
  generalize g.slt.length = m3
  obtain ⟨fn, pc, stk, loc, slt, seed, spn, drw, st, wt, otr, ore, oim, uat, ugn, usl⟩ := f
  obtain ⟨gfn, gpc, gstk, gloc, gslt, gseed, gspn, gdrw, gst, gwt, gotr, gore, goim, guat, gugn, gusl⟩ := g
  simp only at *
  go_enter Tryd.func20, Tryd.ntmps20
  go_wp2_with fail
  go_ret
  exact ⟨rfl, by go_grown⟩
end Go.Proofs.YtjnbockdfjhfgaaDoor

