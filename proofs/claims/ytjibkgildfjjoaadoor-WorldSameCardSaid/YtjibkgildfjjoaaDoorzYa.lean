/- Layer 12's code: a frame in memory of its own. -/
import Derived.Test.YtjibkgildfjjoaaDoorzFmb
import Derived.Test.YtjibkgildfjjoaaDoorzYo
import Derived.Test.YtjibkgildfjjoaaDoorzQt
import Derived.Deep.RegionHeld3
import Derived.BigQuiet
import Derived.Laws.CopyOwn
namespace Go.Proofs.YtjibkgildfjjoaaDoor
set_option linter.unusedVariables false
set_option linter.unusedSimpArgs false
open Go.RowKit Go.ChangeShapes Go.WideShapes Go.ChangeAt Go.Sort



set_option maxHeartbeats 8000000 in
set_option maxRecDepth 100000 in
theorem own_any {B : Nat} {v : Value} {f : Frm} (w : World) (h : FrmAt w B v f) (hl : FrmLen f) (hB : B ≤ w.heap.size) :
    Calls Tryd.prog 56 #[v] w fun e w' => ∃ s l o, e = .returned (fv f s l o) ∧ OwnVs w' w.heap.size s f.stk ∧ OwnVs w' w.heap.size l f.loc ∧ OwnSs w' w.heap.size o f.slt ∧
      (∀ b, s.ownBlock = some b → l.ownBlock ≠ some b) ∧ (∀ b, s.ownBlock = some b → o.ownBlock ≠ some b) ∧ (∀ b, l.ownBlock = some b → o.ownBlock ≠ some b) ∧ Below w.heap.size w w' := by
  obtain ⟨A1, c1, A2, c2, A3, c3, rfl, h1, h2, h3⟩ := h
  have C1 := fun W (hb : Below w.heap.size w W) => Lib.hid (clonev_any c1 W (h1.below hb hB) (by have := hl.stk; omega) (Nat.le_trans hB hb.size))
  have C2 := fun W (hb : Below w.heap.size w W) => Lib.hid (clonev_any c2 W (h2.below hb hB) (by have := hl.loc; omega) (Nat.le_trans hB hb.size))
  have C3 := fun W (hb : Below w.heap.size w W) => Lib.hid (clones_any c3 W (h3.below hb hB) (by have := hl.slt; omega) (Nat.le_trans hB hb.size))
  clear h1 h2 h3 hl hB
  go_enter Tryd.func56, Tryd.ntmps56
  go_upto_region 1 with (fail)
  have hx := (Held.new w 54 (fcA f (.slice A1 f.stk.length c1) (.slice A2 f.loc.length c2) (.slice A3 f.slt.length c3))).alloc (.cells fz0 54)
  have hr := Held.new1 w (.cells (fcA f (.slice A1 f.stk.length c1) (.slice A2 f.loc.length c2) (.slice A3 f.slt.length c3)) 54) 54 fz0
  have hbw : Below w.heap.size w ((w.alloc (.cells (fcA f (.slice A1 f.stk.length c1) (.slice A2 f.loc.length c2) (.slice A3 f.slt.length c3)) 54)).alloc (.cells fz0 54)) := below2 w _ _
  have hsz : ((w.alloc (.cells (fcA f (.slice A1 f.stk.length c1) (.slice A2 f.loc.length c2) (.slice A3 f.slt.length c3)) 54)).alloc (.cells fz0 54)).heap.size = w.heap.size + 2 := by simp
  generalize (w.alloc (.cells (fcA f (.slice A1 f.stk.length c1) (.slice A2 f.loc.length c2) (.slice A3 f.slt.length c3)) 54)).alloc (.cells fz0 54) = W0 at *
  have c2 := hx.cell 2
  have c3 := hx.cell 3
  have c4 := hx.cell 4
  simp at c2 c3 c4
  go_cut [] (fun wx => MidC w f wx)
  case first =>
    go_region_with (first
      | (go_at_call 77; (with_reducible refine (C1 _ hbw.drew).out.mono ?_); rintro _ u1 ⟨s, rfl, hs, hb1⟩; obtain ⟨As, cs, rfl, _⟩ := hs.lies; have hbw1 : Below w.heap.size w u1 := Below.step hbw.drew hb1; have hx1 := (held_drew hx).below hb1; have c3 := hx1.cell 3; have c4 := hx1.cell 4; simp at c3 c4)
      | (go_at_call 77; (with_reducible refine (C2 _ hbw1).out.mono ?_); rintro _ u2 ⟨l, rfl, hl, hb2⟩; obtain ⟨Al, cl, rfl, _⟩ := hl.lies; have hbw2 := Below.step hbw1 hb2; have hx2 := hx1.below hb2; have c4 := hx2.cell 4; simp at c4)
      | (go_at_call 78; (with_reducible refine (C3 _ hbw2).out.mono ?_); rintro _ u3 ⟨o, rfl, ho, hb3⟩; obtain ⟨Ao, co, rfl, _⟩ := ho.lies; have hbw3 := Below.step hbw2 hb3; have hx3 := hx2.below hb3; have c2 := hx3.cell 2; have c3 := hx3.cell 3; have c4 := hx3.cell 4; have z2 := hx3.fz 2; have z3 := hx3.fz 3; have z4 := hx3.fz 4; simp at c2 c3 c4))
    all_goals
      go_wp2_with fail
      go_meet
      case rel => exact mid_of (by have := hb1.size; simp at this; omega) hx3 ((((held_drew hr).below hb1).below hb2).below hb3) hb2 hb3 (by simp; omega) hs hl ho hbw3
  case rest =>
    clear c2 c3 c4 hx hr hbw hsz C1 C2 C3
    obtain ⟨B1, k1, B2, k2, B3, k3, hx, hr, h1, h2, h3, d1, d2, d3, hb⟩ := hcut
    have HR := Lib.hid (hx.lt)
    have hne : w.heap.size ≠ w.heap.size + 1 := by omega
    have H1 := Lib.hid h1
    have H2 := Lib.hid h2
    have H3 := Lib.hid h3
    have D1 := Lib.hid d1
    have D2 := Lib.hid d2
    have D3 := Lib.hid d3
    have HB := Lib.hid hb
    clear h1 h2 h3 d1 d2 d3 hb
    go_wp2_with (first
      | (refine wpList_load_row rfl 54 _ rfl w.heap.size rfl _ _ _ _ hx Tryd.underlying54 rfl (by kernel_rfl) ?_)
      | (refine wpList_store_row rfl 54 _ _ rfl (w.heap.size + 1) (fcA f (.slice B1 f.stk.length k1) (.slice B2 f.loc.length k2) (.slice B3 f.slt.length k3)) rfl rfl _ _ hr (by kernel_rfl) rfl (by simp [Value.oneCell']) ?_))
    have hh := setRow_heap _ (w.heap.size + 1) _ (fcA f (.slice B1 f.stk.length k1) (.slice B2 f.loc.length k2) (.slice B3 f.slt.length k3)) _ _ hr
    have hx : ∀ g, g ≠ w.heap.size + 1 → (wc.setRow (w.heap.size + 1) (fcA f (.slice B1 f.stk.length k1) (.slice B2 f.loc.length k2) (.slice B3 f.slt.length k3))).heap[g]? = wc.heap[g]? := fun g hg => setRow_far _ _ _ _ hg
    refine bodyPost_ret (v := fv f (.slice B1 f.stk.length k1) (.slice B2 f.loc.length k2) (.slice B3 f.slt.length k3)) (results_cell_row rfl _ _ (w.heap.size + 1) 54 _ (0, 0) _ rfl hh Tryd.underlying54 rfl (by kernel_rfl)) rfl ?_
    refine ⟨_, _, _, rfl, row_mono (row_same H1.out fun g e => hx g ?_) (by omega), row_mono (row_same H2.out fun g e => hx g ?_) (by omega), row_mono (row_same H3.out fun g e => hx g ?_) (by omega), D1.out, D2.out, D3.out, below_setRow HB.out (by omega) _⟩
    · have := (H1.out.lt g e).1; omega
    · have := (H2.out.lt g e).1; omega
    · have := (H3.out.lt g e).1; omega
/-- As the calls meet it. -/
theorem own_c {B : Nat} {cs : Array Value} {f : Frm} (w : World) (h : FrmAt w B (.agg cs) f) (hl : FrmLen f) (hB : B ≤ w.heap.size) :
    Calls Tryd.prog 56 #[.agg cs] w fun e w' => ∃ ds : Array Value, e = .returned (.agg ds) ∧ ds.size = 16 ∧ ds.all (·.oneCell') = true ∧ OwnF w' w.heap.size (.agg ds) f ∧ Below w.heap.size w w' :=
  (own_any w h hl hB).mono fun _ _ ⟨s, l, o, e, h1, h2, h3, _, _, _, hb⟩ => by
    obtain ⟨A1, c1, rfl, _⟩ := h1.lies
    obtain ⟨A2, c2, rfl, _⟩ := h2.lies
    obtain ⟨A3, c3, rfl, _⟩ := h3.lies
    exact ⟨_, e, rfl, by simp [Value.oneCell'], ⟨_, _, _, rfl, h1, h2, h3⟩, hb⟩
end Go.Proofs.YtjibkgildfjjoaaDoor

