/- Layer 9's code: Give. -/
import Derived.Test.YtoeinpiekfmbgaaGreatDoorzHg
import Derived.Test.YtoeinpiekfmbgaaGreatDoorzHf
namespace Go.Proofs.YtoeinpiekfmbgaaGreatDoor
set_option linter.unusedVariables false
set_option linter.unusedSimpArgs false
open Gm Go.RowKit Go.ChangeShapes Go.WideShapes Go.ChangeAt Go.Sort

/-- What Give leaves. -/
def GivQ (w : World) (R : Frm × Bool) (e : Ending) (w' : World) : Prop := ∃ v', e = .returned (.tuple #[v', .bool R.2]) ∧ OwnF w' w.heap.size v' R.1 ∧ Below w.heap.size w w'
/-- The copy lies in the parameter's block. -/
structure GiM (w : World) (f : Frm) (s l o : Value) (ov : Value) (W : World) : Prop where
  h0 : Held W w.heap.size 45 (fcA f s l o)
  h2 : Held W (w.heap.size + 1 + 1) 45 fz0
  os : OwnVs W (w.heap.size + 3) s f.stk
  ol : OwnVs W (w.heap.size + 3) l f.loc
  oo : OwnSs W (w.heap.size + 3) o f.slt
  so : ∀ b, s.ownBlock = some b → o.ownBlock ≠ some b
  lo : ∀ b, l.ownBlock = some b → o.ownBlock ≠ some b
  low : Below w.heap.size w W
theorem GiM.own {w W : World} {f : Frm} {s l o ov : Value} (h : GiM w f s l o ov W) {W' : World} (hs : ∀ g, w.heap.size + 3 ≤ g → W'.heap[g]? = W.heap[g]?) (hz : W.heap.size ≤ W'.heap.size) : OwnF W' w.heap.size (fv f s l o) f := by
  have h1 : OwnVs W' (w.heap.size + 3) s f.stk := row_same h.os fun g e => hs g (h.os.lt g e).1
  have h2 : OwnVs W' (w.heap.size + 3) l f.loc := row_same h.ol fun g e => hs g (h.ol.lt g e).1
  have h3 : OwnSs W' (w.heap.size + 3) o f.slt := row_same h.oo fun g e => hs g (h.oo.lt g e).1
  exact ⟨s, l, o, rfl, row_mono h1 (by omega), row_mono h2 (by omega), row_mono h3 (by omega)⟩
set_option maxHeartbeats 8000000 in
set_option maxRecDepth 100000 in
theorem give_any {D : Nat} {v : Value} {f : Frm} (sl t re im : Int) (w : World) (hf : FrmAt w D v f) (hD : D ≤ w.heap.size) (hT : TabB w w.heap.size) (hl : FrmLen f) :
    Calls Tryz.prog 71 #[v, .int .i64 sl, outv t re im] w fun e w' => GivQ w (giveF f sl t (re, im)) e w' := by
  have CL := fun W (hb : Below w.heap.size w W) => Lib.hid (clone_any W (hf.below hb hD) hl (Nat.le_trans hD hb.size))
  obtain ⟨A1, c1, A2, c2, A3, c3, rfl, _, _, _⟩ := hf
  generalize hR : giveF f sl t (re, im) = R
  have HR := Lib.hid hR
  clear hD hR
  have hnb := hT.nb
  have hnl := hT.nbl
  clear hT
  go_enter Tryz.func71, Tryz.ntmps71
  go_upto_region 2 with (first
    | (refine wpList_load_row rfl 45 _ rfl w.heap.size rfl 45 (fcA f (.slice A1 f.stk.length c1) (.slice A2 f.loc.length c2) (.slice A3 f.slt.length c3)) (0, 0) _ (((Held.new w _ _).alloc _).alloc _) Tryz.underlying45 rfl (by kernel_rfl) ?_)
    | (go_at_call 90; go_loud (((with_reducible refine (CL _ ?_).out.mono ?_); (focus (go_grown))); rintro _ u ⟨s, l, o, rfl, hs, hlo, ho, e1, e2, e3, hb⟩; have hbw := Below.step (below3 w _ _ _) hb; have hx := (((Held.new w 45 (fcA f (.slice A1 f.stk.length c1) (.slice A2 f.loc.length c2) (.slice A3 f.slt.length c3))).alloc (.cells #[.int .i64 t, .int .i64 re, .int .i64 im] 32)).alloc (.cells fz0 45)).below hb; have hy := ((Held.new1 w (.cells (fcA f (.slice A1 f.stk.length c1) (.slice A2 f.loc.length c2) (.slice A3 f.slt.length c3)) 45) 32 #[.int .i64 t, .int .i64 re, .int .i64 im]).alloc (.cells fz0 45)).below hb; have hz := (Held.new2 w (.cells (fcA f (.slice A1 f.stk.length c1) (.slice A2 f.loc.length c2) (.slice A3 f.slt.length c3)) 45) (.cells #[.int .i64 t, .int .i64 re, .int .i64 im] 32) 45 fz0).below hb; obtain ⟨As, cs, rfl, _⟩ := hs.lies; obtain ⟨Al, cl, rfl, _⟩ := hlo.lies; obtain ⟨Ao, co, rfl, _⟩ := ho.lies))
    | (refine wpList_store_row rfl 45 _ _ rfl w.heap.size (fcA f (.slice As f.stk.length cs) (.slice Al f.loc.length cl) (.slice Ao f.slt.length co)) rfl rfl _ _ hx (by kernel_rfl) rfl (by simp [Value.oneCell']) ?_))
  have g0 := hx.rowSelf (fcA f (.slice As f.stk.length cs) (.slice Al f.loc.length cl) (.slice Ao f.slt.length co))
  have g1 := hy.row (k := w.heap.size) (by omega) (fcA f (.slice As f.stk.length cs) (.slice Al f.loc.length cl) (.slice Ao f.slt.length co))
  have g2 := hz.row (k := w.heap.size) (by omega) (fcA f (.slice As f.stk.length cs) (.slice Al f.loc.length cl) (.slice Ao f.slt.length co))
  have hsz : (((w.alloc (.cells (fcA f (.slice A1 f.stk.length c1) (.slice A2 f.loc.length c2) (.slice A3 f.slt.length c3)) 45)).alloc (.cells #[.int .i64 t, .int .i64 re, .int .i64 im] 32)).alloc (.cells fz0 45)).heap.size = w.heap.size + 3 := by simp
  rw [hsz] at hs hlo ho
  have far := fun g hg => setRow_far u w.heap.size (fcA f (.slice As f.stk.length cs) (.slice Al f.loc.length cl) (.slice Ao f.slt.length co)) g hg
  have hlow := below_setRow hbw (Nat.le_refl _) (fcA f (.slice As f.stk.length cs) (.slice Al f.loc.length cl) (.slice Ao f.slt.length co))
  have k1 : OwnVs (u.setRow w.heap.size (fcA f (.slice As f.stk.length cs) (.slice Al f.loc.length cl) (.slice Ao f.slt.length co))) (w.heap.size + 3) (.slice As f.stk.length cs) f.stk := row_same hs fun g e => far g (by have := (hs.lt g e).1; omega)
  have k2 : OwnVs (u.setRow w.heap.size (fcA f (.slice As f.stk.length cs) (.slice Al f.loc.length cl) (.slice Ao f.slt.length co))) (w.heap.size + 3) (.slice Al f.loc.length cl) f.loc := row_same hlo fun g e => far g (by have := (hlo.lt g e).1; omega)
  have k3 : OwnSs (u.setRow w.heap.size (fcA f (.slice As f.stk.length cs) (.slice Al f.loc.length cl) (.slice Ao f.slt.length co))) (w.heap.size + 3) (.slice Ao f.slt.length co) f.slt := row_same ho fun g e => far g (by have := (ho.lt g e).1; omega)
  have hn0 := hnb.imp fun _ k => (hlow.block _ hnl).trans k
  have gm : GiM w f (.slice As f.stk.length cs) (.slice Al f.loc.length cl) (.slice Ao f.slt.length co) (.int .i64 0) (u.setRow w.heap.size (fcA f (.slice As f.stk.length cs) (.slice Al f.loc.length cl) (.slice Ao f.slt.length co))) := ⟨g0, g2, k1, k2, k3, e2, e3, hlow⟩
  clear hb hbw hx hy hz hsz hs hlo ho e1 e2 e3 far CL hnb k1 k2 k3
  generalize u.setRow w.heap.size (fcA f (.slice As f.stk.length cs) (.slice Al f.loc.length cl) (.slice Ao f.slt.length co)) = W1 at *
  have GM := Lib.hid gm
  have x4 := g0.cell 4
  have x8 := g0.cell 8
  have x9 := g0.cell 9
  simp at x4 x8 x9
  obtain ⟨y0, y1, y2, _⟩ := three g1
  have HS := hasS_any Ao f.slt.length co sl
  by_cases hh : hasI f.slt.length sl = true
  · obtain ⟨k, rfl, hk⟩ := (show ∃ k : Nat, sl = k ∧ k < f.slt.length by
      simp [hasI] at hh
      exact ⟨sl.toNat, by omega, by omega⟩)
    rw [hh] at HS
    obtain ⟨g, c, e4⟩ := own_form gm.oo (by omega)
    simp only [Value.slice.injEq] at e4
    obtain ⟨rfl, _, rfl⟩ := e4
    obtain ⟨⟨s0, s1, s2, s3, s4, s5⟩, sz⟩ := own_ss gm.oo hk
    have hk2 : (k : Int) < f.slt.length := by omega
    have hgl := (gm.oo.lt g rfl)
    have hsl : sltAt f k = f.slt[k] := by unfold sltAt; rw [Int.toNat_natCast, List.getD_eq_getElem?_getD, List.getElem?_eq_getElem hk]; rfl
    by_cases hst : f.slt[k].st = 1
    · have hFR : R = (if f.st = 1 ∧ f.wt = k then { f with slt := f.slt.set k ⟨2, -1, 0, t, re, im⟩, st := 0, wt := 0 } else { f with slt := f.slt.set k ⟨2, -1, 0, t, re, im⟩ }, true) := by
        rw [← HR.out]
        unfold giveF
        rw [hsl, if_pos ⟨hh, hst⟩, Int.toNat_natCast]
      have HFR := Lib.hid hFR
      clear hFR
      have hst2 : (f.slt[k].st != 1) = false := by simpa using hst
      obtain ⟨ty, hn1⟩ := hn0
      replace hn1 : Held W1 0 ty #[.int .i64 (-1), .int .i64 0] := hn1
      have b0 := hn1.cell 0
      have b1 := hn1.cell 1
      simp at b0 b1
      have z0 := sz (k * 6)
      have z1 := sz (k * 6 + 1)
      have z2 := sz (k * 6 + 2)
      have z3 := sz (k * 6 + 3)
      have z4 := sz (k * 6 + 4)
      have z5 := sz (k * 6 + 5)
      have HK := Lib.hid hk
      have hgn : g ≠ w.heap.size := by omega
      have hgn1 : g ≠ w.heap.size + 1 := by omega
      have hgn2 : g ≠ w.heap.size + 1 + 1 := by omega
      generalize f.slt[k] = sk at *
      obtain ⟨st0, kat0, kgn0, tr0, re0, im0⟩ := sk
      simp only at s0 s1 s2 s3 s4 s5 hst2
      have hset := OwnSs.set gm.oo k ⟨2, -1, 0, t, re, im⟩ HK.out
      clear hst hsl hh sz hn1
      go_upto_region 5 with (first
        | (go_at_call 96; (with_reducible refine (HS.go _).mono ?_); rintro _ u ⟨rfl, rfl⟩))
      have far6 : ∀ q, q ≠ g → ((((((W1.setCell ⟨g, k * 6, none⟩ (.int .i64 2)).setCell ⟨g, k * 6 + 1, none⟩ (.int .i64 (-1))).setCell ⟨g, k * 6 + 2, none⟩ (.int .i64 0)).setCell ⟨g, k * 6 + 3, none⟩ (.int .i64 t)).setCell ⟨g, k * 6 + 4, none⟩ (.int .i64 re)).setCell ⟨g, k * 6 + 5, none⟩ (.int .i64 im)).heap[q]? = W1.heap[q]? := fun k' hk' =>
        (Below.heap_setCell _ ⟨g, _, none⟩ _ k' hk').trans ((Below.heap_setCell _ ⟨g, _, none⟩ _ k' hk').trans ((Below.heap_setCell _ ⟨g, _, none⟩ _ k' hk').trans ((Below.heap_setCell _ ⟨g, _, none⟩ _ k' hk').trans ((Below.heap_setCell _ ⟨g, _, none⟩ _ k' hk').trans (Below.heap_setCell _ ⟨g, _, none⟩ _ k' hk')))))
      have hgw : w.heap.size ≤ g := by omega
      have hlow2 : Below w.heap.size w ((((((W1.setCell ⟨g, k * 6, none⟩ (.int .i64 2)).setCell ⟨g, k * 6 + 1, none⟩ (.int .i64 (-1))).setCell ⟨g, k * 6 + 2, none⟩ (.int .i64 0)).setCell ⟨g, k * 6 + 3, none⟩ (.int .i64 t)).setCell ⟨g, k * 6 + 4, none⟩ (.int .i64 re)).setCell ⟨g, k * 6 + 5, none⟩ (.int .i64 im)) :=
        (((((GM.out.low.setCell (p := ⟨g, _, none⟩) hgw _).setCell (p := ⟨g, _, none⟩) hgw _).setCell (p := ⟨g, _, none⟩) hgw _).setCell (p := ⟨g, _, none⟩) hgw _).setCell (p := ⟨g, _, none⟩) hgw _).setCell (p := ⟨g, _, none⟩) hgw _
      generalize (World.setCell _ ⟨g, k * 6 + 5, none⟩ _) = W2 at *
      have h0 : Held W2 w.heap.size 45 (fcA f (.slice As f.stk.length cs) (.slice Al f.loc.length cl) (.slice (some ⟨g, 0, none⟩) f.slt.length co)) := (far6 _ (by omega)).trans g0
      have h2 : Held W2 (w.heap.size + 1 + 1) 45 fz0 := (far6 _ (by omega)).trans g2
      have gm2 : GiM w { f with slt := f.slt.set k ⟨2, -1, 0, t, re, im⟩ } (.slice As f.stk.length cs) (.slice Al f.loc.length cl) (.slice (some ⟨g, 0, none⟩) f.slt.length co) (.int .i64 0) W2 :=
        ⟨h0, h2, row_same GM.out.os fun q e => far6 q (fun e2 => GM.out.so q e (by rw [e2]; rfl)), row_same GM.out.ol fun q e => far6 q (fun e2 => GM.out.lo q e (by rw [e2]; rfl)), hset, GM.out.so, GM.out.lo, hlow2⟩
      have GM2 := Lib.hid gm2
      have x8 := h0.cell 8
      have x9 := h0.cell 9
      have x8z := h0.fz 8
      have x9z := h0.fz 9
      simp at x8 x9
      clear g0 g1 g2 gm gm2 s0 s1 s2 s3 s4 s5 z0 z1 z2 z3 z4 z5 far6 hlow2 hset y0 y1 y2 x4
      by_cases hw : f.st = 1 ∧ f.wt = k
      · obtain rfl : R = ({ f with slt := f.slt.set k ⟨2, -1, 0, t, re, im⟩, st := 0, wt := 0 }, true) := by rw [HFR.out, if_pos hw]
        have e1 : (f.st == 1) = true := by simpa using hw.1
        have e2 : (f.wt == (k : Int)) = true := by simpa using hw.2
        clear hw
        have h3 : Held ((W2.setCell ⟨w.heap.size, 8, none⟩ (.int .i64 0)).setCell ⟨w.heap.size, 9, none⟩ (.int .i64 0)) w.heap.size 45 (fcA { f with st := 0, wt := 0 } (.slice As f.stk.length cs) (.slice Al f.loc.length cl) (.slice (some ⟨g, 0, none⟩) f.slt.length co)) := (h0.set_at 8 (.int .i64 0)).set_at 9 (.int .i64 0)
        have h4 : Held ((W2.setCell ⟨w.heap.size, 8, none⟩ (.int .i64 0)).setCell ⟨w.heap.size, 9, none⟩ (.int .i64 0)) (w.heap.size + 1 + 1) 45 fz0 := (h2.far (by omega) 8 _).far (by omega) 9 _
        have far2 : ∀ q, q ≠ w.heap.size → ((W2.setCell ⟨w.heap.size, 8, none⟩ (.int .i64 0)).setCell ⟨w.heap.size, 9, none⟩ (.int .i64 0)).heap[q]? = W2.heap[q]? := fun q hq => (Below.heap_setCell _ ⟨w.heap.size, _, none⟩ _ q hq).trans (Below.heap_setCell _ ⟨w.heap.size, _, none⟩ _ q hq)
        have gm3 : GiM w { f with slt := f.slt.set k ⟨2, -1, 0, t, re, im⟩, st := 0, wt := 0 } (.slice As f.stk.length cs) (.slice Al f.loc.length cl) (.slice (some ⟨g, 0, none⟩) f.slt.length co) (.int .i64 0) ((W2.setCell ⟨w.heap.size, 8, none⟩ (.int .i64 0)).setCell ⟨w.heap.size, 9, none⟩ (.int .i64 0)) :=
          ⟨h3, h4, row_same GM2.out.os fun q e => far2 q (by have := (GM2.out.os.lt q e).1; omega), row_same GM2.out.ol fun q e => far2 q (by have := (GM2.out.ol.lt q e).1; omega), row_same GM2.out.oo fun q e => far2 q (by have := (GM2.out.oo.lt q e).1; omega), GM2.out.so, GM2.out.lo, (GM2.out.low.setCell (p := ⟨w.heap.size, 8, none⟩) (Nat.le_refl _) _).setCell (p := ⟨w.heap.size, 9, none⟩) (Nat.le_refl _) _⟩
        have GM3 := Lib.hid gm3
        clear gm3 far2
        go_wp2_with (first
          | (refine wpList_load_row rfl 45 _ rfl w.heap.size rfl 45 _ (0, 0) _ h3 Tryz.underlying45 rfl (by kernel_rfl) ?_)
          | (refine wpList_store_row rfl 45 _ _ rfl (w.heap.size + 1 + 1) (fcA { f with st := 0, wt := 0 } (.slice As f.stk.length cs) (.slice Al f.loc.length cl) (.slice (some ⟨g, 0, none⟩) f.slt.length co)) rfl rfl _ _ h4 (by kernel_rfl) rfl (by simp [Value.oneCell']) ?_))
        have l1 := run_loadVar_row (P := Tryz.prog) _ (w.heap.size + 1 + 1) 45 45 _ (0, 0) _ (h4.rowSelf (fcA { f with st := 0, wt := 0 } (.slice As f.stk.length cs) (.slice Al f.loc.length cl) (.slice (some ⟨g, 0, none⟩) f.slt.length co))) Tryz.underlying45 rfl (by kernel_rfl)
        exact bodyPost_ret (results_ct rfl _ _ rfl rfl l1) rfl ⟨_, rfl, GM3.out.own (fun g hg => setRow_far _ _ _ g (by omega)) (by simp), below_setRow GM3.out.low (by omega) _⟩
      · obtain rfl : R = ({ f with slt := f.slt.set k ⟨2, -1, 0, t, re, im⟩ }, true) := by rw [HFR.out, if_neg hw]
        rcases (show (f.st == 1) = false ∨ ((f.st == 1) = true ∧ (f.wt == (k : Int)) = false) by
          by_cases hz : f.st = 1
          · exact .inr ⟨by simpa using hz, by simpa using fun e => hw ⟨hz, e⟩⟩
          · exact .inl (by simpa using hz)) with e1 | ⟨e1, e2⟩
        all_goals
          clear hw
          go_wp2_with (first
            | (refine wpList_load_row rfl 45 _ rfl w.heap.size rfl 45 _ (0, 0) _ h0 Tryz.underlying45 rfl (by kernel_rfl) ?_)
            | (refine wpList_store_row rfl 45 _ _ rfl (w.heap.size + 1 + 1) (fcA f (.slice As f.stk.length cs) (.slice Al f.loc.length cl) (.slice (some ⟨g, 0, none⟩) f.slt.length co)) rfl rfl _ _ h2 (by kernel_rfl) rfl (by simp [Value.oneCell']) ?_))
          have l1 := run_loadVar_row (P := Tryz.prog) _ (w.heap.size + 1 + 1) 45 45 _ (0, 0) _ (h2.rowSelf (fcA f (.slice As f.stk.length cs) (.slice Al f.loc.length cl) (.slice (some ⟨g, 0, none⟩) f.slt.length co))) Tryz.underlying45 rfl (by kernel_rfl)
          exact bodyPost_ret (results_ct rfl _ _ rfl rfl l1) rfl ⟨_, rfl, GM2.out.own (fun g hg => setRow_far _ _ _ g (by omega)) (by simp), below_setRow GM2.out.low (by omega) _⟩
    · have hRR : R = (f, false) := by
        rw [← HR.out]
        unfold giveF
        rw [hsl, if_neg (fun e => hst e.2)]
      subst hRR
      have hst2 : (f.slt[k].st != 1) = true := by simpa using hst
      generalize f.slt[k].st = st at *
      clear hst hsl hh s1 s2 s3 s4 s5 sz
      go_wp2_with (first
        | (go_at_call 96; (with_reducible refine (HS.go _).mono ?_); rintro _ u ⟨rfl, rfl⟩)
        | (refine wpList_load_row rfl 45 _ rfl w.heap.size rfl 45 _ (0, 0) _ g0 Tryz.underlying45 rfl (by kernel_rfl) ?_)
        | (refine wpList_store_row rfl 45 _ _ rfl (w.heap.size + 1 + 1) (fcA f (.slice As f.stk.length cs) (.slice Al f.loc.length cl) (.slice (some ⟨g, 0, none⟩) f.slt.length co)) rfl rfl _ _ g2 (by kernel_rfl) rfl (by simp [Value.oneCell']) ?_))
      have l1 := run_loadVar_row (P := Tryz.prog) _ (w.heap.size + 1 + 1) 45 45 _ (0, 0) _ (g2.rowSelf (fcA f (.slice As f.stk.length cs) (.slice Al f.loc.length cl) (.slice (some ⟨g, 0, none⟩) f.slt.length co))) Tryz.underlying45 rfl (by kernel_rfl)
      exact bodyPost_ret (results_ct rfl _ _ rfl rfl l1) rfl ⟨_, rfl, GM.out.own (fun g hg => setRow_far _ _ _ g (by omega)) (by simp), below_setRow GM.out.low (by omega) _⟩
  · have hRR : R = (f, false) := by
      rw [← HR.out]
      unfold giveF
      rw [if_neg (fun e => hh e.1)]
    subst hRR
    rw [Bool.not_eq_true] at hh
    rw [hh] at HS
    clear hh
    go_wp2_with (first
      | (go_at_call 96; (with_reducible refine (HS.go _).mono ?_); rintro _ u ⟨rfl, rfl⟩)
      | (refine wpList_load_row rfl 45 _ rfl w.heap.size rfl 45 _ (0, 0) _ g0 Tryz.underlying45 rfl (by kernel_rfl) ?_)
      | (refine wpList_store_row rfl 45 _ _ rfl (w.heap.size + 1 + 1) (fcA f (.slice As f.stk.length cs) (.slice Al f.loc.length cl) (.slice Ao f.slt.length co)) rfl rfl _ _ g2 (by kernel_rfl) rfl (by simp [Value.oneCell']) ?_))
    have l1 := run_loadVar_row (P := Tryz.prog) _ (w.heap.size + 1 + 1) 45 45 _ (0, 0) _ (g2.rowSelf (fcA f (.slice As f.stk.length cs) (.slice Al f.loc.length cl) (.slice Ao f.slt.length co))) Tryz.underlying45 rfl (by kernel_rfl)
    exact bodyPost_ret (results_ct rfl _ _ rfl rfl l1) rfl ⟨_, rfl, GM.out.own (fun g hg => setRow_far _ _ _ g (by omega)) (by simp), below_setRow GM.out.low (by omega) _⟩
end Go.Proofs.YtoeinpiekfmbgaaGreatDoor

