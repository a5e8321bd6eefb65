/- Layer 12: the document's Lay, where a free cell is used. -/
import Derived.Test.YtkpjlobpaippdaaYte
import Derived.Test.YtkpjlobpaippdaaYk
import Derived.Test.YtkpjlobpaippdaaYq2
import Derived.Test.YtkpjlobpaippdaaYla

namespace Go.Proofs.Ytkpjlobpaippdaa
set_option linter.unusedVariables false
set_option linter.unusedSimpArgs false
open Go.RowKit Go.ChangeShapes Go.WideShapes Go.ChangeAt Go.Sort

/-- Two blocks alone are turned. -/
def Two (a b : Nat) (w w' : World) : Prop := ∀ k, k ≠ a → k ≠ b → w'.heap[k]? = w.heap[k]?
theorem Two.refl (a b : Nat) (w : World) : Two a b w w := fun _ _ _ => rfl
theorem Two.set1 {a b : Nat} {w w' : World} (h : Two a b w w') (cs : Array Value) : Two a b w (w'.setRow a cs) := fun k h1 h2 => (row_far0 _ _ _ k h1).trans (h k h1 h2)
theorem Two.set2 {a b : Nat} {w w' : World} (h : Two a b w w') (cs : Array Value) : Two a b w (w'.setRow b cs) := fun k h1 h2 => (row_far0 _ _ _ k h2).trans (h k h1 h2)
/-- The last free places are cut off. -/
theorem RowZ.cut {F : Value → Frm → Prop} {w : World} {D c c2 m L : Nat} {A A2 : Option Addr} {p : Zp} (h : RowZ F w D A c A2 c2 p) (hm : p.free.length = m) (hL : L ≤ m) : RowZ F w D A c A2 c2 ⟨p.cells, p.free.take L, p.most⟩ := by
  refine ⟨h.cells, ?_⟩
  have hlen : (p.free.take L).length = L := by rw [List.length_take]; omega
  have h9 := h.free
  show OwnI w D (.slice A2 (p.free.take L).length c2) (p.free.take L)
  rw [hlen]
  exact h9.cut (by omega)
set_option maxHeartbeats 8000000 in
set_option maxRecDepth 100000 in
theorem rlay_use {A A2 : Option Addr} {p : Zp} {B BF n m : Nat} {fs : Array Value} {f : Frm} (c c2 : Nat) (w : World) (hn : p.cells.length = n) (hm : p.free.length = m) (h : PAtZ w B A A2 p) (hl : LenZ p) (hB : B ≤ w.heap.size) (hf : FrmAt w BF (.agg fs) f) (hBF : BF ≤ w.heap.size) (hok : okZ p = true) (hf0 : p.free ≠ []) :
    Calls Try.prog 13 #[pv A n c A2 m c2 p.most, .agg fs] w (LayR w (layZ p f)) := by
  obtain ⟨Ax1, cx1, Ax2, cx2, Ax3, cx3, ef, hv1, hv2, hv3⟩ := hf
  have hf : FrmAt w BF (.agg fs) f := ⟨Ax1, cx1, Ax2, cx2, Ax3, cx3, ef, hv1, hv2, hv3⟩
  obtain rfl : fs = (fcA f (.slice Ax1 f.stk.length cx1) (.slice Ax2 f.loc.length cx2) (.slice Ax3 f.slt.length cx3)) := by simpa [fv] using ef
  clear ef hv1 hv2 hv3
  obtain ⟨j, L, hj, hL, hlast, hfl⟩ := ok_last hok hf0
  obtain rfl : m = L + 1 := hm.symm.trans hL
  have hS : layZ p f = (⟨p.cells.set j ⟨(p.cells[j]'hj).gen, true, f⟩, p.free.take L, p.most⟩, ((j : Int), (p.cells[j]'hj).gen), 0) := by
    unfold layZ genZ
    rw [if_neg (by rw [hok]; decide), if_neg hf0, hlast, hL, Int.toNat_natCast, List.getD_eq_getElem?_getD, List.getElem?_eq_getElem hj, Option.getD_some]
    rfl
  obtain ⟨gn, hgn⟩ : ∃ gn, (p.cells[j]'hj).gen = gn := ⟨_, rfl⟩
  rw [hgn] at hS
  rw [hS]
  have HJ := Lib.hid hj
  have hgn9 : (p.cells[j]'(HJ.out)).gen = gn := hgn
  have HGN := Lib.hid hgn9
  have HFL := Lib.hid hfl
  have HT := Lib.hid (show (p.free.take L).length = L by rw [List.length_take, hL]; omega)
  clear hS hlast hfl hf0 hgn hgn9 hj hL
  have hbw : Below w.heap.size w ((((w.alloc (.cells (pc A n c A2 (L + 1) c2 p.most) 25)).alloc (.cells (fcA f (.slice Ax1 f.stk.length cx1) (.slice Ax2 f.loc.length cx2) (.slice Ax3 f.slt.length cx3)) 35)).alloc (.cells pz0 25)).alloc (.cells (refc 0 0) 27)) := below4 w _ _ _ _
  have k2 : Held ((((w.alloc (.cells (pc A n c A2 (L + 1) c2 p.most) 25)).alloc (.cells (fcA f (.slice Ax1 f.stk.length cx1) (.slice Ax2 f.loc.length cx2) (.slice Ax3 f.slt.length cx3)) 35)).alloc (.cells pz0 25)).alloc (.cells (refc 0 0) 27)) w.heap.size 25 (pc A n c A2 (L + 1) c2 p.most) := (((Held.new w 25 (pc A n c A2 (L + 1) c2 p.most)).alloc _).alloc _).alloc _
  have k3 : Held ((((w.alloc (.cells (pc A n c A2 (L + 1) c2 p.most) 25)).alloc (.cells (fcA f (.slice Ax1 f.stk.length cx1) (.slice Ax2 f.loc.length cx2) (.slice Ax3 f.slt.length cx3)) 35)).alloc (.cells pz0 25)).alloc (.cells (refc 0 0) 27)) (w.heap.size + 1) 35 (fcA f (.slice Ax1 f.stk.length cx1) (.slice Ax2 f.loc.length cx2) (.slice Ax3 f.slt.length cx3)) := ((Held.new1 w (.cells (pc A n c A2 (L + 1) c2 p.most) 25) 35 (fcA f (.slice Ax1 f.stk.length cx1) (.slice Ax2 f.loc.length cx2) (.slice Ax3 f.slt.length cx3))).alloc _).alloc _
  have k4 : Held ((((w.alloc (.cells (pc A n c A2 (L + 1) c2 p.most) 25)).alloc (.cells (fcA f (.slice Ax1 f.stk.length cx1) (.slice Ax2 f.loc.length cx2) (.slice Ax3 f.slt.length cx3)) 35)).alloc (.cells pz0 25)).alloc (.cells (refc 0 0) 27)) (w.heap.size + 1 + 1) 25 pz0 := (Held.new2 w (.cells (pc A n c A2 (L + 1) c2 p.most) 25) (.cells (fcA f (.slice Ax1 f.stk.length cx1) (.slice Ax2 f.loc.length cx2) (.slice Ax3 f.slt.length cx3)) 35) 25 pz0).alloc _
  have k5 : Held ((((w.alloc (.cells (pc A n c A2 (L + 1) c2 p.most) 25)).alloc (.cells (fcA f (.slice Ax1 f.stk.length cx1) (.slice Ax2 f.loc.length cx2) (.slice Ax3 f.slt.length cx3)) 35)).alloc (.cells pz0 25)).alloc (.cells (refc 0 0) 27)) (w.heap.size + 1 + 1 + 1) 27 (refc 0 0) := by
    have := Held.new2 (w.alloc (.cells (pc A n c A2 (L + 1) c2 p.most) 25)) (.cells (fcA f (.slice Ax1 f.stk.length cx1) (.slice Ax2 f.loc.length cx2) (.slice Ax3 f.slt.length cx3)) 35) (.cells pz0 25) 27 (refc 0 0)
    simpa using this
  have HN := Lib.hid hn
  have HM := Lib.hid hm
  have HL := Lib.hid hl
  have HP := Lib.hid (And.intro h hB)
  have HF := Lib.hid (And.intro hf hBF)
  have hn1 : n ≤ 3000 := by have := hl.cells; omega
  have hm1 : (L + 1) ≤ 100000 := by have := hl.free; omega
  have MC : ∀ W, Below w.heap.size w W → Calls Try.prog 28 #[pv A n c A2 (L + 1) c2 p.most] W fun e w' => e = .returned (.bool (okZ p)) ∧ Below W.heap.size W w' := fun W hb => rmay_z c c2 W HN.out HM.out (HP.out.1.below hb HP.out.2) (by omega) hm1 (Nat.le_trans HP.out.2 hb.size)
  rw [hok] at MC
  have HMC := Lib.hid MC
  clear MC h hl hB hn hm hok hf hBF
  go_enter Try.func13, Try.ntmps13
  go_upto_region 1 with (guard_target = wpList _ _ _ (Oper.mk (some 3) _ _ _ _ none :: _) _ _; refine wpList_box_arr rfl 35 _ rfl (fcA f (.slice Ax1 f.stk.length cx1) (.slice Ax2 f.loc.length cx2) (.slice Ax3 f.slt.length cx3)) rfl ?_)
  generalize ((((w.alloc (.cells (pc A n c A2 (L + 1) c2 p.most) 25)).alloc (.cells (fcA f (.slice Ax1 f.stk.length cx1) (.slice Ax2 f.loc.length cx2) (.slice Ax3 f.slt.length cx3)) 35)).alloc (.cells pz0 25)).alloc (.cells (refc 0 0) 27)) = W0 at *
  go_upto_region 3 with (first
    | (guard_target = wpList _ _ _ (Oper.mk (some 10) _ _ _ _ none :: _) _ _; refine wpList_load_row rfl 25 _ rfl w.heap.size rfl _ _ _ _ k2 Try.underlying25 rfl (by kernel_rfl) ?_)
    | (go_at_call 28; (with_reducible refine (HMC.out _ hbw).mono ?_); rintro _ u1 ⟨rfl, hb1⟩; replace k2 := Held.below k2 hb1; replace k3 := Held.below k3 hb1; replace k4 := Held.below k4 hb1; replace k5 := Held.below k5 hb1; replace hbw := Below.step hbw hb1; clear hb1))
  have hp9 := HP.out.1.below hbw HP.out.2
  have hB9 := Nat.le_trans HP.out.2 hbw.size
  go_upto_region 4 with (first
    | (guard_target = wpList _ _ _ (Oper.mk (some 15) _ _ _ _ none :: _) _ _; refine wpList_load_row rfl 25 _ rfl w.heap.size rfl _ _ _ _ k2 Try.underlying25 rfl (by kernel_rfl) ?_)
    | (go_at_call 32; (with_reducible refine (copied_z c c2 _ HN.out HM.out hp9 HL.out hB9).mono ?_); rintro _ u ⟨A9, c9, B9, d9, rfl, hrow, hb⟩; have hD := Held.lt k5; replace k2 := Held.below k2 hb; replace k3 := Held.below k3 hb; replace k4 := Held.below k4 hb; replace k5 := Held.below k5 hb; replace hbw := Below.step hbw hb; have hbA := ((Below.refl _ _).alloc (Nat.le_refl _) _ : Below u.heap.size u (u.alloc (.cells pz0 25))); have kn := Held.new u 25 pz0)
    | (guard_target = wpList _ _ _ (Oper.mk _ (Op.store 25 (.tmp 7) _) _ _ _ none :: _) _ _; refine wpList_store_row rfl 25 _ _ rfl u.heap.size (pc A9 n c9 B9 (L + 1) d9 p.most) rfl rfl _ _ kn (by kernel_rfl) rfl (by simp [Value.oneCell']) ?_))
  have hb2 : Below u.heap.size u ((u.alloc (.cells pz0 25)).setRow u.heap.size (pc A9 n c9 B9 (L + 1) d9 p.most)) := below_setRow hbA (Nat.le_refl _) _
  have hBu : B ≤ u.heap.size := Nat.le_trans hB9 hb.size
  obtain ⟨g, rfl, -⟩ := hrow.form HJ.out
  obtain ⟨gf, rfl, hgf1, hgf2, -⟩ := lie_form hrow.free (j := L) (by have := HM.out; omega)
  have hg := hrow.ge
  have hrow1 := hrow.below (F' := FrmAt ((u.alloc (.cells pz0 25)).setRow u.heap.size (pc (some ⟨g, 0, none⟩) n c9 (some ⟨gf, 0, none⟩) (L + 1) d9 p.most)) w.heap.size) hb2 (fun v f h => (h.below hb2 hBu).more HP.out.2)
  have kn1 := held_rowSelf kn (pc (some ⟨g, 0, none⟩) n c9 (some ⟨gf, 0, none⟩) (L + 1) d9 p.most)
  replace k2 := Held.below k2 hb2
  replace k3 := Held.below k3 hb2
  replace k4 := Held.below k4 hb2
  have h5u := Held.lt k5
  replace k5 := Held.below k5 hb2
  replace hbw := Below.step hbw hb2
  have hgV : u.heap.size ≠ g := by omega
  have hwg : w.heap.size ≤ g := by omega
  have hg5 : (w.heap.size + 1 + 1 + 1) < g := by omega
  have hD5 : (w.heap.size + 1 + 1 + 1) < u.heap.size := by omega
  clear hrow kn hbA hb2 hBu hp9 hB9 hb hg hD hgf1 hgf2
  generalize World.setRow _ u.heap.size _ = W1 at *
  generalize u.heap.size = gV at *
  obtain ⟨gf', e9, -, -, y0⟩ := lie_form hrow1.free (j := L) (by have := HM.out; omega)
  obtain rfl : gf = gf' := by simpa using e9
  rw [show p.free[L]'(by have := HM.out; omega) = (j : Int) by have h9 := HFL.out; rw [List.getElem?_eq_getElem (by have := HM.out; omega)] at h9; exact Option.some.inj h9] at y0
  clear e9
  have x0 := kn1.cell 0
  have x1 := kn1.cell 1
  have z1 := kn1.fz 1
  simp at x0 x1
  have hcap : L ≤ d9 := by have h9 := hrow1.free; unfold OwnI at h9; rw [HM.out] at h9; have := row_cap h9; omega
  have hL0 : (0 : Int) ≤ L := by omega
  have hLI : (L : Int) ≤ 100000 := by omega
  have hL1 : (L : Int) < (L : Int) + 1 := by omega
  have hLL1 : ((L + 1 : Nat) : Int) = (L : Int) + 1 := by omega
  have HR1 := Lib.hid hrow1
  clear hrow1
  go_upto_region 8 with (fail)
  have hkP := kt_cell kn1 1 (.slice (some ⟨gf, 0, none⟩) L d9)
  have hlw := (Below.refl w.heap.size W1).setCell (p := ⟨gV, 1, none⟩) (show w.heap.size ≤ gV by omega) (.slice (some ⟨gf, 0, none⟩) L d9)
  have hrow2 := (HR1.out.cut HM.out (show L ≤ L + 1 by omega)).kt (F' := FrmAt (W1.setCell ⟨gV, 1, none⟩ (.slice (some ⟨gf, 0, none⟩) L d9)) w.heap.size) hkP (by decide) (by decide) (fun v f h => h.below (C := w.heap.size) hlw (Nat.le_refl _))
  have kn2 : Held (W1.setCell ⟨gV, 1, none⟩ (.slice (some ⟨gf, 0, none⟩) L d9)) gV 25 (pc (some ⟨g, 0, none⟩) n c9 (some ⟨gf, 0, none⟩) L d9 p.most) := by
    have := kn1.set_at 1 (.slice (some ⟨gf, 0, none⟩) L d9)
    simpa using this
  replace k3 := k3.far (show (w.heap.size + 1) ≠ gV by omega) 1 (.slice (some ⟨gf, 0, none⟩) L d9)
  replace k4 := k4.far (show (w.heap.size + 1 + 1) ≠ gV by omega) 1 (.slice (some ⟨gf, 0, none⟩) L d9)
  replace k5 := k5.far (show (w.heap.size + 1 + 1 + 1) ≠ gV by omega) 1 (.slice (some ⟨gf, 0, none⟩) L d9)
  replace hbw := hbw.trans hlw
  clear hkP hlw HR1 kn1 x0 x1 z1 y0 k2
  generalize World.setCell _ ⟨gV, 1, none⟩ _ = W2 at *
  have hj0 : (0 : Int) ≤ j := by omega
  have hjn : (j : Int) < n := by have := HN.out; have := HJ.out; omega
  have hnI : (n : Int) ≤ 3000 := by omega

  have hdr := (Below.refl W2.heap.size W2).drew
  have hrow2b := hrow2.below (F' := FrmAt W2.drew w.heap.size) hdr (fun v f h => h.below (C := w.heap.size) (Below.refl _ _).drew (Nat.le_refl _))
  clear hrow2
  have hrow2 := hrow2b
  clear hrow2b
  replace kn2 := Held.below kn2 hdr
  replace k3 := Held.below k3 hdr
  replace k4 := Held.below k4 hdr
  replace k5 := Held.below k5 hdr
  replace hbw := Below.step hbw hdr
  clear hdr
  refine wp_region_K 12 (fun W => Below W2.drew.heap.size W2.drew W) (by kernel_rfl) (by kernel_rfl) (fun HNS => ?_)
  generalize W2.drew = W3 at *
  have hS : Below W3.heap.size W3 W3 := Below.refl _ _
  show wpAnyK _ _ _ _ _ _ 13 #[false, false, false, false, false, false, false, false, false, false, false, false, false] _ _
  have hgl := hrow2.ge.2
  have hge : W3.cell? ⟨g, j * 18, none⟩ = some (.int .i64 gn) := by
    obtain ⟨g', e9, h9⟩ := hrow2.form (j := j) HJ.out
    obtain rfl : g = g' := by simpa using e9
    rw [h9, ← HGN.out]
  have ON : Hid ((celv ⟨gn, true, f⟩ (fcA f (.slice Ax1 f.stk.length cx1) (.slice Ax2 f.loc.length cx2) (.slice Ax3 f.slt.length cx3))).toArray.all (·.oneCell') = true) := Lib.hid (by simp [Value.oneCell'])
  refine wpAnyK_take HNS [1, 11, 12] (i := 0) (v := .pointer (some ⟨gV, 0, none⟩)) rfl (by kernel_rfl) (by kernel_rfl) (by kernel_rfl) (fun _ _ _ h => h) (Or.inl ⟨by kernel_rfl, fun W hW => ?_⟩) hS ?_
  · go_simp
  simp only [Act.put, List.getElem_toArray, List.getElem_cons_succ, List.getElem_cons_zero, List.setIfInBounds_toArray, List.set_cons_zero, List.set_cons_succ]
  refine wpAnyK_take HNS [11, 12] (i := 1) (v := .slice (some ⟨g, 0, none⟩) n c9) rfl (by kernel_rfl) (by kernel_rfl) (by kernel_rfl) (fun _ _ _ h => h) (Or.inl ⟨by kernel_rfl, fun W hW => ?_⟩) hS ?_
  · (have hz := Held.below kn2 hW; have z0 := hz.cell 0; simp at z0; go_simp)
  simp only [Act.put, List.getElem_toArray, List.getElem_cons_succ, List.getElem_cons_zero, List.setIfInBounds_toArray, List.set_cons_zero, List.set_cons_succ]
  refine wpAnyK_take HNS [11, 12] (i := 2) (v := .int .i64 j) rfl (by kernel_rfl) (by kernel_rfl) (by kernel_rfl) (fun _ _ _ h => h) (Or.inl ⟨by kernel_rfl, fun W hW => ?_⟩) hS ?_
  · go_simp
  simp only [Act.put, List.getElem_toArray, List.getElem_cons_succ, List.getElem_cons_zero, List.setIfInBounds_toArray, List.set_cons_zero, List.set_cons_succ]
  refine wpAnyK_take HNS [4, 6, 7, 8, 10, 12] (i := 3) (v := .pointer (some ⟨gV, 0, none⟩)) rfl (by kernel_rfl) (by kernel_rfl) (by kernel_rfl) (fun _ _ _ h => h) (Or.inl ⟨by kernel_rfl, fun W hW => ?_⟩) hS ?_
  · go_simp
  simp only [Act.put, List.getElem_toArray, List.getElem_cons_succ, List.getElem_cons_zero, List.setIfInBounds_toArray, List.set_cons_zero, List.set_cons_succ]
  refine wpAnyK_take HNS [6, 7, 8, 10, 12] (i := 4) (v := .slice (some ⟨g, 0, none⟩) n c9) rfl (by kernel_rfl) (by kernel_rfl) (by kernel_rfl) (fun _ _ _ h => h) (Or.inl ⟨by kernel_rfl, fun W hW => ?_⟩) hS ?_
  · (have hz := Held.below kn2 hW; have z0 := hz.cell 0; simp at z0; go_simp)
  simp only [Act.put, List.getElem_toArray, List.getElem_cons_succ, List.getElem_cons_zero, List.setIfInBounds_toArray, List.set_cons_zero, List.set_cons_succ]
  refine wpAnyK_take HNS [6, 7, 8, 10, 12] (i := 5) (v := .int .i64 j) rfl (by kernel_rfl) (by kernel_rfl) (by kernel_rfl) (fun _ _ _ h => h) (Or.inl ⟨by kernel_rfl, fun W hW => ?_⟩) hS ?_
  · go_simp
  simp only [Act.put, List.getElem_toArray, List.getElem_cons_succ, List.getElem_cons_zero, List.setIfInBounds_toArray, List.set_cons_zero, List.set_cons_succ]
  refine wpAnyK_take HNS [7, 8, 10, 12] (i := 6) (v := .pointer (some ⟨g, j * 18, none⟩)) rfl (by kernel_rfl) (by kernel_rfl) (by kernel_rfl) (fun _ _ _ h => h) (Or.inl ⟨by kernel_rfl, fun W hW => ?_⟩) hS ?_
  · go_simp
  simp only [Act.put, List.getElem_toArray, List.getElem_cons_succ, List.getElem_cons_zero, List.setIfInBounds_toArray, List.set_cons_zero, List.set_cons_succ]
  refine wpAnyK_take HNS [8, 10, 12] (i := 7) (v := .pointer (some ⟨g, j * 18, none⟩)) rfl (by kernel_rfl) (by kernel_rfl) (by kernel_rfl) (fun _ _ _ h => h) (Or.inl ⟨by kernel_rfl, fun W hW => ?_⟩) hS ?_
  · go_simp
  simp only [Act.put, List.getElem_toArray, List.getElem_cons_succ, List.getElem_cons_zero, List.setIfInBounds_toArray, List.set_cons_zero, List.set_cons_succ]
  refine wpAnyK_take HNS [10, 12] (i := 8) (v := .int .i64 gn) rfl (by kernel_rfl) (by kernel_rfl) (by kernel_rfl) (fun _ _ _ h => h) (Or.inl ⟨by kernel_rfl, fun W hW => ?_⟩) hS ?_
  · (have z0 := (hW.cell (p := ⟨g, j * 18, none⟩) hgl).trans hge; go_simp)
  simp only [Act.put, List.getElem_toArray, List.getElem_cons_succ, List.getElem_cons_zero, List.setIfInBounds_toArray, List.set_cons_zero, List.set_cons_succ]
  refine wpAnyK_take HNS [10, 12] (i := 9) (v := .agg (fcA f (.slice Ax1 f.stk.length cx1) (.slice Ax2 f.loc.length cx2) (.slice Ax3 f.slt.length cx3))) rfl (by kernel_rfl) (by kernel_rfl) (by kernel_rfl) (fun _ _ _ h => h) (yieldsIf_load_midA (by kernel_rfl) 35 _ rfl (w.heap.size + 1) 0 (by rfl) (fcA f (.slice Ax1 f.stk.length cx1) (.slice Ax2 f.loc.length cx2) (.slice Ax3 f.slt.length cx3)) _ (fun W hW => range_held (Held.below k3 hW)) Try.underlying35 rfl (by kernel_rfl)) hS ?_
  simp only [Act.put, List.getElem_toArray, List.getElem_cons_succ, List.getElem_cons_zero, List.setIfInBounds_toArray, List.set_cons_zero, List.set_cons_succ]
  refine wpAnyK_take HNS [12] (i := 10) (v := .agg (celv ⟨gn, true, f⟩ (fcA f (.slice Ax1 f.stk.length cx1) (.slice Ax2 f.loc.length cx2) (.slice Ax3 f.slt.length cx3))).toArray) rfl (by kernel_rfl) (by kernel_rfl) (by kernel_rfl) (fun _ _ _ h => h) (Or.inl ⟨by kernel_rfl, fun W hW => ?_⟩) hS ?_
  · go_simp
  simp only [Act.put, List.getElem_toArray, List.getElem_cons_succ, List.getElem_cons_zero, List.setIfInBounds_toArray, List.set_cons_zero, List.set_cons_succ]
  refine wpAnyK_take HNS [12] (i := 11) (v := .pointer (some ⟨g, j * 18, none⟩)) rfl (by kernel_rfl) (by kernel_rfl) (by kernel_rfl) (fun _ _ _ h => h) (Or.inl ⟨by kernel_rfl, fun W hW => ?_⟩) hS ?_
  · go_simp
  simp only [Act.put, List.getElem_toArray, List.getElem_cons_succ, List.getElem_cons_zero, List.setIfInBounds_toArray, List.set_cons_zero, List.set_cons_succ]
  refine wpAnyK_last (by kernel_rfl) rfl (fun K hK => ?_)
  rw [if_pos (by kernel_rfl)]
  refine wp_store_mid 62 _ _ rfl g (j * 18) (celv ⟨gn, true, f⟩ (fcA f (.slice Ax1 f.stk.length cx1) (.slice Ax2 f.loc.length cx2) (.slice Ax3 f.slt.length cx3))).toArray (by rfl) (by rfl) (hrow2.there HJ.out) (by kernel_rfl) ON.out ?_
  refine hK.out _ _ ?_
  clear hK K
  (try simp only [Act.put, List.getElem_toArray, List.getElem_cons_succ, List.getElem_cons_zero, List.setIfInBounds_toArray, List.set_cons_zero, List.set_cons_succ])
  refine wpAnyK_done (by kernel_rfl) ?_ _
  have hlow : Below w.heap.size W3 (W3.setCells g (j * 18) (celv ⟨gn, true, f⟩ (fcA f (.slice Ax1 f.stk.length cx1) (.slice Ax2 f.loc.length cx2) (.slice Ax3 f.slt.length cx3)))) := below_setCells (Below.refl _ _) hwg _ _
  replace hbw := hbw.trans hlow
  have hrow3 := hrow2.setc (F' := FrmAt (W3.setCells g (j * 18) (celv ⟨gn, true, f⟩ (fcA f (.slice Ax1 f.stk.length cx1) (.slice Ax2 f.loc.length cx2) (.slice Ax3 f.slt.length cx3)))) w.heap.size) HJ.out (x := ⟨gn, true, f⟩) (cs := (fcA f (.slice Ax1 f.stk.length cx1) (.slice Ax2 f.loc.length cx2) (.slice Ax3 f.slt.length cx3))) rfl (by simp [Value.oneCell']) ((HF.out.1.below hbw HF.out.2).more HF.out.2) (fun v f h => h.below hlow (Nat.le_refl _))
  have kn3 : Held (W3.setCells g (j * 18) (celv ⟨gn, true, f⟩ (fcA f (.slice Ax1 f.stk.length cx1) (.slice Ax2 f.loc.length cx2) (.slice Ax3 f.slt.length cx3)))) gV 25 (pc (some ⟨g, 0, none⟩) n c9 (some ⟨gf, 0, none⟩) L d9 p.most) := (setCells_far _ _ _ _ _ hgV).trans kn2
  replace k4 : Held (W3.setCells g (j * 18) (celv ⟨gn, true, f⟩ (fcA f (.slice Ax1 f.stk.length cx1) (.slice Ax2 f.loc.length cx2) (.slice Ax3 f.slt.length cx3)))) (w.heap.size + 1 + 1) 25 pz0 := (setCells_far _ _ _ _ _ (by omega)).trans k4
  replace k5 : Held (W3.setCells g (j * 18) (celv ⟨gn, true, f⟩ (fcA f (.slice Ax1 f.stk.length cx1) (.slice Ax2 f.loc.length cx2) (.slice Ax3 f.slt.length cx3)))) (w.heap.size + 1 + 1 + 1) 27 (refc 0 0) := (setCells_far _ _ _ _ _ (by omega)).trans k5
  clear hlow ON hge hgl hS k3 kn2 hrow2
  generalize W3.setCells g (j * 18) (celv ⟨gn, true, f⟩ (fcA f (.slice Ax1 f.stk.length cx1) (.slice Ax2 f.loc.length cx2) (.slice Ax3 f.slt.length cx3))) = W4 at *
  go_upto_region 9 with (fail)

  have hdr := (Below.refl W4.heap.size W4).drew
  have hrow8 := hrow3.below (F' := FrmAt W4.drew w.heap.size) hdr (fun v f h => h.below (C := w.heap.size) (Below.refl _ _).drew (Nat.le_refl _))
  replace kn3 := Held.below kn3 hdr
  replace k4 := Held.below k4 hdr
  replace k5 := Held.below k5 hdr
  replace hbw := Below.step hbw hdr
  clear hrow3
  clear hdr
  refine wp_region_held_drew (S := fun W => Two (w.heap.size + 1 + 1) (w.heap.size + 1 + 1 + 1) W4.drew W) (by kernel_rfl) (Two.refl _ _ _) (fun hS => ?_)
  generalize W4.drew = W5 at *
  show wpAnyH _ _ _ _ _ 12 #[false, false, false, false, false, false, false, false, false, false, false, false] _ _
  refine wpAnyH_begin (by kernel_rfl) (fun HNS => ?_)
  have hge : W5.cell? ⟨g, j * 18, none⟩ = some (.int .i64 gn) := by
    obtain ⟨g', e9, h9⟩ := hrow8.form (j := j) (by rw [List.length_set]; exact HJ.out)
    obtain rfl : g = g' := by simpa using e9
    rw [h9, List.getElem_set_self]
  refine wpAnyH_takeS HNS (i := 0) (v := .agg (pc (some ⟨g, 0, none⟩) n c9 (some ⟨gf, 0, none⟩) L d9 p.most)) rfl (by kernel_rfl) (by kernel_rfl) (fun _ _ _ h => h) (Or.inl ⟨by kernel_rfl, fun W hW => ?_⟩) hS ?_
  · (have hz : Held W gV 25 (pc (some ⟨g, 0, none⟩) n c9 (some ⟨gf, 0, none⟩) L d9 p.most) := (hW gV (by omega) (by omega)).trans kn3; have z0 := hz.cell 0; have z1 := hz.cell 1; have z2 := hz.cell 2; simp at z0 z1 z2; go_simp)
  simp only [Act.put, List.getElem_toArray, List.getElem_cons_succ, List.getElem_cons_zero, List.setIfInBounds_toArray, List.set_cons_zero, List.set_cons_succ]
  refine wpAnyH_takeS HNS (i := 1) (v := .int .i64 j) rfl (by kernel_rfl) (by kernel_rfl) (fun _ _ _ h => h) (Or.inl ⟨by kernel_rfl, fun W hW => ?_⟩) hS ?_
  · go_simp
  simp only [Act.put, List.getElem_toArray, List.getElem_cons_succ, List.getElem_cons_zero, List.setIfInBounds_toArray, List.set_cons_zero, List.set_cons_succ]
  refine wpAnyH_takeS HNS (i := 2) (v := .pointer (some ⟨gV, 0, none⟩)) rfl (by kernel_rfl) (by kernel_rfl) (fun _ _ _ h => h) (Or.inl ⟨by kernel_rfl, fun W hW => ?_⟩) hS ?_
  · go_simp
  simp only [Act.put, List.getElem_toArray, List.getElem_cons_succ, List.getElem_cons_zero, List.setIfInBounds_toArray, List.set_cons_zero, List.set_cons_succ]
  refine wpAnyH_takeS HNS (i := 3) (v := .slice (some ⟨g, 0, none⟩) n c9) rfl (by kernel_rfl) (by kernel_rfl) (fun _ _ _ h => h) (Or.inl ⟨by kernel_rfl, fun W hW => ?_⟩) hS ?_
  · (have hz : Held W gV 25 (pc (some ⟨g, 0, none⟩) n c9 (some ⟨gf, 0, none⟩) L d9 p.most) := (hW gV (by omega) (by omega)).trans kn3; have z0 := hz.cell 0; have z1 := hz.cell 1; have z2 := hz.cell 2; simp at z0 z1 z2; go_simp)
  simp only [Act.put, List.getElem_toArray, List.getElem_cons_succ, List.getElem_cons_zero, List.setIfInBounds_toArray, List.set_cons_zero, List.set_cons_succ]
  refine wpAnyH_takeS HNS (i := 4) (v := .int .i64 j) rfl (by kernel_rfl) (by kernel_rfl) (fun _ _ _ h => h) (Or.inl ⟨by kernel_rfl, fun W hW => ?_⟩) hS ?_
  · go_simp
  simp only [Act.put, List.getElem_toArray, List.getElem_cons_succ, List.getElem_cons_zero, List.setIfInBounds_toArray, List.set_cons_zero, List.set_cons_succ]
  refine wpAnyH_takeS HNS (i := 5) (v := .pointer (some ⟨g, j * 18, none⟩)) rfl (by kernel_rfl) (by kernel_rfl) (fun _ _ _ h => h) (Or.inl ⟨by kernel_rfl, fun W hW => ?_⟩) hS ?_
  · go_simp
  simp only [Act.put, List.getElem_toArray, List.getElem_cons_succ, List.getElem_cons_zero, List.setIfInBounds_toArray, List.set_cons_zero, List.set_cons_succ]
  refine wpAnyH_takeS HNS (i := 6) (v := .pointer (some ⟨g, j * 18, none⟩)) rfl (by kernel_rfl) (by kernel_rfl) (fun _ _ _ h => h) (Or.inl ⟨by kernel_rfl, fun W hW => ?_⟩) hS ?_
  · go_simp
  simp only [Act.put, List.getElem_toArray, List.getElem_cons_succ, List.getElem_cons_zero, List.setIfInBounds_toArray, List.set_cons_zero, List.set_cons_succ]
  refine wpAnyH_takeS HNS (i := 7) (v := .int .i64 gn) rfl (by kernel_rfl) (by kernel_rfl) (fun _ _ _ h => h) (Or.inl ⟨by kernel_rfl, fun W hW => ?_⟩) hS ?_
  · (have z0 := (World.cell?_of_block (a := ⟨g, j * 18, none⟩) (hW g (by omega) (by omega))).trans hge; go_simp)
  simp only [Act.put, List.getElem_toArray, List.getElem_cons_succ, List.getElem_cons_zero, List.setIfInBounds_toArray, List.set_cons_zero, List.set_cons_succ]
  refine wpAnyH_takeS HNS (i := 8) (v := .agg #[.int .i64 j, .int .i64 gn]) rfl (by kernel_rfl) (by kernel_rfl) (fun _ _ _ h => h) (Or.inl ⟨by kernel_rfl, fun W hW => ?_⟩) hS ?_
  · go_simp
  simp only [Act.put, List.getElem_toArray, List.getElem_cons_succ, List.getElem_cons_zero, List.setIfInBounds_toArray, List.set_cons_zero, List.set_cons_succ]
  refine wpAnyH_ready (rs := [9]) (by kernel_rfl) (by simp) ?_
  refine (AllReadyH.cons rfl (fun K hK => ?_) AllReadyH.nil)
  rw [if_pos (by kernel_rfl)]
  refine wp_store_row 25 _ _ rfl _ (pc (some ⟨g, 0, none⟩) n c9 (some ⟨gf, 0, none⟩) L d9 p.most) (by rfl) (by rfl) _ _ k4 (by kernel_rfl) rfl (by simp [Value.oneCell']) ?_
  replace hS := hS.set1 (pc (some ⟨g, 0, none⟩) n c9 (some ⟨gf, 0, none⟩) L d9 p.most)
  replace k5 := held_row k5 (show (w.heap.size + 1 + 1 + 1) ≠ (w.heap.size + 1 + 1) by omega) (pc (some ⟨g, 0, none⟩) n c9 (some ⟨gf, 0, none⟩) L d9 p.most)
  have k4b := held_rowSelf k4 (pc (some ⟨g, 0, none⟩) n c9 (some ⟨gf, 0, none⟩) L d9 p.most)
  have HQ1 := Lib.hid (kt_row k4 (pc (some ⟨g, 0, none⟩) n c9 (some ⟨gf, 0, none⟩) L d9 p.most))
  have hbw1 := below_setRow hbw (show w.heap.size ≤ (w.heap.size + 1 + 1) by omega) (pc (some ⟨g, 0, none⟩) n c9 (some ⟨gf, 0, none⟩) L d9 p.most)
  have hlw1 := below_setRow (Below.refl w.heap.size W5) (show w.heap.size ≤ (w.heap.size + 1 + 1) by omega) (pc (some ⟨g, 0, none⟩) n c9 (some ⟨gf, 0, none⟩) L d9 p.most)
  have HLW1 := Lib.hid hlw1
  clear hlw1
  generalize World.setRow _ _ (pc (some ⟨g, 0, none⟩) n c9 (some ⟨gf, 0, none⟩) L d9 p.most) = Wy at *
  refine hK.out _ _ hS (fun _ => ?_)
  clear hK K
  (try simp only [Act.put, List.getElem_toArray, List.getElem_cons_succ, List.getElem_cons_zero, List.setIfInBounds_toArray, List.set_cons_zero, List.set_cons_succ])
  refine wpAnyH_ready (rs := [10]) (by kernel_rfl) (by simp) ?_
  refine (AllReadyH.cons rfl (fun K hK => ?_) AllReadyH.nil)
  rw [if_pos (by kernel_rfl)]
  refine wp_store_row 27 _ _ rfl _ (refc j gn) (by rfl) (by rfl) _ _ k5 (by kernel_rfl) rfl (by simp [Value.oneCell']) ?_
  replace hS := hS.set2 (refc j gn)
  have k4c := held_row k4b (show (w.heap.size + 1 + 1) ≠ (w.heap.size + 1 + 1 + 1) by omega) (refc j gn)
  have k5c := held_rowSelf k5 (refc j gn)
  have HQ2 := Lib.hid (kt_row k5 (refc j gn))
  have hbw2 := below_setRow hbw1 (show w.heap.size ≤ (w.heap.size + 1 + 1 + 1) by omega) (refc j gn)
  have hlw2 := below_setRow (Below.refl w.heap.size Wy) (show w.heap.size ≤ (w.heap.size + 1 + 1 + 1) by omega) (refc j gn)
  have HLW2 := Lib.hid hlw2
  clear hlw2
  generalize World.setRow _ _ (refc j gn) = Wz at *
  refine hK.out _ _ hS (fun _ => ?_)
  clear hK K
  (try simp only [Act.put, List.getElem_toArray, List.getElem_cons_succ, List.getElem_cons_zero, List.setIfInBounds_toArray, List.set_cons_zero, List.set_cons_succ])
  refine wpAnyH_takeS HNS (i := 11) (v := .int .i64 0) rfl (by kernel_rfl) (by kernel_rfl) (fun _ _ _ h => h) (Or.inl ⟨by kernel_rfl, fun W hW => ?_⟩) hS ?_
  · go_simp
  simp only [Act.put, List.getElem_toArray, List.getElem_cons_succ, List.getElem_cons_zero, List.setIfInBounds_toArray, List.set_cons_zero, List.set_cons_succ]
  refine wpAnyH_done (by kernel_rfl) ?_ _
  have hrow9 := (hrow8.kt (F' := FrmAt Wy w.heap.size) HQ1.out (by decide) (by decide) (fun v f h => h.below (C := w.heap.size) HLW1.out (Nat.le_refl _))).kt (F' := FrmAt Wz w.heap.size) HQ2.out (by decide) (by decide) (fun v f h => h.below (C := w.heap.size) HLW2.out (Nat.le_refl _))
  (repeat go_step)
  exact bodyPost_ret (results_cct rfl _ _ rfl rfl rfl (load_pen k4c rfl) (load_ref k5c rfl)) rfl ⟨_, _, _, _, by simp only [List.length_set, HN.out, HT.out]; rfl, hrow9.at hbw2.size, hbw2⟩
end Go.Proofs.Ytkpjlobpaippdaa
