/- Layer 12: the document's Lay, where a new cell is laid. -/
import Derived.Test.YtkpjlobpaippdaaYte
import Derived.Test.YtkpjlobpaippdaaYk
import Derived.Test.YtkpjlobpaippdaaYq2
import Derived.Test.YtkpjlobpaippdaaYla
import Derived.Test.YtkpjlobpaippdaaYtf
namespace Go.Proofs.Ytkpjlobpaippdaa
set_option linter.unusedVariables false
set_option linter.unusedSimpArgs false
open Go.RowKit Go.ChangeShapes Go.WideShapes Go.ChangeAt Go.Sort

set_option maxHeartbeats 8000000 in
set_option maxRecDepth 100000 in
theorem rlay_new {A A2 : Option Addr} {p : Zp} {B BF n m : Nat} {fs : Array Value} {f : Frm} (c c2 : Nat) (w : World) (hn : p.cells.length = n) (hm : p.free.length = m) (h : PAtZ w B A A2 p) (hl : LenZ p) (hB : B ≤ w.heap.size) (hf : FrmAt w BF (.agg fs) f) (hBF : BF ≤ w.heap.size) (hok : okZ p = true) (hf0 : p.free = []) (hful : ¬ (p.cells.length : Int) = p.most) :
    Calls Try.prog 13 #[pv A n c A2 m c2 p.most, .agg fs] w (LayR w (layZ p f)) := by
  obtain ⟨Ax1, cx1, Ax2, cx2, Ax3, cx3, ef, hv1, hv2, hv3⟩ := hf
  have hf : FrmAt w BF (.agg fs) f := ⟨Ax1, cx1, Ax2, cx2, Ax3, cx3, ef, hv1, hv2, hv3⟩
  obtain rfl : fs = (fcA f (.slice Ax1 f.stk.length cx1) (.slice Ax2 f.loc.length cx2) (.slice Ax3 f.slt.length cx3)) := by simpa [fv] using ef
  clear ef hv1 hv2 hv3
  obtain rfl : m = 0 := by rw [← hm, hf0]; rfl
  have hS : layZ p f = (⟨p.cells ++ [⟨0, true, f⟩], [], p.most⟩, ((n : Int), 0), 0) := by
    unfold layZ
    rw [if_neg (by rw [hok]; decide), if_pos hf0, if_neg hful, hn]
  rw [hS]
  have hroom : (n : Int) < p.most := by
    have h9 := ((okZ_iff p).1 hok).top
    have := h9.2.2
    rw [hn] at hful this
    omega
  have HFZ := Lib.hid hf0
  have hmost : p.most ≤ 1024 := ((okZ_iff p).1 hok).top.2.1
  clear hS hf0 hful
  have hbw : Below w.heap.size w ((((w.alloc (.cells (pc A n c A2 0 c2 p.most) 25)).alloc (.cells (fcA f (.slice Ax1 f.stk.length cx1) (.slice Ax2 f.loc.length cx2) (.slice Ax3 f.slt.length cx3)) 35)).alloc (.cells pz0 25)).alloc (.cells (refc 0 0) 27)) := below4 w _ _ _ _
  have k2 : Held ((((w.alloc (.cells (pc A n c A2 0 c2 p.most) 25)).alloc (.cells (fcA f (.slice Ax1 f.stk.length cx1) (.slice Ax2 f.loc.length cx2) (.slice Ax3 f.slt.length cx3)) 35)).alloc (.cells pz0 25)).alloc (.cells (refc 0 0) 27)) w.heap.size 25 (pc A n c A2 0 c2 p.most) := (((Held.new w 25 (pc A n c A2 0 c2 p.most)).alloc _).alloc _).alloc _
  have k3 : Held ((((w.alloc (.cells (pc A n c A2 0 c2 p.most) 25)).alloc (.cells (fcA f (.slice Ax1 f.stk.length cx1) (.slice Ax2 f.loc.length cx2) (.slice Ax3 f.slt.length cx3)) 35)).alloc (.cells pz0 25)).alloc (.cells (refc 0 0) 27)) (w.heap.size + 1) 35 (fcA f (.slice Ax1 f.stk.length cx1) (.slice Ax2 f.loc.length cx2) (.slice Ax3 f.slt.length cx3)) := ((Held.new1 w (.cells (pc A n c A2 0 c2 p.most) 25) 35 (fcA f (.slice Ax1 f.stk.length cx1) (.slice Ax2 f.loc.length cx2) (.slice Ax3 f.slt.length cx3))).alloc _).alloc _
  have k4 : Held ((((w.alloc (.cells (pc A n c A2 0 c2 p.most) 25)).alloc (.cells (fcA f (.slice Ax1 f.stk.length cx1) (.slice Ax2 f.loc.length cx2) (.slice Ax3 f.slt.length cx3)) 35)).alloc (.cells pz0 25)).alloc (.cells (refc 0 0) 27)) (w.heap.size + 1 + 1) 25 pz0 := (Held.new2 w (.cells (pc A n c A2 0 c2 p.most) 25) (.cells (fcA f (.slice Ax1 f.stk.length cx1) (.slice Ax2 f.loc.length cx2) (.slice Ax3 f.slt.length cx3)) 35) 25 pz0).alloc _
  have k5 : Held ((((w.alloc (.cells (pc A n c A2 0 c2 p.most) 25)).alloc (.cells (fcA f (.slice Ax1 f.stk.length cx1) (.slice Ax2 f.loc.length cx2) (.slice Ax3 f.slt.length cx3)) 35)).alloc (.cells pz0 25)).alloc (.cells (refc 0 0) 27)) (w.heap.size + 1 + 1 + 1) 27 (refc 0 0) := by
    have := Held.new2 (w.alloc (.cells (pc A n c A2 0 c2 p.most) 25)) (.cells (fcA f (.slice Ax1 f.stk.length cx1) (.slice Ax2 f.loc.length cx2) (.slice Ax3 f.slt.length cx3)) 35) (.cells pz0 25) 27 (refc 0 0)
    simpa using this
  have HN := Lib.hid hn
  have HM := Lib.hid hm
  have HL := Lib.hid hl
  have HP := Lib.hid (And.intro h hB)
  have HF := Lib.hid (And.intro hf hBF)
  have hn1 : n ≤ 3000 := by have := hl.cells; omega
  have hm1 : 0 ≤ 100000 := by have := hl.free; omega
  have MC : ∀ W, Below w.heap.size w W → Calls Try.prog 28 #[pv A n c A2 0 c2 p.most] W fun e w' => e = .returned (.bool (okZ p)) ∧ Below W.heap.size W w' := fun W hb => rmay_z c c2 W HN.out HM.out (HP.out.1.below hb HP.out.2) (by omega) hm1 (Nat.le_trans HP.out.2 hb.size)
  rw [hok] at MC
  have HMC := Lib.hid MC
  clear MC h hl hB hn hm hok hf hBF
  go_enter Try.func13, Try.ntmps13
  go_upto_region 1 with (guard_target = wpList _ _ _ (Oper.mk (some 3) _ _ _ _ none :: _) _ _; refine wpList_box_arr rfl 35 _ rfl (fcA f (.slice Ax1 f.stk.length cx1) (.slice Ax2 f.loc.length cx2) (.slice Ax3 f.slt.length cx3)) rfl ?_)
  generalize ((((w.alloc (.cells (pc A n c A2 0 c2 p.most) 25)).alloc (.cells (fcA f (.slice Ax1 f.stk.length cx1) (.slice Ax2 f.loc.length cx2) (.slice Ax3 f.slt.length cx3)) 35)).alloc (.cells pz0 25)).alloc (.cells (refc 0 0) 27)) = W0 at *
  go_upto_region 3 with (first
    | (guard_target = wpList _ _ _ (Oper.mk (some 10) _ _ _ _ none :: _) _ _; refine wpList_load_row rfl 25 _ rfl w.heap.size rfl _ _ _ _ k2 Try.underlying25 rfl (by kernel_rfl) ?_)
    | (go_at_call 28; (with_reducible refine (HMC.out _ hbw).mono ?_); rintro _ u1 ⟨rfl, hb1⟩; replace k2 := Held.below k2 hb1; replace k3 := Held.below k3 hb1; replace k4 := Held.below k4 hb1; replace k5 := Held.below k5 hb1; replace hbw := Below.step hbw hb1; clear hb1))
  have hp9 := HP.out.1.below hbw HP.out.2
  have hB9 := Nat.le_trans HP.out.2 hbw.size
  go_upto_region 4 with (first
    | (guard_target = wpList _ _ _ (Oper.mk (some 15) _ _ _ _ none :: _) _ _; refine wpList_load_row rfl 25 _ rfl w.heap.size rfl _ _ _ _ k2 Try.underlying25 rfl (by kernel_rfl) ?_)
    | (go_at_call 32; (with_reducible refine (copied_z c c2 _ HN.out HM.out hp9 HL.out hB9).mono ?_); rintro _ u ⟨A9, c9, B9, d9, rfl, hrow, hb⟩; have hD := Held.lt k5; replace k2 := Held.below k2 hb; replace k3 := Held.below k3 hb; replace k4 := Held.below k4 hb; replace k5 := Held.below k5 hb; replace hbw := Below.step hbw hb; have hbA := ((Below.refl _ _).alloc (Nat.le_refl _) _ : Below u.heap.size u (u.alloc (.cells pz0 25))); have kn := Held.new u 25 pz0)
    | (guard_target = wpList _ _ _ (Oper.mk _ (Op.store 25 (.tmp 7) _) _ _ _ none :: _) _ _; refine wpList_store_row rfl 25 _ _ rfl u.heap.size (pc A9 n c9 B9 0 d9 p.most) rfl rfl _ _ kn (by kernel_rfl) rfl (by simp [Value.oneCell']) ?_))
  have hb2 : Below u.heap.size u ((u.alloc (.cells pz0 25)).setRow u.heap.size (pc A9 n c9 B9 0 d9 p.most)) := below_setRow hbA (Nat.le_refl _) _
  have hBu : B ≤ u.heap.size := Nat.le_trans hB9 hb.size
  have hrow1 := hrow.below (F' := FrmAt ((u.alloc (.cells pz0 25)).setRow u.heap.size (pc A9 n c9 B9 0 d9 p.most)) w.heap.size) hb2 (fun v f h => (h.below hb2 hBu).more HP.out.2)
  have kn1 := held_rowSelf kn (pc A9 n c9 B9 0 d9 p.most)
  replace k2 := Held.below k2 hb2
  replace k3 := Held.below k3 hb2
  replace k4 := Held.below k4 hb2
  have h5u := Held.lt k5
  replace k5 := Held.below k5 hb2
  replace hbw := Below.step hbw hb2
  have hD5 : (w.heap.size + 1 + 1 + 1) < u.heap.size := by omega
  have hqq : ∀ q, Value.ownBlock (.slice A9 n c9) = some q → (w.heap.size + 1 + 1 + 1) < q ∧ q < u.heap.size := fun q e => by
    obtain ⟨xs9, q1, -⟩ := hrow.cells
    rw [HN.out] at q1
    have := q1.lt q e
    omega
  have HQQ := Lib.hid hqq
  have hDu : u.heap.size ≤ ((u.alloc (.cells pz0 25)).setRow u.heap.size (pc A9 n c9 B9 0 d9 p.most)).heap.size := hb2.size
  have hDw : w.heap.size ≤ u.heap.size := by omega
  clear hrow kn hbA hb2 hBu hp9 hB9 hb hqq
  generalize World.setRow _ u.heap.size _ = W1 at *
  generalize u.heap.size = gV at *
  have x0 := kn1.cell 0
  have x1 := kn1.cell 1
  have x2 := kn1.cell 2
  simp at x0 x1 x2
  have hn0 : (0 : Int) ≤ n := by omega
  have hnI : (n : Int) ≤ 3000 := by omega
  have hge : decide (p.most ≤ (n : Int)) = false := by simp; omega
  have HR1 := Lib.hid hrow1
  clear hrow1
  go_upto_region 12 with (fail)
  clear x1 x2 hge
  have hbA : Below W1.heap.size W1 (W1.alloc (.cells (celv ⟨0, true, f⟩ (fcA f (.slice Ax1 f.stk.length cx1) (.slice Ax2 f.loc.length cx2) (.slice Ax3 f.slt.length cx3))).toArray 62)) := (Below.refl _ _).alloc (Nat.le_refl _) _
  obtain ⟨xs9, q1, q2⟩ := HR1.out.cells
  rw [HN.out] at q1
  have Q1 := Lib.hid (row_mono (r_later q1 hbA) (show w.heap.size ≤ _ by omega))
  have hwA : Below w.heap.size W1 (W1.alloc (.cells (celv ⟨0, true, f⟩ (fcA f (.slice Ax1 f.stk.length cx1) (.slice Ax2 f.loc.length cx2) (.slice Ax3 f.slt.length cx3))).toArray 62)) := (Below.refl _ _).alloc (by omega) _
  have Q2 := Lib.hid (q2.mono fun _ v f (h : FrmAt W1 w.heap.size v f) => h.below (C := w.heap.size) hwA (Nat.le_refl _))
  have Q3 := Lib.hid (r_later HR1.out.free hbA)
  have hr9 : Hid ((W1.alloc (.cells (celv ⟨0, true, f⟩ (fcA f (.slice Ax1 f.stk.length cx1) (.slice Ax2 f.loc.length cx2) (.slice Ax3 f.slt.length cx3))).toArray 62)).rangeAt W1.heap.size 0 (celv ⟨0, true, f⟩ (fcA f (.slice Ax1 f.stk.length cx1) (.slice Ax2 f.loc.length cx2) (.slice Ax3 f.slt.length cx3)))) := Lib.hid (by have := range_held (Held.new W1 62 (celv ⟨0, true, f⟩ (fcA f (.slice Ax1 f.stk.length cx1) (.slice Ax2 f.loc.length cx2) (.slice Ax3 f.slt.length cx3))).toArray); simpa using this)
  have KA := Lib.hid (And.intro (Held.below kn1 hbA) (And.intro (Held.below k4 hbA) (And.intro (Held.below k5 hbA) (Below.step hbw hbA))))
  have x0' := KA.out.1.cell 0
  simp at x0'
  clear q1 q2 hbA hwA HR1 kn1 k4 k5 k2
  go_upto_region 13 with (first
    | (guard_target = wpList _ _ _ (Oper.mk (some 65) _ _ _ _ none :: _) _ _; refine wpList_load_row rfl 35 _ rfl (w.heap.size + 1) rfl _ _ _ _ k3 Try.underlying35 rfl (by kernel_rfl) ?_)
    | (at_builtin; refine wpList_append_cs rfl _ _ rfl w.heap.size _ n rfl Q1.out rfl hr9.out rfl (celsOf_one (celsOf_one1 (F := fun _ _ _ => True) (c := ⟨0, true, f⟩) (cs := (fcA f (.slice Ax1 f.stk.length cx1) (.slice Ax2 f.loc.length cx2) (.slice Ax3 f.slt.length cx3))) rfl (by simp [Value.oneCell']) trivial)) (Nat.le_refl _) (by omega) KA.out.2.2.2.size ?_; intro A8 m8 c8 u8 hm8 r1 r2; have HM8 := Lib.hid hm8; clear hm8; have R1 := Lib.hid r1; have R2 := Lib.hid r2; have g9 := held_grown KA.out.1 r2 (fun e => by have := HQQ.out _ e; omega); have y0 := g9.cell 0; have z0 := g9.fz 0; simp at y0; clear r1 r2))

  have hlen8 : (p.cells ++ [(⟨0, true, f⟩ : Cel)]).length = m8 := by rw [HM8.out, List.length_append, HN.out]; rfl
  have hbl2 := below_grown R2.out (fun q e => (Q1.out.lt q e).1) KA.out.2.2.2.size
  have hkC := kt_own Q1.out R2.out
  have hw9 := KA.out.2.2.2.trans hbl2
  have hcel : RowZ (FrmAt u8 w.heap.size) u8 w.heap.size A8 c8 B9 d9 ⟨p.cells ++ [⟨0, true, f⟩], p.free, p.most⟩ := by
    refine ⟨⟨_, by simp only [hlen8]; exact R1.out, celsOf_app (Q2.out.mono fun _ v f h => h.below (C := w.heap.size) hbl2 (Nat.le_refl _)) (celsOf_one1 rfl (by simp [Value.oneCell']) ((HF.out.1.below hw9 HF.out.2).more HF.out.2))⟩, row_kt (row_mono Q3.out (by omega)) hkC tyCI⟩
  have K2 := g9.set_at 0 (.slice A8 m8 c8)
  have k4 := (held_grown KA.out.2.1 R2.out (fun e => by have := HQQ.out _ e; omega)).far (show (w.heap.size + 1 + 1) ≠ gV by omega) 0 (.slice A8 m8 c8)
  have k5 := (held_grown KA.out.2.2.1 R2.out (fun e => by have := HQQ.out _ e; omega)).far (show (w.heap.size + 1 + 1 + 1) ≠ gV by omega) 0 (.slice A8 m8 c8)
  have hlw := (Below.refl w.heap.size u8).setCell (p := ⟨gV, 0, none⟩) (show w.heap.size ≤ gV by omega) (.slice A8 m8 c8)
  have hrow2 := hcel.kt (F' := FrmAt (u8.setCell ⟨gV, 0, none⟩ (.slice A8 m8 c8)) w.heap.size) (kt_cell g9 0 (.slice A8 m8 c8)) (by decide) (by decide) (fun v f h => h.below (C := w.heap.size) hlw (Nat.le_refl _))
  have hbw := hw9.trans hlw
  have hM1 : m8 = n + 1 := HM8.out
  clear hcel hlw hw9 hkC hbl2 g9 y0 z0 x0 x0' Q1 Q2 Q3 hr9 R1 R2 KA HQQ k3
  generalize u8.setCell ⟨gV, 0, none⟩ (.slice A8 m8 c8) = W4 at *
  simp at K2
  obtain ⟨mi, hmi⟩ : ∃ mi : Int, (m8 : Int) = mi := ⟨_, rfl⟩
  have hmi1 : mi - 1 = n := by omega
  have hmi0 : (0 : Int) ≤ mi := by omega
  have hmi9 : mi ≤ 3001 := by omega
  clear hM1

  have hdr := (Below.refl W4.heap.size W4).drew
  have hrow8 := hrow2.below (F' := FrmAt W4.drew w.heap.size) hdr (fun v f h => h.below (C := w.heap.size) (Below.refl _ _).drew (Nat.le_refl _))
  replace K2 := Held.below K2 hdr
  replace k4 := Held.below k4 hdr
  replace k5 := Held.below k5 hdr
  replace hbw := Below.step hbw hdr
  clear hrow2
  clear hdr
  refine wp_region_held_drew (S := fun W => Two (w.heap.size + 1 + 1) (w.heap.size + 1 + 1 + 1) W4.drew W) (by kernel_rfl) (Two.refl _ _ _) (fun hS => ?_)
  generalize W4.drew = W5 at *
  show wpAnyH _ _ _ _ _ 9 #[false, false, false, false, false, false, false, false, false] _ _
  refine wpAnyH_begin (by kernel_rfl) (fun HNS => ?_)
  refine wpAnyH_takeS HNS (i := 0) (v := .agg (pc A8 m8 c8 B9 0 d9 p.most)) rfl (by kernel_rfl) (by kernel_rfl) (fun _ _ _ h => h) (Or.inl ⟨by kernel_rfl, fun W hW => ?_⟩) hS ?_
  · (have hz : Held W gV 25 (pc A8 m8 c8 B9 0 d9 p.most) := (hW gV (by omega) (by omega)).trans K2; have z0 := hz.cell 0; have z1 := hz.cell 1; have z2 := hz.cell 2; simp at z0 z1 z2; go_simp)
  simp only [Act.put, List.getElem_toArray, List.getElem_cons_succ, List.getElem_cons_zero, List.setIfInBounds_toArray, List.set_cons_zero, List.set_cons_succ]
  refine wpAnyH_takeS HNS (i := 1) (v := .pointer (some ⟨gV, 0, none⟩)) rfl (by kernel_rfl) (by kernel_rfl) (fun _ _ _ h => h) (Or.inl ⟨by kernel_rfl, fun W hW => ?_⟩) hS ?_
  · go_simp
  simp only [Act.put, List.getElem_toArray, List.getElem_cons_succ, List.getElem_cons_zero, List.setIfInBounds_toArray, List.set_cons_zero, List.set_cons_succ]
  refine wpAnyH_takeS HNS (i := 2) (v := .slice A8 m8 c8) rfl (by kernel_rfl) (by kernel_rfl) (fun _ _ _ h => h) (Or.inl ⟨by kernel_rfl, fun W hW => ?_⟩) hS ?_
  · (have hz : Held W gV 25 (pc A8 m8 c8 B9 0 d9 p.most) := (hW gV (by omega) (by omega)).trans K2; have z0 := hz.cell 0; have z1 := hz.cell 1; have z2 := hz.cell 2; simp at z0 z1 z2; go_simp)
  simp only [Act.put, List.getElem_toArray, List.getElem_cons_succ, List.getElem_cons_zero, List.setIfInBounds_toArray, List.set_cons_zero, List.set_cons_succ]
  refine wpAnyH_takeS HNS (i := 3) (v := .int .i64 mi) rfl (by kernel_rfl) (by kernel_rfl) (fun _ _ _ h => h) (Or.inl ⟨by kernel_rfl, fun W hW => ?_⟩) hS ?_
  · (go_simp; try exact hmi)
  simp only [Act.put, List.getElem_toArray, List.getElem_cons_succ, List.getElem_cons_zero, List.setIfInBounds_toArray, List.set_cons_zero, List.set_cons_succ]
  refine wpAnyH_takeS HNS (i := 4) (v := .int .i64 n) rfl (by kernel_rfl) (by kernel_rfl) (fun _ _ _ h => h) (Or.inl ⟨by kernel_rfl, fun W hW => ?_⟩) hS ?_
  · (go_simp; first | done | exact IntWalk.i64_in _ (by omega))
  simp only [Act.put, List.getElem_toArray, List.getElem_cons_succ, List.getElem_cons_zero, List.setIfInBounds_toArray, List.set_cons_zero, List.set_cons_succ]
  refine wpAnyH_takeS HNS (i := 5) (v := .agg #[.int .i64 n, .int .i64 0]) rfl (by kernel_rfl) (by kernel_rfl) (fun _ _ _ h => h) (Or.inl ⟨by kernel_rfl, fun W hW => ?_⟩) hS ?_
  · go_simp
  simp only [Act.put, List.getElem_toArray, List.getElem_cons_succ, List.getElem_cons_zero, List.setIfInBounds_toArray, List.set_cons_zero, List.set_cons_succ]
  refine wpAnyH_ready (rs := [6]) (by kernel_rfl) (by simp) ?_
  refine (AllReadyH.cons rfl (fun K hK => ?_) AllReadyH.nil)
  rw [if_pos (by kernel_rfl)]
  refine wp_store_row 25 _ _ rfl _ (pc A8 m8 c8 B9 0 d9 p.most) (by rfl) (by rfl) _ _ k4 (by kernel_rfl) rfl (by simp [Value.oneCell']) ?_
  replace hS := hS.set1 (pc A8 m8 c8 B9 0 d9 p.most)
  replace k5 := held_row k5 (show (w.heap.size + 1 + 1 + 1) ≠ (w.heap.size + 1 + 1) by omega) (pc A8 m8 c8 B9 0 d9 p.most)
  have k4b := held_rowSelf k4 (pc A8 m8 c8 B9 0 d9 p.most)
  have HQ1 := Lib.hid (kt_row k4 (pc A8 m8 c8 B9 0 d9 p.most))
  have hbw1 := below_setRow hbw (show w.heap.size ≤ (w.heap.size + 1 + 1) by omega) (pc A8 m8 c8 B9 0 d9 p.most)
  have hlw1 := below_setRow (Below.refl w.heap.size W5) (show w.heap.size ≤ (w.heap.size + 1 + 1) by omega) (pc A8 m8 c8 B9 0 d9 p.most)
  have HLW1 := Lib.hid hlw1
  clear hlw1
  generalize World.setRow _ _ (pc A8 m8 c8 B9 0 d9 p.most) = Wy at *
  refine hK.out _ _ hS (fun _ => ?_)
  clear hK K
  (try simp only [Act.put, List.getElem_toArray, List.getElem_cons_succ, List.getElem_cons_zero, List.setIfInBounds_toArray, List.set_cons_zero, List.set_cons_succ])
  refine wpAnyH_ready (rs := [7]) (by kernel_rfl) (by simp) ?_
  refine (AllReadyH.cons rfl (fun K hK => ?_) AllReadyH.nil)
  rw [if_pos (by kernel_rfl)]
  refine wp_store_row 27 _ _ rfl _ (refc n 0) (by rfl) (by rfl) _ _ k5 (by kernel_rfl) rfl (by simp [Value.oneCell']) ?_
  replace hS := hS.set2 (refc n 0)
  have k4c := held_row k4b (show (w.heap.size + 1 + 1) ≠ (w.heap.size + 1 + 1 + 1) by omega) (refc n 0)
  have k5c := held_rowSelf k5 (refc n 0)
  have HQ2 := Lib.hid (kt_row k5 (refc n 0))
  have hbw2 := below_setRow hbw1 (show w.heap.size ≤ (w.heap.size + 1 + 1 + 1) by omega) (refc n 0)
  have hlw2 := below_setRow (Below.refl w.heap.size Wy) (show w.heap.size ≤ (w.heap.size + 1 + 1 + 1) by omega) (refc n 0)
  have HLW2 := Lib.hid hlw2
  clear hlw2
  generalize World.setRow _ _ (refc n 0) = Wz at *
  refine hK.out _ _ hS (fun _ => ?_)
  clear hK K
  (try simp only [Act.put, List.getElem_toArray, List.getElem_cons_succ, List.getElem_cons_zero, List.setIfInBounds_toArray, List.set_cons_zero, List.set_cons_succ])
  refine wpAnyH_takeS HNS (i := 8) (v := .int .i64 0) rfl (by kernel_rfl) (by kernel_rfl) (fun _ _ _ h => h) (Or.inl ⟨by kernel_rfl, fun W hW => ?_⟩) hS ?_
  · go_simp
  simp only [Act.put, List.getElem_toArray, List.getElem_cons_succ, List.getElem_cons_zero, List.setIfInBounds_toArray, List.set_cons_zero, List.set_cons_succ]
  refine wpAnyH_done (by kernel_rfl) ?_ _
  have hrow9 := (hrow8.kt (F' := FrmAt Wy w.heap.size) HQ1.out (by decide) (by decide) (fun v f h => h.below (C := w.heap.size) HLW1.out (Nat.le_refl _))).kt (F' := FrmAt Wz w.heap.size) HQ2.out (by decide) (by decide) (fun v f h => h.below (C := w.heap.size) HLW2.out (Nat.le_refl _))
  (repeat go_step)
  exact bodyPost_ret (results_cct rfl _ _ rfl rfl rfl (load_pen k4c rfl) (load_ref k5c rfl)) rfl ⟨_, _, _, _, by simp only [hlen8]; rfl, (by rw [HFZ.out] at hrow9; exact hrow9.at hbw2.size), hbw2⟩
/-- The document's Lay, at every pen and frame. -/
theorem rlay_z {A A2 : Option Addr} {p : Zp} {B BF n m : Nat} {fs : Array Value} {f : Frm} (c c2 : Nat) (w : World) (hn : p.cells.length = n) (hm : p.free.length = m) (h : PAtZ w B A A2 p) (hl : LenZ p) (hB : B ≤ w.heap.size) (hs : fs.size = 16) (hfn : fs.all (·.oneCell') = true) (hf : FrmAt w BF (.agg fs) f) (hBF : BF ≤ w.heap.size) :
    Calls Try.prog 13 #[pv A n c A2 m c2 p.most, .agg fs] w (LayR w (layZ p f)) := by
  cases hok : okZ p with
  | false =>
    rw [show layZ p f = (p, (0, 0), 1) by unfold layZ; rw [if_pos hok]]
    exact rlay_no c c2 w hn hm h hl hB hs hfn hok
  | true =>
    by_cases hf0 : p.free = []
    · by_cases hful : (p.cells.length : Int) = p.most
      · rw [show layZ p f = (p, (0, 0), 120) by unfold layZ; rw [if_neg (by rw [hok]; decide), if_pos hf0, if_pos hful]]
        exact rlay_full c c2 w hn hm h hl hB hs hfn hok hf0 hful
      · exact rlay_new c c2 w hn hm h hl hB hf hBF hok hf0 hful
    · exact rlay_use c c2 w hn hm h hl hB hf hBF hok hf0
end Go.Proofs.Ytkpjlobpaippdaa
