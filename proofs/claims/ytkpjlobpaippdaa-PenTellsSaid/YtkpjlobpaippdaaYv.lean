/- Layer 12's code: Set, Drop. -/
import Derived.Test.YtkpjlobpaippdaaYu
namespace Go.Proofs.Ytkpjlobpaippdaa
set_option linter.unusedVariables false
set_option linter.unusedSimpArgs false
open Go.RowKit Go.ChangeShapes Go.WideShapes Go.ChangeAt Go.Sort

theorem PenQ.mono {w0 w : World} {R : Zp × Int} {e : Ending} {w' : World} (h : PenQ w R e w') (hb : Below w0.heap.size w0 w) : ∃ A c A2 c2, e = .returned (.tuple #[pv A R.1.cells.length c A2 R.1.free.length c2 R.1.most, .int .i64 R.2]) ∧ OwnZ w' w.heap.size A c A2 c2 R.1 ∧ Below w.heap.size w w' := h
theorem below4 (w : World) (o p q s : Obj) : Below w.heap.size w ((((w.alloc o).alloc p).alloc q).alloc s) := ((((Below.refl _ _).alloc (Nat.le_refl _) _).alloc (by simp) _).alloc (by simp; omega) _).alloc (by simp; omega) _
set_option maxHeartbeats 4000000 in
set_option maxRecDepth 100000 in
theorem set_z {A A2 : Option Addr} {p : Zp} {B BF n m : Nat} {fs : Array Value} {f : Frm} (c c2 : Nat) (r : V) (w : World) (hn : p.cells.length = n) (hm : p.free.length = m) (h : PAtZ w B A A2 p) (hl : LenZ p) (hB : B ≤ w.heap.size) (hs : fs.size = 16) (hf : FrmAt w BF (.agg fs) f) (hlf : FrmLen f) (hBF : BF ≤ w.heap.size) :
    Calls Try.prog 14 #[pv A n c A2 m c2 p.most, gv r.1 r.2, .agg fs] w (PenQ w (setZ p r f)) := by
  have hbw : Below w.heap.size w ((((w.alloc (.cells (pc A n c A2 m c2 p.most) 25)).alloc (.cells (refc r.1 r.2) 27)).alloc (.cells fs 35)).alloc (.cells pz0 25)) := below4 w _ _ _ _
  have g3 := (((Held.new w 25 (pc A n c A2 m c2 p.most)).alloc (.cells (refc r.1 r.2) 27)).alloc (.cells fs 35)).alloc (.cells pz0 25)
  have g4 := ((Held.new1 w (.cells (pc A n c A2 m c2 p.most) 25) 27 (refc r.1 r.2)).alloc (.cells fs 35)).alloc (.cells pz0 25)
  have g6 := (Held.new2 w (.cells (pc A n c A2 m c2 p.most) 25) (.cells (refc r.1 r.2) 27) 35 fs).alloc (.cells pz0 25)
  have g5 : Held ((((w.alloc (.cells (pc A n c A2 m c2 p.most) 25)).alloc (.cells (refc r.1 r.2) 27)).alloc (.cells fs 35)).alloc (.cells pz0 25)) (w.heap.size + 1 + 1 + 1) 25 pz0 := by
    have := Held.new (((w.alloc (.cells (pc A n c A2 m c2 p.most) 25)).alloc (.cells (refc r.1 r.2) 27)).alloc (.cells fs 35)) 25 pz0
    simpa using this
  have hsz : w.heap.size + 4 ≤ ((((w.alloc (.cells (pc A n c A2 m c2 p.most) 25)).alloc (.cells (refc r.1 r.2) 27)).alloc (.cells fs 35)).alloc (.cells pz0 25)).heap.size := by simp
  have WC := works_z c c2 r ((((w.alloc (.cells (pc A n c A2 m c2 p.most) 25)).alloc (.cells (refc r.1 r.2) 27)).alloc (.cells fs 35)).alloc (.cells pz0 25)) hn hm (h.below hbw hB) hl (Nat.le_trans hB hbw.size) g6 hs (hf.below hbw hBF) hlf (Nat.le_trans hBF hbw.size)
  generalize setZ p r f = S at *
  clear h hl hn hm hB hs hf hlf hBF g6
  go_enter Try.func14, Try.ntmps14
  go_upto_region 1 with (guard_target = wpList _ _ _ (Oper.mk (some 5) _ _ _ _ none :: _) _ _; refine wpList_box_arr rfl 35 _ rfl fs rfl ?_)
  generalize ((((w.alloc (.cells (pc A n c A2 m c2 p.most) 25)).alloc (.cells (refc r.1 r.2) 27)).alloc (.cells fs 35)).alloc (.cells pz0 25)) = W0 at *
  go_wp2_with (first
    | (guard_target = wpList _ _ _ (Oper.mk (some 8) _ _ _ _ none :: _) _ _; refine wpList_load_row rfl 25 _ rfl w.heap.size rfl _ _ _ _ g3 Try.underlying25 rfl (by kernel_rfl) ?_)
    | (guard_target = wpList _ _ _ (Oper.mk (some 9) _ _ _ _ none :: _) _ _; refine wpList_load_row rfl 27 _ rfl (w.heap.size + 1) rfl _ _ _ _ g4 Try.underlying27 rfl (by kernel_rfl) ?_)
    | (go_at_call 33; (refine WC.mono ?_); rintro _ u ⟨A3, c3, A4, c4, rfl, ho, hb⟩; replace g5 := Held.below g5 hb; replace hbw := Below.step hbw hb; have HO := Lib.hid ho; clear ho hb)
    | (guard_target = wpList _ _ _ (Oper.mk _ (Op.store 25 (.tmp 6) _) _ _ _ none :: _) _ _; refine wpList_store_row rfl 25 _ _ rfl (w.heap.size + 1 + 1 + 1) (pc A3 S.1.cells.length c3 A4 S.1.free.length c4 S.1.most) rfl rfl _ _ g5 (by kernel_rfl) rfl (by simp [Value.oneCell']) ?_))
  refine bodyPost_ret (results_ct0 rfl _ _ rfl rfl (load_pen (held_rowSelf g5 (pc A3 S.1.cells.length c3 A4 S.1.free.length c4 S.1.most)) rfl)) rfl ⟨A3, c3, A4, c4, rfl, (HO.out.pen (kt_row g5 _)).mono (by omega), below_setRow hbw (by omega) _⟩
/-- Dropped: emptied, and its place among the free ones. -/
theorem drop_of (p : Zp) (r : V) : dropZ p r = if (emptyZ p r).2 = 0 then (⟨(emptyZ p r).1.cells, (emptyZ p r).1.free ++ [r.1], (emptyZ p r).1.most⟩, 0) else emptyZ p r := by
  unfold dropZ emptyZ
  split
  · rfl
  · split <;> rfl
theorem empty_len (p : Zp) (r : V) : (emptyZ p r).1.free = p.free := by
  unfold emptyZ
  split
  · rfl
  · split <;> rfl
set_option maxHeartbeats 4000000 in
set_option maxRecDepth 100000 in
theorem drop_z {A A2 : Option Addr} {p : Zp} {B n m : Nat} (c c2 : Nat) (r : V) (w : World) (hn : p.cells.length = n) (hm : p.free.length = m) (h : PAtZ w B A A2 p) (hl : LenZ p) (hB : B ≤ w.heap.size) :
    Calls Try.prog 16 #[pv A n c A2 m c2 p.most, gv r.1 r.2] w (PenQ w (dropZ p r)) := by
  have hbw : Below w.heap.size w (((w.alloc (.cells (pc A n c A2 m c2 p.most) 25)).alloc (.cells (refc r.1 r.2) 27)).alloc (.cells pz0 25)) := below3 w _ _ _
  have g2 := ((Held.new w 25 (pc A n c A2 m c2 p.most)).alloc (.cells (refc r.1 r.2) 27)).alloc (.cells pz0 25)
  have g3 := (Held.new1 w (.cells (pc A n c A2 m c2 p.most) 25) 27 (refc r.1 r.2)).alloc (.cells pz0 25)
  have g4 := Held.new2 w (.cells (pc A n c A2 m c2 p.most) 25) (.cells (refc r.1 r.2) 27) 25 pz0
  have hsz : w.heap.size + 3 ≤ (((w.alloc (.cells (pc A n c A2 m c2 p.most) 25)).alloc (.cells (refc r.1 r.2) 27)).alloc (.cells pz0 25)).heap.size := by simp
  have WC := workd_z c c2 r (((w.alloc (.cells (pc A n c A2 m c2 p.most) 25)).alloc (.cells (refc r.1 r.2) 27)).alloc (.cells pz0 25)) hn hm (h.below hbw hB) hl (Nat.le_trans hB hbw.size)
  have HD := Lib.hid (drop_of p r)
  have HFL : Hid ((emptyZ p r).1.free.length ≤ 2000) := Lib.hid (by rw [empty_len]; exact hl.free)
  generalize emptyZ p r = S at *
  obtain ⟨T, hT⟩ : ∃ T, dropZ p r = T := ⟨_, rfl⟩
  rw [hT] at HD ⊢
  obtain ⟨⟨scs, sfr, sm⟩, e⟩ := S
  simp only at HD HFL
  clear h hl hn hm hB hT
  go_enter Try.func16, Try.ntmps16
  go_upto_region 1 with (fail)
  generalize (((w.alloc (.cells (pc A n c A2 m c2 p.most) 25)).alloc (.cells (refc r.1 r.2) 27)).alloc (.cells pz0 25)) = W0 at *
  go_upto_region 2 with (first
    | (guard_target = wpList _ _ _ (Oper.mk (some 8) _ _ _ _ none :: _) _ _; refine wpList_load_row rfl 25 _ rfl w.heap.size rfl _ _ _ _ g2 Try.underlying25 rfl (by kernel_rfl) ?_)
    | (guard_target = wpList _ _ _ (Oper.mk (some 9) _ _ _ _ none :: _) _ _; refine wpList_load_row rfl 27 _ rfl (w.heap.size + 1) rfl _ _ _ _ g3 Try.underlying27 rfl (by kernel_rfl) ?_)
    | (go_at_call 33; (refine WC.mono ?_); rintro _ u ⟨A3, c3, A4, c4, rfl, ho, hb⟩; replace g2 := Held.below g2 hb; replace g3 := Held.below g3 hb; replace g4 := Held.below g4 hb; replace hbw := Below.step hbw hb; have hsu := hb.size; clear hb)
    | (guard_target = wpList _ _ _ (Oper.mk _ (Op.store 25 (.tmp 2) _) _ _ _ none :: _) _ _; refine wpList_store_row rfl 25 _ _ rfl w.heap.size (pc A3 scs.length c3 A4 sfr.length c4 sm) rfl rfl _ _ g2 (by kernel_rfl) rfl (by simp [Value.oneCell']) ?_))
  have ho2 := (ho.pen (kt_row g2 (pc A3 scs.length c3 A4 sfr.length c4 sm))).mono hsz
  have hlow := below_setRow hbw (Nat.le_refl _) (pc A3 scs.length c3 A4 sfr.length c4 sm)
  replace g3 := held_row g3 (show w.heap.size + 1 ≠ w.heap.size by omega) (pc A3 scs.length c3 A4 sfr.length c4 sm)
  replace g4 := held_row g4 (show w.heap.size + 1 + 1 ≠ w.heap.size by omega) (pc A3 scs.length c3 A4 sfr.length c4 sm)
  replace g2 := held_rowSelf g2 (pc A3 scs.length c3 A4 sfr.length c4 sm)
  have hlu := g2.lt
  clear ho hbw WC
  generalize u.setRow w.heap.size (pc A3 scs.length c3 A4 sfr.length c4 sm) = W1 at *
  by_cases he : e = 0
  · subst he
    obtain rfl : T = (⟨scs, sfr ++ [r.1], sm⟩, 0) := HD.out
    have x1 := g2.cell 1
    have y0 := g3.cell 0
    simp at x1 y0
    have hbA : Below W1.heap.size W1 (W1.alloc (.cells #[.int .i64 r.1] 3)) := (Below.refl _ _).alloc (Nat.le_refl _) _
    have HOA := Lib.hid (ho2.below hbA)
    have HVA := Lib.hid (one1_at (t := 3) (w := W1) r.1)
    have HLW := Lib.hid (Below.step hlow hbA)
    have G2 := Lib.hid (Held.below g2 hbA)
    have G4 := Lib.hid (Held.below g4 hbA)
    have hsz9 : w.heap.size + 3 ≤ (W1.alloc (.cells #[.int .i64 r.1] 3)).heap.size := by
      have := g4.lt
      simp
      omega
    have HSZ := Lib.hid hsz9
    clear hbA ho2 hlow g2 g3 g4 hsz9
    go_upto_region 4 with (at_builtin; refine wpList_append_is (k := [r.1]) (n := 1) rfl _ _ rfl (w.heap.size + 3) _ sfr rfl HOA.out.free rfl rfl HVA.out (Nat.le_refl _) (by have := HFL.out; omega) HSZ.out ?_; intro A7 m7 c7 u7 hm7 k1 k2; have HM7 := Lib.hid hm7; clear hm7; have g9 := held_grown G2.out k2 (fun e => by have := HOA.out.free.lt _ e; omega); have x1 := g9.cell 1; have z1 := g9.fz 1; simp at x1)
    have hm9 : (sfr ++ [r.1]).length = m7 := by rw [HM7.out]; simp
    have hkI := kt_own HOA.out.free k2
    have hcl := HOA.out.cells.kt hkI tyVI tySI tyCel
    have K2 := g9.set_at 1 (.slice A7 m7 c7)
    have K4 := (held_grown G4.out k2 (fun e => by have := HOA.out.free.lt _ e; omega)).far (show w.heap.size + 1 + 1 ≠ w.heap.size by omega) 1 (.slice A7 m7 c7)
    have hlow9 := (below_grown2 HLW.out k2 (fun q e => by have := (HOA.out.free.lt q e).1; omega) HLW.out.size).setCell (p := ⟨w.heap.size, 1, none⟩) (Nat.le_refl _) (.slice A7 m7 c7)
    have hkP : KTy u7 (u7.setCell ⟨w.heap.size, 1, none⟩ (.slice A7 m7 c7)) 25 := fun g e cs fr hg hne => Below.heap_setCell u7 ⟨w.heap.size, 1, none⟩ _ g (fun e2 => by
      subst e2
      rw [Held, hg] at g9
      simp at g9
      exact hne g9.2.1)
    have k1' : OwnI u7 (w.heap.size + 3) (.slice A7 (sfr ++ [r.1]).length c7) (sfr ++ [r.1]) := by rw [hm9]; exact k1
    have HO := Lib.hid ((OwnZ.mk (p := ⟨scs, sfr ++ [r.1], sm⟩) hcl k1').pen hkP)
    have HLL := Lib.hid hlow9
    clear hkI hcl k1 k1' k2 hlow9 hkP g9 x1 z1 hlu hsu y0
    generalize u7.setCell ⟨w.heap.size, 1, none⟩ (.slice A7 m7 c7) = W5 at *
    simp at K2
    have HM9 := Lib.hid hm9
    clear hm9 HM7
    go_wp2_with (first
      | (guard_target = wpList _ _ _ (Oper.mk (some 22) _ _ _ _ none :: _) _ _; refine wpList_load_row rfl 25 _ rfl w.heap.size rfl _ _ _ _ K2 Try.underlying25 rfl (by kernel_rfl) ?_)
      | (guard_target = wpList _ _ _ (Oper.mk _ (Op.store 25 (.tmp 4) _) _ _ _ none :: _) _ _; refine wpList_store_row rfl 25 _ _ rfl (w.heap.size + 1 + 1) (pc A3 scs.length c3 A7 m7 c7 sm) rfl rfl _ _ K4 (by kernel_rfl) rfl (by simp [Value.oneCell']) ?_))
    refine bodyPost_ret (results_ct0 rfl _ _ rfl rfl (load_pen (held_rowSelf K4 (pc A3 scs.length c3 A7 m7 c7 sm)) rfl)) rfl ⟨A3, c3, A7, c7, by simp only [HM9.out]; rfl, (HO.out.pen (kt_row K4 _)).mono (by omega), below_setRow HLL.out (by omega) _⟩
  · have e9 : (e == 0) = false := by simpa using he
    have hT : T = (⟨scs, sfr, sm⟩, e) := by rw [HD.out, if_neg he]
    subst hT
    have HO := Lib.hid ho2
    clear he ho2
    go_wp2_with (first
      | (guard_target = wpList _ _ _ (Oper.mk (some 22) _ _ _ _ none :: _) _ _; refine wpList_load_row rfl 25 _ rfl w.heap.size rfl _ _ _ _ g2 Try.underlying25 rfl (by kernel_rfl) ?_)
      | (guard_target = wpList _ _ _ (Oper.mk _ (Op.store 25 (.tmp 4) _) _ _ _ none :: _) _ _; refine wpList_store_row rfl 25 _ _ rfl (w.heap.size + 1 + 1) (pc A3 scs.length c3 A4 sfr.length c4 sm) rfl rfl _ _ g4 (by kernel_rfl) rfl (by simp [Value.oneCell']) ?_))
    refine bodyPost_ret (results_ct0 rfl _ _ rfl rfl (load_pen (held_rowSelf g4 (pc A3 scs.length c3 A4 sfr.length c4 sm)) rfl)) rfl ⟨A3, c3, A4, c4, rfl, (HO.out.pen (kt_row g4 _)).mono (by omega), below_setRow hlow (by omega) _⟩
end Go.Proofs.Ytkpjlobpaippdaa
