/- Layer 12: the document's Set. -/
import Derived.Test.YtkpjlobpaippdaaYx
import Derived.Test.YtkpjlobpaippdaaYg
import Derived.Test.YtkpjlobpaippdaaYu
import Derived.Test.YtkpjlobpaippdaaYv
namespace Go.Proofs.Ytkpjlobpaippdaa
set_option linter.unusedVariables false
set_option linter.unusedSimpArgs false
open Go.RowKit Go.ChangeShapes Go.WideShapes Go.ChangeAt Go.Sort

/-- What the document's Set and Drop tell: a pen that can be read. -/
def PenR (w : World) (R : Zp × Int) (e : Ending) (w' : World) : Prop := ∃ A c A2 c2, e = .returned (.tuple #[pv A R.1.cells.length c A2 R.1.free.length c2 R.1.most, .int .i64 R.2]) ∧ PAtZ w' w'.heap.size A A2 R.1 ∧ Below w.heap.size w w'
set_option maxHeartbeats 4000000 in
set_option maxRecDepth 100000 in
theorem rset_z {A A2 : Option Addr} {p : Zp} {B BF n m : Nat} {fs : Array Value} {f : Frm} (c c2 : Nat) (r : V) (w : World) (hn : p.cells.length = n) (hm : p.free.length = m) (h : PAtZ w B A A2 p) (hl : LenZ p) (hB : B ≤ w.heap.size) (hs : fs.size = 16) (hfn : fs.all (·.oneCell') = true) (hf : FrmAt w BF (.agg fs) f) (hBF : BF ≤ w.heap.size) :
    Calls Try.prog 15 #[pv A n c A2 m c2 p.most, gv r.1 r.2, .agg fs] w (PenR w (setZ p r f)) := by
  obtain ⟨Ax1, cx1, Ax2, cx2, Ax3, cx3, ef, hv1, hv2, hv3⟩ := hf
  have hf : FrmAt w BF (.agg fs) f := ⟨Ax1, cx1, Ax2, cx2, Ax3, cx3, ef, hv1, hv2, hv3⟩
  obtain rfl : fs = (fcA f (.slice Ax1 f.stk.length cx1) (.slice Ax2 f.loc.length cx2) (.slice Ax3 f.slt.length cx3)) := by simpa [fv] using ef
  clear ef hv1 hv2 hv3
  have hbw : Below w.heap.size w ((((w.alloc (.cells (pc A n c A2 m c2 p.most) 25)).alloc (.cells (refc r.1 r.2) 27)).alloc (.cells (fcA f (.slice Ax1 f.stk.length cx1) (.slice Ax2 f.loc.length cx2) (.slice Ax3 f.slt.length cx3)) 35)).alloc (.cells pz0 25)) := below4 w _ _ _ _
  have k2 : Held ((((w.alloc (.cells (pc A n c A2 m c2 p.most) 25)).alloc (.cells (refc r.1 r.2) 27)).alloc (.cells (fcA f (.slice Ax1 f.stk.length cx1) (.slice Ax2 f.loc.length cx2) (.slice Ax3 f.slt.length cx3)) 35)).alloc (.cells pz0 25)) w.heap.size 25 (pc A n c A2 m c2 p.most) := (((Held.new w 25 (pc A n c A2 m c2 p.most)).alloc _).alloc _).alloc _
  have k3 : Held ((((w.alloc (.cells (pc A n c A2 m c2 p.most) 25)).alloc (.cells (refc r.1 r.2) 27)).alloc (.cells (fcA f (.slice Ax1 f.stk.length cx1) (.slice Ax2 f.loc.length cx2) (.slice Ax3 f.slt.length cx3)) 35)).alloc (.cells pz0 25)) (w.heap.size + 1) 27 (refc r.1 r.2) := ((Held.new1 w (.cells (pc A n c A2 m c2 p.most) 25) 27 (refc r.1 r.2)).alloc _).alloc _
  have k4 : Held ((((w.alloc (.cells (pc A n c A2 m c2 p.most) 25)).alloc (.cells (refc r.1 r.2) 27)).alloc (.cells (fcA f (.slice Ax1 f.stk.length cx1) (.slice Ax2 f.loc.length cx2) (.slice Ax3 f.slt.length cx3)) 35)).alloc (.cells pz0 25)) (w.heap.size + 1 + 1) 35 (fcA f (.slice Ax1 f.stk.length cx1) (.slice Ax2 f.loc.length cx2) (.slice Ax3 f.slt.length cx3)) := (Held.new2 w (.cells (pc A n c A2 m c2 p.most) 25) (.cells (refc r.1 r.2) 27) 35 (fcA f (.slice Ax1 f.stk.length cx1) (.slice Ax2 f.loc.length cx2) (.slice Ax3 f.slt.length cx3))).alloc _
  have k5 : Held ((((w.alloc (.cells (pc A n c A2 m c2 p.most) 25)).alloc (.cells (refc r.1 r.2) 27)).alloc (.cells (fcA f (.slice Ax1 f.stk.length cx1) (.slice Ax2 f.loc.length cx2) (.slice Ax3 f.slt.length cx3)) 35)).alloc (.cells pz0 25)) (w.heap.size + 1 + 1 + 1) 25 pz0 := by
    have := Held.new2 (w.alloc (.cells (pc A n c A2 m c2 p.most) 25)) (.cells (refc r.1 r.2) 27) (.cells (fcA f (.slice Ax1 f.stk.length cx1) (.slice Ax2 f.loc.length cx2) (.slice Ax3 f.slt.length cx3)) 35) 25 pz0
    simpa using this
  have HN := Lib.hid hn
  have HM := Lib.hid hm
  have HL := Lib.hid hl
  have HP := Lib.hid (And.intro h hB)
  have HS := Lib.hid hs
  have HFN := Lib.hid hfn
  have HF := Lib.hid (And.intro hf hBF)
  have hn1 : n ≤ 3000 := by have := hl.cells; omega
  have hm1 : m ≤ 100000 := by have := hl.free; omega
  have PB : ∀ W, Below w.heap.size w W → B ≤ W.heap.size ∧ PAtZ W B A A2 p := fun W hb => ⟨Nat.le_trans HP.out.2 hb.size, HP.out.1.below hb HP.out.2⟩
  obtain ⟨b1, hb1⟩ : ∃ b, okZ p = b := ⟨_, rfl⟩
  obtain ⟨b2, hb2⟩ : ∃ b, hasZ p r = b := ⟨_, rfl⟩
  have MC : ∀ W, Below w.heap.size w W → Calls Try.prog 28 #[pv A n c A2 m c2 p.most] W fun e w' => e = .returned (.bool b1) ∧ Below W.heap.size W w' := fun W hb => by
    have := rmay_z c c2 W HN.out HM.out (PB W hb).2 (by omega) hm1 (PB W hb).1
    rw [hb1] at this
    exact this
  have HC : ∀ W, Below w.heap.size w W → Calls Try.prog 35 #[pv A n c A2 m c2 p.most, gv r.1 r.2] W fun e w' => e = .returned (.bool b2) ∧ Below W.heap.size W w' := fun W hb => by
    have := rhas_z c c2 (m := m) (t := p.most) r W HN.out (PB W hb).2 (PB W hb).1 hn1
    rw [hb2] at this
    exact this
  have HMC := Lib.hid MC
  have HHC := Lib.hid HC
  have HB1 := Lib.hid hb1
  have HB2 := Lib.hid hb2
  clear h hn hm hl hB hs hfn hf hBF MC HC hb1 hb2
  have FIN : ∀ W, Below w.heap.size w W → PAtZ (W.setRow (w.heap.size + 1 + 1 + 1) (pc A n c A2 m c2 p.most)) (W.setRow (w.heap.size + 1 + 1 + 1) (pc A n c A2 m c2 p.most)).heap.size A A2 p ∧ Below w.heap.size w (W.setRow (w.heap.size + 1 + 1 + 1) (pc A n c A2 m c2 p.most)) := fun W hb => by
    have h9 := below_setRow hb (show w.heap.size ≤ (w.heap.size + 1 + 1 + 1) by omega) (pc A n c A2 m c2 p.most)
    exact ⟨((HP.out.1.below h9 HP.out.2).more (Nat.le_trans HP.out.2 h9.size)), h9⟩
  have HFI := Lib.hid FIN
  clear FIN PB
  cases b1
  case false =>
    rw [show setZ p r f = (p, 1) by unfold setZ; rw [if_pos HB1.out]]
    go_enter Try.func15, Try.ntmps15
    go_upto_region 1 with (guard_target = wpList _ _ _ (Oper.mk (some 5) _ _ _ _ none :: _) _ _; refine wpList_box_arr rfl 35 _ rfl (fcA f (.slice Ax1 f.stk.length cx1) (.slice Ax2 f.loc.length cx2) (.slice Ax3 f.slt.length cx3)) rfl ?_)
    generalize ((((w.alloc (.cells (pc A n c A2 m c2 p.most) 25)).alloc (.cells (refc r.1 r.2) 27)).alloc (.cells (fcA f (.slice Ax1 f.stk.length cx1) (.slice Ax2 f.loc.length cx2) (.slice Ax3 f.slt.length cx3)) 35)).alloc (.cells pz0 25)) = W0 at *
    go_wp2_with (first
      | (guard_target = wpList _ _ _ (Oper.mk (some 9) _ _ _ _ none :: _) _ _; refine wpList_load_row rfl 25 _ rfl w.heap.size rfl _ _ _ _ k2 Try.underlying25 rfl (by kernel_rfl) ?_)
      | (guard_target = wpList _ _ _ (Oper.mk (some 12) _ _ _ _ none :: _) _ _; refine wpList_load_row rfl 25 _ rfl w.heap.size rfl _ _ _ _ k2 Try.underlying25 rfl (by kernel_rfl) ?_)
      | (guard_target = wpList _ _ _ (Oper.mk (some 13) _ _ _ _ none :: _) _ _; refine wpList_load_row rfl 25 _ rfl w.heap.size rfl _ _ _ _ k2 Try.underlying25 rfl (by kernel_rfl) ?_)
      | (guard_target = wpList _ _ _ (Oper.mk (some 14) _ _ _ _ none :: _) _ _; refine wpList_load_row rfl 27 _ rfl (w.heap.size + 1) rfl _ _ _ _ k3 Try.underlying27 rfl (by kernel_rfl) ?_)
      | (guard_target = wpList _ _ _ (Oper.mk (some 17) _ _ _ _ none :: _) _ _; refine wpList_load_row rfl 25 _ rfl w.heap.size rfl _ _ _ _ k2 Try.underlying25 rfl (by kernel_rfl) ?_)
      | (guard_target = wpList _ _ _ (Oper.mk (some 18) _ _ _ _ none :: _) _ _; refine wpList_load_row rfl 25 _ rfl w.heap.size rfl _ _ _ _ k2 Try.underlying25 rfl (by kernel_rfl) ?_)
      | (go_at_call 28; (with_reducible refine (HMC.out _ hbw).mono ?_); rintro _ u1 ⟨rfl, hb1⟩; replace k2 := Held.below k2 hb1; replace k3 := Held.below k3 hb1; replace k4 := Held.below k4 hb1; replace k5 := Held.below k5 hb1; replace hbw := Below.step hbw hb1; clear hb1)
      | (go_at_call 35; (with_reducible refine (HHC.out _ hbw).mono ?_); rintro _ u2 ⟨rfl, hb2⟩; replace k2 := Held.below k2 hb2; replace k3 := Held.below k3 hb2; replace k4 := Held.below k4 hb2; replace k5 := Held.below k5 hb2; replace hbw := Below.step hbw hb2; clear hb2)
      | (guard_target = wpList _ _ _ (Oper.mk _ (Op.store 25 (.tmp 6) _) _ _ _ none :: _) _ _; refine wpList_store_row rfl 25 _ _ rfl (w.heap.size + 1 + 1 + 1) (pc A n c A2 m c2 p.most) rfl rfl _ _ k5 (by kernel_rfl) rfl (by simp [Value.oneCell']) ?_))
    have h9 := HFI.out _ hbw
    exact bodyPost_ret (results_ct0 rfl _ _ rfl rfl (load_pen (held_rowSelf k5 (pc A n c A2 m c2 p.most)) rfl)) rfl ⟨A, c, A2, c2, by simp only [HN.out, HM.out]; rfl, h9.1, h9.2⟩
  case true =>
  cases b2
  case false =>
    rw [show setZ p r f = (p, 121) by unfold setZ; rw [if_neg (by rw [HB1.out]; decide), if_pos HB2.out]]
    go_enter Try.func15, Try.ntmps15
    go_upto_region 1 with (guard_target = wpList _ _ _ (Oper.mk (some 5) _ _ _ _ none :: _) _ _; refine wpList_box_arr rfl 35 _ rfl (fcA f (.slice Ax1 f.stk.length cx1) (.slice Ax2 f.loc.length cx2) (.slice Ax3 f.slt.length cx3)) rfl ?_)
    generalize ((((w.alloc (.cells (pc A n c A2 m c2 p.most) 25)).alloc (.cells (refc r.1 r.2) 27)).alloc (.cells (fcA f (.slice Ax1 f.stk.length cx1) (.slice Ax2 f.loc.length cx2) (.slice Ax3 f.slt.length cx3)) 35)).alloc (.cells pz0 25)) = W0 at *
    go_wp2_with (first
      | (guard_target = wpList _ _ _ (Oper.mk (some 9) _ _ _ _ none :: _) _ _; refine wpList_load_row rfl 25 _ rfl w.heap.size rfl _ _ _ _ k2 Try.underlying25 rfl (by kernel_rfl) ?_)
      | (guard_target = wpList _ _ _ (Oper.mk (some 12) _ _ _ _ none :: _) _ _; refine wpList_load_row rfl 25 _ rfl w.heap.size rfl _ _ _ _ k2 Try.underlying25 rfl (by kernel_rfl) ?_)
      | (guard_target = wpList _ _ _ (Oper.mk (some 13) _ _ _ _ none :: _) _ _; refine wpList_load_row rfl 25 _ rfl w.heap.size rfl _ _ _ _ k2 Try.underlying25 rfl (by kernel_rfl) ?_)
      | (guard_target = wpList _ _ _ (Oper.mk (some 14) _ _ _ _ none :: _) _ _; refine wpList_load_row rfl 27 _ rfl (w.heap.size + 1) rfl _ _ _ _ k3 Try.underlying27 rfl (by kernel_rfl) ?_)
      | (guard_target = wpList _ _ _ (Oper.mk (some 17) _ _ _ _ none :: _) _ _; refine wpList_load_row rfl 25 _ rfl w.heap.size rfl _ _ _ _ k2 Try.underlying25 rfl (by kernel_rfl) ?_)
      | (guard_target = wpList _ _ _ (Oper.mk (some 18) _ _ _ _ none :: _) _ _; refine wpList_load_row rfl 25 _ rfl w.heap.size rfl _ _ _ _ k2 Try.underlying25 rfl (by kernel_rfl) ?_)
      | (go_at_call 28; (with_reducible refine (HMC.out _ hbw).mono ?_); rintro _ u1 ⟨rfl, hb1⟩; replace k2 := Held.below k2 hb1; replace k3 := Held.below k3 hb1; replace k4 := Held.below k4 hb1; replace k5 := Held.below k5 hb1; replace hbw := Below.step hbw hb1; clear hb1)
      | (go_at_call 35; (with_reducible refine (HHC.out _ hbw).mono ?_); rintro _ u2 ⟨rfl, hb2⟩; replace k2 := Held.below k2 hb2; replace k3 := Held.below k3 hb2; replace k4 := Held.below k4 hb2; replace k5 := Held.below k5 hb2; replace hbw := Below.step hbw hb2; clear hb2)
      | (guard_target = wpList _ _ _ (Oper.mk _ (Op.store 25 (.tmp 6) _) _ _ _ none :: _) _ _; refine wpList_store_row rfl 25 _ _ rfl (w.heap.size + 1 + 1 + 1) (pc A n c A2 m c2 p.most) rfl rfl _ _ k5 (by kernel_rfl) rfl (by simp [Value.oneCell']) ?_))
    have h9 := HFI.out _ hbw
    exact bodyPost_ret (results_ct0 rfl _ _ rfl rfl (load_pen (held_rowSelf k5 (pc A n c A2 m c2 p.most)) rfl)) rfl ⟨A, c, A2, c2, by simp only [HN.out, HM.out]; rfl, h9.1, h9.2⟩
  case true =>
  obtain ⟨j, hj, hr, -⟩ := has_yes HB2.out
  have HJ := Lib.hid hj
  have HR := Lib.hid (show r.1 = (j : Int) by rw [hr])
  rw [show setZ p r f = (⟨p.cells.set j ⟨r.2, true, f⟩, p.free, p.most⟩, 0) by unfold setZ; rw [if_neg (by rw [HB1.out]; decide), if_neg (by rw [HB2.out]; decide), HR.out, Int.toNat_natCast]]
  clear hj hr
  go_enter Try.func15, Try.ntmps15
  go_upto_region 1 with (guard_target = wpList _ _ _ (Oper.mk (some 5) _ _ _ _ none :: _) _ _; refine wpList_box_arr rfl 35 _ rfl (fcA f (.slice Ax1 f.stk.length cx1) (.slice Ax2 f.loc.length cx2) (.slice Ax3 f.slt.length cx3)) rfl ?_)
  generalize ((((w.alloc (.cells (pc A n c A2 m c2 p.most) 25)).alloc (.cells (refc r.1 r.2) 27)).alloc (.cells (fcA f (.slice Ax1 f.stk.length cx1) (.slice Ax2 f.loc.length cx2) (.slice Ax3 f.slt.length cx3)) 35)).alloc (.cells pz0 25)) = W0 at *
  go_upto_region 5 with (first
    | (guard_target = wpList _ _ _ (Oper.mk (some 9) _ _ _ _ none :: _) _ _; refine wpList_load_row rfl 25 _ rfl w.heap.size rfl _ _ _ _ k2 Try.underlying25 rfl (by kernel_rfl) ?_)
    | (guard_target = wpList _ _ _ (Oper.mk (some 12) _ _ _ _ none :: _) _ _; refine wpList_load_row rfl 25 _ rfl w.heap.size rfl _ _ _ _ k2 Try.underlying25 rfl (by kernel_rfl) ?_)
    | (guard_target = wpList _ _ _ (Oper.mk (some 13) _ _ _ _ none :: _) _ _; refine wpList_load_row rfl 25 _ rfl w.heap.size rfl _ _ _ _ k2 Try.underlying25 rfl (by kernel_rfl) ?_)
    | (guard_target = wpList _ _ _ (Oper.mk (some 14) _ _ _ _ none :: _) _ _; refine wpList_load_row rfl 27 _ rfl (w.heap.size + 1) rfl _ _ _ _ k3 Try.underlying27 rfl (by kernel_rfl) ?_)
    | (guard_target = wpList _ _ _ (Oper.mk (some 17) _ _ _ _ none :: _) _ _; refine wpList_load_row rfl 25 _ rfl w.heap.size rfl _ _ _ _ k2 Try.underlying25 rfl (by kernel_rfl) ?_)
    | (guard_target = wpList _ _ _ (Oper.mk (some 18) _ _ _ _ none :: _) _ _; refine wpList_load_row rfl 25 _ rfl w.heap.size rfl _ _ _ _ k2 Try.underlying25 rfl (by kernel_rfl) ?_)
    | (go_at_call 28; (with_reducible refine (HMC.out _ hbw).mono ?_); rintro _ u1 ⟨rfl, hb1⟩; replace k2 := Held.below k2 hb1; replace k3 := Held.below k3 hb1; replace k4 := Held.below k4 hb1; replace k5 := Held.below k5 hb1; replace hbw := Below.step hbw hb1; clear hb1)
    | (go_at_call 35; (with_reducible refine (HHC.out _ hbw).mono ?_); rintro _ u2 ⟨rfl, hb2⟩; replace k2 := Held.below k2 hb2; replace k3 := Held.below k3 hb2; replace k4 := Held.below k4 hb2; replace k5 := Held.below k5 hb2; replace hbw := Below.step hbw hb2; clear hb2))
  have hp9 := HP.out.1.below hbw HP.out.2
  have hB9 := Nat.le_trans HP.out.2 hbw.size
  go_upto_region 6 with (first
    | (guard_target = wpList _ _ _ (Oper.mk (some 18) _ _ _ _ none :: _) _ _; refine wpList_load_row rfl 25 _ rfl w.heap.size rfl _ _ _ _ k2 Try.underlying25 rfl (by kernel_rfl) ?_)
    | (go_at_call 32; (with_reducible refine (copied_z c c2 _ HN.out HM.out hp9 HL.out hB9).mono ?_); rintro _ u ⟨A9, c9, B9, d9, rfl, hrow, hb⟩; have hD := Held.lt k5; replace k2 := Held.below k2 hb; replace k3 := Held.below k3 hb; replace k4 := Held.below k4 hb; replace k5 := Held.below k5 hb; replace hbw := Below.step hbw hb; have hbA := ((Below.refl _ _).alloc (Nat.le_refl _) _ : Below u.heap.size u (u.alloc (.cells pz0 25))); have kn := Held.new u 25 pz0)
    | (guard_target = wpList _ _ _ (Oper.mk _ (Op.store 25 (.tmp 8) _) _ _ _ none :: _) _ _; refine wpList_store_row rfl 25 _ _ rfl u.heap.size (pc A9 n c9 B9 m d9 p.most) rfl rfl _ _ kn (by kernel_rfl) rfl (by simp [Value.oneCell']) ?_))
  have hb2 : Below u.heap.size u ((u.alloc (.cells pz0 25)).setRow u.heap.size (pc A9 n c9 B9 m d9 p.most)) := below_setRow hbA (Nat.le_refl _) _
  have hBu : B ≤ u.heap.size := Nat.le_trans hB9 hb.size
  obtain ⟨g, rfl, -⟩ := hrow.form HJ.out
  have hg := hrow.ge
  have hrow1 := hrow.below (F' := FrmAt ((u.alloc (.cells pz0 25)).setRow u.heap.size (pc (some ⟨g, 0, none⟩) n c9 B9 m d9 p.most)) B) hb2 (fun v f h => h.below hb2 hBu)
  have kn1 := held_rowSelf kn (pc (some ⟨g, 0, none⟩) n c9 B9 m d9 p.most)
  replace k2 := Held.below k2 hb2
  replace k3 := Held.below k3 hb2
  replace k4 := Held.below k4 hb2
  have h5u := Held.lt k5
  replace k5 := Held.below k5 hb2
  replace hbw := Below.step hbw hb2
  have hgV : u.heap.size ≠ g := by omega
  have hwg : w.heap.size ≤ g := by omega
  have hg5 : w.heap.size + 1 + 1 + 1 ≠ g := by omega
  clear hrow kn hbA hb2 hBu hp9 hB9 hb hg hD
  generalize World.setRow _ u.heap.size _ = W1 at *
  generalize u.heap.size = gV at *
  have x0 := kn1.cell 0
  have y0 := k3.cell 0
  have y1 := k3.cell 1
  simp [HR.out] at x0 y0 y1
  have hj0 : (0 : Int) ≤ j := by omega
  have hjn : (j : Int) < n := by have := HN.out; have := HJ.out; omega
  have hnI : (n : Int) ≤ 3000 := by omega
  have HT := Lib.hid (hrow1.there HJ.out)
  have HRW := Lib.hid hrow1
  have ON : Hid ((celv ⟨r.2, true, f⟩ (fcA f (.slice Ax1 f.stk.length cx1) (.slice Ax2 f.loc.length cx2) (.slice Ax3 f.slt.length cx3))).toArray.all (·.oneCell') = true) := Lib.hid (by simp [Value.oneCell'])
  clear hrow1
  go_upto_region 7 with (first
    | (guard_target = wpList _ _ _ (Oper.mk (some 26) _ _ _ _ none :: _) _ _; refine wpList_load_row rfl 35 _ rfl (w.heap.size + 1 + 1) rfl _ _ _ _ k4 Try.underlying35 rfl (by kernel_rfl) ?_)
    | (guard_target = wpList _ _ _ (Oper.mk none (Op.store 62 (.tmp 28) _) _ _ _ none :: _) _ _; refine wpList_store_mid rfl 62 _ _ rfl g (j * 18) (celv ⟨r.2, true, f⟩ (fcA f (.slice Ax1 f.stk.length cx1) (.slice Ax2 f.loc.length cx2) (.slice Ax3 f.slt.length cx3))).toArray rfl rfl HT.out (by kernel_rfl) ON.out ?_))
  have hlow : Below w.heap.size W1 (W1.setCells g (j * 18) (celv ⟨r.2, true, f⟩ (fcA f (.slice Ax1 f.stk.length cx1) (.slice Ax2 f.loc.length cx2) (.slice Ax3 f.slt.length cx3)))) := below_setCells (Below.refl _ _) hwg _ _
  have hbw6 := hbw.trans hlow
  have hrow6 := HRW.out.setc (F' := FrmAt (W1.setCells g (j * 18) (celv ⟨r.2, true, f⟩ (fcA f (.slice Ax1 f.stk.length cx1) (.slice Ax2 f.loc.length cx2) (.slice Ax3 f.slt.length cx3)))) w.heap.size) HJ.out (x := ⟨r.2, true, f⟩) (cs := (fcA f (.slice Ax1 f.stk.length cx1) (.slice Ax2 f.loc.length cx2) (.slice Ax3 f.slt.length cx3))) rfl (by simp [Value.oneCell']) ((HF.out.1.below hbw6 HF.out.2).more HF.out.2) (fun v f h => (h.below hlow HP.out.2).more HP.out.2)
  have kn2 : Held (W1.setCells g (j * 18) (celv ⟨r.2, true, f⟩ (fcA f (.slice Ax1 f.stk.length cx1) (.slice Ax2 f.loc.length cx2) (.slice Ax3 f.slt.length cx3)))) gV 25 (pc (some ⟨g, 0, none⟩) n c9 B9 m d9 p.most) := (setCells_far _ _ _ _ _ hgV).trans kn1
  have k52 : Held (W1.setCells g (j * 18) (celv ⟨r.2, true, f⟩ (fcA f (.slice Ax1 f.stk.length cx1) (.slice Ax2 f.loc.length cx2) (.slice Ax3 f.slt.length cx3)))) (w.heap.size + 1 + 1 + 1) 25 pz0 := (setCells_far _ _ _ _ _ hg5).trans k5
  clear hlow HT ON
  generalize W1.setCells g (j * 18) (celv ⟨r.2, true, f⟩ (fcA f (.slice Ax1 f.stk.length cx1) (.slice Ax2 f.loc.length cx2) (.slice Ax3 f.slt.length cx3))) = W6 at *
  clear x0 y0 y1
  go_wp2_with (first
    | (guard_target = wpList _ _ _ (Oper.mk (some 29) _ _ _ _ none :: _) _ _; refine wpList_load_row rfl 25 _ rfl gV rfl _ _ _ _ kn2 Try.underlying25 rfl (by kernel_rfl) ?_)
    | (guard_target = wpList _ _ _ (Oper.mk _ (Op.store 25 (.tmp 6) _) _ _ _ none :: _) _ _; refine wpList_store_row rfl 25 _ _ rfl (w.heap.size + 1 + 1 + 1) (pc (some ⟨g, 0, none⟩) n c9 B9 m d9 p.most) rfl rfl _ _ k52 (by kernel_rfl) rfl (by simp [Value.oneCell']) ?_))
  have h9 := below_setRow hbw6 (show w.heap.size ≤ (w.heap.size + 1 + 1 + 1) by omega) (pc (some ⟨g, 0, none⟩) n c9 B9 m d9 p.most)
  have hrow7 := hrow6.kt (F' := FrmAt (W6.setRow (w.heap.size + 1 + 1 + 1) (pc (some ⟨g, 0, none⟩) n c9 B9 m d9 p.most)) w.heap.size) (kt_row k52 (pc (some ⟨g, 0, none⟩) n c9 B9 m d9 p.most)) (by decide) (by decide) (fun v f h => h.below (C := w.heap.size) (below_setRow (Below.refl _ _) (by omega) _) (Nat.le_refl _))
  exact bodyPost_ret (results_ct0 rfl _ _ rfl rfl (load_pen (held_rowSelf k52 (pc (some ⟨g, 0, none⟩) n c9 B9 m d9 p.most)) rfl)) rfl ⟨_, _, _, _, by simp only [List.length_set, HN.out, HM.out]; rfl, hrow7.at h9.size, h9⟩
end Go.Proofs.Ytkpjlobpaippdaa
