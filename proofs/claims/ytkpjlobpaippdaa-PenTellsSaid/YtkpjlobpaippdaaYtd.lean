/- Layer 12: the document's Drop. -/
import Derived.Test.YtkpjlobpaippdaaYt
import Derived.Test.YtkpjlobpaippdaaYq2
namespace Go.Proofs.Ytkpjlobpaippdaa
set_option linter.unusedVariables false
set_option linter.unusedSimpArgs false
open Go.RowKit Go.ChangeShapes Go.WideShapes Go.ChangeAt Go.Sort

set_option maxHeartbeats 4000000 in
set_option maxRecDepth 100000 in
theorem rdrop_z {A A2 : Option Addr} {p : Zp} {B n m : Nat} (c c2 : Nat) (r : V) (w : World) (hn : p.cells.length = n) (hm : p.free.length = m) (h : PAtZ w B A A2 p) (hl : LenZ p) (hB : B ≤ w.heap.size) :
    Calls Try.prog 17 #[pv A n c A2 m c2 p.most, gv r.1 r.2] w (PenR w (dropZ p r)) := by
  have hbw : Below w.heap.size w (((w.alloc (.cells (pc A n c A2 m c2 p.most) 25)).alloc (.cells (refc r.1 r.2) 27)).alloc (.cells pz0 25)) := below3 w _ _ _
  have k2 : Held (((w.alloc (.cells (pc A n c A2 m c2 p.most) 25)).alloc (.cells (refc r.1 r.2) 27)).alloc (.cells pz0 25)) w.heap.size 25 (pc A n c A2 m c2 p.most) := ((Held.new w 25 (pc A n c A2 m c2 p.most)).alloc _).alloc _
  have k3 : Held (((w.alloc (.cells (pc A n c A2 m c2 p.most) 25)).alloc (.cells (refc r.1 r.2) 27)).alloc (.cells pz0 25)) (w.heap.size + 1) 27 (refc r.1 r.2) := (Held.new1 w (.cells (pc A n c A2 m c2 p.most) 25) 27 (refc r.1 r.2)).alloc _
  have k5 : Held (((w.alloc (.cells (pc A n c A2 m c2 p.most) 25)).alloc (.cells (refc r.1 r.2) 27)).alloc (.cells pz0 25)) (w.heap.size + 1 + 1) 25 pz0 := Held.new2 w (.cells (pc A n c A2 m c2 p.most) 25) (.cells (refc r.1 r.2) 27) 25 pz0
  have HN := Lib.hid hn
  have HM := Lib.hid hm
  have HL := Lib.hid hl
  have HP := Lib.hid (And.intro h hB)
  have hn1 : n ≤ 3000 := by have := hl.cells; omega
  have hm1 : m ≤ 100000 := by have := hl.free; omega
  have PB : ∀ W, Below w.heap.size w W → B ≤ W.heap.size ∧ PAtZ W B A A2 p := fun W hb => ⟨Nat.le_trans HP.out.2 hb.size, HP.out.1.below hb HP.out.2⟩
  obtain ⟨b1, hb1⟩ : ∃ b, okZ p = b := ⟨_, rfl⟩
  obtain ⟨b2, hb2⟩ : ∃ b, hasZ p r = b := ⟨_, rfl⟩
  have MC : ∀ W, Below w.heap.size w W → Calls Try.prog 28 #[pv A n c A2 m c2 p.most] W fun e w' => e = .returned (.bool b1) ∧ Below W.heap.size W w' := fun W hb => by
    have := rmay_z c c2 W HN.out HM.out (PB W hb).2 (by omega) hm1 (PB W hb).1
    rw [hb1] at this
    exact this
  have HC : ∀ W, Below w.heap.size w W → Calls Try.prog 35 #[pv A n c A2 m c2 p.most, gv r.1 r.2] W fun e w' => e = .returned (.bool b2) ∧ Below W.heap.size W w' := fun W hb => by
    have := rhas_z c c2 (m := m) (t := p.most) r W HN.out (PB W hb).2 (PB W hb).1 hn1
    rw [hb2] at this
    exact this
  have HMC := Lib.hid MC
  have HHC := Lib.hid HC
  have HB1 := Lib.hid hb1
  have HB2 := Lib.hid hb2
  clear h hn hm hl hB MC HC hb1 hb2
  have FIN : ∀ W, Below w.heap.size w W → PAtZ (W.setRow (w.heap.size + 1 + 1) (pc A n c A2 m c2 p.most)) (W.setRow (w.heap.size + 1 + 1) (pc A n c A2 m c2 p.most)).heap.size A A2 p ∧ Below w.heap.size w (W.setRow (w.heap.size + 1 + 1) (pc A n c A2 m c2 p.most)) := fun W hb => by
    have h9 := below_setRow hb (show w.heap.size ≤ (w.heap.size + 1 + 1) by omega) (pc A n c A2 m c2 p.most)
    exact ⟨((HP.out.1.below h9 HP.out.2).more (Nat.le_trans HP.out.2 h9.size)), h9⟩
  have HFI := Lib.hid FIN
  clear FIN PB
  cases b1
  case false =>
    rw [show dropZ p r = (p, 1) by unfold dropZ; rw [if_pos HB1.out]]
    go_enter Try.func17, Try.ntmps17
    go_upto_region 1 with (fail)
    generalize (((w.alloc (.cells (pc A n c A2 m c2 p.most) 25)).alloc (.cells (refc r.1 r.2) 27)).alloc (.cells pz0 25)) = W0 at *
    go_wp2_with (first
      | (guard_target = wpList _ _ _ (Oper.mk (some 7) _ _ _ _ none :: _) _ _; refine wpList_load_row rfl 25 _ rfl w.heap.size rfl _ _ _ _ k2 Try.underlying25 rfl (by kernel_rfl) ?_)
      | (guard_target = wpList _ _ _ (Oper.mk (some 10) _ _ _ _ none :: _) _ _; refine wpList_load_row rfl 25 _ rfl w.heap.size rfl _ _ _ _ k2 Try.underlying25 rfl (by kernel_rfl) ?_)
      | (guard_target = wpList _ _ _ (Oper.mk (some 11) _ _ _ _ none :: _) _ _; refine wpList_load_row rfl 25 _ rfl w.heap.size rfl _ _ _ _ k2 Try.underlying25 rfl (by kernel_rfl) ?_)
      | (guard_target = wpList _ _ _ (Oper.mk (some 12) _ _ _ _ none :: _) _ _; refine wpList_load_row rfl 27 _ rfl (w.heap.size + 1) rfl _ _ _ _ k3 Try.underlying27 rfl (by kernel_rfl) ?_)
      | (guard_target = wpList _ _ _ (Oper.mk (some 15) _ _ _ _ none :: _) _ _; refine wpList_load_row rfl 25 _ rfl w.heap.size rfl _ _ _ _ k2 Try.underlying25 rfl (by kernel_rfl) ?_)
      | (guard_target = wpList _ _ _ (Oper.mk (some 16) _ _ _ _ none :: _) _ _; refine wpList_load_row rfl 25 _ rfl w.heap.size rfl _ _ _ _ k2 Try.underlying25 rfl (by kernel_rfl) ?_)
      | (go_at_call 28; (with_reducible refine (HMC.out _ hbw).mono ?_); rintro _ u1 ⟨rfl, hb1⟩; replace k2 := Held.below k2 hb1; replace k3 := Held.below k3 hb1; replace k5 := Held.below k5 hb1; replace hbw := Below.step hbw hb1; clear hb1)
      | (go_at_call 35; (with_reducible refine (HHC.out _ hbw).mono ?_); rintro _ u2 ⟨rfl, hb2⟩; replace k2 := Held.below k2 hb2; replace k3 := Held.below k3 hb2; replace k5 := Held.below k5 hb2; replace hbw := Below.step hbw hb2; clear hb2)
      | (guard_target = wpList _ _ _ (Oper.mk _ (Op.store 25 (.tmp 4) _) _ _ _ none :: _) _ _; refine wpList_store_row rfl 25 _ _ rfl (w.heap.size + 1 + 1) (pc A n c A2 m c2 p.most) rfl rfl _ _ k5 (by kernel_rfl) rfl (by simp [Value.oneCell']) ?_))
    have h9 := HFI.out _ hbw
    exact bodyPost_ret (results_ct0 rfl _ _ rfl rfl (load_pen (held_rowSelf k5 (pc A n c A2 m c2 p.most)) rfl)) rfl ⟨A, c, A2, c2, by simp only [HN.out, HM.out]; rfl, h9.1, h9.2⟩
  case true =>
  cases b2
  case false =>
    rw [show dropZ p r = (p, 121) by unfold dropZ; rw [if_neg (by rw [HB1.out]; decide), if_pos HB2.out]]
    go_enter Try.func17, Try.ntmps17
    go_upto_region 1 with (fail)
    generalize (((w.alloc (.cells (pc A n c A2 m c2 p.most) 25)).alloc (.cells (refc r.1 r.2) 27)).alloc (.cells pz0 25)) = W0 at *
    go_wp2_with (first
      | (guard_target = wpList _ _ _ (Oper.mk (some 7) _ _ _ _ none :: _) _ _; refine wpList_load_row rfl 25 _ rfl w.heap.size rfl _ _ _ _ k2 Try.underlying25 rfl (by kernel_rfl) ?_)
      | (guard_target = wpList _ _ _ (Oper.mk (some 10) _ _ _ _ none :: _) _ _; refine wpList_load_row rfl 25 _ rfl w.heap.size rfl _ _ _ _ k2 Try.underlying25 rfl (by kernel_rfl) ?_)
      | (guard_target = wpList _ _ _ (Oper.mk (some 11) _ _ _ _ none :: _) _ _; refine wpList_load_row rfl 25 _ rfl w.heap.size rfl _ _ _ _ k2 Try.underlying25 rfl (by kernel_rfl) ?_)
      | (guard_target = wpList _ _ _ (Oper.mk (some 12) _ _ _ _ none :: _) _ _; refine wpList_load_row rfl 27 _ rfl (w.heap.size + 1) rfl _ _ _ _ k3 Try.underlying27 rfl (by kernel_rfl) ?_)
      | (guard_target = wpList _ _ _ (Oper.mk (some 15) _ _ _ _ none :: _) _ _; refine wpList_load_row rfl 25 _ rfl w.heap.size rfl _ _ _ _ k2 Try.underlying25 rfl (by kernel_rfl) ?_)
      | (guard_target = wpList _ _ _ (Oper.mk (some 16) _ _ _ _ none :: _) _ _; refine wpList_load_row rfl 25 _ rfl w.heap.size rfl _ _ _ _ k2 Try.underlying25 rfl (by kernel_rfl) ?_)
      | (go_at_call 28; (with_reducible refine (HMC.out _ hbw).mono ?_); rintro _ u1 ⟨rfl, hb1⟩; replace k2 := Held.below k2 hb1; replace k3 := Held.below k3 hb1; replace k5 := Held.below k5 hb1; replace hbw := Below.step hbw hb1; clear hb1)
      | (go_at_call 35; (with_reducible refine (HHC.out _ hbw).mono ?_); rintro _ u2 ⟨rfl, hb2⟩; replace k2 := Held.below k2 hb2; replace k3 := Held.below k3 hb2; replace k5 := Held.below k5 hb2; replace hbw := Below.step hbw hb2; clear hb2)
      | (guard_target = wpList _ _ _ (Oper.mk _ (Op.store 25 (.tmp 4) _) _ _ _ none :: _) _ _; refine wpList_store_row rfl 25 _ _ rfl (w.heap.size + 1 + 1) (pc A n c A2 m c2 p.most) rfl rfl _ _ k5 (by kernel_rfl) rfl (by simp [Value.oneCell']) ?_))
    have h9 := HFI.out _ hbw
    exact bodyPost_ret (results_ct0 rfl _ _ rfl rfl (load_pen (held_rowSelf k5 (pc A n c A2 m c2 p.most)) rfl)) rfl ⟨A, c, A2, c2, by simp only [HN.out, HM.out]; rfl, h9.1, h9.2⟩
  case true =>
  obtain ⟨j, hj, hr, -⟩ := has_yes HB2.out
  have HJ := Lib.hid hj
  have HR := Lib.hid (show r.1 = (j : Int) by rw [hr])
  have hok : 0 ≤ r.2 ∧ r.2 < 4294967296 := by
    have h8 := ((okZ_iff p).1 HB1.out).gen j hj
    rw [show r.2 = p.cells[j].gen from congrArg Prod.snd hr]
    exact h8
  rw [show dropZ p r = (⟨p.cells.set j ⟨(r.2 + 1) % 4294967296, false, frm0⟩, p.free ++ [(j : Int)], p.most⟩, 0) by unfold dropZ; rw [if_neg (by rw [HB1.out]; decide), if_neg (by rw [HB2.out]; decide), HR.out, Int.toNat_natCast]]
  clear hj hr
  go_enter Try.func17, Try.ntmps17
  go_upto_region 1 with (fail)
  generalize (((w.alloc (.cells (pc A n c A2 m c2 p.most) 25)).alloc (.cells (refc r.1 r.2) 27)).alloc (.cells pz0 25)) = W0 at *
  go_upto_region 5 with (first
    | (guard_target = wpList _ _ _ (Oper.mk (some 7) _ _ _ _ none :: _) _ _; refine wpList_load_row rfl 25 _ rfl w.heap.size rfl _ _ _ _ k2 Try.underlying25 rfl (by kernel_rfl) ?_)
    | (guard_target = wpList _ _ _ (Oper.mk (some 10) _ _ _ _ none :: _) _ _; refine wpList_load_row rfl 25 _ rfl w.heap.size rfl _ _ _ _ k2 Try.underlying25 rfl (by kernel_rfl) ?_)
    | (guard_target = wpList _ _ _ (Oper.mk (some 11) _ _ _ _ none :: _) _ _; refine wpList_load_row rfl 25 _ rfl w.heap.size rfl _ _ _ _ k2 Try.underlying25 rfl (by kernel_rfl) ?_)
    | (guard_target = wpList _ _ _ (Oper.mk (some 12) _ _ _ _ none :: _) _ _; refine wpList_load_row rfl 27 _ rfl (w.heap.size + 1) rfl _ _ _ _ k3 Try.underlying27 rfl (by kernel_rfl) ?_)
    | (guard_target = wpList _ _ _ (Oper.mk (some 15) _ _ _ _ none :: _) _ _; refine wpList_load_row rfl 25 _ rfl w.heap.size rfl _ _ _ _ k2 Try.underlying25 rfl (by kernel_rfl) ?_)
    | (guard_target = wpList _ _ _ (Oper.mk (some 16) _ _ _ _ none :: _) _ _; refine wpList_load_row rfl 25 _ rfl w.heap.size rfl _ _ _ _ k2 Try.underlying25 rfl (by kernel_rfl) ?_)
    | (go_at_call 28; (with_reducible refine (HMC.out _ hbw).mono ?_); rintro _ u1 ⟨rfl, hb1⟩; replace k2 := Held.below k2 hb1; replace k3 := Held.below k3 hb1; replace k5 := Held.below k5 hb1; replace hbw := Below.step hbw hb1; clear hb1)
    | (go_at_call 35; (with_reducible refine (HHC.out _ hbw).mono ?_); rintro _ u2 ⟨rfl, hb2⟩; replace k2 := Held.below k2 hb2; replace k3 := Held.below k3 hb2; replace k5 := Held.below k5 hb2; replace hbw := Below.step hbw hb2; clear hb2))
  have hp9 := HP.out.1.below hbw HP.out.2
  have hB9 := Nat.le_trans HP.out.2 hbw.size
  go_upto_region 6 with (first
    | (guard_target = wpList _ _ _ (Oper.mk (some 16) _ _ _ _ none :: _) _ _; refine wpList_load_row rfl 25 _ rfl w.heap.size rfl _ _ _ _ k2 Try.underlying25 rfl (by kernel_rfl) ?_)
    | (go_at_call 32; (with_reducible refine (copied_z c c2 _ HN.out HM.out hp9 HL.out hB9).mono ?_); rintro _ u ⟨A9, c9, B9, d9, rfl, hrow, hb⟩; have hD := Held.lt k5; replace k2 := Held.below k2 hb; replace k3 := Held.below k3 hb; replace k5 := Held.below k5 hb; replace hbw := Below.step hbw hb; have hbA := ((Below.refl _ _).alloc (Nat.le_refl _) _ : Below u.heap.size u (u.alloc (.cells pz0 25))); have kn := Held.new u 25 pz0)
    | (guard_target = wpList _ _ _ (Oper.mk _ (Op.store 25 (.tmp 6) _) _ _ _ none :: _) _ _; refine wpList_store_row rfl 25 _ _ rfl u.heap.size (pc A9 n c9 B9 m d9 p.most) rfl rfl _ _ kn (by kernel_rfl) rfl (by simp [Value.oneCell']) ?_))
  have hb2 : Below u.heap.size u ((u.alloc (.cells pz0 25)).setRow u.heap.size (pc A9 n c9 B9 m d9 p.most)) := below_setRow hbA (Nat.le_refl _) _
  have hBu : B ≤ u.heap.size := Nat.le_trans hB9 hb.size
  obtain ⟨g, rfl, -⟩ := hrow.form HJ.out
  have hg := hrow.ge
  have hrow1 := hrow.below (F' := FrmAt ((u.alloc (.cells pz0 25)).setRow u.heap.size (pc (some ⟨g, 0, none⟩) n c9 B9 m d9 p.most)) B) hb2 (fun v f h => h.below hb2 hBu)
  have kn1 := held_rowSelf kn (pc (some ⟨g, 0, none⟩) n c9 B9 m d9 p.most)
  replace k2 := Held.below k2 hb2
  replace k3 := Held.below k3 hb2
  have h5u := Held.lt k5
  replace k5 := Held.below k5 hb2
  replace hbw := Below.step hbw hb2
  have hgV : u.heap.size ≠ g := by omega
  have hwg : w.heap.size ≤ g := by omega
  have hg5 : w.heap.size + 1 + 1 ≠ g := by omega
  have hg3 : w.heap.size + 1 ≠ g := by omega
  have hfV : ∀ q, Value.ownBlock (.slice B9 m d9) = some q → w.heap.size + 1 + 1 < q ∧ q < u.heap.size := fun q e => by
    rw [← HM.out] at e
    have := hrow.free.lt q e
    omega
  have HFV := Lib.hid hfV
  clear hfV
  have h5V := h5u
  clear hrow kn hbA hb2 hBu hp9 hB9 hb hg
  generalize World.setRow _ u.heap.size _ = W1 at *
  generalize u.heap.size = gV at *
  have x0 := kn1.cell 0
  have y0 := k3.cell 0
  have y1 := k3.cell 1
  simp [HR.out] at x0 y0 y1
  have hj0 : (0 : Int) ≤ j := by omega
  have hjn : (j : Int) < n := by have := HN.out; have := HJ.out; omega
  have hnI : (n : Int) ≤ 3000 := by omega
  have hm9 : Int.tmod (r.2 + 1) 4294967296 = (r.2 + 1) % 4294967296 := Int.tmod_eq_emod_of_nonneg (by omega)
  have hm0 : 0 ≤ (r.2 + 1) % 4294967296 := Int.emod_nonneg _ (by omega)
  have hm2 : (r.2 + 1) % 4294967296 < 4294967296 := Int.emod_lt_of_pos _ (by omega)
  generalize (r.2 + 1) % 4294967296 = yy at *
  have HT := Lib.hid (hrow1.there HJ.out)
  have HRW := Lib.hid hrow1
  have ON : Hid ((celv ⟨yy, false, frm0⟩ fzc).toArray.all (·.oneCell') = true) := Lib.hid (by simp [Value.oneCell'])
  clear hrow1
  go_upto_region 7 with (first
    | (guard_target = wpList _ _ _ (Oper.mk none (Op.store 62 (.tmp 27) _) _ _ _ none :: _) _ _; refine wpList_store_mid rfl 62 _ _ rfl g (j * 18) (celv ⟨yy, false, frm0⟩ fzc).toArray rfl rfl HT.out (by kernel_rfl) ON.out ?_))
  have hlow : Below w.heap.size W1 (W1.setCells g (j * 18) (celv ⟨yy, false, frm0⟩ fzc)) := below_setCells (Below.refl _ _) hwg _ _
  have hbw6 := hbw.trans hlow
  have hrow6 := HRW.out.setc (F' := FrmAt (W1.setCells g (j * 18) (celv ⟨yy, false, frm0⟩ fzc)) w.heap.size) HJ.out (x := ⟨yy, false, frm0⟩) (cs := fzc) rfl (by simp [Value.oneCell']) (frm0_at _ _) (fun v f h => (h.below hlow HP.out.2).more HP.out.2)
  have kn2 : Held (W1.setCells g (j * 18) (celv ⟨yy, false, frm0⟩ fzc)) gV 25 (pc (some ⟨g, 0, none⟩) n c9 B9 m d9 p.most) := (setCells_far _ _ _ _ _ hgV).trans kn1
  have k52 : Held (W1.setCells g (j * 18) (celv ⟨yy, false, frm0⟩ fzc)) (w.heap.size + 1 + 1) 25 pz0 := (setCells_far _ _ _ _ _ hg5).trans k5
  have k32 : Held (W1.setCells g (j * 18) (celv ⟨yy, false, frm0⟩ fzc)) (w.heap.size + 1) 27 (refc r.1 r.2) := (setCells_far _ _ _ _ _ hg3).trans k3
  clear hlow HT ON y0 y1 x0 hm9 hm0 hm2 k2 k3 k5 kn1
  generalize W1.setCells g (j * 18) (celv ⟨yy, false, frm0⟩ fzc) = W6 at *
  have x1 := kn2.cell 1
  have y0 := k32.cell 0
  simp [HR.out] at x1 y0
  have hbA : Below W6.heap.size W6 (W6.alloc (.cells #[.int .i64 (j : Int)] 3)) := (Below.refl _ _).alloc (Nat.le_refl _) _
  have hwD : w.heap.size ≤ W6.heap.size := hbw6.size
  have hrc0 : RowC W6 w.heap.size w.heap.size (some ⟨g, 0, none⟩) n c9 (p.cells.set j ⟨yy, false, frm0⟩) := by
    obtain ⟨xs, q1, q2⟩ := hrow6.cells
    refine ⟨xs, ?_, q2⟩
    rw [← HN.out, ← List.length_set (i := j) (a := (⟨yy, false, frm0⟩ : Cel))]
    exact row_mono q1 (by omega)
  have hrc1 := hrc0.below hbA hwD
  have hfr1 : OwnI (W6.alloc (.cells #[.int .i64 (j : Int)] 3)) w.heap.size (.slice B9 m d9) p.free := by
    have h8 := r_later hrow6.free hbA
    rw [← HM.out]
    exact row_mono h8 (by omega)
  have HRC := Lib.hid hrc1
  have HFR := Lib.hid hfr1
  have HVA := Lib.hid (one1_at (t := 3) (w := W6) (j : Int))
  have HLW := Lib.hid (Below.step hbw6 hbA)
  have G2 := Lib.hid (Held.below kn2 hbA)
  have G4 := Lib.hid (Held.below k52 hbA)
  have HFL := Lib.hid (show p.free.length + 1 ≤ 10000 by have := HL.out.free; omega)
  clear hbA hrc0 hrc1 hfr1 kn2 k52 k32 hrow6 hbw6 hwD
  go_upto_region 8 with (at_builtin; refine wpList_append_is (k := [(j : Int)]) (n := 1) rfl _ _ rfl w.heap.size _ p.free rfl HFR.out rfl rfl HVA.out (Nat.le_refl _) (by have := HFL.out; omega) HLW.out.size ?_; intro A7 m7 c7 u7 hm7 k1 k2; have HM7 := Lib.hid hm7; clear hm7; have g9 := held_grown G2.out k2 (fun e => by have := HFV.out _ e; omega); have x1 := g9.cell 1; have z1 := g9.fz 1; simp at x1)
  have hm9 : (p.free ++ [(j : Int)]).length = m7 := by rw [HM7.out]; simp
  have hkI := kt_own HFR.out k2
  have hbl2 := below_grown k2 (fun q e => (HFR.out.lt q e).1) HLW.out.size
  have hcl := HRC.out.turn hkI tyCel hbl2 (Nat.le_refl _)
  have K2 := g9.set_at 1 (.slice A7 m7 c7)
  have K4 := (held_grown G4.out k2 (fun e => by have := HFV.out _ e; omega)).far (show w.heap.size + 1 + 1 ≠ gV by omega) 1 (.slice A7 m7 c7)
  have hlow9 := (HLW.out.trans hbl2).setCell (p := ⟨gV, 1, none⟩) (show w.heap.size ≤ gV by omega) (.slice A7 m7 c7)
  have hlow8 := (Below.refl w.heap.size u7).setCell (p := ⟨gV, 1, none⟩) (show w.heap.size ≤ gV by omega) (.slice A7 m7 c7)
  have hkP : KTy u7 (u7.setCell ⟨gV, 1, none⟩ (.slice A7 m7 c7)) 25 := fun g e cs fr hg hne => Below.heap_setCell u7 ⟨gV, 1, none⟩ _ g (fun e2 => by
    subst e2
    rw [Held, hg] at g9
    simp at g9
    exact hne g9.2.1)
  have k1' : OwnI u7 w.heap.size (.slice A7 (p.free ++ [(j : Int)]).length c7) (p.free ++ [(j : Int)]) := by rw [hm9]; exact k1
  have HC5 := Lib.hid (hcl.turn hkP (by decide) hlow8 (Nat.le_refl _))
  have HI5 := Lib.hid (row_kt k1' hkP (by decide))
  have HLL := Lib.hid hlow9
  clear hkI hcl k1 k1' k2 hlow9 hlow8 hkP g9 x1 z1 y0 hbl2
  generalize u7.setCell ⟨gV, 1, none⟩ (.slice A7 m7 c7) = W5 at *
  simp at K2
  have HM9 := Lib.hid hm9
  clear hm9 HM7
  go_wp2_with (first
    | (guard_target = wpList _ _ _ (Oper.mk (some 35) _ _ _ _ none :: _) _ _; refine wpList_load_row rfl 25 _ rfl gV rfl _ _ _ _ K2 Try.underlying25 rfl (by kernel_rfl) ?_)
    | (guard_target = wpList _ _ _ (Oper.mk _ (Op.store 25 (.tmp 4) _) _ _ _ none :: _) _ _; refine wpList_store_row rfl 25 _ _ rfl (w.heap.size + 1 + 1) (pc (some ⟨g, 0, none⟩) n c9 A7 m7 c7 p.most) rfl rfl _ _ K4 (by kernel_rfl) rfl (by simp [Value.oneCell']) ?_))
  have h9 := below_setRow HLL.out (show w.heap.size ≤ (w.heap.size + 1 + 1) by omega) (pc (some ⟨g, 0, none⟩) n c9 A7 m7 c7 p.most)
  have h8 := below_setRow (Below.refl w.heap.size W5) (show w.heap.size ≤ (w.heap.size + 1 + 1) by omega) (pc (some ⟨g, 0, none⟩) n c9 A7 m7 c7 p.most)
  exact bodyPost_ret (results_ct0 rfl _ _ rfl rfl (load_pen (held_rowSelf K4 (pc (some ⟨g, 0, none⟩) n c9 A7 m7 c7 p.most)) rfl)) rfl ⟨_, _, _, _, by simp only [List.length_set, HN.out, HM9.out]; rfl, ⟨(HC5.out.turn (kt_row K4 (pc (some ⟨g, 0, none⟩) n c9 A7 m7 c7 p.most)) (by decide) h8 (Nat.le_refl _)).at (by rw [List.length_set]; exact HN.out) h9.size, OwnI.at (row_kt HI5.out (kt_row K4 (pc (some ⟨g, 0, none⟩) n c9 A7 m7 c7 p.most)) (by decide))⟩, h9⟩
end Go.Proofs.Ytkpjlobpaippdaa
