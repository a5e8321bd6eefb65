/- Layer 12: the document's Lay, where it refuses. -/
import Derived.Test.YtkpjlobpaippdaaYt
import Derived.Test.YtkpjlobpaippdaaYz
import Derived.Test.YtkpjlobpaippdaaYl
namespace Go.Proofs.Ytkpjlobpaippdaa
set_option linter.unusedVariables false
set_option linter.unusedSimpArgs false
open Go.RowKit Go.ChangeShapes Go.WideShapes Go.ChangeAt Go.Sort

/-- What the document's Lay tells. -/
def LayR (w : World) (R : Zp × V × Int) (e : Ending) (w' : World) : Prop := ∃ A c A2 c2, e = .returned (.tuple #[pv A R.1.cells.length c A2 R.1.free.length c2 R.1.most, gv R.2.1.1 R.2.1.2, .int .i64 R.2.2]) ∧ PAtZ w' w'.heap.size A A2 R.1 ∧ Below w.heap.size w w'
set_option maxHeartbeats 4000000 in
set_option maxRecDepth 100000 in
theorem rlay_no {A A2 : Option Addr} {p : Zp} {B n m : Nat} {fs : Array Value} (c c2 : Nat) (w : World) (hn : p.cells.length = n) (hm : p.free.length = m) (h : PAtZ w B A A2 p) (hl : LenZ p) (hB : B ≤ w.heap.size) (hs : fs.size = 16) (hfn : fs.all (·.oneCell') = true) (hok : okZ p = false) :
    Calls Try.prog 13 #[pv A n c A2 m c2 p.most, .agg fs] w (LayR w (p, (0, 0), 1)) := by
  have hbw : Below w.heap.size w ((((w.alloc (.cells (pc A n c A2 m c2 p.most) 25)).alloc (.cells fs 35)).alloc (.cells pz0 25)).alloc (.cells (refc 0 0) 27)) := below4 w _ _ _ _
  have k2 : Held ((((w.alloc (.cells (pc A n c A2 m c2 p.most) 25)).alloc (.cells fs 35)).alloc (.cells pz0 25)).alloc (.cells (refc 0 0) 27)) w.heap.size 25 (pc A n c A2 m c2 p.most) := (((Held.new w 25 (pc A n c A2 m c2 p.most)).alloc _).alloc _).alloc _
  have k4 : Held ((((w.alloc (.cells (pc A n c A2 m c2 p.most) 25)).alloc (.cells fs 35)).alloc (.cells pz0 25)).alloc (.cells (refc 0 0) 27)) (w.heap.size + 1 + 1) 25 pz0 := (Held.new2 w (.cells (pc A n c A2 m c2 p.most) 25) (.cells fs 35) 25 pz0).alloc _
  have k5 : Held ((((w.alloc (.cells (pc A n c A2 m c2 p.most) 25)).alloc (.cells fs 35)).alloc (.cells pz0 25)).alloc (.cells (refc 0 0) 27)) (w.heap.size + 1 + 1 + 1) 27 (refc 0 0) := by
    have := Held.new2 (w.alloc (.cells (pc A n c A2 m c2 p.most) 25)) (.cells fs 35) (.cells pz0 25) 27 (refc 0 0)
    simpa using this
  have HN := Lib.hid hn
  have HM := Lib.hid hm
  have HL := Lib.hid hl
  have HP := Lib.hid (And.intro h hB)
  have hn1 : n ≤ 3000 := by have := hl.cells; omega
  have hm1 : m ≤ 100000 := by have := hl.free; omega
  have MC : ∀ W, Below w.heap.size w W → Calls Try.prog 28 #[pv A n c A2 m c2 p.most] W fun e w' => e = .returned (.bool (okZ p)) ∧ Below W.heap.size W w' := fun W hb => rmay_z c c2 W HN.out HM.out (HP.out.1.below hb HP.out.2) (by omega) hm1 (Nat.le_trans HP.out.2 hb.size)
  rw [hok] at MC
  have HMC := Lib.hid MC
  clear MC h hl hB hs hfn hn hm hok
  go_enter Try.func13, Try.ntmps13
  go_upto_region 1 with (guard_target = wpList _ _ _ (Oper.mk (some 3) _ _ _ _ none :: _) _ _; refine wpList_box_arr rfl 35 _ rfl fs rfl ?_)
  generalize ((((w.alloc (.cells (pc A n c A2 m c2 p.most) 25)).alloc (.cells fs 35)).alloc (.cells pz0 25)).alloc (.cells (refc 0 0) 27)) = W0 at *
  go_wp2_with (first
    | (guard_target = wpList _ _ _ (Oper.mk (some 10) _ _ _ _ none :: _) _ _; refine wpList_load_row rfl 25 _ rfl w.heap.size rfl _ _ _ _ k2 Try.underlying25 rfl (by kernel_rfl) ?_)
    | (go_at_call 28; (with_reducible refine (HMC.out _ hbw).mono ?_); rintro _ u1 ⟨rfl, hb1⟩; replace k2 := Held.below k2 hb1; replace k4 := Held.below k4 hb1; replace k5 := Held.below k5 hb1; replace hbw := Below.step hbw hb1; clear hb1)
    | (guard_target = wpList _ _ _ (Oper.mk (some 13) _ _ _ _ none :: _) _ _; refine wpList_load_row rfl 25 _ rfl w.heap.size rfl _ _ _ _ k2 Try.underlying25 rfl (by kernel_rfl) ?_)
    | (guard_target = wpList _ _ _ (Oper.mk _ (Op.store 25 (.tmp 4) _) _ _ _ none :: _) _ _; refine wpList_store_row rfl 25 _ _ rfl (w.heap.size + 1 + 1) (pc A n c A2 m c2 p.most) rfl rfl _ _ k4 (by kernel_rfl) rfl (by simp [Value.oneCell']) ?_)
    | (guard_target = wpList _ _ _ (Oper.mk _ (Op.store 27 (.tmp 5) _) _ _ _ none :: _) _ _; refine wpList_store_row rfl 27 _ _ rfl (w.heap.size + 1 + 1 + 1) (refc 0 0) rfl rfl _ _ (held_row k5 (show (w.heap.size + 1 + 1 + 1) ≠ (w.heap.size + 1 + 1) by omega) (pc A n c A2 m c2 p.most)) (by kernel_rfl) rfl (by simp [Value.oneCell']) ?_))
  have hA := below_setRow hbw (show w.heap.size ≤ (w.heap.size + 1 + 1) by omega) (pc A n c A2 m c2 p.most)
  have h9 := below_setRow hA (show w.heap.size ≤ (w.heap.size + 1 + 1 + 1) by omega) (refc 0 0)
  exact bodyPost_ret (results_cct rfl _ _ rfl rfl rfl (load_pen (held_row (held_rowSelf k4 (pc A n c A2 m c2 p.most)) (show (w.heap.size + 1 + 1) ≠ (w.heap.size + 1 + 1 + 1) by omega) (refc 0 0)) rfl) (load_ref (held_rowSelf (held_row k5 (show (w.heap.size + 1 + 1 + 1) ≠ (w.heap.size + 1 + 1) by omega) (pc A n c A2 m c2 p.most)) (refc 0 0)) rfl)) rfl ⟨A, c, A2, c2, by simp only [HN.out, HM.out]; rfl, (HP.out.1.below h9 HP.out.2).more (Nat.le_trans HP.out.2 h9.size), h9⟩
set_option maxHeartbeats 4000000 in
set_option maxRecDepth 100000 in
theorem rlay_full {A A2 : Option Addr} {p : Zp} {B n m : Nat} {fs : Array Value} (c c2 : Nat) (w : World) (hn : p.cells.length = n) (hm : p.free.length = m) (h : PAtZ w B A A2 p) (hl : LenZ p) (hB : B ≤ w.heap.size) (hs : fs.size = 16) (hfn : fs.all (·.oneCell') = true) (hok : okZ p = true) (hf0 : p.free = []) (hfull : (p.cells.length : Int) = p.most) :
    Calls Try.prog 13 #[pv A n c A2 m c2 p.most, .agg fs] w (LayR w (p, (0, 0), 120)) := by
  have hbw : Below w.heap.size w ((((w.alloc (.cells (pc A n c A2 m c2 p.most) 25)).alloc (.cells fs 35)).alloc (.cells pz0 25)).alloc (.cells (refc 0 0) 27)) := below4 w _ _ _ _
  have k2 : Held ((((w.alloc (.cells (pc A n c A2 m c2 p.most) 25)).alloc (.cells fs 35)).alloc (.cells pz0 25)).alloc (.cells (refc 0 0) 27)) w.heap.size 25 (pc A n c A2 m c2 p.most) := (((Held.new w 25 (pc A n c A2 m c2 p.most)).alloc _).alloc _).alloc _
  have k4 : Held ((((w.alloc (.cells (pc A n c A2 m c2 p.most) 25)).alloc (.cells fs 35)).alloc (.cells pz0 25)).alloc (.cells (refc 0 0) 27)) (w.heap.size + 1 + 1) 25 pz0 := (Held.new2 w (.cells (pc A n c A2 m c2 p.most) 25) (.cells fs 35) 25 pz0).alloc _
  have k5 : Held ((((w.alloc (.cells (pc A n c A2 m c2 p.most) 25)).alloc (.cells fs 35)).alloc (.cells pz0 25)).alloc (.cells (refc 0 0) 27)) (w.heap.size + 1 + 1 + 1) 27 (refc 0 0) := by
    have := Held.new2 (w.alloc (.cells (pc A n c A2 m c2 p.most) 25)) (.cells fs 35) (.cells pz0 25) 27 (refc 0 0)
    simpa using this
  have HN := Lib.hid hn
  have HM := Lib.hid hm
  have HL := Lib.hid hl
  have HP := Lib.hid (And.intro h hB)
  have hn1 : n ≤ 3000 := by have := hl.cells; omega
  have hm1 : m ≤ 100000 := by have := hl.free; omega
  have MC : ∀ W, Below w.heap.size w W → Calls Try.prog 28 #[pv A n c A2 m c2 p.most] W fun e w' => e = .returned (.bool (okZ p)) ∧ Below W.heap.size W w' := fun W hb => rmay_z c c2 W HN.out HM.out (HP.out.1.below hb HP.out.2) (by omega) hm1 (Nat.le_trans HP.out.2 hb.size)
  obtain rfl : m = 0 := by rw [← hm, hf0]; rfl
  have hmo : p.most = (n : Int) := by rw [← hfull, hn]
  have HMO := Lib.hid hmo
  clear hf0 hfull hmo
  rw [hok] at MC
  have HMC := Lib.hid MC
  clear MC h hl hB hs hfn hn hm hok
  go_enter Try.func13, Try.ntmps13
  go_upto_region 1 with (guard_target = wpList _ _ _ (Oper.mk (some 3) _ _ _ _ none :: _) _ _; refine wpList_box_arr rfl 35 _ rfl fs rfl ?_)
  generalize ((((w.alloc (.cells (pc A n c A2 0 c2 p.most) 25)).alloc (.cells fs 35)).alloc (.cells pz0 25)).alloc (.cells (refc 0 0) 27)) = W0 at *
  go_upto_region 3 with (first
    | (guard_target = wpList _ _ _ (Oper.mk (some 10) _ _ _ _ none :: _) _ _; refine wpList_load_row rfl 25 _ rfl w.heap.size rfl _ _ _ _ k2 Try.underlying25 rfl (by kernel_rfl) ?_)
    | (go_at_call 28; (with_reducible refine (HMC.out _ hbw).mono ?_); rintro _ u1 ⟨rfl, hb1⟩; replace k2 := Held.below k2 hb1; replace k4 := Held.below k4 hb1; replace k5 := Held.below k5 hb1; replace hbw := Below.step hbw hb1; clear hb1))
  have hp9 := HP.out.1.below hbw HP.out.2
  have hB9 := Nat.le_trans HP.out.2 hbw.size
  go_upto_region 4 with (first
    | (guard_target = wpList _ _ _ (Oper.mk (some 15) _ _ _ _ none :: _) _ _; refine wpList_load_row rfl 25 _ rfl w.heap.size rfl _ _ _ _ k2 Try.underlying25 rfl (by kernel_rfl) ?_)
    | (go_at_call 32; (with_reducible refine (copied_z c c2 _ HN.out HM.out hp9 HL.out hB9).mono ?_); rintro _ u ⟨A9, c9, B9, d9, rfl, -, hb⟩; replace k2 := Held.below k2 hb; replace k4 := Held.below k4 hb; replace k5 := Held.below k5 hb; replace hbw := Below.step hbw hb; have hbA := ((Below.refl _ _).alloc (Nat.le_refl _) _ : Below u.heap.size u (u.alloc (.cells pz0 25))); have kn := Held.new u 25 pz0)
    | (guard_target = wpList _ _ _ (Oper.mk _ (Op.store 25 (.tmp 7) _) _ _ _ none :: _) _ _; refine wpList_store_row rfl 25 _ _ rfl u.heap.size (pc A9 n c9 B9 0 d9 p.most) rfl rfl _ _ kn (by kernel_rfl) rfl (by simp [Value.oneCell']) ?_))
  have hb2 : Below u.heap.size u ((u.alloc (.cells pz0 25)).setRow u.heap.size (pc A9 n c9 B9 0 d9 p.most)) := below_setRow hbA (Nat.le_refl _) _
  have kn1 := held_rowSelf kn (pc A9 n c9 B9 0 d9 p.most)
  replace k2 := Held.below k2 hb2
  replace k4 := Held.below k4 hb2
  replace k5 := Held.below k5 hb2
  replace hbw := Below.step hbw hb2
  clear kn hbA hb2 hp9 hB9 hb
  generalize World.setRow _ u.heap.size _ = W1 at *
  generalize u.heap.size = gV at *
  have x0 := kn1.cell 0
  have x1 := kn1.cell 1
  have x2 := kn1.cell 2
  simp [HMO.out] at x0 x1 x2
  go_upto_region 11 with (fail)
  clear x0 x1 x2
  go_wp2_with (first
    | (guard_target = wpList _ _ _ (Oper.mk (some 61) _ _ _ _ none :: _) _ _; refine wpList_load_row rfl 25 _ rfl w.heap.size rfl _ _ _ _ k2 Try.underlying25 rfl (by kernel_rfl) ?_)
    | (guard_target = wpList _ _ _ (Oper.mk _ (Op.store 25 (.tmp 4) _) _ _ _ none :: _) _ _; refine wpList_store_row rfl 25 _ _ rfl (w.heap.size + 1 + 1) (pc A n c A2 0 c2 p.most) rfl rfl _ _ k4 (by kernel_rfl) rfl (by simp [Value.oneCell']) ?_)
    | (guard_target = wpList _ _ _ (Oper.mk _ (Op.store 27 (.tmp 5) _) _ _ _ none :: _) _ _; refine wpList_store_row rfl 27 _ _ rfl (w.heap.size + 1 + 1 + 1) (refc 0 0) rfl rfl _ _ (held_row k5 (show (w.heap.size + 1 + 1 + 1) ≠ (w.heap.size + 1 + 1) by omega) (pc A n c A2 0 c2 p.most)) (by kernel_rfl) rfl (by simp [Value.oneCell']) ?_))
  have hA := below_setRow hbw (show w.heap.size ≤ (w.heap.size + 1 + 1) by omega) (pc A n c A2 0 c2 p.most)
  have h9 := below_setRow hA (show w.heap.size ≤ (w.heap.size + 1 + 1 + 1) by omega) (refc 0 0)
  exact bodyPost_ret (results_cct rfl _ _ rfl rfl rfl (load_pen (held_row (held_rowSelf k4 (pc A n c A2 0 c2 p.most)) (show (w.heap.size + 1 + 1) ≠ (w.heap.size + 1 + 1 + 1) by omega) (refc 0 0)) rfl) (load_ref (held_rowSelf (held_row k5 (show (w.heap.size + 1 + 1 + 1) ≠ (w.heap.size + 1 + 1) by omega) (pc A n c A2 0 c2 p.most)) (refc 0 0)) rfl)) rfl ⟨A, c, A2, c2, by simp only [HN.out, HM.out]; rfl, (HP.out.1.below h9 HP.out.2).more (Nat.le_trans HP.out.2 h9.size), h9⟩
end Go.Proofs.Ytkpjlobpaippdaa
