/- Layer 9: FrameJoins: a frame that spawned into a slot, and is given that child's end, joins it: a value lies on its stack, and the slot is empty; a trap is its own; joined again it is TrapSlot. For all values and ends. -/
import Derived.Test.YtjnbockdfjhfgaaDoorzL9fix
import Derived.Test.YtjnbockdfjhfgaaDoorzFpj
import Derived.Test.YtjnbockdfjhfgaaDoorzHi
import Derived.Test.YtjnbockdfjhfgaaDoorzHc
namespace Go.Proofs.YtjnbockdfjhfgaaDoor.frameJoins
set_option linter.unusedVariables false
set_option linter.unusedSimpArgs false
open Gm Go.RowKit Go.ChangeShapes Go.WideShapes Go.ChangeAt Go.Sort

theorem tyVF : 33 ≠ 40 := by decide
theorem tyOF : 36 ≠ 40 := by decide
set_option maxHeartbeats 4000000 in
set_option maxRecDepth 100000 in
theorem out (a b t x y : Int) (w : World) (hT : TabB w w.heap.size) (R : Frm × Bool) (hR : newF p10 0 [(a, b)] 1 = R) (hs : t < 0 ∨ 255 < t ∨ R.2 = false) :
    Calls Tryd.prog 6 #[gv a b, outv t x y] w fun e w' => e = .returned (.bool true) ∧ Below w.heap.size w w' := by
  have OF := fun W => Lib.hid (of9_any t10 W (by decide))
  have hg : (⟨t10.toArray⟩ : ByteArray) = ⟨#[102, 117, 110, 99, 32, 49, 32, 49, 32, 49, 10, 108, 111, 97, 100, 32, 48, 10, 115, 112, 97, 119, 110, 32, 48, 32, 48, 10, 106, 111, 105, 110, 32, 48, 10, 106, 111, 105, 110, 32, 48, 10, 114, 101, 116, 10]⟩ := by apply ByteArray.ext; rfl
  rw [hg, p10_of] at OF
  have OF1 : ∀ W, Hid (Calls Tryd.prog 18 #[.string ⟨#[102, 117, 110, 99, 32, 49, 32, 49, 32, 49, 10, 108, 111, 97, 100, 32, 48, 10, 115, 112, 97, 119, 110, 32, 48, 32, 48, 10, 106, 111, 105, 110, 32, 48, 10, 106, 111, 105, 110, 32, 48, 10, 114, 101, 116, 10]⟩] W fun e w' => ∃ A c, e = .returned (.slice A 1 c) ∧ ProgAt w' w'.heap.size A p10 ∧ Below W.heap.size W w') := OF
  clear OF hg
  have hz : SizedP p10 := by rw [← p10_of]; exact parse_sized _
  have F9 := fun W (hw : Below w.heap.size w W) => Lib.hid (fixed9 W ((hT.below hw (Nat.le_refl _)).more hw.size))
  have hw0 : Below w.heap.size w ((w.alloc (.cells #[.int .i64 a, .int .i64 b] 33)).alloc (.cells #[.int .i64 t, .int .i64 x, .int .i64 y] 36)) := below2 w _ _
  have hV : Held ((w.alloc (.cells #[.int .i64 a, .int .i64 b] 33)).alloc (.cells #[.int .i64 t, .int .i64 x, .int .i64 y] 36)) w.heap.size 33 #[.int .i64 a, .int .i64 b] := (Held.new _ _ _).alloc _
  have hO : Held ((w.alloc (.cells #[.int .i64 a, .int .i64 b] 33)).alloc (.cells #[.int .i64 t, .int .i64 x, .int .i64 y] 36)) (w.heap.size + 1) 36 #[.int .i64 t, .int .i64 x, .int .i64 y] := Held.new1 _ _ _ _
  have HNEW := Lib.hid hR
  obtain ⟨Z, is⟩ := R
  simp only at hs
  clear hR
  go_enter Tryd.func6, Tryd.ntmps6
  go_upto_region 2 with (first
    | (go_at_call 18; (with_reducible refine (OF1 _).out.mono ?_); rintro _ U ⟨A, c, rfl, hp, hb⟩))
  replace hw0 := hw0.trans (hb.mono hw0.size)
  replace hV := hV.below hb
  replace hO := hO.below hb
  have CX := Lib.hid (show Cx p10 A 1 c U from cx_of (c := c) ((hT.below hw0 (Nat.le_refl _)).more hw0.size) hp hz)
  have HB := Lib.hid hw0
  clear hT hp hz hb OF1 hw0
  have xv0 := hV.cell 0
  have xv1 := hV.cell 1
  simp at xv0 xv1
  have hw : Below U.heap.size U (U.alloc (.cells #[.int .i64 a, .int .i64 b] 33)) := (Below.refl _ _).alloc (Nat.le_refl _) _
  have hv : VAt (U.alloc (.cells #[.int .i64 a, .int .i64 b] 33)) (U.alloc (.cells #[.int .i64 a, .int .i64 b] 33)).heap.size (some ⟨U.heap.size, 0, none⟩) [(a, b)] := fun _ => by
    have h := Held.new U 33 #[.int .i64 a, .int .i64 b]
    refine ⟨_, _, rfl, h.lt, fun j hj => ?_⟩
    obtain rfl : j = 0 := by simpa using hj
    exact ⟨h.cell 0, h.cell 1⟩
  replace hV := hV.alloc (.cells #[.int .i64 a, .int .i64 b] 33)
  replace hO := hO.alloc (.cells #[.int .i64 a, .int .i64 b] 33)
  go_upto_region 3 with (first
    | (go_at_call 10; (with_reducible refine (CX.out.new _ _ _ 1 _ _ _ _ hw hv rfl (by decide) HNEW.out).mono ?_); rintro _ u ⟨v', rfl, ho, hb⟩; obtain ⟨cs', rfl, hc'⟩ := ho.cells; have hg2 := Held.new u 40 fz0)
    | (refine wpList_store_row rfl 40 _ _ rfl u.heap.size cs' rfl rfl _ _ hg2 (fb_info hc') hc'.size.symm hc'.one ?_))
  obtain ⟨hF, hbW, _, hw1⟩ := fr_stored (z := fz0) hw hw.size hb ho hc'
  replace hV := hV.below hbW
  replace hO := hO.below hbW
  clear ho hc' hg2 hb hv hw hbW xv0 xv1
  have hw := hw1
  clear hw1
  generalize World.setRow _ u.heap.size cs' = W at *
  generalize u.heap.size = g6 at *
  replace hw := HB.out.trans (hw.mono HB.out.size)
  have xo0 := hO.cell 0
  simp at xo0
  rcases (show t < 0 ∨ (¬ t < 0 ∧ 255 < t) ∨ (¬ t < 0 ∧ ¬ 255 < t ∧ is = false) by
    by_cases h1 : t < 0
    · exact .inl h1
    · by_cases h2 : 255 < t
      · exact .inr (.inl ⟨h1, h2⟩)
      · exact .inr (.inr ⟨h1, h2, (hs.resolve_left h1).resolve_left h2⟩)) with h1 | ⟨h1, h2⟩ | ⟨h1, h2, rfl⟩
  all_goals
    clear hs
    go_wp2_with (go_at_call 7; (with_reducible refine (F9 _ hw).out.mono ?_); rintro _ u2 ⟨rfl, hb⟩; replace hO := hO.below hb; replace hw := hw.trans (hb.mono hw.size); clear hb; have xo0 := hO.cell 0; simp at xo0)
    go_ret
    exact ⟨rfl, hw⟩
set_option maxHeartbeats 4000000 in
set_option maxRecDepth 100000 in
theorem good (a b t x y : Int) (w : World) (hT : TabB w w.heap.size) (hm : mayB a b = true) (ht1 : ¬ t < 0) (ht2 : ¬ 255 < t) (H : Frm) (aH : ActP) (hD : doF p10 (j4 (a, b) t x y) = (H, aH)) (hH1 : H.slt = [slt0]) (hH2 : FrmLen H)
    (hcs : (t ≠ 0 ∧ aH = actK 4 ∧ H = j5 (a, b) t) ∨ (t = 0 ∧ aH = actK 1 ∧ H = j6 (a, b) x y)) :
    Calls Tryd.prog 6 #[gv a b, outv t x y] w fun e w' => e = .returned (.bool true) ∧ Below w.heap.size w w' := by
  have OF := fun W => Lib.hid (of9_any t10 W (by decide))
  have hg : (⟨t10.toArray⟩ : ByteArray) = ⟨#[102, 117, 110, 99, 32, 49, 32, 49, 32, 49, 10, 108, 111, 97, 100, 32, 48, 10, 115, 112, 97, 119, 110, 32, 48, 32, 48, 10, 106, 111, 105, 110, 32, 48, 10, 106, 111, 105, 110, 32, 48, 10, 114, 101, 116, 10]⟩ := by apply ByteArray.ext; rfl
  rw [hg, p10_of] at OF
  have OF1 : ∀ W, Hid (Calls Tryd.prog 18 #[.string ⟨#[102, 117, 110, 99, 32, 49, 32, 49, 32, 49, 10, 108, 111, 97, 100, 32, 48, 10, 115, 112, 97, 119, 110, 32, 48, 32, 48, 10, 106, 111, 105, 110, 32, 48, 10, 106, 111, 105, 110, 32, 48, 10, 114, 101, 116, 10]⟩] W fun e w' => ∃ A c, e = .returned (.slice A 1 c) ∧ ProgAt w' w'.heap.size A p10 ∧ Below W.heap.size W w') := OF
  clear OF hg
  have hz : SizedP p10 := by rw [← p10_of]; exact parse_sized _
  have F9 := fun W (hw : Below w.heap.size w W) => Lib.hid (fixed9 W ((hT.below hw (Nat.le_refl _)).more hw.size))
  have hw0 : Below w.heap.size w ((w.alloc (.cells #[.int .i64 a, .int .i64 b] 33)).alloc (.cells #[.int .i64 t, .int .i64 x, .int .i64 y] 36)) := below2 w _ _
  have hV : Held ((w.alloc (.cells #[.int .i64 a, .int .i64 b] 33)).alloc (.cells #[.int .i64 t, .int .i64 x, .int .i64 y] 36)) w.heap.size 33 #[.int .i64 a, .int .i64 b] := (Held.new _ _ _).alloc _
  have hO : Held ((w.alloc (.cells #[.int .i64 a, .int .i64 b] 33)).alloc (.cells #[.int .i64 t, .int .i64 x, .int .i64 y] 36)) (w.heap.size + 1) 36 #[.int .i64 t, .int .i64 x, .int .i64 y] := Held.new1 _ _ _ _
  have HNEW := Lib.hid (new10 a b hm)
  have HD := Lib.hid hD
  have HH := Lib.hid hH2
  have HH1 := Lib.hid hH1
  have HCS := Lib.hid hcs
  clear hD hH2 hcs hH1
  go_enter Tryd.func6, Tryd.ntmps6
  go_upto_region 2 with (first
    | (go_at_call 18; (with_reducible refine (OF1 _).out.mono ?_); rintro _ U ⟨A, c, rfl, hp, hb⟩))
  replace hw0 := hw0.trans (hb.mono hw0.size)
  replace hV := hV.below hb
  replace hO := hO.below hb
  have CX := Lib.hid (show Cx p10 A 1 c U from cx_of (c := c) ((hT.below hw0 (Nat.le_refl _)).more hw0.size) hp hz)
  have HB := Lib.hid hw0
  clear hT hp hz hb OF1 hw0
  have xv0 := hV.cell 0
  have xv1 := hV.cell 1
  simp at xv0 xv1
  have hw : Below U.heap.size U (U.alloc (.cells #[.int .i64 a, .int .i64 b] 33)) := (Below.refl _ _).alloc (Nat.le_refl _) _
  have hv : VAt (U.alloc (.cells #[.int .i64 a, .int .i64 b] 33)) (U.alloc (.cells #[.int .i64 a, .int .i64 b] 33)).heap.size (some ⟨U.heap.size, 0, none⟩) [(a, b)] := fun _ => by
    have h := Held.new U 33 #[.int .i64 a, .int .i64 b]
    refine ⟨_, _, rfl, h.lt, fun j hj => ?_⟩
    obtain rfl : j = 0 := by simpa using hj
    exact ⟨h.cell 0, h.cell 1⟩
  replace hV := hV.alloc (.cells #[.int .i64 a, .int .i64 b] 33)
  replace hO := hO.alloc (.cells #[.int .i64 a, .int .i64 b] 33)
  go_upto_region 3 with (first
    | (go_at_call 10; (with_reducible refine (CX.out.new _ _ _ 1 _ _ _ _ hw hv rfl (by decide) HNEW.out).mono ?_); rintro _ u ⟨v', rfl, ho, hb⟩; obtain ⟨cs', rfl, hc'⟩ := ho.cells; have hg2 := Held.new u 40 fz0)
    | (refine wpList_store_row rfl 40 _ _ rfl u.heap.size cs' rfl rfl _ _ hg2 (fb_info hc') hc'.size.symm hc'.one ?_))
  obtain ⟨hF, hbW, _, hw1⟩ := fr_stored (z := fz0) hw hw.size hb ho hc'
  replace hV := hV.below hbW
  replace hO := hO.below hbW
  clear ho hc' hg2 hb hv hw hbW xv0 xv1
  have hw := hw1
  clear hw1
  generalize World.setRow _ u.heap.size cs' = W at *
  generalize u.heap.size = g6 at *
  replace hF : FB W U.heap.size g6 cs' (j0 (a, b)) := hF
  have xo0 := hO.cell 0
  simp at xo0
  go_upto_if 44 with (go_at_call 7; (with_reducible refine (F9 _ (HB.out.trans (hw.mono HB.out.size))).out.mono ?_); rintro _ u2 ⟨rfl, hb⟩; replace hO := hO.below hb; replace hV := hV.below hb; replace hF := hF.below hb; replace hw := hw.trans (hb.mono hw.size); clear hb; have xo0 := hO.cell 0; simp at xo0)
  go_upto_region 5 with fail
  clear F9 xo0
  go_upto_region 6 with (first
    | (guard_target = wpList _ _ _ (Oper.mk _ (Op.load 40 (.tmp 6)) _ _ _ none :: _) _ _; refine wpList_load_row rfl 40 (.tmp 6) rfl g6 rfl 40 _ (0, 0) _ hF.held Tryd.underlying40 rfl (fb_info hF.fc) ?_)
    | (go_at_call 14; (with_reducible refine (CX.out.act _ (j0 (a, b)) _ _ hw hF.frm (len9 _ ⟨by simp [j0], by simp [j0], by simp [j0]⟩) (do10a (a, b))).mono ?_); rintro _ u ⟨v', av, rfl, ho, ha, hb⟩; obtain ⟨cs', rfl, hc'⟩ := ho.cells; obtain ⟨ca', rfl, hac⟩ := ha.cells; have hgu := (hF.held.below hb).lt; have hg1 := hF.held.below hb)
    | (refine wpList_store_row rfl 40 _ _ rfl g6 cs' rfl rfl _ _ hg1 (fb_info hc') (hF.fc.size.trans hc'.size.symm) hc'.one ?_))
  obtain ⟨hN, hk, hs, hw1⟩ := fr_into hw hF.held hb ho hc' hF.ge
  replace hV := hk.held hV (held_ne hV hF.held tyVF)
  replace hO := hk.held hO (held_ne hO hF.held tyOF)
  replace hF : FB _ U.heap.size g6 cs' (j1 (a, b)) := hN
  clear ho hc' ha hac hg1 hgu hk hb hs hN hw 
  have hw := hw1
  clear hw1
  generalize World.setRow _ g6 cs' = W5 at *
  go_upto_region 7 with (first
    | (guard_target = wpList _ _ _ (Oper.mk _ (Op.load 40 (.tmp 6)) _ _ _ none :: _) _ _; refine wpList_load_row rfl 40 (.tmp 6) rfl g6 rfl 40 _ (0, 0) _ hF.held Tryd.underlying40 rfl (fb_info hF.fc) ?_)
    | (go_at_call 14; (with_reducible refine (CX.out.act _ (j1 (a, b)) _ _ hw hF.frm (len9 _ ⟨by simp [j1], by simp [j1], by simp [j1]⟩) (do10b (a, b))).mono ?_); rintro _ u ⟨v', av, rfl, ho, ha, hb⟩; obtain ⟨cs', rfl, hc'⟩ := ho.cells; obtain ⟨ca', rfl, hac⟩ := ha.cells; have hgu := (hF.held.below hb).lt; have hg1 := (hF.held.below hb).alloc (.cells az0 50); have hg2 := (Held.new u 50 az0).row (Nat.ne_of_gt hgu) cs')
    | (refine wpList_store_row rfl 40 _ _ rfl g6 cs' rfl rfl _ _ hg1 (fb_info hc') (hF.fc.size.trans hc'.size.symm) hc'.one ?_)
    | (refine wpList_store_row rfl 50 _ _ rfl u.heap.size ca' rfl rfl _ _ hg2 (ab_info hac) hac.size.symm hac.one ?_))
  obtain ⟨hN, hM, hk, hs, hw1⟩ := do_stored (z := az0) hw hF.held hb ho hc' ha hac hF.ge
  replace hV := hk.held hV (held_ne hV hF.held tyVF)
  replace hO := hk.held hO (held_ne hO hF.held tyOF)
  replace hF : FB _ U.heap.size g6 cs' (j2 (a, b)) := hN
  have aA : AB _ U.heap.size u.heap.size ca' (a10 (a, b)) := hM
  clear ho hc' ha hac hg1 hgu hk hb hs hN hw hg2 hM
  have hw := hw1
  clear hw1
  generalize World.setRow _ u.heap.size ca' = W6 at *
  generalize u.heap.size = g8 at *
  go_upto_region 8 with (first
    | (guard_target = wpList _ _ _ (Oper.mk _ (Op.load 40 (.tmp 6)) _ _ _ none :: _) _ _; refine wpList_load_row rfl 40 (.tmp 6) rfl g6 rfl 40 _ (0, 0) _ hF.held Tryd.underlying40 rfl (fb_info hF.fc) ?_)
    | (go_at_call 14; (with_reducible refine (CX.out.act _ (j2 (a, b)) _ _ hw hF.frm (len9 _ ⟨by simp [j2], by simp [j2], by simp [j2]⟩) (do10c (a, b))).mono ?_); rintro _ u ⟨v', av, rfl, ho, ha, hb⟩; obtain ⟨cs', rfl, hc'⟩ := ho.cells; obtain ⟨ca', rfl, hac⟩ := ha.cells; have hg1 := (Held.new u 40 fz0).alloc (.cells az0 50); have hg2 := (Held.new1 u (.cells fz0 40) 50 az0).row (Nat.ne_of_gt (Nat.lt_succ_self _)) cs')
    | (refine wpList_store_row rfl 40 _ _ rfl u.heap.size cs' rfl rfl _ _ hg1 (fb_info hc') hc'.size.symm hc'.one ?_)
    | (refine wpList_store_row rfl 50 _ _ rfl (u.heap.size + 1) ca' rfl rfl _ _ hg2 (ab_info hac) hac.size.symm hac.one ?_))
  obtain ⟨hN, hM, hbW, hs, hw1⟩ := do_new (z := fz0) (y := az0) hw hw.size hb ho hc' ha hac
  replace hV := hV.below hbW
  replace hO := hO.below hbW
  replace aA := aA.below hbW
  have hK : FB _ U.heap.size u.heap.size cs' (j3 (a, b)) := hN
  have aB : AB _ U.heap.size (u.heap.size + 1) ca' (actK 3) := hM
  clear ho hc' ha hac hg1 hg2 hb hs hN hM hw hbW
  have hw := hw1
  clear hw1
  generalize World.setRow _ (u.heap.size + 1) ca' = W7 at *
  generalize u.heap.size + 1 = g10 at *
  generalize u.heap.size = g9 at *
  have xo0 := hO.cell 0
  have xo1 := hO.cell 1
  have xo2 := hO.cell 2
  simp at xo0 xo1 xo2
  go_upto_region 9 with (first
    | (guard_target = wpList _ _ _ (Oper.mk _ (Op.load 40 (.tmp 9)) _ _ _ none :: _) _ _; refine wpList_load_row rfl 40 (.tmp 9) rfl g9 rfl 40 _ (0, 0) _ hK.held Tryd.underlying40 rfl (fb_info hK.fc) ?_)
    | (go_at_call 17; (with_reducible refine (CX.out.giv _ (j3 (a, b)) _ _ 0 t x y hw hK.frm (len9 _ ⟨by simp [j3], by simp [j3], by simp [j3]⟩) (give10 (a, b) t x y)).mono ?_); rintro _ u ⟨v', rfl, ho, hb⟩; obtain ⟨cs', rfl, hc'⟩ := ho.cells; have hg2 := Held.new u 40 fz0)
    | (refine wpList_store_row rfl 40 _ _ rfl u.heap.size cs' rfl rfl _ _ hg2 (fb_info hc') hc'.size.symm hc'.one ?_))
  obtain ⟨hN, hbW, hs, hw1⟩ := fr_stored (z := fz0) hw hw.size hb ho hc'
  replace hV := hV.below hbW
  replace hO := hO.below hbW
  replace hK := hK.below hbW
  replace aA := aA.below hbW
  replace aB := aB.below hbW
  have hG : FB _ U.heap.size u.heap.size cs' (j4 (a, b) t x y) := hN
  clear ho hc' hg2 hb hs hN hw hbW xo0 xo1 xo2
  have hw := hw1
  clear hw1
  generalize World.setRow _ u.heap.size cs' = W8 at *
  generalize u.heap.size = g11 at *
  go_upto_region 10 with (first
    | (guard_target = wpList _ _ _ (Oper.mk _ (Op.load 40 (.tmp 11)) _ _ _ none :: _) _ _; refine wpList_load_row rfl 40 (.tmp 11) rfl g11 rfl 40 _ (0, 0) _ hG.held Tryd.underlying40 rfl (fb_info hG.fc) ?_)
    | (go_at_call 14; (with_reducible refine (CX.out.act _ (j4 (a, b) t x y) _ _ hw hG.frm (len9 _ ⟨by simp [j4], by simp [j4], by simp [j4]⟩) HD.out).mono ?_); rintro _ u ⟨v', av, rfl, ho, ha, hb⟩; obtain ⟨cs', rfl, hc'⟩ := ho.cells; obtain ⟨ca', rfl, hac⟩ := ha.cells; have hg1 := (Held.new u 40 fz0).alloc (.cells az0 50); have hg2 := (Held.new1 u (.cells fz0 40) 50 az0).row (Nat.ne_of_gt (Nat.lt_succ_self _)) cs')
    | (refine wpList_store_row rfl 40 _ _ rfl u.heap.size cs' rfl rfl _ _ hg1 (fb_info hc') hc'.size.symm hc'.one ?_)
    | (refine wpList_store_row rfl 50 _ _ rfl (u.heap.size + 1) ca' rfl rfl _ _ hg2 (ab_info hac) hac.size.symm hac.one ?_))
  obtain ⟨hN, hM, hbW, hs, hw1⟩ := do_new (z := fz0) (y := az0) hw hw.size hb ho hc' ha hac
  replace hV := hV.below hbW
  replace hO := hO.below hbW
  replace hK := hK.below hbW
  replace hG := hG.below hbW
  replace aA := aA.below hbW
  replace aB := aB.below hbW
  have hH : FB _ U.heap.size u.heap.size cs' H := hN
  have aC : AB _ U.heap.size (u.heap.size + 1) ca' aH := hM
  clear ho hc' ha hac hg1 hg2 hb hs hN hM hw hbW
  have hw := hw1
  clear hw1
  generalize World.setRow _ (u.heap.size + 1) ca' = W9 at *
  generalize u.heap.size + 1 = g14 at *
  generalize u.heap.size = g13 at *
  obtain ⟨sb, sc, e4, s0⟩ := hH.slot0 HH1.out
  have y8 : _ = some (Value.int .i64 2) := (aA.held.cell 0).trans aA.ac.c0
  have y10 : _ = some (Value.int .i64 3) := (aB.held.cell 0).trans aB.ac.c0
  have y9 : _ = some (Value.int .i64 1) := (hK.held.cell 8).trans hK.fc.c8
  have y11 : _ = some (Value.int .i64 0) := (hG.held.cell 8).trans hG.fc.c8
  have y4 := (hH.held.cell 4).trans e4
  replace s0 : _ = some (Value.int .i64 0) := s0
  clear e4
  go_upto_region 12 with fail
  clear y8 y10 y9 y11 y4 s0
  clear hK hG aA aB HD
  have xo0 := hO.cell 0
  have xo1 := hO.cell 1
  have xo2 := hO.cell 2
  simp at xo0 xo1 xo2
  have hcs := HCS.out
  clear HCS
  have HW := HB
  rcases hcs with ⟨h0, rfl, rfl⟩ | ⟨rfl, rfl, rfl⟩
  · have e0 : (t != 0) = true := by simpa using h0
    have EO := eqo_same t 0 0
    have HT0 := Lib.hid h0
    clear h0
    go_upto_region 13 with fail
    clear xo0 xo1 xo2
    go_upto_region 14 with (first
      | (guard_target = wpList _ _ _ (Oper.mk _ (Op.load 40 (.tmp 13)) _ _ _ none :: _) _ _; refine wpList_load_row rfl 40 (.tmp 13) rfl g13 rfl 40 _ (0, 0) _ hH.held Tryd.underlying40 rfl (fb_info hH.fc) ?_)
      | (go_at_call 19; (with_reducible refine (fin_at hH.frm (len9 _ ⟨by simp [j5], by simp [j5], by simp [j5]⟩) (fin10a (a, b) t HT0.out)).mono ?_); rintro _ u ⟨rfl, hb⟩; have hg2 := Held.new u 36 #[.int .i64 0, .int .i64 0, .int .i64 0])
      | (refine wpList_store_row rfl 36 _ _ rfl u.heap.size #[.int .i64 t, .int .i64 0, .int .i64 0] rfl rfl _ _ hg2 (by kernel_rfl) rfl (by simp [Value.oneCell']) ?_))
    obtain ⟨hN, hbW, hs, hw1⟩ := out_stored (cs := #[.int .i64 t, .int .i64 0, .int .i64 0]) (z := #[.int .i64 0, .int .i64 0, .int .i64 0]) hw hw.size hb
    replace hO := hO.below hbW
    replace hH := hH.below hbW
    replace aC := aC.below hbW
    have hQ := hN
    clear hg2 hb hs hN hw hbW
    have hw := hw1
    clear hw1
    generalize World.setRow _ u.heap.size #[.int .i64 t, .int .i64 0, .int .i64 0] = W13 at *
    generalize u.heap.size = g15 at *
    have xo0 := hO.cell 0
    have q0 := hQ.cell 0
    have q1 := hQ.cell 1
    have q2 := hQ.cell 2
    simp at xo0 q0 q1 q2
    have c0 : _ = some (Value.int .i64 4) := (aC.held.cell 0).trans aC.ac.c0
    clear aC hH
    go_wp2_with fail
    go_ret
    exact ⟨rfl, HB.out.trans (hw.mono HB.out.size)⟩
  · have e0 : ((0 : Int) != 0) = false := rfl
    have ta : True := trivial
    go_upto_region 15 with fail
    clear xo0 xo1 xo2
    go_upto_region 16 with (first
      | (guard_target = wpList _ _ _ (Oper.mk _ (Op.load 40 (.tmp 13)) _ _ _ none :: _) _ _; refine wpList_load_row rfl 40 (.tmp 13) rfl g13 rfl 40 _ (0, 0) _ hH.held Tryd.underlying40 rfl (fb_info hH.fc) ?_)
      | (go_at_call 14; (with_reducible refine (CX.out.act _ (j6 (a, b) x y) _ _ hw hH.frm (len9 _ ⟨by simp [j6], by simp [j6], by simp [j6]⟩) (do10e (a, b) x y)).mono ?_); rintro _ u ⟨v', av, rfl, ho, ha, hb⟩; obtain ⟨cs', rfl, hc'⟩ := ho.cells; obtain ⟨ca', rfl, hac⟩ := ha.cells; have hg1 := (Held.new u 40 fz0).alloc (.cells az0 50); have hg2 := (Held.new1 u (.cells fz0 40) 50 az0).row (Nat.ne_of_gt (Nat.lt_succ_self _)) cs')
      | (refine wpList_store_row rfl 40 _ _ rfl u.heap.size cs' rfl rfl _ _ hg1 (fb_info hc') hc'.size.symm hc'.one ?_)
      | (refine wpList_store_row rfl 50 _ _ rfl (u.heap.size + 1) ca' rfl rfl _ _ hg2 (ab_info hac) hac.size.symm hac.one ?_))
    obtain ⟨hN, hM, hbW, hs, hw1⟩ := do_new (z := fz0) (y := az0) hw hw.size hb ho hc' ha hac
    replace hO := hO.below hbW
    replace hH := hH.below hbW
    replace aC := aC.below hbW
    have hI : FB _ U.heap.size u.heap.size cs' (j7 (a, b) x y) := hN
    have aD : AB _ U.heap.size (u.heap.size + 1) ca' (actK 4) := hM
    clear ho hc' ha hac hg1 hg2 hb hs hN hM hw hbW
    have hw := hw1
    clear hw1
    generalize World.setRow _ (u.heap.size + 1) ca' = W15 at *
    generalize u.heap.size + 1 = g18 at *
    generalize u.heap.size = g17 at *
    go_upto_region 17 with (first
      | (guard_target = wpList _ _ _ (Oper.mk _ (Op.load 40 (.tmp 17)) _ _ _ none :: _) _ _; refine wpList_load_row rfl 40 (.tmp 17) rfl g17 rfl 40 _ (0, 0) _ hI.held Tryd.underlying40 rfl (fb_info hI.fc) ?_)
      | (go_at_call 19; (with_reducible refine (fin_at hI.frm (len9 _ ⟨by simp [j7], by simp [j7], by simp [j7]⟩) (fin10b (a, b) x y)).mono ?_); rintro _ u ⟨rfl, hb⟩; have hg2 := Held.new u 36 #[.int .i64 0, .int .i64 0, .int .i64 0])
      | (refine wpList_store_row rfl 36 _ _ rfl u.heap.size #[.int .i64 2, .int .i64 0, .int .i64 0] rfl rfl _ _ hg2 (by kernel_rfl) rfl (by simp [Value.oneCell']) ?_))
    obtain ⟨hN, hbW, hs, hw1⟩ := out_stored (cs := #[.int .i64 2, .int .i64 0, .int .i64 0]) (z := #[.int .i64 0, .int .i64 0, .int .i64 0]) hw hw.size hb
    replace hO := hO.below hbW
    replace hH := hH.below hbW
    replace aC := aC.below hbW
    replace aD := aD.below hbW
    have hQ := hN
    clear hg2 hb hs hN hw hbW
    have hw := hw1
    clear hw1
    generalize World.setRow _ u.heap.size #[.int .i64 2, .int .i64 0, .int .i64 0] = W16 at *
    generalize u.heap.size = g19 at *
    obtain ⟨tb, tc, e2, s0, s1⟩ := hH.top (x := (x, y)) rfl
    have y2 := (hH.held.cell 2).trans e2
    have xo1 := hO.cell 1
    have xo2 := hO.cell 2
    have q0 := hQ.cell 0
    have q1 := hQ.cell 1
    have q2 := hQ.cell 2
    simp at xo1 xo2 q0 q1 q2
    have c0 : _ = some (Value.int .i64 1) := (aC.held.cell 0).trans aC.ac.c0
    have d0 : _ = some (Value.int .i64 4) := (aD.held.cell 0).trans aD.ac.c0
    have EO := eqo_same 2 0 0
    have EV : ∀ W, (binOp .eql 33 (gv x y) (gv x y)).run Tryd.prog W = .ok (.bool true) W := fun W => by rw [eqv_run]; simp
    simp only at s0 s1
    clear aC aD hH hI e2
    go_wp2_with fail
    go_quiet (fail)
    go_wp2_with fail
    go_ret
    exact ⟨rfl, below_drewN (HB.out.trans (hw.mono HB.out.size)) _⟩
theorem walk (a b t x y : Int) (w : World) (hT : TabB w w.heap.size) :
    Calls Tryd.prog 6 #[gv a b, outv t x y] w fun e w' => e = .returned (.bool true) ∧ Below w.heap.size w w' := by
  by_cases h1 : t < 0
  · exact out a b t x y w hT _ rfl (.inl h1)
  · by_cases h2 : 255 < t
    · exact out a b t x y w hT _ rfl (.inr (.inl h2))
    · cases hm : mayB a b
      · exact out a b t x y w hT _ (new10_no a b hm) (.inr (.inr rfl))
      · by_cases h0 : t = 0
        · subst h0
          exact good a b 0 x y w hT hm h1 h2 _ _ (do10d (a, b) 0 x y) rfl (len9 _ ⟨by simp [j6], by simp [j6], by simp [j6]⟩) (.inr ⟨rfl, rfl, rfl⟩)
        · have hd := do10d (a, b) t x y
          rw [if_pos h0] at hd
          exact good a b t x y w hT hm h1 h2 _ _ hd rfl (len9 _ ⟨by simp [j5], by simp [j5], by simp [j5]⟩) (.inl ⟨h0, rfl, rfl⟩)
set_option maxRecDepth 100000 in
theorem entry {H : Type} {enc : TypeId × Value → H} (W : World) (base : Nat) (v0 v1 : Value) (d0 d1 : DataW H) (p0 p1 : List MemPlace)
    (k0 : Value.okWide Tryd.prog W .any base 33 v0)
    (k1 : Value.okWide Tryd.prog W .any base 36 v1)
    (h0 : DataW.Trod enc Tryd.prog W 0 (fun _ => true) true 33 v0 d0 p0)
    (h1 : DataW.Trod enc Tryd.prog W 0 (fun _ => true) true 36 v1 d1 p1)
    (hT : TabB W W.heap.size) : Calls Tryd.prog 6 #[v0, v1] W fun e w' => e = .returned (.bool true) ∧ Below W.heap.size W w' := by
  obtain ⟨a, b, rfl, _, _⟩ := open_val k0 h0
  obtain ⟨t, x, y, rfl⟩ := open_out1 k1 h1
  exact walk a b t x y W hT
end Go.Proofs.YtjnbockdfjhfgaaDoor.frameJoins

