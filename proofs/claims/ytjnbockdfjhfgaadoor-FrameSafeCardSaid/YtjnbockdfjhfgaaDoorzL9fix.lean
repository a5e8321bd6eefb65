/- Layer 9: the calls whose answers the document fixes. -/
import Derived.Test.YtjnbockdfjhfgaaDoorzHf
import Derived.Test.YtjnbockdfjhfgaaDoorzHa
import Derived.Test.YtjnbockdfjhfgaaDoorzFde
import Derived.Test.YtjnbockdfjhfgaaDoorzFgv
import Derived.Test.YtjnbockdfjhfgaaDoorzFnw
import Derived.Test.YtjnbockdfjhfgaaDoorzFsm
import Derived.Test.YtjnbockdfjhfgaaDoorzGp
import Derived.Test.YtjnbockdfjhfgaaDoorzPsz
namespace Go.Proofs.YtjnbockdfjhfgaaDoor
set_option linter.unusedVariables false
set_option linter.unusedSimpArgs false
open Gm Go.RowKit Go.ChangeShapes Go.WideShapes Go.ChangeAt Go.Sort

/-- New, at every program. -/
theorem new_any {B : Nat} {A A2 : Option Addr} {p : List Fun} {args : List V} (c c2 : Nat) (fn s : Int) (w : World) (hT : TabB w B) (h : ProgAt w B A p) (hz : SizedP p) (ha : VAt w B A2 args) (hl : args.length ≤ 1000) (hB : B ≤ w.heap.size) :
    Calls Tryd.prog 10 #[.slice A p.length c, .int .i64 fn, .slice A2 args.length c2, .int .i64 s] w fun e w' => NewQ w (newF p fn args s) e w' := by
  by_cases hy : mayP p = true ∧ hasI p.length fn = true ∧ isZ s = true
  · exact new_yes c c2 fn s w hT h hz ha hl hB hy.1 hy.2.1 hy.2.2
  · exact new_no c c2 fn s w hT h hz hB hy
set_option maxHeartbeats 2000000 in
set_option maxRecDepth 100000 in
theorem of9_any (l : List UInt8) (w : World) (hl : l.length ≤ 1000000) :
    Calls Tryd.prog 18 #[.string ⟨l.toArray⟩] w fun e w' => ∃ A c, e = .returned (.slice A (parseP l).1.length c) ∧ ProgAt w' w'.heap.size A (parseP l).1 ∧ Below w.heap.size w w' := by
  have PA := Lib.hid (pparse_any l w hl)
  unfold ParQ at PA
  go_enter Tryd.func18, Tryd.ntmps18
  go_wp2_with (go_at_call 32; (with_reducible refine PA.out.mono ?_); rintro _ u ⟨A, c, rfl, hp, hb⟩)
  go_ret
  exact ⟨A, c, rfl, hp, hb⟩
/-- What the calls of a program answer, from world U on, where it lies. -/
structure Cx (p : List Fun) (A : Option Addr) (n c : Nat) (U : World) : Prop where
  new : ∀ W fn args m s R A2 c2, Below U.heap.size U W → VAt W W.heap.size A2 args → args.length = m → m ≤ 1000 → newF p fn args s = R → Calls Tryd.prog 10 #[.slice A n c, .int .i64 fn, .slice A2 m c2, .int .i64 s] W fun e w' => NewQ W R e w'
  act : ∀ W F R cs, Below U.heap.size U W → FrmAt W W.heap.size (.agg cs) F → FrmLen F → doF p F = R → Calls Tryd.prog 14 #[.slice A n c, .agg cs] W fun e w' => DoQ W R e w'
  giv : ∀ W F R cs sl t re im, Below U.heap.size U W → FrmAt W W.heap.size (.agg cs) F → FrmLen F → giveF F sl t (re, im) = R → Calls Tryd.prog 17 #[.agg cs, .int .i64 sl, outv t re im] W fun e w' => GivQ W R e w'
theorem cx_of {p : List Fun} {A : Option Addr} {c : Nat} {U : World} (hT : TabB U U.heap.size) (hp : ProgAt U U.heap.size A p) (hz : SizedP p) : Cx p A p.length c U := by
  refine ⟨fun W fn args m s R A2 c2 hw ha hm hl e => ?_, fun W F R cs hw hf hl e => ?_, fun W F R cs sl t re im hw hf hl e => ?_⟩
  · subst hm
    rw [← e]
    exact new_any c c2 fn s W ((hT.below hw (Nat.le_refl _)).more hw.size) ((hp.below hw (Nat.le_refl _)).more hw.size) hz ha hl (Nat.le_refl _)
  · rw [← e]
    exact do_any c W ((hp.below hw (Nat.le_refl _)).more hw.size) hf (Nat.le_refl _) (Nat.le_refl _) ((hT.below hw (Nat.le_refl _)).more hw.size) hz hl
  · rw [← e]
    exact give_any sl t re im W hf (Nat.le_refl _) ((hT.below hw (Nat.le_refl _)).more hw.size) hl
theorem fin_at {W : World} {F : Frm} {cs : Array Value} {t re im : Int} {b : Bool} (h : FrmAt W W.heap.size (.agg cs) F) (hl : FrmLen F) (e : finF F = (t, (re, im), b)) : Calls Tryd.prog 19 #[.agg cs] W fun x w' => x = .returned (.tuple #[outv t re im, .bool b]) ∧ Below W.heap.size W w' := by
  have := final_any W h hl (Nat.le_refl _)
  rw [e] at this
  exact this
theorem len9 (F : Frm) (h : F.stk.length ≤ 1000 ∧ F.loc.length ≤ 1000 ∧ F.slt.length ≤ 1000) : FrmLen F := ⟨h.1, h.2.1, h.2.2⟩
set_option maxHeartbeats 8000000 in
set_option maxRecDepth 100000 in
theorem fixed9 (w : World) (hT : TabB w w.heap.size) : Calls Tryd.prog 7 #[] w fun e w' => e = .returned (.bool true) ∧ Below w.heap.size w w' := by
  have OF := fun W => Lib.hid (of9_any t9 W (by decide))
  have hg : (⟨t9.toArray⟩ : ByteArray) = ⟨#[102, 117, 110, 99, 32, 49, 32, 49, 32, 50, 10, 108, 111, 97, 100, 32, 48, 10, 115, 112, 97, 119, 110, 32, 48, 32, 49, 10, 106, 111, 105, 110, 32, 49, 10, 106, 111, 105, 110, 32, 49, 10, 114, 101, 116, 10]⟩ := by apply ByteArray.ext; rfl
  rw [hg, p9_of] at OF
  have OF1 : ∀ W, Hid (Calls Tryd.prog 18 #[.string ⟨#[102, 117, 110, 99, 32, 49, 32, 49, 32, 50, 10, 108, 111, 97, 100, 32, 48, 10, 115, 112, 97, 119, 110, 32, 48, 32, 49, 10, 106, 111, 105, 110, 32, 49, 10, 106, 111, 105, 110, 32, 49, 10, 114, 101, 116, 10]⟩] W fun e w' => ∃ A c, e = .returned (.slice A 1 c) ∧ ProgAt w' w'.heap.size A p9 ∧ Below W.heap.size W w') := OF
  clear OF hg
  have hz : SizedP p9 := by rw [← p9_of]; exact parse_sized _
  go_enter Tryd.func7, Tryd.ntmps7
  go_upto_region 2 with (first
    | (go_at_call 18; (with_reducible refine (OF1 _).out.mono ?_); rintro _ U ⟨A, c, rfl, hp, hb⟩))
  have CX := Lib.hid (show Cx p9 A 1 c U from cx_of (c := c) ((hT.below hb (Nat.le_refl _)).more hb.size) hp hz)
  have HB := Lib.hid hb
  clear hT hp hz hb OF1
  have hw : Below U.heap.size U (U.alloc (.cells #[.int .i64 5, .int .i64 0] 33)) := (Below.refl _ _).alloc (Nat.le_refl _) _
  have hv : VAt (U.alloc (.cells #[.int .i64 5, .int .i64 0] 33)) (U.alloc (.cells #[.int .i64 5, .int .i64 0] 33)).heap.size (some ⟨U.heap.size, 0, none⟩) [(5, 0)] := fun _ => by
    have h := Held.new U 33 #[.int .i64 5, .int .i64 0]
    refine ⟨_, _, rfl, h.lt, fun j hj => ?_⟩
    obtain rfl : j = 0 := by simpa using hj
    exact ⟨h.cell 0, h.cell 1⟩
  go_upto_region 3 with (first
    | (go_at_call 10; (with_reducible refine (CX.out.new _ _ _ 1 _ _ _ _ hw hv rfl (by decide) new9a).mono ?_); rintro _ u ⟨v', rfl, ho, hb⟩; obtain ⟨cs', rfl, hc'⟩ := ho.cells; have hg2 := Held.new u 40 fz0)
    | (refine wpList_store_row rfl 40 _ _ rfl u.heap.size cs' rfl rfl _ _ hg2 (fb_info hc') hc'.size.symm hc'.one ?_))
  obtain ⟨hF, _, _, hw1⟩ := fr_stored (z := fz0) hw hw.size hb ho hc'
  replace hF : FB _ U.heap.size u.heap.size cs' f9a := hF
  clear ho hc' hg2 hb hv hw
  have hw := hw1
  clear hw1
  generalize World.setRow _ u.heap.size cs' = W at *
  generalize u.heap.size = g2 at *
  obtain ⟨A3, c3, e3⟩ := hF.fc.c3
  obtain ⟨A4, c4, e4⟩ := hF.fc.c4
  have x3 : W.cell? ⟨g2, 3, none⟩ = some (.slice A3 1 c3) := (hF.held.cell 3).trans e3
  have x4 : W.cell? ⟨g2, 4, none⟩ = some (.slice A4 2 c4) := (hF.held.cell 4).trans e4
  clear e3 e4
  go_upto_region 5 with fail
  clear x3 x4
  go_upto_region 6 with (first
    | (refine wpList_load_row rfl 40 _ rfl g2 rfl 40 _ (0, 0) _ hF.held Tryd.underlying40 rfl (fb_info hF.fc) ?_)
    | (go_at_call 14; (with_reducible refine (CX.out.act _ f9a _ _ hw hF.frm (len9 _ (by decide)) do9a).mono ?_); rintro _ u ⟨v', av, rfl, ho, ha, hb⟩; obtain ⟨cs', rfl, hc'⟩ := ho.cells; obtain ⟨ca', rfl, hac⟩ := ha.cells; have hg1 := (hF.held.below hb).alloc (.cells az0 50); have hgu := (hF.held.below hb).lt; have hg2 := (Held.new u 50 az0).row (Nat.ne_of_gt hgu) cs')
    | (refine wpList_store_row rfl 40 _ _ rfl g2 cs' rfl rfl _ _ hg1 (fb_info hc') (hF.fc.size.trans hc'.size.symm) hc'.one ?_)
    | (refine wpList_store_row rfl 50 _ _ rfl u.heap.size ca' rfl rfl _ _ hg2 (ab_info hac) hac.size.symm hac.one ?_))
  obtain ⟨hN, hA, hk, hs, hw1⟩ := do_stored (z := az0) hw hF.held hb ho hc' ha hac hF.ge
  replace hF : FB _ U.heap.size g2 cs' f9b := hN
  replace hA : AB _ U.heap.size u.heap.size ca' (actK 1) := hA
  have aA := hA
  clear ho hc' ha hac hg1 hgu hg2 hk hb hs hN hw hA
  have hw := hw1
  clear hw1
  generalize World.setRow _ u.heap.size ca' = W4 at *
  generalize u.heap.size = g4 at *
  go_upto_region 7 with (first
    | (refine wpList_load_row rfl 40 _ rfl g2 rfl 40 _ (0, 0) _ hF.held Tryd.underlying40 rfl (fb_info hF.fc) ?_)
    | (go_at_call 14; (with_reducible refine (CX.out.act _ f9b _ _ hw hF.frm (len9 _ (by decide)) do9b).mono ?_); rintro _ u ⟨v', av, rfl, ho, ha, hb⟩; obtain ⟨cs', rfl, hc'⟩ := ho.cells; obtain ⟨ca', rfl, hac⟩ := ha.cells; have hg1 := (hF.held.below hb).alloc (.cells az0 50); have hgu := (hF.held.below hb).lt; have hg2 := (Held.new u 50 az0).row (Nat.ne_of_gt hgu) cs')
    | (refine wpList_store_row rfl 40 _ _ rfl g2 cs' rfl rfl _ _ hg1 (fb_info hc') (hF.fc.size.trans hc'.size.symm) hc'.one ?_)
    | (refine wpList_store_row rfl 50 _ _ rfl u.heap.size ca' rfl rfl _ _ hg2 (ab_info hac) hac.size.symm hac.one ?_))
  obtain ⟨hN, hA, hk, hs, hw1⟩ := do_stored (z := az0) hw hF.held hb ho hc' ha hac hF.ge
  replace aA := aA.kb hF.held tyFV hk (held_ne aA.held hF.held tyAF)
  replace hF : FB _ U.heap.size g2 cs' f9c := hN
  replace hA : AB _ U.heap.size u.heap.size ca' a9b := hA
  have aB := hA
  clear ho hc' ha hac hg1 hgu hg2 hk hb hs hN hw hA
  have hw := hw1
  clear hw1
  generalize World.setRow _ u.heap.size ca' = W5 at *
  generalize u.heap.size = g5 at *
  go_upto_region 8 with (first
    | (refine wpList_load_row rfl 40 _ rfl g2 rfl 40 _ (0, 0) _ hF.held Tryd.underlying40 rfl (fb_info hF.fc) ?_)
    | (go_at_call 14; (with_reducible refine (CX.out.act _ f9c _ _ hw hF.frm (len9 _ (by decide)) do9c).mono ?_); rintro _ u ⟨v', av, rfl, ho, ha, hb⟩; obtain ⟨cs', rfl, hc'⟩ := ho.cells; obtain ⟨ca', rfl, hac⟩ := ha.cells; have hg1 := (hF.held.below hb).alloc (.cells az0 50); have hgu := (hF.held.below hb).lt; have hg2 := (Held.new u 50 az0).row (Nat.ne_of_gt hgu) cs')
    | (refine wpList_store_row rfl 40 _ _ rfl g2 cs' rfl rfl _ _ hg1 (fb_info hc') (hF.fc.size.trans hc'.size.symm) hc'.one ?_)
    | (refine wpList_store_row rfl 50 _ _ rfl u.heap.size ca' rfl rfl _ _ hg2 (ab_info hac) hac.size.symm hac.one ?_))
  obtain ⟨hN, hA, hk, hs, hw1⟩ := do_stored (z := az0) hw hF.held hb ho hc' ha hac hF.ge
  replace aA := aA.kb hF.held tyFV hk (held_ne aA.held hF.held tyAF)
  replace aB := aB.kb hF.held tyFV hk (held_ne aB.held hF.held tyAF)
  replace hF : FB _ U.heap.size g2 cs' f9d := hN
  replace hA : AB _ U.heap.size u.heap.size ca' (actK 3) := hA
  have aC := hA
  clear ho hc' ha hac hg1 hgu hg2 hk hb hs hN hw hA
  have hw := hw1
  clear hw1
  generalize World.setRow _ u.heap.size ca' = W6 at *
  generalize u.heap.size = g6 at *
  have hlt := hF.lt
  go_upto_region 9 with (first
    | (refine wpList_load_row rfl 40 _ rfl g2 rfl 40 _ (0, 0) _ hF.held Tryd.underlying40 rfl (fb_info hF.fc) ?_)
    | (go_at_call 17; (with_reducible refine (CX.out.giv _ f9d _ _ 0 _ _ _ hw hF.frm (len9 _ (by decide)) give9g).mono ?_); rintro _ u ⟨v', rfl, ho, hb⟩; obtain ⟨cs', rfl, hc'⟩ := ho.cells; have hg2 := Held.new u 40 fz0)
    | (refine wpList_store_row rfl 40 _ _ rfl u.heap.size cs' rfl rfl _ _ hg2 (fb_info hc') hc'.size.symm hc'.one ?_))
  obtain ⟨hN, hbW, hs, hw1⟩ := fr_stored (z := fz0) hw hw.size hb ho hc'
  have hne : g2 < u.heap.size := Nat.lt_of_lt_of_le hlt hs
  have hG : FB _ U.heap.size u.heap.size cs' f9d := hN
  have nehFhG := Nat.lt_of_lt_of_le hF.lt hs
  replace hF := hF.below hbW
  replace aA := aA.below hbW
  replace aB := aB.below hbW
  replace aC := aC.below hbW
  clear ho hc' hg2 hb hs hN hw hbW hlt hne
  have hw := hw1
  clear hw1
  generalize World.setRow _ u.heap.size cs' = W7 at *
  generalize u.heap.size = g7 at *
  have hlt := hF.lt
  go_upto_region 10 with (first
    | (refine wpList_load_row rfl 40 _ rfl g2 rfl 40 _ (0, 0) _ hF.held Tryd.underlying40 rfl (fb_info hF.fc) ?_)
    | (go_at_call 17; (with_reducible refine (CX.out.giv _ f9d _ _ 1 _ _ _ hw hF.frm (len9 _ (by decide)) give9h).mono ?_); rintro _ u ⟨v', rfl, ho, hb⟩; obtain ⟨cs', rfl, hc'⟩ := ho.cells; have hg2 := Held.new u 40 fz0)
    | (refine wpList_store_row rfl 40 _ _ rfl u.heap.size cs' rfl rfl _ _ hg2 (fb_info hc') hc'.size.symm hc'.one ?_))
  obtain ⟨hN, hbW, hs, hw1⟩ := fr_stored (z := fz0) hw hw.size hb ho hc'
  have hne : g2 < u.heap.size := Nat.lt_of_lt_of_le hlt hs
  have hH : FB _ U.heap.size u.heap.size cs' f9h := hN
  have nehFhH := Nat.lt_of_lt_of_le hF.lt hs
  replace hF := hF.below hbW
  have nehGhH := Nat.lt_of_lt_of_le hG.lt hs
  replace hG := hG.below hbW
  replace aA := aA.below hbW
  replace aB := aB.below hbW
  replace aC := aC.below hbW
  clear ho hc' hg2 hb hs hN hw hbW hlt hne
  have hw := hw1
  clear hw1
  generalize World.setRow _ u.heap.size cs' = W9 at *
  generalize u.heap.size = g9 at *
  go_upto_region 11 with (first
    | (refine wpList_load_row rfl 40 _ rfl g9 rfl 40 _ (0, 0) _ hH.held Tryd.underlying40 rfl (fb_info hH.fc) ?_)
    | (go_at_call 14; (with_reducible refine (CX.out.act _ f9h _ _ hw hH.frm (len9 _ (by decide)) do9h).mono ?_); rintro _ u ⟨v', av, rfl, ho, ha, hb⟩; obtain ⟨cs', rfl, hc'⟩ := ho.cells; obtain ⟨ca', rfl, hac⟩ := ha.cells; have hg1 := (hH.held.below hb).alloc (.cells az0 50); have hgu := (hH.held.below hb).lt; have hg2 := (Held.new u 50 az0).row (Nat.ne_of_gt hgu) cs')
    | (refine wpList_store_row rfl 40 _ _ rfl g9 cs' rfl rfl _ _ hg1 (fb_info hc') (hH.fc.size.trans hc'.size.symm) hc'.one ?_)
    | (refine wpList_store_row rfl 50 _ _ rfl u.heap.size ca' rfl rfl _ _ hg2 (ab_info hac) hac.size.symm hac.one ?_))
  obtain ⟨hN, hA, hk, hs, hw1⟩ := do_stored (z := az0) hw hH.held hb ho hc' ha hac hH.ge
  replace hF := hF.kb hH.held tyFV tyFS hk (Nat.ne_of_lt nehFhH)
  replace hG := hG.kb hH.held tyFV tyFS hk (Nat.ne_of_lt nehGhH)
  replace aA := aA.kb hH.held tyFV hk (held_ne aA.held hH.held tyAF)
  replace aB := aB.kb hH.held tyFV hk (held_ne aB.held hH.held tyAF)
  replace aC := aC.kb hH.held tyFV hk (held_ne aC.held hH.held tyAF)
  replace hH : FB _ U.heap.size g9 cs' f9i := hN
  replace hA : AB _ U.heap.size u.heap.size ca' (actK 1) := hA
  have aD := hA
  clear ho hc' ha hac hg1 hgu hg2 hk hb hs hN hw hA
  have hw := hw1
  clear hw1
  generalize World.setRow _ u.heap.size ca' = W11 at *
  generalize u.heap.size = g11 at *
  obtain ⟨b1, k1, e1, _, _⟩ := hH.top (x := (0, 7)) rfl
  obtain ⟨b2, k2, e2, _, _⟩ := aB.arg (x := (5, 0)) rfl
  have x2 := (hH.held.cell 2).trans e1
  have y4 := (aB.held.cell 4).trans e2
  clear e1 e2
  go_upto_region 13 with fail
  clear x2 y4
  go_upto_region 14 with (first
    | (refine wpList_load_row rfl 40 _ rfl g9 rfl 40 _ (0, 0) _ hH.held Tryd.underlying40 rfl (fb_info hH.fc) ?_)
    | (go_at_call 14; (with_reducible refine (CX.out.act _ f9i _ _ hw hH.frm (len9 _ (by decide)) do9i).mono ?_); rintro _ u ⟨v', av, rfl, ho, ha, hb⟩; obtain ⟨cs', rfl, hc'⟩ := ho.cells; obtain ⟨ca', rfl, hac⟩ := ha.cells; have hg1 := (Held.new u 40 fz0).alloc (.cells az0 50); have hg2 := (Held.new1 u (.cells fz0 40) 50 az0).row (Nat.ne_of_gt (Nat.lt_succ_self _)) cs')
    | (refine wpList_store_row rfl 40 _ _ rfl u.heap.size cs' rfl rfl _ _ hg1 (fb_info hc') hc'.size.symm hc'.one ?_)
    | (refine wpList_store_row rfl 50 _ _ rfl (u.heap.size + 1) ca' rfl rfl _ _ hg2 (ab_info hac) hac.size.symm hac.one ?_))
  obtain ⟨hN, hA, hbW, hs, hw1⟩ := do_new (z := fz0) (y := az0) hw hw.size hb ho hc' ha hac
  replace hF := hF.below hbW
  replace hG := hG.below hbW
  replace hH := hH.below hbW
  replace aA := aA.below hbW
  replace aB := aB.below hbW
  replace aC := aC.below hbW
  replace aD := aD.below hbW
  have hK : FB _ U.heap.size u.heap.size cs' f9k := hN
  have aE : AB _ U.heap.size (u.heap.size + 1) ca' (actK 4) := hA
  clear ho hc' ha hac hg1 hg2 hb hs hN hA hw hbW
  have hw := hw1
  clear hw1
  generalize World.setRow _ (u.heap.size + 1) ca' = W13 at *
  generalize u.heap.size + 1 = g13 at *
  generalize u.heap.size = g12 at *
  go_upto_region 15 with (first
    | (refine wpList_load_row rfl 40 _ rfl g12 rfl 40 _ (0, 0) _ hK.held Tryd.underlying40 rfl (fb_info hK.fc) ?_)
    | (go_at_call 19; (with_reducible refine (fin_at hK.frm (len9 _ (by decide)) fin9k).mono ?_); rintro _ u ⟨rfl, hb⟩; have hg2 := Held.new u 36 #[.int .i64 0, .int .i64 0, .int .i64 0])
    | (refine wpList_store_row rfl 36 _ _ rfl u.heap.size #[.int .i64 2, .int .i64 0, .int .i64 0] rfl rfl _ _ hg2 (by kernel_rfl) rfl (by simp [Value.oneCell']) ?_))
  obtain ⟨hN, hbW, hs, hw1⟩ := out_stored (cs := #[.int .i64 2, .int .i64 0, .int .i64 0]) (z := #[.int .i64 0, .int .i64 0, .int .i64 0]) hw hw.size hb
  replace hF := hF.below hbW
  replace hG := hG.below hbW
  replace hH := hH.below hbW
  replace hK := hK.below hbW
  replace aA := aA.below hbW
  replace aB := aB.below hbW
  replace aC := aC.below hbW
  replace aD := aD.below hbW
  replace aE := aE.below hbW
  have hO := hN
  clear hg2 hb hs hN hw hbW
  have hw := hw1
  clear hw1
  generalize World.setRow _ u.heap.size #[.int .i64 2, .int .i64 0, .int .i64 0] = W14 at *
  generalize u.heap.size = g14 at *
  go_upto_region 16 with (first
    | (refine wpList_load_row rfl 40 _ rfl g2 rfl 40 _ (0, 0) _ hF.held Tryd.underlying40 rfl (fb_info hF.fc) ?_)
    | (go_at_call 19; (with_reducible refine (fin_at hF.frm (len9 _ (by decide)) fin9d).mono ?_); rintro _ u ⟨rfl, hb⟩; have hg2 := Held.new u 36 #[.int .i64 0, .int .i64 0, .int .i64 0])
    | (refine wpList_store_row rfl 36 _ _ rfl u.heap.size #[.int .i64 0, .int .i64 0, .int .i64 0] rfl rfl _ _ hg2 (by kernel_rfl) rfl (by simp [Value.oneCell']) ?_))
  obtain ⟨hN, hbW, hs, hw1⟩ := out_stored (cs := #[.int .i64 0, .int .i64 0, .int .i64 0]) (z := #[.int .i64 0, .int .i64 0, .int .i64 0]) hw hw.size hb
  replace hF := hF.below hbW
  replace hG := hG.below hbW
  replace hH := hH.below hbW
  replace hK := hK.below hbW
  replace aA := aA.below hbW
  replace aB := aB.below hbW
  replace aC := aC.below hbW
  replace aD := aD.below hbW
  replace aE := aE.below hbW
  replace hO := hO.below hbW
  have hP := hN
  clear hg2 hb hs hN hw hbW
  have hw := hw1
  clear hw1
  generalize World.setRow _ u.heap.size #[.int .i64 0, .int .i64 0, .int .i64 0] = W16 at *
  generalize u.heap.size = g16 at *
  clear hP
  have E1 : ∀ W, (binOp .eql 33 (gv 5 0) (gv 5 0)).run Tryd.prog W = .ok (.bool true) W := fun W => by rw [eqv_run]; simp
  have E2 : ∀ W, (binOp .eql 33 (gv 0 7) (gv 0 7)).run Tryd.prog W = .ok (.bool true) W := fun W => by rw [eqv_run]; simp
  go_wp2_with (first
    | (go_at_call 10; (with_reducible refine (CX.out.new _ _ [] 0 _ _ none 0 hw (VAt.nil _ _ _) rfl (by decide) new9z).mono ?_); rintro _ u ⟨v', rfl, ho, hb⟩; obtain ⟨cs', rfl, hc'⟩ := ho.cells; have hg2 := Held.new u 40 fz0)
    | (refine wpList_store_row rfl 40 _ _ rfl u.heap.size cs' rfl rfl _ _ hg2 (fb_info hc') hc'.size.symm hc'.one ?_; obtain ⟨_, hbW, _, hw1⟩ := fr_stored (z := fz0) hw hw.size hb ho hc'; replace hF := hF.below hbW; replace hG := hG.below hbW; replace hH := hH.below hbW; replace hK := hK.below hbW; replace aA := aA.below hbW; replace aB := aB.below hbW; replace aC := aC.below hbW; replace aD := aD.below hbW; replace aE := aE.below hbW; replace hO := hO.below hbW; have q1 : _ = some (Value.int .i64 1) := (aA.held.cell 0).trans aA.ac.c0; have q2 : _ = some (Value.int .i64 2) := (aB.held.cell 0).trans aB.ac.c0; have q3 : _ = some (Value.int .i64 0) := (aB.held.cell 1).trans aB.ac.c1; have q4 : _ = some (Value.int .i64 1) := (aB.held.cell 2).trans aB.ac.c2; obtain ⟨b2, k2, e2, v0, v1⟩ := aB.arg (x := (5, 0)) rfl; have q5 := (aB.held.cell 4).trans e2; have q6 : _ = some (Value.int .i64 1) := (hF.held.cell 6).trans hF.fc.c6; have q7 : _ = some (Value.int .i64 1) := (hF.held.cell 8).trans hF.fc.c8; have q8 : _ = some (Value.int .i64 1) := (hF.held.cell 9).trans hF.fc.c9; have q9 : _ = some (Value.int .i64 3) := (aC.held.cell 0).trans aC.ac.c0)
    | (refine wpList_done rfl ?_; refine wpList_load_row rfl 40 _ rfl g2 rfl 40 _ (0, 0) _ hF.held Tryd.underlying40 rfl (fb_info hF.fc) ?_)
    | (refine wpList_done rfl ?_; refine wpList_load_row rfl 40 _ rfl g7 rfl 40 _ (0, 0) _ hG.held Tryd.underlying40 rfl (fb_info hG.fc) ?_)
    | (refine wpList_done rfl ?_; refine wpList_load_row rfl 40 _ rfl g9 rfl 40 _ (0, 0) _ hH.held Tryd.underlying40 rfl (fb_info hH.fc) ?_)
    | (go_at_call 20; (with_reducible refine (fsame_eq _ hF.frm hG.frm (len9 _ (by decide)) (Nat.le_refl _) (Nat.le_refl _)).mono ?_); rintro _ u2 ⟨rfl, hb2⟩; replace hF := hF.below hb2; replace hH := hH.below hb2; replace aD := aD.below hb2; replace aE := aE.below hb2; replace hO := hO.below hb2; replace hw1 := hw1.trans (hb2.mono hw1.size); clear hG; have q11 : _ = some (Value.int .i64 1) := (aD.held.cell 0).trans aD.ac.c0; obtain ⟨b1, k1, e1, u0, u1⟩ := hH.top (x := (0, 7)) rfl; have q12 := (hH.held.cell 2).trans e1; have q13 : _ = some (Value.int .i64 4) := (aE.held.cell 0).trans aE.ac.c0; have q14 := hO.cell 0; simp at q14)
    | (go_at_call 20; (with_reducible refine (fsame_pc _ hF.frm hH.frm (by decide) (by decide)).mono ?_); rintro _ u3 ⟨rfl, hb3⟩))
  go_ret
  exact ⟨rfl, Below.step HB.out (Below.trans hw1 (hb3.mono hw1.size))⟩
end Go.Proofs.YtjnbockdfjhfgaaDoor

