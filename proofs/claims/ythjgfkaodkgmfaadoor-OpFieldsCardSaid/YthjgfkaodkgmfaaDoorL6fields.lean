/- Layer 6: OpFields: an instruction that may be has no field that its operation has not; of those that it has one less, down to 0, may be, but of traps. -/
import Derived.Test.YthjgfkaodkgmfaaDoorL6fix
import Derived.OpenShut
import Derived.BigQuiet
import Derived.Lib.QuietBelow
import Derived.WalkMore
import Derived.Deep.DeepCutAuto
import Derived.Deep.CutBlock
import Derived.Deep.RegionHeld3
namespace Go.Proofs.YthjgfkaodkgmfaaDoor.opFields
set_option linter.unusedVariables false
set_option linter.unusedSimpArgs false
open Go.ChangeShapes Go.WideShapes Go.ChangeAt Go.RowKit Go.Sort

/-- Two new instructions, the same as the one at x. -/
def Mid3 (w0 : World) (x : Nat) (o a b : Value) (v4 v5 : Value) (wx : World) : Prop := ∃ y z, v4 = .pointer (some ⟨y, 0, none⟩) ∧ v5 = .pointer (some ⟨z, 0, none⟩) ∧ Held wx y 23 #[o, a, b] ∧ Held wx z 23 #[o, a, b] ∧
  Held wx x 23 #[o, a, b] ∧ y ≠ z ∧ x ≠ y ∧ x ≠ z ∧ w0.heap.size ≤ y ∧ w0.heap.size ≤ z ∧ Below w0.heap.size w0 wx
theorem below_two {B : Nat} {w v : World} {y z i j : Nat} (hb : Below B w v) (hy : B ≤ y) (hz : B ≤ z) (x u : Value) : Below B w ((v.setCell ⟨y, i, none⟩ x).setCell ⟨z, j, none⟩ u) := (hb.setCell hy _).setCell hz _
theorem Held.at1 {W : World} {g : Nat} {t : TypeId} {a b c : Value} (h : Held W g t #[a, b, c]) (y : Value) : Held (W.setCell ⟨g, 1, none⟩ y) g t #[a, y, c] := by
  unfold Held at *
  simp [World.setCell, Array.getElem?_modify, h]
theorem Held.at2 {W : World} {g : Nat} {t : TypeId} {a b c : Value} (h : Held W g t #[a, b, c]) (y : Value) : Held (W.setCell ⟨g, 2, none⟩ y) g t #[a, b, y] := by
  unfold Held at *
  simp [World.setCell, Array.getElem?_modify, h]

set_option maxHeartbeats 4000000 in
set_option maxRecDepth 100000 in
theorem good (o a b f : Int) (my : Bool) (ha : 0 ≤ a) (ha2 : a ≤ 255) (hb0 : 0 ≤ b) (hb2 : b ≤ 255) (hf : (f = 0 ∧ a = 0 ∧ b = 0) ∨ (f = 1 ∧ b = 0) ∨ f = 2) (CD : Co Tryd.prog 14 #[.int .i64 o] (.int .i64 f)) (CM : Co Tryd.prog 18 #[iv o a b] (.bool true))
    (CZ : Co Tryd.prog 18 #[iv o a (b / 2)] (.bool true)) (CY : Co Tryd.prog 18 #[iv o (a / 2) b] (.bool my)) (C1 : Co Tryd.prog 18 #[iv o a (-1)] (.bool false)) (C2 : Co Tryd.prog 18 #[iv o (-1) b] (.bool false))
    (hmy : my = true ∨ (my = false ∧ o = 16 ∧ a / 2 < 16)) : Co Tryd.prog 5 #[iv o a b] (.bool true) := fun w hT => by
  have hx := Held.new w 23 #[.int .i64 o, .int .i64 a, .int .i64 b]
  replace hT := hT.below ((Below.refl _ w).alloc (Nat.le_refl _) (.cells #[.int .i64 o, .int .i64 a, .int .i64 b] 23))
  have hw : Below w.heap.size w (w.alloc (.cells #[.int .i64 o, .int .i64 a, .int .i64 b] 23)) := (Below.refl _ w).alloc (Nat.le_refl _) _
  have HX := Lib.hid hx
  clear hx
  have hxs : w.heap.size < (w.alloc (.cells #[.int .i64 o, .int .i64 a, .int .i64 b] 23)).heap.size := by simp
  obtain ⟨ka, kb⟩ : (f < 1 → (a != 0) = false) ∧ (f < 2 → (b != 0) = false) := by
    rcases hf with ⟨rfl, rfl, rfl⟩ | ⟨rfl, rfl⟩ | rfl <;> simp
  have hf2 : f = 0 ∨ f = 1 ∨ f = 2 := by omega
  clear hf
  obtain ⟨ko, kh⟩ : (my = false → (o == 16) = true) ∧ (my = false → a / 2 < 16) := by
    rcases hmy with rfl | ⟨rfl, rfl, h⟩
    · simp
    · exact ⟨fun _ => rfl, fun _ => h⟩
  clear hmy
  rcases hf2 with rfl | rfl | rfl <;> cases my
  all_goals
    simp only [reduceCtorEq, forall_const, false_implies, Int.reduceLT, true_implies] at ka kb ko kh
    go_enter Tryd.func5, Tryd.ntmps5
    go_upto_region 6 with (first
      | (go_at_call 8; (with_reducible refine (fixed_true.go _ hT).mono ?_); rintro e v ⟨rfl, hb⟩; replace HX := Lib.hid (HX.out.below hb); have c0 := HX.out.cell 0; have c1 := HX.out.cell 1; have c2 := HX.out.cell 2; simp at c0 c1 c2; have hlt := HX.out.lt; replace hT := hT.below hb; replace hw := Below.step hw hb; clear hb)
      | (go_at_call 18; (with_reducible refine (CM.go _ hT).mono ?_); rintro e v1 ⟨rfl, hb⟩; replace HX := Lib.hid (HX.out.below hb); have c0 := HX.out.cell 0; have c1 := HX.out.cell 1; have c2 := HX.out.cell 2; simp at c0 c1 c2; have hlt := HX.out.lt; replace hT := hT.below hb; replace hw := Below.step hw hb; clear hb)
      | (go_at_call 14; (with_reducible refine (CD.go _ hT).mono ?_); rintro e v2 ⟨rfl, hb⟩; replace HX := Lib.hid (HX.out.below hb); have c0 := HX.out.cell 0; have c1 := HX.out.cell 1; have c2 := HX.out.cell 2; simp at c0 c1 c2; have hlt := HX.out.lt; replace hT := hT.below hb; replace hw := Below.step hw hb; clear hb))
    go_cut [4, 5] (fun v4 v5 wx => Mid3 v2 w.heap.size (.int .i64 o) (.int .i64 a) (.int .i64 b) v4 v5 wx)
    case first =>
      go_region
      all_goals
        go_wp2_with fail
        go_meet
        case rel =>
          refine ⟨_, _, rfl, rfl, ?_, ?_, ?_, ?_, ?_, ?_, ?_, ?_, ?_⟩
          all_goals first
            | exact Held.new1 _ _ _ _
            | exact (Held.new _ _ _).alloc _
            | exact (HX.out.alloc _).alloc _
            | omega
            | exact (below2 _ _ _).drew
    case rest =>
      obtain ⟨y, z, rfl, rfl, hy, hz, hx, nyz, nxy, nxz, ly, lz, hb⟩ := hcut
      have hwx := Below.step hw hb
      have hsv := hw.size
      clear c0 c1 c2 HX hlt hw
      have HY := Lib.hid hy
      have HZ := Lib.hid hz
      have HX := Lib.hid hx
      have y0 := hy.cell 0
      have y1 := hy.cell 1
      have y2 := hy.cell 2
      have z0 := hz.cell 0
      have z1 := hz.cell 1
      have z2 := hz.cell 2
      have x0 := hx.cell 0
      have x1 := hx.cell 1
      have x2 := hx.cell 2
      have fy := hy.fz 1
      have fz := hz.fz 2
      simp at x0 x1 x2 y0 y1 y2 z0 z1 z2
      clear hx hy hz
      go_upto_region 9 with (fail)
      replace HY := Lib.hid ((Held.at1 HY.out (.int .i64 (a / 2))).far nyz 2 (.int .i64 (b / 2)))
      replace HZ := Lib.hid (Held.at2 (Held.far HZ.out (Ne.symm nyz) 1 (.int .i64 (a / 2))) (.int .i64 (b / 2)))
      replace HX := Lib.hid ((Held.far HX.out nxy 1 (.int .i64 (a / 2))).far nxz 2 (.int .i64 (b / 2)))
      have hw := below_two (i := 1) (j := 2) hwx (Nat.le_trans hsv ly) (Nat.le_trans hsv lz) (.int .i64 (a / 2)) (.int .i64 (b / 2))
      replace hT := hT.below (below_two (i := 1) (j := 2) hb ly lz (.int .i64 (a / 2)) (.int .i64 (b / 2)))
      clear hb hwx x0 x1 x2 y0 y1 y2 z0 z1 z2 fy fz
      generalize (wc.setCell ⟨y, 1, none⟩ (.int .i64 (a / 2))).setCell ⟨z, 2, none⟩ (.int .i64 (b / 2)) = W at *
      have x0 := HX.out.cell 0; have x1 := HX.out.cell 1; have x2 := HX.out.cell 2
      have y0 := HY.out.cell 0; have y1 := HY.out.cell 1; have y2 := HY.out.cell 2
      have z0 := HZ.out.cell 0; have z1 := HZ.out.cell 1; have z2 := HZ.out.cell 2
      simp at x0 x1 x2 y0 y1 y2 z0 z1 z2
      go_wp2_with (first
        | (go_at_call 18; (with_reducible refine (CZ.go _ hT).mono ?_); rintro e v5 ⟨rfl, hb⟩; replace HX := Lib.hid (HX.out.below hb); replace HY := Lib.hid (HY.out.below hb); replace HZ := Lib.hid (HZ.out.below hb); have x0 := HX.out.cell 0; have x1 := HX.out.cell 1; have x2 := HX.out.cell 2; have y0 := HY.out.cell 0; have y1 := HY.out.cell 1; have y2 := HY.out.cell 2; have z0 := HZ.out.cell 0; have z1 := HZ.out.cell 1; have z2 := HZ.out.cell 2; simp at x0 x1 x2 y0 y1 y2 z0 z1 z2; replace hT := hT.below hb; replace hw := Below.step hw hb; clear hb)
        | (go_at_call 18; (with_reducible refine (CY.go _ hT).mono ?_); rintro e v6 ⟨rfl, hb⟩; replace HX := Lib.hid (HX.out.below hb); replace HY := Lib.hid (HY.out.below hb); replace HZ := Lib.hid (HZ.out.below hb); have x0 := HX.out.cell 0; have x1 := HX.out.cell 1; have x2 := HX.out.cell 2; have y0 := HY.out.cell 0; have y1 := HY.out.cell 1; have y2 := HY.out.cell 2; have z0 := HZ.out.cell 0; have z1 := HZ.out.cell 1; have z2 := HZ.out.cell 2; simp at x0 x1 x2 y0 y1 y2 z0 z1 z2; replace hT := hT.below hb; replace hw := Below.step hw hb; clear hb)
        | (go_at_call 18; (with_reducible refine (C1.go _ hT).mono ?_); rintro e v7 ⟨rfl, hb⟩; replace HX := Lib.hid (HX.out.below hb); replace HY := Lib.hid (HY.out.below hb); replace HZ := Lib.hid (HZ.out.below hb); have x0 := HX.out.cell 0; have x1 := HX.out.cell 1; have x2 := HX.out.cell 2; have y0 := HY.out.cell 0; have y1 := HY.out.cell 1; have y2 := HY.out.cell 2; have z0 := HZ.out.cell 0; have z1 := HZ.out.cell 1; have z2 := HZ.out.cell 2; simp at x0 x1 x2 y0 y1 y2 z0 z1 z2; replace hT := hT.below hb; replace hw := Below.step hw hb; clear hb)
        | (go_at_call 18; (with_reducible refine (C2.go _ hT).mono ?_); rintro e v8 ⟨rfl, hb⟩; replace HX := Lib.hid (HX.out.below hb); replace HY := Lib.hid (HY.out.below hb); replace HZ := Lib.hid (HZ.out.below hb); have x0 := HX.out.cell 0; have x1 := HX.out.cell 1; have x2 := HX.out.cell 2; have y0 := HY.out.cell 0; have y1 := HY.out.cell 1; have y2 := HY.out.cell 2; have z0 := HZ.out.cell 0; have z1 := HZ.out.cell 1; have z2 := HZ.out.cell 2; simp at x0 x1 x2 y0 y1 y2 z0 z1 z2; replace hT := hT.below hb; replace hw := Below.step hw hb; clear hb))
      go_ret
      exact ⟨rfl, hw⟩
end Go.Proofs.YthjgfkaodkgmfaaDoor.opFields
