/- Layer 8: the calls whose answers the document fixes. -/
import Derived.Test.YtdbmpcdianjaaaaDoorzGv
import Derived.Test.YtdbmpcdianjaaaaDoorzGt
import Derived.Test.YtdbmpcdianjaaaaDoorzGp
import Derived.Test.YtdbmpcdianjaaaaDoorzPsz
namespace Go.Proofs.YtdbmpcdianjaaaaDoor
set_option linter.unusedVariables false
set_option linter.unusedSimpArgs false
open Go.RowKit Go.ChangeShapes Go.WideShapes Go.ChangeAt Go.Sort

set_option maxHeartbeats 2000000 in
set_option maxRecDepth 100000 in
theorem of_any (l : List UInt8) (w : World) (hl : l.length ≤ 1000000) :
    Calls Tryd.prog 22 #[.string ⟨l.toArray⟩] w fun e w' => ∃ A c, e = .returned (.slice A (parseP l).1.length c) ∧ ProgAt w' w'.heap.size A (parseP l).1 ∧ Below w.heap.size w w' := by
  have PA := Lib.hid (pparse_any l w hl)
  unfold ParQ at PA
  go_enter Tryd.func22, Tryd.ntmps22
  go_wp2_with (go_at_call 33; (with_reducible refine PA.out.mono ?_); rintro _ u ⟨A, c, rfl, hp, hb⟩)
  go_ret
  exact ⟨A, c, rfl, hp, hb⟩
set_option maxHeartbeats 2000000 in
set_option maxRecDepth 100000 in
theorem wrong_true {s : ByteArray} {a b e : Int} (w : World) (hT : Otab w) (hl : s.data.toList.length ≤ 1000000) (h : checkP (parseP s.data.toList).1 = (a, b, e)) :
    Calls Tryd.prog 21 #[.string s, .int .i64 a, .int .i64 b, .int .i64 e] w fun x w' => x = .returned (.bool true) ∧ Below w.heap.size w w' := by
  have OF := Lib.hid (of_any s.data.toList w hl)
  have hs : (⟨s.data.toList.toArray⟩ : ByteArray) = s := by cases s; simp
  rw [hs] at OF
  have CK := fun A c u (hp : ProgAt u u.heap.size A (parseP s.data.toList).1) (hT : Otab u) => Lib.hid (check_any c u hT hp (parse_sized _) (Nat.le_refl _))
  rw [h] at CK
  have HT := Lib.hid hT
  generalize parseP s.data.toList = P at *
  have e1 : (a == a) = true := by simp
  have e2 : (b == b) = true := by simp
  have e3 : (e == e) = true := by simp
  clear h hs hT
  go_enter Tryd.func21, Tryd.ntmps21
  go_wp2_with (first
    | (go_at_call 22; (with_reducible refine OF.out.mono ?_); rintro _ u ⟨A, c, rfl, hp, hb⟩)
    | (go_at_call 11; (with_reducible refine (CK _ _ _ hp (HT.out.below hb)).out.mono ?_); rintro _ u2 ⟨rfl, hb2⟩))
  go_ret
  exact ⟨rfl, Below.step hb hb2⟩
theorem buildInts3 (w : World) (a b c : Int) : LstAt (w.alloc (.cells #[.int .i64 a, .int .i64 b, .int .i64 c] 3)) w.heap.size (.slice (some ⟨w.heap.size, 0, none⟩) 3 3) [a, b, c] :=
  .inr ⟨w.heap.size, rfl, Nat.le_refl _, Held.new _ _ _⟩
def gs : List UInt8 := [102, 117, 110, 99, 32, 48, 32, 48, 32, 48, 10, 112, 117, 115, 104, 32, 49, 32, 48, 10, 114, 101, 116, 10, 97, 100, 100, 10]
theorem gs_depths : depthsP (parseP gs).1 0 = [0, 1, -1] := by decide +kernel
set_option maxHeartbeats 4000000 in
set_option maxRecDepth 100000 in
theorem fixed8 (w : World) (hT : Otab w) : Calls Tryd.prog 10 #[] w fun e w' => e = .returned (.bool true) ∧ Below w.heap.size w w' := by
  have hw : Below w.heap.size w w := Below.refl _ _
  have OF := fun W => Lib.hid (of_any gs W (by decide))
  have hg : (⟨gs.toArray⟩ : ByteArray) = ⟨#[102, 117, 110, 99, 32, 48, 32, 48, 32, 48, 10, 112, 117, 115, 104, 32, 49, 32, 48, 10, 114, 101, 116, 10, 97, 100, 100, 10]⟩ := by apply ByteArray.ext; rfl
  rw [hg] at OF
  have DP := fun A c u (hp : ProgAt u u.heap.size A (parseP gs).1) (hT : Otab u) => Lib.hid (depths_any c 0 u hT hp (parse_sized _) (Nat.le_refl _))
  rw [gs_depths] at DP
  have D0 := fun u (hT : Otab u) => Lib.hid (depths_any (A := none) (p := []) 0 0 u hT (ProgAt.nil u u.heap.size none) nil_sized (Nat.le_refl _))
  have hd0 : depthsP [] 0 = [] := by decide +kernel
  rw [hd0] at D0
  simp only [List.length_nil] at D0
  generalize (parseP gs).1 = P at *
  clear hg hd0
  go_enter Tryd.func10, Tryd.ntmps10
  go_wp2_with (first
    | (go_at_call 21; (refine (wrong_true _ hT (by decide +kernel) (by decide +kernel)).mono ?_); rintro _ u ⟨rfl, hb⟩; replace hT := hT.below hb; replace hw := Below.step hw hb; clear hb)
    | (go_at_call 22; (with_reducible refine (OF _).out.mono ?_); rintro _ u1 ⟨A, c, rfl, hp, hb⟩; replace hT := hT.below hb; replace hw := Below.step hw hb; clear hb)
    | (go_at_call 14; (with_reducible refine (DP _ _ _ hp hT).out.mono ?_); rintro _ u2 ⟨x, rfl, hL, hb⟩; replace hT := hT.below hb; replace hw := Below.step hw hb; clear hb)
    | (go_at_call 13; (refine (ints_any _ (hL.below ((Below.refl _ _).alloc (Nat.le_refl _) _)) (buildInts3 _ 0 1 (-1)) (by decide)).mono ?_); rintro _ u3 ⟨rfl, hb⟩; replace hT := hT.below (below_laid hb); replace hw := Below.step hw (below_laid hb); clear hb)
    | (go_at_call 14; (with_reducible refine (D0 _ hT).out.mono ?_); rintro _ u4 ⟨y, rfl, hM, hb⟩; replace hT := hT.below hb; replace hw := Below.step hw hb; clear hb; obtain ⟨A4, c4, rfl, _⟩ := hM.slice))
  go_ret
  exact ⟨rfl, hw⟩
end Go.Proofs.YtdbmpcdianjaaaaDoor

