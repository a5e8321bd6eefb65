/- Layer 7: the calls whose answers the document fixes, out of the others. -/
import Derived.Test.YtcfdbciooimjmaaGreatDoorzGm
import Derived.Test.YtcfdbciooimjmaaGreatDoorzGb
import Derived.OpenShut
import Derived.WalkMore
import Derived.Handy
namespace Go.Proofs.YtcfdbciooimjmaaGreatDoor
set_option linter.unusedVariables false
set_option linter.unusedSimpArgs false
open Go.ChangeShapes Go.WideShapes Go.ChangeAt Go.RowKit Go.Sort

theorem ProgAt.take {w : World} {B : Nat} {A : Option Addr} {p : List Fun} (h : ProgAt w B A p) (k : Nat) : ProgAt w B A (p.take k) := fun h0 => by
  obtain ⟨b, off, e, hb, hc⟩ := h (by rw [List.length_take] at h0; omega)
  exact ⟨b, off, e, hb, fun j hj => by rw [List.getElem_take]; exact hc j (by rw [List.length_take] at hj; omega)⟩
theorem same1 : sameP p0 (p0.take 1) = false := sameP_no (by decide +kernel)
set_option maxHeartbeats 4000000 in
set_option maxRecDepth 100000 in
theorem fixed_any {T : World → Prop} {D : List UInt8 → Int} (K : CodeB T D) (R : RefD T D) (hD : D b0 ≠ 0) (w : World) (hT : T w) :
    Calls Tryz.prog 10 #[] w fun e w' => e = .returned (.bool true) ∧ Below w.heap.size w w' := by
  have hw : Below w.heap.size w w := Below.refl _ _
  have z0 : SizedP p0 := may_sized may0
  have C0 := fun W (h : T W) => Lib.hid (K.parseW s0 W h (by decide))
  have P1 := fun W (h : T W) => Lib.hid (K.parse (s0 ++ [120]) W h (by decide))
  have P2 := fun W (h : T W) => Lib.hid (K.parse [102, 117, 110, 99, 32, 48, 32, 48, 32, 48, 10, 114, 101, 116, 32, 49, 10] W h (by decide))
  have D0 := fun W (h : T W) => Lib.hid (K.dec b0 W h (by decide))
  have D1 := fun W (h : T W) => Lib.hid (K.dec (b0 ++ [120]) W h (by decide))
  have D2 := fun W (h : T W) => Lib.hid (K.dec [0] W h (by decide))
  have D3 := fun W (h : T W) => Lib.hid (K.dec [1, 0, 0, 0, 1, 17] W h (by decide))
  rw [parse0] at C0
  rw [parse1] at P1
  rw [parse2] at P2
  rw [dec0] at D0
  rw [dec1] at D1
  rw [dec2] at D2
  rw [dec3] at D3
  have EP := fun W (h : T W) (A : Option Addr) (c : Nat) (ha : ProgAt W W.heap.size A p0) => Lib.hid (K.enc c W h ha z0 (Nat.le_refl _))
  have TP := fun W (h : T W) (A : Option Addr) (c : Nat) (ha : ProgAt W W.heap.size A p0) => Lib.hid (K.text c W h ha z0 (Nat.le_refl _))
  have MP := fun W (h : T W) (A : Option Addr) (c : Nat) (ha : ProgAt W W.heap.size A p0) => Lib.hid (K.may c W h ha z0 (Nat.le_refl _))
  have DP := fun W (h : T W) (A : Option Addr) (c : Nat) (ha : ProgAt W W.heap.size A p0) => Lib.hid (K.dig c W h ha z0 (Nat.le_refl _))
  have RP := fun W (h : T W) (A : Option Addr) (c : Nat) (ha : ProgAt W W.heap.size A p0) => Lib.hid (R.dig c W h ha z0 (Nat.le_refl _))
  have SQ := fun W (h : T W) (A A' : Option Addr) (c c' : Nat) (ha : ProgAt W W.heap.size A p0) (hb : ProgAt W W.heap.size A' p0) => Lib.hid (K.same c c' W h ha z0 hb z0 (Nat.le_refl _))
  have SN := fun W (h : T W) (A A' : Option Addr) (c c' : Nat) (ha : ProgAt W W.heap.size A p0) (hb : ProgAt W W.heap.size A' (p0.take 1)) => Lib.hid (K.same c c' W h ha z0 hb (may_sized (p := p0.take 1) (by decide +kernel)) (Nat.le_refl _))
  have M0 := fun W (h : T W) => Lib.hid (K.may (A := none) (p := []) 0 W h (ProgAt.nil W W.heap.size none) nil_sized (Nat.le_refl _))
  have T0 := fun W (h : T W) => Lib.hid (K.text (A := none) (p := []) 0 W h (ProgAt.nil W W.heap.size none) nil_sized (Nat.le_refl _))
  rw [enc0] at EP DP RP
  rw [text0] at TP
  rw [may0] at MP
  rw [(sameP_iff p0 p0).2 rfl] at SQ
  rw [same1] at SN
  rw [may1] at M0
  rw [text1] at T0
  have hd0 : (D b0 != 0) = true := by simpa using hD
  generalize D b0 = dg at *
  have eS : (⟨s0.toArray⟩ : ByteArray) = ⟨#[102, 117, 110, 99, 32, 48, 32, 49, 32, 50, 10, 112, 117, 115, 104, 32, 49, 32, 50, 10, 115, 112, 97, 119, 110, 32, 48, 32, 49, 10, 114, 101, 116, 10, 102, 117, 110, 99, 32, 49, 32, 49, 32, 48, 10, 116, 114, 97, 112, 32, 49, 54, 10]⟩ := rfl
  have eS1 : (⟨(s0 ++ [120]).toArray⟩ : ByteArray) = ⟨#[102, 117, 110, 99, 32, 48, 32, 49, 32, 50, 10, 112, 117, 115, 104, 32, 49, 32, 50, 10, 115, 112, 97, 119, 110, 32, 48, 32, 49, 10, 114, 101, 116, 10, 102, 117, 110, 99, 32, 49, 32, 49, 32, 48, 10, 116, 114, 97, 112, 32, 49, 54, 10]⟩ ++ ⟨#[120]⟩ := by apply ByteArray.ext; rfl
  have eB1 : (⟨(b0 ++ [120]).toArray⟩ : ByteArray) = ⟨b0.toArray⟩ ++ ⟨#[120]⟩ := by apply ByteArray.ext; rfl
  rw [eS] at C0 TP
  rw [eS1] at P1
  rw [eB1] at D1
  generalize hB : (⟨b0.toArray⟩ : ByteArray) = B at *
  have hBs : B.size = 18 := by rw [← hB]; rfl
  clear hB eS eS1 eB1 hD
  have hl : p0.length = 2 := rfl
  have hl1 : (p0.take 1).length = 1 := rfl
  have hl0 : ([] : List Fun).length = 0 := rfl
  have hcd : (p0[0]'(by decide)).code.length = 3 := rfl
  simp only [hl, hl1, hl0] at C0 P1 P2 D0 D1 D2 D3 EP TP MP DP RP SQ SN M0 T0
  clear hl hl1 hl0
  go_enter Tryz.func10, Tryz.ntmps10
  go_wp2_with (first
    | (go_at_call 11; (with_reducible refine (C0 _ hT).out.mono ?_); rintro e v ⟨A1, c1, rfl, hcap, hp1, hb⟩; replace hT := K.keep hT hb; replace hw := Below.step hw hb; clear hb; obtain ⟨bx, ox, rfl, hbx, hcx⟩ := hp1 (by decide); obtain ⟨_, _, _, AX, cX, hx3, _⟩ := hcx 0 (by decide); have HX := Lib.hid hp1; clear hp1 hcx)
    | (go_at_call 19; (with_reducible refine (EP _ hT _ _ HX.out).out.mono ?_); rintro e v ⟨rfl, hb⟩; replace HX := Lib.hid ((HX.out.below hb (Nat.le_refl _)).more hb.size); replace hT := K.keep hT hb; replace hw := Below.step hw hb; clear hb)
    | (go_at_call 13; (with_reducible refine (D0 _ hT).out.mono ?_); rintro e v ⟨A2, c2, rfl, hp2, hb⟩; replace HX := Lib.hid ((HX.out.below hb (Nat.le_refl _)).more hb.size); replace hT := K.keep hT hb; replace hw := Below.step hw hb; clear hb; have HY := Lib.hid hp2; clear hp2)
    | (go_at_call 13; (with_reducible refine (D1 _ hT).out.mono ?_); rintro e v ⟨A3, c3, rfl, hp3, hb⟩; replace HX := Lib.hid ((HX.out.below hb (Nat.le_refl _)).more hb.size); replace HY := Lib.hid ((HY.out.below hb (Nat.le_refl _)).more hb.size); replace hT := K.keep hT hb; replace hw := Below.step hw hb; clear hb; clear hp3)
    | (go_at_call 11; (with_reducible refine (P1 _ hT).out.mono ?_); rintro e v ⟨A4, c4, rfl, hp4, hb⟩; replace HX := Lib.hid ((HX.out.below hb (Nat.le_refl _)).more hb.size); replace HY := Lib.hid ((HY.out.below hb (Nat.le_refl _)).more hb.size); replace hT := K.keep hT hb; replace hw := Below.step hw hb; clear hb; clear hp4)
    | (go_at_call 11; (with_reducible refine (P2 _ hT).out.mono ?_); rintro e v ⟨A5, c5, rfl, hp5, hb⟩; replace HX := Lib.hid ((HX.out.below hb (Nat.le_refl _)).more hb.size); replace HY := Lib.hid ((HY.out.below hb (Nat.le_refl _)).more hb.size); replace hT := K.keep hT hb; replace hw := Below.step hw hb; clear hb; clear hp5)
    | (go_at_call 13; (with_reducible refine (D2 _ hT).out.mono ?_); rintro e v ⟨A6, c6, rfl, hp6, hb⟩; replace HX := Lib.hid ((HX.out.below hb (Nat.le_refl _)).more hb.size); replace HY := Lib.hid ((HY.out.below hb (Nat.le_refl _)).more hb.size); replace hT := K.keep hT hb; replace hw := Below.step hw hb; clear hb; clear hp6)
    | (go_at_call 13; (with_reducible refine (D3 _ hT).out.mono ?_); rintro e v ⟨A7, c7, rfl, hp7, hb⟩; replace HX := Lib.hid ((HX.out.below hb (Nat.le_refl _)).more hb.size); replace HY := Lib.hid ((HY.out.below hb (Nat.le_refl _)).more hb.size); replace hT := K.keep hT hb; replace hw := Below.step hw hb; clear hb; clear hp7)
    | (go_at_call 17; (with_reducible refine (TP _ hT _ _ HX.out).out.mono ?_); rintro e v ⟨rfl, hb⟩; replace HX := Lib.hid ((HX.out.below hb (Nat.le_refl _)).more hb.size); replace HY := Lib.hid ((HY.out.below hb (Nat.le_refl _)).more hb.size); replace hT := K.keep hT hb; replace hw := Below.step hw hb; clear hb)
    | (go_at_call 24; (with_reducible refine (SQ _ hT _ _ _ _ HX.out HY.out).out.mono ?_); rintro e v ⟨rfl, hb⟩; replace HX := Lib.hid ((HX.out.below hb (Nat.le_refl _)).more hb.size); replace HY := Lib.hid ((HY.out.below hb (Nat.le_refl _)).more hb.size); replace hT := K.keep hT hb; replace hw := Below.step hw hb; clear hb)
    | (go_at_call 15; (with_reducible refine (MP _ hT _ _ HX.out).out.mono ?_); rintro e v ⟨rfl, hb⟩; replace HX := Lib.hid ((HX.out.below hb (Nat.le_refl _)).more hb.size); replace HY := Lib.hid ((HY.out.below hb (Nat.le_refl _)).more hb.size); replace hT := K.keep hT hb; replace hw := Below.step hw hb; clear hb)
    | (go_at_call 15; (with_reducible refine (M0 _ hT).out.mono ?_); rintro e v ⟨rfl, hb⟩; replace HX := Lib.hid ((HX.out.below hb (Nat.le_refl _)).more hb.size); replace HY := Lib.hid ((HY.out.below hb (Nat.le_refl _)).more hb.size); replace hT := K.keep hT hb; replace hw := Below.step hw hb; clear hb)
    | (go_at_call 21; (with_reducible refine (DP _ hT _ _ HX.out).out.mono ?_); rintro e v ⟨rfl, hb⟩; replace HX := Lib.hid ((HX.out.below hb (Nat.le_refl _)).more hb.size); replace HY := Lib.hid ((HY.out.below hb (Nat.le_refl _)).more hb.size); replace hT := K.keep hT hb; replace hw := Below.step hw hb; clear hb)
    | (go_at_call 22; (with_reducible refine (RP _ hT _ _ HX.out).out.mono ?_); rintro e v ⟨rfl, hb⟩; replace HX := Lib.hid ((HX.out.below hb (Nat.le_refl _)).more hb.size); replace HY := Lib.hid ((HY.out.below hb (Nat.le_refl _)).more hb.size); replace hT := K.keep hT hb; replace hw := Below.step hw hb; clear hb)
    | (go_at_call 24; (with_reducible refine (SN _ hT _ _ _ _ HX.out (HX.out.take 1)).out.mono ?_); rintro e v ⟨rfl, hb⟩; replace HX := Lib.hid ((HX.out.below hb (Nat.le_refl _)).more hb.size); replace HY := Lib.hid ((HY.out.below hb (Nat.le_refl _)).more hb.size); replace hT := K.keep hT hb; replace hw := Below.step hw hb; clear hb)
    | (go_at_call 17; (with_reducible refine (T0 _ hT).out.mono ?_); rintro e v ⟨rfl, hb⟩; replace HX := Lib.hid ((HX.out.below hb (Nat.le_refl _)).more hb.size); replace HY := Lib.hid ((HY.out.below hb (Nat.le_refl _)).more hb.size); replace hT := K.keep hT hb; replace hw := Below.step hw hb; clear hb)
    )
  go_ret
  exact ⟨rfl, hw⟩
end Go.Proofs.YtcfdbciooimjmaaGreatDoor

