/- Layer 7: CodeTells: whether any program may be, its text, its bytes, its digest, and what any text and any bytes are, as the document says. For all programs. -/
import Derived.Test.YtcfdbciooimjmaaGreatDoorzGm
import Derived.OpenShut
import Derived.Test.YtcfdbciooimjmaaGreatDoorzPr2
import Derived.Test.YtcfdbciooimjmaaGreatDoorzPr4
import Derived.Test.YtcfdbciooimjmaaGreatDoorzPr5
import Derived.Test.YtcfdbciooimjmaaGreatDoorzL7back
namespace Go.Proofs.YtcfdbciooimjmaaGreatDoor.codeTells
set_option linter.unusedVariables false
set_option linter.unusedSimpArgs false
open Go.ChangeShapes Go.WideShapes Go.ChangeAt Go.RowKit Go.Sort

open codeBack (eta)
set_option maxHeartbeats 4000000 in
set_option maxRecDepth 100000 in
theorem walk {T : World → Prop} {D : List UInt8 → Int} (K : CodeC T D) (R : RefC T D) {A : Option Addr} {p : List Fun} (c : Nat) (s b : ByteArray) (w : World) (hT : T w) (ha : ProgAt w w.heap.size A p) (hz : SizedP p) :
    Calls Tryz.prog 3 #[.slice A p.length c, .string s, .string b] w fun e w' => e = .returned (.bool true) ∧ Below w.heap.size w w' := by
  have hw : Below w.heap.size w w := Below.refl _ _
  have S1 := fun W (h : ProgAt W W.heap.size A p) => Lib.hid (psmall_any c 300 W h)
  have MP := fun W (h1 : T W) (h : ProgAt W W.heap.size A p) => Lib.hid (K.may c W h1 h hz (Nat.le_refl _))
  have TP := fun W (h1 : T W) (h : ProgAt W W.heap.size A p) => Lib.hid (K.text c W h1 h hz (Nat.le_refl _))
  have EP := fun W (h1 : T W) (h : ProgAt W W.heap.size A p) => Lib.hid (K.enc c W h1 h hz (Nat.le_refl _))
  have DP := fun W (h1 : T W) (h : ProgAt W W.heap.size A p) => Lib.hid (K.dig c W h1 h hz (Nat.le_refl _))
  have RD := fun W (h1 : T W) (h : ProgAt W W.heap.size A p) => Lib.hid (R.dig c W h1 h hz (Nat.le_refl _))
  have RM := fun W (h : ProgAt W W.heap.size A p) => Lib.hid (pmay_any c W h hz (Nat.le_refl _))
  have RT := fun W (h : ProgAt W W.heap.size A p) => Lib.hid (ptext_any c W h hz (Nat.le_refl _))
  have RE := fun W (h : ProgAt W W.heap.size A p) => Lib.hid (penc_any c W h hz (Nat.le_refl _))
  have HA := Lib.hid ha
  have HZ := Lib.hid hz
  clear ha hz
  generalize smallP p 300 = b1 at *
  cases b1
  · go_enter Tryz.func3, Tryz.ntmps3
    go_wp2_with (first
      | (go_at_call 10; (with_reducible refine (K.fx _ hT).mono ?_); rintro e v ⟨rfl, hb⟩; replace HA := Lib.hid ((HA.out.below hb (Nat.le_refl _)).more hb.size); replace hT := K.keep hT hb; replace hw := Below.step hw hb; clear hb)
      | (go_at_call 9; (with_reducible refine (S1 _ HA.out).out.mono ?_); rintro e v ⟨rfl, rfl⟩)
      )
    go_ret
    exact ⟨rfl, hw⟩
  by_cases hs : 1500 < s.size
  · have hs2 : (1500 : Int) < s.size := by omega
    go_enter Tryz.func3, Tryz.ntmps3
    go_wp2_with (first
      | (go_at_call 10; (with_reducible refine (K.fx _ hT).mono ?_); rintro e v ⟨rfl, hb⟩; replace HA := Lib.hid ((HA.out.below hb (Nat.le_refl _)).more hb.size); replace hT := K.keep hT hb; replace hw := Below.step hw hb; clear hb)
      | (go_at_call 9; (with_reducible refine (S1 _ HA.out).out.mono ?_); rintro e v ⟨rfl, rfl⟩)
      )
    go_ret
    exact ⟨rfl, hw⟩
  have hs2 : (s.size : Int) ≤ 1500 := by omega
  by_cases hb : 300 < b.size
  · have hb2 : (300 : Int) < b.size := by omega
    go_enter Tryz.func3, Tryz.ntmps3
    go_wp2_with (first
      | (go_at_call 10; (with_reducible refine (K.fx _ hT).mono ?_); rintro e v ⟨rfl, hb⟩; replace HA := Lib.hid ((HA.out.below hb (Nat.le_refl _)).more hb.size); replace hT := K.keep hT hb; replace hw := Below.step hw hb; clear hb)
      | (go_at_call 9; (with_reducible refine (S1 _ HA.out).out.mono ?_); rintro e v ⟨rfl, rfl⟩)
      )
    go_ret
    exact ⟨rfl, hw⟩
  have hb2 : (b.size : Int) ≤ 300 := by omega
  have hsl : s.data.toList.length = s.size := rfl
  have hbl : b.data.toList.length = b.size := rfl
  have C1 := fun W (h1 : T W) => Lib.hid (K.parse s.data.toList W h1 (by omega))
  have C2 := fun W (h1 : T W) => Lib.hid (K.dec b.data.toList W h1 (by omega))
  have R1 := fun W (h1 : T W) => Lib.hid (R.parse s.data.toList W h1 (by omega))
  have R2 := fun W (h1 : T W) => Lib.hid (R.dec b.data.toList W h1 (by omega))
  rw [eta] at C1 C2 R1 R2
  have z1 := parse_sized s.data.toList
  have z2 := dec_sized b.data.toList
  generalize parseP s.data.toList = P at *
  generalize decP b.data.toList = Q at *
  obtain ⟨pa, na, ea⟩ := P
  obtain ⟨qc, ec⟩ := Q
  simp only at z1 z2 C1 C2 R1 R2
  have SX := fun W (A1 A2 : Option Addr) (c1 c2 : Nat) (h : ProgAt W W.heap.size A1 pa) (h' : ProgAt W W.heap.size A2 pa) => Lib.hid (psame_any c1 c2 W h z1 h' (Nat.le_refl _))
  have SU := fun W (A1 A2 : Option Addr) (c1 c2 : Nat) (h : ProgAt W W.heap.size A1 qc) (h' : ProgAt W W.heap.size A2 qc) => Lib.hid (psame_any c1 c2 W h z2 h' (Nat.le_refl _))
  have SC := fun W (h1 : T W) (A1 : Option Addr) (c1 : Nat) (h : ProgAt W W.heap.size A p) (h' : ProgAt W W.heap.size A1 pa) => Lib.hid (K.same c c1 W h1 h HZ.out h' z1 (Nat.le_refl _))
  have SR := fun W (A1 : Option Addr) (c1 : Nat) (h : ProgAt W W.heap.size A p) (h' : ProgAt W W.heap.size A1 pa) => Lib.hid (psame_any c c1 W h HZ.out h' (Nat.le_refl _))
  rw [(sameP_iff pa pa).2 rfl] at SX
  rw [(sameP_iff qc qc).2 rfl] at SU
  generalize sameP p pa = sb at *
  generalize D (encP p) = dg at *
  generalize mayP p = mp at *
  generalize textP p = t at *
  generalize encP p = u at *
  clear hs hb hsl hbl z1 z2
  go_enter Tryz.func3, Tryz.ntmps3
  go_wp2_with (first
    | (go_at_call 9; (with_reducible refine (S1 _ HA.out).out.mono ?_); rintro e v ⟨rfl, rfl⟩)
    | (go_at_call 11; (with_reducible refine (C1 _ hT).out.mono ?_); rintro e v ⟨A1, c1, rfl, hp1, hb⟩; replace HA := Lib.hid ((HA.out.below hb (Nat.le_refl _)).more hb.size); replace hT := K.keep hT hb; replace hw := Below.step hw hb; clear hb; have HX := Lib.hid hp1; clear hp1)
    | (go_at_call 12; (with_reducible refine (R1 _ hT).out.mono ?_); rintro e v ⟨A2, c2, rfl, hp2, hb⟩; replace HA := Lib.hid ((HA.out.below hb (Nat.le_refl _)).more hb.size); replace HX := Lib.hid ((HX.out.below hb (Nat.le_refl _)).more hb.size); replace hT := K.keep hT hb; replace hw := Below.step hw hb; clear hb; have HY := Lib.hid hp2; clear hp2)
    | (go_at_call 13; (with_reducible refine (C2 _ hT).out.mono ?_); rintro e v ⟨A3, c3, rfl, hp3, hb⟩; replace HA := Lib.hid ((HA.out.below hb (Nat.le_refl _)).more hb.size); replace HX := Lib.hid ((HX.out.below hb (Nat.le_refl _)).more hb.size); replace HY := Lib.hid ((HY.out.below hb (Nat.le_refl _)).more hb.size); replace hT := K.keep hT hb; replace hw := Below.step hw hb; clear hb; have HU := Lib.hid hp3; clear hp3)
    | (go_at_call 14; (with_reducible refine (R2 _ hT).out.mono ?_); rintro e v ⟨A4, c4, rfl, hp4, hb⟩; replace HA := Lib.hid ((HA.out.below hb (Nat.le_refl _)).more hb.size); replace HX := Lib.hid ((HX.out.below hb (Nat.le_refl _)).more hb.size); replace HY := Lib.hid ((HY.out.below hb (Nat.le_refl _)).more hb.size); replace HU := Lib.hid ((HU.out.below hb (Nat.le_refl _)).more hb.size); replace hT := K.keep hT hb; replace hw := Below.step hw hb; clear hb; have HV := Lib.hid hp4; clear hp4)
    | (go_at_call 10; (with_reducible refine (K.fx _ hT).mono ?_); rintro e v ⟨rfl, hb⟩; replace HA := Lib.hid ((HA.out.below hb (Nat.le_refl _)).more hb.size); replace HX := Lib.hid ((HX.out.below hb (Nat.le_refl _)).more hb.size); replace HY := Lib.hid ((HY.out.below hb (Nat.le_refl _)).more hb.size); replace HU := Lib.hid ((HU.out.below hb (Nat.le_refl _)).more hb.size); replace HV := Lib.hid ((HV.out.below hb (Nat.le_refl _)).more hb.size); replace hT := K.keep hT hb; replace hw := Below.step hw hb; clear hb)
    | (go_at_call 15; (with_reducible refine (MP _ hT HA.out).out.mono ?_); rintro e v ⟨rfl, hb⟩; replace HA := Lib.hid ((HA.out.below hb (Nat.le_refl _)).more hb.size); replace HX := Lib.hid ((HX.out.below hb (Nat.le_refl _)).more hb.size); replace HY := Lib.hid ((HY.out.below hb (Nat.le_refl _)).more hb.size); replace HU := Lib.hid ((HU.out.below hb (Nat.le_refl _)).more hb.size); replace HV := Lib.hid ((HV.out.below hb (Nat.le_refl _)).more hb.size); replace hT := K.keep hT hb; replace hw := Below.step hw hb; clear hb)
    | (go_at_call 16; (with_reducible refine (RM _ HA.out).out.mono ?_); rintro e v ⟨rfl, hb⟩; replace HA := Lib.hid ((HA.out.below hb (Nat.le_refl _)).more hb.size); replace HX := Lib.hid ((HX.out.below hb (Nat.le_refl _)).more hb.size); replace HY := Lib.hid ((HY.out.below hb (Nat.le_refl _)).more hb.size); replace HU := Lib.hid ((HU.out.below hb (Nat.le_refl _)).more hb.size); replace HV := Lib.hid ((HV.out.below hb (Nat.le_refl _)).more hb.size); replace hT := K.keep hT hb; replace hw := Below.step hw hb; clear hb)
    | (go_at_call 17; (with_reducible refine (TP _ hT HA.out).out.mono ?_); rintro e v ⟨rfl, hb⟩; replace HA := Lib.hid ((HA.out.below hb (Nat.le_refl _)).more hb.size); replace HX := Lib.hid ((HX.out.below hb (Nat.le_refl _)).more hb.size); replace HY := Lib.hid ((HY.out.below hb (Nat.le_refl _)).more hb.size); replace HU := Lib.hid ((HU.out.below hb (Nat.le_refl _)).more hb.size); replace HV := Lib.hid ((HV.out.below hb (Nat.le_refl _)).more hb.size); replace hT := K.keep hT hb; replace hw := Below.step hw hb; clear hb)
    | (go_at_call 18; (with_reducible refine (RT _ HA.out).out.mono ?_); rintro e v ⟨rfl, hb⟩; replace HA := Lib.hid ((HA.out.below hb (Nat.le_refl _)).more hb.size); replace HX := Lib.hid ((HX.out.below hb (Nat.le_refl _)).more hb.size); replace HY := Lib.hid ((HY.out.below hb (Nat.le_refl _)).more hb.size); replace HU := Lib.hid ((HU.out.below hb (Nat.le_refl _)).more hb.size); replace HV := Lib.hid ((HV.out.below hb (Nat.le_refl _)).more hb.size); replace hT := K.keep hT hb; replace hw := Below.step hw hb; clear hb)
    | (go_at_call 19; (with_reducible refine (EP _ hT HA.out).out.mono ?_); rintro e v ⟨rfl, hb⟩; replace HA := Lib.hid ((HA.out.below hb (Nat.le_refl _)).more hb.size); replace HX := Lib.hid ((HX.out.below hb (Nat.le_refl _)).more hb.size); replace HY := Lib.hid ((HY.out.below hb (Nat.le_refl _)).more hb.size); replace HU := Lib.hid ((HU.out.below hb (Nat.le_refl _)).more hb.size); replace HV := Lib.hid ((HV.out.below hb (Nat.le_refl _)).more hb.size); replace hT := K.keep hT hb; replace hw := Below.step hw hb; clear hb)
    | (go_at_call 20; (with_reducible refine (RE _ HA.out).out.mono ?_); rintro e v ⟨rfl, hb⟩; replace HA := Lib.hid ((HA.out.below hb (Nat.le_refl _)).more hb.size); replace HX := Lib.hid ((HX.out.below hb (Nat.le_refl _)).more hb.size); replace HY := Lib.hid ((HY.out.below hb (Nat.le_refl _)).more hb.size); replace HU := Lib.hid ((HU.out.below hb (Nat.le_refl _)).more hb.size); replace HV := Lib.hid ((HV.out.below hb (Nat.le_refl _)).more hb.size); replace hT := K.keep hT hb; replace hw := Below.step hw hb; clear hb)
    | (go_at_call 21; (with_reducible refine (DP _ hT HA.out).out.mono ?_); rintro e v ⟨rfl, hb⟩; replace HA := Lib.hid ((HA.out.below hb (Nat.le_refl _)).more hb.size); replace HX := Lib.hid ((HX.out.below hb (Nat.le_refl _)).more hb.size); replace HY := Lib.hid ((HY.out.below hb (Nat.le_refl _)).more hb.size); replace HU := Lib.hid ((HU.out.below hb (Nat.le_refl _)).more hb.size); replace HV := Lib.hid ((HV.out.below hb (Nat.le_refl _)).more hb.size); replace hT := K.keep hT hb; replace hw := Below.step hw hb; clear hb)
    | (go_at_call 22; (with_reducible refine (RD _ hT HA.out).out.mono ?_); rintro e v ⟨rfl, hb⟩; replace HA := Lib.hid ((HA.out.below hb (Nat.le_refl _)).more hb.size); replace HX := Lib.hid ((HX.out.below hb (Nat.le_refl _)).more hb.size); replace HY := Lib.hid ((HY.out.below hb (Nat.le_refl _)).more hb.size); replace HU := Lib.hid ((HU.out.below hb (Nat.le_refl _)).more hb.size); replace HV := Lib.hid ((HV.out.below hb (Nat.le_refl _)).more hb.size); replace hT := K.keep hT hb; replace hw := Below.step hw hb; clear hb)
    | (go_at_call 23; (with_reducible refine (SX _ _ _ _ _ HX.out HY.out).out.mono ?_); rintro e v ⟨rfl, hb⟩; replace HA := Lib.hid ((HA.out.below hb (Nat.le_refl _)).more hb.size); replace HX := Lib.hid ((HX.out.below hb (Nat.le_refl _)).more hb.size); replace HY := Lib.hid ((HY.out.below hb (Nat.le_refl _)).more hb.size); replace HU := Lib.hid ((HU.out.below hb (Nat.le_refl _)).more hb.size); replace HV := Lib.hid ((HV.out.below hb (Nat.le_refl _)).more hb.size); replace hT := K.keep hT hb; replace hw := Below.step hw hb; clear hb)
    | (go_at_call 23; (with_reducible refine (SU _ _ _ _ _ HU.out HV.out).out.mono ?_); rintro e v ⟨rfl, hb⟩; replace HA := Lib.hid ((HA.out.below hb (Nat.le_refl _)).more hb.size); replace HX := Lib.hid ((HX.out.below hb (Nat.le_refl _)).more hb.size); replace HY := Lib.hid ((HY.out.below hb (Nat.le_refl _)).more hb.size); replace HU := Lib.hid ((HU.out.below hb (Nat.le_refl _)).more hb.size); replace HV := Lib.hid ((HV.out.below hb (Nat.le_refl _)).more hb.size); replace hT := K.keep hT hb; replace hw := Below.step hw hb; clear hb)
    | (go_at_call 24; (with_reducible refine (SC _ hT _ _ HA.out HX.out).out.mono ?_); rintro e v ⟨rfl, hb⟩; replace HA := Lib.hid ((HA.out.below hb (Nat.le_refl _)).more hb.size); replace HX := Lib.hid ((HX.out.below hb (Nat.le_refl _)).more hb.size); replace HY := Lib.hid ((HY.out.below hb (Nat.le_refl _)).more hb.size); replace HU := Lib.hid ((HU.out.below hb (Nat.le_refl _)).more hb.size); replace HV := Lib.hid ((HV.out.below hb (Nat.le_refl _)).more hb.size); replace hT := K.keep hT hb; replace hw := Below.step hw hb; clear hb)
    | (go_at_call 23; (with_reducible refine (SR _ _ _ HA.out HX.out).out.mono ?_); rintro e v ⟨rfl, hb⟩; replace HA := Lib.hid ((HA.out.below hb (Nat.le_refl _)).more hb.size); replace HX := Lib.hid ((HX.out.below hb (Nat.le_refl _)).more hb.size); replace HY := Lib.hid ((HY.out.below hb (Nat.le_refl _)).more hb.size); replace HU := Lib.hid ((HU.out.below hb (Nat.le_refl _)).more hb.size); replace HV := Lib.hid ((HV.out.below hb (Nat.le_refl _)).more hb.size); replace hT := K.keep hT hb; replace hw := Below.step hw hb; clear hb)
    )
  go_ret
  exact ⟨rfl, hw⟩
set_option maxRecDepth 100000 in
/-- The walk, its arguments opened. -/
theorem entryK {T : World → Prop} {D : List UInt8 → Int} (K : CodeC T D) (R : RefC T D) {H : Type} {enc : TypeId × Value → H} (W : World) (base : Nat) (v0 v1 v2 : Value) (d0 d1 d2 : DataW H) (p0 p1 p2 : List MemPlace)
    (k0 : Value.okWide Tryz.prog W .any base 23 v0)
    (k1 : Value.okWide Tryz.prog W .any base 9 v1)
    (k2 : Value.okWide Tryz.prog W .any base 9 v2)
    (h0 : DataW.Trod enc Tryz.prog W 0 (fun _ => true) true 23 v0 d0 p0)
    (h1 : DataW.Trod enc Tryz.prog W 0 (fun _ => true) true 9 v1 d1 p1)
    (h2 : DataW.Trod enc Tryz.prog W 0 (fun _ => true) true 9 v2 d2 p2)
    (hT : T W) : Calls Tryz.prog 3 #[v0, v1, v2] W fun e w' => e = .returned (.bool true) ∧ Below W.heap.size W w' := by
  obtain ⟨A0, c0, ps0, rfl, hp0, hz0⟩ := open_prog k0 h0
  obtain ⟨s1, rfl, _, _, _⟩ := Go.ChangeMaps.open_string Tryz.underlying9 k1 h1
  obtain ⟨s2, rfl, _, _, _⟩ := Go.ChangeMaps.open_string Tryz.underlying9 k2 h2
  exact walk K R c0 s1 s2 W hT hp0 hz0
end Go.Proofs.YtcfdbciooimjmaaGreatDoor.codeTells

