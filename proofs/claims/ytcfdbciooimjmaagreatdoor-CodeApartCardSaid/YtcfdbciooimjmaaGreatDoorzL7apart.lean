/- Layer 7: CodeApart: programs that may be are the same just if their texts are, and just if their bytes are. For all programs. -/
import Derived.Test.YtcfdbciooimjmaaGreatDoorzGm
import Derived.OpenShut
namespace Go.Proofs.YtcfdbciooimjmaaGreatDoor.codeApart
set_option linter.unusedVariables false
set_option linter.unusedSimpArgs false
open Go.ChangeShapes Go.WideShapes Go.ChangeAt Go.RowKit Go.Sort

set_option maxHeartbeats 4000000 in
set_option maxRecDepth 100000 in
theorem walk {T : World → Prop} {D : List UInt8 → Int} (K : CodeC T D) {A A' : Option Addr} {p q : List Fun} (c c' : Nat) (w : World) (hT : T w) (ha : ProgAt w w.heap.size A p) (hb : ProgAt w w.heap.size A' q) (hz : SizedP p) (hy : SizedP q) :
    Calls Tryz.prog 5 #[.slice A p.length c, .slice A' q.length c'] w fun e w' => e = .returned (.bool true) ∧ Below w.heap.size w w' := by
  have hw : Below w.heap.size w w := Below.refl _ _
  have S1 := fun W (h : ProgAt W w.heap.size A p) => Lib.hid (psmall_any c 300 W h)
  have S2 := fun W (h : ProgAt W w.heap.size A' q) => Lib.hid (psmall_any c' 300 W h)
  have MP := fun W (h1 : T W) (h : ProgAt W w.heap.size A p) (h2 : w.heap.size ≤ W.heap.size) => Lib.hid (K.may c W h1 h hz h2)
  have MQ := fun W (h1 : T W) (h : ProgAt W w.heap.size A' q) (h2 : w.heap.size ≤ W.heap.size) => Lib.hid (K.may c' W h1 h hy h2)
  have TP := fun W (h1 : T W) (h : ProgAt W w.heap.size A p) (h2 : w.heap.size ≤ W.heap.size) => Lib.hid (K.text c W h1 h hz h2)
  have TQ := fun W (h1 : T W) (h : ProgAt W w.heap.size A' q) (h2 : w.heap.size ≤ W.heap.size) => Lib.hid (K.text c' W h1 h hy h2)
  have EP := fun W (h1 : T W) (h : ProgAt W w.heap.size A p) (h2 : w.heap.size ≤ W.heap.size) => Lib.hid (K.enc c W h1 h hz h2)
  have EQ := fun W (h1 : T W) (h : ProgAt W w.heap.size A' q) (h2 : w.heap.size ≤ W.heap.size) => Lib.hid (K.enc c' W h1 h hy h2)
  have DP := fun W (h1 : T W) (h : ProgAt W w.heap.size A p) (h2 : w.heap.size ≤ W.heap.size) => Lib.hid (K.dig c W h1 h hz h2)
  have DQ := fun W (h1 : T W) (h : ProgAt W w.heap.size A' q) (h2 : w.heap.size ≤ W.heap.size) => Lib.hid (K.dig c' W h1 h hy h2)
  have SPQ := fun W (h1 : T W) (h : ProgAt W w.heap.size A p) (h' : ProgAt W w.heap.size A' q) (h2 : w.heap.size ≤ W.heap.size) => Lib.hid (K.same c c' W h1 h hz h' hy h2)
  have SQP := fun W (h1 : T W) (h : ProgAt W w.heap.size A' q) (h' : ProgAt W w.heap.size A p) (h2 : w.heap.size ≤ W.heap.size) => Lib.hid (K.same c' c W h1 h hy h' hz h2)
  have HA := Lib.hid ha
  have HB := Lib.hid hb
  clear ha hb hz hy
  generalize smallP p 300 = b1 at *
  generalize smallP q 300 = b2 at *
  cases b1
  · go_enter Tryz.func5, Tryz.ntmps5
    go_wp2_with (first
      | (go_at_call 10; (with_reducible refine (K.fx _ hT).mono ?_); rintro e v ⟨rfl, hb⟩; replace HA := Lib.hid (HA.out.below hb hw.size); replace HB := Lib.hid (HB.out.below hb hw.size); replace hT := K.keep hT hb; replace hw := Below.step hw hb; clear hb)
      | (go_at_call 9; (with_reducible refine (S1 _ HA.out).out.mono ?_); rintro e v ⟨rfl, rfl⟩)
      | (go_at_call 9; (with_reducible refine (S2 _ HB.out).out.mono ?_); rintro e v ⟨rfl, rfl⟩)
      | (go_at_call 15; (with_reducible refine (MP _ hT HA.out hw.size).out.mono ?_); rintro e v ⟨rfl, hb⟩; replace HA := Lib.hid (HA.out.below hb hw.size); replace HB := Lib.hid (HB.out.below hb hw.size); replace hT := K.keep hT hb; replace hw := Below.step hw hb; clear hb)
      | (go_at_call 15; (with_reducible refine (MQ _ hT HB.out hw.size).out.mono ?_); rintro e v ⟨rfl, hb⟩; replace HA := Lib.hid (HA.out.below hb hw.size); replace HB := Lib.hid (HB.out.below hb hw.size); replace hT := K.keep hT hb; replace hw := Below.step hw hb; clear hb)
      )
    go_ret
    exact ⟨rfl, hw⟩
  cases b2
  · go_enter Tryz.func5, Tryz.ntmps5
    go_wp2_with (first
      | (go_at_call 10; (with_reducible refine (K.fx _ hT).mono ?_); rintro e v ⟨rfl, hb⟩; replace HA := Lib.hid (HA.out.below hb hw.size); replace HB := Lib.hid (HB.out.below hb hw.size); replace hT := K.keep hT hb; replace hw := Below.step hw hb; clear hb)
      | (go_at_call 9; (with_reducible refine (S1 _ HA.out).out.mono ?_); rintro e v ⟨rfl, rfl⟩)
      | (go_at_call 9; (with_reducible refine (S2 _ HB.out).out.mono ?_); rintro e v ⟨rfl, rfl⟩)
      | (go_at_call 15; (with_reducible refine (MP _ hT HA.out hw.size).out.mono ?_); rintro e v ⟨rfl, hb⟩; replace HA := Lib.hid (HA.out.below hb hw.size); replace HB := Lib.hid (HB.out.below hb hw.size); replace hT := K.keep hT hb; replace hw := Below.step hw hb; clear hb)
      | (go_at_call 15; (with_reducible refine (MQ _ hT HB.out hw.size).out.mono ?_); rintro e v ⟨rfl, hb⟩; replace HA := Lib.hid (HA.out.below hb hw.size); replace HB := Lib.hid (HB.out.below hb hw.size); replace hT := K.keep hT hb; replace hw := Below.step hw hb; clear hb)
      )
    go_ret
    exact ⟨rfl, hw⟩
  cases hp : mayP p
  · rw [hp] at MP
    clear hp
    go_enter Tryz.func5, Tryz.ntmps5
    go_wp2_with (first
      | (go_at_call 10; (with_reducible refine (K.fx _ hT).mono ?_); rintro e v ⟨rfl, hb⟩; replace HA := Lib.hid (HA.out.below hb hw.size); replace HB := Lib.hid (HB.out.below hb hw.size); replace hT := K.keep hT hb; replace hw := Below.step hw hb; clear hb)
      | (go_at_call 9; (with_reducible refine (S1 _ HA.out).out.mono ?_); rintro e v ⟨rfl, rfl⟩)
      | (go_at_call 9; (with_reducible refine (S2 _ HB.out).out.mono ?_); rintro e v ⟨rfl, rfl⟩)
      | (go_at_call 15; (with_reducible refine (MP _ hT HA.out hw.size).out.mono ?_); rintro e v ⟨rfl, hb⟩; replace HA := Lib.hid (HA.out.below hb hw.size); replace HB := Lib.hid (HB.out.below hb hw.size); replace hT := K.keep hT hb; replace hw := Below.step hw hb; clear hb)
      | (go_at_call 15; (with_reducible refine (MQ _ hT HB.out hw.size).out.mono ?_); rintro e v ⟨rfl, hb⟩; replace HA := Lib.hid (HA.out.below hb hw.size); replace HB := Lib.hid (HB.out.below hb hw.size); replace hT := K.keep hT hb; replace hw := Below.step hw hb; clear hb)
      )
    go_ret
    exact ⟨rfl, hw⟩
  cases hq : mayP q
  · rw [hp] at MP
    rw [hq] at MQ
    clear hp hq
    go_enter Tryz.func5, Tryz.ntmps5
    go_wp2_with (first
      | (go_at_call 10; (with_reducible refine (K.fx _ hT).mono ?_); rintro e v ⟨rfl, hb⟩; replace HA := Lib.hid (HA.out.below hb hw.size); replace HB := Lib.hid (HB.out.below hb hw.size); replace hT := K.keep hT hb; replace hw := Below.step hw hb; clear hb)
      | (go_at_call 9; (with_reducible refine (S1 _ HA.out).out.mono ?_); rintro e v ⟨rfl, rfl⟩)
      | (go_at_call 9; (with_reducible refine (S2 _ HB.out).out.mono ?_); rintro e v ⟨rfl, rfl⟩)
      | (go_at_call 15; (with_reducible refine (MP _ hT HA.out hw.size).out.mono ?_); rintro e v ⟨rfl, hb⟩; replace HA := Lib.hid (HA.out.below hb hw.size); replace HB := Lib.hid (HB.out.below hb hw.size); replace hT := K.keep hT hb; replace hw := Below.step hw hb; clear hb)
      | (go_at_call 15; (with_reducible refine (MQ _ hT HB.out hw.size).out.mono ?_); rintro e v ⟨rfl, hb⟩; replace HA := Lib.hid (HA.out.below hb hw.size); replace HB := Lib.hid (HB.out.below hb hw.size); replace hT := K.keep hT hb; replace hw := Below.step hw hb; clear hb)
      )
    go_ret
    exact ⟨rfl, hw⟩
  rw [hp] at MP
  rw [hq] at MQ
  by_cases he : p = q
  · subst he
    have e1 : sameP p p = true := (sameP_iff p p).2 rfl
    rw [e1] at SPQ SQP
    generalize textP p = t at *
    generalize encP p = u at *
    clear e1 hp hq
    go_enter Tryz.func5, Tryz.ntmps5
    go_wp2_with (first
      | (go_at_call 10; (with_reducible refine (K.fx _ hT).mono ?_); rintro e v ⟨rfl, hb⟩; replace HA := Lib.hid (HA.out.below hb hw.size); replace HB := Lib.hid (HB.out.below hb hw.size); replace hT := K.keep hT hb; replace hw := Below.step hw hb; clear hb)
      | (go_at_call 9; (with_reducible refine (S1 _ HA.out).out.mono ?_); rintro e v ⟨rfl, rfl⟩)
      | (go_at_call 9; (with_reducible refine (S2 _ HB.out).out.mono ?_); rintro e v ⟨rfl, rfl⟩)
      | (go_at_call 15; (with_reducible refine (MP _ hT HA.out hw.size).out.mono ?_); rintro e v ⟨rfl, hb⟩; replace HA := Lib.hid (HA.out.below hb hw.size); replace HB := Lib.hid (HB.out.below hb hw.size); replace hT := K.keep hT hb; replace hw := Below.step hw hb; clear hb)
      | (go_at_call 15; (with_reducible refine (MQ _ hT HB.out hw.size).out.mono ?_); rintro e v ⟨rfl, hb⟩; replace HA := Lib.hid (HA.out.below hb hw.size); replace HB := Lib.hid (HB.out.below hb hw.size); replace hT := K.keep hT hb; replace hw := Below.step hw hb; clear hb)
      | (go_at_call 24; (with_reducible refine (SPQ _ hT HA.out HB.out hw.size).out.mono ?_); rintro e v ⟨rfl, hb⟩; replace HA := Lib.hid (HA.out.below hb hw.size); replace HB := Lib.hid (HB.out.below hb hw.size); replace hT := K.keep hT hb; replace hw := Below.step hw hb; clear hb)
      | (go_at_call 24; (with_reducible refine (SQP _ hT HB.out HA.out hw.size).out.mono ?_); rintro e v ⟨rfl, hb⟩; replace HA := Lib.hid (HA.out.below hb hw.size); replace HB := Lib.hid (HB.out.below hb hw.size); replace hT := K.keep hT hb; replace hw := Below.step hw hb; clear hb)
      | (go_at_call 17; (with_reducible refine (TP _ hT HA.out hw.size).out.mono ?_); rintro e v ⟨rfl, hb⟩; replace HA := Lib.hid (HA.out.below hb hw.size); replace HB := Lib.hid (HB.out.below hb hw.size); replace hT := K.keep hT hb; replace hw := Below.step hw hb; clear hb)
      | (go_at_call 17; (with_reducible refine (TQ _ hT HB.out hw.size).out.mono ?_); rintro e v ⟨rfl, hb⟩; replace HA := Lib.hid (HA.out.below hb hw.size); replace HB := Lib.hid (HB.out.below hb hw.size); replace hT := K.keep hT hb; replace hw := Below.step hw hb; clear hb)
      | (go_at_call 19; (with_reducible refine (EP _ hT HA.out hw.size).out.mono ?_); rintro e v ⟨rfl, hb⟩; replace HA := Lib.hid (HA.out.below hb hw.size); replace HB := Lib.hid (HB.out.below hb hw.size); replace hT := K.keep hT hb; replace hw := Below.step hw hb; clear hb)
      | (go_at_call 19; (with_reducible refine (EQ _ hT HB.out hw.size).out.mono ?_); rintro e v ⟨rfl, hb⟩; replace HA := Lib.hid (HA.out.below hb hw.size); replace HB := Lib.hid (HB.out.below hb hw.size); replace hT := K.keep hT hb; replace hw := Below.step hw hb; clear hb)
      | (go_at_call 21; (with_reducible refine (DP _ hT HA.out hw.size).out.mono ?_); rintro e v ⟨rfl, hb⟩; replace HA := Lib.hid (HA.out.below hb hw.size); replace HB := Lib.hid (HB.out.below hb hw.size); replace hT := K.keep hT hb; replace hw := Below.step hw hb; clear hb)
      | (go_at_call 21; (with_reducible refine (DQ _ hT HB.out hw.size).out.mono ?_); rintro e v ⟨rfl, hb⟩; replace HA := Lib.hid (HA.out.below hb hw.size); replace HB := Lib.hid (HB.out.below hb hw.size); replace hT := K.keep hT hb; replace hw := Below.step hw hb; clear hb)
      )
    go_ret
    exact ⟨rfl, hw⟩
  · have e1 : sameP p q = false := sameP_no he
    have e2 : sameP q p = false := sameP_no (Ne.symm he)
    rw [e1] at SPQ
    rw [e2] at SQP
    have e3 : (textP p == textP q) = false := beq_eq_false_iff_ne.2 fun e => he (textP_inj hp hq e)
    have e4 : (encP p == encP q) = false := beq_eq_false_iff_ne.2 fun e => he (encP_inj hp hq e)
    generalize textP p = t at *
    generalize textP q = t' at *
    generalize encP p = u at *
    generalize encP q = u' at *
    clear e1 e2 hp hq he
    go_enter Tryz.func5, Tryz.ntmps5
    go_wp2_with (first
      | (go_at_call 10; (with_reducible refine (K.fx _ hT).mono ?_); rintro e v ⟨rfl, hb⟩; replace HA := Lib.hid (HA.out.below hb hw.size); replace HB := Lib.hid (HB.out.below hb hw.size); replace hT := K.keep hT hb; replace hw := Below.step hw hb; clear hb)
      | (go_at_call 9; (with_reducible refine (S1 _ HA.out).out.mono ?_); rintro e v ⟨rfl, rfl⟩)
      | (go_at_call 9; (with_reducible refine (S2 _ HB.out).out.mono ?_); rintro e v ⟨rfl, rfl⟩)
      | (go_at_call 15; (with_reducible refine (MP _ hT HA.out hw.size).out.mono ?_); rintro e v ⟨rfl, hb⟩; replace HA := Lib.hid (HA.out.below hb hw.size); replace HB := Lib.hid (HB.out.below hb hw.size); replace hT := K.keep hT hb; replace hw := Below.step hw hb; clear hb)
      | (go_at_call 15; (with_reducible refine (MQ _ hT HB.out hw.size).out.mono ?_); rintro e v ⟨rfl, hb⟩; replace HA := Lib.hid (HA.out.below hb hw.size); replace HB := Lib.hid (HB.out.below hb hw.size); replace hT := K.keep hT hb; replace hw := Below.step hw hb; clear hb)
      | (go_at_call 24; (with_reducible refine (SPQ _ hT HA.out HB.out hw.size).out.mono ?_); rintro e v ⟨rfl, hb⟩; replace HA := Lib.hid (HA.out.below hb hw.size); replace HB := Lib.hid (HB.out.below hb hw.size); replace hT := K.keep hT hb; replace hw := Below.step hw hb; clear hb)
      | (go_at_call 24; (with_reducible refine (SQP _ hT HB.out HA.out hw.size).out.mono ?_); rintro e v ⟨rfl, hb⟩; replace HA := Lib.hid (HA.out.below hb hw.size); replace HB := Lib.hid (HB.out.below hb hw.size); replace hT := K.keep hT hb; replace hw := Below.step hw hb; clear hb)
      | (go_at_call 17; (with_reducible refine (TP _ hT HA.out hw.size).out.mono ?_); rintro e v ⟨rfl, hb⟩; replace HA := Lib.hid (HA.out.below hb hw.size); replace HB := Lib.hid (HB.out.below hb hw.size); replace hT := K.keep hT hb; replace hw := Below.step hw hb; clear hb)
      | (go_at_call 17; (with_reducible refine (TQ _ hT HB.out hw.size).out.mono ?_); rintro e v ⟨rfl, hb⟩; replace HA := Lib.hid (HA.out.below hb hw.size); replace HB := Lib.hid (HB.out.below hb hw.size); replace hT := K.keep hT hb; replace hw := Below.step hw hb; clear hb)
      | (go_at_call 19; (with_reducible refine (EP _ hT HA.out hw.size).out.mono ?_); rintro e v ⟨rfl, hb⟩; replace HA := Lib.hid (HA.out.below hb hw.size); replace HB := Lib.hid (HB.out.below hb hw.size); replace hT := K.keep hT hb; replace hw := Below.step hw hb; clear hb)
      | (go_at_call 19; (with_reducible refine (EQ _ hT HB.out hw.size).out.mono ?_); rintro e v ⟨rfl, hb⟩; replace HA := Lib.hid (HA.out.below hb hw.size); replace HB := Lib.hid (HB.out.below hb hw.size); replace hT := K.keep hT hb; replace hw := Below.step hw hb; clear hb)
      | (go_at_call 21; (with_reducible refine (DP _ hT HA.out hw.size).out.mono ?_); rintro e v ⟨rfl, hb⟩; replace HA := Lib.hid (HA.out.below hb hw.size); replace HB := Lib.hid (HB.out.below hb hw.size); replace hT := K.keep hT hb; replace hw := Below.step hw hb; clear hb)
      | (go_at_call 21; (with_reducible refine (DQ _ hT HB.out hw.size).out.mono ?_); rintro e v ⟨rfl, hb⟩; replace HA := Lib.hid (HA.out.below hb hw.size); replace HB := Lib.hid (HB.out.below hb hw.size); replace hT := K.keep hT hb; replace hw := Below.step hw hb; clear hb)
      )
    go_ret
    exact ⟨rfl, hw⟩
set_option maxRecDepth 100000 in
/-- The walk, its arguments opened. -/
theorem entryK {T : World → Prop} {D : List UInt8 → Int} (K : CodeC T D) {H : Type} {enc : TypeId × Value → H} (W : World) (base : Nat) (v0 v1 : Value) (d0 d1 : DataW H) (p0 p1 : List MemPlace)
    (k0 : Value.okWide Tryz.prog W .any base 23 v0)
    (k1 : Value.okWide Tryz.prog W .any base 23 v1)
    (h0 : DataW.Trod enc Tryz.prog W 0 (fun _ => true) true 23 v0 d0 p0)
    (h1 : DataW.Trod enc Tryz.prog W 0 (fun _ => true) true 23 v1 d1 p1)
    (hT : T W) : Calls Tryz.prog 5 #[v0, v1] W fun e w' => e = .returned (.bool true) ∧ Below W.heap.size W w' := by
  obtain ⟨A0, c0, ps0, rfl, hp0, hz0⟩ := open_prog k0 h0
  obtain ⟨A1, c1, ps1, rfl, hp1, hz1⟩ := open_prog k1 h1
  exact walk K c0 c1 W hT hp0 hp1 hz0 hz1
end Go.Proofs.YtcfdbciooimjmaaGreatDoor.codeApart

