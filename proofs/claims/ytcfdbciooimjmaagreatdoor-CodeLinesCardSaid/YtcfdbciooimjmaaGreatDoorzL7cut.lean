/- Layer 7: CodeCut: no bytes that a program's begin with are one, but all of them; nor with a byte more. For all programs. -/
import Derived.Test.YtcfdbciooimjmaaGreatDoorzGm
import Derived.OpenShut
import Derived.Test.YtcfdbciooimjmaaGreatDoorzPr5
namespace Go.Proofs.YtcfdbciooimjmaaGreatDoor.codeCut
set_option linter.unusedVariables false
set_option linter.unusedSimpArgs false
open Go.ChangeShapes Go.WideShapes Go.ChangeAt Go.RowKit Go.Sort

theorem cut_take (l : List UInt8) (k : Nat) : (⟨l.toArray⟩ : ByteArray).extract 0 k = ⟨(l.take k).toArray⟩ := by
  apply ByteArray.ext
  apply Array.toList_inj.1
  simp [ByteArray.data_extract, Array.toList_extract, List.extract_eq_take_drop]
set_option maxHeartbeats 4000000 in
set_option maxRecDepth 100000 in
theorem walk {T : World → Prop} {D : List UInt8 → Int} (K : CodeC T D) {A : Option Addr} {p : List Fun} (c : Nat) (k : Int) (m : ByteArray) (w : World) (hT : T w) (ha : ProgAt w w.heap.size A p) (hz : SizedP p) :
    Calls Tryz.prog 6 #[.slice A p.length c, .int .i64 k, .string m] w fun e w' => e = .returned (.bool true) ∧ Below w.heap.size w w' := by
  have hw : Below w.heap.size w w := Below.refl _ _
  have S1 := fun W (h : ProgAt W W.heap.size A p) => Lib.hid (psmall_any c 300 W h)
  have MP := fun W (h1 : T W) (h : ProgAt W W.heap.size A p) => Lib.hid (K.may c W h1 h hz (Nat.le_refl _))
  have EP := fun W (h1 : T W) (h : ProgAt W W.heap.size A p) => Lib.hid (K.enc c W h1 h hz (Nat.le_refl _))
  have HA := Lib.hid ha
  clear ha hz
  generalize smallP p 300 = b1 at *
  cases b1
  · go_enter Tryz.func6, Tryz.ntmps6
    go_wp2_with (first
      | (go_at_call 10; (with_reducible refine (K.fx _ hT).mono ?_); rintro e v ⟨rfl, hb⟩; replace HA := Lib.hid ((HA.out.below hb (Nat.le_refl _)).more hb.size); replace hT := K.keep hT hb; replace hw := Below.step hw hb; clear hb)
      | (go_at_call 9; (with_reducible refine (S1 _ HA.out).out.mono ?_); rintro e v ⟨rfl, rfl⟩)
      | (go_at_call 15; (with_reducible refine (MP _ hT HA.out).out.mono ?_); rintro e v ⟨rfl, hb⟩; replace HA := Lib.hid ((HA.out.below hb (Nat.le_refl _)).more hb.size); replace hT := K.keep hT hb; replace hw := Below.step hw hb; clear hb)
      | (go_at_call 19; (with_reducible refine (EP _ hT HA.out).out.mono ?_); rintro e v ⟨rfl, hb⟩; replace HA := Lib.hid ((HA.out.below hb (Nat.le_refl _)).more hb.size); replace hT := K.keep hT hb; replace hw := Below.step hw hb; clear hb)
      )
    go_ret
    exact ⟨rfl, hw⟩
  cases hp : mayP p
  · rw [hp] at MP
    clear hp
    go_enter Tryz.func6, Tryz.ntmps6
    go_wp2_with (first
      | (go_at_call 10; (with_reducible refine (K.fx _ hT).mono ?_); rintro e v ⟨rfl, hb⟩; replace HA := Lib.hid ((HA.out.below hb (Nat.le_refl _)).more hb.size); replace hT := K.keep hT hb; replace hw := Below.step hw hb; clear hb)
      | (go_at_call 9; (with_reducible refine (S1 _ HA.out).out.mono ?_); rintro e v ⟨rfl, rfl⟩)
      | (go_at_call 15; (with_reducible refine (MP _ hT HA.out).out.mono ?_); rintro e v ⟨rfl, hb⟩; replace HA := Lib.hid ((HA.out.below hb (Nat.le_refl _)).more hb.size); replace hT := K.keep hT hb; replace hw := Below.step hw hb; clear hb)
      | (go_at_call 19; (with_reducible refine (EP _ hT HA.out).out.mono ?_); rintro e v ⟨rfl, hb⟩; replace HA := Lib.hid ((HA.out.below hb (Nat.le_refl _)).more hb.size); replace hT := K.keep hT hb; replace hw := Below.step hw hb; clear hb)
      )
    go_ret
    exact ⟨rfl, hw⟩
  rw [hp] at MP
  by_cases hm : 100 < m.size
  · have hm2 : (100 : Int) < m.size := by omega
    clear hp
    go_enter Tryz.func6, Tryz.ntmps6
    go_wp2_with (first
      | (go_at_call 10; (with_reducible refine (K.fx _ hT).mono ?_); rintro e v ⟨rfl, hb⟩; replace HA := Lib.hid ((HA.out.below hb (Nat.le_refl _)).more hb.size); replace hT := K.keep hT hb; replace hw := Below.step hw hb; clear hb)
      | (go_at_call 9; (with_reducible refine (S1 _ HA.out).out.mono ?_); rintro e v ⟨rfl, rfl⟩)
      | (go_at_call 15; (with_reducible refine (MP _ hT HA.out).out.mono ?_); rintro e v ⟨rfl, hb⟩; replace HA := Lib.hid ((HA.out.below hb (Nat.le_refl _)).more hb.size); replace hT := K.keep hT hb; replace hw := Below.step hw hb; clear hb)
      | (go_at_call 19; (with_reducible refine (EP _ hT HA.out).out.mono ?_); rintro e v ⟨rfl, hb⟩; replace HA := Lib.hid ((HA.out.below hb (Nat.le_refl _)).more hb.size); replace hT := K.keep hT hb; replace hw := Below.step hw hb; clear hb)
      )
    go_ret
    exact ⟨rfl, hw⟩
  have hm2 : (m.size : Int) ≤ 100 := by omega
  have hlen : (encP p).length ≤ 48455 := by rw [encP_in hp, ← encUp_all]; exact encUp_len hp _
  have hcut := fun j => dec_cut hp (j := j)
  have henc := fun l => dec_enc hp l
  generalize encP p = u at *
  have hus : (⟨u.toArray⟩ : ByteArray).size = u.length := by show u.toArray.size = _; simp
  by_cases hk : k < 0
  · clear hcut henc hp
    go_enter Tryz.func6, Tryz.ntmps6
    go_wp2_with (first
      | (go_at_call 10; (with_reducible refine (K.fx _ hT).mono ?_); rintro e v ⟨rfl, hb⟩; replace HA := Lib.hid ((HA.out.below hb (Nat.le_refl _)).more hb.size); replace hT := K.keep hT hb; replace hw := Below.step hw hb; clear hb)
      | (go_at_call 9; (with_reducible refine (S1 _ HA.out).out.mono ?_); rintro e v ⟨rfl, rfl⟩)
      | (go_at_call 15; (with_reducible refine (MP _ hT HA.out).out.mono ?_); rintro e v ⟨rfl, hb⟩; replace HA := Lib.hid ((HA.out.below hb (Nat.le_refl _)).more hb.size); replace hT := K.keep hT hb; replace hw := Below.step hw hb; clear hb)
      | (go_at_call 19; (with_reducible refine (EP _ hT HA.out).out.mono ?_); rintro e v ⟨rfl, hb⟩; replace HA := Lib.hid ((HA.out.below hb (Nat.le_refl _)).more hb.size); replace hT := K.keep hT hb; replace hw := Below.step hw hb; clear hb)
      )
    go_ret
    exact ⟨rfl, hw⟩
  by_cases hk2 : (u.length : Int) ≤ k
  · clear hcut henc hp
    go_enter Tryz.func6, Tryz.ntmps6
    go_wp2_with (first
      | (go_at_call 10; (with_reducible refine (K.fx _ hT).mono ?_); rintro e v ⟨rfl, hb⟩; replace HA := Lib.hid ((HA.out.below hb (Nat.le_refl _)).more hb.size); replace hT := K.keep hT hb; replace hw := Below.step hw hb; clear hb)
      | (go_at_call 9; (with_reducible refine (S1 _ HA.out).out.mono ?_); rintro e v ⟨rfl, rfl⟩)
      | (go_at_call 15; (with_reducible refine (MP _ hT HA.out).out.mono ?_); rintro e v ⟨rfl, hb⟩; replace HA := Lib.hid ((HA.out.below hb (Nat.le_refl _)).more hb.size); replace hT := K.keep hT hb; replace hw := Below.step hw hb; clear hb)
      | (go_at_call 19; (with_reducible refine (EP _ hT HA.out).out.mono ?_); rintro e v ⟨rfl, hb⟩; replace HA := Lib.hid ((HA.out.below hb (Nat.le_refl _)).more hb.size); replace hT := K.keep hT hb; replace hw := Below.step hw hb; clear hb)
      )
    go_ret
    exact ⟨rfl, hw⟩
  obtain ⟨j, rfl⟩ := Int.eq_ofNat_of_zero_le (show 0 ≤ k by omega)
  have hj : j < u.length := by omega
  have h1 := hcut j hj
  have h2 := henc m.data.toList
  have e1 := cut_take u j
  have e2 := bytes_append u m
  have C1 := fun W (h1 : T W) => Lib.hid (K.dec (u.take j) W h1 (by rw [List.length_take]; omega))
  have C2 := fun W (h1 : T W) => Lib.hid (K.dec (u ++ m.data.toList) W h1 (by rw [List.length_append]; have : m.data.toList.length = m.size := rfl; omega))
  rw [h1, ← e1] at C1
  rw [h2, ← e2] at C2
  have hs2 : u.length + m.size ≤ 9223372036854775807 := by omega
  clear hcut henc hp h1 h2 e1 e2
  by_cases hme : m.data.toList = []
  · have hq : (m.toList == []) = true := by rw [ByteArray.toList_eq, hme]; rfl
    rw [if_pos hme] at C2
    clear hme
    go_enter Tryz.func6, Tryz.ntmps6
    go_wp2_with (first
      | (go_at_call 10; (with_reducible refine (K.fx _ hT).mono ?_); rintro e v ⟨rfl, hb⟩; replace HA := Lib.hid ((HA.out.below hb (Nat.le_refl _)).more hb.size); replace hT := K.keep hT hb; replace hw := Below.step hw hb; clear hb)
      | (go_at_call 9; (with_reducible refine (S1 _ HA.out).out.mono ?_); rintro e v ⟨rfl, rfl⟩)
      | (go_at_call 15; (with_reducible refine (MP _ hT HA.out).out.mono ?_); rintro e v ⟨rfl, hb⟩; replace HA := Lib.hid ((HA.out.below hb (Nat.le_refl _)).more hb.size); replace hT := K.keep hT hb; replace hw := Below.step hw hb; clear hb)
      | (go_at_call 19; (with_reducible refine (EP _ hT HA.out).out.mono ?_); rintro e v ⟨rfl, hb⟩; replace HA := Lib.hid ((HA.out.below hb (Nat.le_refl _)).more hb.size); replace hT := K.keep hT hb; replace hw := Below.step hw hb; clear hb)
      | (go_at_call 13; (with_reducible refine (C1 _ hT).out.mono ?_); rintro e v ⟨A1, c1, rfl, hp1, hb⟩; replace HA := Lib.hid ((HA.out.below hb (Nat.le_refl _)).more hb.size); replace hT := K.keep hT hb; replace hw := Below.step hw hb; clear hb; clear hp1)
      | (go_at_call 13; (with_reducible refine (C2 _ hT).out.mono ?_); rintro e v ⟨A2, c2, rfl, hp2, hb⟩; replace HA := Lib.hid ((HA.out.below hb (Nat.le_refl _)).more hb.size); replace hT := K.keep hT hb; replace hw := Below.step hw hb; clear hb; clear hp2)
      )
    go_ret
    exact ⟨rfl, hw⟩
  · have hq : (m.toList == []) = false := by rw [ByteArray.toList_eq]; exact beq_eq_false_iff_ne.2 hme
    rw [if_neg hme] at C2
    clear hme
    go_enter Tryz.func6, Tryz.ntmps6
    go_wp2_with (first
      | (go_at_call 10; (with_reducible refine (K.fx _ hT).mono ?_); rintro e v ⟨rfl, hb⟩; replace HA := Lib.hid ((HA.out.below hb (Nat.le_refl _)).more hb.size); replace hT := K.keep hT hb; replace hw := Below.step hw hb; clear hb)
      | (go_at_call 9; (with_reducible refine (S1 _ HA.out).out.mono ?_); rintro e v ⟨rfl, rfl⟩)
      | (go_at_call 15; (with_reducible refine (MP _ hT HA.out).out.mono ?_); rintro e v ⟨rfl, hb⟩; replace HA := Lib.hid ((HA.out.below hb (Nat.le_refl _)).more hb.size); replace hT := K.keep hT hb; replace hw := Below.step hw hb; clear hb)
      | (go_at_call 19; (with_reducible refine (EP _ hT HA.out).out.mono ?_); rintro e v ⟨rfl, hb⟩; replace HA := Lib.hid ((HA.out.below hb (Nat.le_refl _)).more hb.size); replace hT := K.keep hT hb; replace hw := Below.step hw hb; clear hb)
      | (go_at_call 13; (with_reducible refine (C1 _ hT).out.mono ?_); rintro e v ⟨A1, c1, rfl, hp1, hb⟩; replace HA := Lib.hid ((HA.out.below hb (Nat.le_refl _)).more hb.size); replace hT := K.keep hT hb; replace hw := Below.step hw hb; clear hb; clear hp1)
      | (go_at_call 13; (with_reducible refine (C2 _ hT).out.mono ?_); rintro e v ⟨A2, c2, rfl, hp2, hb⟩; replace HA := Lib.hid ((HA.out.below hb (Nat.le_refl _)).more hb.size); replace hT := K.keep hT hb; replace hw := Below.step hw hb; clear hb; clear hp2)
      )
    go_ret
    exact ⟨rfl, hw⟩
set_option maxRecDepth 100000 in
/-- The walk, its arguments opened. -/
theorem entryK {T : World → Prop} {D : List UInt8 → Int} (K : CodeC T D) {H : Type} {enc : TypeId × Value → H} (W : World) (base : Nat) (v0 v1 v2 : Value) (d0 d1 d2 : DataW H) (p0 p1 p2 : List MemPlace)
    (k0 : Value.okWide Tryz.prog W .any base 23 v0)
    (k1 : Value.okWide Tryz.prog W .any base 3 v1)
    (k2 : Value.okWide Tryz.prog W .any base 9 v2)
    (h0 : DataW.Trod enc Tryz.prog W 0 (fun _ => true) true 23 v0 d0 p0)
    (h1 : DataW.Trod enc Tryz.prog W 0 (fun _ => true) true 3 v1 d1 p1)
    (h2 : DataW.Trod enc Tryz.prog W 0 (fun _ => true) true 9 v2 d2 p2)
    (hT : T W) : Calls Tryz.prog 6 #[v0, v1, v2] W fun e w' => e = .returned (.bool true) ∧ Below W.heap.size W w' := by
  obtain ⟨A0, c0, ps0, rfl, hp0, hz0⟩ := open_prog k0 h0
  obtain ⟨a1, rfl, rfl, rfl, w1⟩ := open_int Tryz.underlying3 k1 h1
  obtain ⟨s2, rfl, _, _, _⟩ := Go.ChangeMaps.open_string Tryz.underlying9 k2 h2
  exact walk K c0 a1 s2 W hT hp0 hz0
end Go.Proofs.YtcfdbciooimjmaaGreatDoor.codeCut

