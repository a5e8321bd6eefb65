/- Layer 7: CodeBlanks: a text in which one byte more stands anywhere, a blank, is no program's; nor is one without its last byte. For all programs. -/
import Derived.Test.YtcfdbciooimjmaaGreatDoorzGm
import Derived.OpenShut
import Derived.Test.YtcfdbciooimjmaaGreatDoorzL7back
import Derived.Test.YtcfdbciooimjmaaGreatDoorzL7cut
import Derived.Test.YtcfdbciooimjmaaGreatDoorzPra
import Derived.Deep.RegionWith
import Derived.RegionTactic
import Derived.Deep.DeepCutAuto
import Derived.Deep.CutBlock
import Derived.Deep.RegionHeld3
namespace Go.Proofs.YtcfdbciooimjmaaGreatDoor.codeBlanks
set_option linter.unusedVariables false
set_option linter.unusedSimpArgs false
open Go.ChangeShapes Go.WideShapes Go.ChangeAt Go.RowKit Go.Sort

open codeBack (text_len)
open codeCut (cut_take)
theorem text_pos {p : List Fun} (h : mayP p = true) : 1 ≤ (textP p).length := by
  rcases Nat.eq_zero_or_pos (textP p).length with h0 | h0
  · have e := List.eq_nil_of_length_eq_zero h0
    have := parse_text h
    rw [e] at this
    have h2 : (parseP []).2.2 = 70 := rfl
    rw [this] at h2
    simp at h2
  · exact h0
set_option maxHeartbeats 4000000 in
set_option maxRecDepth 100000 in
theorem walk {T : World → Prop} {D : List UInt8 → Int} (K : CodeC T D) {A : Option Addr} {p : List Fun} (c : Nat) (k : Int) (w : World) (hT : T w) (ha : ProgAt w w.heap.size A p) (hz : SizedP p) :
    Calls Tryz.prog 8 #[.slice A p.length c, .int .i64 k] w fun e w' => e = .returned (.bool true) ∧ Below w.heap.size w w' := by
  have hw : Below w.heap.size w w := Below.refl _ _
  have S1 := fun W (h : ProgAt W W.heap.size A p) => Lib.hid (psmall_any c 300 W h)
  have MP := fun W (h1 : T W) (h : ProgAt W W.heap.size A p) => Lib.hid (K.may c W h1 h hz (Nat.le_refl _))
  have TP := fun W (h1 : T W) (h : ProgAt W W.heap.size A p) => Lib.hid (K.text c W h1 h hz (Nat.le_refl _))
  have HA := Lib.hid ha
  clear ha hz
  generalize smallP p 300 = b1 at *
  cases b1
  · go_enter Tryz.func8, Tryz.ntmps8
    go_wp2_with (first
      | (go_at_call 10; (with_reducible refine (K.fx _ hT).mono ?_); rintro e v ⟨rfl, hb⟩; replace HA := Lib.hid ((HA.out.below hb (Nat.le_refl _)).more hb.size); replace hT := K.keep hT hb; replace hw := Below.step hw hb; clear hb)
      | (go_at_call 9; (with_reducible refine (S1 _ HA.out).out.mono ?_); rintro e v ⟨rfl, rfl⟩)
      | (go_at_call 15; (with_reducible refine (MP _ hT HA.out).out.mono ?_); rintro e v ⟨rfl, hb⟩; replace HA := Lib.hid ((HA.out.below hb (Nat.le_refl _)).more hb.size); replace hT := K.keep hT hb; replace hw := Below.step hw hb; clear hb)
      | (go_at_call 17; (with_reducible refine (TP _ hT HA.out).out.mono ?_); rintro e v ⟨rfl, hb⟩; replace HA := Lib.hid ((HA.out.below hb (Nat.le_refl _)).more hb.size); replace hT := K.keep hT hb; replace hw := Below.step hw hb; clear hb)
      )
    go_ret
    exact ⟨rfl, hw⟩
  cases hp : mayP p
  · rw [hp] at MP
    clear hp
    go_enter Tryz.func8, Tryz.ntmps8
    go_wp2_with (first
      | (go_at_call 10; (with_reducible refine (K.fx _ hT).mono ?_); rintro e v ⟨rfl, hb⟩; replace HA := Lib.hid ((HA.out.below hb (Nat.le_refl _)).more hb.size); replace hT := K.keep hT hb; replace hw := Below.step hw hb; clear hb)
      | (go_at_call 9; (with_reducible refine (S1 _ HA.out).out.mono ?_); rintro e v ⟨rfl, rfl⟩)
      | (go_at_call 15; (with_reducible refine (MP _ hT HA.out).out.mono ?_); rintro e v ⟨rfl, hb⟩; replace HA := Lib.hid ((HA.out.below hb (Nat.le_refl _)).more hb.size); replace hT := K.keep hT hb; replace hw := Below.step hw hb; clear hb)
      | (go_at_call 17; (with_reducible refine (TP _ hT HA.out).out.mono ?_); rintro e v ⟨rfl, hb⟩; replace HA := Lib.hid ((HA.out.below hb (Nat.le_refl _)).more hb.size); replace hT := K.keep hT hb; replace hw := Below.step hw hb; clear hb)
      )
    go_ret
    exact ⟨rfl, hw⟩
  rw [hp] at MP
  have hlen := text_len hp
  have hpos := text_pos hp
  have hbl := fun j => parse_blank hp (k := j)
  have hsh := parse_short hp
  obtain ⟨S, hS⟩ : ∃ S : ByteArray, S = ⟨(textP p).toArray⟩ := ⟨_, rfl⟩
  have hSt : textP p = S.data.toList := by rw [hS]
  rw [← hS] at TP
  rw [hSt] at hlen hbl hsh hpos
  have hts : S.data.toList.length = S.size := rfl
  clear hS hSt
  by_cases hk : k < 0
  · clear hbl hsh hp
    go_enter Tryz.func8, Tryz.ntmps8
    go_wp2_with (first
      | (go_at_call 10; (with_reducible refine (K.fx _ hT).mono ?_); rintro e v ⟨rfl, hb⟩; replace HA := Lib.hid ((HA.out.below hb (Nat.le_refl _)).more hb.size); replace hT := K.keep hT hb; replace hw := Below.step hw hb; clear hb)
      | (go_at_call 9; (with_reducible refine (S1 _ HA.out).out.mono ?_); rintro e v ⟨rfl, rfl⟩)
      | (go_at_call 15; (with_reducible refine (MP _ hT HA.out).out.mono ?_); rintro e v ⟨rfl, hb⟩; replace HA := Lib.hid ((HA.out.below hb (Nat.le_refl _)).more hb.size); replace hT := K.keep hT hb; replace hw := Below.step hw hb; clear hb)
      | (go_at_call 17; (with_reducible refine (TP _ hT HA.out).out.mono ?_); rintro e v ⟨rfl, hb⟩; replace HA := Lib.hid ((HA.out.below hb (Nat.le_refl _)).more hb.size); replace hT := K.keep hT hb; replace hw := Below.step hw hb; clear hb)
      )
    go_ret
    exact ⟨rfl, hw⟩
  by_cases hk2 : (S.size : Int) < k
  · clear hbl hsh hp
    go_enter Tryz.func8, Tryz.ntmps8
    go_wp2_with (first
      | (go_at_call 10; (with_reducible refine (K.fx _ hT).mono ?_); rintro e v ⟨rfl, hb⟩; replace HA := Lib.hid ((HA.out.below hb (Nat.le_refl _)).more hb.size); replace hT := K.keep hT hb; replace hw := Below.step hw hb; clear hb)
      | (go_at_call 9; (with_reducible refine (S1 _ HA.out).out.mono ?_); rintro e v ⟨rfl, rfl⟩)
      | (go_at_call 15; (with_reducible refine (MP _ hT HA.out).out.mono ?_); rintro e v ⟨rfl, hb⟩; replace HA := Lib.hid ((HA.out.below hb (Nat.le_refl _)).more hb.size); replace hT := K.keep hT hb; replace hw := Below.step hw hb; clear hb)
      | (go_at_call 17; (with_reducible refine (TP _ hT HA.out).out.mono ?_); rintro e v ⟨rfl, hb⟩; replace HA := Lib.hid ((HA.out.below hb (Nat.le_refl _)).more hb.size); replace hT := K.keep hT hb; replace hw := Below.step hw hb; clear hb)
      )
    go_ret
    exact ⟨rfl, hw⟩

  obtain ⟨j, rfl⟩ := Int.eq_ofNat_of_zero_le (show 0 ≤ k by omega)
  have hj : j ≤ S.size := by omega
  have h1 := hbl j (by omega)
  have h2 := (parse_none (s := S.data.toList.take (S.data.toList.length - 1)) (by rw [hsh]; decide)).1
  have e1 : S.extract 0 j ++ ⟨#[32]⟩ ++ S.extract j S.size = ⟨(S.data.toList.take j ++ 32 :: S.data.toList.drop j).toArray⟩ := by
    rw [extract_take, extract_take]
    apply ByteArray.ext
    apply Array.toList_inj.1
    simp
    exact List.take_of_length_le (by rw [List.length_drop, hts]; omega)
  have e2 : S.extract 0 (S.size - 1) = ⟨(S.data.toList.take (S.data.toList.length - 1)).toArray⟩ := by rw [extract_take]; simp
  have C1 := fun W (h1 : T W) => Lib.hid (K.parse (S.data.toList.take j ++ 32 :: S.data.toList.drop j) W h1 (by simp; omega))
  have C2 := fun W (h1 : T W) => Lib.hid (K.parse (S.data.toList.take (S.data.toList.length - 1)) W h1 (by simp; omega))
  rw [h1, ← e1] at C1
  rw [h2, hsh, ← e2] at C2
  generalize (parseP (S.data.toList.take (S.data.toList.length - 1))).2.1 = n2 at *
  have hcount : ∀ m (hm : m < S.size), (S.data.toList.take (m + 1)).count 10 = (S.data.toList.take m).count 10 + (if S[m] = 10 then 1 else 0) := by
    intro m hm
    rw [List.take_succ_eq_append_getElem (by rw [hts]; exact hm), List.count_append]
    congr 1
    rw [List.count_singleton]
    have : S.data.toList[m]'(by rw [hts]; exact hm) = S[m] := rfl
    rw [this]
    simp
  have HC := Lib.hid hcount
  clear hbl h1 h2 hsh hp hcount e1 e2
  go_enter Tryz.func8, Tryz.ntmps8
  go_upto_region 6 with (first
    | (go_at_call 10; (with_reducible refine (K.fx _ hT).mono ?_); rintro e v ⟨rfl, hb⟩; replace HA := Lib.hid ((HA.out.below hb (Nat.le_refl _)).more hb.size); replace hT := K.keep hT hb; replace hw := Below.step hw hb; clear hb)
    | (go_at_call 9; (with_reducible refine (S1 _ HA.out).out.mono ?_); rintro e v ⟨rfl, rfl⟩)
    | (go_at_call 15; (with_reducible refine (MP _ hT HA.out).out.mono ?_); rintro e v ⟨rfl, hb⟩; replace HA := Lib.hid ((HA.out.below hb (Nat.le_refl _)).more hb.size); replace hT := K.keep hT hb; replace hw := Below.step hw hb; clear hb)
    | (go_at_call 17; (with_reducible refine (TP _ hT HA.out).out.mono ?_); rintro e v ⟨rfl, hb⟩; replace HA := Lib.hid ((HA.out.below hb (Nat.le_refl _)).more hb.size); replace hT := K.keep hT hb; replace hw := Below.step hw hb; clear hb)
    )
  clear MP TP S1
  go_region_with (go_at_call 11; (with_reducible refine (C1 _ (K.keep hT (Below.refl _ _).drew)).out.mono ?_); rintro e v1 ⟨A1, c1, rfl, hp1, hb⟩; replace hb := below_drewn hb; clear hp1)
  all_goals
    replace hT := K.keep hT hb
    replace hw := Below.step hw hb
    have hp1 : (1 : Int) ≤ S.size := by omega
    have hs1 : (S.size : Int) ≤ 54672 := by omega
    go_wp2_with (go_at_call 11; (with_reducible refine (C2 _ hT).out.mono ?_); rintro e v2 ⟨A2, c2, rfl, hp2, hb2⟩; replace hw := Below.step hw hb2; clear hp2 hb2)
    go_loop [12, 13] (fun n i => ∃ m : Nat, m ≤ j ∧ i = .int .i64 m ∧ n = .int .i64 ((S.data.toList.take m).count 10 : Nat)) (fun _ i => j - (intOf i).toNat)
    case atStart => exact ⟨0, by omega, rfl, by simp⟩
    case round =>
      obtain ⟨m, hm, rfl, rfl⟩ := hrel
      by_cases hlt : m < j
      · have hms : m < S.size := by omega
        have hcm := HC.out m hms
        have hle : (S.data.toList.take m).count 10 ≤ m := Nat.le_trans List.count_le_length (by rw [List.length_take]; omega)
        generalize (S.data.toList.take m).count 10 = q at *
        have HCM := Lib.hid hcm
        have h256 := S[m].toNat_lt
        clear hcm
        by_cases hc : S[m] = 10
        · have hq : ((S[m].toNat : Int) == 10) = true := by rw [hc]; rfl
          go_wp2_with fail
          go_round
          case rel => exact ⟨m + 1, by omega, by go_num, by rw [HCM.out, if_pos hc]; go_num⟩
          case measure => simp [intOf]; omega
        · have hq : ((S[m].toNat : Int) == 10) = false := by
            have : S[m].toNat ≠ 10 := fun h => hc (UInt8.toNat_inj.1 h)
            simp
            omega
          go_wp2_with fail
          go_round
          case rel => exact ⟨m + 1, by omega, by go_num, by rw [HCM.out, if_neg hc]; rfl⟩
          case measure => simp [intOf]; omega
      · obtain rfl : m = j := by omega
        go_wp2_with fail
        go_ret
        exact ⟨rfl, hw⟩
set_option maxRecDepth 100000 in
/-- The walk, its arguments opened. -/
theorem entryK {T : World → Prop} {D : List UInt8 → Int} (K : CodeC T D) {H : Type} {enc : TypeId × Value → H} (W : World) (base : Nat) (v0 v1 : Value) (d0 d1 : DataW H) (p0 p1 : List MemPlace)
    (k0 : Value.okWide Tryz.prog W .any base 23 v0)
    (k1 : Value.okWide Tryz.prog W .any base 3 v1)
    (h0 : DataW.Trod enc Tryz.prog W 0 (fun _ => true) true 23 v0 d0 p0)
    (h1 : DataW.Trod enc Tryz.prog W 0 (fun _ => true) true 3 v1 d1 p1)
    (hT : T W) : Calls Tryz.prog 8 #[v0, v1] W fun e w' => e = .returned (.bool true) ∧ Below W.heap.size W w' := by
  obtain ⟨A0, c0, ps0, rfl, hp0, hz0⟩ := open_prog k0 h0
  obtain ⟨a1, rfl, rfl, rfl, w1⟩ := open_int Tryz.underlying3 k1 h1
  exact walk K c0 a1 W hT hp0 hz0
end Go.Proofs.YtcfdbciooimjmaaGreatDoor.codeBlanks

