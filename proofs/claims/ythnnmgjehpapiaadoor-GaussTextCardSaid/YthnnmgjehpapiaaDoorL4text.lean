/- Layer 4: GaussText: a value's text is two numbers of at most three digits, a sign between, and an i. For every value. -/
import Derived.Test.YthnnmgjehpapiaaDoorL4lib
import Derived.Test.YthnnmgjehpapiaaDoorGref
namespace Go.Proofs.YthnnmgjehpapiaaDoor.gaussText
set_option linter.unusedVariables false
set_option linter.unusedSimpArgs false
open Go.ChangeShapes Go.WideShapes Go.ChangeAt Go.RowKit Gm Fl

/-- How many signs, how many digits. -/
def sg (l : List UInt8) : Nat := (l.filter fun c => c.toNat == 43).length
def dg (l : List UInt8) : Nat := (l.filter fun c => decide (48 ≤ c.toNat) && decide (c.toNat ≤ 57)).length
theorem sg_app (a b : List UInt8) : sg (a ++ b) = sg a + sg b := by unfold sg; rw [List.filter_append, List.length_append]
theorem dg_app (a b : List UInt8) : dg (a ++ b) = dg a + dg b := by unfold dg; rw [List.filter_append, List.length_append]
theorem dig_facts : ∀ n, n < 251 → sg (digN n) = 0 ∧ dg (digN n) = (digN n).length ∧ 1 ≤ (digN n).length ∧ (digN n).length ≤ 3 := by decide +kernel
theorem text_facts (a : V) : sg (gText a) = 1 ∧ dg (gText a) + 2 = (gText a).length ∧ 4 ≤ (gText a).length ∧ (gText a).length ≤ 8 := by
  obtain ⟨a1, a2, a3, a4⟩ := dig_facts (rs a.1).toNat (by have := rs_bd a.1; omega)
  obtain ⟨b1, b2, b3, b4⟩ := dig_facts (rs a.2).toNat (by have := rs_bd a.2; omega)
  have e : gText a = digN (rs a.1).toNat ++ ([43] ++ (digN (rs a.2).toNat ++ [105])) := rfl
  have e1 : (gText a).length = (digN (rs a.1).toNat).length + (1 + ((digN (rs a.2).toNat).length + 1)) := by rw [e]; simp; omega
  rw [e1, e, sg_app, sg_app, sg_app, dg_app, dg_app, dg_app, a1, a2, b1, b2]
  have s1 : sg [43] = 1 := by decide
  have s2 : sg [105] = 0 := by decide
  have d1 : dg [43] = 0 := by decide
  have d2 : dg [105] = 0 := by decide
  rw [s1, s2, d1, d2]
  omega
theorem text_last (a : V) : (gText a)[(gText a).length - 1]? = some 105 := by
  have e : gText a = (digN (rs a.1).toNat ++ 43 :: digN (rs a.2).toNat) ++ [105] := by unfold gText; simp
  rw [e, List.length_append]
  simp
theorem text_of (a : V) (k m : Int) : gText (a.1 + 251 * k, a.2 + 251 * m) = gText a := by unfold gText; rw [rs_more, rs_more]

set_option maxHeartbeats 1000000 in
set_option maxRecDepth 100000 in
theorem other (a b : Int) (w : World) (hT : Tab w) (h : mayB a b = false) : Calls Tryd.prog 9 #[gv a b] w fun e w' => e = .returned (.bool true) ∧ Below w.heap.size w w' := by
  have CF := fun W h => Lib.hid (fixed_true W h)
  have CY := fun W => Lib.hid (rmay_any a b W)
  rw [h] at CY
  clear h
  go_enter Tryd.func9, Tryd.ntmps9
  go_wp2_with (first
    | (go_at_call 20; (with_reducible refine (CF _ (hT.below ((Below.refl _ _).alloc (Nat.le_refl _) _))).out.mono ?_); rintro e v ⟨rfl, hb⟩; have hx := (Held.new w _ _).below hb; have hw := Below.step ((Below.refl _ _).alloc (Nat.le_refl _) _) hb; clear hb; obtain ⟨c0, c1, _, _⟩ := hx.two)
    | (go_at_call 26; (with_reducible refine (CY _).out.mono ?_); rintro e v2 ⟨rfl, hb⟩; replace hw := Below.step hw hb; clear hb)
    | (go_at_call 20; (with_reducible refine (CF _ (hT.below hw)).out.mono ?_); rintro e v3 ⟨rfl, hb⟩; replace hw := Below.step hw hb))
  go_ret
  exact ⟨rfl, hw⟩

theorem take_snoc (s : ByteArray) (k : Nat) (h : k < s.size) : s.data.toList.take (k + 1) = s.data.toList.take k ++ [s[k]] := by
  rw [List.take_succ_eq_append_getElem (by simpa using h)]; rfl
theorem one_sg (c : UInt8) : sg [c] = if ((c.toNat : Int) == 43) = true then 1 else 0 := by
  unfold sg; by_cases h : c.toNat = 43 <;> simp [h] <;> omega
theorem one_dg (c : UInt8) : dg [c] = if (decide (48 ≤ (c.toNat : Int)) && decide ((c.toNat : Int) ≤ 57)) = true then 1 else 0 := by
  unfold dg; by_cases h : 48 ≤ c.toNat <;> by_cases h' : c.toNat ≤ 57 <;> simp [h, h'] <;> omega

/-- What has been counted so far. -/
def Cnt (s : ByteArray) (k : Nat) (S D : Int) : Prop := S = sg (s.data.toList.take k) ∧ D = dg (s.data.toList.take k)
theorem Cnt.next {s : ByteArray} {k : Nat} {S D : Int} (h : Cnt s k S D) (hk : k < s.size) :
    Cnt s (k + 1) (if ((s[k].toNat : Int) == 43) = true then S + 1 else S) (if (decide (48 ≤ (s[k].toNat : Int)) && decide ((s[k].toNat : Int) ≤ 57)) = true then D + 1 else D) := by
  obtain ⟨rfl, rfl⟩ := h
  refine ⟨?_, ?_⟩
  · rw [take_snoc s k hk, sg_app, one_sg]; split <;> simp
  · rw [take_snoc s k hk, dg_app, one_dg]; split <;> simp
theorem Cnt.bd {s : ByteArray} {k : Nat} {S D : Int} (h : Cnt s k S D) : 0 ≤ S ∧ S ≤ k ∧ 0 ≤ D ∧ D ≤ k := by
  obtain ⟨rfl, rfl⟩ := h
  have h1 : sg (s.data.toList.take k) ≤ (s.data.toList.take k).length := List.length_filter_le _ _
  have h2 : dg (s.data.toList.take k) ≤ (s.data.toList.take k).length := List.length_filter_le _ _
  have h3 : (s.data.toList.take k).length ≤ k := List.length_take_le _ _
  omega

set_option maxHeartbeats 2000000 in
set_option maxRecDepth 100000 in
theorem good (a b : Int) (w : World) (hT : Tab w) (h : mayB a b = true) : Calls Tryd.prog 9 #[gv a b] w fun e w' => e = .returned (.bool true) ∧ Below w.heap.size w w' := by
  have hm := (may_iff a b).1 h
  have CF := fun W h => Lib.hid (fixed_true W h)
  have CY := fun W => Lib.hid (rmay_any a b W)
  rw [h] at CY
  obtain ⟨f1, f2, f3, f4⟩ := text_facts (a, b)
  have fl := text_last (a, b)
  have CT := fun W h => Lib.hid (text_any a b W h)
  have CT2 : ∀ W, Tab W → Hid (Calls Tryd.prog 23 #[gv (a - 251) (b + 251)] W fun e w' => e = .returned (.string ⟨(gText (a, b)).toArray⟩) ∧ Below W.heap.size W w') := fun W h => by
    have := text_any (a - 251) (b + 251) W h
    have e : gText (a - 251, b + 251) = gText (a, b) := by
      have := text_of (a, b) (-1) 1
      rw [← this]
      show gText (a - 251, b + 251) = gText (a + 251 * -1, b + 251 * 1)
      congr 1
    rw [e] at this
    exact Lib.hid this
  obtain ⟨t, ht⟩ : ∃ t : ByteArray, t = ⟨(gText (a, b)).toArray⟩ := ⟨_, rfl⟩
  have hl : t.data.toList = gText (a, b) := by rw [ht]
  have hs : (gText (a, b)).length = t.size := by rw [← hl]; rfl
  rw [← ht] at CT CT2
  rw [← hl] at f1 f2 f3 f4 fl
  have ml : t.data.toList.length = t.size := rfl
  rw [ml] at f2 f3 f4 fl
  have F1 := Lib.hid f1
  have F2 := Lib.hid f2
  have FL := Lib.hid fl
  have t4 : (4 : Int) ≤ t.size := by omega
  have t8 : (t.size : Int) ≤ 8 := by omega
  obtain ⟨m0, m1, m2, m3⟩ := hm
  clear h ht hl hs f1 f2 f3 f4 fl ml
  go_enter Tryd.func9, Tryd.ntmps9
  go_wp2_with (first
    | (go_at_call 20; (with_reducible refine (CF _ (hT.below ((Below.refl _ _).alloc (Nat.le_refl _) _))).out.mono ?_); rintro e v ⟨rfl, hb⟩; have hx := (Held.new w _ _).below hb; have hw := Below.step ((Below.refl _ _).alloc (Nat.le_refl _) _) hb; clear hb; obtain ⟨c0, c1, _, _⟩ := hx.two)
    | (go_at_call 26; (with_reducible refine (CY _).out.mono ?_); rintro e v2 ⟨rfl, hb⟩; replace hx := hx.below hb; replace hw := Below.step hw hb; clear hb c0 c1; obtain ⟨c0, c1, _, _⟩ := hx.two)
    | (go_at_call 23; (with_reducible refine (CT _ (hT.below hw)).out.mono ?_); rintro e v3 ⟨rfl, hb⟩; replace hx := hx.below hb; replace hw := Below.step hw hb; clear hb c0 c1; obtain ⟨c0, c1, _, _⟩ := hx.two))
  go_loop [4, 5, 6] (fun S D i => ∃ k : Nat, ∃ s d : Int, k ≤ t.size ∧ i = .int .i64 k ∧ S = .int .i64 s ∧ D = .int .i64 d ∧ Hid (Cnt t k s d)) (fun _ _ i => t.size - (intOf i).toNat)
  case atStart => exact ⟨0, 0, 0, by omega, rfl, rfl, rfl, Lib.hid ⟨rfl, rfl⟩⟩
  case round =>
    obtain ⟨k, s, d, hk, rfl, rfl, rfl, HC⟩ := hrel
    have hbd := HC.out.bd
    by_cases hlt : k < t.size
    · have HN := Lib.hid (HC.out.next hlt)
      have s0 : 0 ≤ s := by omega
      have s1 : s ≤ 8 := by omega
      have d0 : 0 ≤ d := by omega
      have d1 : d ≤ 8 := by omega
      have hlt' : (k : Int) < t.size := by omega
      clear hbd HC
      go_wp2_with fail
      all_goals
        go_round
        case rel =>
          refine ⟨k + 1, _, _, by omega, by go_num, rfl, rfl, Lib.hid ?_⟩
          have h := HN.out
          split at h <;> split at h <;> first | exact h | (exfalso; simp_all; omega) | (exfalso; simp_all; done)
        case measure => simp [intOf]; omega
    · obtain rfl : k = t.size := by omega
      have hS : s = 1 := by
        have := HC.out.1
        rw [List.take_of_length_le (by simp), F1.out] at this
        exact this
      have hD : d = (t.size : Int) - 2 := by
        have := HC.out.2
        rw [List.take_of_length_le (by simp)] at this
        have := F2.out
        omega
      subst hS hD
      clear hlt hbd HC hk
      go_wp2_with (go_at_call 23; (with_reducible refine (CT2 _ (hT.below hw)).out.mono ?_); rintro e v4 ⟨rfl, hb⟩)
      · go_ret
        exact ⟨rfl, Below.step hw hb⟩
      · exfalso
        have h1 := FL.out
        have h2 : t.size - 1 < t.size := by omega
        have h3 : t.data.toList[t.size - 1]? = some t[t.size - 1] := by rw [List.getElem?_eq_getElem (by exact h2)]; rfl
        rw [h3] at h1
        have h4 : t[t.size - 1] = 105 := by injection h1
        rw [h4] at *
        simp_all
theorem entry {H : Type} {enc : TypeId × Value → H} (W : World) (base : Nat) (v0 : Value) (d0 : DataW H) (p0 : List MemPlace)
    (k0 : Value.okWide Tryd.prog W .any base 23 v0) (h0 : DataW.Trod enc Tryd.prog W 0 (fun _ => true) true 23 v0 d0 p0) (hT : Tab W) :
    Calls Tryd.prog 9 #[v0] W fun e w' => e = .returned (.bool true) ∧ Below W.heap.size W w' := by
  obtain ⟨a, b, rfl, _, _⟩ := open_val k0 h0
  cases h : mayB a b with
  | true => exact good a b W hT h
  | false => exact other a b W hT h
end Go.Proofs.YthnnmgjehpapiaaDoor.gaussText
