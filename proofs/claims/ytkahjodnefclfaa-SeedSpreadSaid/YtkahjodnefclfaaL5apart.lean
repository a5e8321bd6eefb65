/- Layer 5: SeedApart: of one number unlike seeds are mixed into unlike ones, and of one seed unlike numbers; so are seeds of children; each is a seed. -/
import Derived.Test.YtkahjodnefclfaaL5fix
import Derived.OpenShut
import Derived.BigQuiet
import Derived.Lib.QuietBelow
import Derived.Test.YtkahjodnefclfaaQt
namespace Go.Proofs.Ytkahjodnefclfaa.seedApart
set_option linter.unusedVariables false
set_option linter.unusedSimpArgs false
open Go.ChangeShapes Go.WideShapes Go.ChangeAt Go.RowKit Gm Sdm Go.Sort

set_option maxHeartbeats 1000000 in
set_option maxRecDepth 100000 in
theorem other (a0 a1 a2 : Int) (h : (isZ a0 = false) ∨ (isZ a0 = true ∧ isZ a1 = false) ∨ (isZ a0 = true ∧ isZ a1 = true ∧ isZ a2 = false)) : Ct Try.prog 4 #[.int .i64 a0, .int .i64 a1, .int .i64 a2] (.bool true) := fun w => by
  have FX := fixed_true
  rcases h with h0 | ⟨h0, h1⟩ | ⟨h0, h1, h2⟩
  · have I0 := cs_is h0
    clear h0
    go_enter Try.func4, Try.ntmps4
    go_wp2_with (first
      | (go_at_call 8; (with_reducible refine (FX.go _).mono ?_); rintro e v ⟨rfl, hb⟩; first | (replace hw := Below.step hw hb; clear hb) | (have hw := hb; clear hb))
      | (go_at_call 15; (with_reducible refine (I0.go _).mono ?_); rintro e v ⟨rfl, rfl⟩))
    go_ret
    exact ⟨rfl, hw⟩
  · have I0 := cs_is h0
    have I1 := cs_is h1
    clear h0 h1
    go_enter Try.func4, Try.ntmps4
    go_wp2_with (first
      | (go_at_call 8; (with_reducible refine (FX.go _).mono ?_); rintro e v ⟨rfl, hb⟩; first | (replace hw := Below.step hw hb; clear hb) | (have hw := hb; clear hb))
      | (go_at_call 15; (with_reducible refine (I0.go _).mono ?_); rintro e v ⟨rfl, rfl⟩)
      | (go_at_call 15; (with_reducible refine (I1.go _).mono ?_); rintro e v ⟨rfl, rfl⟩))
    go_ret
    exact ⟨rfl, hw⟩
  · have I0 := cs_is h0
    have I1 := cs_is h1
    have I2 := cs_is h2
    clear h0 h1 h2
    go_enter Try.func4, Try.ntmps4
    go_wp2_with (first
      | (go_at_call 8; (with_reducible refine (FX.go _).mono ?_); rintro e v ⟨rfl, hb⟩; first | (replace hw := Below.step hw hb; clear hb) | (have hw := hb; clear hb))
      | (go_at_call 15; (with_reducible refine (I0.go _).mono ?_); rintro e v ⟨rfl, rfl⟩)
      | (go_at_call 15; (with_reducible refine (I1.go _).mono ?_); rintro e v ⟨rfl, rfl⟩)
      | (go_at_call 15; (with_reducible refine (I2.go _).mono ?_); rintro e v ⟨rfl, rfl⟩))
    go_ret
    exact ⟨rfl, hw⟩
theorem mixZ_nat {s n : Nat} (hs : s < 4294967296) (hn : n < 4294967296) : mixZ s n = (mixN s n : Nat) := by rw [mixZ, if_pos ⟨isZ_nat hs, isZ_nat hn⟩]; rfl
theorem use_nat {s n : Nat} (hs : s < 4294967296) (hn : n < 4294967296) : useZ s 1 n = (childN s n : Nat) := by
  rw [useZ, if_pos (isZ_nat hs), show (1 : Int) = ((1 : Nat) : Int) from rfl, mixZ_nat hs (by decide), mixZ_nat mix_lt hn]; rfl
theorem isZ_bd {n : Int} (h : 0 ≤ n ∧ n ≤ 4294967295) : isZ n = true := by simp [isZ]; exact h
theorem neI {a b : Nat} (h : a ≠ b) : ((a : Int) == (b : Int)) = false := by rw [beq_eq_false_iff_ne]; omega
theorem neI' {a b : Nat} (h : a ≠ b) : ((a : Int) != (b : Int)) = true := by rw [bne, neI h]; rfl
set_option maxHeartbeats 1000000 in
set_option maxRecDepth 100000 in
theorem good (a b k : Nat) (ha : a < 4294967296) (hb : b < 4294967296) (hk : k < 4294967296) : Ct Try.prog 4 #[.int .i64 a, .int .i64 b, .int .i64 k] (.bool true) := fun w => by
  have FX := fixed_true
  have I0 := cs_is (isZ_nat ha)
  have I1 := cs_is (isZ_nat hb)
  have I2 := cs_is (isZ_nat hk)
  have MA := mix_any a k
  have MB := mix_any b k
  have NA := mix_any k a
  have NB := mix_any k b
  have CA := child_any a k
  have CB := child_any b k
  have DA := child_any k a
  have DB := child_any k b
  have MM := mix_any a b
  have CC := child_any a b
  have I3 := cs_is (isZ_bd (mixZ_bd a b))
  have I4 := cs_is (isZ_bd (useZ_bd a 1 b))
  by_cases h : a = b
  · subst h
    generalize mixZ a k = x0 at *
    generalize mixZ k a = x1 at *
    generalize useZ a 1 k = x2 at *
    generalize useZ k 1 a = x3 at *
    generalize mixZ a a = x4 at *
    generalize useZ a 1 a = x5 at *
    clear ha hb hk
    go_enter Try.func4, Try.ntmps4
    go_wp2_with (first
      | (go_at_call 8; (with_reducible refine (FX.go _).mono ?_); rintro e v ⟨rfl, hb⟩; have hw := hb; clear hb)
      | (go_at_call 15; (with_reducible refine (I0.go _).mono ?_); rintro e v ⟨rfl, rfl⟩)
      | (go_at_call 15; (with_reducible refine (I1.go _).mono ?_); rintro e v ⟨rfl, rfl⟩)
      | (go_at_call 15; (with_reducible refine (I2.go _).mono ?_); rintro e v ⟨rfl, rfl⟩)
      | (go_at_call 15; (with_reducible refine (I3.go _).mono ?_); rintro e v ⟨rfl, rfl⟩)
      | (go_at_call 15; (with_reducible refine (I4.go _).mono ?_); rintro e v ⟨rfl, rfl⟩)
      | (go_at_call 9; (with_reducible refine (MA.go _).mono ?_); rintro e v ⟨rfl, rfl⟩)
      | (go_at_call 9; (with_reducible refine (NA.go _).mono ?_); rintro e v ⟨rfl, rfl⟩)
      | (go_at_call 9; (with_reducible refine (MM.go _).mono ?_); rintro e v ⟨rfl, rfl⟩)
      | (go_at_call 11; (with_reducible refine (CA.go _).mono ?_); rintro e v ⟨rfl, rfl⟩)
      | (go_at_call 11; (with_reducible refine (DA.go _).mono ?_); rintro e v ⟨rfl, rfl⟩)
      | (go_at_call 11; (with_reducible refine (CC.go _).mono ?_); rintro e v ⟨rfl, rfl⟩))
    go_ret
    exact ⟨rfl, hw⟩
  · have h0 : ((a : Int) == b) = false := neI h
    have h1 : (mixZ a k == mixZ b k) = false := by
      rw [mixZ_nat ha hk, mixZ_nat hb hk]
      exact neI fun e => h (mix_inj_seed ha hb e)
    have h2 : (mixZ k a == mixZ k b) = false := by
      rw [mixZ_nat hk ha, mixZ_nat hk hb]
      exact neI fun e => h (mix_inj_num hk ha hb e)
    have h3 : (useZ a 1 k == useZ b 1 k) = false := by
      rw [use_nat ha hk, use_nat hb hk]
      exact neI fun e => h (child_inj_seed ha hb e)
    have h4 : (useZ k 1 a == useZ k 1 b) = false := by
      rw [use_nat hk ha, use_nat hk hb]
      exact neI fun e => h (child_inj_num ha hb e)
    generalize mixZ a k = x0 at *
    generalize mixZ k a = x1 at *
    generalize useZ a 1 k = x2 at *
    generalize useZ k 1 a = x3 at *
    generalize mixZ b k = y0 at *
    generalize mixZ k b = y1 at *
    generalize useZ b 1 k = y2 at *
    generalize useZ k 1 b = y3 at *
    generalize mixZ a b = x4 at *
    generalize useZ a 1 b = x5 at *
    clear ha hb hk h
    go_enter Try.func4, Try.ntmps4
    go_wp2_with (first
      | (go_at_call 8; (with_reducible refine (FX.go _).mono ?_); rintro e v ⟨rfl, hb⟩; have hw := hb; clear hb)
      | (go_at_call 15; (with_reducible refine (I0.go _).mono ?_); rintro e v ⟨rfl, rfl⟩)
      | (go_at_call 15; (with_reducible refine (I1.go _).mono ?_); rintro e v ⟨rfl, rfl⟩)
      | (go_at_call 15; (with_reducible refine (I2.go _).mono ?_); rintro e v ⟨rfl, rfl⟩)
      | (go_at_call 15; (with_reducible refine (I3.go _).mono ?_); rintro e v ⟨rfl, rfl⟩)
      | (go_at_call 15; (with_reducible refine (I4.go _).mono ?_); rintro e v ⟨rfl, rfl⟩)
      | (go_at_call 9; (with_reducible refine (MA.go _).mono ?_); rintro e v ⟨rfl, rfl⟩)
      | (go_at_call 9; (with_reducible refine (MB.go _).mono ?_); rintro e v ⟨rfl, rfl⟩)
      | (go_at_call 9; (with_reducible refine (NA.go _).mono ?_); rintro e v ⟨rfl, rfl⟩)
      | (go_at_call 9; (with_reducible refine (NB.go _).mono ?_); rintro e v ⟨rfl, rfl⟩)
      | (go_at_call 9; (with_reducible refine (MM.go _).mono ?_); rintro e v ⟨rfl, rfl⟩)
      | (go_at_call 11; (with_reducible refine (CA.go _).mono ?_); rintro e v ⟨rfl, rfl⟩)
      | (go_at_call 11; (with_reducible refine (CB.go _).mono ?_); rintro e v ⟨rfl, rfl⟩)
      | (go_at_call 11; (with_reducible refine (DA.go _).mono ?_); rintro e v ⟨rfl, rfl⟩)
      | (go_at_call 11; (with_reducible refine (DB.go _).mono ?_); rintro e v ⟨rfl, rfl⟩)
      | (go_at_call 11; (with_reducible refine (CC.go _).mono ?_); rintro e v ⟨rfl, rfl⟩))
    go_ret
    exact ⟨rfl, hw⟩
theorem entry {H : Type} {enc : TypeId × Value → H} (W : World) (base : Nat) (v0 v1 v2 : Value) (d0 d1 d2 : DataW H) (p0 p1 p2 : List MemPlace)
    (k0 : Value.okWide Try.prog W .any base 3 v0)
    (k1 : Value.okWide Try.prog W .any base 3 v1)
    (k2 : Value.okWide Try.prog W .any base 3 v2)
    (h0 : DataW.Trod enc Try.prog W 0 (fun _ => true) true 3 v0 d0 p0)
    (h1 : DataW.Trod enc Try.prog W 0 (fun _ => true) true 3 v1 d1 p1)
    (h2 : DataW.Trod enc Try.prog W 0 (fun _ => true) true 3 v2 d2 p2) :
    Calls Try.prog 4 #[v0, v1, v2] W fun e w' => e = .returned (.bool true) ∧ Below W.heap.size W w' := by
  obtain ⟨a0, rfl, rfl, rfl, w0⟩ := open_int Try.underlying3 k0 h0
  obtain ⟨a1, rfl, rfl, rfl, w1⟩ := open_int Try.underlying3 k1 h1
  obtain ⟨a2, rfl, rfl, rfl, w2⟩ := open_int Try.underlying3 k2 h2
  by_cases h0 : isZ a0 = true
  · by_cases h1 : isZ a1 = true
    · by_cases h2 : isZ a2 = true
      · obtain ⟨s, rfl, hs⟩ := isZ_of h0
        obtain ⟨j, rfl, hj⟩ := isZ_of h1
        obtain ⟨k, rfl, hk⟩ := isZ_of h2
        exact good s j k hs hj hk W
      · exact other a0 a1 a2 (.inr (.inr ⟨h0, h1, by simpa using h2⟩)) W
    · exact other a0 a1 a2 (.inr (.inl ⟨h0, by simpa using h1⟩)) W
  · exact other a0 a1 a2 (.inl (by simpa using h0)) W
end Go.Proofs.Ytkahjodnefclfaa.seedApart
