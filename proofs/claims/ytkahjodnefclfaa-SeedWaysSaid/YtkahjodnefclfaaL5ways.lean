/- Layer 5: SeedWays: a task's children and its draws come of unlike seeds; children of unlike tasks of one seed by unlike numbers have unlike seeds. -/
import Derived.Test.YtkahjodnefclfaaL5apart
import Derived.OpenShut
import Derived.BigQuiet
import Derived.Lib.QuietBelow
import Derived.Test.YtkahjodnefclfaaQt
namespace Go.Proofs.Ytkahjodnefclfaa.seedWays
set_option linter.unusedVariables false
set_option linter.unusedSimpArgs false
open Go.ChangeShapes Go.WideShapes Go.ChangeAt Go.RowKit Gm Sdm Go.Sort

set_option maxHeartbeats 1000000 in
set_option maxRecDepth 100000 in
theorem other (a0 a1 a2 : Int) (h : (isZ a0 = false) ∨ (isZ a0 = true ∧ isZ a1 = false) ∨ (isZ a0 = true ∧ isZ a1 = true ∧ isZ a2 = false)) : Ct Try.prog 6 #[.int .i64 a0, .int .i64 a1, .int .i64 a2] (.bool true) := fun w => by
  have FX := fixed_true
  rcases h with h0 | ⟨h0, h1⟩ | ⟨h0, h1, h2⟩
  · have I0 := cs_is h0
    clear h0
    go_enter Try.func6, Try.ntmps6
    go_wp2_with (first
      | (go_at_call 8; (with_reducible refine (FX.go _).mono ?_); rintro e v ⟨rfl, hb⟩; first | (replace hw := Below.step hw hb; clear hb) | (have hw := hb; clear hb))
      | (go_at_call 15; (with_reducible refine (I0.go _).mono ?_); rintro e v ⟨rfl, rfl⟩))
    go_ret
    exact ⟨rfl, hw⟩
  · have I0 := cs_is h0
    have I1 := cs_is h1
    clear h0 h1
    go_enter Try.func6, Try.ntmps6
    go_wp2_with (first
      | (go_at_call 8; (with_reducible refine (FX.go _).mono ?_); rintro e v ⟨rfl, hb⟩; first | (replace hw := Below.step hw hb; clear hb) | (have hw := hb; clear hb))
      | (go_at_call 15; (with_reducible refine (I0.go _).mono ?_); rintro e v ⟨rfl, rfl⟩)
      | (go_at_call 15; (with_reducible refine (I1.go _).mono ?_); rintro e v ⟨rfl, rfl⟩))
    go_ret
    exact ⟨rfl, hw⟩
  · have I0 := cs_is h0
    have I1 := cs_is h1
    have I2 := cs_is h2
    clear h0 h1 h2
    go_enter Try.func6, Try.ntmps6
    go_wp2_with (first
      | (go_at_call 8; (with_reducible refine (FX.go _).mono ?_); rintro e v ⟨rfl, hb⟩; first | (replace hw := Below.step hw hb; clear hb) | (have hw := hb; clear hb))
      | (go_at_call 15; (with_reducible refine (I0.go _).mono ?_); rintro e v ⟨rfl, rfl⟩)
      | (go_at_call 15; (with_reducible refine (I1.go _).mono ?_); rintro e v ⟨rfl, rfl⟩)
      | (go_at_call 15; (with_reducible refine (I2.go _).mono ?_); rintro e v ⟨rfl, rfl⟩))
    go_ret
    exact ⟨rfl, hw⟩
open seedApart (mixZ_nat use_nat isZ_bd neI neI')
set_option maxHeartbeats 1000000 in
set_option maxRecDepth 100000 in
theorem good (s j k : Nat) (hs : s < 4294967296) (hj : j < 4294967296) (hk : k < 4294967296) : Ct Try.prog 6 #[.int .i64 s, .int .i64 j, .int .i64 k] (.bool true) := fun w => by
  have FX := fixed_true
  have I0 := cs_is (isZ_nat hs)
  have I1 := cs_is (isZ_nat hj)
  have I2 := cs_is (isZ_nat hk)
  have M1 := mix_any s 1
  have M2 := mix_any s 2
  have MA := mix_any (mixZ s 1) k
  have MB := mix_any (mixZ s 2) k
  have CJ := child_any s j
  have CK := child_any s k
  have DJ := child_any (useZ s 1 j) k
  have DK := child_any (useZ s 1 k) k
  have a1 : mixZ s 1 = (mixN s 1 : Nat) := mixZ_nat hs (by decide)
  have a2 : mixZ s 2 = (mixN s 2 : Nat) := mixZ_nat hs (by decide)
  have n1 : mixN s 1 ≠ mixN s 2 := fun e => by have := mix_inj_num hs (by decide) (by decide) e; omega
  have h1 : (mixZ s 1 != mixZ s 2) = true := by rw [a1, a2]; exact neI' n1
  have h2 : (mixZ (mixZ s 1) k != mixZ (mixZ s 2) k) = true := by
    rw [a1, a2, mixZ_nat mix_lt hk, mixZ_nat mix_lt hk]
    exact neI' fun e => n1 (mix_inj_seed mix_lt mix_lt e)
  clear a1 a2
  by_cases h : j = k
  · subst h
    generalize mixZ (mixZ s 1) j = x0 at *
    generalize mixZ (mixZ s 2) j = x1 at *
    generalize mixZ s 1 = x2 at *
    generalize mixZ s 2 = x3 at *
    generalize useZ (useZ s 1 j) 1 j = y0 at *
    generalize useZ s 1 j = y1 at *
    clear hs hj hk n1
    go_enter Try.func6, Try.ntmps6
    go_wp2_with (first
      | (go_at_call 8; (with_reducible refine (FX.go _).mono ?_); rintro e v ⟨rfl, hb⟩; have hw := hb; clear hb)
      | (go_at_call 15; (with_reducible refine (I0.go _).mono ?_); rintro e v ⟨rfl, rfl⟩)
      | (go_at_call 15; (with_reducible refine (I1.go _).mono ?_); rintro e v ⟨rfl, rfl⟩)
      | (go_at_call 15; (with_reducible refine (I2.go _).mono ?_); rintro e v ⟨rfl, rfl⟩)
      | (go_at_call 9; (with_reducible refine (M1.go _).mono ?_); rintro e v ⟨rfl, rfl⟩)
      | (go_at_call 9; (with_reducible refine (M2.go _).mono ?_); rintro e v ⟨rfl, rfl⟩)
      | (go_at_call 9; (with_reducible refine (MA.go _).mono ?_); rintro e v ⟨rfl, rfl⟩)
      | (go_at_call 9; (with_reducible refine (MB.go _).mono ?_); rintro e v ⟨rfl, rfl⟩)
      | (go_at_call 11; (with_reducible refine (CJ.go _).mono ?_); rintro e v ⟨rfl, rfl⟩)
      | (go_at_call 11; (with_reducible refine (DJ.go _).mono ?_); rintro e v ⟨rfl, rfl⟩))
    go_ret
    exact ⟨rfl, hw⟩
  · have h0 : ((j : Int) == k) = false := neI h
    have h3 : (useZ (useZ s 1 j) 1 k == useZ (useZ s 1 k) 1 k) = false := by
      rw [use_nat hs hj, use_nat hs hk]
      rw [use_nat (s := childN s j) mix_lt hk, use_nat (s := childN s k) mix_lt hk]
      exact neI fun e => h (child_inj_num hj hk (child_inj_seed mix_lt mix_lt e))
    generalize mixZ (mixZ s 1) k = x0 at *
    generalize mixZ (mixZ s 2) k = x1 at *
    generalize mixZ s 1 = x2 at *
    generalize mixZ s 2 = x3 at *
    generalize useZ (useZ s 1 j) 1 k = y0 at *
    generalize useZ (useZ s 1 k) 1 k = z0 at *
    generalize useZ s 1 j = y1 at *
    generalize useZ s 1 k = z1 at *
    clear hs hj hk n1 h
    go_enter Try.func6, Try.ntmps6
    go_wp2_with (first
      | (go_at_call 8; (with_reducible refine (FX.go _).mono ?_); rintro e v ⟨rfl, hb⟩; have hw := hb; clear hb)
      | (go_at_call 15; (with_reducible refine (I0.go _).mono ?_); rintro e v ⟨rfl, rfl⟩)
      | (go_at_call 15; (with_reducible refine (I1.go _).mono ?_); rintro e v ⟨rfl, rfl⟩)
      | (go_at_call 15; (with_reducible refine (I2.go _).mono ?_); rintro e v ⟨rfl, rfl⟩)
      | (go_at_call 9; (with_reducible refine (M1.go _).mono ?_); rintro e v ⟨rfl, rfl⟩)
      | (go_at_call 9; (with_reducible refine (M2.go _).mono ?_); rintro e v ⟨rfl, rfl⟩)
      | (go_at_call 9; (with_reducible refine (MA.go _).mono ?_); rintro e v ⟨rfl, rfl⟩)
      | (go_at_call 9; (with_reducible refine (MB.go _).mono ?_); rintro e v ⟨rfl, rfl⟩)
      | (go_at_call 11; (with_reducible refine (CJ.go _).mono ?_); rintro e v ⟨rfl, rfl⟩)
      | (go_at_call 11; (with_reducible refine (CK.go _).mono ?_); rintro e v ⟨rfl, rfl⟩)
      | (go_at_call 11; (with_reducible refine (DJ.go _).mono ?_); rintro e v ⟨rfl, rfl⟩)
      | (go_at_call 11; (with_reducible refine (DK.go _).mono ?_); rintro e v ⟨rfl, rfl⟩))
    go_ret
    exact ⟨rfl, hw⟩
theorem entry {H : Type} {enc : TypeId × Value → H} (W : World) (base : Nat) (v0 v1 v2 : Value) (d0 d1 d2 : DataW H) (p0 p1 p2 : List MemPlace)
    (k0 : Value.okWide Try.prog W .any base 3 v0)
    (k1 : Value.okWide Try.prog W .any base 3 v1)
    (k2 : Value.okWide Try.prog W .any base 3 v2)
    (h0 : DataW.Trod enc Try.prog W 0 (fun _ => true) true 3 v0 d0 p0)
    (h1 : DataW.Trod enc Try.prog W 0 (fun _ => true) true 3 v1 d1 p1)
    (h2 : DataW.Trod enc Try.prog W 0 (fun _ => true) true 3 v2 d2 p2) :
    Calls Try.prog 6 #[v0, v1, v2] W fun e w' => e = .returned (.bool true) ∧ Below W.heap.size W w' := by
  obtain ⟨a0, rfl, rfl, rfl, w0⟩ := open_int Try.underlying3 k0 h0
  obtain ⟨a1, rfl, rfl, rfl, w1⟩ := open_int Try.underlying3 k1 h1
  obtain ⟨a2, rfl, rfl, rfl, w2⟩ := open_int Try.underlying3 k2 h2
  by_cases h0 : isZ a0 = true
  · by_cases h1 : isZ a1 = true
    · by_cases h2 : isZ a2 = true
      · obtain ⟨s, rfl, hs⟩ := isZ_of h0
        obtain ⟨j, rfl, hj⟩ := isZ_of h1
        obtain ⟨k, rfl, hk⟩ := isZ_of h2
        exact good s j k hs hj hk W
      · exact other a0 a1 a2 (.inr (.inr ⟨h0, h1, by simpa using h2⟩)) W
    · exact other a0 a1 a2 (.inr (.inl ⟨h0, by simpa using h1⟩)) W
  · exact other a0 a1 a2 (.inl (by simpa using h0)) W
end Go.Proofs.Ytkahjodnefclfaa.seedWays
