/- Layer 6: OpNames: each operation is found by its name, and unlike ones have unlike names; no other number has one. For all numbers. -/
import Derived.Test.YthjgfkaodkgmfaaDoorL6fix
import Derived.OpenShut
import Derived.BigQuiet
import Derived.Lib.QuietBelow
namespace Go.Proofs.YthjgfkaodkgmfaaDoor.opNames
set_option linter.unusedVariables false
set_option linter.unusedSimpArgs false
open Go.ChangeShapes Go.WideShapes Go.ChangeAt Go.RowKit Go.Sort

theorem idx_own : ∀ k, k < 17 → idxN (orow k).nm = k := by decide +kernel
theorem nm_some : ∀ k, k < 17 → ((orow k).nm.toList == []) = false := by decide +kernel
theorem none_found : numF ⟨#[]⟩ = 0 ∧ isF ⟨#[]⟩ = false := ⟨by kernel_rfl, by kernel_rfl⟩
set_option maxHeartbeats 1000000 in
set_option maxRecDepth 100000 in
theorem walk (a b : Int) : Co Tryd.prog 4 #[.int .i64 a, .int .i64 b] (.bool true) := fun w hT => by
  have hw : Below w.heap.size w w := Below.refl _ _
  rcases okZ_cases a with ⟨k, hk, rfl⟩ | ha
  · have CA := co_name (n := (k : Int)) rfl
    have CB := co_name (n := b) rfl
    rw [rz_in hk] at CA
    have CF := co_find (fnd_hit (idx_own k hk) hk)
    have hs := nm_some k hk
    have he : ∃ e : Bool, e = decide ((k : Int) = b) ∧ ((orow k).nm.toList == (rz b).nm.toList) = e := by
      refine ⟨_, rfl, ?_⟩
      rw [eqS_toList]
      unfold eqS
      rw [decide_eq_decide]
      refine ⟨fun h => ?_, fun h => by rw [← h, rz_in hk]⟩
      rcases okZ_cases b with ⟨j, hj, rfl⟩ | hb
      · rw [rz_in hj] at h
        have h1 := idx_own k hk
        rw [h, idx_own j hj] at h1
        rw [h1]
      · rw [rz_out hb] at h
        rw [h] at hs
        exact absurd hs (by decide +kernel)
    obtain ⟨e, h1, h2⟩ := he
    generalize (orow k).nm = s at *
    generalize (rz b).nm = t at *
    have k2 : (k : Int) < 17 := by omega
    cases e
    · have h3 : ((k : Int) == b) = false := by
        have := of_decide_eq_false h1.symm
        simpa using this
      clear h1
      go_enter Tryd.func4, Tryd.ntmps4
      go_wp2_with (first
        | (go_at_call 8; (with_reducible refine (fixed_true.go _ hT).mono ?_); rintro e v ⟨rfl, hb⟩; replace hT := hT.below hb; replace hw := Below.step hw hb; clear hb)
        | (go_at_call 12; (with_reducible refine (CA.go _ hT).mono ?_); rintro e v ⟨rfl, hb⟩; replace hT := hT.below hb; replace hw := Below.step hw hb; clear hb)
        | (go_at_call 12; (with_reducible refine (CB.go _ hT).mono ?_); rintro e v ⟨rfl, hb⟩; replace hT := hT.below hb; replace hw := Below.step hw hb; clear hb)
        | (go_at_call 9; (with_reducible refine (CF.go _ hT).mono ?_); rintro e v ⟨rfl, hb⟩; replace hT := hT.below hb; replace hw := Below.step hw hb; clear hb))
      go_ret
      exact ⟨rfl, hw⟩
    · obtain rfl : (k : Int) = b := of_decide_eq_true h1.symm
      clear h1
      go_enter Tryd.func4, Tryd.ntmps4
      go_wp2_with (first
        | (go_at_call 8; (with_reducible refine (fixed_true.go _ hT).mono ?_); rintro e v ⟨rfl, hb⟩; replace hT := hT.below hb; replace hw := Below.step hw hb; clear hb)
        | (go_at_call 12; (with_reducible refine (CA.go _ hT).mono ?_); rintro e v ⟨rfl, hb⟩; replace hT := hT.below hb; replace hw := Below.step hw hb; clear hb)
        | (go_at_call 12; (with_reducible refine (CB.go _ hT).mono ?_); rintro e v ⟨rfl, hb⟩; replace hT := hT.below hb; replace hw := Below.step hw hb; clear hb)
        | (go_at_call 9; (with_reducible refine (CF.go _ hT).mono ?_); rintro e v ⟨rfl, hb⟩; replace hT := hT.below hb; replace hw := Below.step hw hb; clear hb))
      go_ret
      exact ⟨rfl, hw⟩
  · have CA : Co Tryd.prog 12 #[.int .i64 a] (.string ⟨#[]⟩) := co_name (by rw [rz_out ha]; rfl)
    have CB := co_name (n := b) rfl
    have CF := co_find none_found
    generalize (rz b).nm = t at *
    rcases okZ_no ha with h | h
    all_goals
      go_enter Tryd.func4, Tryd.ntmps4
      go_wp2_with (first
        | (go_at_call 8; (with_reducible refine (fixed_true.go _ hT).mono ?_); rintro e v ⟨rfl, hb⟩; replace hT := hT.below hb; replace hw := Below.step hw hb; clear hb)
        | (go_at_call 12; (with_reducible refine (CA.go _ hT).mono ?_); rintro e v ⟨rfl, hb⟩; replace hT := hT.below hb; replace hw := Below.step hw hb; clear hb)
        | (go_at_call 12; (with_reducible refine (CB.go _ hT).mono ?_); rintro e v ⟨rfl, hb⟩; replace hT := hT.below hb; replace hw := Below.step hw hb; clear hb)
        | (go_at_call 9; (with_reducible refine (CF.go _ hT).mono ?_); rintro e v ⟨rfl, hb⟩; replace hT := hT.below hb; replace hw := Below.step hw hb; clear hb))
      go_ret
      exact ⟨rfl, hw⟩
theorem entry {H : Type} {enc : TypeId × Value → H} (W : World) (base : Nat) (v0 v1 : Value) (d0 d1 : DataW H) (p0 p1 : List MemPlace)
    (k0 : Value.okWide Tryd.prog W .any base 3 v0)
    (k1 : Value.okWide Tryd.prog W .any base 3 v1)
    (h0 : DataW.Trod enc Tryd.prog W 0 (fun _ => true) true 3 v0 d0 p0)
    (h1 : DataW.Trod enc Tryd.prog W 0 (fun _ => true) true 3 v1 d1 p1)
    (hT : Otab W) :
    Calls Tryd.prog 4 #[v0, v1] W fun e w' => e = .returned (.bool true) ∧ Below W.heap.size W w' := by
  obtain ⟨a0, rfl, rfl, rfl, w0⟩ := open_int Tryd.underlying3 k0 h0
  obtain ⟨a1, rfl, rfl, rfl, w1⟩ := open_int Tryd.underlying3 k1 h1
  exact walk a0 a1 W hT
end Go.Proofs.YthjgfkaodkgmfaaDoor.opNames
