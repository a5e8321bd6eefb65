/- Layer 6: OpStacks: no operation takes more than two values off, or lays more than two on, or does more than one more than the other way round; what is none does neither. -/
import Derived.Test.YthjgfkaodkgmfaaDoorL6fix
import Derived.OpenShut
import Derived.BigQuiet
import Derived.Lib.QuietBelow
namespace Go.Proofs.YthjgfkaodkgmfaaDoor.opStacks
set_option linter.unusedVariables false
set_option linter.unusedSimpArgs false
open Go.ChangeShapes Go.WideShapes Go.ChangeAt Go.RowKit Go.Sort

theorem pq_of : ∀ k, k < 17 → 0 ≤ (orow k).p ∧ (orow k).p ≤ 2 ∧ 0 ≤ (orow k).q ∧ (orow k).q ≤ 2 ∧ (orow k).q - (orow k).p ≤ 1 ∧ (orow k).p - (orow k).q ≤ 1 ∧ (orow k).f ≤ 2 := by decide
set_option maxHeartbeats 1000000 in
set_option maxRecDepth 100000 in
theorem walk (n : Int) : Co Tryd.prog 6 #[.int .i64 n] (.bool true) := fun w hT => by
  have hw : Below w.heap.size w w := Below.refl _ _
  have CS := co_stack (n := n) ⟨rfl, rfl⟩
  have CF := co_fields (n := n) rfl
  rcases okZ_cases n with ⟨k, hk, rfl⟩ | hn
  · rw [rz_in hk] at CS CF
    obtain ⟨b1, b2, b3, b4, b5, b6, b7⟩ := pq_of k hk
    generalize (orow k).p = p at *
    generalize (orow k).q = q at *
    generalize (orow k).f = f at *
    go_enter Tryd.func6, Tryd.ntmps6
    go_wp2_with (first
      | (go_at_call 8; (with_reducible refine (fixed_true.go _ hT).mono ?_); rintro e v ⟨rfl, hb⟩; replace hT := hT.below hb; replace hw := Below.step hw hb; clear hb)
      | (go_at_call 11; (with_reducible refine (CS.go _ hT).mono ?_); rintro e v ⟨rfl, hb⟩; replace hT := hT.below hb; replace hw := Below.step hw hb; clear hb)
      | (go_at_call 14; (with_reducible refine (CF.go _ hT).mono ?_); rintro e v ⟨rfl, hb⟩; replace hT := hT.below hb; replace hw := Below.step hw hb; clear hb))
    go_ret
    exact ⟨rfl, hw⟩
  · rw [rz_out hn] at CS CF
    have hn2 := okZ_no hn
    have CS2 : Co Tryd.prog 11 #[.int .i64 n] (.tuple #[.int .i64 0, .int .i64 0]) := CS
    have CF2 : Co Tryd.prog 14 #[.int .i64 n] (.int .i64 0) := CF
    clear CS CF
    rcases hn2 with hn2 | hn2
    all_goals
      go_enter Tryd.func6, Tryd.ntmps6
      go_wp2_with (first
        | (go_at_call 8; (with_reducible refine (fixed_true.go _ hT).mono ?_); rintro e v ⟨rfl, hb⟩; replace hT := hT.below hb; replace hw := Below.step hw hb; clear hb)
        | (go_at_call 11; (with_reducible refine (CS2.go _ hT).mono ?_); rintro e v ⟨rfl, hb⟩; replace hT := hT.below hb; replace hw := Below.step hw hb; clear hb)
        | (go_at_call 14; (with_reducible refine (CF2.go _ hT).mono ?_); rintro e v ⟨rfl, hb⟩; replace hT := hT.below hb; replace hw := Below.step hw hb; clear hb))
      go_ret
      exact ⟨rfl, hw⟩
theorem entry {H : Type} {enc : TypeId × Value → H} (W : World) (base : Nat) (v0 : Value) (d0 : DataW H) (p0 : List MemPlace)
    (k0 : Value.okWide Tryd.prog W .any base 3 v0)
    (h0 : DataW.Trod enc Tryd.prog W 0 (fun _ => true) true 3 v0 d0 p0)
    (hT : Otab W) :
    Calls Tryd.prog 6 #[v0] W fun e w' => e = .returned (.bool true) ∧ Below W.heap.size W w' := by
  obtain ⟨a0, rfl, rfl, rfl, w0⟩ := open_int Tryd.underlying3 k0 h0
  exact walk a0 W hT
end Go.Proofs.YthjgfkaodkgmfaaDoor.opStacks
