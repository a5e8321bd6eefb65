/- Layer 5: SeedTells: what any seed and number are mixed into, the seeds of children, and draws, are as the document says. -/
import Derived.Test.YtkahjodnefclfaaL5fix
import Derived.OpenShut
import Derived.BigQuiet
import Derived.Lib.QuietBelow
import Derived.Test.YtkahjodnefclfaaQt
namespace Go.Proofs.Ytkahjodnefclfaa.seedTells
set_option linter.unusedVariables false
set_option linter.unusedSimpArgs false
open Go.ChangeShapes Go.WideShapes Go.ChangeAt Go.RowKit Gm Sdm Go.Sort

set_option maxHeartbeats 1000000 in
set_option maxRecDepth 100000 in
theorem walk (s k : Int) : Ct Try.prog 3 #[.int .i64 s, .int .i64 k] (.bool true) := fun w => by
  have FX := fixed_true
  have C1 := mix_any s k
  have R1 := rmix_any s k
  have C2 := child_any s k
  have R2 := rchild_any s k
  have C3 := draw_any s k
  have R3 := rdraw_any s k
  generalize mixZ s k = x at *
  generalize useZ s 1 k = y at *
  generalize drawZ s k = q at *
  obtain ⟨a, b⟩ := q
  have k1 := eqv_run a b a b
  go_enter Try.func3, Try.ntmps3
  go_wp2_with (first
    | (go_at_call 8; (with_reducible refine (FX.go _).mono ?_); rintro e v ⟨rfl, hw⟩)
    | (go_at_call 9; (with_reducible refine (C1.go _).mono ?_); rintro e v ⟨rfl, rfl⟩)
    | (go_at_call 10; (with_reducible refine (R1.go _).mono ?_); rintro e v ⟨rfl, rfl⟩)
    | (go_at_call 11; (with_reducible refine (C2.go _).mono ?_); rintro e v ⟨rfl, rfl⟩)
    | (go_at_call 12; (with_reducible refine (R2.go _).mono ?_); rintro e v ⟨rfl, rfl⟩)
    | (go_at_call 13; (with_reducible refine (C3.go _).mono ?_); rintro e v1 ⟨rfl, hb⟩; replace hw := Below.step hw hb; clear hb)
    | (go_at_call 14; (with_reducible refine (R3.go _).mono ?_); rintro e v2 ⟨rfl, hb⟩; replace hw := Below.step hw hb; clear hb))
  go_ret
  exact ⟨rfl, hw⟩
theorem entry {H : Type} {enc : TypeId × Value → H} (W : World) (base : Nat) (v0 v1 : Value) (d0 d1 : DataW H) (p0 p1 : List MemPlace)
    (k0 : Value.okWide Try.prog W .any base 3 v0)
    (k1 : Value.okWide Try.prog W .any base 3 v1)
    (h0 : DataW.Trod enc Try.prog W 0 (fun _ => true) true 3 v0 d0 p0)
    (h1 : DataW.Trod enc Try.prog W 0 (fun _ => true) true 3 v1 d1 p1) :
    Calls Try.prog 3 #[v0, v1] W fun e w' => e = .returned (.bool true) ∧ Below W.heap.size W w' := by
  obtain ⟨a0, rfl, rfl, rfl, w0⟩ := open_int Try.underlying3 k0 h0
  obtain ⟨a1, rfl, rfl, rfl, w1⟩ := open_int Try.underlying3 k1 h1
  exact walk a0 a1 W
end Go.Proofs.Ytkahjodnefclfaa.seedTells
