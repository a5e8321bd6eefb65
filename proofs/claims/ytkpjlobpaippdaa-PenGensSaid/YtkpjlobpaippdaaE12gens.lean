/- PenGens: the walk, for every input that can be read. -/
import Derived.Test.YtkpjlobpaippdaaL12gens
import Derived.Test.YtkpjlobpaippdaaYfx
import Derived.Test.YtkpjlobpaippdaaYop
import Derived.OpenShut
namespace Go.Proofs.Ytkpjlobpaippdaa.penGens
set_option linter.unusedVariables false
set_option linter.unusedSimpArgs false
open Go.RowKit Go.ChangeShapes Go.WideShapes Go.ChangeAt Go.Sort Go.Proofs.Ytkpjlobpaippdaa

theorem entry {H : Type} {enc : TypeId × Value → H} (W : World) (base : Nat) (v0 v1 : Value) (d0 d1 : DataW H) (p0 p1 : List MemPlace)
    (k0 : Value.okWide Try.prog W .any base 35 v0)
    (k1 : Value.okWide Try.prog W .any base 3 v1)
    (h0 : DataW.Trod enc Try.prog W 0 (fun _ => true) true 35 v0 d0 p0)
    (h1 : DataW.Trod enc Try.prog W 0 (fun _ => true) true 3 v1 d1 p1) :
    Calls Try.prog 7 #[v0, v1] W fun e w' => e = .returned (.bool true) ∧ Below W.heap.size W w' := by
  obtain ⟨fs0, f0, rfl, hs0, hn0, hf0⟩ := open_frame k0 h0
  obtain ⟨n1, rfl, rfl, rfl, wf1⟩ := open_int Try.underlying3 k1 h1
  exact walk fixed_true n1 W hf0 hs0 hn0 (Nat.le_refl _)
end Go.Proofs.Ytkpjlobpaippdaa.penGens
