/- PenMany: the walk, for every input that can be read. -/
import Derived.Test.YtkpjlobpaippdaaL12many
import Derived.Test.YtkpjlobpaippdaaYfx
import Derived.Test.YtkpjlobpaippdaaYof
import Derived.OpenShut
namespace Go.Proofs.Ytkpjlobpaippdaa.penMany
set_option linter.unusedVariables false
set_option linter.unusedSimpArgs false
open Go.RowKit Go.ChangeShapes Go.WideShapes Go.ChangeAt Go.Sort Go.Proofs.Ytkpjlobpaippdaa

theorem entry {H : Type} {enc : TypeId × Value → H} (W : World) (base : Nat) (v0 v1 : Value) (d0 d1 : DataW H) (p0 p1 : List MemPlace)
    (k0 : Value.okWide Try.prog W .any base 3 v0)
    (k1 : Value.okWide Try.prog W .any base 57 v1)
    (h0 : DataW.Trod enc Try.prog W 0 (fun _ => true) true 3 v0 d0 p0)
    (h1 : DataW.Trod enc Try.prog W 0 (fun _ => true) true 57 v1 d1 p1) :
    Calls Try.prog 6 #[v0, v1] W fun e w' => e = .returned (.bool true) ∧ Below W.heap.size W w' := by
  obtain ⟨n0, rfl, rfl, rfl, wf0⟩ := open_int Try.underlying3 k0 h0
  obtain ⟨A, c, l, rfl, hl, -⟩ := open_frames k1 h1
  exact walk fixed_true n0 c W hl rfl
end Go.Proofs.Ytkpjlobpaippdaa.penMany
