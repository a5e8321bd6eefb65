/- WorldSame: arguments opened. -/
import Derived.Test.YtjibkgildfjjoaaDoorzL13same
import Derived.Test.YtjibkgildfjjoaaDoorzZl
import Derived.Test.YtjibkgildfjjoaaDoorzZp
import Derived.OpenShut
namespace Go.Proofs.YtjibkgildfjjoaaDoor.worldSame
set_option linter.unusedVariables false
set_option linter.unusedSimpArgs false
open Go.RowKit Go.ChangeShapes Go.WideShapes Go.ChangeAt Go.Proofs.YtjibkgildfjjoaaDoor

set_option maxRecDepth 100000 in
theorem entryW {T : World → Prop} (C : WC T) {H : Type} {enc : TypeId × Value → H} (W : World) (base : Nat) (v0 v1 : Value) (d0 d1 : DataW H) (p0 p1 : List MemPlace)
    (k0 : Value.okWide Tryd.prog W .any base 40 v0)
    (k1 : Value.okWide Tryd.prog W .any base 3 v1)
    (h0 : DataW.Trod enc Tryd.prog W 0 (fun _ => true) true 40 v0 d0 p0)
    (h1 : DataW.Trod enc Tryd.prog W 0 (fun _ => true) true 3 v1 d1 p1)
    (hT : T W) : Calls Tryd.prog 4 #[v0, v1] W fun e w' => e = .returned (.bool true) ∧ Below W.heap.size W w' := by
  obtain ⟨a, U, rfl, hu, hzu⟩ := open_world k0 h0
  obtain ⟨n1, rfl, rfl, rfl, wf1⟩ := open_int Tryd.underlying3 k1 h1
  exact walk C (fixed13 C) n1 W hT hu hzu (Nat.le_refl _)
end Go.Proofs.YtjibkgildfjjoaaDoor.worldSame

