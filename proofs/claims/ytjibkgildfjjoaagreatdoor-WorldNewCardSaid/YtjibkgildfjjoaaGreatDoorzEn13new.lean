/- WorldNew: arguments opened. -/
import Derived.Test.YtjibkgildfjjoaaGreatDoorzL13new
import Derived.Test.YtjibkgildfjjoaaGreatDoorzZf
import Derived.Test.YtjibkgildfjjoaaGreatDoorzZn
namespace Go.Proofs.YtjibkgildfjjoaaGreatDoor.worldNew
set_option linter.unusedVariables false
set_option linter.unusedSimpArgs false
open Go.RowKit Go.ChangeShapes Go.WideShapes Go.ChangeAt Go.Proofs.YtjibkgildfjjoaaGreatDoor

set_option maxRecDepth 100000 in
theorem entryW {T : World → Prop} (C : WC T) {H : Type} {enc : TypeId × Value → H} (W : World) (base : Nat) (v0 : Value) (d0 : DataW H) (p0 : List MemPlace)
    (k0 : Value.okWide Tryz.prog W .any base 28 v0)
    (h0 : DataW.Trod enc Tryz.prog W 0 (fun _ => true) true 28 v0 d0 p0)
    (hT : T W) : Calls Tryz.prog 4 #[v0] W fun e w' => e = .returned (.bool true) ∧ Below W.heap.size W w' := by
  obtain ⟨Ap, ps, cp, A2, args, c2, s, k, lf, lm, lr, rfl, hp, hz, ha, hal⟩ := open_start k0 h0
  exact walk C (fixed13 C) cp c2 s k lf lm lr W hT hp hz ha hal (Nat.le_refl _)
end Go.Proofs.YtjibkgildfjjoaaGreatDoor.worldNew

