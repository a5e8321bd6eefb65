/- WorldTells: arguments opened. -/
import Derived.Test.YtjibkgildfjjoaaGreatDoorzZn
import Derived.Test.YtjibkgildfjjoaaGreatDoorzZf
namespace Go.Proofs.YtjibkgildfjjoaaGreatDoor.worldTells
set_option linter.unusedVariables false
set_option linter.unusedSimpArgs false
open Go.RowKit Go.ChangeShapes Go.WideShapes Go.ChangeAt Go.Proofs.YtjibkgildfjjoaaGreatDoor

set_option maxRecDepth 100000 in
theorem entryW {T : World → Prop} (C : WC T) {H : Type} {enc : TypeId × Value → H} (W : World) (base : Nat) (v0 v1 v2 : Value) (d0 d1 d2 : DataW H) (p0 p1 p2 : List MemPlace)
    (k0 : Value.okWide Tryz.prog W .any base 28 v0)
    (k1 : Value.okWide Tryz.prog W .any base 43 v1)
    (k2 : Value.okWide Tryz.prog W .any base 43 v2)
    (h0 : DataW.Trod enc Tryz.prog W 0 (fun _ => true) true 28 v0 d0 p0)
    (h1 : DataW.Trod enc Tryz.prog W 0 (fun _ => true) true 43 v1 d1 p1)
    (h2 : DataW.Trod enc Tryz.prog W 0 (fun _ => true) true 43 v2 d2 p2)
    (hT : T W) : Calls Tryz.prog 3 #[v0, v1, v2] W fun e w' => e = .returned (.bool true) ∧ Below W.heap.size W w' := by
  obtain ⟨Ap, ps, cp, A2, args, c2, s, k, lf, lm, lr, rfl, hp, hz, ha, hal⟩ := open_start k0 h0
  obtain ⟨a, U, rfl, hu, hzu⟩ := open_world k1 h1
  obtain ⟨b, V9, rfl, hv, hzv⟩ := open_world k2 h2
  exact walk C (fixed13 C) cp c2 s k lf lm lr W hT hp hz ha hal hu hzu hv hzv (Nat.le_refl _)
end Go.Proofs.YtjibkgildfjjoaaGreatDoor.worldTells

