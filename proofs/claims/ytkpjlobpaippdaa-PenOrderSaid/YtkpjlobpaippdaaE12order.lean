/- PenOrder: the walk, for every input that can be read. -/
import Derived.Test.YtkpjlobpaippdaaL12order
import Derived.Test.YtkpjlobpaippdaaYfx
import Derived.Test.YtkpjlobpaippdaaYop
import Derived.OpenShut
namespace Go.Proofs.Ytkpjlobpaippdaa.penOrder
set_option linter.unusedVariables false
set_option linter.unusedSimpArgs false
open Go.RowKit Go.ChangeShapes Go.WideShapes Go.ChangeAt Go.Sort Go.Proofs.Ytkpjlobpaippdaa

theorem entry {H : Type} {enc : TypeId × Value → H} (W : World) (base : Nat) (v0 v1 v2 : Value) (d0 d1 d2 : DataW H) (p0 p1 p2 : List MemPlace)
    (k0 : Value.okWide Try.prog W .any base 25 v0)
    (k1 : Value.okWide Try.prog W .any base 35 v1)
    (k2 : Value.okWide Try.prog W .any base 3 v2)
    (h0 : DataW.Trod enc Try.prog W 0 (fun _ => true) true 25 v0 d0 p0)
    (h1 : DataW.Trod enc Try.prog W 0 (fun _ => true) true 35 v1 d1 p1)
    (h2 : DataW.Trod enc Try.prog W 0 (fun _ => true) true 3 v2 d2 p2) :
    Calls Try.prog 8 #[v0, v1, v2] W fun e w' => e = .returned (.bool true) ∧ Below W.heap.size W w' := by
  obtain ⟨A, c, A2, c2, p, rfl, hp, hl1, hl2⟩ := open_pen k0 h0
  obtain ⟨fs1, f1, rfl, hs1, hn1, hf1⟩ := open_frame k1 h1
  obtain ⟨n2, rfl, rfl, rfl, wf2⟩ := open_int Try.underlying3 k2 h2
  exact walk fixed_true c c2 n2 W hp hf1 hs1 hn1 (Nat.le_refl _) hl1 hl2
end Go.Proofs.Ytkpjlobpaippdaa.penOrder
