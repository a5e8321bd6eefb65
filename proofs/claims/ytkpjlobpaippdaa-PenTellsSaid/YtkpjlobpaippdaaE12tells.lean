/- PenTells: the walk, for every input that can be read. -/
import Derived.Test.YtkpjlobpaippdaaL12tells
import Derived.Test.YtkpjlobpaippdaaYfx
import Derived.Test.YtkpjlobpaippdaaYop
import Derived.OpenShut
namespace Go.Proofs.Ytkpjlobpaippdaa.penTells
set_option linter.unusedVariables false
set_option linter.unusedSimpArgs false
open Go.RowKit Go.ChangeShapes Go.WideShapes Go.ChangeAt Go.Sort Go.Proofs.Ytkpjlobpaippdaa

theorem entry {H : Type} {enc : TypeId × Value → H} (W : World) (base : Nat) (v0 v1 v2 : Value) (d0 d1 d2 : DataW H) (p0 p1 p2 : List MemPlace)
    (k0 : Value.okWide Try.prog W .any base 25 v0)
    (k1 : Value.okWide Try.prog W .any base 27 v1)
    (k2 : Value.okWide Try.prog W .any base 35 v2)
    (h0 : DataW.Trod enc Try.prog W 0 (fun _ => true) true 25 v0 d0 p0)
    (h1 : DataW.Trod enc Try.prog W 0 (fun _ => true) true 27 v1 d1 p1)
    (h2 : DataW.Trod enc Try.prog W 0 (fun _ => true) true 35 v2 d2 p2) :
    Calls Try.prog 3 #[v0, v1, v2] W fun e w' => e = .returned (.bool true) ∧ Below W.heap.size W w' := by
  obtain ⟨A, c, A2, c2, p, rfl, hp, hl1, hl2⟩ := open_pen k0 h0
  obtain ⟨r, rfl⟩ := open_refv k1 h1
  obtain ⟨fs2, f2, rfl, hs2, hn2, hf2⟩ := open_frame k2 h2
  exact walk fixed_true c c2 r W hp hf2 hs2 hn2 (Nat.le_refl _) hl1 hl2
end Go.Proofs.Ytkpjlobpaippdaa.penTells
