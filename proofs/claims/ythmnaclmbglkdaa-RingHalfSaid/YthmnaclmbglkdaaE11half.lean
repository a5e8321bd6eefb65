/- RingHalf: the walk, for every input that can be read. -/
import Derived.Test.YthmnaclmbglkdaaL11half
import Derived.Test.YthmnaclmbglkdaaJj
import Derived.OpenShut
namespace Go.Proofs.Ythmnaclmbglkdaa.ringHalf
set_option linter.unusedVariables false
set_option linter.unusedSimpArgs false
open Go.RowKit Go.ChangeShapes Go.WideShapes Go.ChangeAt Go.Sort Go.Proofs.Ythmnaclmbglkdaa

theorem entry {H : Type} {enc : TypeId × Value → H} (W : World) (base : Nat) (v0 : Value) (d0 : DataW H) (p0 : List MemPlace)
    (k0 : Value.okWide Try.prog W .any base 24 v0)
    (h0 : DataW.Trod enc Try.prog W 0 (fun _ => true) true 24 v0 d0 p0) :
    Calls Try.prog 8 #[v0] W fun e w' => e = .returned (.bool true) ∧ Below W.heap.size W w' := by
  obtain ⟨A, c, r, rfl, hp⟩ := open_ring k0 h0
  exact walk fixed_true c W hp (Nat.le_refl _)
end Go.Proofs.Ythmnaclmbglkdaa.ringHalf
