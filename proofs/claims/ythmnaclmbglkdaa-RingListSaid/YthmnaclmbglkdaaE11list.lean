/- RingList: the walk, for every input that can be read. -/
import Derived.Test.YthmnaclmbglkdaaL11list
import Derived.Test.YthmnaclmbglkdaaJj
import Derived.OpenShut
namespace Go.Proofs.Ythmnaclmbglkdaa.ringList
set_option linter.unusedVariables false
set_option linter.unusedSimpArgs false
open Go.RowKit Go.ChangeShapes Go.WideShapes Go.ChangeAt Go.Sort Go.Deep Go.Joins Go.Proofs.Ythmnaclmbglkdaa

theorem entry {H : Type} {enc : TypeId × Value → H} (W : World) (base : Nat) (v0 v1 : Value) (d0 d1 : DataW H) (p0 p1 : List MemPlace)
    (k0 : Value.okWide Try.prog W .any base 24 v0)
    (k1 : Value.okWide Try.prog W .any base 22 v1)
    (h0 : DataW.Trod enc Try.prog W 0 (fun _ => true) true 24 v0 d0 p0)
    (h1 : DataW.Trod enc Try.prog W 0 (fun _ => true) true 22 v1 d1 p1) :
    Calls Try.prog 4 #[v0, v1] W fun e w' => e = .returned (.bool true) ∧ Below W.heap.size W w' := by
  obtain ⟨A, c, r, rfl, hp⟩ := open_ring k0 h0
  obtain ⟨A2, c2, l, rfl, hp2, _⟩ := open_refs_arg k1 h1
  exact walk fixed_true c c2 W hp hp2 (Nat.le_refl _) rfl
end Go.Proofs.Ythmnaclmbglkdaa.ringList
