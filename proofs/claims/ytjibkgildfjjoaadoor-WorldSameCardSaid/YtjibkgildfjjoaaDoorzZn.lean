/- Layer 13: the argument of a start, in a variable; two more calls as the laws meet them. -/
import Derived.Test.YtjibkgildfjjoaaDoorzZl
namespace Go.Proofs.YtjibkgildfjjoaaDoor
set_option linter.unusedVariables false
set_option linter.unusedSimpArgs false
open Go.RowKit Go.ChangeShapes Go.WideShapes Go.ChangeAt Go.Sort

theorem rrefsl_c {l k : List V} {R : Bool} (hR : decide (l = k) = R) (h1 : l.length ≤ 100000) (h2 : k.length ≤ 100000) (c c2 : Nat) (W : World) {A A2 : Option Addr} (hp : PAt W W.heap.size A l) (hq : PAt W W.heap.size A2 k) :
    Calls Tryd.prog 11 #[.slice A l.length c, .slice A2 k.length c2] W fun e w' => e = .returned (.bool R) ∧ Below W.heap.size W w' := by
  subst hR
  exact rrefs_any c c2 W hp hq h1 h2
theorem eqG_refl (r : Rng) : eqG r r = true := (eqG_iff r r).2 rfl
theorem rsameg_c {r : Rng} (hl : r.buf.length ≤ 100000) (c c2 : Nat) (W : World) {A A2 : Option Addr} (hp : PAt W W.heap.size A r.buf) (hq : PAt W W.heap.size A2 r.buf) :
    Calls Tryd.prog 15 #[rgv A r.buf.length c r.head r.many r.most, rgv A2 r.buf.length c2 r.head r.many r.most] W fun e w' => e = .returned (.bool true) ∧ Below W.heap.size W w' := by
  have h := rsamer_any (r := r) (q := r) c c2 W hp hq (Nat.le_refl _) hl hl
  rw [show (decide (r.buf = r.buf) && (r.head == r.head) && (r.many == r.many) && (r.most == r.most)) = true from eqG_refl r] at h
  exact h
end Go.Proofs.YtjibkgildfjjoaaDoor

