/- Layer 12's code: work, Set, Drop. -/
import Derived.Test.YtjibkgildfjjoaaDoorzYx
namespace Go.Proofs.YtjibkgildfjjoaaDoor
set_option linter.unusedVariables false
set_option linter.unusedSimpArgs false
open Go.RowKit Go.ChangeShapes Go.WideShapes Go.ChangeAt Go.Sort

/-- On the way of work: the pen, the ref, the result. -/
structure WrkS (w : World) (p : Zp) (r : V) (A : Option Addr) (n c : Nat) (A2 : Option Addr) (m c2 : Nat) (W : World) : Prop where
  pen : Held W w.heap.size 29 (pc A n c A2 m c2 p.most)
  ref : Held W (w.heap.size + 1) 33 (refc r.1 r.2)
  res : Held W (w.heap.size + 1 + 1) 29 pz0
  own : OwnZ W (w.heap.size + 3) A c A2 c2 p
  low : Below w.heap.size w W
theorem WrkS.below {w : World} {p : Zp} {r : V} {A : Option Addr} {n c : Nat} {A2 : Option Addr} {m c2 : Nat} {W W' : World} (h : WrkS w p r A n c A2 m c2 W) (hb : Below W.heap.size W W') : WrkS w p r A n c A2 m c2 W' :=
  ⟨h.pen.below hb, h.ref.below hb, h.res.below hb, h.own.below hb, Below.step h.low hb⟩
theorem kt_row {W : World} {g : Nat} {t : TypeId} {cs : Array Value} (h : Held W g t cs) (ds : Array Value) : KTy W (W.setRow g ds) t := fun k e es fr hk hne => row_far0 W g ds k (fun e2 => by
  subst e2
  rw [Held, hk] at h
  simp at h
  exact hne h.2.1)
theorem OwnZ.pen {w w' : World} {D c c2 : Nat} {A A2 : Option Addr} {p : Zp} (h : OwnZ w D A c A2 c2 p) (hk : KTy w w' 29) : OwnZ w' D A c A2 c2 p := h.kt hk (by decide) (by decide) (by decide) (by decide)
/-- What a call leaves that tells a pen, and a number. -/
def PenQ (w : World) (R : Zp × Int) (e : Ending) (w' : World) : Prop := ∃ A c A2 c2, e = .returned (.tuple #[pv A R.1.cells.length c A2 R.1.free.length c2 R.1.most, .int .i64 R.2]) ∧ OwnZ w' w.heap.size A c A2 c2 R.1 ∧ Below w.heap.size w w'
end Go.Proofs.YtjibkgildfjjoaaDoor

