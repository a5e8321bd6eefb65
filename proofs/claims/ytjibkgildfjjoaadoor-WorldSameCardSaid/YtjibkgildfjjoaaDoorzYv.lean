/- Layer 12's code: Set, Drop. -/
import Derived.Test.YtjibkgildfjjoaaDoorzYu
import Derived.Test.YtjibkgildfjjoaaDoorzYx
import Derived.Test.YtjibkgildfjjoaaDoorzYg
namespace Go.Proofs.YtjibkgildfjjoaaDoor
set_option linter.unusedVariables false
set_option linter.unusedSimpArgs false
open Go.RowKit Go.ChangeShapes Go.WideShapes Go.ChangeAt Go.Sort

theorem PenQ.mono {w0 w : World} {R : Zp × Int} {e : Ending} {w' : World} (h : PenQ w R e w') (hb : Below w0.heap.size w0 w) : ∃ A c A2 c2, e = .returned (.tuple #[pv A R.1.cells.length c A2 R.1.free.length c2 R.1.most, .int .i64 R.2]) ∧ OwnZ w' w.heap.size A c A2 c2 R.1 ∧ Below w.heap.size w w' := h
theorem below4 (w : World) (o p q s : Obj) : Below w.heap.size w ((((w.alloc o).alloc p).alloc q).alloc s) := ((((Below.refl _ _).alloc (Nat.le_refl _) _).alloc (by simp) _).alloc (by simp; omega) _).alloc (by simp; omega) _
end Go.Proofs.YtjibkgildfjjoaaDoor

/- Layer 12: the document's Set. -/
namespace Go.Proofs.YtjibkgildfjjoaaDoor
set_option linter.unusedVariables false
set_option linter.unusedSimpArgs false
open Go.RowKit Go.ChangeShapes Go.WideShapes Go.ChangeAt Go.Sort

end Go.Proofs.YtjibkgildfjjoaaDoor

