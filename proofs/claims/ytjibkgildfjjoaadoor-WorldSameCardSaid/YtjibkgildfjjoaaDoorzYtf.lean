/- Layer 12: the document's Lay, where a free cell is used. -/
import Derived.Test.YtjibkgildfjjoaaDoorzYte
import Derived.Test.YtjibkgildfjjoaaDoorzYo
import Derived.Test.YtjibkgildfjjoaaDoorzYq2
import Derived.Test.YtjibkgildfjjoaaDoorzYla
namespace Go.Proofs.YtjibkgildfjjoaaDoor
set_option linter.unusedVariables false
set_option linter.unusedSimpArgs false
open Go.RowKit Go.ChangeShapes Go.WideShapes Go.ChangeAt Go.Sort

/-- Two blocks alone are turned. -/
def Two (a b : Nat) (w w' : World) : Prop := ∀ k, k ≠ a → k ≠ b → w'.heap[k]? = w.heap[k]?
theorem Two.refl (a b : Nat) (w : World) : Two a b w w := fun _ _ _ => rfl
theorem Two.set2 {a b : Nat} {w w' : World} (h : Two a b w w') (cs : Array Value) : Two a b w (w'.setRow b cs) := fun k h1 h2 => (row_far0 _ _ _ k h2).trans (h k h1 h2)
/-- The last free places are cut off. -/
theorem RowZ.cut {F : Value → Frm → Prop} {w : World} {D c c2 m L : Nat} {A A2 : Option Addr} {p : Zp} (h : RowZ F w D A c A2 c2 p) (hm : p.free.length = m) (hL : L ≤ m) : RowZ F w D A c A2 c2 ⟨p.cells, p.free.take L, p.most⟩ := by
  refine ⟨h.cells, ?_⟩
  have hlen : (p.free.take L).length = L := by rw [List.length_take]; omega
  have h9 := h.free
  show OwnI w D (.slice A2 (p.free.take L).length c2) (p.free.take L)
  rw [hlen]
  exact h9.cut (by omega)
end Go.Proofs.YtjibkgildfjjoaaDoor

