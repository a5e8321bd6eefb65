/- A block of one's own, known whole. -/
import Derived.Test.YtkpjlobpaippdaaKit
import Derived.WalkKit
import Derived.ProofKit
import Derived.WalkLawsBesides
import Derived.Lib.Hide
import Derived.Handy
import Derived.IntWalk
namespace Go.Proofs.Ytkpjlobpaippdaa
set_option linter.unusedVariables false
set_option linter.unusedSimpArgs false
open Go.RowKit Go.ChangeShapes Go.WideShapes Go.ChangeAt Go.Sort

/-- A value laid over another one, in a block of its own. -/
theorem set2 {v : World} {g : Nat} {a b x y : Value} {t : TypeId} (hx : v.heap[g]? = some (.cells #[a, b] t (0, 0))) : ((v.setCell ⟨g, 0, none⟩ x).setCell ⟨g, 1, none⟩ y).heap[g]? = some (.cells #[x, y] t (0, 0)) := by
  simp [World.setCell, Array.getElem?_modify, hx]

/-- Block g holds just these cells. -/
def Held (W : World) (g : Nat) (t : TypeId) (cs : Array Value) : Prop := W.heap[g]? = some (.cells cs t (0, 0))
theorem Held.lt {W : World} {g : Nat} {t : TypeId} {cs : Array Value} (h : Held W g t cs) : g < W.heap.size := by
  rcases Nat.lt_or_ge g W.heap.size with hlt | hge
  · exact hlt
  · unfold Held at h; rw [Array.getElem?_eq_none hge] at h; cases h
theorem Held.cell {W : World} {g : Nat} {t : TypeId} {cs : Array Value} (h : Held W g t cs) (i : Nat) : W.cell? ⟨g, i, none⟩ = cs[i]? := cell_at h i
theorem Held.fz {W : World} {g : Nat} {t : TypeId} {cs : Array Value} (h : Held W g t cs) (i : Nat) : W.frozen? ⟨g, i, none⟩ = false := fz_at h i
theorem Held.new (W : World) (t : TypeId) (cs : Array Value) : Held (W.alloc (.cells cs t)) W.heap.size t cs := heap_alloc_last W _
theorem Held.new1 (W : World) (o : Obj) (t : TypeId) (cs : Array Value) : Held ((W.alloc o).alloc (.cells cs t)) (W.heap.size + 1) t cs := by
  have := heap_alloc_last (W.alloc o) (.cells cs t)
  unfold Held
  simpa using this
theorem Held.new2 (W : World) (o p : Obj) (t : TypeId) (cs : Array Value) : Held (((W.alloc o).alloc p).alloc (.cells cs t)) (W.heap.size + 1 + 1) t cs := by
  have := heap_alloc_last ((W.alloc o).alloc p) (.cells cs t)
  unfold Held
  simpa using this
theorem Held.below {W W' : World} {g : Nat} {t : TypeId} {cs : Array Value} (h : Held W g t cs) (hb : Below W.heap.size W W') : Held W' g t cs := (hb.block g h.lt).trans h
theorem Held.alloc {W : World} {g : Nat} {t : TypeId} {cs : Array Value} (h : Held W g t cs) (o : Obj) : Held (W.alloc o) g t cs := (Below.heap_alloc W o g h.lt).trans h
theorem Held.set {W : World} {g : Nat} {t : TypeId} {a b : Value} (h : Held W g t #[a, b]) (x y : Value) : Held ((W.setCell ⟨g, 0, none⟩ x).setCell ⟨g, 1, none⟩ y) g t #[x, y] := set2 h
theorem Held.far {W : World} {g k : Nat} {t : TypeId} {cs : Array Value} (h : Held W g t cs) (hk : g ≠ k) (i : Nat) (x : Value) : Held (W.setCell ⟨k, i, none⟩ x) g t cs := (Below.heap_setCell W ⟨k, i, none⟩ x g hk).trans h
theorem Held.two {W : World} {g : Nat} {t : TypeId} {a b : Value} (h : Held W g t #[a, b]) : W.cell? ⟨g, 0, none⟩ = some a ∧ W.cell? ⟨g, 1, none⟩ = some b ∧ W.frozen? ⟨g, 0, none⟩ = false ∧ W.frozen? ⟨g, 1, none⟩ = false :=
  ⟨h.cell 0, h.cell 1, h.fz 0, h.fz 1⟩
theorem below2 (w : World) (o p : Obj) : Below w.heap.size w ((w.alloc o).alloc p) := ((Below.refl _ _).alloc (Nat.le_refl _) _).alloc (by simp) _
theorem below3 (w : World) (o p q : Obj) : Below w.heap.size w (((w.alloc o).alloc p).alloc q) := (((Below.refl _ _).alloc (Nat.le_refl _) _).alloc (by simp) _).alloc (by simp; omega) _

/-- A value. -/
abbrev gv (x y : Int) : Value := .agg #[.int .i64 x, .int .i64 y]
theorem set2c {v : World} {k : Nat} {e f x y : Value} (c4 : v.cell? ⟨k, 0, none⟩ = some e) (c5 : v.cell? ⟨k, 1, none⟩ = some f) :
    ((v.setCell ⟨k, 0, none⟩ x).setCell ⟨k, 1, none⟩ y).cell? ⟨k, 0, none⟩ = some x ∧ ((v.setCell ⟨k, 0, none⟩ x).setCell ⟨k, 1, none⟩ y).cell? ⟨k, 1, none⟩ = some y := by
  have h1 : (v.setCell ⟨k, 0, none⟩ x).cell? ⟨k, 0, none⟩ = some x := World.cell?_setCell_same _ _ _ c4
  have h2 : (v.setCell ⟨k, 0, none⟩ x).cell? ⟨k, 1, none⟩ = some f := (World.cell?_setCell_other _ _ _ _ (by simp)).trans c5
  exact ⟨(World.cell?_setCell_other _ _ _ _ (by simp)).trans h1, World.cell?_setCell_same _ _ _ h2⟩
theorem set2b {w v : World} {k : Nat} {x y : Value} (hk : w.heap.size ≤ k) (hw : Below w.heap.size w v) : Below w.heap.size w ((v.setCell ⟨k, 0, none⟩ x).setCell ⟨k, 1, none⟩ y) :=
  (hw.setCell hk _).setCell hk _
end Go.Proofs.Ytkpjlobpaippdaa
