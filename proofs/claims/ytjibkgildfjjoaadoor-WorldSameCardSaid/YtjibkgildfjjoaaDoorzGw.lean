/- Worlds that grow by one block of old ones; blocks held. -/
import Derived.Test.YtjibkgildfjjoaaDoorzHd
namespace Go.Proofs.YtjibkgildfjjoaaDoor
set_option linter.unusedVariables false
set_option linter.unusedSimpArgs false
open Go.RowKit Go.ChangeShapes Go.WideShapes Go.ChangeAt Go.Sort

theorem grown_of_below {w w' : World} (h : Below w.heap.size w w') (g : Option Nat) : w.grownBy w' g := ⟨h.os, h.tape, h.output, h.size, fun k hk _ => h.block k hk⟩
theorem grown_trans {a b c : World} {g : Option Nat} (h : a.grownBy b g) (h1 : b.grownBy c g) : a.grownBy c g :=
  ⟨h1.os.trans h.os, h1.tape.trans h.tape, h1.output.trans h.output, Nat.le_trans h.size h1.size, fun k hk hn => (h1.block k (Nat.lt_of_lt_of_le hk h.size) hn).trans (h.block k hk hn)⟩
theorem Held.set_at {W : World} {g : Nat} {t : TypeId} {cs : Array Value} (h : Held W g t cs) (i : Nat) (x : Value) : Held (W.setCell ⟨g, i, none⟩ x) g t (cs.setIfInBounds i x) := by
  unfold Held at *
  simp [World.setCell, Array.getElem?_modify, h]
theorem grown_set1 (W : World) (g i : Nat) (x : Value) : W.grownBy (W.setCell ⟨g, i, none⟩ x) (some g) := ⟨rfl, rfl, rfl, by simp [World.setCell], fun k _ hne => Below.heap_setCell W ⟨g, i, none⟩ x k (fun e => hne (by rw [e]))⟩

theorem grown_far {w u : World} {g : Option Nat} (h : w.grownBy u g) {r : Nat} (hr : w.heap.size ≤ r) (i : Nat) (x : Value) : w.grownBy (u.setCell ⟨r, i, none⟩ x) g :=
  ⟨h.os, h.tape, h.output, by simpa [World.setCell] using h.size, fun k hk hn => (Below.heap_setCell u ⟨r, i, none⟩ x k (by show k ≠ r; omega)).trans (h.block k hk hn)⟩
theorem held_drew {W : World} {g : Nat} {t : TypeId} {cs : Array Value} (h : Held W g t cs) : Held W.drew g t cs := h
end Go.Proofs.YtjibkgildfjjoaaDoor

