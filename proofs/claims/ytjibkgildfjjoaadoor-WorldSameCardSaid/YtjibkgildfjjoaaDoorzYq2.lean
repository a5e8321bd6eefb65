/- Layer 12: lists appended in drawn regions. -/
import Derived.Test.YtjibkgildfjjoaaDoorzYl
namespace Go.Proofs.YtjibkgildfjjoaaDoor
set_option linter.unusedVariables false
set_option linter.unusedSimpArgs false
open Go.RowKit Go.ChangeShapes Go.WideShapes Go.ChangeAt Go.Sort

theorem held_kt {w w' : World} {k : Nat} {t t' : TypeId} {cs : Array Value} (h : Held w k t cs) (hk : KTy w w' t') (hne : t ≠ t') : Held w' k t cs := (hk k t cs (0, 0) h hne).trans h
/-- Cells appended to what was made. -/
def RowC (w : World) (D C : Nat) (A : Option Addr) (n c : Nat) (l : List Cel) : Prop := ∃ ys, w.ownsRow D 56 18 (.slice A n c) n ys ∧ CelsOf (fun _ => FrmAt w C) ys l
theorem RowC.below {w w' : World} {D C n c : Nat} {A : Option Addr} {l : List Cel} (h : RowC w D C A n c l) (hb : Below w.heap.size w w') (hC : C ≤ w.heap.size) : RowC w' D C A n c l := by
  obtain ⟨ys, h1, h2⟩ := h
  exact ⟨ys, r_later h1 hb, h2.mono fun _ _ _ k => k.below hb hC⟩
theorem RowC.turn {w w' : World} {D C n c : Nat} {A : Option Addr} {l : List Cel} {t : TypeId} (h : RowC w D C A n c l) (hk : KTy w w' t) (hne : 56 ≠ t) (hb : Below D w w') (hC : C ≤ D) : RowC w' D C A n c l := by
  obtain ⟨ys, h1, h2⟩ := h
  exact ⟨ys, row_kt h1 hk hne, h2.mono fun _ _ _ k => k.below hb hC⟩
theorem RowC.at {w : World} {D C n c : Nat} {A : Option Addr} {l : List Cel} (h : RowC w D C A n c l) (hn : l.length = n) (hC : C ≤ w.heap.size) : CAt w w.heap.size A l := by
  subst hn
  obtain ⟨ys, h1, h2⟩ := h
  obtain ⟨A', c', e, k⟩ := row_lies h1
  simp only [Value.slice.injEq] at e
  obtain ⟨rfl, _, rfl⟩ := e
  intro h0
  obtain ⟨b, e2, _, hlt, hr⟩ := k h0
  exact ⟨b, 0, ys, e2, hlt, hr, h2.mono fun _ _ _ k => k.more hC⟩
end Go.Proofs.YtjibkgildfjjoaaDoor

