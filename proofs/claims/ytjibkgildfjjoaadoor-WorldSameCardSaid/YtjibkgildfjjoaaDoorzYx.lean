/- Layer 12: pens of a call's own, turned; the document's copy. -/
import Derived.Test.YtjibkgildfjjoaaDoorzYr
namespace Go.Proofs.YtjibkgildfjjoaaDoor
set_option linter.unusedVariables false
set_option linter.unusedSimpArgs false
open Go.RowKit Go.ChangeShapes Go.WideShapes Go.ChangeAt Go.Sort

/-- A pen whose lists are one's own, and whose frames are as F has it. -/
structure RowZ (F : Value → Frm → Prop) (w : World) (D : Nat) (A : Option Addr) (c : Nat) (A2 : Option Addr) (c2 : Nat) (p : Zp) : Prop where
  cells : ∃ xs, w.ownsRow D 56 18 (.slice A p.cells.length c) p.cells.length xs ∧ CelsOf (fun _ => F) xs p.cells
  free : OwnI w D (.slice A2 p.free.length c2) p.free
theorem OwnZ.row {w : World} {D c c2 : Nat} {A A2 : Option Addr} {p : Zp} (h : OwnZ w D A c A2 c2 p) : RowZ (OwnF w D) w D A c A2 c2 p := ⟨h.cells, h.free⟩
theorem RowZ.own {w : World} {D c c2 : Nat} {A A2 : Option Addr} {p : Zp} (h : RowZ (OwnF w D) w D A c A2 c2 p) : OwnZ w D A c A2 c2 p := ⟨h.cells, h.free⟩
theorem RowZ.at {w : World} {D B c c2 : Nat} {A A2 : Option Addr} {p : Zp} (h : RowZ (FrmAt w B) w D A c A2 c2 p) (hB : B ≤ w.heap.size) : PAtZ w w.heap.size A A2 p := by
  obtain ⟨xs, h1, h2⟩ := h.cells
  obtain ⟨A', c', e, k⟩ := row_lies h1
  simp only [Value.slice.injEq] at e
  obtain ⟨rfl, _, rfl⟩ := e
  refine ⟨fun h0 => ?_, h.free.at⟩
  obtain ⟨b, e2, _, hlt, hr⟩ := k h0
  exact ⟨b, 0, xs, e2, hlt, hr, h2.mono fun _ _ _ k => k.more hB⟩
theorem RowZ.kt {F F' : Value → Frm → Prop} {w w' : World} {D c c2 : Nat} {A A2 : Option Addr} {p : Zp} {t : TypeId} (h : RowZ F w D A c A2 c2 p) (hk : KTy w w' t) (h1 : 56 ≠ t) (h2 : 3 ≠ t) (hF : ∀ v f, F v f → F' v f) : RowZ F' w' D A c A2 c2 p := by
  obtain ⟨xs, k1, k2⟩ := h.cells
  exact ⟨⟨xs, row_kt k1 hk h1, k2.mono fun _ => hF⟩, row_kt h.free hk h2⟩
theorem RowZ.below {F F' : Value → Frm → Prop} {w w' : World} {D c c2 : Nat} {A A2 : Option Addr} {p : Zp} (h : RowZ F w D A c A2 c2 p) (hb : Below w.heap.size w w') (hF : ∀ v f, F v f → F' v f) : RowZ F' w' D A c A2 c2 p := by
  obtain ⟨xs, k1, k2⟩ := h.cells
  exact ⟨⟨xs, r_later k1 hb, k2.mono fun _ => hF⟩, r_later h.free hb⟩
/-- A cell is stored. -/
theorem RowZ.setc {F F' : Value → Frm → Prop} {w : World} {D c c2 g : Nat} {A2 : Option Addr} {p : Zp} (h : RowZ F w D (some ⟨g, 0, none⟩) c A2 c2 p) {j : Nat} (hj : j < p.cells.length) {x : Cel} {cs : Array Value} (h1 : cs.size = 16) (h2 : cs.all (·.oneCell') = true) (h3 : F' (.agg cs) x.frm)
    (hF : ∀ v f, F v f → F' v f) : RowZ F' (w.setCells g (j * 18) (celv x cs)) D (some ⟨g, 0, none⟩) c A2 c2 ⟨p.cells.set j x, p.free, p.most⟩ := by
  obtain ⟨xs, k1, k2⟩ := h.cells
  refine ⟨⟨setL xs (j * 18) (celv x cs), ?_, celsOf_set k2 hj h1 h2 h3 fun _ _ _ _ k => hF _ _ k⟩, row_kt h.free (kt_setCells k1 _ _) tyCI⟩
  simp only [List.length_set]
  exact row_setCells _ _ k1
theorem RowZ.there {F : Value → Frm → Prop} {w : World} {D c c2 g : Nat} {A2 : Option Addr} {p : Zp} (h : RowZ F w D (some ⟨g, 0, none⟩) c A2 c2 p) {j : Nat} (hj : j < p.cells.length) : w.there g (j * 18) 18 := by
  obtain ⟨xs, k1, k2⟩ := h.cells
  exact row_there k1 (by omega)
theorem RowZ.kts {F : Value → Frm → Prop} {w : World} {D c c2 g : Nat} {A2 : Option Addr} {p : Zp} (h : RowZ F w D (some ⟨g, 0, none⟩) c A2 c2 p) (o : Nat) (vs : List Value) : KTy w (w.setCells g o vs) 56 := by
  obtain ⟨xs, k1, k2⟩ := h.cells
  exact kt_setCells k1 _ _
theorem RowZ.ge {F : Value → Frm → Prop} {w : World} {D c c2 g : Nat} {A2 : Option Addr} {p : Zp} (h : RowZ F w D (some ⟨g, 0, none⟩) c A2 c2 p) : D ≤ g ∧ g < w.heap.size := by
  obtain ⟨xs, k1, k2⟩ := h.cells
  exact k1.lt g rfl
/-- Where there is a cell. -/
theorem RowZ.form {F : Value → Frm → Prop} {w : World} {D c c2 : Nat} {A A2 : Option Addr} {p : Zp} (h : RowZ F w D A c A2 c2 p) {j : Nat} (hj : j < p.cells.length) : ∃ g, A = some ⟨g, 0, none⟩ ∧ w.cell? ⟨g, j * 18, none⟩ = some (.int .i64 p.cells[j].gen) := by
  obtain ⟨xs, k1, k2⟩ := h.cells
  obtain ⟨g, c', e⟩ := r_form k1 (by omega)
  simp only [Value.slice.injEq] at e
  obtain ⟨rfl, _, _⟩ := e
  obtain ⟨cs, s1, s2, s3, s4⟩ := k2.2 j hj
  have hl := k1.1
  refine ⟨g, rfl, ?_⟩
  rw [k1.cellAt (j * 18) (by omega)]
  exact s4 0 (by omega)
/-- One int in a block of its own. -/
theorem one1_at {t : TypeId} {w : World} (x : Int) : IAt (w.alloc (.cells #[.int .i64 x] t)) (w.alloc (.cells #[.int .i64 x] t)).heap.size (some ⟨w.heap.size, 0, none⟩) [x] := fun _ => by
  have h := Held.new w t #[.int .i64 x]
  refine ⟨_, _, rfl, h.lt, fun j hj => ?_⟩
  obtain rfl : j = 0 := by simpa using hj
  exact h.cell 0
theorem lie_form {w : World} {D n c : Nat} {A : Option Addr} {l : List Int} (h : OwnI w D (.slice A n c) l) {j : Nat} (hj : j < l.length) : ∃ g, A = some ⟨g, 0, none⟩ ∧ D ≤ g ∧ g < w.heap.size ∧ w.cell? ⟨g, j, none⟩ = some (.int .i64 l[j]) := by
  obtain rfl := h.len
  obtain ⟨g, c', e⟩ := r_form h (by omega)
  simp only [Value.slice.injEq] at e
  obtain ⟨rfl, _, _⟩ := e
  refine ⟨g, rfl, (h.lt g rfl).1, (h.lt g rfl).2, ?_⟩
  unfold OwnI at h
  rw [h.cellAt j (by omega)]
  simp [hj]
theorem below_grown2 {w0 w w' : World} {row : Option Nat} {C : Nat} (h0 : Below C w0 w) (hg : w.grownBy w' row) (h : ∀ q, row = some q → C ≤ q) (hC : C ≤ w.heap.size) : Below C w0 w' := h0.trans (below_grow hg h hC)

end Go.Proofs.YtjibkgildfjjoaaDoor

