/- Layer 1: WireReads: its arguments, opened. -/
import Derived.Test.YtcnacdjpihbfmaaL1rd
namespace Go.Proofs.Ytcnacdjpihbfmaa.wireReads
set_option linter.unusedVariables false
set_option linter.unusedSimpArgs false
open Go.ChangeShapes Go.WideShapes Go.ChangeAt Go.RowKit

theorem add_plain (b off i : Nat) : (⟨b, off, none⟩ : Addr).add i = ⟨b, off + i, none⟩ := by unfold Addr.add; split <;> simp_all
theorem plain_of_cell {w : World} {a : Addr} {v : Value} (h : w.cell? (a.add 0) = some v) : ∃ b off, a = ⟨b, off, none⟩ ∧ b < w.heap.size := by
  obtain ⟨b, off, spot⟩ := a
  cases spot with
  | some s =>
    have hx : (({ block := b, off := off, spot := some s } : Addr).add 0) = { block := b, off := off, spot := some s } := by simp [Addr.add]
    rw [hx] at h
    simp [World.cell?] at h
    split at h <;> simp at h
  | none =>
    rw [add_plain] at h
    exact ⟨b, off, rfl, block_lt_of_cell (a := ⟨b, off + 0, none⟩) h⟩

theorem entry {H : Type} {enc : TypeId × Value → H} (W : World) (base : Nat) (v0 v1 : Value) (d0 d1 : DataW H) (p0 p1 : List MemPlace)
    (k0 : Value.okWide Try.prog W .any base 9 v0) (k1 : Value.okWide Try.prog W .any base 22 v1)
    (h0 : DataW.Trod enc Try.prog W 0 (fun _ => true) true 9 v0 d0 p0) (h1 : DataW.Trod enc Try.prog W 0 (fun _ => true) true 22 v1 d1 p1) :
    Calls Try.prog 3 #[v0, v1] W fun e w' => e = .returned (.bool true) ∧ Below W.heap.size W w' := by
  obtain ⟨s, rfl, _, _, _⟩ := Go.ChangeMaps.open_string Try.underlying9 k0 h0
  obtain ⟨A, len, cap, rfl⟩ := okWide_slice Try.underlying22 k1
  obtain ⟨fuel, hf⟩ := h1
  rcases Deep.open_slice Try.underlying22 hf with ⟨hcs, _⟩ | ⟨a, len', cap', m, n, D, Pl, hcs, _, hl, _, hm, _, hx⟩
  · simp [Value.cells] at hcs
    obtain ⟨rfl, rfl, rfl⟩ := hcs
    exact whole s none 0 [] W (fun h => by simp at h)
  · simp [Value.cells] at hcs
    obtain ⟨rfl, rfl, rfl⟩ := hcs
    simp only [if_true] at hm
    have hp : ∀ i, i < len → ∃ q : Int × Int, W.cell? (a.add (i * 2)) = some (.int .i64 q.1) ∧ W.cell? ((a.add (i * 2)).add 1) = some (.int .i64 q.2) := fun i hi => by
      obtain ⟨cs, e1, e2⟩ := hx i (by omega)
      rw [cells2] at e1
      obtain ⟨_, hlen, hat⟩ := World.cells?_some e1
      obtain ⟨xs, n', _, _, _, hxl, hfs⟩ := DataW.trod_struct Try.underlying30 e2
      match cs, hlen with
      | [c0, c1], _ =>
        have g0 : DataW.trod enc Try.prog W 0 (fun _ => true) true n' 3 (([c0, c1].drop 0).take (Try.prog.cellsOf 3)) = xs[0]? := hfs 0 _ rfl
        have g1 : DataW.trod enc Try.prog W 0 (fun _ => true) true n' 3 (([c0, c1].drop 1).take (Try.prog.cellsOf 3)) = xs[1]? := hfs 1 _ rfl
        rw [cells1] at g0 g1
        have x0 : ∃ y, xs[0]? = some y := ⟨xs[0]'(by rw [hxl]; decide), List.getElem?_eq_getElem _⟩
        have x1 : ∃ y, xs[1]? = some y := ⟨xs[1]'(by rw [hxl]; decide), List.getElem?_eq_getElem _⟩
        obtain ⟨y0, x0⟩ := x0
        obtain ⟨y1, x1⟩ := x1
        rw [x0] at g0
        rw [x1] at g1
        obtain ⟨z0, e0, _, _⟩ := DataW.trod_int Try.underlying3 g0
        obtain ⟨z1, e1', _, _⟩ := DataW.trod_int Try.underlying3 g1
        simp at e0 e1'
        subst e0 e1'
        have q0 := hat 0 (by omega)
        have q1 := hat 1 (by omega)
        refine ⟨(z0, z1), ?_, ?_⟩
        · simpa [Addr.add] using q0
        · simpa using q1
    obtain ⟨f, hf⟩ := Deep.choose_lt hp
    have hlen : ((List.range len).map f).length = len := by simp
    have := whole s (some a) cap ((List.range len).map f) W (fun h => by
      rw [hlen] at h
      obtain ⟨b, off, rfl, hbl⟩ := plain_of_cell (by simpa using (hf 0 h).1)
      refine ⟨b, off, rfl, hbl, fun i hi => ?_⟩
      rw [hlen] at hi
      have e := hf i hi
      rw [add_plain, add_plain] at e
      simpa using e)
    rw [hlen] at this
    exact this
end Go.Proofs.Ytcnacdjpihbfmaa.wireReads
