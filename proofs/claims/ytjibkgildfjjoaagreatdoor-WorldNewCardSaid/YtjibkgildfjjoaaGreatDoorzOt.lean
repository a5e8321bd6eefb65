/- Layer 6: the table of operations: its rows, and that they are laid. -/
import Derived.Test.YtjibkgildfjjoaaGreatDoorRows
import Derived.Test.YtjibkgildfjjoaaGreatDoorzTab
import Derived.Test.YtjibkgildfjjoaaGreatDoorzOpl
import Derived.WalkKit
import Derived.ProofKit
namespace Go.Proofs.YtjibkgildfjjoaaGreatDoor
set_option linter.unusedVariables false
set_option linter.unusedSimpArgs false
open Go.RowKit Go.ChangeShapes Go.WideShapes Go.ChangeAt

/-- A row as a value. -/
abbrev ov (nm : ByteArray) (f p q lo la lb : Int) : Value := .agg #[.string nm, .int .i64 f, .int .i64 p, .int .i64 q, .int .i64 lo, .int .i64 la, .int .i64 lb]
def ocells (r : Orow) : List Value := [.string r.nm, .int .i64 r.f, .int .i64 r.p, .int .i64 r.q, .int .i64 r.lo, .int .i64 r.la, .int .i64 r.lb]
def olits (r : Orow) : List Lit := [.string r.nm.data.toList, .int .i64 r.f, .int .i64 r.p, .int .i64 r.q, .int .i64 r.lo, .int .i64 r.la, .int .i64 r.lb]
def opArr : Array Value := (opTab.map ocells).flatten.toArray
/-- The table is laid. -/
def Otab (W : World) : Prop := ∃ ty, Held W 2 ty opArr
theorem Otab.below {w w' : World} (h : Otab w) (hb : Below w.heap.size w w') : Otab w' := h.imp fun _ h => h.below hb
theorem Otab.lt {w : World} (h : Otab w) : 2 < w.heap.size := by obtain ⟨_, h⟩ := h; exact h.lt

theorem ocells_len : ∀ r ∈ opTab.map ocells, r.length = 7 := by
  intro r hr
  obtain ⟨x, _, rfl⟩ := List.mem_map.1 hr
  rfl
theorem opArr_get (k j : Nat) (hk : k < 17) (hj : j < 7) : opArr[k * 7 + j]? = (ocells (orow k))[j]? := by
  unfold opArr
  rw [List.getElem?_toArray, flat_get 7 _ ocells_len k j hj, List.getElem?_map, opTab_get hk]
  rfl
theorem Otab.cell {W : World} (h : Otab W) (k j : Nat) (hk : k < 17) (hj : j < 7) : W.cell? ⟨2, k * 7 + j, none⟩ = (ocells (orow k))[j]? := by
  obtain ⟨_, h⟩ := h
  rw [h.cell, opArr_get k j hk hj]

theorem otab_global : Tryz.prog.globalNamed "transhumance/op.operations" = some 2 := by kernel_rfl
theorem otab_type : (Tryz.prog.globals[2]?).map (·.type) = some 168 := by kernel_rfl
theorem otab_cells : Tryz.prog.cellsOf 160 = 7 := by kernel_rfl
theorem otab_cellsA : Tryz.prog.cellsOf 168 = 17 * 7 := by kernel_rfl
theorem otab_is : Rows.laid_transhumance_op_operations (H := Unit) = .agg ((opTab.map olits).map fun ls => .agg (ls.map .lit)) := by kernel_rfl
theorem olits_value : (opTab.map olits).map (·.map Lit.value) = opTab.map ocells := by
  rw [List.map_map]
  refine List.map_congr_left fun r _ => ?_
  simp [olits, ocells, Lit.value]

theorem otab_of_laid {W : World} {rest : List (String × DataW Unit)} (h : laidMet Tryz.prog (("transhumance/op.operations", Rows.laid_transhumance_op_operations) :: rest) W) : Otab W := by
  rw [otab_is] at h
  obtain ⟨ty, h2⟩ := held_of_laid otab_global otab_type Tryz.underlying168 Tryz.underlying160 otab_cells otab_cellsA rfl (by decide) (by kernel_rfl) (by
    intro r hr
    obtain ⟨x, _, rfl⟩ := List.mem_map.1 hr
    rfl) (by decide) h
  refine ⟨ty, ?_⟩
  unfold Held opArr
  rw [← olits_value]
  exact h2
end Go.Proofs.YtjibkgildfjjoaaGreatDoor

