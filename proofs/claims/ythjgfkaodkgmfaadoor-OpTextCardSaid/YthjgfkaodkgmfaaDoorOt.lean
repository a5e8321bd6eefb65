/- Layer 6: the table of operations: its rows, and that they are laid. -/
import Derived.Test.YthjgfkaodkgmfaaDoorRows
import Derived.Test.YthjgfkaodkgmfaaDoorTab
import Derived.WalkKit
import Derived.ProofKit
namespace Go.Proofs.YthjgfkaodkgmfaaDoor
set_option linter.unusedVariables false
set_option linter.unusedSimpArgs false
open Go.RowKit Go.ChangeShapes Go.WideShapes Go.ChangeAt

/-- A row of the table: name, fields, pops, pushes, first and last of the first field, last of the second one. -/
structure Orow where
  nm : ByteArray
  f : Int
  p : Int
  q : Int
  lo : Int
  la : Int
  lb : Int
def opTab : List Orow := [
  ⟨⟨#[112, 117, 115, 104]⟩, 2, 0, 1, 0, 250, 250⟩,
  ⟨⟨#[108, 111, 97, 100]⟩, 1, 0, 1, 0, 15, 0⟩,
  ⟨⟨#[115, 116, 111, 114, 101]⟩, 1, 1, 0, 0, 15, 0⟩,
  ⟨⟨#[97, 100, 100]⟩, 0, 2, 1, 0, 0, 0⟩,
  ⟨⟨#[115, 117, 98]⟩, 0, 2, 1, 0, 0, 0⟩,
  ⟨⟨#[109, 117, 108]⟩, 0, 2, 1, 0, 0, 0⟩,
  ⟨⟨#[100, 105, 118]⟩, 0, 2, 1, 0, 0, 0⟩,
  ⟨⟨#[99, 111, 110, 106]⟩, 0, 1, 1, 0, 0, 0⟩,
  ⟨⟨#[100, 117, 112]⟩, 0, 1, 2, 0, 0, 0⟩,
  ⟨⟨#[100, 114, 111, 112]⟩, 0, 1, 0, 0, 0, 0⟩,
  ⟨⟨#[106, 117, 109, 112]⟩, 1, 0, 0, 0, 199, 0⟩,
  ⟨⟨#[122, 101, 114, 111]⟩, 1, 1, 0, 0, 199, 0⟩,
  ⟨⟨#[114, 97, 110, 100]⟩, 0, 0, 1, 0, 0, 0⟩,
  ⟨⟨#[115, 112, 97, 119, 110]⟩, 2, 0, 0, 0, 15, 7⟩,
  ⟨⟨#[106, 111, 105, 110]⟩, 1, 0, 1, 0, 7, 0⟩,
  ⟨⟨#[114, 101, 116]⟩, 0, 1, 0, 0, 0, 0⟩,
  ⟨⟨#[116, 114, 97, 112]⟩, 1, 0, 0, 16, 255, 0⟩]
def noOp : Orow := ⟨⟨#[]⟩, 0, 0, 0, 0, 0, 0⟩
/-- The operation of a number. -/
def orow (n : Nat) : Orow := opTab.getD n noOp
def okZ (n : Int) : Bool := decide (0 ≤ n) && decide (n ≤ 16)
def rz (n : Int) : Orow := if okZ n = true then orow n.toNat else noOp
/-- A row as a value. -/
abbrev ov (nm : ByteArray) (f p q lo la lb : Int) : Value := .agg #[.string nm, .int .i64 f, .int .i64 p, .int .i64 q, .int .i64 lo, .int .i64 la, .int .i64 lb]
def ocells (r : Orow) : List Value := [.string r.nm, .int .i64 r.f, .int .i64 r.p, .int .i64 r.q, .int .i64 r.lo, .int .i64 r.la, .int .i64 r.lb]
def olits (r : Orow) : List Lit := [.string r.nm.data.toList, .int .i64 r.f, .int .i64 r.p, .int .i64 r.q, .int .i64 r.lo, .int .i64 r.la, .int .i64 r.lb]
def opArr : Array Value := (opTab.map ocells).flatten.toArray
/-- The table is laid. -/
def Otab (W : World) : Prop := ∃ ty, Held W 0 ty opArr
theorem Otab.below {w w' : World} (h : Otab w) (hb : Below w.heap.size w w') : Otab w' := h.imp fun _ h => h.below hb
theorem Otab.lt {w : World} (h : Otab w) : 0 < w.heap.size := by obtain ⟨_, h⟩ := h; exact h.lt

theorem ocells_len : ∀ r ∈ opTab.map ocells, r.length = 7 := by
  intro r hr
  obtain ⟨x, _, rfl⟩ := List.mem_map.1 hr
  rfl
theorem opTab_get {k : Nat} (hk : k < 17) : opTab[k]? = some (orow k) := by
  unfold orow
  rw [List.getD_eq_getElem?_getD]
  have : k < opTab.length := hk
  rw [List.getElem?_eq_getElem this]
  rfl
theorem opArr_get (k j : Nat) (hk : k < 17) (hj : j < 7) : opArr[k * 7 + j]? = (ocells (orow k))[j]? := by
  unfold opArr
  rw [List.getElem?_toArray, flat_get 7 _ ocells_len k j hj, List.getElem?_map, opTab_get hk]
  rfl
theorem opArr_size : opArr.size = 119 := by
  unfold opArr
  rw [List.size_toArray, flat_length 7 _ ocells_len]
  rfl
theorem Otab.cell {W : World} (h : Otab W) (k j : Nat) (hk : k < 17) (hj : j < 7) : W.cell? ⟨0, k * 7 + j, none⟩ = (ocells (orow k))[j]? := by
  obtain ⟨_, h⟩ := h
  rw [h.cell, opArr_get k j hk hj]

theorem rz_in {k : Nat} (h : k < 17) : rz k = orow k := by
  unfold rz
  rw [if_pos (by simp [okZ]; omega)]
  rfl
theorem rz_out {n : Int} (h : okZ n = false) : rz n = noOp := by unfold rz; rw [if_neg (by simp [h])]
theorem okZ_cases (n : Int) : (∃ k : Nat, k < 17 ∧ n = k) ∨ okZ n = false := by
  by_cases h : okZ n = true
  · simp only [okZ, Bool.and_eq_true, decide_eq_true_eq] at h
    exact .inl ⟨n.toNat, by omega, by omega⟩
  · exact .inr (by simpa using h)

theorem otab_global : Tryd.prog.globalNamed "transhumance/op.operations" = some 0 := by kernel_rfl
theorem otab_type : (Tryd.prog.globals[0]?).map (·.type) = some 46 := by kernel_rfl
theorem otab_cells : Tryd.prog.cellsOf 38 = 7 := by kernel_rfl
theorem otab_cellsA : Tryd.prog.cellsOf 46 = 17 * 7 := by kernel_rfl
theorem otab_is : Rows.laid_transhumance_op_operations (H := Unit) = .agg ((opTab.map olits).map fun ls => .agg (ls.map .lit)) := by kernel_rfl
theorem olits_value : (opTab.map olits).map (·.map Lit.value) = opTab.map ocells := by
  rw [List.map_map]
  refine List.map_congr_left fun r _ => ?_
  simp [olits, ocells, Lit.value]

theorem otab_of_laid {W : World} {rest : List (String × DataW Unit)} (h : laidMet Tryd.prog (("transhumance/op.operations", Rows.laid_transhumance_op_operations) :: rest) W) : Otab W := by
  rw [otab_is] at h
  obtain ⟨ty, h2⟩ := held_of_laid otab_global otab_type Tryd.underlying46 Tryd.underlying38 otab_cells otab_cellsA rfl (by decide) (by kernel_rfl) (by
    intro r hr
    obtain ⟨x, _, rfl⟩ := List.mem_map.1 hr
    rfl) (by decide) h
  refine ⟨ty, ?_⟩
  unfold Held opArr
  rw [← olits_value]
  exact h2
end Go.Proofs.YthjgfkaodkgmfaaDoor
