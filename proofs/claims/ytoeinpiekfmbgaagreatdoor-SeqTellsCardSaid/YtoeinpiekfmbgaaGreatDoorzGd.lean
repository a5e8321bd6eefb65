/- Layer 6: the table of operations: its rows, and that they are laid. -/
import Derived.Test.YtoeinpiekfmbgaaGreatDoorRows
import Derived.Test.YtoeinpiekfmbgaaGreatDoorzGc
import Derived.Test.YtoeinpiekfmbgaaGreatDoorzGb
import Derived.WalkKit
import Derived.ProofKit
import Derived.BigQuiet
import Derived.Lib.QuietBelow
namespace Go.Proofs.YtoeinpiekfmbgaaGreatDoor
set_option linter.unusedVariables false
set_option linter.unusedSimpArgs false
open Go.RowKit Go.ChangeShapes Go.WideShapes Go.ChangeAt

/-- A row as a value. -/
abbrev ov (nm : ByteArray) (f p q lo la lb : Int) : Value := .agg #[.string nm, .int .i64 f, .int .i64 p, .int .i64 q, .int .i64 lo, .int .i64 la, .int .i64 lb]
def ocells (r : Orow) : List Value := [.string r.nm, .int .i64 r.f, .int .i64 r.p, .int .i64 r.q, .int .i64 r.lo, .int .i64 r.la, .int .i64 r.lb]
def olits (r : Orow) : List Lit := [.string r.nm.data.toList, .int .i64 r.f, .int .i64 r.p, .int .i64 r.q, .int .i64 r.lo, .int .i64 r.la, .int .i64 r.lb]
def opArr : Array Value := (opTab.map ocells).flatten.toArray
/-- The table is laid. -/
def Otab (W : World) : Prop := ∃ ty, Held W 1 ty opArr
theorem Otab.below {w w' : World} (h : Otab w) (hb : Below w.heap.size w w') : Otab w' := h.imp fun _ h => h.below hb
theorem Otab.lt {w : World} (h : Otab w) : 1 < w.heap.size := by obtain ⟨_, h⟩ := h; exact h.lt

theorem ocells_len : ∀ r ∈ opTab.map ocells, r.length = 7 := by
  intro r hr
  obtain ⟨x, _, rfl⟩ := List.mem_map.1 hr
  rfl
theorem opArr_get (k j : Nat) (hk : k < 17) (hj : j < 7) : opArr[k * 7 + j]? = (ocells (orow k))[j]? := by
  unfold opArr
  rw [List.getElem?_toArray, flat_get 7 _ ocells_len k j hj, List.getElem?_map, opTab_get hk]
  rfl
theorem Otab.cell {W : World} (h : Otab W) (k j : Nat) (hk : k < 17) (hj : j < 7) : W.cell? ⟨1, k * 7 + j, none⟩ = (ocells (orow k))[j]? := by
  obtain ⟨_, h⟩ := h
  rw [h.cell, opArr_get k j hk hj]

theorem otab_global : Tryz.prog.globalNamed "transhumance/op.operations" = some 1 := by kernel_rfl
theorem otab_type : (Tryz.prog.globals[1]?).map (·.type) = some 146 := by kernel_rfl
theorem otab_cells : Tryz.prog.cellsOf 130 = 7 := by kernel_rfl
theorem otab_cellsA : Tryz.prog.cellsOf 146 = 17 * 7 := by kernel_rfl
theorem otab_is : Rows.laid_transhumance_op_operations (H := Unit) = .agg ((opTab.map olits).map fun ls => .agg (ls.map .lit)) := by kernel_rfl
theorem olits_value : (opTab.map olits).map (·.map Lit.value) = opTab.map ocells := by
  rw [List.map_map]
  refine List.map_congr_left fun r _ => ?_
  simp [olits, ocells, Lit.value]

theorem otab_of_laid {W : World} {rest : List (String × DataW Unit)} (h : laidMet Tryz.prog (("transhumance/op.operations", Rows.laid_transhumance_op_operations) :: rest) W) : Otab W := by
  rw [otab_is] at h
  obtain ⟨ty, h2⟩ := held_of_laid otab_global otab_type Tryz.underlying146 Tryz.underlying130 otab_cells otab_cellsA rfl (by decide) (by kernel_rfl) (by
    intro r hr
    obtain ⟨x, _, rfl⟩ := List.mem_map.1 hr
    rfl) (by decide) h
  refine ⟨ty, ?_⟩
  unfold Held opArr
  rw [← olits_value]
  exact h2
end Go.Proofs.YtoeinpiekfmbgaaGreatDoor

/- Layer 6's code: operations, at every input, where the table is laid. -/
namespace Go.Proofs.YtoeinpiekfmbgaaGreatDoor
set_option linter.unusedVariables false
set_option linter.unusedSimpArgs false
open Go.RowKit Go.ChangeShapes Go.WideShapes Go.ChangeAt Go.Sort

set_option maxHeartbeats 1000000 in
theorem within_any (n a b : Int) (w : World) : Calls Tryz.prog 87 #[.int .i64 n, .int .i64 a, .int .i64 b] w fun e w' => e = .returned (.bool (decide (a ≤ n) && decide (n ≤ b))) ∧ w = w' := by
  go_enter Tryz.func87, Tryz.ntmps87
  go_wp2_with fail
  all_goals
    go_ret
    refine ⟨ret_bool ?_, rfl⟩
    rw [Bool.eq_iff_iff]
    simp
    omega
theorem cs_within {n a b : Int} {x : Bool} (h : (decide (a ≤ n) && decide (n ≤ b)) = x) : Cs Tryz.prog 87 #[.int .i64 n, .int .i64 a, .int .i64 b] (.bool x) := fun W => by have := within_any n a b W; rwa [h] at this

theorem seven {W : World} (h : Otab W) {k : Nat} (hk : k < 17) :
    W.cell? ⟨1, k * 7, none⟩ = some (.string (orow k).nm) ∧ W.cell? ⟨1, k * 7 + 1, none⟩ = some (.int .i64 (orow k).f) ∧
    W.cell? ⟨1, k * 7 + 2, none⟩ = some (.int .i64 (orow k).p) ∧ W.cell? ⟨1, k * 7 + 3, none⟩ = some (.int .i64 (orow k).q) ∧
    W.cell? ⟨1, k * 7 + 4, none⟩ = some (.int .i64 (orow k).lo) ∧ W.cell? ⟨1, k * 7 + 5, none⟩ = some (.int .i64 (orow k).la) ∧
    W.cell? ⟨1, k * 7 + 6, none⟩ = some (.int .i64 (orow k).lb) :=
  ⟨h.cell k 0 hk (by decide), h.cell k 1 hk (by decide), h.cell k 2 hk (by decide), h.cell k 3 hk (by decide), h.cell k 4 hk (by decide), h.cell k 5 hk (by decide), h.cell k 6 hk (by decide)⟩

set_option maxHeartbeats 1000000 in
set_option maxRecDepth 100000 in
theorem numbered_in (k : Nat) (hk : k < 17) (nm : ByteArray) (f p q lo la lb : Int) (hr : orow k = ⟨nm, f, p, q, lo, la, lb⟩) (w : World) (hT : Otab w) :
    Calls Tryz.prog 86 #[.int .i64 k] w fun e w' => e = .returned (.tuple #[ov nm f p q lo la lb, .bool true]) ∧ Below w.heap.size w w' := by
  have C := cs_within (n := k) (a := 0) (b := 16) (x := true) (by simp; omega)
  obtain ⟨c0, c1, c2, c3, c4, c5, c6⟩ := seven hT hk
  rw [hr] at c0 c1 c2 c3 c4 c5 c6
  have hlt := hT.lt
  clear hr
  go_enter Tryz.func86, Tryz.ntmps86
  go_wp2_with (go_at_call 87; (with_reducible refine (C.go _).mono ?_); rintro e v ⟨rfl, rfl⟩)
  go_returns
  exact ⟨rfl, by go_grown⟩

set_option maxHeartbeats 1000000 in
set_option maxRecDepth 100000 in
theorem numbered_out (n : Int) (hn : okZ n = false) (w : World) :
    Calls Tryz.prog 86 #[.int .i64 n] w fun e w' => e = .returned (.tuple #[ov ⟨#[]⟩ 0 0 0 0 0 0, .bool false]) ∧ Below w.heap.size w w' := by
  have C := cs_within (n := n) (a := 0) (b := 16) (x := false) hn
  go_enter Tryz.func86, Tryz.ntmps86
  go_wp2_with (go_at_call 87; (with_reducible refine (C.go _).mono ?_); rintro e v ⟨rfl, rfl⟩)
  go_returns
  exact ⟨rfl, by go_grown⟩

/-- What there is of the operation n. -/
theorem numbered_any (n : Int) (nm : ByteArray) (f p q lo la lb : Int) (hr : rz n = ⟨nm, f, p, q, lo, la, lb⟩) (w : World) (hT : Otab w) :
    Calls Tryz.prog 86 #[.int .i64 n] w fun e w' => e = .returned (.tuple #[ov nm f p q lo la lb, .bool (okZ n)]) ∧ Below w.heap.size w w' := by
  rcases okZ_cases n with ⟨k, hk, rfl⟩ | hn
  · rw [rz_in hk] at hr
    rw [show okZ (k : Int) = true by simp [okZ]; omega]
    exact numbered_in k hk nm f p q lo la lb hr w hT
  · rw [rz_out hn] at hr
    cases hr
    rw [hn]
    exact numbered_out n hn w

end Go.Proofs.YtoeinpiekfmbgaaGreatDoor

/- Layer 6's code: whether an instruction may be, at every input. -/
namespace Go.Proofs.YtoeinpiekfmbgaaGreatDoor
set_option linter.unusedVariables false
set_option linter.unusedSimpArgs false
open Go.RowKit Go.ChangeShapes Go.WideShapes Go.ChangeAt Go.Sort

set_option maxHeartbeats 1000000 in
set_option maxRecDepth 100000 in
theorem opmay_any (o a b : Int) (w : World) (hT : Otab w) : Calls Tryz.prog 64 #[iv o a b] w fun e w' => e = .returned (.bool (mayZ o a b)) ∧ Below w.heap.size w w' := by
  have hr : rz o = ⟨(rz o).nm, (rz o).f, (rz o).p, (rz o).q, (rz o).lo, (rz o).la, (rz o).lb⟩ := rfl
  have C := fun W h => Lib.hid (numbered_any o _ _ _ _ _ _ _ hr W h)
  have hm : mayZ o a b = (okZ o && (decide ((rz o).lo ≤ a) && decide (a ≤ (rz o).la)) && (decide (0 ≤ b) && decide (b ≤ (rz o).lb))) := rfl
  generalize mayZ o a b = m at *
  clear hr
  generalize (rz o).nm = nm at *
  generalize (rz o).f = f at *
  generalize (rz o).p = p at *
  generalize (rz o).q = q at *
  generalize (rz o).lo = lo at *
  generalize (rz o).la = la at *
  generalize (rz o).lb = lb at *
  generalize okZ o = k at *
  have C1 := cs_within (n := a) (a := lo) (b := la) rfl
  have C2 := cs_within (n := b) (a := 0) (b := lb) rfl
  generalize (decide (lo ≤ a) && decide (a ≤ la)) = x at *
  generalize (decide (0 ≤ b) && decide (b ≤ lb)) = y at *
  subst hm
  have hT2 := fun o => Lib.hid (hT.below ((Below.refl _ w).alloc (Nat.le_refl _) o))
  clear hT
  cases k <;> cases x <;> cases y
  all_goals
    go_enter Tryz.func64, Tryz.ntmps64
    go_wp2_with (first
      | (go_at_call 86; (with_reducible refine (C _ (hT2 _).out).out.mono ?_); rintro e v ⟨rfl, hb⟩; have hx := (Held.new w 92 #[.int .i64 o, .int .i64 a, .int .i64 b]).below hb; have c0 := hx.cell 0; have c1 := hx.cell 1; have c2 := hx.cell 2; simp at c0 c1 c2; have hlt := hx.lt; replace hb := below_laid hb; have hsz := hb.size)
      | (go_at_call 87; (with_reducible refine (C1.go _).mono ?_); rintro e v ⟨rfl, rfl⟩)
      | (go_at_call 87; (with_reducible refine (C2.go _).mono ?_); rintro e v ⟨rfl, rfl⟩))
    go_ret
    exact ⟨rfl, by go_grown⟩
end Go.Proofs.YtoeinpiekfmbgaaGreatDoor

