/- Layer 6: the table of operations: its rows, and that they are laid. -/
import Derived.Test.YtcfdbciooimjmaaGreatDoorRows
import Derived.Test.YtcfdbciooimjmaaGreatDoorzGc
import Derived.Test.YtcfdbciooimjmaaGreatDoorzGb
import Derived.WalkKit
import Derived.ProofKit
import Derived.BigQuiet
import Derived.Lib.QuietBelow
namespace Go.Proofs.YtcfdbciooimjmaaGreatDoor
set_option linter.unusedVariables false
set_option linter.unusedSimpArgs false
open Go.RowKit Go.ChangeShapes Go.WideShapes Go.ChangeAt

/-- A row as a value. -/
abbrev ov (nm : ByteArray) (f p q lo la lb : Int) : Value := .agg #[.string nm, .int .i64 f, .int .i64 p, .int .i64 q, .int .i64 lo, .int .i64 la, .int .i64 lb]
def ocells (r : Orow) : List Value := [.string r.nm, .int .i64 r.f, .int .i64 r.p, .int .i64 r.q, .int .i64 r.lo, .int .i64 r.la, .int .i64 r.lb]
def olits (r : Orow) : List Lit := [.string r.nm.data.toList, .int .i64 r.f, .int .i64 r.p, .int .i64 r.q, .int .i64 r.lo, .int .i64 r.la, .int .i64 r.lb]
def opArr : Array Value := (opTab.map ocells).flatten.toArray
/-- The table is laid. -/
def Otab (W : World) : Prop := ∃ ty, Held W 0 ty opArr
theorem Otab.below {w w' : World} (h : Otab w) (hb : Below w.heap.size w w') : Otab w' := h.imp fun _ h => h.below hb
theorem Otab.lt {w : World} (h : Otab w) : 0 < w.heap.size := by obtain ⟨_, h⟩ := h; exact h.lt

theorem ocells_len : ∀ r ∈ opTab.map ocells, r.length = 7 := by
  intro r hr
  obtain ⟨x, _, rfl⟩ := List.mem_map.1 hr
  rfl
theorem opArr_get (k j : Nat) (hk : k < 17) (hj : j < 7) : opArr[k * 7 + j]? = (ocells (orow k))[j]? := by
  unfold opArr
  rw [List.getElem?_toArray, flat_get 7 _ ocells_len k j hj, List.getElem?_map, opTab_get hk]
  rfl
theorem opArr_size : opArr.size = 119 := by
  unfold opArr
  rw [List.size_toArray, flat_length 7 _ ocells_len]
  rfl
theorem Otab.cell {W : World} (h : Otab W) (k j : Nat) (hk : k < 17) (hj : j < 7) : W.cell? ⟨0, k * 7 + j, none⟩ = (ocells (orow k))[j]? := by
  obtain ⟨_, h⟩ := h
  rw [h.cell, opArr_get k j hk hj]

theorem otab_global : Tryz.prog.globalNamed "transhumance/op.operations" = some 0 := by kernel_rfl
theorem otab_type : (Tryz.prog.globals[0]?).map (·.type) = some 118 := by kernel_rfl
theorem otab_cells : Tryz.prog.cellsOf 100 = 7 := by kernel_rfl
theorem otab_cellsA : Tryz.prog.cellsOf 118 = 17 * 7 := by kernel_rfl
theorem otab_is : Rows.laid_transhumance_op_operations (H := Unit) = .agg ((opTab.map olits).map fun ls => .agg (ls.map .lit)) := by kernel_rfl
theorem olits_value : (opTab.map olits).map (·.map Lit.value) = opTab.map ocells := by
  rw [List.map_map]
  refine List.map_congr_left fun r _ => ?_
  simp [olits, ocells, Lit.value]

theorem otab_of_laid {W : World} {rest : List (String × DataW Unit)} (h : laidMet Tryz.prog (("transhumance/op.operations", Rows.laid_transhumance_op_operations) :: rest) W) : Otab W := by
  rw [otab_is] at h
  obtain ⟨ty, h2⟩ := held_of_laid otab_global otab_type Tryz.underlying118 Tryz.underlying100 otab_cells otab_cellsA rfl (by decide) (by kernel_rfl) (by
    intro r hr
    obtain ⟨x, _, rfl⟩ := List.mem_map.1 hr
    rfl) (by decide) h
  refine ⟨ty, ?_⟩
  unfold Held opArr
  rw [← olits_value]
  exact h2
end Go.Proofs.YtcfdbciooimjmaaGreatDoor

/- Layer 6's code: operations, at every input, where the table is laid. -/
namespace Go.Proofs.YtcfdbciooimjmaaGreatDoor
set_option linter.unusedVariables false
set_option linter.unusedSimpArgs false
open Go.RowKit Go.ChangeShapes Go.WideShapes Go.ChangeAt Go.Sort

set_option maxHeartbeats 1000000 in
theorem within_any (n a b : Int) (w : World) : Calls Tryz.prog 86 #[.int .i64 n, .int .i64 a, .int .i64 b] w fun e w' => e = .returned (.bool (decide (a ≤ n) && decide (n ≤ b))) ∧ w = w' := by
  go_enter Tryz.func86, Tryz.ntmps86
  go_wp2_with fail
  all_goals
    go_ret
    refine ⟨ret_bool ?_, rfl⟩
    rw [Bool.eq_iff_iff]
    simp
    omega
theorem cs_within {n a b : Int} {x : Bool} (h : (decide (a ≤ n) && decide (n ≤ b)) = x) : Cs Tryz.prog 86 #[.int .i64 n, .int .i64 a, .int .i64 b] (.bool x) := fun W => by have := within_any n a b W; rwa [h] at this

theorem seven {W : World} (h : Otab W) {k : Nat} (hk : k < 17) :
    W.cell? ⟨0, k * 7, none⟩ = some (.string (orow k).nm) ∧ W.cell? ⟨0, k * 7 + 1, none⟩ = some (.int .i64 (orow k).f) ∧
    W.cell? ⟨0, k * 7 + 2, none⟩ = some (.int .i64 (orow k).p) ∧ W.cell? ⟨0, k * 7 + 3, none⟩ = some (.int .i64 (orow k).q) ∧
    W.cell? ⟨0, k * 7 + 4, none⟩ = some (.int .i64 (orow k).lo) ∧ W.cell? ⟨0, k * 7 + 5, none⟩ = some (.int .i64 (orow k).la) ∧
    W.cell? ⟨0, k * 7 + 6, none⟩ = some (.int .i64 (orow k).lb) :=
  ⟨h.cell k 0 hk (by decide), h.cell k 1 hk (by decide), h.cell k 2 hk (by decide), h.cell k 3 hk (by decide), h.cell k 4 hk (by decide), h.cell k 5 hk (by decide), h.cell k 6 hk (by decide)⟩

set_option maxHeartbeats 1000000 in
set_option maxRecDepth 100000 in
theorem numbered_in (k : Nat) (hk : k < 17) (nm : ByteArray) (f p q lo la lb : Int) (hr : orow k = ⟨nm, f, p, q, lo, la, lb⟩) (w : World) (hT : Otab w) :
    Calls Tryz.prog 72 #[.int .i64 k] w fun e w' => e = .returned (.tuple #[ov nm f p q lo la lb, .bool true]) ∧ Below w.heap.size w w' := by
  have C := cs_within (n := k) (a := 0) (b := 16) (x := true) (by simp; omega)
  obtain ⟨c0, c1, c2, c3, c4, c5, c6⟩ := seven hT hk
  rw [hr] at c0 c1 c2 c3 c4 c5 c6
  have hlt := hT.lt
  clear hr
  go_enter Tryz.func72, Tryz.ntmps72
  go_wp2_with (go_at_call 86; (with_reducible refine (C.go _).mono ?_); rintro e v ⟨rfl, rfl⟩)
  go_returns
  exact ⟨rfl, by go_grown⟩

set_option maxHeartbeats 1000000 in
set_option maxRecDepth 100000 in
theorem numbered_out (n : Int) (hn : okZ n = false) (w : World) :
    Calls Tryz.prog 72 #[.int .i64 n] w fun e w' => e = .returned (.tuple #[ov ⟨#[]⟩ 0 0 0 0 0 0, .bool false]) ∧ Below w.heap.size w w' := by
  have C := cs_within (n := n) (a := 0) (b := 16) (x := false) hn
  go_enter Tryz.func72, Tryz.ntmps72
  go_wp2_with (go_at_call 86; (with_reducible refine (C.go _).mono ?_); rintro e v ⟨rfl, rfl⟩)
  go_returns
  exact ⟨rfl, by go_grown⟩

/-- What there is of the operation n. -/
theorem numbered_any (n : Int) (nm : ByteArray) (f p q lo la lb : Int) (hr : rz n = ⟨nm, f, p, q, lo, la, lb⟩) (w : World) (hT : Otab w) :
    Calls Tryz.prog 72 #[.int .i64 n] w fun e w' => e = .returned (.tuple #[ov nm f p q lo la lb, .bool (okZ n)]) ∧ Below w.heap.size w w' := by
  rcases okZ_cases n with ⟨k, hk, rfl⟩ | hn
  · rw [rz_in hk] at hr
    rw [show okZ (k : Int) = true by simp [okZ]; omega]
    exact numbered_in k hk nm f p q lo la lb hr w hT
  · rw [rz_out hn] at hr
    cases hr
    rw [hn]
    exact numbered_out n hn w

set_option maxHeartbeats 1000000 in
set_option maxRecDepth 100000 in
theorem name_any (n : Int) (w : World) (hT : Otab w) : Calls Tryz.prog 43 #[.int .i64 n] w fun e w' => e = .returned (.string (rz n).nm) ∧ Below w.heap.size w w' := by
  have hr : rz n = ⟨(rz n).nm, (rz n).f, (rz n).p, (rz n).q, (rz n).lo, (rz n).la, (rz n).lb⟩ := rfl
  have C := fun W h => Lib.hid (numbered_any n _ _ _ _ _ _ _ hr W h)
  clear hr
  generalize (rz n).nm = nm at *
  generalize (rz n).f = f at *
  generalize (rz n).p = p at *
  generalize (rz n).q = q at *
  generalize (rz n).lo = lo at *
  generalize (rz n).la = la at *
  generalize (rz n).lb = lb at *
  go_enter Tryz.func43, Tryz.ntmps43
  go_wp2_with (go_at_call 72; (with_reducible refine (C _ hT).out.mono ?_); rintro e v ⟨rfl, hb⟩; have hsz := hb.size)
  go_ret
  refine ⟨rfl, ?_⟩
  replace hb := Below.step (Below.refl _ _) hb
  go_grown

set_option maxHeartbeats 1000000 in
set_option maxRecDepth 100000 in
theorem fields_any (n : Int) (w : World) (hT : Otab w) : Calls Tryz.prog 73 #[.int .i64 n] w fun e w' => e = .returned (.int .i64 (rz n).f) ∧ Below w.heap.size w w' := by
  have hr : rz n = ⟨(rz n).nm, (rz n).f, (rz n).p, (rz n).q, (rz n).lo, (rz n).la, (rz n).lb⟩ := rfl
  have C := fun W h => Lib.hid (numbered_any n _ _ _ _ _ _ _ hr W h)
  clear hr
  generalize (rz n).nm = nm at *
  generalize (rz n).f = f at *
  generalize (rz n).p = p at *
  generalize (rz n).q = q at *
  generalize (rz n).lo = lo at *
  generalize (rz n).la = la at *
  generalize (rz n).lb = lb at *
  go_enter Tryz.func73, Tryz.ntmps73
  go_wp2_with (go_at_call 72; (with_reducible refine (C _ hT).out.mono ?_); rintro e v ⟨rfl, hb⟩; have hsz := hb.size)
  go_ret
  exact ⟨rfl, by go_grown⟩
end Go.Proofs.YtcfdbciooimjmaaGreatDoor

/- Layer 6's code: whether an instruction may be, at every input. -/
namespace Go.Proofs.YtcfdbciooimjmaaGreatDoor
set_option linter.unusedVariables false
set_option linter.unusedSimpArgs false
open Go.RowKit Go.ChangeShapes Go.WideShapes Go.ChangeAt Go.Sort

set_option maxHeartbeats 1000000 in
set_option maxRecDepth 100000 in
theorem may_any (o a b : Int) (w : World) (hT : Otab w) : Calls Tryz.prog 67 #[iv o a b] w fun e w' => e = .returned (.bool (mayZ o a b)) ∧ Below w.heap.size w w' := by
  have hr : rz o = ⟨(rz o).nm, (rz o).f, (rz o).p, (rz o).q, (rz o).lo, (rz o).la, (rz o).lb⟩ := rfl
  have C := fun W h => Lib.hid (numbered_any o _ _ _ _ _ _ _ hr W h)
  have hm : mayZ o a b = (okZ o && (decide ((rz o).lo ≤ a) && decide (a ≤ (rz o).la)) && (decide (0 ≤ b) && decide (b ≤ (rz o).lb))) := rfl
  generalize mayZ o a b = m at *
  clear hr
  generalize (rz o).nm = nm at *
  generalize (rz o).f = f at *
  generalize (rz o).p = p at *
  generalize (rz o).q = q at *
  generalize (rz o).lo = lo at *
  generalize (rz o).la = la at *
  generalize (rz o).lb = lb at *
  generalize okZ o = k at *
  have C1 := cs_within (n := a) (a := lo) (b := la) rfl
  have C2 := cs_within (n := b) (a := 0) (b := lb) rfl
  generalize (decide (lo ≤ a) && decide (a ≤ la)) = x at *
  generalize (decide (0 ≤ b) && decide (b ≤ lb)) = y at *
  subst hm
  have hT2 := fun o => Lib.hid (hT.below ((Below.refl _ w).alloc (Nat.le_refl _) o))
  clear hT
  cases k <;> cases x <;> cases y
  all_goals
    go_enter Tryz.func67, Tryz.ntmps67
    go_wp2_with (first
      | (go_at_call 72; (with_reducible refine (C _ (hT2 _).out).out.mono ?_); rintro e v ⟨rfl, hb⟩; have hx := (Held.new w 64 #[.int .i64 o, .int .i64 a, .int .i64 b]).below hb; have c0 := hx.cell 0; have c1 := hx.cell 1; have c2 := hx.cell 2; simp at c0 c1 c2; have hlt := hx.lt; replace hb := below_laid hb; have hsz := hb.size)
      | (go_at_call 86; (with_reducible refine (C1.go _).mono ?_); rintro e v ⟨rfl, rfl⟩)
      | (go_at_call 86; (with_reducible refine (C2.go _).mono ?_); rintro e v ⟨rfl, rfl⟩))
    go_ret
    exact ⟨rfl, by go_grown⟩
end Go.Proofs.YtcfdbciooimjmaaGreatDoor

/- Layer 6's code: finding an operation by its name: a closure, called in a loop. -/
namespace Go.Proofs.YtcfdbciooimjmaaGreatDoor
set_option linter.unusedVariables false
set_option linter.unusedSimpArgs false
open Go.RowKit Go.ChangeShapes Go.WideShapes Go.ChangeAt Go.Sort

theorem opArr_chunk {k : Nat} (hk : k < 17) : opArr.extract (k * 7) (k * 7 + 7) = (ocells (orow k)).toArray := by
  apply Array.ext_getElem?
  intro j
  rw [Array.getElem?_extract]
  have hs := opArr_size
  by_cases hj : j < 7
  · rw [if_pos (by omega), opArr_get k j hk hj]
    simp
  · rw [if_neg (by omega), List.getElem?_toArray, List.getElem?_eq_none (by show 7 ≤ j; omega)]
theorem index_op {k : Nat} (hk : k < 17) {nm : ByteArray} {f p q lo la lb : Int} (hr : orow k = ⟨nm, f, p, q, lo, la, lb⟩) (W : World) :
    (Instr.index 118 (.agg opArr) (.int .i64 k)).run Tryz.prog W = .ok (ov nm f p q lo la lb) W := by
  have hi : (Tryz.prog.info? 100).map (·.size) = some 7 := by kernel_rfl
  cases hq : Tryz.prog.info? 100 with
  | none => simp [hq] at hi
  | some i =>
    have hs : i.size = 7 := by simpa [hq] using hi
    have hn : (0 : Int) ≤ k ∧ (k : Int) < 17 := by omega
    have hc := opArr_chunk hk
    rw [hr] at hc
    simp [Instr.index, run_underlying Tryz.underlying118, asIntOf, hn, part, isAgg, run_underlying Tryz.underlying100, Go.sizeOf, typeInfo, hq, hs, go_sem, Sem.run_bind]
    rw [hc, if_pos hk]
    rfl

set_option maxHeartbeats 1000000 in
set_option maxRecDepth 100000 in
theorem same_any (nm s : ByteArray) (f p q lo la lb : Int) (b : Nat) (w : World) (hs : w.cell? ⟨b, 0, none⟩ = some (.string s)) :
    Calls Tryz.prog 100 #[ov nm f p q lo la lb, .pointer (some ⟨b, 0, none⟩)] w fun e w' => e = .returned (.bool (eqS nm s)) ∧ Below w.heap.size w w' := by
  have hlt := block_lt_of_cell hs
  simp at hlt
  go_enter Tryz.func100, Tryz.ntmps100
  go_wp2_with fail
  go_ret
  exact ⟨ret_bool (eqS_toList _ _), by go_grown⟩

set_option maxHeartbeats 1000000 in
set_option maxRecDepth 100000 in
theorem scan_any (s : ByteArray) (b : Nat) (w : World) (hT : Otab w) (hs : w.cell? ⟨b, 0, none⟩ = some (.string s)) :
    Calls Tryz.prog 99 #[.func (.func 100) #[] #[.pointer (some ⟨b, 0, none⟩)]] w fun e w' =>
      e = .returned (.tuple #[.int .i64 (numF s), .bool (isF s)]) ∧ Below w.heap.size w w' := by
  have hlt := block_lt_of_cell hs
  simp at hlt
  obtain ⟨ty, hH⟩ := hT
  go_enter Tryz.func99, Tryz.ntmps99
  have HH := Lib.hid hH
  clear hH
  go_wp2_with (refine wpList_load_row rfl 118 _ rfl 0 rfl _ _ _ _ HH.out Tryz.underlying118 rfl (by rw [opArr_size]; kernel_rfl) ?_)
  have HI := fun (k : Nat) (hk : k < 17) (nm : ByteArray) (f p q lo la lb : Int) hr W => index_op hk (nm := nm) (f := f) (p := p) (q := q) (lo := lo) (la := la) (lb := lb) hr W
  go_loopw [7] (fun i W => ∃ k : Nat, k ≤ 17 ∧ i = .int .i64 k ∧ (∀ j, j < k → eqS (orow j).nm s = false) ∧ Below w.heap.size w W) (fun i _ => 17 - (intOf i).toNat)
  case atStart => exact ⟨0, by omega, rfl, fun j hj => absurd hj (by omega), Below.refl _ _⟩
  case round =>
    obtain ⟨k, hk, rfl, hn, hb⟩ := hrel
    have HN := Lib.hid hn
    clear hn
    have hsz := hb.size
    by_cases hlt2 : k < 17
    · obtain ⟨nm, f, p, q, lo, la, lb, hr⟩ : ∃ nm f p q lo la lb, orow k = ⟨nm, f, p, q, lo, la, lb⟩ := ⟨_, _, _, _, _, _, _, rfl⟩
      have hi := HI k hlt2 nm f p q lo la lb hr
      have hc : wr.cell? ⟨b, 0, none⟩ = some (.string s) := (hb.cell (by exact hlt)).trans hs
      have hbl : b < wr.heap.size := Nat.lt_of_lt_of_le hlt hsz
      have CL := fun o => Lib.hid (same_any nm s f p q lo la lb b (wr.alloc o) ((((Below.refl _ wr).alloc (Nat.le_refl _) o).cell hbl).trans hc))
      have HR := Lib.hid hr
      clear hr HI
      by_cases he : eqS nm s = true
      · have hit := fnd_hit (idx_hit hlt2 (by rw [HR.out]; exact he) HN.out) hlt2
        have HIT := Lib.hid hit
        clear hit
        rw [he] at CL
        go_wp2_with (go_at_call 100; (with_reducible refine (CL _).out.mono ?_); rintro e v ⟨rfl, hb2⟩; replace hb := Below.step hb (below_laid hb2); clear hb2)
        go_ret2
        refine ⟨?_, hb⟩
        rw [HIT.out.1, HIT.out.2]
        rfl
      · rw [Bool.not_eq_true] at he
        rw [he] at CL
        have hn2 : ∀ j, j < k + 1 → eqS (orow j).nm s = false := fun j hj => by
          rcases Nat.lt_succ_iff_lt_or_eq.1 hj with h | rfl
          · exact HN.out j h
          · rw [HR.out]; exact he
        have HN2 := Lib.hid hn2
        clear hn2
        go_wp2_with (go_at_call 100; (with_reducible refine (CL _).out.mono ?_); rintro e v ⟨rfl, hb2⟩; replace hb := Below.step hb (below_laid hb2); clear hb2)
        go_roundw
        case rel => exact ⟨k + 1, by omega, by go_num, HN2.out, hb⟩
        case measure => simp [intOf]; omega
    · obtain rfl : k = 17 := by omega
      have hm := fnd_miss (idx_miss HN.out)
      have HM := Lib.hid hm
      clear hm HI
      go_wp2
      go_ret2
      refine ⟨?_, hb⟩
      rw [HM.out.1, HM.out.2]
      rfl

set_option maxHeartbeats 1000000 in
set_option maxRecDepth 100000 in
theorem find_any (s : ByteArray) (w : World) (hT : Otab w) :
    Calls Tryz.prog 82 #[.string s] w fun e w' => e = .returned (.tuple #[.int .i64 (numF s), .bool (isF s)]) ∧ Below w.heap.size w w' := by
  have C := Lib.hid (scan_any s w.heap.size (w.alloc (.cells #[.string s] 9)) (hT.below ((Below.refl _ w).alloc (Nat.le_refl _) _)) ((Held.new w 9 #[.string s]).cell 0))
  go_enter Tryz.func82, Tryz.ntmps82
  go_wp2_with (go_at_call 99; (with_reducible refine C.out.mono ?_); rintro e v ⟨rfl, hb⟩)
  go_ret2
  exact ⟨rfl, below_laid hb⟩
end Go.Proofs.YtcfdbciooimjmaaGreatDoor

