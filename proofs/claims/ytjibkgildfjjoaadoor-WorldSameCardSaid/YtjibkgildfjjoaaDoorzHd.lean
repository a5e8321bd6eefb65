/- A block of one's own, known whole. -/
import Derived.Test.YtjibkgildfjjoaaDoorzKit
import Derived.WalkKit
import Derived.ProofKit
import Derived.WalkLawsBesides
import Derived.Lib.Hide
import Derived.Handy
import Derived.IntWalk
import Derived.Test.YtjibkgildfjjoaaDoorRows
import Derived.Test.YtjibkgildfjjoaaDoorzGm
import Derived.Test.YtjibkgildfjjoaaDoorzSdm
import Derived.Laws.BitsAllLaws
import Derived.Test.YtjibkgildfjjoaaDoorzQt
import Derived.OpenShut
import Derived.Lib.SmallJoins
import Derived.Lib.LaidTab
import Derived.Laws.Rows
import Derived.BigQuiet
import Derived.Lib.QuietBelow
import Derived.Deep.RegionHeld3
import Derived.Deep.DeepCutAuto
import Derived.Deep.CutBlock
namespace Go.Proofs.YtjibkgildfjjoaaDoor
set_option linter.unusedVariables false
set_option linter.unusedSimpArgs false
open Go.RowKit Go.ChangeShapes Go.WideShapes Go.ChangeAt Go.Sort

/-- A value laid over another one, in a block of its own. -/
theorem set2 {v : World} {g : Nat} {a b x y : Value} {t : TypeId} (hx : v.heap[g]? = some (.cells #[a, b] t (0, 0))) : ((v.setCell ⟨g, 0, none⟩ x).setCell ⟨g, 1, none⟩ y).heap[g]? = some (.cells #[x, y] t (0, 0)) := by
  simp [World.setCell, Array.getElem?_modify, hx]

/-- Block g holds just these cells. -/
def Held (W : World) (g : Nat) (t : TypeId) (cs : Array Value) : Prop := W.heap[g]? = some (.cells cs t (0, 0))
theorem Held.lt {W : World} {g : Nat} {t : TypeId} {cs : Array Value} (h : Held W g t cs) : g < W.heap.size := by
  rcases Nat.lt_or_ge g W.heap.size with hlt | hge
  · exact hlt
  · unfold Held at h; rw [Array.getElem?_eq_none hge] at h; cases h
theorem Held.cell {W : World} {g : Nat} {t : TypeId} {cs : Array Value} (h : Held W g t cs) (i : Nat) : W.cell? ⟨g, i, none⟩ = cs[i]? := cell_at h i
theorem Held.fz {W : World} {g : Nat} {t : TypeId} {cs : Array Value} (h : Held W g t cs) (i : Nat) : W.frozen? ⟨g, i, none⟩ = false := fz_at h i
theorem Held.new (W : World) (t : TypeId) (cs : Array Value) : Held (W.alloc (.cells cs t)) W.heap.size t cs := heap_alloc_last W _
theorem Held.new1 (W : World) (o : Obj) (t : TypeId) (cs : Array Value) : Held ((W.alloc o).alloc (.cells cs t)) (W.heap.size + 1) t cs := by
  have := heap_alloc_last (W.alloc o) (.cells cs t)
  unfold Held
  simpa using this
theorem Held.new2 (W : World) (o p : Obj) (t : TypeId) (cs : Array Value) : Held (((W.alloc o).alloc p).alloc (.cells cs t)) (W.heap.size + 1 + 1) t cs := by
  have := heap_alloc_last ((W.alloc o).alloc p) (.cells cs t)
  unfold Held
  simpa using this
theorem Held.below {W W' : World} {g : Nat} {t : TypeId} {cs : Array Value} (h : Held W g t cs) (hb : Below W.heap.size W W') : Held W' g t cs := (hb.block g h.lt).trans h
theorem Held.alloc {W : World} {g : Nat} {t : TypeId} {cs : Array Value} (h : Held W g t cs) (o : Obj) : Held (W.alloc o) g t cs := (Below.heap_alloc W o g h.lt).trans h
theorem Held.set {W : World} {g : Nat} {t : TypeId} {a b : Value} (h : Held W g t #[a, b]) (x y : Value) : Held ((W.setCell ⟨g, 0, none⟩ x).setCell ⟨g, 1, none⟩ y) g t #[x, y] := set2 h
theorem Held.far {W : World} {g k : Nat} {t : TypeId} {cs : Array Value} (h : Held W g t cs) (hk : g ≠ k) (i : Nat) (x : Value) : Held (W.setCell ⟨k, i, none⟩ x) g t cs := (Below.heap_setCell W ⟨k, i, none⟩ x g hk).trans h
theorem below2 (w : World) (o p : Obj) : Below w.heap.size w ((w.alloc o).alloc p) := ((Below.refl _ _).alloc (Nat.le_refl _) _).alloc (by simp) _
/-- A value. -/
abbrev gv (x y : Int) : Value := .agg #[.int .i64 x, .int .i64 y]
end Go.Proofs.YtjibkgildfjjoaaDoor

/- Layer 4's code: remainders and parts, at every input. -/
namespace Go.Proofs.YtjibkgildfjjoaaDoor
set_option linter.unusedVariables false
set_option linter.unusedSimpArgs false
open Go.RowKit Go.ChangeShapes Go.WideShapes Go.ChangeAt Gm

end Go.Proofs.YtjibkgildfjjoaaDoor

/- Layer 5's code: seeds, at every input. -/
namespace Go.Proofs.YtjibkgildfjjoaaDoor
set_option linter.unusedVariables false
set_option linter.unusedSimpArgs false
open Go.RowKit Go.ChangeShapes Go.WideShapes Go.ChangeAt Gm Sdm

/-- Whether a number is a seed. -/
def isZ (n : Int) : Bool := decide (0 ≤ n) && decide (n ≤ 4294967295)
def start (s n : Nat) : Nat := s ^^^ mulF ((n + 1) % 4294967296) 2654435761
end Go.Proofs.YtjibkgildfjjoaaDoor

/- Layer 6: the document's own answers, at every input. -/
namespace Go.Proofs.YtjibkgildfjjoaaDoor
set_option linter.unusedVariables false
set_option linter.unusedSimpArgs false
open Go.RowKit Go.ChangeShapes Go.WideShapes Go.ChangeAt Go.Sort

set_option maxHeartbeats 1000000 in
theorem rfields_any (n : Int) : Cs Tryd.prog 67 #[.int .i64 n] (.int .i64 (rz n).f) := fun w => by
  have hf : (n = 0 ∨ n = 13 → (rz n).f = 2) ∧ (n = 1 ∨ n = 2 ∨ n = 10 ∨ n = 11 ∨ n = 14 ∨ n = 16 → (rz n).f = 1) ∧ (¬ (n = 0 ∨ n = 13) → ¬ (n = 1 ∨ n = 2 ∨ n = 10 ∨ n = 11 ∨ n = 14 ∨ n = 16) → (rz n).f = 0) := by
    rcases okZ_cases n with ⟨k, hk, rfl⟩ | hn
    · rw [rz_in hk, f_of k hk]
      refine ⟨fun h => ?_, fun h => ?_, fun h h2 => ?_⟩
      · rw [if_pos (by omega)]
      · rw [if_neg (by omega), if_pos (by omega)]
      · rw [if_neg (by omega), if_neg (by omega)]
    · rw [rz_out hn]
      have := okO_no hn
      exact ⟨fun h => by omega, fun h => by omega, fun _ _ => rfl⟩
  generalize (rz n).f = f at *
  have H := Lib.hid hf
  clear hf
  go_enter Tryd.func67, Tryd.ntmps67
  go_wp2_with fail
  all_goals
    go_ret
    refine ⟨ret_int ?_, rfl⟩
    have := H.out
    simp only [beq_iff_eq, beq_eq_false_iff_ne, ne_eq] at *
    omega

set_option maxHeartbeats 1000000 in
theorem most_any (o j : Int) : Cs Tryd.prog 81 #[.int .i64 o, .int .i64 j] (.int .i64 (mostZ o j)) := fun w => by
  have hf : mostZ o j = if o = 0 then 250 else if o = 1 ∨ o = 2 then 15 else if o = 10 ∨ o = 11 then 199 else if o = 13 then (if j = 1 then 7 else 15) else if o = 14 then 7 else 255 := rfl
  generalize mostZ o j = f at *
  have H := Lib.hid hf
  clear hf
  go_enter Tryd.func81, Tryd.ntmps81
  go_wp2_with fail
  all_goals
    go_ret
    refine ⟨ret_int ?_, rfl⟩
    have := H.out
    simp only [beq_iff_eq, beq_eq_false_iff_ne, ne_eq] at *
    simp_all

/-- The names, in a list. -/
def nameArr : Array Value := (opTab.map fun r => .string r.nm).toArray
theorem nameArr_get {k : Nat} (hk : k < 17) : nameArr[k]? = some (.string (orow k).nm) := by
  unfold nameArr
  rw [List.getElem?_toArray, List.getElem?_map, opTab_get hk]
  rfl
set_option maxHeartbeats 1000000 in
set_option maxRecDepth 100000 in
theorem names_any (w : World) : Calls Tryd.prog 80 #[] w fun e w' => e = .returned (.slice (some ⟨w.heap.size, 0, none⟩) 17 17) ∧ Held w' w.heap.size 9 nameArr ∧ Below w.heap.size w w' := by
  go_enter Tryd.func80, Tryd.ntmps80
  go_wp2_with fail
  go_ret
  exact ⟨rfl, Held.new _ _ _, by go_grown⟩
end Go.Proofs.YtjibkgildfjjoaaDoor

/- Values of two ints: arguments opened, comparisons, parts. -/
namespace Go.Proofs.YtjibkgildfjjoaaDoor
set_option linter.unusedVariables false
set_option linter.unusedSimpArgs false
open Go.ChangeShapes Go.WideShapes Go.ChangeAt Go.RowKit Go.Joins

theorem neqv_run (a b c d : Int) (W : World) : (binOp .neq 35 (gv a b) (gv c d)).run Tryd.prog W = .ok (.bool (decide ((a, b) ≠ (c, d)))) W := by
  by_cases h1 : a = c <;> by_cases h2 : b = d <;> simp [go_sem, h1, h2]
end Go.Proofs.YtjibkgildfjjoaaDoor

/- A package-level table of rows of one-cell fields: its cells, out of what it reads as. -/
namespace Go.Proofs.YtjibkgildfjjoaaDoor
set_option linter.unusedVariables false
set_option linter.unusedSimpArgs false
open Go Go.Lib

theorem flat_get {α : Type} (k : Nat) : ∀ (rows : List (List α)), (∀ r ∈ rows, r.length = k) → ∀ i j, j < k → rows.flatten[i * k + j]? = (rows[i]?).bind (·[j]?)
  | [], _, i, j, _ => by simp
  | r :: rs, h, 0, j, hj => by
    have hr := h r (by simp)
    simp [List.getElem?_append_left (show j < r.length by omega)]
  | r :: rs, h, i + 1, j, hj => by
    have hr := h r (by simp)
    have := flat_get k rs (fun x hx => h x (by simp [hx])) i j hj
    rw [List.flatten_cons, List.getElem?_append_right (by rw [hr, Nat.add_mul]; omega), hr, show (i + 1) * k + j - k = i * k + j by rw [Nat.add_mul]; omega, this]
    simp
theorem flat_length {α : Type} (k : Nat) : ∀ (rows : List (List α)), (∀ r ∈ rows, r.length = k) → rows.flatten.length = rows.length * k
  | [], _ => by simp
  | r :: rs, h => by
    have hr := h r (by simp)
    have := flat_length k rs (fun x hx => h x (by simp [hx]))
    rw [List.flatten_cons, List.length_append, this, hr, List.length_cons, Nat.add_mul]
    omega

def plainB (P : Program) (t : TypeId) : Bool := match P.underlying t with | some (.int _) => true | some .string => true | _ => false

section
variable {H : Type} {enc : TypeId × Value → H} {P : Program} {w : World} {base : Nat} {sp : Nat → Bool} {held : Bool}

theorem cell_of_lit {t : TypeId} {fuel : Nat} {cs : List Value} {l : Lit} {p : List MemPlace} (ht : plainB P t = true) (h : DataW.trod enc P w base sp held fuel t cs = some (.lit l, p)) : cs = [l.value] := by
  unfold plainB at ht
  split at ht
  · rename_i hu
    obtain ⟨n, rfl, he, _⟩ := DataW.trod_int hu h
    simp only [Prod.mk.injEq, DataW.lit.injEq] at he
    rw [he.1]
    rfl
  · rename_i hu
    obtain ⟨s, rfl, he, _⟩ := DataW.trod_string hu h
    simp only [Prod.mk.injEq, DataW.lit.injEq] at he
    rw [he.1]
    simp [Lit.value]
  · cases ht

theorem chunk_of_trod {t : TypeId} {fuel k : Nat} {fs : Array Field} {cs : List Value} {ls : List Lit} {p : List MemPlace} (ht : P.underlying t = some (.struct fs)) (hct : P.cellsOf t = k) (hfl : fs.toList.length = k)
    (hf : (List.range k).all (fun j => match fs.toList[j]? with | some f => f.offset == j && P.cellsOf f.type == 1 && plainB P f.type | none => false) = true)
    (h : DataW.trod enc P w base sp held fuel t cs = some (.agg (ls.map .lit), p)) : cs = ls.map Lit.value := by
  cases fuel with
  | zero => simp [DataW.trod] at h
  | succ fuel =>
    simp only [DataW.trod, ht] at h
    split at h
    · rename_i hl
      obtain ⟨xs, hm, hx⟩ := Option.map_eq_some_iff.1 h
      have hxs : xs.map (·.1) = ls.map .lit := by
        have := congrArg Prod.fst hx
        simpa using this
      have hxl : xs.length = k := by rw [mapM_length hm]; exact hfl
      have hzl : ls.length = k := by
        have := congrArg List.length hxs
        simp at this
        omega
      apply List.ext_getElem?
      intro i
      by_cases hi : i < k
      · have hfi := (List.all_eq_true.1 hf) i (by simp [hi])
        cases hq : fs.toList[i]? with
        | none => simp [hq] at hfi
        | some f =>
          simp only [hq, Bool.and_eq_true, beq_iff_eq] at hfi
          obtain ⟨⟨ho, hc⟩, hp⟩ := hfi
          obtain ⟨b, hb, hfb⟩ := mapM_at hm i f hq
          have h2 : (xs.map (·.1))[i]? = some b.1 := by simp [hb]
          rw [hxs] at h2
          simp only [List.getElem?_map, Option.map_eq_some_iff] at h2
          obtain ⟨l, hl1, hl2⟩ := h2
          have hfb' : DataW.trod enc P w base sp held fuel f.type ((cs.drop f.offset).take (P.cellsOf f.type)) = some (.lit l, b.2) := by rw [hfb, hl2]
          have := cell_of_lit hp hfb'
          rw [ho, hc] at this
          have h1 : cs[i]? = some l.value := by
            have := congrArg (·[0]?) this
            simpa [List.getElem?_take, List.getElem?_drop] using this
          simp [h1, hl1]
      · rw [List.getElem?_eq_none (by omega), List.getElem?_eq_none (by simp; omega)]
    · cases h

theorem tab_of_trod {t e : TypeId} {fuel n k : Nat} {fs : Array Field} {cs : List Value} {rows : List (List Lit)} {p : List MemPlace} (ht : P.underlying t = some (.array n e)) (he : P.underlying e = some (.struct fs))
    (hce : P.cellsOf e = k) (hct : P.cellsOf t = n * k) (hfl : fs.toList.length = k) (hk : 0 < k)
    (hf : (List.range k).all (fun j => match fs.toList[j]? with | some f => f.offset == j && P.cellsOf f.type == 1 && plainB P f.type | none => false) = true) (hr : ∀ r ∈ rows, r.length = k)
    (h : DataW.trod enc P w base sp held fuel t cs = some (.agg (rows.map fun ls => .agg (ls.map .lit)), p)) : cs = (rows.map (·.map Lit.value)).flatten := by
  cases fuel with
  | zero => simp [DataW.trod] at h
  | succ fuel =>
    simp only [DataW.trod, ht, hce, hct] at h
    split at h
    · rename_i hl
      obtain ⟨xs, hm, hx⟩ := Option.map_eq_some_iff.1 h
      have hxs : xs.map (·.1) = rows.map fun ls => .agg (ls.map .lit) := by
        have := congrArg Prod.fst hx
        simpa using this
      have hxl : xs.length = n := by simpa using mapM_length hm
      have hzl : rows.length = n := by
        have := congrArg List.length hxs
        simp at this
        omega
      have hr' : ∀ r ∈ rows.map (·.map Lit.value), r.length = k := by
        intro r hr1
        obtain ⟨x, hx1, rfl⟩ := List.mem_map.1 hr1
        simp [hr x hx1]
      apply List.ext_getElem?
      intro m
      by_cases hi : m < n * k
      · have hin : m / k < n := (Nat.div_lt_iff_lt_mul hk).2 hi
        have hj : m % k < k := Nat.mod_lt _ hk
        have hm2 : m / k * k + m % k = m := by rw [Nat.mul_comm]; exact Nat.div_add_mod m k
        generalize hi' : m / k = i at *
        generalize hj' : m % k = j at *
        obtain ⟨b, hb, hfb⟩ := mapM_at hm i i (by simp [hin])
        have h2 : (xs.map (·.1))[i]? = some b.1 := by simp [hb]
        rw [hxs] at h2
        simp only [List.getElem?_map, Option.map_eq_some_iff] at h2
        obtain ⟨r, hr1, hr2⟩ := h2
        have hfb' : DataW.trod enc P w base sp held fuel e ((cs.drop (i * k)).take k) = some (.agg (r.map .lit), b.2) := by rw [hfb, hr2]
        have h3 := chunk_of_trod he hce hfl hf hfb'
        have h4 : cs[i * k + j]? = (r.map Lit.value)[j]? := by
          have := congrArg (·[j]?) h3
          simp only [List.getElem?_take, List.getElem?_drop, hj, if_true] at this
          exact this
        rw [← hm2, h4, flat_get k _ hr' i j hj]
        simp [hr1]
      · rw [List.getElem?_eq_none (by omega), List.getElem?_eq_none (by rw [flat_length k _ hr', List.length_map, hzl]; omega)]
    · cases h
end

/-- A listed table is the one that stands in the variable's block. -/
theorem held_of_laid {P : Program} {W : World} {name : String} {rows : List (List Lit)} {rest : List (String × DataW Unit)} {g : Nat} {t e : TypeId} {n k : Nat} {fs : Array Field}
    (hg : P.globalNamed name = some g) (hty : (P.globals[g]?).map (·.type) = some t) (ht : P.underlying t = some (.array n e)) (he : P.underlying e = some (.struct fs))
    (hce : P.cellsOf e = k) (hct : P.cellsOf t = n * k) (hfl : fs.toList.length = k) (hk : 0 < k)
    (hf : (List.range k).all (fun j => match fs.toList[j]? with | some f => f.offset == j && P.cellsOf f.type == 1 && plainB P f.type | none => false) = true) (hr : ∀ r ∈ rows, r.length = k) (hn : 0 < rows.length)
    (h : laidMet P ((name, .agg (rows.map fun ls => .agg (ls.map .lit))) :: rest) W) : ∃ ty, W.heap[g]? = some (.cells (rows.map (·.map Lit.value)).flatten.toArray ty (0, 0)) := by
  obtain ⟨ps, ⟨g', t', cs, fuel, p, q, hg', ht', hvar, hd, _, hps⟩, _, hall⟩ := h
  obtain rfl := Option.some.inj (hg.symm.trans hg')
  obtain rfl := Option.some.inj (hty.symm.trans ht')
  have hcs := tab_of_trod ht he hce hct hfl hk hf hr hd
  have hpos : 0 < cs.size := by
    have : cs.toList.length = rows.length * k := by
      rw [hcs, flat_length k]
      · simp
      · intro r hr1
        obtain ⟨x, hx1, rfl⟩ := List.mem_map.1 hr1
        simp [hr x hx1]
    have h2 : 0 < rows.length * k := Nat.mul_pos hn hk
    have h3 : cs.size = cs.toList.length := by simp
    omega
  obtain ⟨⟨c, ty, hc⟩, _⟩ := hall g 0 (by
    rw [hps]
    refine List.mem_append_left _ (List.mem_append_left _ ?_)
    exact MemPlace.mem_row.2 ⟨0, hpos, by simp⟩)
  have hv : W.var? P name = some c := by unfold World.var?; rw [hg]; simp [hc]
  obtain rfl := Option.some.inj (hv.symm.trans hvar)
  refine ⟨ty, ?_⟩
  rw [hc]
  congr 2
  exact Array.toList_inj.1 (by rw [hcs])
end Go.Proofs.YtjibkgildfjjoaaDoor

/- Layer 6: the table of operations: its rows, and that they are laid. -/
namespace Go.Proofs.YtjibkgildfjjoaaDoor
set_option linter.unusedVariables false
set_option linter.unusedSimpArgs false
open Go.RowKit Go.ChangeShapes Go.WideShapes Go.ChangeAt

/-- A row as a value. -/
abbrev ov (nm : ByteArray) (f p q lo la lb : Int) : Value := .agg #[.string nm, .int .i64 f, .int .i64 p, .int .i64 q, .int .i64 lo, .int .i64 la, .int .i64 lb]
def ocells (r : Orow) : List Value := [.string r.nm, .int .i64 r.f, .int .i64 r.p, .int .i64 r.q, .int .i64 r.lo, .int .i64 r.la, .int .i64 r.lb]
def olits (r : Orow) : List Lit := [.string r.nm.data.toList, .int .i64 r.f, .int .i64 r.p, .int .i64 r.q, .int .i64 r.lo, .int .i64 r.la, .int .i64 r.lb]
def opArr : Array Value := (opTab.map ocells).flatten.toArray
/-- The table is laid. -/
def Otab (W : World) : Prop := ∃ ty, Held W 2 ty opArr
theorem Otab.below {w w' : World} (h : Otab w) (hb : Below w.heap.size w w') : Otab w' := h.imp fun _ h => h.below hb
theorem Otab.lt {w : World} (h : Otab w) : 2 < w.heap.size := by obtain ⟨_, h⟩ := h; exact h.lt

theorem ocells_len : ∀ r ∈ opTab.map ocells, r.length = 7 := by
  intro r hr
  obtain ⟨x, _, rfl⟩ := List.mem_map.1 hr
  rfl
theorem opArr_get (k j : Nat) (hk : k < 17) (hj : j < 7) : opArr[k * 7 + j]? = (ocells (orow k))[j]? := by
  unfold opArr
  rw [List.getElem?_toArray, flat_get 7 _ ocells_len k j hj, List.getElem?_map, opTab_get hk]
  rfl
theorem Otab.cell {W : World} (h : Otab W) (k j : Nat) (hk : k < 17) (hj : j < 7) : W.cell? ⟨2, k * 7 + j, none⟩ = (ocells (orow k))[j]? := by
  obtain ⟨_, h⟩ := h
  rw [h.cell, opArr_get k j hk hj]

theorem otab_global : Tryd.prog.globalNamed "transhumance/op.operations" = some 2 := by kernel_rfl
theorem otab_type : (Tryd.prog.globals[2]?).map (·.type) = some 154 := by kernel_rfl
theorem otab_cells : Tryd.prog.cellsOf 148 = 7 := by kernel_rfl
theorem otab_cellsA : Tryd.prog.cellsOf 154 = 17 * 7 := by kernel_rfl
theorem otab_is : Rows.laid_transhumance_op_operations (H := Unit) = .agg ((opTab.map olits).map fun ls => .agg (ls.map .lit)) := by kernel_rfl
theorem olits_value : (opTab.map olits).map (·.map Lit.value) = opTab.map ocells := by
  rw [List.map_map]
  refine List.map_congr_left fun r _ => ?_
  simp [olits, ocells, Lit.value]

theorem otab_of_laid {W : World} {rest : List (String × DataW Unit)} (h : laidMet Tryd.prog (("transhumance/op.operations", Rows.laid_transhumance_op_operations) :: rest) W) : Otab W := by
  rw [otab_is] at h
  obtain ⟨ty, h2⟩ := held_of_laid otab_global otab_type Tryd.underlying154 Tryd.underlying148 otab_cells otab_cellsA rfl (by decide) (by kernel_rfl) (by
    intro r hr
    obtain ⟨x, _, rfl⟩ := List.mem_map.1 hr
    rfl) (by decide) h
  refine ⟨ty, ?_⟩
  unfold Held opArr
  rw [← olits_value]
  exact h2
end Go.Proofs.YtjibkgildfjjoaaDoor

/- Layer 4's code: remainders, parts, and values as complex numbers, at every input. -/
namespace Go.Proofs.YtjibkgildfjjoaaDoor
set_option linter.unusedVariables false
set_option linter.unusedSimpArgs false
open Go.RowKit Go.ChangeShapes Go.WideShapes Go.ChangeAt Gm Fl

end Go.Proofs.YtjibkgildfjjoaaDoor

/- Layer 4's code: sums, differences and products of values, and conjugates, at every input. -/
namespace Go.Proofs.YtjibkgildfjjoaaDoor
set_option linter.unusedVariables false
set_option linter.unusedSimpArgs false
open Go.RowKit Go.ChangeShapes Go.WideShapes Go.ChangeAt Gm Fl

end Go.Proofs.YtjibkgildfjjoaaDoor

/- Layer 4's code: conjugates, whether a value may be, quotients, powers, at every input. -/
namespace Go.Proofs.YtjibkgildfjjoaaDoor
set_option linter.unusedVariables false
set_option linter.unusedSimpArgs false
open Go.RowKit Go.ChangeShapes Go.WideShapes Go.ChangeAt Gm Fl

set_option maxHeartbeats 1000000 in
theorem maypart_any (n : Int) (w : World) : Calls Tryd.prog 74 #[.int .i64 n] w fun e w' => e = .returned (.bool (decide (0 ≤ n) && decide (n < 251))) ∧ w = w' := by
  by_cases h : 0 ≤ n
  · by_cases h' : n < 251
    all_goals
      go_enter Tryd.func74, Tryd.ntmps74
      go_wp2_with fail
      go_ret
      simp [h, h']
  · go_enter Tryd.func74, Tryd.ntmps74
    go_wp2_with fail
    go_ret
    exact ⟨by rw [decide_eq_false (by omega : ¬ 0 ≤ n)]; rfl, rfl⟩

set_option maxHeartbeats 1000000 in
theorem may_any (a b : Int) (w : World) : Calls Tryd.prog 53 #[.agg #[.int .i64 a, .int .i64 b]] w fun e w' => e = .returned (.bool (mayB a b)) ∧ Below w.heap.size w w' := by
  have C := fun n W => Lib.hid (maypart_any n W)
  go_enter Tryd.func53, Tryd.ntmps53
  go_wp2_with (go_at_call 74; refine (C _ _).out.mono ?_; rintro e v ⟨rfl, rfl⟩)
  · go_ret
    have hh : 0 ≤ a ∧ a < 251 := by assumption
    refine ⟨?_, (Below.refl _ _).alloc (Nat.le_refl _) _⟩
    rw [mayB, decide_eq_true hh.1, decide_eq_true hh.2]; simp
  · go_ret
    have hh : ¬(0 ≤ a ∧ a < 251) := by assumption
    refine ⟨?_, (Below.refl _ _).alloc (Nat.le_refl _) _⟩
    have : (decide (0 ≤ a) && decide (a < 251)) = false := by simpa using hh
    rw [mayB, this]; simp

end Go.Proofs.YtjibkgildfjjoaaDoor

/- Layer 4's code: powers, quotients, at every input. -/
namespace Go.Proofs.YtjibkgildfjjoaaDoor
set_option linter.unusedVariables false
set_option linter.unusedSimpArgs false
open Go.RowKit Go.ChangeShapes Go.WideShapes Go.ChangeAt Gm Fl

end Go.Proofs.YtjibkgildfjjoaaDoor

/- Layer 6's code: operations, at every input, where the table is laid. -/
namespace Go.Proofs.YtjibkgildfjjoaaDoor
set_option linter.unusedVariables false
set_option linter.unusedSimpArgs false
open Go.RowKit Go.ChangeShapes Go.WideShapes Go.ChangeAt Go.Sort

set_option maxHeartbeats 1000000 in
theorem within_any (n a b : Int) (w : World) : Calls Tryd.prog 90 #[.int .i64 n, .int .i64 a, .int .i64 b] w fun e w' => e = .returned (.bool (decide (a ≤ n) && decide (n ≤ b))) ∧ w = w' := by
  go_enter Tryd.func90, Tryd.ntmps90
  go_wp2_with fail
  all_goals
    go_ret
    refine ⟨ret_bool ?_, rfl⟩
    rw [Bool.eq_iff_iff]
    simp
    omega
theorem cs_within {n a b : Int} {x : Bool} (h : (decide (a ≤ n) && decide (n ≤ b)) = x) : Cs Tryd.prog 90 #[.int .i64 n, .int .i64 a, .int .i64 b] (.bool x) := fun W => by have := within_any n a b W; rwa [h] at this

theorem seven {W : World} (h : Otab W) {k : Nat} (hk : k < 17) :
    W.cell? ⟨2, k * 7, none⟩ = some (.string (orow k).nm) ∧ W.cell? ⟨2, k * 7 + 1, none⟩ = some (.int .i64 (orow k).f) ∧
    W.cell? ⟨2, k * 7 + 2, none⟩ = some (.int .i64 (orow k).p) ∧ W.cell? ⟨2, k * 7 + 3, none⟩ = some (.int .i64 (orow k).q) ∧
    W.cell? ⟨2, k * 7 + 4, none⟩ = some (.int .i64 (orow k).lo) ∧ W.cell? ⟨2, k * 7 + 5, none⟩ = some (.int .i64 (orow k).la) ∧
    W.cell? ⟨2, k * 7 + 6, none⟩ = some (.int .i64 (orow k).lb) :=
  ⟨h.cell k 0 hk (by decide), h.cell k 1 hk (by decide), h.cell k 2 hk (by decide), h.cell k 3 hk (by decide), h.cell k 4 hk (by decide), h.cell k 5 hk (by decide), h.cell k 6 hk (by decide)⟩

set_option maxHeartbeats 1000000 in
set_option maxRecDepth 100000 in
theorem numbered_in (k : Nat) (hk : k < 17) (nm : ByteArray) (f p q lo la lb : Int) (hr : orow k = ⟨nm, f, p, q, lo, la, lb⟩) (w : World) (hT : Otab w) :
    Calls Tryd.prog 89 #[.int .i64 k] w fun e w' => e = .returned (.tuple #[ov nm f p q lo la lb, .bool true]) ∧ Below w.heap.size w w' := by
  have C := cs_within (n := k) (a := 0) (b := 16) (x := true) (by simp; omega)
  obtain ⟨c0, c1, c2, c3, c4, c5, c6⟩ := seven hT hk
  rw [hr] at c0 c1 c2 c3 c4 c5 c6
  have hlt := hT.lt
  clear hr
  go_enter Tryd.func89, Tryd.ntmps89
  go_wp2_with (go_at_call 90; (with_reducible refine (C.go _).mono ?_); rintro e v ⟨rfl, rfl⟩)
  go_returns
  exact ⟨rfl, by go_grown⟩

set_option maxHeartbeats 1000000 in
set_option maxRecDepth 100000 in
theorem numbered_out (n : Int) (hn : okO n = false) (w : World) :
    Calls Tryd.prog 89 #[.int .i64 n] w fun e w' => e = .returned (.tuple #[ov ⟨#[]⟩ 0 0 0 0 0 0, .bool false]) ∧ Below w.heap.size w w' := by
  have C := cs_within (n := n) (a := 0) (b := 16) (x := false) hn
  go_enter Tryd.func89, Tryd.ntmps89
  go_wp2_with (go_at_call 90; (with_reducible refine (C.go _).mono ?_); rintro e v ⟨rfl, rfl⟩)
  go_returns
  exact ⟨rfl, by go_grown⟩

/-- What there is of the operation n. -/
theorem numbered_any (n : Int) (nm : ByteArray) (f p q lo la lb : Int) (hr : rz n = ⟨nm, f, p, q, lo, la, lb⟩) (w : World) (hT : Otab w) :
    Calls Tryd.prog 89 #[.int .i64 n] w fun e w' => e = .returned (.tuple #[ov nm f p q lo la lb, .bool (okO n)]) ∧ Below w.heap.size w w' := by
  rcases okZ_cases n with ⟨k, hk, rfl⟩ | hn
  · rw [rz_in hk] at hr
    rw [show okO (k : Int) = true by simp [okO]; omega]
    exact numbered_in k hk nm f p q lo la lb hr w hT
  · rw [rz_out hn] at hr
    cases hr
    rw [hn]
    exact numbered_out n hn w

end Go.Proofs.YtjibkgildfjjoaaDoor

/- Layer 6's code: op.Stack. -/
namespace Go.Proofs.YtjibkgildfjjoaaDoor
set_option linter.unusedVariables false
set_option linter.unusedSimpArgs false
open Go.RowKit Go.ChangeShapes Go.WideShapes Go.ChangeAt Go.Sort

set_option maxHeartbeats 1000000 in
set_option maxRecDepth 100000 in
theorem stack_any (n : Int) (w : World) (hT : Otab w) : Calls Tryd.prog 93 #[.int .i64 n] w fun e w' => e = .returned (.tuple #[.int .i64 (rz n).p, .int .i64 (rz n).q]) ∧ Below w.heap.size w w' := by
  have hr : rz n = ⟨(rz n).nm, (rz n).f, (rz n).p, (rz n).q, (rz n).lo, (rz n).la, (rz n).lb⟩ := rfl
  have C := fun W h => Lib.hid (numbered_any n _ _ _ _ _ _ _ hr W h)
  clear hr
  generalize (rz n).nm = nm at *
  generalize (rz n).f = f at *
  generalize (rz n).p = p at *
  generalize (rz n).q = q at *
  generalize (rz n).lo = lo at *
  generalize (rz n).la = la at *
  generalize (rz n).lb = lb at *
  go_enter Tryd.func93, Tryd.ntmps93
  go_wp2_with (go_at_call 89; (with_reducible refine (C _ hT).out.mono ?_); rintro e v ⟨rfl, hb⟩; have hsz := hb.size)
  go_region
  all_goals (try go_wp2)
  all_goals go_ret2
  all_goals exact ⟨rfl, by go_grown⟩
end Go.Proofs.YtjibkgildfjjoaaDoor

/- Layer 6's code: whether an instruction may be, at every input. -/
namespace Go.Proofs.YtjibkgildfjjoaaDoor
set_option linter.unusedVariables false
set_option linter.unusedSimpArgs false
open Go.RowKit Go.ChangeShapes Go.WideShapes Go.ChangeAt Go.Sort

set_option maxHeartbeats 1000000 in
set_option maxRecDepth 100000 in
theorem opmay_any (o a b : Int) (w : World) (hT : Otab w) : Calls Tryd.prog 84 #[iv o a b] w fun e w' => e = .returned (.bool (mayZ o a b)) ∧ Below w.heap.size w w' := by
  have hr : rz o = ⟨(rz o).nm, (rz o).f, (rz o).p, (rz o).q, (rz o).lo, (rz o).la, (rz o).lb⟩ := rfl
  have C := fun W h => Lib.hid (numbered_any o _ _ _ _ _ _ _ hr W h)
  have hm : mayZ o a b = (okO o && (decide ((rz o).lo ≤ a) && decide (a ≤ (rz o).la)) && (decide (0 ≤ b) && decide (b ≤ (rz o).lb))) := rfl
  generalize mayZ o a b = m at *
  clear hr
  generalize (rz o).nm = nm at *
  generalize (rz o).f = f at *
  generalize (rz o).p = p at *
  generalize (rz o).q = q at *
  generalize (rz o).lo = lo at *
  generalize (rz o).la = la at *
  generalize (rz o).lb = lb at *
  generalize okO o = k at *
  have C1 := cs_within (n := a) (a := lo) (b := la) rfl
  have C2 := cs_within (n := b) (a := 0) (b := lb) rfl
  generalize (decide (lo ≤ a) && decide (a ≤ la)) = x at *
  generalize (decide (0 ≤ b) && decide (b ≤ lb)) = y at *
  subst hm
  have hT2 := fun o => Lib.hid (hT.below ((Below.refl _ w).alloc (Nat.le_refl _) o))
  clear hT
  cases k <;> cases x <;> cases y
  all_goals
    go_enter Tryd.func84, Tryd.ntmps84
    go_wp2_with (first
      | (go_at_call 89; (with_reducible refine (C _ (hT2 _).out).out.mono ?_); rintro e v ⟨rfl, hb⟩; have hx := (Held.new w 116 #[.int .i64 o, .int .i64 a, .int .i64 b]).below hb; have c0 := hx.cell 0; have c1 := hx.cell 1; have c2 := hx.cell 2; simp at c0 c1 c2; have hlt := hx.lt; replace hb := below_laid hb; have hsz := hb.size)
      | (go_at_call 90; (with_reducible refine (C1.go _).mono ?_); rintro e v ⟨rfl, rfl⟩)
      | (go_at_call 90; (with_reducible refine (C2.go _).mono ?_); rintro e v ⟨rfl, rfl⟩))
    go_ret
    exact ⟨rfl, by go_grown⟩
end Go.Proofs.YtjibkgildfjjoaaDoor

/- Layer 4: the document's remainders and parts, and whether a value may be. -/
namespace Go.Proofs.YtjibkgildfjjoaaDoor
set_option linter.unusedVariables false
set_option linter.unusedSimpArgs false
open Go.RowKit Go.ChangeShapes Go.WideShapes Go.ChangeAt Gm Go.Sort

end Go.Proofs.YtjibkgildfjjoaaDoor

/- Layer 5: the document's own answers: seeds, at every input. -/
namespace Go.Proofs.YtjibkgildfjjoaaDoor
set_option linter.unusedVariables false
set_option linter.unusedSimpArgs false
open Go.RowKit Go.ChangeShapes Go.WideShapes Go.ChangeAt Gm Sdm

end Go.Proofs.YtjibkgildfjjoaaDoor

/- Layer 4: the document's own answers: remainders, parts, sums, differences, conjugates. -/
namespace Go.Proofs.YtjibkgildfjjoaaDoor
set_option linter.unusedVariables false
set_option linter.unusedSimpArgs false
open Go.RowKit Go.ChangeShapes Go.WideShapes Go.ChangeAt Gm Fl Go.Sort

end Go.Proofs.YtjibkgildfjjoaaDoor

/- Layer 4: the document's own answers: products. -/
namespace Go.Proofs.YtjibkgildfjjoaaDoor
set_option linter.unusedVariables false
set_option linter.unusedSimpArgs false
open Go.RowKit Go.ChangeShapes Go.WideShapes Go.ChangeAt Gm Fl Go.Sort

theorem Held.drew {W : World} {g : Nat} {t : TypeId} {cs : Array Value} (h : Held W g t cs) : Held W.drew g t cs := h
end Go.Proofs.YtjibkgildfjjoaaDoor

/- Layer 4: the document's own answers: inverses. -/
namespace Go.Proofs.YtjibkgildfjjoaaDoor
set_option linter.unusedVariables false
set_option linter.unusedSimpArgs false
open Go.RowKit Go.ChangeShapes Go.WideShapes Go.ChangeAt Gm Fl Go.Sort

end Go.Proofs.YtjibkgildfjjoaaDoor

/- Layer 4: the document's own answers: quotients. -/
namespace Go.Proofs.YtjibkgildfjjoaaDoor
set_option linter.unusedVariables false
set_option linter.unusedSimpArgs false
open Go.RowKit Go.ChangeShapes Go.WideShapes Go.ChangeAt Gm Fl Go.Sort

end Go.Proofs.YtjibkgildfjjoaaDoor

/- Layer 6: the document's Off and On. -/
namespace Go.Proofs.YtjibkgildfjjoaaDoor
set_option linter.unusedVariables false
set_option linter.unusedSimpArgs false
open Go.RowKit Go.ChangeShapes Go.WideShapes Go.ChangeAt Go.Sort

end Go.Proofs.YtjibkgildfjjoaaDoor

/- Layer 6: the document's names, and what it finds by them. -/
namespace Go.Proofs.YtjibkgildfjjoaaDoor
set_option linter.unusedVariables false
set_option linter.unusedSimpArgs false
open Go.RowKit Go.ChangeShapes Go.WideShapes Go.ChangeAt Go.Sort

set_option maxHeartbeats 1000000 in
set_option maxRecDepth 100000 in
theorem rfind_any (s : ByteArray) : Ct Tryd.prog 65 #[.string s] (.int .i64 (rfnd s)) := fun w => by
  go_enter Tryd.func65, Tryd.ntmps65
  go_wp2_with (go_at_call 80; (with_reducible refine (names_any _).mono ?_); rintro e v ⟨rfl, hx, hb⟩)
  go_loop [4] (fun i => ∃ k : Nat, k ≤ 17 ∧ i = .int .i64 k ∧ (∀ j, j < k → eqS (orow j).nm s = false)) (fun i => 17 - (intOf i).toNat)
  case atStart => exact ⟨0, by omega, rfl, fun j hj => absurd hj (by omega)⟩
  case round =>
    obtain ⟨k, hk, rfl, hn⟩ := hrel
    have HN := Lib.hid hn
    clear hn
    by_cases hlt2 : k < 17
    · have c0 := (hx.cell k).trans (nameArr_get hlt2)
      obtain ⟨nm, hr⟩ : ∃ nm, (orow k).nm = nm := ⟨_, rfl⟩
      rw [hr] at c0
      have HR := Lib.hid hr
      clear hr
      have hq := eqS_toList nm s
      by_cases he : eqS nm s = true
      · have hit := rfnd_hit (idx_hit hlt2 (by rw [HR.out]; exact he) HN.out) hlt2
        have HIT := Lib.hid hit
        clear hit
        rw [he] at hq
        go_wp2_with fail
        go_ret
        exact ⟨ret_int HIT.out.symm, hb⟩
      · rw [Bool.not_eq_true] at he
        rw [he] at hq
        have hn2 : ∀ j, j < k + 1 → eqS (orow j).nm s = false := fun j hj => by
          rcases Nat.lt_succ_iff_lt_or_eq.1 hj with h | rfl
          · exact HN.out j h
          · rw [HR.out]; exact he
        have HN2 := Lib.hid hn2
        clear hn2
        go_wp2_with fail
        go_round
        case rel => exact ⟨k + 1, by omega, by go_num, HN2.out⟩
        case measure => simp [intOf]; omega
    · obtain rfl : k = 17 := by omega
      have hm := rfnd_miss (idx_miss HN.out)
      have HM := Lib.hid hm
      clear hm
      go_wp2
      go_ret
      exact ⟨ret_int HM.out.symm, hb⟩
end Go.Proofs.YtjibkgildfjjoaaDoor

