/- What a law's row asks, where the call has made memory of its own, and old memory is as it was. -/
import Derived.WalkKit
import Derived.ProofKit
import Derived.ChangeSame
import Derived.Below
import Derived.Lib.QuietBelow
import Derived.OpenShut
import Derived.Carry
import Derived.Deep.OwnRows
import Derived.Deep.WholeRow
import Derived.WalkLawsBesides
import Derived.Lib.Hide
import Derived.Handy
import Derived.IntWalk
import Derived.Lib.LaidTab
import Derived.Laws.Rows
import Derived.Deep.Quiet
import Derived.StillTail
import Derived.OwnWalk
import Derived.Laws.IdiomStrings
namespace Go.Proofs.YtoeinpiekfmbgaaGreatDoor
set_option linter.unusedVariables false
set_option linter.unusedSimpArgs false
open Go Go.RowKit Go.WideShapes Go.ChangeShapes

/-- A call that gives v, and makes at most memory of its own. -/
def Ct (P : Program) (f : Nat) (args : Array Value) (v : Value) : Prop := ∀ W, Calls P f args W fun e w' => e = .returned v ∧ Below W.heap.size W w'
theorem Ct.go {P : Program} {f : Nat} {args : Array Value} {v : Value} (h : Ct P f args v) (W : World) : Calls P f args W fun e w' => e = .returned v ∧ Below W.heap.size W w' := h W
/-- A call that gives v, and turns nothing. -/
def Cs (P : Program) (f : Nat) (args : Array Value) (v : Value) : Prop := ∀ W, Calls P f args W fun e w' => e = .returned v ∧ W = w'
theorem Cs.go {P : Program} {f : Nat} {args : Array Value} {v : Value} (h : Cs P f args v) (W : World) : Calls P f args W fun e w' => e = .returned v ∧ W = w' := h W
theorem Below.step {w w1 w2 : World} (hb : Below w.heap.size w w1) (hb1 : Below w1.heap.size w1 w2) : Below w.heap.size w w2 := hb.trans (hb1.mono hb.size)

theorem below_drewN {B : Nat} {a w : World} (h : Below B a w) (n : Nat) : Below B a (w.drewN n) := ⟨h.os, h.tape, h.output, h.size, h.block⟩
theorem cell_at {w : World} {g : Nat} {cs : Array Value} {t : TypeId} (h : w.heap[g]? = some (.cells cs t (0, 0))) (i : Nat) : w.cell? ⟨g, i, none⟩ = cs[i]? := by simp [World.cell?, h]

theorem one_laid {w w1 : World} {c1 : Array Value} {t1 : TypeId} {B : Nat} (hB : w.heap.size + 1 ≤ B) (hb : Below B (w.alloc (.cells c1 t1)) w1) :
    w1.heap[w.heap.size]? = some (.cells c1 t1 (0, 0)) ∧ Below w.heap.size w w1 :=
  ⟨(hb.block _ (by omega)).trans (heap_alloc_last w _), ((Below.refl w.heap.size w).alloc (Nat.le_refl _) _).trans (hb.mono (by omega))⟩
theorem below_laid {w w1 : World} {o : Obj} (hb : Below (w.alloc o).heap.size (w.alloc o) w1) : Below w.heap.size w w1 := ((Below.refl w.heap.size w).alloc (Nat.le_refl _) o).trans (hb.mono (by simp))
theorem fz_at {w : World} {g : Nat} {cs : Array Value} {t : TypeId} (h : w.heap[g]? = some (.cells cs t (0, 0))) (i : Nat) : w.frozen? ⟨g, i, none⟩ = false := by simp [World.frozen?, h]

theorem below_of_regrown {w w' : World} (h : ∃ p : Regrown, w' = Sort.grow (redrawn w p.d) p.os) : Below w.heap.size w w' := by
  obtain ⟨p, rfl⟩ := h
  exact below_regrown _ _ _

theorem post_kept {H : Type} {enc : TypeId × Value → H} {P : Program} {f : Func} {s : ChangeSpec} {apart fresh handsOn again : Bool} {W W' : World} {args : Array Value} {v : Value} {ds gs : List (DataW H)} {before pa pv : List MemPlace}
    (hW : DataW.Whole enc P f.params.toList s.vars apart W args.toList ds gs before) (hb : Below W.heap.size W W')
    (hres : ∀ (b : Nat) (sp : Nat → Bool) (hd : Bool), DataW.TrodAll enc P W' b sp hd f.resultTypes.toList (v.resultList f.resultTypes.size) (s.fn H (ds ++ gs)).results [])
    (hargs : ∀ sp : Nat → Bool, (∀ p ∈ before, sp p.block = true) → DataW.TrodAll enc P W' 0 sp true f.params.toList args.toList (s.fn H (ds ++ gs)).args pa)
    (hvars : ∀ sp : Nat → Bool, (∀ p ∈ before, sp p.block = true) → DataW.TrodVars enc P W' sp s.vars (s.fn H (ds ++ gs)).vars pv)
    (hps : before = pa ++ pv)
    (hok : ∀ (j : Nat) (t : TypeId) (r : Value), f.resultTypes[j]? = some t → (v.resultList f.resultTypes.size)[j]? = some r → Value.okWide P W' .any 0 t r) :
    s.post enc P f apart fresh handsOn again W args v W' := by
  have hlt : ∀ p ∈ before, p.block < W.heap.size := fun p hp => hW.lt p hp
  have hold : ∀ p ∈ before, decide (p.block < W.heap.size) = true := fun p hp => decide_eq_true (hlt p hp)
  have hframe : W.keptBut W' (fun p => p ∈ before ∧ p ∈ [] ++ (pa ++ pv)) := World.keptBut_mono (fun p hp => ⟨hp, by rw [hps] at hp; simpa using hp⟩) (hb.frame (· ∈ before))
  refine ⟨ds, gs, before, [], pa, pv, hW, hres _ _ _, hargs _ hold, hvars _ hold, by simpa using hframe, fun _ => ?_⟩
  obtain ⟨_, _, _, _, _, hz, hn⟩ := hW
  refine ⟨hok, _, _, ([] ++ pa) ++ pv, ⟨[] ++ pa, pv, trodAll_append (hargs _ fun _ _ => rfl) (hres _ _ _), hvars _ fun _ _ => rfl, rfl, fun b off hp => ?_, fun ha => ?_⟩, fun p hp _ => ?_⟩
  · have hin : MemPlace.cell b off ∈ before := by rw [hps]; simpa using hp
    rw [hb.frozen (hlt _ hin)]
    exact hz b off hin
  · have h := hn ha
    rw [hps] at h
    simpa using h
  · rw [hps]
    simpa using hp

/-- The arguments read as they did, whatever their types, where old memory is as it was. -/
theorem trodAll_kept {H : Type} {enc : TypeId × Value → H} {P : Program} (hl : laidOutB P = true) {W W' : World} (hb : Below W.heap.size W W') : ∀ {ts : List TypeId}, (∀ t ∈ ts, P.readableRec t = true ∧ t < P.types.size) → ∀ {vs : List Value} {ds : List (DataW H)} {ps : List MemPlace},
    DataW.TrodAll enc P W 0 (fun _ => true) true ts vs ds ps → (∀ x ∈ ps, x.block < W.heap.size) → ∀ sp : Nat → Bool, (∀ x ∈ ps, sp x.block = true) → DataW.TrodAll enc P W' 0 sp true ts vs ds ps
  | [], _, vs, ds, ps, h, _, sp, _ => by
    obtain ⟨rfl, rfl, rfl⟩ := trodAll_nil h
    exact trodAll_mk0
  | t :: ts, hr, vs, ds, ps, h, hlt, sp, hsp => by
    obtain ⟨v, vs', d, ds', p, q, rfl, rfl, rfl, h0, h1⟩ := trodAll_cons h
    refine trodAll_cons_mk ?_ (trodAll_kept hl hb (fun u hu => hr u (by simp [hu])) h1 (fun x hx => hlt x (by simp [hx])) sp (fun x hx => hsp x (by simp [hx])))
    have hh := hr t (by simp)
    exact WideElems.Trod_stays hl hh.1 hh.2 h0 (fun x hx => hb.same (hlt x (by simp [hx]))) (fun x hx => hsp x (by simp [hx]))
theorem ret_int {k : IntKind} {a b : Int} (h : a = b) : Ending.returned (.int k a) = .returned (.int k b) := by rw [h]
theorem ret_str {a b : ByteArray} (h : a = b) : Ending.returned (.string a) = .returned (.string b) := by rw [h]
theorem ret_bool {a b : Bool} (h : a = b) : Ending.returned (.bool a) = .returned (.bool b) := by rw [h]
end Go.Proofs.YtoeinpiekfmbgaaGreatDoor

/- A block of one's own, known whole. -/
namespace Go.Proofs.YtoeinpiekfmbgaaGreatDoor
set_option linter.unusedVariables false
set_option linter.unusedSimpArgs false
open Go.RowKit Go.ChangeShapes Go.WideShapes Go.ChangeAt Go.Sort

/-- A value laid over another one, in a block of its own. -/
theorem set2 {v : World} {g : Nat} {a b x y : Value} {t : TypeId} (hx : v.heap[g]? = some (.cells #[a, b] t (0, 0))) : ((v.setCell ⟨g, 0, none⟩ x).setCell ⟨g, 1, none⟩ y).heap[g]? = some (.cells #[x, y] t (0, 0)) := by
  simp [World.setCell, Array.getElem?_modify, hx]

/-- Block g holds just these cells. -/
def Held (W : World) (g : Nat) (t : TypeId) (cs : Array Value) : Prop := W.heap[g]? = some (.cells cs t (0, 0))
theorem Held.lt {W : World} {g : Nat} {t : TypeId} {cs : Array Value} (h : Held W g t cs) : g < W.heap.size := by
  rcases Nat.lt_or_ge g W.heap.size with hlt | hge
  · exact hlt
  · unfold Held at h; rw [Array.getElem?_eq_none hge] at h; cases h
theorem Held.cell {W : World} {g : Nat} {t : TypeId} {cs : Array Value} (h : Held W g t cs) (i : Nat) : W.cell? ⟨g, i, none⟩ = cs[i]? := cell_at h i
theorem Held.fz {W : World} {g : Nat} {t : TypeId} {cs : Array Value} (h : Held W g t cs) (i : Nat) : W.frozen? ⟨g, i, none⟩ = false := fz_at h i
theorem Held.new (W : World) (t : TypeId) (cs : Array Value) : Held (W.alloc (.cells cs t)) W.heap.size t cs := heap_alloc_last W _
theorem Held.new1 (W : World) (o : Obj) (t : TypeId) (cs : Array Value) : Held ((W.alloc o).alloc (.cells cs t)) (W.heap.size + 1) t cs := by
  have := heap_alloc_last (W.alloc o) (.cells cs t)
  unfold Held
  simpa using this
theorem Held.new2 (W : World) (o p : Obj) (t : TypeId) (cs : Array Value) : Held (((W.alloc o).alloc p).alloc (.cells cs t)) (W.heap.size + 1 + 1) t cs := by
  have := heap_alloc_last ((W.alloc o).alloc p) (.cells cs t)
  unfold Held
  simpa using this
theorem Held.below {W W' : World} {g : Nat} {t : TypeId} {cs : Array Value} (h : Held W g t cs) (hb : Below W.heap.size W W') : Held W' g t cs := (hb.block g h.lt).trans h
theorem Held.alloc {W : World} {g : Nat} {t : TypeId} {cs : Array Value} (h : Held W g t cs) (o : Obj) : Held (W.alloc o) g t cs := (Below.heap_alloc W o g h.lt).trans h
theorem Held.set {W : World} {g : Nat} {t : TypeId} {a b : Value} (h : Held W g t #[a, b]) (x y : Value) : Held ((W.setCell ⟨g, 0, none⟩ x).setCell ⟨g, 1, none⟩ y) g t #[x, y] := set2 h
theorem Held.far {W : World} {g k : Nat} {t : TypeId} {cs : Array Value} (h : Held W g t cs) (hk : g ≠ k) (i : Nat) (x : Value) : Held (W.setCell ⟨k, i, none⟩ x) g t cs := (Below.heap_setCell W ⟨k, i, none⟩ x g hk).trans h
theorem Held.two {W : World} {g : Nat} {t : TypeId} {a b : Value} (h : Held W g t #[a, b]) : W.cell? ⟨g, 0, none⟩ = some a ∧ W.cell? ⟨g, 1, none⟩ = some b ∧ W.frozen? ⟨g, 0, none⟩ = false ∧ W.frozen? ⟨g, 1, none⟩ = false :=
  ⟨h.cell 0, h.cell 1, h.fz 0, h.fz 1⟩
theorem below2 (w : World) (o p : Obj) : Below w.heap.size w ((w.alloc o).alloc p) := ((Below.refl _ _).alloc (Nat.le_refl _) _).alloc (by simp) _
theorem below3 (w : World) (o p q : Obj) : Below w.heap.size w (((w.alloc o).alloc p).alloc q) := (((Below.refl _ _).alloc (Nat.le_refl _) _).alloc (by simp) _).alloc (by simp; omega) _

/-- A value. -/
abbrev gv (x y : Int) : Value := .agg #[.int .i64 x, .int .i64 y]
theorem set2c {v : World} {k : Nat} {e f x y : Value} (c4 : v.cell? ⟨k, 0, none⟩ = some e) (c5 : v.cell? ⟨k, 1, none⟩ = some f) :
    ((v.setCell ⟨k, 0, none⟩ x).setCell ⟨k, 1, none⟩ y).cell? ⟨k, 0, none⟩ = some x ∧ ((v.setCell ⟨k, 0, none⟩ x).setCell ⟨k, 1, none⟩ y).cell? ⟨k, 1, none⟩ = some y := by
  have h1 : (v.setCell ⟨k, 0, none⟩ x).cell? ⟨k, 0, none⟩ = some x := World.cell?_setCell_same _ _ _ c4
  have h2 : (v.setCell ⟨k, 0, none⟩ x).cell? ⟨k, 1, none⟩ = some f := (World.cell?_setCell_other _ _ _ _ (by simp)).trans c5
  exact ⟨(World.cell?_setCell_other _ _ _ _ (by simp)).trans h1, World.cell?_setCell_same _ _ _ h2⟩
theorem set2b {w v : World} {k : Nat} {x y : Value} (hk : w.heap.size ≤ k) (hw : Below w.heap.size w v) : Below w.heap.size w ((v.setCell ⟨k, 0, none⟩ x).setCell ⟨k, 1, none⟩ y) :=
  (hw.setCell hk _).setCell hk _
end Go.Proofs.YtoeinpiekfmbgaaGreatDoor

/- A package-level table of rows of one-cell fields: its cells, out of what it reads as. -/
namespace Go.Proofs.YtoeinpiekfmbgaaGreatDoor
set_option linter.unusedVariables false
set_option linter.unusedSimpArgs false
open Go Go.Lib

theorem flat_get {α : Type} (k : Nat) : ∀ (rows : List (List α)), (∀ r ∈ rows, r.length = k) → ∀ i j, j < k → rows.flatten[i * k + j]? = (rows[i]?).bind (·[j]?)
  | [], _, i, j, _ => by simp
  | r :: rs, h, 0, j, hj => by
    have hr := h r (by simp)
    simp [List.getElem?_append_left (show j < r.length by omega)]
  | r :: rs, h, i + 1, j, hj => by
    have hr := h r (by simp)
    have := flat_get k rs (fun x hx => h x (by simp [hx])) i j hj
    rw [List.flatten_cons, List.getElem?_append_right (by rw [hr, Nat.add_mul]; omega), hr, show (i + 1) * k + j - k = i * k + j by rw [Nat.add_mul]; omega, this]
    simp
theorem flat_length {α : Type} (k : Nat) : ∀ (rows : List (List α)), (∀ r ∈ rows, r.length = k) → rows.flatten.length = rows.length * k
  | [], _ => by simp
  | r :: rs, h => by
    have hr := h r (by simp)
    have := flat_length k rs (fun x hx => h x (by simp [hx]))
    rw [List.flatten_cons, List.length_append, this, hr, List.length_cons, Nat.add_mul]
    omega

def plainB (P : Program) (t : TypeId) : Bool := match P.underlying t with | some (.int _) => true | some .string => true | _ => false

section
variable {H : Type} {enc : TypeId × Value → H} {P : Program} {w : World} {base : Nat} {sp : Nat → Bool} {held : Bool}

theorem cell_of_lit {t : TypeId} {fuel : Nat} {cs : List Value} {l : Lit} {p : List MemPlace} (ht : plainB P t = true) (h : DataW.trod enc P w base sp held fuel t cs = some (.lit l, p)) : cs = [l.value] := by
  unfold plainB at ht
  split at ht
  · rename_i hu
    obtain ⟨n, rfl, he, _⟩ := DataW.trod_int hu h
    simp only [Prod.mk.injEq, DataW.lit.injEq] at he
    rw [he.1]
    rfl
  · rename_i hu
    obtain ⟨s, rfl, he, _⟩ := DataW.trod_string hu h
    simp only [Prod.mk.injEq, DataW.lit.injEq] at he
    rw [he.1]
    simp [Lit.value]
  · cases ht

theorem chunk_of_trod {t : TypeId} {fuel k : Nat} {fs : Array Field} {cs : List Value} {ls : List Lit} {p : List MemPlace} (ht : P.underlying t = some (.struct fs)) (hct : P.cellsOf t = k) (hfl : fs.toList.length = k)
    (hf : (List.range k).all (fun j => match fs.toList[j]? with | some f => f.offset == j && P.cellsOf f.type == 1 && plainB P f.type | none => false) = true)
    (h : DataW.trod enc P w base sp held fuel t cs = some (.agg (ls.map .lit), p)) : cs = ls.map Lit.value := by
  cases fuel with
  | zero => simp [DataW.trod] at h
  | succ fuel =>
    simp only [DataW.trod, ht] at h
    split at h
    · rename_i hl
      obtain ⟨xs, hm, hx⟩ := Option.map_eq_some_iff.1 h
      have hxs : xs.map (·.1) = ls.map .lit := by
        have := congrArg Prod.fst hx
        simpa using this
      have hxl : xs.length = k := by rw [mapM_length hm]; exact hfl
      have hzl : ls.length = k := by
        have := congrArg List.length hxs
        simp at this
        omega
      apply List.ext_getElem?
      intro i
      by_cases hi : i < k
      · have hfi := (List.all_eq_true.1 hf) i (by simp [hi])
        cases hq : fs.toList[i]? with
        | none => simp [hq] at hfi
        | some f =>
          simp only [hq, Bool.and_eq_true, beq_iff_eq] at hfi
          obtain ⟨⟨ho, hc⟩, hp⟩ := hfi
          obtain ⟨b, hb, hfb⟩ := mapM_at hm i f hq
          have h2 : (xs.map (·.1))[i]? = some b.1 := by simp [hb]
          rw [hxs] at h2
          simp only [List.getElem?_map, Option.map_eq_some_iff] at h2
          obtain ⟨l, hl1, hl2⟩ := h2
          have hfb' : DataW.trod enc P w base sp held fuel f.type ((cs.drop f.offset).take (P.cellsOf f.type)) = some (.lit l, b.2) := by rw [hfb, hl2]
          have := cell_of_lit hp hfb'
          rw [ho, hc] at this
          have h1 : cs[i]? = some l.value := by
            have := congrArg (·[0]?) this
            simpa [List.getElem?_take, List.getElem?_drop] using this
          simp [h1, hl1]
      · rw [List.getElem?_eq_none (by omega), List.getElem?_eq_none (by simp; omega)]
    · cases h

theorem tab_of_trod {t e : TypeId} {fuel n k : Nat} {fs : Array Field} {cs : List Value} {rows : List (List Lit)} {p : List MemPlace} (ht : P.underlying t = some (.array n e)) (he : P.underlying e = some (.struct fs))
    (hce : P.cellsOf e = k) (hct : P.cellsOf t = n * k) (hfl : fs.toList.length = k) (hk : 0 < k)
    (hf : (List.range k).all (fun j => match fs.toList[j]? with | some f => f.offset == j && P.cellsOf f.type == 1 && plainB P f.type | none => false) = true) (hr : ∀ r ∈ rows, r.length = k)
    (h : DataW.trod enc P w base sp held fuel t cs = some (.agg (rows.map fun ls => .agg (ls.map .lit)), p)) : cs = (rows.map (·.map Lit.value)).flatten := by
  cases fuel with
  | zero => simp [DataW.trod] at h
  | succ fuel =>
    simp only [DataW.trod, ht, hce, hct] at h
    split at h
    · rename_i hl
      obtain ⟨xs, hm, hx⟩ := Option.map_eq_some_iff.1 h
      have hxs : xs.map (·.1) = rows.map fun ls => .agg (ls.map .lit) := by
        have := congrArg Prod.fst hx
        simpa using this
      have hxl : xs.length = n := by simpa using mapM_length hm
      have hzl : rows.length = n := by
        have := congrArg List.length hxs
        simp at this
        omega
      have hr' : ∀ r ∈ rows.map (·.map Lit.value), r.length = k := by
        intro r hr1
        obtain ⟨x, hx1, rfl⟩ := List.mem_map.1 hr1
        simp [hr x hx1]
      apply List.ext_getElem?
      intro m
      by_cases hi : m < n * k
      · have hin : m / k < n := (Nat.div_lt_iff_lt_mul hk).2 hi
        have hj : m % k < k := Nat.mod_lt _ hk
        have hm2 : m / k * k + m % k = m := by rw [Nat.mul_comm]; exact Nat.div_add_mod m k
        generalize hi' : m / k = i at *
        generalize hj' : m % k = j at *
        obtain ⟨b, hb, hfb⟩ := mapM_at hm i i (by simp [hin])
        have h2 : (xs.map (·.1))[i]? = some b.1 := by simp [hb]
        rw [hxs] at h2
        simp only [List.getElem?_map, Option.map_eq_some_iff] at h2
        obtain ⟨r, hr1, hr2⟩ := h2
        have hfb' : DataW.trod enc P w base sp held fuel e ((cs.drop (i * k)).take k) = some (.agg (r.map .lit), b.2) := by rw [hfb, hr2]
        have h3 := chunk_of_trod he hce hfl hf hfb'
        have h4 : cs[i * k + j]? = (r.map Lit.value)[j]? := by
          have := congrArg (·[j]?) h3
          simp only [List.getElem?_take, List.getElem?_drop, hj, if_true] at this
          exact this
        rw [← hm2, h4, flat_get k _ hr' i j hj]
        simp [hr1]
      · rw [List.getElem?_eq_none (by omega), List.getElem?_eq_none (by rw [flat_length k _ hr', List.length_map, hzl]; omega)]
    · cases h
end

/-- A listed table is the one that stands in the variable's block. -/
theorem held_of_laid {P : Program} {W : World} {name : String} {rows : List (List Lit)} {rest : List (String × DataW Unit)} {g : Nat} {t e : TypeId} {n k : Nat} {fs : Array Field}
    (hg : P.globalNamed name = some g) (hty : (P.globals[g]?).map (·.type) = some t) (ht : P.underlying t = some (.array n e)) (he : P.underlying e = some (.struct fs))
    (hce : P.cellsOf e = k) (hct : P.cellsOf t = n * k) (hfl : fs.toList.length = k) (hk : 0 < k)
    (hf : (List.range k).all (fun j => match fs.toList[j]? with | some f => f.offset == j && P.cellsOf f.type == 1 && plainB P f.type | none => false) = true) (hr : ∀ r ∈ rows, r.length = k) (hn : 0 < rows.length)
    (h : laidMet P ((name, .agg (rows.map fun ls => .agg (ls.map .lit))) :: rest) W) : ∃ ty, W.heap[g]? = some (.cells (rows.map (·.map Lit.value)).flatten.toArray ty (0, 0)) := by
  obtain ⟨ps, ⟨g', t', cs, fuel, p, q, hg', ht', hvar, hd, _, hps⟩, _, hall⟩ := h
  obtain rfl := Option.some.inj (hg.symm.trans hg')
  obtain rfl := Option.some.inj (hty.symm.trans ht')
  have hcs := tab_of_trod ht he hce hct hfl hk hf hr hd
  have hpos : 0 < cs.size := by
    have : cs.toList.length = rows.length * k := by
      rw [hcs, flat_length k]
      · simp
      · intro r hr1
        obtain ⟨x, hx1, rfl⟩ := List.mem_map.1 hr1
        simp [hr x hx1]
    have h2 : 0 < rows.length * k := Nat.mul_pos hn hk
    have h3 : cs.size = cs.toList.length := by simp
    omega
  obtain ⟨⟨c, ty, hc⟩, _⟩ := hall g 0 (by
    rw [hps]
    refine List.mem_append_left _ (List.mem_append_left _ ?_)
    exact MemPlace.mem_row.2 ⟨0, hpos, by simp⟩)
  have hv : W.var? P name = some c := by unfold World.var?; rw [hg]; simp [hc]
  obtain rfl := Option.some.inj (hv.symm.trans hvar)
  refine ⟨ty, ?_⟩
  rw [hc]
  congr 2
  exact Array.toList_inj.1 (by rw [hcs])
end Go.Proofs.YtoeinpiekfmbgaaGreatDoor

/- A region that draws its order, whose first operations are quiet in a class of worlds, and whose last ones come one behind the other: one walk serves every order. -/
namespace Go.Proofs.YtoeinpiekfmbgaaGreatDoor
set_option linter.unusedVariables false
set_option linter.unusedSimpArgs false
open Go Go.Sort Go.RowKit

section
variable {P : Program} {ops : Array Oper} {md : Region.Mode} {C : World → Prop}

/-- f operations of the head, in whatever order, all quiet; then L. -/
def headQ (P : Program) (md : Region.Mode) (ops : Array Oper) (C : World → Prop) (n : Nat) (L : Array Bool → Act → Prop) : Nat → Array Bool → Act → Prop
  | 0, ls, a => L ls a
  | f + 1, ls, a => Region.ready md ops ls ≠ [] ∧ ∀ i ∈ Region.ready md ops ls, i < n ∧ qOp P ops C i (headQ P md ops C n L f (ls.setIfInBounds i true)) a

theorem any_of_headQ {n g : Nat} {L : Array Bool → Act → Prop} {Q' : Exit → Act → World → Prop} (hL : ∀ ls a w, C w → L ls a → wpAny P md ops Q' g ls a w) (f : Nat) :
    ∀ (ls : Array Bool) (a : Act) (w : World), C w → headQ P md ops C n L f ls a → wpAny P md ops Q' (f + g) ls a w := by
  induction f with
  | zero => intro ls a w hw h; simpa using hL ls a w hw h
  | succ f ih =>
    intro ls a w hw h
    have e : f + 1 + g = f + g + 1 := by omega
    rw [e]
    exact ⟨fun h0 => (h.1 h0).elim, fun i hi => wpOp_of_qOp hw (fun a' w' hw' hh => ih _ a' w' hw' hh) (h.2 i hi).2⟩

/-- What may come up, and is quiet and apart from all that doesn't wait for it, may be taken first. -/
theorem headQ_take {n i : Nat} {o : Oper} {v : Value} {L : Array Bool → Act → Prop} (hi : ops[i]? = some o) (hno : Region.noSelect ops = true)
    (hs : Region.sinkB md ops n = true) (hc : Region.chainB md ops n = true) (hn : n < ops.size) (hin : i < n)
    (hL : ∀ ls a, L ls a → ∀ j ∈ Region.ready md ops ls, n ≤ j) (f : Nat) :
    ∀ (ls : Array Bool) (a : Act), HeadInv md ops n ls →
      (∀ j oj, ops[j]? = some oj → j ≠ i → ls.getD j true = false → (∀ e ∈ oj.after, Region.binds md e = true → e.on ≠ i) → o.apart ops oj = true) →
      i ∈ Region.ready md ops ls → YieldsIn P ops C o v a → headQ P md ops C n L f (ls.setIfInBounds i true) (a.put o.dst v) → headQ P md ops C n L (f + 1) ls a := by
  have hsel := Region.noSelect_spec hno
  induction f with
  | zero =>
    intro ls a inv _ hr hy h
    have hun := (mem_ready.1 hr).1
    refine ⟨List.ne_nil_of_mem hr, fun j hj => ?_⟩
    have hjn : j < n := Nat.lt_of_not_le fun hle => tail_waits hs hc hn inv _ i rfl hin hun j hle hj
    by_cases hji : j = i
    · exact ⟨hjn, by rw [hji]; exact hy.qOp hi h⟩
    · have := hL _ _ h j (ready_mono hj hji)
      omega
  | succ f ih =>
    intro ls a inv hfree hr hy h
    have hun := (mem_ready.1 hr).1
    refine ⟨List.ne_nil_of_mem hr, fun j hj => ?_⟩
    have hjn : j < n := Nat.lt_of_not_le fun hle => tail_waits hs hc hn inv _ i rfl hin hun j hle hj
    refine ⟨hjn, ?_⟩
    by_cases hji : j = i
    · rw [hji]; exact hy.qOp hi h
    · obtain ⟨hju, oj, hoj, hall⟩ := mem_ready.1 hj
      have hap : o.apart ops oj = true := hfree j oj hoj hji hju fun e he hb heq => by
        have := hall e he hb
        rw [heq, getD_both hun] at this
        cases this
      have step := qOp_put hoj hap (fun cs b => hsel i o cs b hi) (fun cs b => hsel j oj cs b hoj) hy (h.2 j (ready_mono hj hji)).2
      refine qOp_mono (fun a' ⟨hy', hK⟩ => ih _ a' (inv.set hj hjn) (fun k ok hk hki hku hno' => hfree k ok hk hki ?_ hno') (ready_mono hr (Ne.symm hji)) hy' ?_) step
      · by_cases hjk : j = k
        · rw [← hjk]; exact hju
        · rwa [getD_set_ne true hjk] at hku
      · rw [Array.setIfInBounds_comm _ _ hji]; exact hK

theorem headQ_lex {n g : Nat} {L : Act → Prop} (hno : Region.noSelect ops = true) (hs : Region.sinkB md ops n = true) (hc : Region.chainB md ops n = true) (hn : n < ops.size) :
    ∀ (l : List Oper) (k : Nat) (ls : Array Bool) (a : Act), (∀ j, j < l.length → l[j]? = ops[k + j]?) → k + l.length = n → HeadInv md ops n ls →
      Region.lexHead md ops g l.length k ls = true → wpQuiet P ops C L l a → headQ P md ops C n (fun ls' a' => Region.seqB md ops g n ls' = true ∧ L a') l.length ls a := by
  intro l
  induction l with
  | nil =>
    intro k ls a _ hk _ hB h
    obtain rfl : k = n := by simpa using hk
    exact ⟨by simpa [Region.lexHead] using hB, h⟩
  | cons o l ih =>
    intro k ls a hl hk inv hB h
    have h0 : ops[k]? = some o := by simpa using (hl 0 (by simp)).symm
    simp only [List.length_cons, Region.lexHead, Bool.and_eq_true] at hB
    obtain ⟨⟨hr, hf⟩, hB'⟩ := hB
    have hkn : k < n := by simp only [List.length_cons] at hk; omega
    have hr' : k ∈ Region.ready md ops ls := by simpa using hr
    obtain ⟨v, hy, hK⟩ := yieldsIn_of_qOp h0 (show qOp P ops C k (wpQuiet P ops C L l) a by unfold qOp; simp only [h0]; exact h)
    refine headQ_take h0 hno hs hc hn hkn (fun _ _ hq => seqB_ready hq.1) l.length ls a inv (Region.free_spec h0 hf) hr' hy (ih (k + 1) _ _ (fun j hj => ?_) ?_ (inv.set hr' hkn) hB' hK)
    · have := hl (j + 1) (by simp; omega)
      simpa [Nat.add_assoc, Nat.add_comm 1 j] using this
    · simp only [List.length_cons] at hk; omega

/-- **One walk of the text's order serves every order**: the first n operations quiet in the class, the others behind them, one behind the other. -/
theorem wp_region_quiet_tail {id : Nat} {Q : Exit → Act → World → Prop} {a : Act} {w : World} {l : List Oper} (n : Nat) (hm : P.follows .mixedOrders = true) (hB : Region.lexTailB .any l.toArray n = true)
    (hC : C { w with drawn := w.drawn + 1 }) (h : wpQuiet P l.toArray C (fun a' => ∀ w', C w' → wpList P l.toArray Q (l.drop n) a' w') (l.take n) a) : (Code.region id l.toArray true).wp P Q a w := by
  simp only [Region.lexTailB, Bool.and_eq_true, decide_eq_true_eq] at hB
  obtain ⟨⟨⟨⟨hno, hn⟩, hs⟩, hc⟩, hlex⟩ := hB
  have hn' : n < l.length := by simpa using hn
  have htl : (l.take n).length = n := by rw [List.length_take]; omega
  have hdl : (l.drop n).length = l.toArray.size - n := by simp
  have inv : HeadInv .any l.toArray n (Array.replicate l.toArray.size false) :=
    ⟨by simp, fun j oj _ hj => (by rw [getD_replicate_false] at hj; cases hj), fun t _ ht => getD_in (by simpa using ht) (getD_replicate_false _ _)⟩
  have H := headQ_lex (md := .any) (g := l.toArray.size - n) hno hs hc hn (l.take n) 0 _ a (fun j hj => by rw [htl] at hj; simp [hj]) (by simpa using htl) inv (by rw [htl]; exact hlex) h
  have := any_of_headQ (Q' := Q) (g := l.toArray.size - n) (fun ls a' w' hw' hq => by
    have := wpAny_of_seq (md := .any) (Q' := Q) (l.drop n) n ls a' w' (fun j => by simp [List.getElem?_drop]) (by rw [hdl]; exact hq.1) (hq.2 w' hw')
    rwa [hdl] at this) _ _ _ _ hC H
  rw [htl, show n + (l.toArray.size - n) = l.toArray.size by omega] at this
  exact wp_region_any hm this

/-- At the class 'w, with blocks of the callees' own behind it'. -/
theorem wp_region_below_tail {id : Nat} {Q : Exit → Act → World → Prop} {a : Act} {w : World} {l : List Oper} (n : Nat) (hm : P.follows .mixedOrders = true) (hB : Region.lexTailB .any l.toArray n = true)
    (h : wpQuiet P l.toArray (fun w' => ∃ p : Regrown, w' = grow (redrawn w p.d) p.os) (fun a' => ∀ w', (∃ p : Regrown, w' = grow (redrawn w p.d) p.os) → wpList P l.toArray Q (l.drop n) a' w') (l.take n) a) : (Code.region id l.toArray true).wp P Q a w :=
  wp_region_quiet_tail n hm hB ⟨⟨w.drawn + 1, #[]⟩, by rw [grow_empty]; rfl⟩ h
end

/-- A callee's contract that ends in 'w = w'', met in a world of the class. -/
theorem Calls.regrown_same {P : Program} {f : FuncId} {args : Array Value} {w : World} {d : Nat} {os : Array Obj} {v : Value}
    (h : Calls P f args (grow (redrawn w d) os) fun e w' => e = .returned v ∧ grow (redrawn w d) os = w') : Calls P f args (grow (redrawn w d) os) fun e w'' => e = .returned v ∧ ∃ p : Regrown, w'' = grow (redrawn w p.d) p.os :=
  h.mono fun _ _ ⟨he, hb⟩ => ⟨he, ⟨d, os⟩, hb.symm⟩
end Go.Proofs.YtoeinpiekfmbgaaGreatDoor

/- A call's own list of elements of one cell each. -/
namespace Go.Proofs.YtoeinpiekfmbgaaGreatDoor
set_option linter.unusedVariables false
set_option linter.unusedSimpArgs false
open Go.RowKit Go.ChangeShapes Go.WideShapes Go.ChangeAt

/-- The call's own slice v holds the values xs, in a block from B on. -/
def OwnV (w : World) (B : Nat) (e : TypeId) (v : Value) (xs : List Value) : Prop := w.ownsRow B e 1 v xs.length xs
theorem OwnV.nil (w : World) (B : Nat) (e : TypeId) : OwnV w B e (.slice none 0 0) [] := ⟨by simp, .inl ⟨rfl, rfl⟩⟩
theorem OwnV.made (w : World) (e : TypeId) : OwnV (w.alloc (.cells #[] e)) w.heap.size e (.slice (some ⟨w.heap.size, 0, none⟩) 0 0) [] :=
  World.ownsRow_made w #[] 0 (Nat.le_refl _) (by decide) rfl
theorem OwnV.below {w w' : World} {B : Nat} {e : TypeId} {v : Value} {xs : List Value} (h : OwnV w B e v xs) (hb : Below w.heap.size w w') : OwnV w' B e v xs := by
  unfold OwnV at h ⊢
  refine h.kept (row := none) ⟨hb.os, hb.tape, hb.output, hb.size, fun k hk _ => hb.block k hk⟩ ?_
  cases hv : v.ownBlock with
  | none => exact .inl rfl
  | some k => exact .inr (by simp)
theorem OwnV.form {w : World} {B : Nat} {e : TypeId} {v : Value} {xs : List Value} (h : OwnV w B e v xs) :
    ∃ A c, v = .slice A xs.length c ∧ (0 < xs.length → ∃ g, A = some ⟨g, 0, none⟩ ∧ B ≤ g ∧ g < w.heap.size ∧ ∀ j (hj : j < xs.length), w.cell? ⟨g, j, none⟩ = some xs[j]) := by
  unfold OwnV at h
  have hc := fun g hg => h.cells (g := g) hg
  have hlt := h.lt
  rcases h.2 with ⟨rfl, h0⟩ | ⟨g, cap, cur, rfl, _⟩
  · exact ⟨none, 0, by rw [h0], fun h1 => by omega⟩
  · refine ⟨_, _, rfl, fun _ => ⟨g, rfl, (hlt g rfl).1, (hlt g rfl).2, fun j hj => ?_⟩⟩
    have k1 := hc g rfl j _ (List.getElem?_eq_getElem hj)
    have a1 : (⟨g, 0, none⟩ : Addr).add j = ⟨g, j, none⟩ := by unfold Addr.add; split <;> simp [*]
    rwa [a1] at k1

/-- Some elements more, out of a block that was just laid. -/
theorem wpList_append_vals {P : Program} {w : World} {ops : Array Oper} {rest : List Oper} {o : Oper} {a : Act} {Q : Exit → Act → World → Prop}
    (hg : o.guard = none) (s x : Operand) (t : TypeId) (hop : o.op = Op.call { callee := Callee.builtin Builtin.append, args := #[s, x], argTypes := #[t, t] })
    (e : TypeId) (z : Value) (bytes : Nat) (ht : P.underlying t = some (.slice e)) (hi : (P.info? e).map (fun i => (i.zero, i.size, i.bytes)) = some (some z, 1, bytes)) (hz : z.cells.size = 1)
    (B : Nat) (w0 : World) (v : Value) (xs : List Value) (news : Array Value) (n : Nat) (hn : news.size = n) (hw : w = w0.alloc (.cells news e)) (hs : a.eval s = v) (own : OwnV w0 B e v xs)
    (hx : a.eval x = .slice (some ⟨w0.heap.size, 0, none⟩) n n) (h1 : ∀ u ∈ news.toList, u.oneCell' = true) (hlen : xs.length + n ≤ maxLen) (hbytes : (xs.length + n) * bytes ≤ 140737488355328) (hB : B ≤ w0.heap.size)
    (h : ∀ v' w', OwnV w' B e v' (xs ++ news.toList) → Below B w0 w' → wpList P ops Q rest (a.put o.dst v') w') : wpList P ops Q (o :: rest) a w := by
  subst hw
  unfold OwnV at own
  obtain ⟨i, hi, hz0, hz1, hz2⟩ := info_parts hi
  have own' : (w0.alloc (.cells news e)).ownsRow B e 1 v xs.length xs := own.alloc _
  refine wpList_append_own _ hg s x t hop B e i z 1 bytes ht hi hz0 hz1 hz2 hz (by decide) v xs.length xs hs own' ⟨w0.heap.size, 0, none⟩ n n news.toList hx (by simp [hn]) ?_ h1 hlen hbytes (by simp; omega) ?_
  · intro j u hu
    have e1 : (⟨w0.heap.size, 0, none⟩ : Addr).add j = ⟨w0.heap.size, j, none⟩ := by unfold Addr.add; split <;> simp [*]
    rw [e1, cell_at (heap_alloc_last w0 _) j]
    simpa using hu
  · intro v' w' h1 h2 _
    refine h v' w' ?_ (((Below.refl B w0).alloc hB _).grown h2 (by simp; omega) ?_)
    · unfold OwnV; simpa [hn] using h1
    · intro k hk
      rcases own.2 with ⟨rfl, _⟩ | ⟨g, cap, cur, rfl, hgb, _⟩
      · simp [Value.ownBlock] at hk
      · simp [Value.ownBlock] at hk; omega
end Go.Proofs.YtoeinpiekfmbgaaGreatDoor

