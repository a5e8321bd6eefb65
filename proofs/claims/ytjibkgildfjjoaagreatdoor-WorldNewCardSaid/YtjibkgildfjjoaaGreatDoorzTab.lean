/- A package-level table of rows of one-cell fields: its cells, out of what it reads as. -/
import Derived.Test.YtjibkgildfjjoaaGreatDoorzHd
import Derived.Lib.LaidTab
import Derived.Laws.Rows
namespace Go.Proofs.YtjibkgildfjjoaaGreatDoor
set_option linter.unusedVariables false
set_option linter.unusedSimpArgs false
open Go Go.Lib

theorem flat_get {α : Type} (k : Nat) : ∀ (rows : List (List α)), (∀ r ∈ rows, r.length = k) → ∀ i j, j < k → rows.flatten[i * k + j]? = (rows[i]?).bind (·[j]?)
  | [], _, i, j, _ => by simp
  | r :: rs, h, 0, j, hj => by
    have hr := h r (by simp)
    simp [List.getElem?_append_left (show j < r.length by omega)]
  | r :: rs, h, i + 1, j, hj => by
    have hr := h r (by simp)
    have := flat_get k rs (fun x hx => h x (by simp [hx])) i j hj
    rw [List.flatten_cons, List.getElem?_append_right (by rw [hr, Nat.add_mul]; omega), hr, show (i + 1) * k + j - k = i * k + j by rw [Nat.add_mul]; omega, this]
    simp
theorem flat_length {α : Type} (k : Nat) : ∀ (rows : List (List α)), (∀ r ∈ rows, r.length = k) → rows.flatten.length = rows.length * k
  | [], _ => by simp
  | r :: rs, h => by
    have hr := h r (by simp)
    have := flat_length k rs (fun x hx => h x (by simp [hx]))
    rw [List.flatten_cons, List.length_append, this, hr, List.length_cons, Nat.add_mul]
    omega

def plainB (P : Program) (t : TypeId) : Bool := match P.underlying t with | some (.int _) => true | some .string => true | _ => false

section
variable {H : Type} {enc : TypeId × Value → H} {P : Program} {w : World} {base : Nat} {sp : Nat → Bool} {held : Bool}

theorem cell_of_lit {t : TypeId} {fuel : Nat} {cs : List Value} {l : Lit} {p : List MemPlace} (ht : plainB P t = true) (h : DataW.trod enc P w base sp held fuel t cs = some (.lit l, p)) : cs = [l.value] := by
  unfold plainB at ht
  split at ht
  · rename_i hu
    obtain ⟨n, rfl, he, _⟩ := DataW.trod_int hu h
    simp only [Prod.mk.injEq, DataW.lit.injEq] at he
    rw [he.1]
    rfl
  · rename_i hu
    obtain ⟨s, rfl, he, _⟩ := DataW.trod_string hu h
    simp only [Prod.mk.injEq, DataW.lit.injEq] at he
    rw [he.1]
    simp [Lit.value]
  · cases ht

theorem chunk_of_trod {t : TypeId} {fuel k : Nat} {fs : Array Field} {cs : List Value} {ls : List Lit} {p : List MemPlace} (ht : P.underlying t = some (.struct fs)) (hct : P.cellsOf t = k) (hfl : fs.toList.length = k)
    (hf : (List.range k).all (fun j => match fs.toList[j]? with | some f => f.offset == j && P.cellsOf f.type == 1 && plainB P f.type | none => false) = true)
    (h : DataW.trod enc P w base sp held fuel t cs = some (.agg (ls.map .lit), p)) : cs = ls.map Lit.value := by
  cases fuel with
  | zero => simp [DataW.trod] at h
  | succ fuel =>
    simp only [DataW.trod, ht] at h
    split at h
    · rename_i hl
      obtain ⟨xs, hm, hx⟩ := Option.map_eq_some_iff.1 h
      have hxs : xs.map (·.1) = ls.map .lit := by
        have := congrArg Prod.fst hx
        simpa using this
      have hxl : xs.length = k := by rw [mapM_length hm]; exact hfl
      have hzl : ls.length = k := by
        have := congrArg List.length hxs
        simp at this
        omega
      apply List.ext_getElem?
      intro i
      by_cases hi : i < k
      · have hfi := (List.all_eq_true.1 hf) i (by simp [hi])
        cases hq : fs.toList[i]? with
        | none => simp [hq] at hfi
        | some f =>
          simp only [hq, Bool.and_eq_true, beq_iff_eq] at hfi
          obtain ⟨⟨ho, hc⟩, hp⟩ := hfi
          obtain ⟨b, hb, hfb⟩ := mapM_at hm i f hq
          have h2 : (xs.map (·.1))[i]? = some b.1 := by simp [hb]
          rw [hxs] at h2
          simp only [List.getElem?_map, Option.map_eq_some_iff] at h2
          obtain ⟨l, hl1, hl2⟩ := h2
          have hfb' : DataW.trod enc P w base sp held fuel f.type ((cs.drop f.offset).take (P.cellsOf f.type)) = some (.lit l, b.2) := by rw [hfb, hl2]
          have := cell_of_lit hp hfb'
          rw [ho, hc] at this
          have h1 : cs[i]? = some l.value := by
            have := congrArg (·[0]?) this
            simpa [List.getElem?_take, List.getElem?_drop] using this
          simp [h1, hl1]
      · rw [List.getElem?_eq_none (by omega), List.getElem?_eq_none (by simp; omega)]
    · cases h

theorem tab_of_trod {t e : TypeId} {fuel n k : Nat} {fs : Array Field} {cs : List Value} {rows : List (List Lit)} {p : List MemPlace} (ht : P.underlying t = some (.array n e)) (he : P.underlying e = some (.struct fs))
    (hce : P.cellsOf e = k) (hct : P.cellsOf t = n * k) (hfl : fs.toList.length = k) (hk : 0 < k)
    (hf : (List.range k).all (fun j => match fs.toList[j]? with | some f => f.offset == j && P.cellsOf f.type == 1 && plainB P f.type | none => false) = true) (hr : ∀ r ∈ rows, r.length = k)
    (h : DataW.trod enc P w base sp held fuel t cs = some (.agg (rows.map fun ls => .agg (ls.map .lit)), p)) : cs = (rows.map (·.map Lit.value)).flatten := by
  cases fuel with
  | zero => simp [DataW.trod] at h
  | succ fuel =>
    simp only [DataW.trod, ht, hce, hct] at h
    split at h
    · rename_i hl
      obtain ⟨xs, hm, hx⟩ := Option.map_eq_some_iff.1 h
      have hxs : xs.map (·.1) = rows.map fun ls => .agg (ls.map .lit) := by
        have := congrArg Prod.fst hx
        simpa using this
      have hxl : xs.length = n := by simpa using mapM_length hm
      have hzl : rows.length = n := by
        have := congrArg List.length hxs
        simp at this
        omega
      have hr' : ∀ r ∈ rows.map (·.map Lit.value), r.length = k := by
        intro r hr1
        obtain ⟨x, hx1, rfl⟩ := List.mem_map.1 hr1
        simp [hr x hx1]
      apply List.ext_getElem?
      intro m
      by_cases hi : m < n * k
      · have hin : m / k < n := (Nat.div_lt_iff_lt_mul hk).2 hi
        have hj : m % k < k := Nat.mod_lt _ hk
        have hm2 : m / k * k + m % k = m := by rw [Nat.mul_comm]; exact Nat.div_add_mod m k
        generalize hi' : m / k = i at *
        generalize hj' : m % k = j at *
        obtain ⟨b, hb, hfb⟩ := mapM_at hm i i (by simp [hin])
        have h2 : (xs.map (·.1))[i]? = some b.1 := by simp [hb]
        rw [hxs] at h2
        simp only [List.getElem?_map, Option.map_eq_some_iff] at h2
        obtain ⟨r, hr1, hr2⟩ := h2
        have hfb' : DataW.trod enc P w base sp held fuel e ((cs.drop (i * k)).take k) = some (.agg (r.map .lit), b.2) := by rw [hfb, hr2]
        have h3 := chunk_of_trod he hce hfl hf hfb'
        have h4 : cs[i * k + j]? = (r.map Lit.value)[j]? := by
          have := congrArg (·[j]?) h3
          simp only [List.getElem?_take, List.getElem?_drop, hj, if_true] at this
          exact this
        rw [← hm2, h4, flat_get k _ hr' i j hj]
        simp [hr1]
      · rw [List.getElem?_eq_none (by omega), List.getElem?_eq_none (by rw [flat_length k _ hr', List.length_map, hzl]; omega)]
    · cases h
end

/-- A listed table is the one that stands in the variable's block. -/
theorem held_of_laid {P : Program} {W : World} {name : String} {rows : List (List Lit)} {rest : List (String × DataW Unit)} {g : Nat} {t e : TypeId} {n k : Nat} {fs : Array Field}
    (hg : P.globalNamed name = some g) (hty : (P.globals[g]?).map (·.type) = some t) (ht : P.underlying t = some (.array n e)) (he : P.underlying e = some (.struct fs))
    (hce : P.cellsOf e = k) (hct : P.cellsOf t = n * k) (hfl : fs.toList.length = k) (hk : 0 < k)
    (hf : (List.range k).all (fun j => match fs.toList[j]? with | some f => f.offset == j && P.cellsOf f.type == 1 && plainB P f.type | none => false) = true) (hr : ∀ r ∈ rows, r.length = k) (hn : 0 < rows.length)
    (h : laidMet P ((name, .agg (rows.map fun ls => .agg (ls.map .lit))) :: rest) W) : ∃ ty, W.heap[g]? = some (.cells (rows.map (·.map Lit.value)).flatten.toArray ty (0, 0)) := by
  obtain ⟨ps, ⟨g', t', cs, fuel, p, q, hg', ht', hvar, hd, _, hps⟩, _, hall⟩ := h
  obtain rfl := Option.some.inj (hg.symm.trans hg')
  obtain rfl := Option.some.inj (hty.symm.trans ht')
  have hcs := tab_of_trod ht he hce hct hfl hk hf hr hd
  have hpos : 0 < cs.size := by
    have : cs.toList.length = rows.length * k := by
      rw [hcs, flat_length k]
      · simp
      · intro r hr1
        obtain ⟨x, hx1, rfl⟩ := List.mem_map.1 hr1
        simp [hr x hx1]
    have h2 : 0 < rows.length * k := Nat.mul_pos hn hk
    have h3 : cs.size = cs.toList.length := by simp
    omega
  obtain ⟨⟨c, ty, hc⟩, _⟩ := hall g 0 (by
    rw [hps]
    refine List.mem_append_left _ (List.mem_append_left _ ?_)
    exact MemPlace.mem_row.2 ⟨0, hpos, by simp⟩)
  have hv : W.var? P name = some c := by unfold World.var?; rw [hg]; simp [hc]
  obtain rfl := Option.some.inj (hv.symm.trans hvar)
  refine ⟨ty, ?_⟩
  rw [hc]
  congr 2
  exact Array.toList_inj.1 (by rw [hcs])
end Go.Proofs.YtjibkgildfjjoaaGreatDoor

