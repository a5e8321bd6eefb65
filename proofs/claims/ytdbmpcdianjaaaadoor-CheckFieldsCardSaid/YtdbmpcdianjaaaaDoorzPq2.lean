/- A call's own copies: of a code, of a program; an element of them stored anew. -/
import Derived.Test.YtdbmpcdianjaaaaDoorzPq
import Derived.Test.YtdbmpcdianjaaaaDoorzOww
import Derived.Test.YtdbmpcdianjaaaaDoorzGc
import Derived.Test.YtdbmpcdianjaaaaDoorzGq
import Derived.Laws.OwnMore
namespace Go.Proofs.YtdbmpcdianjaaaaDoor
set_option linter.unusedVariables false
set_option linter.unusedSimpArgs false
open Go.RowKit Go.ChangeShapes Go.WideShapes Go.ChangeAt Go.Sort

/-- A code appended. -/
theorem wpList_append_code {w : World} {ops : Array Oper} {rest : List Oper} {o : Oper} {a : Act} {Q : Exit → Act → World → Prop}
    (hg : o.guard = none) (s x : Operand) (hop : o.op = Op.call { callee := Callee.builtin Builtin.append, args := #[s, x], argTypes := #[32, 32] })
    (B : Nat) (v : Value) (l : List Ins) (hs : a.eval s = v) (own : OwnC w B v l) {A : Option Addr} {k : List Ins} {c C : Nat} (hx : a.eval x = .slice A k.length c) (hc : CodeAt w C A k)
    (h1 : 1 ≤ k.length) (hlen : l.length + k.length ≤ 1000000) (hB : B ≤ w.heap.size)
    (h : ∀ g cap w', OwnC w' B (.slice (some ⟨g, 0, none⟩) (l.length + k.length) cap) (l ++ k) → Below B w w' → B ≤ g → g < w'.heap.size → wpList Tryd.prog ops Q rest (a.put o.dst (.slice (some ⟨g, 0, none⟩) (l.length + k.length) cap)) w') : wpList Tryd.prog ops Q (o :: rest) a w := by
  obtain ⟨b, off, rfl, hbC, hf⟩ := hc (by omega)
  obtain ⟨q, hi, hz0, hz1, hz2⟩ := info_parts infoIn
  refine wpList_append_lies _ hg s x 32 hop B 36 q (.agg #[.int .i64 0, .int .i64 0, .int .i64 0]) 3 24 Tryd.underlying32 hi hz0 hz1 hz2 rfl (by decide) v l.length (flatI l) hs own ⟨b, off, none⟩ k.length c
    (flatI k) hx (flatI_len k) (fun j u hj => ?_) (fun u hu => ?_) (by omega) (by unfold maxLen; omega) (by omega) hB _ rfl ?_
  · rw [addr_add]
    have hjl : j < (flatI k).length := by
      rcases Nat.lt_or_ge j (flatI k).length with h | h
      · exact h
      · rw [List.getElem?_eq_none h] at hj; cases hj
    rw [flatI_len] at hjl
    have hd : j = j / 3 * 3 + j % 3 := by omega
    obtain ⟨e0, e1, e2⟩ := flatI_at k (j / 3) (by omega)
    obtain ⟨c0, c1, c2⟩ := hf (j / 3) (by omega)
    have hm : j % 3 = 0 ∨ j % 3 = 1 ∨ j % 3 = 2 := by omega
    rcases hm with hm | hm | hm
    · rw [hm, Nat.add_zero] at hd
      rw [hd] at hj ⊢
      rw [e0] at hj
      rw [c0, hj]
    · rw [hm] at hd
      rw [hd] at hj ⊢
      rw [e1] at hj
      rw [show off + (j / 3 * 3 + 1) = off + j / 3 * 3 + 1 by omega, c1, hj]
    · rw [hm] at hd
      rw [hd] at hj ⊢
      rw [e2] at hj
      rw [show off + (j / 3 * 3 + 2) = off + j / 3 * 3 + 2 by omega, c2, hj]
  · unfold flatI at hu
    obtain ⟨y, _, hy⟩ := List.mem_flatMap.1 hu
    simp at hy
    rcases hy with rfl | rfl | rfl <;> rfl
  · intro g cap w' k1 k2 k3 k4
    have hb : Below B w w' := (Below.refl B w).grown k2 hB (fun j hj => (own.lt j hj).1)
    have hgB : B ≤ g := by
      rcases k3 with k3 | k3
      · exact (own.lt g k3).1
      · omega
    refine h g cap w' ?_ hb hgB k4
    unfold OwnC
    rw [List.length_append]
    have : flatI (l ++ k) = flatI l ++ flatI k := by simp [flatI]
    rw [this]
    exact k1
theorem flatI_set : ∀ (l : List Ins) (k : Nat) (y : Ins), k < l.length → (((flatI l).set (k * 3) (.int .i64 y.1)).set (k * 3 + 1) (.int .i64 y.2.1)).set (k * 3 + 2) (.int .i64 y.2.2) = flatI (l.set k y)
  | z :: l, 0, y, _ => rfl
  | z :: l, k + 1, y, h => by
    have ih := flatI_set l k y (by simpa using h)
    rw [List.set_cons_succ, show (k + 1) * 3 = k * 3 + 3 by omega]
    show .int .i64 z.1 :: .int .i64 z.2.1 :: .int .i64 z.2.2 :: (((flatI l).set (k * 3) _).set (k * 3 + 1) _).set (k * 3 + 2) _ = .int .i64 z.1 :: .int .i64 z.2.1 :: .int .i64 z.2.2 :: flatI (l.set k y)
    rw [ih]
theorem flatF_set : ∀ (l : List (Fun × Value)) (k : Nat) (y : Fun × Value), k < l.length → ((((flatF l).set (k * 4) (.int .i64 y.1.ar)).set (k * 4 + 1) (.int .i64 y.1.lo)).set (k * 4 + 2) (.int .i64 y.1.sl)).set (k * 4 + 3) y.2 = flatF (l.set k y)
  | z :: l, 0, y, _ => rfl
  | z :: l, k + 1, y, h => by
    have ih := flatF_set l k y (by simpa using h)
    rw [List.set_cons_succ, show (k + 1) * 4 = k * 4 + 4 by omega]
    show .int .i64 z.1.ar :: .int .i64 z.1.lo :: .int .i64 z.1.sl :: z.2 :: ((((flatF l).set (k * 4) _).set (k * 4 + 1) _).set (k * 4 + 2) _).set (k * 4 + 3) _ = .int .i64 z.1.ar :: .int .i64 z.1.lo :: .int .i64 z.1.sl :: z.2 :: flatF (l.set k y)
    rw [ih]
/-- An instruction stored in the call's own code. -/
theorem OwnC.set {w : World} {B g cap n : Nat} {l : List Ins} (h : OwnC w B (.slice (some ⟨g, 0, none⟩) n cap) l) (hn : l.length = n) (k : Nat) (y : Ins) (hk : k < l.length) :
    OwnC (((w.setCell ⟨g, k * 3, none⟩ (.int .i64 y.1)).setCell ⟨g, k * 3 + 1, none⟩ (.int .i64 y.2.1)).setCell ⟨g, k * 3 + 2, none⟩ (.int .i64 y.2.2)) B (.slice (some ⟨g, 0, none⟩) n cap) (l.set k y) := by
  subst hn
  unfold OwnC at *
  rw [List.length_set, ← flatI_set l k y hk]
  exact (((h.stored (k * 3) _).1.stored (k * 3 + 1) _).1.stored (k * 3 + 2) _).1
/-- A function stored in the call's own program. -/
theorem row_set4 {w : World} {B g cap n : Nat} {l : List (Fun × Value)} (h : w.ownsRow B 34 4 (.slice (some ⟨g, 0, none⟩) n cap) n (flatF l)) (k : Nat) (y : Fun × Value) (hk : k < l.length) :
    ((((w.setCell ⟨g, k * 4, none⟩ (.int .i64 y.1.ar)).setCell ⟨g, k * 4 + 1, none⟩ (.int .i64 y.1.lo)).setCell ⟨g, k * 4 + 2, none⟩ (.int .i64 y.1.sl)).setCell ⟨g, k * 4 + 3, none⟩ y.2).ownsRow B 34 4 (.slice (some ⟨g, 0, none⟩) n cap) n (flatF (l.set k y)) := by
  rw [← flatF_set l k y hk]
  exact ((((h.stored (k * 4) _).1.stored (k * 4 + 1) _).1.stored (k * 4 + 2) _).1.stored (k * 4 + 3) _).1
/-- A program out of a row whose codes lie anywhere. -/
theorem prog_of_row {w : World} {B g cap : Nat} {l : List (Fun × Value)} (h : w.ownsRow B 34 4 (.slice (some ⟨g, 0, none⟩) l.length cap) l.length (flatF l)) (hl : Lies w w.heap.size l) : ProgAt w w.heap.size (some ⟨g, 0, none⟩) (l.map (·.1)) := by
  have hlt := (h.lt g rfl).2
  refine fun _ => ⟨g, 0, rfl, hlt, fun j hj => ?_⟩
  have hj' : j < l.length := by simpa using hj
  obtain ⟨e0, e1, e2, e3⟩ := flatF_at l j hj'
  have k0 := (h.cellAt (j * 4) (by omega)).trans e0
  have k1 := (h.cellAt (j * 4 + 1) (by omega)).trans e1
  have k2 := (h.cellAt (j * 4 + 2) (by omega)).trans e2
  have k3 := (h.cellAt (j * 4 + 3) (by omega)).trans e3
  obtain ⟨A, c, e4, hcode⟩ := hl _ (List.getElem_mem hj')
  rw [e4] at k3
  simp only [List.getElem_map, Nat.zero_add]
  exact ⟨k0, k1, k2, A, c, k3, hcode⟩
theorem row_heap {w w' : World} {B n size g m cap : Nat} {e : TypeId} {xs : List Value} (h : w.ownsRow B e size (.slice (some ⟨g, 0, none⟩) m cap) n xs) (hh : w'.heap[g]? = w.heap[g]?) : w'.ownsRow B e size (.slice (some ⟨g, 0, none⟩) m cap) n xs := by
  refine ⟨h.1, ?_⟩
  rcases h.2 with ⟨h', _⟩ | ⟨g', cap', cur, h', hb, hg, r⟩
  · simp at h'
  · have hgg : g' = g := by simp at h'; omega
    subst hgg
    exact .inr ⟨g', cap', cur, h', hb, hh.trans hg, r⟩
theorem OwnC.made1 (w : World) (o : Obj) : OwnC ((w.alloc o).alloc (.cells #[] 36)) (w.heap.size + 1) (.slice (some ⟨w.heap.size + 1, 0, none⟩) 0 0) [] := by
  have := World.ownsRow_made (base := (w.alloc o).heap.size) (e := 36) (size := 3) (w.alloc o) #[] 0 (Nat.le_refl _) (by decide) rfl
  unfold OwnC
  simpa [flatI] using this
/-- What is known of a copy of a program, and of one of its functions. -/
theorem copy_open {w : World} {B : Nat} {v : Value} {p : List Fun} {l : List (Fun × Value)} (e : l.map (·.1) = p) (h : OwnQ w B v ([] ++ l)) {k : Nat} (hk : k < p.length) :
    ∃ g cap A c, v = .slice (some ⟨g, 0, none⟩) p.length cap ∧ B ≤ g ∧ g < w.heap.size ∧ w.ownsRow B 34 4 (.slice (some ⟨g, 0, none⟩) p.length cap) p.length (flatF l) ∧ Lies w B l ∧ CodeAt w B A p[k].code ∧
      w.cell? ⟨g, k * 4, none⟩ = some (.int .i64 p[k].ar) ∧ w.cell? ⟨g, k * 4 + 1, none⟩ = some (.int .i64 p[k].lo) ∧ w.cell? ⟨g, k * 4 + 2, none⟩ = some (.int .i64 p[k].sl) ∧ w.cell? ⟨g, k * 4 + 3, none⟩ = some (.slice A p[k].code.length c) := by
  rw [List.nil_append] at h
  have hl : l.length = p.length := by rw [← e, List.length_map]
  obtain ⟨h1, h2⟩ := h
  rw [hl] at h1
  obtain ⟨g, cap, rfl, hg1, hg2⟩ := h1.form (by omega)
  have hkl : k < l.length := by omega
  obtain ⟨e0, e1, e2, e3⟩ := flatF_at l k hkl
  have k0 := (h1.cellAt (k * 4) (by omega)).trans e0
  have k1 := (h1.cellAt (k * 4 + 1) (by omega)).trans e1
  have k2 := (h1.cellAt (k * 4 + 2) (by omega)).trans e2
  have k3 := (h1.cellAt (k * 4 + 3) (by omega)).trans e3
  obtain ⟨A, c, e4, hcode⟩ := h2 _ (List.getElem_mem hkl)
  have hpk : p[k] = l[k].1 := by subst e; simp
  rw [hpk]
  rw [e4] at k3
  exact ⟨g, cap, A, c, rfl, hg1, hg2, h1, h2, hcode, k0, k1, k2, k3⟩
/-- The copy's function stored anew, out of a box, whose code is the call's own. -/
theorem after_store {u : World} {B x g cap k : Nat} {l : List (Fun × Value)} {p : List Fun} (e : l.map (·.1) = p) (hr : u.ownsRow B 34 4 (.slice (some ⟨g, 0, none⟩) p.length cap) p.length (flatF l)) (hl : Lies u B l) (hk : k < p.length) (f : Fun) {A : Option Addr} {c : Nat} (y : Value)
    (ho : OwnC u (x + 1) (.slice A f.code.length c) f.code) (hgx : g < x) (hBg : B ≤ g) (hBu : B ≤ u.heap.size) :
    ProgAt (((((u.setCell ⟨x, 3, none⟩ y).setCell ⟨g, k * 4, none⟩ (.int .i64 f.ar)).setCell ⟨g, k * 4 + 1, none⟩ (.int .i64 f.lo)).setCell ⟨g, k * 4 + 2, none⟩ (.int .i64 f.sl)).setCell ⟨g, k * 4 + 3, none⟩ (.slice A f.code.length c))
      (((((u.setCell ⟨x, 3, none⟩ y).setCell ⟨g, k * 4, none⟩ (.int .i64 f.ar)).setCell ⟨g, k * 4 + 1, none⟩ (.int .i64 f.lo)).setCell ⟨g, k * 4 + 2, none⟩ (.int .i64 f.sl)).setCell ⟨g, k * 4 + 3, none⟩ (.slice A f.code.length c)).heap.size (some ⟨g, 0, none⟩) (p.set k f) ∧
    Below B u (((((u.setCell ⟨x, 3, none⟩ y).setCell ⟨g, k * 4, none⟩ (.int .i64 f.ar)).setCell ⟨g, k * 4 + 1, none⟩ (.int .i64 f.lo)).setCell ⟨g, k * 4 + 2, none⟩ (.int .i64 f.sl)).setCell ⟨g, k * 4 + 3, none⟩ (.slice A f.code.length c)) := by
  have hlp : l.length = p.length := by rw [← e, List.length_map]
  have hb : Below B u (((((u.setCell ⟨x, 3, none⟩ y).setCell ⟨g, k * 4, none⟩ (.int .i64 f.ar)).setCell ⟨g, k * 4 + 1, none⟩ (.int .i64 f.lo)).setCell ⟨g, k * 4 + 2, none⟩ (.int .i64 f.sl)).setCell ⟨g, k * 4 + 3, none⟩ (.slice A f.code.length c)) :=
    (((((Below.refl B u).setCell (p := ⟨x, 3, none⟩) (by show B ≤ x; omega) y).setCell (p := ⟨g, k * 4, none⟩) hBg _).setCell (p := ⟨g, k * 4 + 1, none⟩) hBg _).setCell (p := ⟨g, k * 4 + 2, none⟩) hBg _).setCell (p := ⟨g, k * 4 + 3, none⟩) hBg _
  have r1 := row_heap (w' := u.setCell ⟨x, 3, none⟩ y) hr (Below.heap_setCell u ⟨x, 3, none⟩ y g (by show g ≠ x; omega))
  have r2 := row_set4 r1 k (f, .slice A f.code.length c) (by omega)
  have hox : ∀ b, (Value.slice A f.code.length c).ownBlock = some b → x + 1 ≤ b := fun b hb => (ho.lt b hb).1
  have o1 := ((((ho.grown (grown_set u x 3 y) (fun b hb h => by have := hox b hb; cases h; omega)).grown (grown_set _ g (k * 4) (.int .i64 f.ar)) (fun b hb h => by have := hox b hb; cases h; omega)).grown (grown_set _ g (k * 4 + 1) (.int .i64 f.lo)) (fun b hb h => by have := hox b hb; cases h; omega)).grown (grown_set _ g (k * 4 + 2) (.int .i64 f.sl)) (fun b hb h => by have := hox b hb; cases h; omega)).grown (grown_set _ g (k * 4 + 3) (.slice A f.code.length c)) (fun b hb h => by have := hox b hb; cases h; omega)
  obtain ⟨A', c', e', hc⟩ := o1.code
  simp only [Value.slice.injEq, true_and] at e'
  obtain ⟨rfl, rfl⟩ := e'
  refine ⟨?_, hb⟩
  have hmap : (l.set k (f, .slice A f.code.length c)).map (·.1) = p.set k f := by rw [List.map_set, e]
  have hll : (l.set k (f, Value.slice A f.code.length c)).length = p.length := by rw [List.length_set, hlp]
  rw [← hmap]
  refine prog_of_row (B := B) (cap := cap) (by rw [hll]; exact r2) (fun z hz => ?_)
  rcases List.mem_or_eq_of_mem_set hz with hz | rfl
  · obtain ⟨A2, c2, e2, hc2⟩ := hl z hz
    exact ⟨A2, c2, e2, (hc2.below hb (Nat.le_refl _)).more (Nat.le_trans hBu hb.size)⟩
  · exact ⟨A, c, rfl, hc⟩
/-- The copy's function stored anew, out of a box, whose code is the call's own. -/
theorem after_store2 {u : World} {B x g cap k : Nat} {l : List (Fun × Value)} {p : List Fun} (e : l.map (·.1) = p) (hr : u.ownsRow B 34 4 (.slice (some ⟨g, 0, none⟩) p.length cap) p.length (flatF l)) (hl : Lies u B l) (hk : k < p.length) (f : Fun) {A : Option Addr} {c : Nat}
    (ho : OwnC u (x + 1) (.slice A f.code.length c) f.code) (hgx : g < x) (hBg : B ≤ g) (hBu : B ≤ u.heap.size) :
    ProgAt ((((u.setCell ⟨g, k * 4, none⟩ (.int .i64 f.ar)).setCell ⟨g, k * 4 + 1, none⟩ (.int .i64 f.lo)).setCell ⟨g, k * 4 + 2, none⟩ (.int .i64 f.sl)).setCell ⟨g, k * 4 + 3, none⟩ (.slice A f.code.length c))
      ((((u.setCell ⟨g, k * 4, none⟩ (.int .i64 f.ar)).setCell ⟨g, k * 4 + 1, none⟩ (.int .i64 f.lo)).setCell ⟨g, k * 4 + 2, none⟩ (.int .i64 f.sl)).setCell ⟨g, k * 4 + 3, none⟩ (.slice A f.code.length c)).heap.size (some ⟨g, 0, none⟩) (p.set k f) ∧
    Below B u ((((u.setCell ⟨g, k * 4, none⟩ (.int .i64 f.ar)).setCell ⟨g, k * 4 + 1, none⟩ (.int .i64 f.lo)).setCell ⟨g, k * 4 + 2, none⟩ (.int .i64 f.sl)).setCell ⟨g, k * 4 + 3, none⟩ (.slice A f.code.length c)) := by
  have hlp : l.length = p.length := by rw [← e, List.length_map]
  have hb : Below B u ((((u.setCell ⟨g, k * 4, none⟩ (.int .i64 f.ar)).setCell ⟨g, k * 4 + 1, none⟩ (.int .i64 f.lo)).setCell ⟨g, k * 4 + 2, none⟩ (.int .i64 f.sl)).setCell ⟨g, k * 4 + 3, none⟩ (.slice A f.code.length c)) :=
    ((((Below.refl B u).setCell (p := ⟨g, k * 4, none⟩) hBg _).setCell (p := ⟨g, k * 4 + 1, none⟩) hBg _).setCell (p := ⟨g, k * 4 + 2, none⟩) hBg _).setCell (p := ⟨g, k * 4 + 3, none⟩) hBg _
  have r2 := row_set4 hr k (f, .slice A f.code.length c) (by omega)
  have hox : ∀ b, (Value.slice A f.code.length c).ownBlock = some b → x + 1 ≤ b := fun b hb => (ho.lt b hb).1
  have o1 := (((ho.grown (grown_set u g (k * 4) (.int .i64 f.ar)) (fun b hb h => by have := hox b hb; cases h; omega)).grown (grown_set _ g (k * 4 + 1) (.int .i64 f.lo)) (fun b hb h => by have := hox b hb; cases h; omega)).grown (grown_set _ g (k * 4 + 2) (.int .i64 f.sl)) (fun b hb h => by have := hox b hb; cases h; omega)).grown (grown_set _ g (k * 4 + 3) (.slice A f.code.length c)) (fun b hb h => by have := hox b hb; cases h; omega)
  obtain ⟨A', c', e', hc⟩ := o1.code
  simp only [Value.slice.injEq, true_and] at e'
  obtain ⟨rfl, rfl⟩ := e'
  refine ⟨?_, hb⟩
  have hmap : (l.set k (f, .slice A f.code.length c)).map (·.1) = p.set k f := by rw [List.map_set, e]
  have hll : (l.set k (f, Value.slice A f.code.length c)).length = p.length := by rw [List.length_set, hlp]
  rw [← hmap]
  refine prog_of_row (B := B) (cap := cap) (by rw [hll]; exact r2) (fun z hz => ?_)
  rcases List.mem_or_eq_of_mem_set hz with hz | rfl
  · obtain ⟨A2, c2, e2, hc2⟩ := hl z hz
    exact ⟨A2, c2, e2, (hc2.below hb (Nat.le_refl _)).more (Nat.le_trans hBu hb.size)⟩
  · exact ⟨A, c, rfl, hc⟩
theorem wpList_wants {P : Program} {w : World} {ops : Array Oper} {rest : List Oper} {o : Oper} {a : Act} {Q : Exit → Act → World → Prop}
    (hw : Region.wanted o (yielded ops a.tmps) = true) (h : wpList P ops Q ({ o with guard := none } :: rest) a w) : wpList P ops Q (o :: rest) a w := by
  unfold wpList at h ⊢
  rw [if_pos hw]
  rw [if_pos (by simp [Region.wanted])] at h
  exact h
/-- Ints appended, that lie in a block of their own. -/
theorem wpList_append_list {w : World} {ops : Array Oper} {rest : List Oper} {o : Oper} {a : Act} {Q : Exit → Act → World → Prop}
    (hg : o.guard = none) (s x : Operand) (hop : o.op = Op.call { callee := Callee.builtin Builtin.append, args := #[s, x], argTypes := #[30, 30] })
    (B : Nat) (v : Value) (xs : List Value) (hs : a.eval s = v) (own : OwnV w B 3 v xs) {C : Nat} {y : Value} {l : List Int} (hx : a.eval x = y) (hy : LstAt w C y l)
    (h1 : 1 ≤ l.length) (hlen : xs.length + l.length ≤ 1000000) (hB : B ≤ w.heap.size)
    (h : ∀ v' w', OwnV w' B 3 v' (xs ++ l.map fun n => .int .i64 n) → Below B w w' → wpList Tryd.prog ops Q rest (a.put o.dst v') w') : wpList Tryd.prog ops Q (o :: rest) a w := by
  rcases hy with ⟨rfl, _⟩ | ⟨b, rfl, _, hb⟩
  · simp at h1
  · unfold OwnV at own
    obtain ⟨i, hi, hz0, hz1, hz2⟩ := info_parts infoI
    refine wpList_append_own _ hg s x 30 hop B 3 i (.int .i64 0) 1 8 Tryd.underlying30 hi hz0 hz1 hz2 rfl (by decide) v xs.length xs hs own ⟨b, 0, none⟩ l.length l.length (l.map fun n => .int .i64 n) hx (by simp) (fun j u hj => ?_) (fun u hu => ?_) (by unfold maxLen; omega) (by omega) hB ?_
    · rw [addr_add, Nat.zero_add, hb.cell]
      simpa using hj
    · obtain ⟨n, _, rfl⟩ := List.mem_map.1 hu
      rfl
    · intro v' w' k1 k2 _
      refine h v' w' ?_ ((Below.refl B w).grown k2 hB (fun k hk => (own.lt k hk).1))
      unfold OwnV
      simpa using k1
theorem run_zero (w : World) (g c c2 : Nat) (A : Option Addr) (ty : TypeId) : (Builtin.append_ #[32, 32] ty #[.slice (some ⟨g, 0, none⟩) 0 c, .slice A 0 c2]).run Tryd.prog w = .ok (.slice (some ⟨g, 0, none⟩) 0 c) w := by
  obtain ⟨i, hi, hz0, hz1, hz2⟩ := info_parts infoIn
  cases A <;> simp [Builtin.append_, run_underlying Tryd.underlying32, sizeOf, typeInfo, hi, storeCells, loadCellsFrom, Builtin.lenOf, Builtin.firstCells, loadCells]
/-- A code appended to what was just made: be it empty or not. -/
theorem wpList_append_code0 {w : World} {ops : Array Oper} {rest : List Oper} {o : Oper} {a : Act} {Q : Exit → Act → World → Prop}
    (hg : o.guard = none) (s x : Operand) (hop : o.op = Op.call { callee := Callee.builtin Builtin.append, args := #[s, x], argTypes := #[32, 32] })
    (w0 : World) (o1 : Obj) (hw : w = (w0.alloc o1).alloc (.cells #[] 36)) (hs : a.eval s = .slice (some ⟨w0.heap.size + 1, 0, none⟩) 0 0) {A : Option Addr} {k : List Ins} {c C : Nat} (hx : a.eval x = .slice A k.length c) (hc : CodeAt w C A k)
    (hlen : k.length ≤ 1000000)
    (h : ∀ g cap w', OwnC w' (w0.heap.size + 1) (.slice (some ⟨g, 0, none⟩) k.length cap) k → Below (w0.heap.size + 1) w w' → w0.heap.size + 1 ≤ g → g < w'.heap.size → wpList Tryd.prog ops Q rest (a.put o.dst (.slice (some ⟨g, 0, none⟩) k.length cap)) w') : wpList Tryd.prog ops Q (o :: rest) a w := by
  subst hw
  by_cases hk : k = []
  · subst hk
    refine wpList_plain hg fun K hK' => ?_
    have hr := fun ty => run_zero ((w0.alloc o1).alloc (.cells #[] 36)) (w0.heap.size + 1) 0 c A ty
    have hx2 : a.eval x = .slice A 0 c := hx
    unfold Oper.wp execOp
    simp only [hop, resolve, invoke, builtin, Sem.run_bind, Sem.run_pure, Result.andThen_ok, List.map_toArray, List.map_cons, List.map_nil, hs, hx2, hr]
    exact hK' _ _ (h (w0.heap.size + 1) 0 _ (OwnC.made1 w0 o1) (Below.refl _ _) (Nat.le_refl _) (by simp))
  · have h1 : 1 ≤ k.length := by
      cases k with
      | nil => exact absurd rfl hk
      | cons y ys => simp
    refine wpList_append_code hg s x hop (w0.heap.size + 1) _ [] hs (OwnC.made1 w0 o1) hx hc h1 (by simpa using hlen) (by simp) fun g cap w' k1 k2 k3 k4 => ?_
    simp only [List.length_nil, Nat.zero_add, List.nil_append] at k1
    have := h g cap w' k1 k2 k3 k4
    simpa using this
end Go.Proofs.YtdbmpcdianjaaaaDoor

