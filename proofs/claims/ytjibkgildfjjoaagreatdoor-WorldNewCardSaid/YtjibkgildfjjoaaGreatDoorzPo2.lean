/- Layer 7: a call's own program, a function more, and its last function another one. -/
import Derived.Test.YtjibkgildfjjoaaGreatDoorzPo
import Derived.Laws.OwnMore
namespace Go.Proofs.YtjibkgildfjjoaaGreatDoor
set_option linter.unusedVariables false
set_option linter.unusedSimpArgs false
open Go.RowKit Go.ChangeShapes Go.WideShapes Go.ChangeAt Go.Sort

theorem infoFn : (Tryz.prog.info? 73).map (fun i => (i.zero, i.size, i.bytes)) = some (some (.agg #[.int .i64 0, .int .i64 0, .int .i64 0, .slice none 0 0]), 4, 48) := by kernel_rfl
/-- A row of functions is no row of instructions. -/
theorem own_ne {w : World} {B C : Nat} {c v : Value} {l : List Ins} {n : Nat} {xs : List Value} (hc : OwnC w C c l) (h : w.ownsRow B 73 4 v n xs) : ∀ b, c.ownBlock = some b → v.ownBlock ≠ some b := by
  intro b hb hv
  unfold OwnC at hc
  rcases hc.2 with ⟨rfl, _⟩ | ⟨g, cap, cur, rfl, _, h1, _⟩
  · simp [Value.ownBlock] at hb
  · rcases h.2 with ⟨rfl, _⟩ | ⟨g', cap', cur', rfl, _, h2, _⟩
    · simp [Value.ownBlock] at hv
    · simp only [Value.ownBlock, Option.some.injEq] at hb hv
      subst hb
      rw [hv] at h2
      rw [h1] at h2
      simp at h2
theorem Codes.grown {w w' : World} {B : Nat} {l : List (Fun × Value)} {row : Option Nat} (h : Codes w B l) (hg : w.grownBy w' row) (hne : ∀ x ∈ l, ∀ b, x.2.ownBlock = some b → row ≠ some b) : Codes w' B l :=
  ⟨fun x hx => (h.1 x hx).grown hg (hne x hx), h.2⟩
theorem Codes.snoc {w : World} {B : Nat} {l : List (Fun × Value)} (h : Codes w B l) {f : Fun} {c : Value} (hc : OwnC w B c f.code) (hd : ∀ x ∈ l, ∀ b, x.2.ownBlock = some b → c.ownBlock ≠ some b) : Codes w B (l ++ [(f, c)]) := by
  refine ⟨fun x hx => ?_, ?_⟩
  · rcases List.mem_append.1 hx with hx | hx
    · exact h.1 x hx
    · simp only [List.mem_singleton] at hx
      subst hx
      exact hc
  · rw [List.pairwise_append]
    refine ⟨h.2, List.pairwise_singleton _ _, fun x hx y hy => ?_⟩
    simp only [List.mem_singleton] at hy
    subst hy
    exact hd x hx
theorem Codes.init {w : World} {B : Nat} {l : List (Fun × Value)} {x : Fun × Value} (h : Codes w B (l ++ [x])) : Codes w B l ∧ OwnC w B x.2 x.1.code ∧ ∀ y ∈ l, ∀ b, y.2.ownBlock = some b → x.2.ownBlock ≠ some b := by
  obtain ⟨h1, h2⟩ := h
  rw [List.pairwise_append] at h2
  exact ⟨⟨fun y hy => h1 y (by simp [hy]), h2.1⟩, h1 x (by simp), fun y hy => h2.2.2 y hy x (by simp)⟩

theorem set_four (xs : List Value) (a b c d a' b' c' d' : Value) : ((((xs ++ [a, b, c, d]).set xs.length a').set (xs.length + 1) b').set (xs.length + 2) c').set (xs.length + 3) d' = xs ++ [a', b', c', d'] := by
  induction xs with
  | nil => rfl
  | cons x xs ih =>
    simp only [List.cons_append, List.length_cons, List.set_cons_succ, show xs.length + 1 + 1 = (xs.length + 1) + 1 from rfl, show xs.length + 1 + 2 = (xs.length + 2) + 1 from rfl, show xs.length + 1 + 3 = (xs.length + 3) + 1 from rfl]
    rw [ih]
/-- The last function, another one. -/
theorem OwnL.set {w : World} {B g cap : Nat} {l : List (Fun × Value)} {f f' : Fun} {c c' : Value}
    (h : w.ownsRow B 73 4 (.slice (some ⟨g, 0, none⟩) (l.length + 1) cap) (l.length + 1) (flatF (l ++ [(f, c)]))) (hl : Codes w B l) (hc : OwnC w B c' f'.code) (hd : ∀ x ∈ l, ∀ b, x.2.ownBlock = some b → c'.ownBlock ≠ some b) :
    OwnL ((((w.setCell ⟨g, l.length * 4, none⟩ (.int .i64 f'.ar)).setCell ⟨g, l.length * 4 + 1, none⟩ (.int .i64 f'.lo)).setCell ⟨g, l.length * 4 + 2, none⟩ (.int .i64 f'.sl)).setCell ⟨g, l.length * 4 + 3, none⟩ c') B (.slice (some ⟨g, 0, none⟩) (l.length + 1) cap) (l ++ [(f', c')]) := by
  have hcd := hl.snoc hc hd
  have h1 := h.stored (l.length * 4) (.int .i64 f'.ar)
  have h2 := h1.1.stored (l.length * 4 + 1) (.int .i64 f'.lo)
  have h3 := h2.1.stored (l.length * 4 + 2) (.int .i64 f'.sl)
  have h4 := h3.1.stored (l.length * 4 + 3) c'
  refine ⟨?_, ?_⟩
  · have e := h4.1
    rw [flatF_snoc, ← flatF_len l, set_four] at e
    rw [flatF_snoc, List.length_append]
    rw [← flatF_len l]
    exact e
  · have n0 : ∀ x ∈ l ++ [(f', c')], ∀ b, x.2.ownBlock = some b → (some g : Option Nat) ≠ some b := fun x hx b hb => own_ne (hcd.1 x hx) h b hb
    exact (((hcd.grown h1.2 n0).grown h2.2 n0).grown h3.2 n0).grown h4.2 n0
end Go.Proofs.YtjibkgildfjjoaaGreatDoor

/- Layer 7: a program appended to a list of functions of the call's own; the codes stay where they lie. -/
namespace Go.Proofs.YtjibkgildfjjoaaGreatDoor
set_option linter.unusedVariables false
set_option linter.unusedSimpArgs false
open Go.RowKit Go.ChangeShapes Go.WideShapes Go.ChangeAt Go.Sort

/-- Codes that lie somewhere, below block B. -/
def Lies (w : World) (B : Nat) (l : List (Fun × Value)) : Prop := ∀ x ∈ l, ∃ A c, x.2 = .slice A x.1.code.length c ∧ CodeAt w B A x.1.code
theorem Lies.below {w w' : World} {B C : Nat} {l : List (Fun × Value)} (h : Lies w B l) (hb : Below C w w') (hC : B ≤ C) : Lies w' B l := fun x hx => by
  obtain ⟨A, c, e, hc⟩ := h x hx
  exact ⟨A, c, e, hc.below hb hC⟩
/-- A program's cells, with its codes' values. -/
theorem cells_news : ∀ (p : List Fun) (w : World) (B b off : Nat), (∀ j (h : j < p.length), FunAt w B b (off + j * 4) p[j]) →
    ∃ l : List (Fun × Value), l.map (·.1) = p ∧ Lies w B l ∧ (∀ j u, (flatF l)[j]? = some u → w.cell? ⟨b, off + j, none⟩ = some u) ∧ ∀ u ∈ flatF l, u.oneCell' = true
  | [], _, _, _, _, _ => ⟨[], rfl, fun x hx => by simp at hx, fun j u h => by simp [flatF] at h, fun u hu => by simp [flatF] at hu⟩
  | f :: p, w, B, b, off, h => by
    obtain ⟨l, h1, h2, h3, h4⟩ := cells_news p w B b (off + 4) fun j hj => by
      have := h (j + 1) (by simpa using hj)
      rw [show off + (j + 1) * 4 = off + 4 + j * 4 by omega] at this
      exact this
    have g := h 0 (by simp)
    simp only [Nat.zero_mul, Nat.add_zero, List.getElem_cons_zero] at g
    obtain ⟨g0, g1, g2, A, c, g3, g4⟩ := g
    have e : flatF ((f, .slice A f.code.length c) :: l) = [.int .i64 f.ar, .int .i64 f.lo, .int .i64 f.sl, .slice A f.code.length c] ++ flatF l := by simp [flatF]
    refine ⟨(f, .slice A f.code.length c) :: l, by rw [List.map_cons, h1], fun x hx => ?_, fun j u hj => ?_, fun u hu => ?_⟩
    · rcases List.mem_cons.1 hx with rfl | hx
      · exact ⟨A, c, rfl, g4⟩
      · exact h2 x hx
    · rw [e] at hj
      match j, hj with
      | 0, hj => simp at hj; subst hj; exact g0
      | 1, hj => simp at hj; subst hj; exact g1
      | 2, hj => simp at hj; subst hj; exact g2
      | 3, hj => simp at hj; subst hj; exact g3
      | j + 4, hj =>
        rw [List.getElem?_append_right (by simp)] at hj
        simp only [List.length_cons, List.length_nil, Nat.zero_add, Nat.reduceAdd, Nat.add_sub_cancel] at hj
        have := h3 j u hj
        rw [show off + (j + 4) = off + 4 + j by omega]
        exact this
    · rw [e] at hu
      rcases List.mem_append.1 hu with hu | hu
      · simp at hu
        rcases hu with rfl | rfl | rfl | rfl <;> rfl
      · exact h4 u hu
/-- The call's own list of functions, whose codes lie below block B. -/
def OwnQ (w : World) (B : Nat) (v : Value) (l : List (Fun × Value)) : Prop := w.ownsRow B 73 4 v l.length (flatF l) ∧ Lies w B l
theorem OwnQ.made (w : World) : OwnQ (w.alloc (.cells #[] 73)) w.heap.size (.slice (some ⟨w.heap.size, 0, none⟩) 0 0) [] :=
  ⟨World.ownsRow_made w #[] 0 (Nat.le_refl _) (by decide) rfl, fun x hx => by simp at hx⟩
theorem OwnQ.prog {w : World} {B : Nat} {v : Value} {l : List (Fun × Value)} (h : OwnQ w B v l) (hB : B ≤ w.heap.size) : ∃ A c, v = .slice A (l.map (·.1)).length c ∧ ProgAt w w.heap.size A (l.map (·.1)) := by
  obtain ⟨h, hcd⟩ := h
  rw [List.length_map]
  have hc := fun g hg => h.cells (g := g) hg
  have hlt := h.lt
  rcases h.2 with ⟨rfl, h0⟩ | ⟨g, cap, cur, rfl, _⟩
  · have e : l = [] := List.eq_nil_of_length_eq_zero h0
    subst e
    exact ⟨none, 0, rfl, ProgAt.nil _ _ _⟩
  · refine ⟨_, _, rfl, fun _ => ⟨g, 0, rfl, (hlt g rfl).2, fun j hj => ?_⟩⟩
    have hj' : j < l.length := by simpa using hj
    obtain ⟨e0, e1, e2, e3⟩ := flatF_at l j hj'
    have k0 := hc g rfl _ _ e0
    have k1 := hc g rfl _ _ e1
    have k2 := hc g rfl _ _ e2
    have k3 := hc g rfl _ _ e3
    rw [addr_add] at k0 k1 k2 k3
    obtain ⟨A, c, e4, hcode⟩ := hcd _ (List.getElem_mem hj')
    rw [e4] at k3
    simp only [List.getElem_map]
    exact ⟨k0, k1, k2, A, c, k3, hcode.more hB⟩
theorem infoFq : (Tryz.prog.info? 73).map (fun i => (i.zero, i.size, i.bytes)) = some (some (.agg #[.int .i64 0, .int .i64 0, .int .i64 0, .slice none 0 0]), 4, 48) := by kernel_rfl
/-- A program appended. -/
theorem wpList_append_prog {w : World} {ops : Array Oper} {rest : List Oper} {o : Oper} {a : Act} {Q : Exit → Act → World → Prop} (t : TypeId) (ht : Tryz.prog.underlying t = some (.slice 73))
    (hg : o.guard = none) (s x : Operand) (hop : o.op = Op.call { callee := Callee.builtin Builtin.append, args := #[s, x], argTypes := #[t, t] })
    (B : Nat) (v : Value) (l : List (Fun × Value)) (hs : a.eval s = v) (own : OwnQ w B v l) {A : Option Addr} {p : List Fun} {c : Nat} (hx : a.eval x = .slice A p.length c) (hp : ProgAt w B A p)
    (h1 : 1 ≤ p.length) (hlen : l.length + p.length ≤ 1000000) (hB : B ≤ w.heap.size)
    (h : ∀ v' w' l', l'.map (·.1) = p → OwnQ w' B v' (l ++ l') → Below B w w' → wpList Tryz.prog ops Q rest (a.put o.dst v') w') : wpList Tryz.prog ops Q (o :: rest) a w := by
  obtain ⟨b, off, rfl, hbB, hf⟩ := hp (by omega)
  obtain ⟨l', e, hl, hn, ho⟩ := cells_news p w B b off hf
  obtain ⟨q, hi, hz0, hz1, hz2⟩ := info_parts infoFq
  have hpl : p.length = l'.length := by rw [← e, List.length_map]
  refine wpList_append_own _ hg s x t hop B 73 q (.agg #[.int .i64 0, .int .i64 0, .int .i64 0, .slice none 0 0]) 4 48 ht hi hz0 hz1 hz2 rfl (by decide) v l.length (flatF l) hs own.1 ⟨b, off, none⟩ p.length c
    (flatF l') hx (by rw [flatF_len, hpl]) (fun j u hj => by rw [addr_add]; exact hn j u hj) ho (by unfold maxLen; omega) (by omega) hB ?_
  intro v' w' k1 k2 _
  have hb : Below B w w' := (Below.refl B w).grown k2 hB (fun k hk => (own.1.lt k hk).1)
  refine h v' w' l' e ⟨?_, fun y hy => ?_⟩ hb
  · rw [List.length_append, ← hpl]
    have : flatF (l ++ l') = flatF l ++ flatF l' := by simp [flatF]
    rw [this]
    exact k1
  · rcases List.mem_append.1 hy with hy | hy
    · exact (own.2.below hb (Nat.le_refl _)) y hy
    · exact (hl.below hb (Nat.le_refl _)) y hy
end Go.Proofs.YtjibkgildfjjoaaGreatDoor

