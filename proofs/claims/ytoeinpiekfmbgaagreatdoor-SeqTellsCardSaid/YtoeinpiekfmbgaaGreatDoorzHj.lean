/- Own programs, and worlds that grow. -/
import Derived.Test.YtoeinpiekfmbgaaGreatDoorzGh
import Derived.Test.YtoeinpiekfmbgaaGreatDoorzHb
import Derived.Test.YtoeinpiekfmbgaaGreatDoorzGb
namespace Go.Proofs.YtoeinpiekfmbgaaGreatDoor
set_option linter.unusedVariables false
set_option linter.unusedSimpArgs false
open Go.RowKit Go.ChangeShapes Go.WideShapes Go.ChangeAt Go.Sort

theorem OwnL.made (w : World) : OwnL (w.alloc (.cells #[] 57)) w.heap.size (.slice (some ⟨w.heap.size, 0, none⟩) 0 0) [] :=
  ⟨World.ownsRow_made w #[] 0 (Nat.le_refl _) (by decide) rfl, by simp, List.Pairwise.nil⟩
/-- One function more: no old block but the row's is turned. -/
theorem wpList_append_fun2 {w : World} {ops : Array Oper} {rest : List Oper} {o : Oper} {a : Act} {Q : Exit → Act → World → Prop} (t : TypeId) (ht : Tryz.prog.underlying t = some (.slice 57))
    (hg : o.guard = none) (s x : Operand) (hop : o.op = Op.call { callee := Callee.builtin Builtin.append, args := #[s, x], argTypes := #[t, t] })
    (B : Nat) (w0 : World) (v : Value) (l : List (Fun × Value)) (f : Fun) (c : Value) (hw : w = w0.alloc (.cells #[.int .i64 f.ar, .int .i64 f.lo, .int .i64 f.sl, c] 57)) (hs : a.eval s = v) (own : OwnL w0 B v l)
    (hc : OwnC w0 B c f.code) (hd : ∀ x ∈ l, ∀ b, x.2.ownBlock = some b → c.ownBlock ≠ some b)
    (hx : a.eval x = .slice (some ⟨w0.heap.size, 0, none⟩) 1 1) (hlen : l.length ≤ 1000000) (hB : B ≤ w0.heap.size)
    (h : ∀ v' w', OwnL w' B v' (l ++ [(f, c)]) → w0.grownBy w' v.ownBlock → wpList Tryz.prog ops Q rest (a.put o.dst v') w') : wpList Tryz.prog ops Q (o :: rest) a w := by
  subst hw
  obtain ⟨q, hi, hz0, hz1, hz2⟩ := info_parts infoFn
  have own' : (w0.alloc (.cells #[.int .i64 f.ar, .int .i64 f.lo, .int .i64 f.sl, c] 57)).ownsRow B 57 4 v l.length (flatF l) := own.1.alloc _
  obtain ⟨A, cc, hce, _⟩ := hc.code
  refine wpList_append_own _ hg s x t hop B 57 q (.agg #[.int .i64 0, .int .i64 0, .int .i64 0, .slice none 0 0]) 4 48 ht hi hz0 hz1 hz2 rfl (by decide) v l.length (flatF l) hs own' ⟨w0.heap.size, 0, none⟩ 1 1
    [.int .i64 f.ar, .int .i64 f.lo, .int .i64 f.sl, c] hx rfl (World.news_of_block (heap_alloc_last w0 _)) ?_ (by unfold maxLen; omega) (by omega) (by simp; omega) ?_
  · intro u hu
    simp at hu
    rcases hu with rfl | rfl | rfl | rfl
    · rfl
    · rfl
    · rfl
    · rw [hce]; rfl
  · intro v' w' h1 h2 _
    have hg2 : w0.grownBy w' v.ownBlock := ⟨h2.os, h2.tape, h2.output, Nat.le_trans (by simp) h2.size, fun k hk hne => (h2.block k (by simp; omega) hne).trans (Below.heap_alloc w0 _ k hk)⟩
    have hcd := (own.2.snoc hc hd).grown hg2 (fun y hy => own_ne ((own.2.snoc hc hd).1 y hy) own.1)
    refine h v' w' ⟨?_, hcd⟩ hg2
    rw [flatF_snoc, List.length_append]
    exact h1
theorem OwnL.grown {w w' : World} {B : Nat} {v : Value} {l : List (Fun × Value)} {row : Option Nat} (h : OwnL w B v l) (hg : w.grownBy w' row) (hr : ∀ b, row = some b → b < B) : OwnL w' B v l := by
  refine ⟨h.1.kept hg ?_, h.2.grown hg fun x hx b hb e => ?_⟩
  · cases hv : v.ownBlock with
    | none => exact .inl rfl
    | some k =>
      refine .inr fun e => ?_
      have := (h.1.lt k hv).1
      have := hr k e.symm
      omega
  · have h1 := hr b e
    have := (h.2.1 x hx).lt b hb
    omega
theorem OwnL.two {wr u : World} {B : Nat} {p : Value} {l : List (Fun × Value)} (h : OwnL wr B p l) (hb : Below wr.heap.size wr u) (x y : Obj) : OwnL ((u.alloc x).alloc y) B p l := (h.below hb).below (below2 u x y)
theorem OwnC.two {wr u : World} {B : Nat} {p : Value} {l : List Ins} (h : OwnC u wr.heap.size p l) (hB : B ≤ wr.heap.size) (x y : Obj) : OwnC ((u.alloc x).alloc y) B p l := (h.below (below2 u x y)).mono hB
/-- A block that is no own row's, behind an append. -/
theorem Held.grown {w w' : World} {g : Nat} {t : TypeId} {cs : Array Value} {row : Option Nat} (h : Held w g t cs) (hg : w.grownBy w' row) (hr : row ≠ some g) : Held w' g t cs := (hg.block g h.lt (Ne.symm hr)).trans h
theorem Held.three {W : World} {g : Nat} {t : TypeId} {a b c : Value} (h : Held W g t #[a, b, c]) : W.cell? ⟨g, 0, none⟩ = some a ∧ W.cell? ⟨g, 1, none⟩ = some b ∧ W.cell? ⟨g, 2, none⟩ = some c ∧ W.frozen? ⟨g, 0, none⟩ = false ∧ W.frozen? ⟨g, 1, none⟩ = false ∧ W.frozen? ⟨g, 2, none⟩ = false :=
  ⟨h.cell 0, h.cell 1, h.cell 2, h.fz 0, h.fz 1, h.fz 2⟩
theorem below_set3 {w v : World} {B g : Nat} {x y z : Value} (h : Below B w v) (hg : B ≤ g) : Below B w (((v.setCell ⟨g, 0, none⟩ x).setCell ⟨g, 1, none⟩ y).setCell ⟨g, 2, none⟩ z) := ((h.setCell hg x).setCell hg y).setCell hg z
/-- The last function's cells. -/
theorem OwnL.last {w : World} {B : Nat} {v : Value} {L : List (Fun × Value)} {f : Fun} {cv : Value} (h : OwnL w B v (L ++ [(f, cv)])) :
    ∃ g cap, v = .slice (some ⟨g, 0, none⟩) (L.length + 1) cap ∧ B ≤ g ∧ g < w.heap.size ∧ w.cell? ⟨g, L.length * 4, none⟩ = some (.int .i64 f.ar) ∧ w.cell? ⟨g, L.length * 4 + 1, none⟩ = some (.int .i64 f.lo) ∧ w.cell? ⟨g, L.length * 4 + 2, none⟩ = some (.int .i64 f.sl) ∧
      w.cell? ⟨g, L.length * 4 + 3, none⟩ = some cv ∧ ∀ i, w.frozen? ⟨g, i, none⟩ = false := by
  have hcells := fun g hg => h.1.cells (g := g) hg
  have hlt := fun g hg => h.1.lt g hg
  obtain ⟨_, h2⟩ := h.1
  rw [List.length_append, List.length_singleton] at h2
  rcases h2 with ⟨_, h0⟩ | ⟨g, cap, cur, rfl, hg, hb, _⟩
  · omega
  · have hc := hcells g rfl
    have hj : L.length < (L ++ [(f, cv)]).length := by simp
    obtain ⟨e0, e1, e2, e3⟩ := flatF_at (L ++ [(f, cv)]) L.length hj
    have k0 := hc _ _ e0
    have k1 := hc _ _ e1
    have k2 := hc _ _ e2
    have k3 := hc _ _ e3
    rw [addr_add] at k0 k1 k2 k3
    simp at k0 k1 k2 k3
    exact ⟨g, cap, rfl, hg, (hlt g rfl).2, k0, k1, k2, k3, fun i => fz_at hb i⟩
theorem set_last4 (xs : List Value) (a b c d d' : Value) : (xs ++ [a, b, c, d]).set (xs.length + 3) d' = xs ++ [a, b, c, d'] := by
  induction xs with
  | nil => rfl
  | cons x xs ih =>
    simp only [List.cons_append, List.length_cons, show xs.length + 1 + 3 = (xs.length + 3) + 1 from rfl, List.set_cons_succ]
    rw [ih]
/-- The last function has a code more. -/
theorem OwnL.more {w : World} {B g cap : Nat} {L : List (Fun × Value)} {f f' : Fun} {cv cv' : Value}
    (h : w.ownsRow B 57 4 (.slice (some ⟨g, 0, none⟩) (L.length + 1) cap) (L.length + 1) (flatF (L ++ [(f, cv)]))) (hl : Codes w B L) (hc : OwnC w B cv' f'.code) (hd : ∀ x ∈ L, ∀ b, x.2.ownBlock = some b → cv'.ownBlock ≠ some b)
    (e1 : f'.ar = f.ar) (e2 : f'.lo = f.lo) (e3 : f'.sl = f.sl) :
    OwnL (w.setCell ⟨g, L.length * 4 + 3, none⟩ cv') B (.slice (some ⟨g, 0, none⟩) (L.length + 1) cap) (L ++ [(f', cv')]) := by
  have hcd := hl.snoc hc hd
  have h4 := h.stored (L.length * 4 + 3) cv'
  refine ⟨?_, ?_⟩
  · have e := h4.1
    rw [flatF_snoc, ← flatF_len L, set_last4] at e
    rw [flatF_snoc, List.length_append, ← flatF_len L, e1, e2, e3]
    exact e
  · exact hcd.grown h4.2 fun x hx b hb => own_ne (hcd.1 x hx) h b hb
theorem OwnL.cap {w : World} {B : Nat} {v : Value} {L : List (Fun × Value)} (h : OwnL w B v L) : ∃ A c, v = .slice A L.length c ∧ L.length ≤ c := by
  rcases h.1.2 with ⟨rfl, h0⟩ | ⟨g, cap, cur, rfl, _, _, hc, _⟩
  · exact ⟨none, 0, by rw [h0], by omega⟩
  · exact ⟨_, _, rfl, hc⟩

end Go.Proofs.YtoeinpiekfmbgaaGreatDoor

/- Layer 7, plain: what a line more makes of a program. -/
namespace Go.Proofs.YtoeinpiekfmbgaaGreatDoor
set_option linter.unusedVariables false
set_option linter.unusedSimpArgs false
open Go

/-- What a line more makes of a program. -/
def addQ (p : List Fun) (l : List UInt8) : Option (List Fun) := (lineOf l).bind (layL p)
theorem lineC_head {w0 : List UInt8} {ns : List Int} (hw : w0 = funcW) : lineC (w0, ns) = if ns.length = 3 ∧ headB (ns.getD 0 0) (ns.getD 1 0) (ns.getD 2 0) = true then some (.head (ns.getD 0 0) (ns.getD 1 0) (ns.getD 2 0)) else none := by
  unfold lineC
  simp only
  rw [if_pos hw]
theorem lineC_ins {w0 : List UInt8} {ns : List Int} (hw : w0 ≠ funcW) : lineC (w0, ns) = if mayZ (rfnd ⟨w0.toArray⟩) (ns.getD 0 0) (ns.getD 1 0) = true ∧ (ns.length : Int) = (rz (rfnd ⟨w0.toArray⟩)).f then some (.ins (rfnd ⟨w0.toArray⟩) (ns.getD 0 0) (ns.getD 1 0)) else none := by
  unfold lineC
  simp only
  rw [if_neg hw]
/-- A program is nothing, or has a last function. -/
theorem own_split {α : Type} (L : List α) : L = [] ∨ ∃ L0 x, L = L0 ++ [x] := by
  rcases List.eq_nil_or_concat L with h | ⟨L0, x, h⟩
  · exact .inl h
  · exact .inr ⟨L0, x, by simpa using h⟩
theorem layH_no {p : List Fun} {a l s : Int} (h : openR p = false ∨ p.length = 16) : layH p a l s = none := by
  unfold layH
  rw [if_neg]
  rintro ⟨h1, h2⟩
  rcases h with h | h
  · rw [h] at h1; cases h1
  · exact h2 h
theorem openR_snoc (p : List Fun) (f : Fun) : openR (p ++ [f]) = !f.code.isEmpty := by
  unfold openR
  rw [List.getLast?_concat]
theorem layI_snoc (p : List Fun) (f : Fun) (o a b : Int) : layI (p ++ [f]) o a b = if f.code.length = 200 then none else some (p ++ [⟨f.ar, f.lo, f.sl, f.code ++ [(o, a, b)]⟩]) := by
  unfold layI
  rw [List.getLast?_concat, List.dropLast_concat]

theorem lay_small {p q : List Fun} {x : PLine} (h : layL p x = some q) (hp : p.length ≤ 16) (hc : ∀ f ∈ p, f.code.length ≤ 200) : q.length ≤ 16 ∧ ∀ f ∈ q, f.code.length ≤ 200 := by
  cases x with
  | head a l s =>
    have h' : layH p a l s = some q := h
    unfold layH at h'
    split at h'
    · rename_i hcnd
      cases h'
      refine ⟨by rw [List.length_append, List.length_singleton]; omega, fun f hf => ?_⟩
      rcases List.mem_append.1 hf with hf | hf
      · exact hc f hf
      · simp only [List.mem_singleton] at hf
        subst hf
        simp
    · cases h'
  | ins o a b =>
    have h' : layI p o a b = some q := h
    rcases own_split p with rfl | ⟨p0, f, rfl⟩
    · cases h'
    · rw [layI_snoc] at h'
      split at h'
      · cases h'
      · rename_i h2
        cases h'
        have hf2 := hc f (by simp)
        refine ⟨by simpa using hp, fun g hg => ?_⟩
        rcases List.mem_append.1 hg with hg | hg
        · exact hc g (by simp [hg])
        · simp only [List.mem_singleton] at hg
          subst hg
          simp only [List.length_append, List.length_singleton]
          omega
theorem addQ_small {p q : List Fun} {l : List UInt8} (h : addQ p l = some q) (hp : p.length ≤ 16) (hc : ∀ f ∈ p, f.code.length ≤ 200) : q.length ≤ 16 ∧ ∀ f ∈ q, f.code.length ≤ 200 := by
  unfold addQ at h
  cases hx : lineOf l with
  | none => rw [hx] at h; cases h
  | some x => rw [hx] at h; exact lay_small h hp hc
end Go.Proofs.YtoeinpiekfmbgaaGreatDoor

