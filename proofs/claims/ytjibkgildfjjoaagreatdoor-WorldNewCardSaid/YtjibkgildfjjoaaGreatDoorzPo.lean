/- Layer 7: a call's own programs in memory. -/
import Derived.Test.YtjibkgildfjjoaaGreatDoorzPs
import Derived.Deep.AppendLies
import Derived.OwnWalk
namespace Go.Proofs.YtjibkgildfjjoaaGreatDoor
set_option linter.unusedVariables false
set_option linter.unusedSimpArgs false
open Go.RowKit Go.ChangeShapes Go.WideShapes Go.ChangeAt Go.Sort

def flatI (l : List Ins) : List Value := l.flatMap fun x => [.int .i64 x.1, .int .i64 x.2.1, .int .i64 x.2.2]
theorem flatI_len : ∀ l, (flatI l).length = l.length * 3
  | [] => rfl
  | x :: l => by
    have := flatI_len l
    unfold flatI at *
    simp only [List.flatMap_cons, List.length_append, List.length_cons, List.length_nil]
    omega
theorem flatI_snoc (l : List Ins) (x : Ins) : flatI (l ++ [x]) = flatI l ++ [.int .i64 x.1, .int .i64 x.2.1, .int .i64 x.2.2] := by simp [flatI]
theorem flatI_at : ∀ (l : List Ins) (j : Nat) (h : j < l.length), (flatI l)[j * 3]? = some (.int .i64 l[j].1) ∧ (flatI l)[j * 3 + 1]? = some (.int .i64 l[j].2.1) ∧ (flatI l)[j * 3 + 2]? = some (.int .i64 l[j].2.2)
  | x :: l, 0, _ => by simp [flatI]
  | x :: l, j + 1, h => by
    have ih := flatI_at l j (by simpa using h)
    have e : flatI (x :: l) = [.int .i64 x.1, .int .i64 x.2.1, .int .i64 x.2.2] ++ flatI l := by simp [flatI]
    have sh : ∀ k, (flatI (x :: l))[k + 3]? = (flatI l)[k]? := fun k => by rw [e, List.getElem?_append_right (by simp)]; simp
    rw [show (j + 1) * 3 = j * 3 + 3 by omega, show j * 3 + 3 + 1 = (j * 3 + 1) + 3 by omega, show j * 3 + 3 + 2 = (j * 3 + 2) + 3 by omega, sh, sh, sh]
    exact ih
/-- The call's own instructions. -/
def OwnC (w : World) (B : Nat) (v : Value) (l : List Ins) : Prop := w.ownsRow B 115 3 v l.length (flatI l)
theorem OwnC.nil (w : World) (B : Nat) : OwnC w B (.slice none 0 0) [] := World.ownsRow_nil _ _ _ _
theorem OwnC.code {w : World} {B : Nat} {v : Value} {l : List Ins} (h : OwnC w B v l) : ∃ A c, v = .slice A l.length c ∧ CodeAt w w.heap.size A l := by
  unfold OwnC at h
  have hc := fun g hg => h.cells (g := g) hg
  have hlt := h.lt
  rcases h.2 with ⟨rfl, h0⟩ | ⟨g, cap, cur, rfl, _⟩
  · have e : l = [] := List.eq_nil_of_length_eq_zero h0
    subst e
    exact ⟨none, 0, rfl, CodeAt.nil _ _ _⟩
  · refine ⟨_, _, rfl, fun _ => ⟨g, 0, rfl, (hlt g rfl).2, fun j hj => ?_⟩⟩
    obtain ⟨e0, e1, e2⟩ := flatI_at l j hj
    have k0 := hc g rfl _ _ e0
    have k1 := hc g rfl _ _ e1
    have k2 := hc g rfl _ _ e2
    rw [addr_add] at k0 k1 k2
    exact ⟨k0, k1, k2⟩
theorem OwnC.mono {w : World} {B C : Nat} {v : Value} {l : List Ins} (h : OwnC w B v l) (hC : C ≤ B) : OwnC w C v l := by
  unfold OwnC at *
  exact ⟨h.1, h.2.imp id fun ⟨g, cap, cur, e, hb, r⟩ => ⟨g, cap, cur, e, Nat.le_trans hC hb, r⟩⟩
/-- Where no block is turned but that of a row that lies elsewhere. -/
theorem OwnC.grown {w w' : World} {B : Nat} {v : Value} {l : List Ins} {row : Option Nat} (h : OwnC w B v l) (hg : w.grownBy w' row) (hne : ∀ b, v.ownBlock = some b → row ≠ some b) : OwnC w' B v l := by
  unfold OwnC at *
  refine h.kept hg ?_
  cases hv : v.ownBlock with
  | none => exact .inl rfl
  | some b => exact .inr (Ne.symm (hne b hv))
theorem OwnC.below {w w' : World} {B : Nat} {v : Value} {l : List Ins} (h : OwnC w B v l) (hb : Below w.heap.size w w') : OwnC w' B v l :=
  h.grown (row := none) ⟨hb.os, hb.tape, hb.output, hb.size, fun k hk _ => hb.block k hk⟩ (fun _ _ => by simp)
theorem infoIn : (Tryz.prog.info? 115).map (fun i => (i.zero, i.size, i.bytes)) = some (some (.agg #[.int .i64 0, .int .i64 0, .int .i64 0]), 3, 24) := by kernel_rfl

/-- One instruction more. -/
theorem wpList_append_ins {w : World} {ops : Array Oper} {rest : List Oper} {o : Oper} {a : Act} {Q : Exit → Act → World → Prop}
    (hg : o.guard = none) (s x : Operand) (hop : o.op = Op.call { callee := Callee.builtin Builtin.append, args := #[s, x], argTypes := #[71, 71] })
    (B : Nat) (w0 : World) (v : Value) (l : List Ins) (i : Ins) (hw : w = w0.alloc (.cells #[.int .i64 i.1, .int .i64 i.2.1, .int .i64 i.2.2] 115)) (hs : a.eval s = v) (own : OwnC w0 B v l)
    (hx : a.eval x = .slice (some ⟨w0.heap.size, 0, none⟩) 1 1) (hlen : l.length ≤ 1000000) (hB : B ≤ w0.heap.size)
    (h : ∀ v' w', OwnC w' B v' (l ++ [i]) → w0.grownBy w' v.ownBlock → (∀ b, v'.ownBlock = some b → v.ownBlock = some b ∨ w0.heap.size ≤ b) → wpList Tryz.prog ops Q rest (a.put o.dst v') w') : wpList Tryz.prog ops Q (o :: rest) a w := by
  subst hw
  obtain ⟨q, hi, hz0, hz1, hz2⟩ := info_parts infoIn
  have own' : (w0.alloc (.cells #[.int .i64 i.1, .int .i64 i.2.1, .int .i64 i.2.2] 115)).ownsRow B 115 3 v l.length (flatI l) := own.alloc _
  refine wpList_append_lies _ hg s x 71 hop B 115 q (.agg #[.int .i64 0, .int .i64 0, .int .i64 0]) 3 24 Tryz.underlying71 hi hz0 hz1 hz2 rfl (by decide) v l.length (flatI l) hs own' ⟨w0.heap.size, 0, none⟩ 1 1
    [.int .i64 i.1, .int .i64 i.2.1, .int .i64 i.2.2] hx rfl (World.news_of_block (heap_alloc_last w0 _)) ?_ (by decide) (by unfold maxLen; omega) (by omega) (by simp; omega) _ rfl ?_
  · intro u hu
    simp at hu
    rcases hu with rfl | rfl | rfl <;> rfl
  · intro g cap w' h1 h2 h3 h4
    refine h _ w' ?_ ?_ ?_
    · unfold OwnC
      rw [flatI_snoc, List.length_append]
      exact h1
    · exact ⟨h2.os, h2.tape, h2.output, Nat.le_trans (by simp) h2.size, fun k hk hne => (h2.block k (by simp; omega) hne).trans (Below.heap_alloc w0 _ k hk)⟩
    · intro b hb
      simp only [Value.ownBlock, Option.some.injEq] at hb
      subst hb
      rcases h3 with h3 | h3
      · exact .inl h3
      · exact .inr (by rw [h3]; simp)

def flatF (l : List (Fun × Value)) : List Value := l.flatMap fun x => [.int .i64 x.1.ar, .int .i64 x.1.lo, .int .i64 x.1.sl, x.2]
theorem flatF_snoc (l : List (Fun × Value)) (x : Fun × Value) : flatF (l ++ [x]) = flatF l ++ [.int .i64 x.1.ar, .int .i64 x.1.lo, .int .i64 x.1.sl, x.2] := by simp [flatF]
theorem flatF_len : ∀ l, (flatF l).length = l.length * 4
  | [] => rfl
  | x :: l => by
    have := flatF_len l
    unfold flatF at *
    simp only [List.flatMap_cons, List.length_append, List.length_cons, List.length_nil]
    omega
theorem flatF_at : ∀ (l : List (Fun × Value)) (j : Nat) (h : j < l.length), (flatF l)[j * 4]? = some (.int .i64 l[j].1.ar) ∧ (flatF l)[j * 4 + 1]? = some (.int .i64 l[j].1.lo) ∧ (flatF l)[j * 4 + 2]? = some (.int .i64 l[j].1.sl) ∧ (flatF l)[j * 4 + 3]? = some l[j].2
  | x :: l, 0, _ => by simp [flatF]
  | x :: l, j + 1, h => by
    have ih := flatF_at l j (by simpa using h)
    have e : flatF (x :: l) = [.int .i64 x.1.ar, .int .i64 x.1.lo, .int .i64 x.1.sl, x.2] ++ flatF l := by simp [flatF]
    have sh : ∀ k, (flatF (x :: l))[k + 4]? = (flatF l)[k]? := fun k => by rw [e, List.getElem?_append_right (by simp)]; simp
    rw [show (j + 1) * 4 = j * 4 + 4 by omega, show j * 4 + 4 + 1 = (j * 4 + 1) + 4 by omega, show j * 4 + 4 + 2 = (j * 4 + 2) + 4 by omega, show j * 4 + 4 + 3 = (j * 4 + 3) + 4 by omega, sh, sh, sh, sh]
    exact ih
/-- Codes of one's own, each in a block that is no other one's. -/
def Codes (w : World) (B : Nat) (l : List (Fun × Value)) : Prop := (∀ x ∈ l, OwnC w B x.2 x.1.code) ∧ l.Pairwise fun x y => ∀ b, x.2.ownBlock = some b → y.2.ownBlock ≠ some b
/-- The call's own program: l: its functions, each with the value of its code. -/
def OwnL (w : World) (B : Nat) (v : Value) (l : List (Fun × Value)) : Prop := w.ownsRow B 73 4 v l.length (flatF l) ∧ Codes w B l
def OwnP (w : World) (B : Nat) (v : Value) (p : List Fun) : Prop := ∃ l, l.map (·.1) = p ∧ OwnL w B v l
theorem OwnL.nil (w : World) (B : Nat) : OwnL w B (.slice none 0 0) [] := ⟨World.ownsRow_nil _ _ _ _, by simp, List.Pairwise.nil⟩
theorem OwnP.nil (w : World) (B : Nat) : OwnP w B (.slice none 0 0) [] := ⟨[], rfl, OwnL.nil w B⟩
theorem OwnP.made (w : World) : OwnP (w.alloc (.cells #[] 73)) w.heap.size (.slice (some ⟨w.heap.size, 0, none⟩) 0 0) [] :=
  ⟨[], rfl, World.ownsRow_made w #[] 0 (Nat.le_refl _) (by decide) rfl, by simp, List.Pairwise.nil⟩
theorem OwnL.prog {w : World} {B : Nat} {v : Value} {l : List (Fun × Value)} (h : OwnL w B v l) : ∃ A c, v = .slice A l.length c ∧ ProgAt w w.heap.size A (l.map (·.1)) := by
  obtain ⟨h, hcd, _⟩ := h
  have hc := fun g hg => h.cells (g := g) hg
  have hlt := h.lt
  rcases h.2 with ⟨rfl, h0⟩ | ⟨g, cap, cur, rfl, _⟩
  · have e : l = [] := List.eq_nil_of_length_eq_zero h0
    subst e
    exact ⟨none, 0, rfl, ProgAt.nil _ _ _⟩
  · refine ⟨_, _, rfl, fun _ => ⟨g, 0, rfl, (hlt g rfl).2, fun j hj => ?_⟩⟩
    have hj' : j < l.length := by simpa using hj
    obtain ⟨e0, e1, e2, e3⟩ := flatF_at l j hj'
    have k0 := hc g rfl _ _ e0
    have k1 := hc g rfl _ _ e1
    have k2 := hc g rfl _ _ e2
    have k3 := hc g rfl _ _ e3
    rw [addr_add] at k0 k1 k2 k3
    obtain ⟨A, c, e4, hcode⟩ := (hcd _ (List.getElem_mem hj')).code
    rw [e4] at k3
    simp only [List.getElem_map]
    exact ⟨k0, k1, k2, A, c, k3, hcode⟩
theorem OwnP.prog {w : World} {B : Nat} {v : Value} {p : List Fun} (h : OwnP w B v p) : ∃ A c, v = .slice A p.length c ∧ ProgAt w w.heap.size A p := by
  obtain ⟨l, rfl, h⟩ := h
  obtain ⟨A, c, e, h⟩ := h.prog
  exact ⟨A, c, by rw [e, List.length_map], h⟩
theorem Codes.below {w w' : World} {B : Nat} {l : List (Fun × Value)} (h : Codes w B l) (hb : Below w.heap.size w w') : Codes w' B l := ⟨fun x hx => (h.1 x hx).below hb, h.2⟩
theorem OwnL.below {w w' : World} {B : Nat} {v : Value} {l : List (Fun × Value)} (h : OwnL w B v l) (hb : Below w.heap.size w w') : OwnL w' B v l := by
  refine ⟨h.1.kept (row := none) ⟨hb.os, hb.tape, hb.output, hb.size, fun k hk _ => hb.block k hk⟩ ?_, h.2.below hb⟩
  cases hv : v.ownBlock with
  | none => exact .inl rfl
  | some k => exact .inr (by simp)
theorem OwnP.below {w w' : World} {B : Nat} {v : Value} {p : List Fun} (h : OwnP w B v p) (hb : Below w.heap.size w w') : OwnP w' B v p := by
  obtain ⟨l, e, h⟩ := h
  exact ⟨l, e, h.below hb⟩
end Go.Proofs.YtjibkgildfjjoaaGreatDoor

