/- Layer 7: programs in memory; arguments that are programs, opened. -/
import Derived.Test.YtoeinpiekfmbgaaGreatDoorRows
import Derived.Test.YtoeinpiekfmbgaaGreatDoorzGc
import Derived.Test.YtoeinpiekfmbgaaGreatDoorzGb
import Derived.Deep.SlicePairs
import Derived.Lib.SmallJoins
import Derived.Laws.Rows
import Derived.Deep.AppendLies
import Derived.OwnWalk
import Derived.Laws.OwnMore
namespace Go.Proofs.YtoeinpiekfmbgaaGreatDoor
set_option linter.unusedVariables false
set_option linter.unusedSimpArgs false
open Go.RowKit Go.ChangeShapes Go.WideShapes Go.ChangeAt Go.Deep Go.Joins

abbrev Ins := Int × Int × Int
/-- The slice at A holds these instructions, below block B. -/
def CodeAt (w : World) (B : Nat) (A : Option Addr) (l : List Ins) : Prop :=
  0 < l.length → ∃ b off, A = some ⟨b, off, none⟩ ∧ b < B ∧ ∀ j (h : j < l.length), w.cell? ⟨b, off + j * 3, none⟩ = some (.int .i64 l[j].1) ∧ w.cell? ⟨b, off + j * 3 + 1, none⟩ = some (.int .i64 l[j].2.1) ∧ w.cell? ⟨b, off + j * 3 + 2, none⟩ = some (.int .i64 l[j].2.2)
/-- A function at a place. -/
def FunAt (w : World) (B b off : Nat) (f : Fun) : Prop :=
  w.cell? ⟨b, off, none⟩ = some (.int .i64 f.ar) ∧ w.cell? ⟨b, off + 1, none⟩ = some (.int .i64 f.lo) ∧ w.cell? ⟨b, off + 2, none⟩ = some (.int .i64 f.sl) ∧
  ∃ A c, w.cell? ⟨b, off + 3, none⟩ = some (.slice A f.code.length c) ∧ CodeAt w B A f.code
/-- The slice at A holds this program, below block B. -/
def ProgAt (w : World) (B : Nat) (A : Option Addr) (p : List Fun) : Prop :=
  0 < p.length → ∃ b off, A = some ⟨b, off, none⟩ ∧ b < B ∧ ∀ j (h : j < p.length), FunAt w B b (off + j * 4) p[j]
theorem CodeAt.below {w w' : World} {B : Nat} {A : Option Addr} {l : List Ins} (h : CodeAt w B A l) {C : Nat} (hb : Below C w w') (hC : B ≤ C) : CodeAt w' B A l := fun h0 => by
  obtain ⟨b, off, e, hlt, hc⟩ := h h0
  refine ⟨b, off, e, hlt, fun j hj => ⟨?_, ?_, ?_⟩⟩
  · exact (hb.cell (p := ⟨b, off + j * 3, none⟩) (by show b < C; omega)).trans (hc j hj).1
  · exact (hb.cell (p := ⟨b, off + j * 3 + 1, none⟩) (by show b < C; omega)).trans (hc j hj).2.1
  · exact (hb.cell (p := ⟨b, off + j * 3 + 2, none⟩) (by show b < C; omega)).trans (hc j hj).2.2
theorem FunAt.below {w w' : World} {B b off : Nat} {f : Fun} (h : FunAt w B b off f) {C : Nat} (hb : Below C w w') (hC : B ≤ C) (hlt : b < C) : FunAt w' B b off f := by
  obtain ⟨h0, h1, h2, A, c, h3, h4⟩ := h
  refine ⟨?_, ?_, ?_, A, c, ?_, h4.below hb hC⟩
  · exact (hb.cell (p := ⟨b, off, none⟩) hlt).trans h0
  · exact (hb.cell (p := ⟨b, off + 1, none⟩) hlt).trans h1
  · exact (hb.cell (p := ⟨b, off + 2, none⟩) hlt).trans h2
  · exact (hb.cell (p := ⟨b, off + 3, none⟩) hlt).trans h3
theorem ProgAt.below {w w' : World} {B : Nat} {A : Option Addr} {p : List Fun} (h : ProgAt w B A p) {C : Nat} (hb : Below C w w') (hC : B ≤ C) : ProgAt w' B A p := fun h0 => by
  obtain ⟨b, off, e, hlt, hc⟩ := h h0
  exact ⟨b, off, e, hlt, fun j hj => (hc j hj).below hb hC (by omega)⟩
theorem CodeAt.more {w : World} {B C : Nat} {A : Option Addr} {l : List Ins} (h : CodeAt w B A l) (hC : B ≤ C) : CodeAt w C A l := fun h0 => by
  obtain ⟨b, off, e, hlt, hc⟩ := h h0
  exact ⟨b, off, e, by omega, hc⟩
theorem FunAt.more {w : World} {B C b off : Nat} {f : Fun} (h : FunAt w B b off f) (hC : B ≤ C) : FunAt w C b off f := by
  obtain ⟨h0, h1, h2, A, c, h3, h4⟩ := h
  exact ⟨h0, h1, h2, A, c, h3, h4.more hC⟩
theorem ProgAt.more {w : World} {B C : Nat} {A : Option Addr} {p : List Fun} (h : ProgAt w B A p) (hC : B ≤ C) : ProgAt w C A p := fun h0 => by
  obtain ⟨b, off, e, hlt, hc⟩ := h h0
  exact ⟨b, off, e, by omega, fun j hj => (hc j hj).more hC⟩
theorem ProgAt.nil (w : World) (B : Nat) (A : Option Addr) : ProgAt w B A [] := fun h => absurd h (by simp)
theorem CodeAt.nil (w : World) (B : Nat) (A : Option Addr) : CodeAt w B A [] := fun h => absurd h (by simp)
/-- What a walk may know of a program's sizes. -/
def SizedP (p : List Fun) : Prop := p.length ≤ maxLen ∧ ∀ f ∈ p, f.code.length ≤ maxLen

theorem addr_add (b off n : Nat) : (⟨b, off, none⟩ : Addr).add n = ⟨b, off + n, none⟩ := by unfold Addr.add; split <;> simp [*]

set_option maxRecDepth 100000 in
theorem open_code {H : Type} {enc : TypeId × Value → H} {W : World} {base : Nat} {sp : Nat → Bool} {hd : Bool} {fuel : Nat} {cs : List Value} {x : DataW H × List MemPlace}
    (h : DataW.trod enc Tryz.prog W base sp hd fuel 55 cs = some x) : ∃ A c l, cs = [.slice A l.length c] ∧ CodeAt W W.heap.size A l ∧ l.length ≤ maxLen := by
  rcases open_slice Tryz.underlying55 h with ⟨rfl, _⟩ | ⟨a, len, cap, m, n, D, Pl, rfl, _, hl, hm, hmm, rfl, hx⟩
  · exact ⟨none, 0, [], rfl, CodeAt.nil _ _ _, by simp⟩
  · have hlm : len ≤ m := by rw [hmm]; split <;> omega
    have ce : Tryz.prog.cellsOf 92 = 3 := by kernel_rfl
    have each : ∀ i, i < len → ∃ q : Ins, W.cell? (a.add (i * 3)) = some (.int .i64 q.1) ∧ W.cell? (a.add (i * 3 + 1)) = some (.int .i64 q.2.1) ∧ W.cell? (a.add (i * 3 + 2)) = some (.int .i64 q.2.2) := by
      intro i hi
      obtain ⟨cs', h1, h2⟩ := hx i (by omega)
      rw [ce] at h1
      obtain ⟨_, hlen, hcell⟩ := World.cells?_some h1
      obtain ⟨y0, y1, y2, k, _, _, g0, g1, g2⟩ := trod_struct3 Tryz.underlying92 h2
      match cs', hlen with
      | [v0, v1, v2], _ =>
        have ci : Tryz.prog.cellsOf 3 = 1 := by kernel_rfl
        simp [ci] at g0 g1 g2
        obtain ⟨n0, e0, _, _⟩ := DataW.trod_int Tryz.underlying3 g0
        obtain ⟨n1, e1, _, _⟩ := DataW.trod_int Tryz.underlying3 g1
        obtain ⟨n2, e2, _, _⟩ := DataW.trod_int Tryz.underlying3 g2
        simp at e0 e1 e2
        subst e0 e1 e2
        have c0 := hcell 0 (by omega)
        have c1 := hcell 1 (by omega)
        have c2 := hcell 2 (by omega)
        rw [add_add] at c0 c1 c2
        exact ⟨(n0, n1, n2), by simpa using c0, by simpa using c1, by simpa using c2⟩
    obtain ⟨q, hq⟩ := choose_lt each
    refine ⟨some a, cap, (List.range len).map q, by simp, fun h0 => ?_, by simp; omega⟩
    have hlen : 0 < len := by simpa using h0
    obtain ⟨b, off, spot⟩ := a
    have hspot : spot = none := by simpa [Addr.add] using World.cell?_spot (hq 0 hlen).1
    subst hspot
    refine ⟨b, off, rfl, block_lt_of_cell (a := Addr.add ⟨b, off, none⟩ (0 * 3)) (hq 0 hlen).1, fun j hj => ?_⟩
    have hj' : j < len := by simpa using hj
    obtain ⟨c0, c1, c2⟩ := hq j hj'
    rw [addr_add] at c0 c1 c2
    simp only [List.getElem_map, List.getElem_range]
    exact ⟨c0, c1, c2⟩

instance : Inhabited Fun := ⟨⟨0, 0, 0, []⟩⟩
end Go.Proofs.YtoeinpiekfmbgaaGreatDoor

/- Layer 7: a call's own programs in memory. -/
namespace Go.Proofs.YtoeinpiekfmbgaaGreatDoor
set_option linter.unusedVariables false
set_option linter.unusedSimpArgs false
open Go.RowKit Go.ChangeShapes Go.WideShapes Go.ChangeAt Go.Sort

def flatI (l : List Ins) : List Value := l.flatMap fun x => [.int .i64 x.1, .int .i64 x.2.1, .int .i64 x.2.2]
theorem flatI_snoc (l : List Ins) (x : Ins) : flatI (l ++ [x]) = flatI l ++ [.int .i64 x.1, .int .i64 x.2.1, .int .i64 x.2.2] := by simp [flatI]
theorem flatI_at : ∀ (l : List Ins) (j : Nat) (h : j < l.length), (flatI l)[j * 3]? = some (.int .i64 l[j].1) ∧ (flatI l)[j * 3 + 1]? = some (.int .i64 l[j].2.1) ∧ (flatI l)[j * 3 + 2]? = some (.int .i64 l[j].2.2)
  | x :: l, 0, _ => by simp [flatI]
  | x :: l, j + 1, h => by
    have ih := flatI_at l j (by simpa using h)
    have e : flatI (x :: l) = [.int .i64 x.1, .int .i64 x.2.1, .int .i64 x.2.2] ++ flatI l := by simp [flatI]
    have sh : ∀ k, (flatI (x :: l))[k + 3]? = (flatI l)[k]? := fun k => by rw [e, List.getElem?_append_right (by simp)]; simp
    rw [show (j + 1) * 3 = j * 3 + 3 by omega, show j * 3 + 3 + 1 = (j * 3 + 1) + 3 by omega, show j * 3 + 3 + 2 = (j * 3 + 2) + 3 by omega, sh, sh, sh]
    exact ih
/-- The call's own instructions. -/
def OwnC (w : World) (B : Nat) (v : Value) (l : List Ins) : Prop := w.ownsRow B 92 3 v l.length (flatI l)
theorem OwnC.nil (w : World) (B : Nat) : OwnC w B (.slice none 0 0) [] := World.ownsRow_nil _ _ _ _
theorem OwnC.code {w : World} {B : Nat} {v : Value} {l : List Ins} (h : OwnC w B v l) : ∃ A c, v = .slice A l.length c ∧ CodeAt w w.heap.size A l := by
  unfold OwnC at h
  have hc := fun g hg => h.cells (g := g) hg
  have hlt := h.lt
  rcases h.2 with ⟨rfl, h0⟩ | ⟨g, cap, cur, rfl, _⟩
  · have e : l = [] := List.eq_nil_of_length_eq_zero h0
    subst e
    exact ⟨none, 0, rfl, CodeAt.nil _ _ _⟩
  · refine ⟨_, _, rfl, fun _ => ⟨g, 0, rfl, (hlt g rfl).2, fun j hj => ?_⟩⟩
    obtain ⟨e0, e1, e2⟩ := flatI_at l j hj
    have k0 := hc g rfl _ _ e0
    have k1 := hc g rfl _ _ e1
    have k2 := hc g rfl _ _ e2
    rw [addr_add] at k0 k1 k2
    exact ⟨k0, k1, k2⟩
theorem OwnC.mono {w : World} {B C : Nat} {v : Value} {l : List Ins} (h : OwnC w B v l) (hC : C ≤ B) : OwnC w C v l := by
  unfold OwnC at *
  exact ⟨h.1, h.2.imp id fun ⟨g, cap, cur, e, hb, r⟩ => ⟨g, cap, cur, e, Nat.le_trans hC hb, r⟩⟩
/-- Where no block is turned but that of a row that lies elsewhere. -/
theorem OwnC.grown {w w' : World} {B : Nat} {v : Value} {l : List Ins} {row : Option Nat} (h : OwnC w B v l) (hg : w.grownBy w' row) (hne : ∀ b, v.ownBlock = some b → row ≠ some b) : OwnC w' B v l := by
  unfold OwnC at *
  refine h.kept hg ?_
  cases hv : v.ownBlock with
  | none => exact .inl rfl
  | some b => exact .inr (Ne.symm (hne b hv))
theorem OwnC.below {w w' : World} {B : Nat} {v : Value} {l : List Ins} (h : OwnC w B v l) (hb : Below w.heap.size w w') : OwnC w' B v l :=
  h.grown (row := none) ⟨hb.os, hb.tape, hb.output, hb.size, fun k hk _ => hb.block k hk⟩ (fun _ _ => by simp)
theorem infoIn : (Tryz.prog.info? 92).map (fun i => (i.zero, i.size, i.bytes)) = some (some (.agg #[.int .i64 0, .int .i64 0, .int .i64 0]), 3, 24) := by kernel_rfl

/-- One instruction more. -/
theorem wpList_append_ins {w : World} {ops : Array Oper} {rest : List Oper} {o : Oper} {a : Act} {Q : Exit → Act → World → Prop}
    (hg : o.guard = none) (s x : Operand) (hop : o.op = Op.call { callee := Callee.builtin Builtin.append, args := #[s, x], argTypes := #[55, 55] })
    (B : Nat) (w0 : World) (v : Value) (l : List Ins) (i : Ins) (hw : w = w0.alloc (.cells #[.int .i64 i.1, .int .i64 i.2.1, .int .i64 i.2.2] 92)) (hs : a.eval s = v) (own : OwnC w0 B v l)
    (hx : a.eval x = .slice (some ⟨w0.heap.size, 0, none⟩) 1 1) (hlen : l.length ≤ 1000000) (hB : B ≤ w0.heap.size)
    (h : ∀ v' w', OwnC w' B v' (l ++ [i]) → w0.grownBy w' v.ownBlock → (∀ b, v'.ownBlock = some b → v.ownBlock = some b ∨ w0.heap.size ≤ b) → wpList Tryz.prog ops Q rest (a.put o.dst v') w') : wpList Tryz.prog ops Q (o :: rest) a w := by
  subst hw
  obtain ⟨q, hi, hz0, hz1, hz2⟩ := info_parts infoIn
  have own' : (w0.alloc (.cells #[.int .i64 i.1, .int .i64 i.2.1, .int .i64 i.2.2] 92)).ownsRow B 92 3 v l.length (flatI l) := own.alloc _
  refine wpList_append_lies _ hg s x 55 hop B 92 q (.agg #[.int .i64 0, .int .i64 0, .int .i64 0]) 3 24 Tryz.underlying55 hi hz0 hz1 hz2 rfl (by decide) v l.length (flatI l) hs own' ⟨w0.heap.size, 0, none⟩ 1 1
    [.int .i64 i.1, .int .i64 i.2.1, .int .i64 i.2.2] hx rfl (World.news_of_block (heap_alloc_last w0 _)) ?_ (by decide) (by unfold maxLen; omega) (by omega) (by simp; omega) _ rfl ?_
  · intro u hu
    simp at hu
    rcases hu with rfl | rfl | rfl <;> rfl
  · intro g cap w' h1 h2 h3 h4
    refine h _ w' ?_ ?_ ?_
    · unfold OwnC
      rw [flatI_snoc, List.length_append]
      exact h1
    · exact ⟨h2.os, h2.tape, h2.output, Nat.le_trans (by simp) h2.size, fun k hk hne => (h2.block k (by simp; omega) hne).trans (Below.heap_alloc w0 _ k hk)⟩
    · intro b hb
      simp only [Value.ownBlock, Option.some.injEq] at hb
      subst hb
      rcases h3 with h3 | h3
      · exact .inl h3
      · exact .inr (by rw [h3]; simp)

def flatF (l : List (Fun × Value)) : List Value := l.flatMap fun x => [.int .i64 x.1.ar, .int .i64 x.1.lo, .int .i64 x.1.sl, x.2]
theorem flatF_snoc (l : List (Fun × Value)) (x : Fun × Value) : flatF (l ++ [x]) = flatF l ++ [.int .i64 x.1.ar, .int .i64 x.1.lo, .int .i64 x.1.sl, x.2] := by simp [flatF]
theorem flatF_len : ∀ l, (flatF l).length = l.length * 4
  | [] => rfl
  | x :: l => by
    have := flatF_len l
    unfold flatF at *
    simp only [List.flatMap_cons, List.length_append, List.length_cons, List.length_nil]
    omega
theorem flatF_at : ∀ (l : List (Fun × Value)) (j : Nat) (h : j < l.length), (flatF l)[j * 4]? = some (.int .i64 l[j].1.ar) ∧ (flatF l)[j * 4 + 1]? = some (.int .i64 l[j].1.lo) ∧ (flatF l)[j * 4 + 2]? = some (.int .i64 l[j].1.sl) ∧ (flatF l)[j * 4 + 3]? = some l[j].2
  | x :: l, 0, _ => by simp [flatF]
  | x :: l, j + 1, h => by
    have ih := flatF_at l j (by simpa using h)
    have e : flatF (x :: l) = [.int .i64 x.1.ar, .int .i64 x.1.lo, .int .i64 x.1.sl, x.2] ++ flatF l := by simp [flatF]
    have sh : ∀ k, (flatF (x :: l))[k + 4]? = (flatF l)[k]? := fun k => by rw [e, List.getElem?_append_right (by simp)]; simp
    rw [show (j + 1) * 4 = j * 4 + 4 by omega, show j * 4 + 4 + 1 = (j * 4 + 1) + 4 by omega, show j * 4 + 4 + 2 = (j * 4 + 2) + 4 by omega, show j * 4 + 4 + 3 = (j * 4 + 3) + 4 by omega, sh, sh, sh, sh]
    exact ih
/-- Codes of one's own, each in a block that is no other one's. -/
def Codes (w : World) (B : Nat) (l : List (Fun × Value)) : Prop := (∀ x ∈ l, OwnC w B x.2 x.1.code) ∧ l.Pairwise fun x y => ∀ b, x.2.ownBlock = some b → y.2.ownBlock ≠ some b
/-- The call's own program: l: its functions, each with the value of its code. -/
def OwnL (w : World) (B : Nat) (v : Value) (l : List (Fun × Value)) : Prop := w.ownsRow B 57 4 v l.length (flatF l) ∧ Codes w B l
def OwnP (w : World) (B : Nat) (v : Value) (p : List Fun) : Prop := ∃ l, l.map (·.1) = p ∧ OwnL w B v l
theorem OwnL.nil (w : World) (B : Nat) : OwnL w B (.slice none 0 0) [] := ⟨World.ownsRow_nil _ _ _ _, by simp, List.Pairwise.nil⟩
theorem OwnP.nil (w : World) (B : Nat) : OwnP w B (.slice none 0 0) [] := ⟨[], rfl, OwnL.nil w B⟩
theorem OwnP.made (w : World) : OwnP (w.alloc (.cells #[] 57)) w.heap.size (.slice (some ⟨w.heap.size, 0, none⟩) 0 0) [] :=
  ⟨[], rfl, World.ownsRow_made w #[] 0 (Nat.le_refl _) (by decide) rfl, by simp, List.Pairwise.nil⟩
theorem OwnL.prog {w : World} {B : Nat} {v : Value} {l : List (Fun × Value)} (h : OwnL w B v l) : ∃ A c, v = .slice A l.length c ∧ ProgAt w w.heap.size A (l.map (·.1)) := by
  obtain ⟨h, hcd, _⟩ := h
  have hc := fun g hg => h.cells (g := g) hg
  have hlt := h.lt
  rcases h.2 with ⟨rfl, h0⟩ | ⟨g, cap, cur, rfl, _⟩
  · have e : l = [] := List.eq_nil_of_length_eq_zero h0
    subst e
    exact ⟨none, 0, rfl, ProgAt.nil _ _ _⟩
  · refine ⟨_, _, rfl, fun _ => ⟨g, 0, rfl, (hlt g rfl).2, fun j hj => ?_⟩⟩
    have hj' : j < l.length := by simpa using hj
    obtain ⟨e0, e1, e2, e3⟩ := flatF_at l j hj'
    have k0 := hc g rfl _ _ e0
    have k1 := hc g rfl _ _ e1
    have k2 := hc g rfl _ _ e2
    have k3 := hc g rfl _ _ e3
    rw [addr_add] at k0 k1 k2 k3
    obtain ⟨A, c, e4, hcode⟩ := (hcd _ (List.getElem_mem hj')).code
    rw [e4] at k3
    simp only [List.getElem_map]
    exact ⟨k0, k1, k2, A, c, k3, hcode⟩
theorem OwnP.prog {w : World} {B : Nat} {v : Value} {p : List Fun} (h : OwnP w B v p) : ∃ A c, v = .slice A p.length c ∧ ProgAt w w.heap.size A p := by
  obtain ⟨l, rfl, h⟩ := h
  obtain ⟨A, c, e, h⟩ := h.prog
  exact ⟨A, c, by rw [e, List.length_map], h⟩
theorem Codes.below {w w' : World} {B : Nat} {l : List (Fun × Value)} (h : Codes w B l) (hb : Below w.heap.size w w') : Codes w' B l := ⟨fun x hx => (h.1 x hx).below hb, h.2⟩
theorem OwnL.below {w w' : World} {B : Nat} {v : Value} {l : List (Fun × Value)} (h : OwnL w B v l) (hb : Below w.heap.size w w') : OwnL w' B v l := by
  refine ⟨h.1.kept (row := none) ⟨hb.os, hb.tape, hb.output, hb.size, fun k hk _ => hb.block k hk⟩ ?_, h.2.below hb⟩
  cases hv : v.ownBlock with
  | none => exact .inl rfl
  | some k => exact .inr (by simp)
theorem OwnP.below {w w' : World} {B : Nat} {v : Value} {p : List Fun} (h : OwnP w B v p) (hb : Below w.heap.size w w') : OwnP w' B v p := by
  obtain ⟨l, e, h⟩ := h
  exact ⟨l, e, h.below hb⟩
end Go.Proofs.YtoeinpiekfmbgaaGreatDoor

/- Layer 7: a call's own program, a function more, and its last function another one. -/
namespace Go.Proofs.YtoeinpiekfmbgaaGreatDoor
set_option linter.unusedVariables false
set_option linter.unusedSimpArgs false
open Go.RowKit Go.ChangeShapes Go.WideShapes Go.ChangeAt Go.Sort

theorem infoFn : (Tryz.prog.info? 57).map (fun i => (i.zero, i.size, i.bytes)) = some (some (.agg #[.int .i64 0, .int .i64 0, .int .i64 0, .slice none 0 0]), 4, 48) := by kernel_rfl
/-- A row of functions is no row of instructions. -/
theorem own_ne {w : World} {B C : Nat} {c v : Value} {l : List Ins} {n : Nat} {xs : List Value} (hc : OwnC w C c l) (h : w.ownsRow B 57 4 v n xs) : ∀ b, c.ownBlock = some b → v.ownBlock ≠ some b := by
  intro b hb hv
  unfold OwnC at hc
  rcases hc.2 with ⟨rfl, _⟩ | ⟨g, cap, cur, rfl, _, h1, _⟩
  · simp [Value.ownBlock] at hb
  · rcases h.2 with ⟨rfl, _⟩ | ⟨g', cap', cur', rfl, _, h2, _⟩
    · simp [Value.ownBlock] at hv
    · simp only [Value.ownBlock, Option.some.injEq] at hb hv
      subst hb
      rw [hv] at h2
      rw [h1] at h2
      simp at h2
theorem Codes.grown {w w' : World} {B : Nat} {l : List (Fun × Value)} {row : Option Nat} (h : Codes w B l) (hg : w.grownBy w' row) (hne : ∀ x ∈ l, ∀ b, x.2.ownBlock = some b → row ≠ some b) : Codes w' B l :=
  ⟨fun x hx => (h.1 x hx).grown hg (hne x hx), h.2⟩
theorem Codes.snoc {w : World} {B : Nat} {l : List (Fun × Value)} (h : Codes w B l) {f : Fun} {c : Value} (hc : OwnC w B c f.code) (hd : ∀ x ∈ l, ∀ b, x.2.ownBlock = some b → c.ownBlock ≠ some b) : Codes w B (l ++ [(f, c)]) := by
  refine ⟨fun x hx => ?_, ?_⟩
  · rcases List.mem_append.1 hx with hx | hx
    · exact h.1 x hx
    · simp only [List.mem_singleton] at hx
      subst hx
      exact hc
  · rw [List.pairwise_append]
    refine ⟨h.2, List.pairwise_singleton _ _, fun x hx y hy => ?_⟩
    simp only [List.mem_singleton] at hy
    subst hy
    exact hd x hx
theorem Codes.init {w : World} {B : Nat} {l : List (Fun × Value)} {x : Fun × Value} (h : Codes w B (l ++ [x])) : Codes w B l ∧ OwnC w B x.2 x.1.code ∧ ∀ y ∈ l, ∀ b, y.2.ownBlock = some b → x.2.ownBlock ≠ some b := by
  obtain ⟨h1, h2⟩ := h
  rw [List.pairwise_append] at h2
  exact ⟨⟨fun y hy => h1 y (by simp [hy]), h2.1⟩, h1 x (by simp), fun y hy => h2.2.2 y hy x (by simp)⟩

theorem set_four (xs : List Value) (a b c d a' b' c' d' : Value) : ((((xs ++ [a, b, c, d]).set xs.length a').set (xs.length + 1) b').set (xs.length + 2) c').set (xs.length + 3) d' = xs ++ [a', b', c', d'] := by
  induction xs with
  | nil => rfl
  | cons x xs ih =>
    simp only [List.cons_append, List.length_cons, List.set_cons_succ, show xs.length + 1 + 1 = (xs.length + 1) + 1 from rfl, show xs.length + 1 + 2 = (xs.length + 2) + 1 from rfl, show xs.length + 1 + 3 = (xs.length + 3) + 1 from rfl]
    rw [ih]
/-- The last function, another one. -/
theorem OwnL.set {w : World} {B g cap : Nat} {l : List (Fun × Value)} {f f' : Fun} {c c' : Value}
    (h : w.ownsRow B 57 4 (.slice (some ⟨g, 0, none⟩) (l.length + 1) cap) (l.length + 1) (flatF (l ++ [(f, c)]))) (hl : Codes w B l) (hc : OwnC w B c' f'.code) (hd : ∀ x ∈ l, ∀ b, x.2.ownBlock = some b → c'.ownBlock ≠ some b) :
    OwnL ((((w.setCell ⟨g, l.length * 4, none⟩ (.int .i64 f'.ar)).setCell ⟨g, l.length * 4 + 1, none⟩ (.int .i64 f'.lo)).setCell ⟨g, l.length * 4 + 2, none⟩ (.int .i64 f'.sl)).setCell ⟨g, l.length * 4 + 3, none⟩ c') B (.slice (some ⟨g, 0, none⟩) (l.length + 1) cap) (l ++ [(f', c')]) := by
  have hcd := hl.snoc hc hd
  have h1 := h.stored (l.length * 4) (.int .i64 f'.ar)
  have h2 := h1.1.stored (l.length * 4 + 1) (.int .i64 f'.lo)
  have h3 := h2.1.stored (l.length * 4 + 2) (.int .i64 f'.sl)
  have h4 := h3.1.stored (l.length * 4 + 3) c'
  refine ⟨?_, ?_⟩
  · have e := h4.1
    rw [flatF_snoc, ← flatF_len l, set_four] at e
    rw [flatF_snoc, List.length_append]
    rw [← flatF_len l]
    exact e
  · have n0 : ∀ x ∈ l ++ [(f', c')], ∀ b, x.2.ownBlock = some b → (some g : Option Nat) ≠ some b := fun x hx b hb => own_ne (hcd.1 x hx) h b hb
    exact (((hcd.grown h1.2 n0).grown h2.2 n0).grown h3.2 n0).grown h4.2 n0
end Go.Proofs.YtoeinpiekfmbgaaGreatDoor

