/- Layer 13: rings and cells appended in the laws; worlds in variables whose fields are stored. -/
import Derived.Test.YtjibkgildfjjoaaDoorzZo
import Derived.Test.YtjibkgildfjjoaaDoorzPr1
import Derived.Test.YtjibkgildfjjoaaDoorzZk
import Derived.Test.YtjibkgildfjjoaaDoorzYq2
import Derived.Deep.DeepCutAuto
import Derived.Deep.CutBlock
namespace Go.Proofs.YtjibkgildfjjoaaDoor
set_option linter.unusedVariables false
set_option linter.unusedSimpArgs false
open Go.RowKit Go.ChangeShapes Go.WideShapes Go.ChangeAt Go.Sort

/-- Rings in a row of the call's own: their buffers lie below block C, or are the call's own. -/
def RowG (w : World) (D C : Nat) (A : Option Addr) (n c : Nat) (l : List Rng) : Prop := ∃ ys, w.ownsRow D 46 4 (.slice A n c) n ys ∧ RgsOf (fun A c r => PAt w C A r.buf ∨ OwnR w D (.slice A r.buf.length c) r.buf) ys l
theorem RowG.kt {w w' : World} {D C n c : Nat} {A : Option Addr} {l : List Rng} {t : TypeId} (h : RowG w D C A n c l) (hk : KTy w w' t) (h1 : 46 ≠ t) (h2 : 33 ≠ t) (hb : Below C w w') : RowG w' D C A n c l := by
  obtain ⟨ys, k1, k2⟩ := h
  exact ⟨ys, row_kt k1 hk h1, k2.mono fun _ _ _ k => k.imp (fun q => q.below hb (Nat.le_refl _)) fun q => row_kt q hk h2⟩
theorem RowG.below {w w' : World} {D C n c : Nat} {A : Option Addr} {l : List Rng} (h : RowG w D C A n c l) (hb : Below w.heap.size w w') (hC : C ≤ w.heap.size) : RowG w' D C A n c l := by
  obtain ⟨ys, k1, k2⟩ := h
  exact ⟨ys, r_later k1 hb, k2.mono fun _ _ _ k => k.imp (fun q => q.below hb hC) fun q => r_later q hb⟩
theorem RowG.at {w : World} {D C n c : Nat} {A : Option Addr} {l : List Rng} (h : RowG w D C A n c l) (hC : C ≤ w.heap.size) : GAt w w.heap.size A l := by
  obtain ⟨ys, k1, k2⟩ := h
  obtain ⟨A', c', e, k⟩ := row_lies k1
  simp only [Value.slice.injEq] at e
  obtain ⟨rfl, _, rfl⟩ := e
  have h9 := k1.1
  have h8 := k2.1
  intro h0
  obtain ⟨b, e2, _, hlt, hr⟩ := k (by omega)
  exact ⟨b, 0, ys, e2, hlt, hr, k2.mono fun _ _ _ q => q.elim (fun q => q.more hC) fun q => own2_at q⟩
theorem RowG.len {w : World} {D C n c : Nat} {A : Option Addr} {l : List Rng} (h : RowG w D C A n c l) : l.length = n := by
  obtain ⟨ys, k1, k2⟩ := h
  have h9 := k1.1
  have h8 := k2.1
  omega
theorem run_zeroG (w : World) (g c c2 : Nat) (A : Option Addr) (ty : TypeId) : (Builtin.append_ #[30, 30] ty #[.slice (some ⟨g, 0, none⟩) 0 c, .slice A 0 c2]).run Tryd.prog w = .ok (.slice (some ⟨g, 0, none⟩) 0 c) w := by
  obtain ⟨i, hi, hz0, hz1, hz2⟩ := info_parts infoG
  cases A <;> simp [Builtin.append_, run_underlying Tryd.underlying30, sizeOf, typeInfo, hi, storeCells, loadCellsFrom, Builtin.lenOf, Builtin.firstCells, loadCells]
theorem wp_append_g0 {w : World} {o : Oper} {a : Act} {K : Act → World → Prop} {Q : Exit → Act → World → Prop}
    (s x : Operand) (hop : o.op = Op.call { callee := Callee.builtin Builtin.append, args := #[s, x], argTypes := #[30, 30] })
    (D : Nat) {g c0 : Nat} (hs : a.eval s = .slice (some ⟨g, 0, none⟩) 0 c0) (own : w.ownsRow D 46 4 (.slice (some ⟨g, 0, none⟩) 0 c0) 0 []) {A : Option Addr} {l : List Rng} {n c C : Nat} (hn : l.length = n) (hx : a.eval x = .slice A n c) (hc : GAt w C A l) (hC : C ≤ D) (hD : D ≤ w.heap.size)
    (hlen : n ≤ 10000)
    (h : ∀ A' c' w', RowG w' D C A' n c' l → w.grownBy w' (some g) → KTy w w' 46 → Below D w w' → K (a.put o.dst (.slice A' n c')) w') : o.wp Tryd.prog a w K Q := by
  subst hn
  by_cases hk : l = []
  · subst hk
    have hr := fun ty => run_zeroG w g c0 c A ty
    have hx2 : a.eval x = .slice A 0 c := hx
    unfold Oper.wp execOp
    simp only [hop, resolve, invoke, builtin, Sem.run_bind, Sem.run_pure, Result.andThen_ok, List.map_toArray, List.map_cons, List.map_nil, hs, hx2, hr]
    exact h _ _ _ ⟨[], own, rgsOf_nil _⟩ ⟨rfl, rfl, rfl, Nat.le_refl _, fun _ _ _ => rfl⟩ (KTy.refl _ _) (Below.refl _ _)
  · have h1 : 1 ≤ l.length := by
      cases l with
      | nil => exact absurd rfl hk
      | cons y ys => simp
    obtain ⟨b, off, ys, rfl, hb, hr, hcs⟩ := hc (by omega)
    obtain ⟨q, hi, hz0, hz1, hz2⟩ := info_parts infoG
    refine wp_append_lies w s x 30 hop D 46 q _ 4 48 Tryd.underlying30 hi hz0 hz1 hz2 rfl (by decide) _ 0 [] hs own ⟨b, off, none⟩ l.length c
      ys hx hcs.1 (fun j u hj => by rw [p_add]; exact hr j u hj) (rgsOf_oneCell hcs) (by omega) (by unfold maxLen; omega) (by omega) hD _ rfl ?_
    intro g' cap w' k1 k2 k3 k4
    have hbw : Below D w w' := below_grow k2 (fun q e => (own.lt q e).1) hD
    rw [List.nil_append] at k1
    have e9 : 0 + l.length = l.length := by omega
    rw [e9] at k1 ⊢
    exact h _ _ w' ⟨ys, k1, hcs.mono fun _ _ _ k => .inl (k.below hbw hC)⟩ k2 (kt_own own k2) hbw
/-- One ring more. -/
theorem wp_append_g1 {w : World} {o : Oper} {a : Act} {K : Act → World → Prop} {Q : Exit → Act → World → Prop}
    (s x : Operand) (hop : o.op = Op.call { callee := Callee.builtin Builtin.append, args := #[s, x], argTypes := #[30, 30] })
    {D C n c : Nat} {A : Option Addr} {l : List Rng} (hs : a.eval s = .slice A n c) (own : RowG w D C A n c l) {g c2 : Nat} {A1 : Option Addr} {c1 : Nat} {r : Rng} (hx : a.eval x = .slice (some ⟨g, 0, none⟩) 1 c2)
    (hg : Held w g 46 (rgc A1 r.buf.length c1 r.head r.many r.most)) (hr : OwnR w D (.slice A1 r.buf.length c1) r.buf) (hC : C ≤ D) (hD : D ≤ w.heap.size) (hlen : n ≤ 10000)
    (h : ∀ A' c' w', RowG w' D C A' (n + 1) c' (l ++ [r]) → KTy w w' 46 → Below D w w' → K (a.put o.dst (.slice A' (n + 1) c')) w') : o.wp Tryd.prog a w K Q := by
  obtain ⟨xs, k1, k2⟩ := own
  obtain ⟨q, hi, hz0, hz1, hz2⟩ := info_parts infoG
  refine wp_append_lies w s x 30 hop D 46 q _ 4 48 Tryd.underlying30 hi hz0 hz1 hz2 rfl (by decide) _ n xs hs k1 ⟨g, 0, none⟩ 1 c2
    (rgc A1 r.buf.length c1 r.head r.many r.most).toList hx rfl (fun j u hj => by rw [p_add]; exact rng_held hg j u hj) (rgsOf_oneCell (rgsOf_one (F := fun _ _ _ => True) trivial)) (by omega) (by unfold maxLen; omega) (by omega) hD _ rfl ?_
  intro g' cap w' j1 j2 j3 j4
  have hbw : Below D w w' := below_grow j2 (fun q e => (k1.lt q e).1) hD
  have hk := kt_own k1 j2
  exact h _ _ w' ⟨_, j1, rgsOf_app (k2.mono fun _ _ _ k => k.imp (fun q => q.below hbw hC) fun q => row_kt q hk (by decide)) (rgsOf_one (.inr (row_kt hr hk (by decide))))⟩ hk hbw
theorem wpList_of_wp {P : Program} {w : World} {ops : Array Oper} {rest : List Oper} {o : Oper} {a : Act} {Q : Exit → Act → World → Prop} (hg : o.guard = none) (h : ∀ K : Act → World → Prop, (∀ a w, wpList P ops Q rest a w → K a w) → o.wp P a w K Q) : wpList P ops Q (o :: rest) a w :=
  wpList_plain hg fun K hK => h K hK
theorem RowC.kt {w w' : World} {D C n c : Nat} {A : Option Addr} {l : List Cel} {t : TypeId} (h : RowC w D C A n c l) (hk : KTy w w' t) (hne : 56 ≠ t) (hb : Below C w w') : RowC w' D C A n c l := by
  obtain ⟨ys, h1, h2⟩ := h
  exact ⟨ys, row_kt h1 hk hne, h2.mono fun _ _ _ k => k.below hb (Nat.le_refl _)⟩
theorem RowC.elem {w : World} {D C n c : Nat} {A : Option Addr} {l : List Cel} (h : RowC w D C A n c l) {j : Nat} (hj : j < l.length) : ∃ g A1 c1 A2 c2 A3 c3, A = some ⟨g, 0, none⟩ ∧ D ≤ g ∧ g < w.heap.size ∧ w.rangeAt g (j * 18) (celv l[j] (fcA l[j].frm (.slice A1 l[j].frm.stk.length c1) (.slice A2 l[j].frm.loc.length c2) (.slice A3 l[j].frm.slt.length c3))) ∧
    FrmAt w C (.agg (fcA l[j].frm (.slice A1 l[j].frm.stk.length c1) (.slice A2 l[j].frm.loc.length c2) (.slice A3 l[j].frm.slt.length c3))) l[j].frm ∧ w.there g (j * 18) 18 := by
  obtain ⟨ys, h1, h2⟩ := h
  have e1 := h1.1
  have e2 := h2.1
  obtain ⟨g, cap, e, hg1, hg2⟩ := h1.form (by omega)
  simp only [Value.slice.injEq] at e
  obtain ⟨rfl, -, rfl⟩ := e
  obtain ⟨cs, q1, q2, q3, q4⟩ := h2.2 j hj
  obtain ⟨A1, c1, A2, c2, A3, c3, e, v1, v2, v3⟩ := q3
  simp only [Value.agg.injEq] at e
  subst e
  refine ⟨g, A1, c1, A2, c2, A3, c3, rfl, hg1, hg2, fun i v hv => ?_, ⟨A1, c1, A2, c2, A3, c3, rfl, v1, v2, v3⟩, row_there h1 (by omega)⟩
  have hi : i < 18 := by
    rcases Nat.lt_or_ge i 18 with h | h
    · exact h
    · rw [List.getElem?_eq_none (by simpa using h)] at hv
      cases hv
  exact (h1.cellAt (j * 18 + i) (by omega)).trans ((q4 i hi).trans hv)
theorem RowC.set {w : World} {D C n c g : Nat} {l : List Cel} (h : RowC w D C (some ⟨g, 0, none⟩) n c l) {j : Nat} (hj : j < l.length) {x : Cel} {cs : Array Value} (h1 : cs.size = 16) (h2 : cs.all (·.oneCell') = true) (h3 : FrmAt w C (.agg cs) x.frm) (hC : C ≤ D) :
    RowC (w.setCells g (j * 18) (celv x cs)) D C (some ⟨g, 0, none⟩) n c (l.set j x) := by
  obtain ⟨ys, k1, k2⟩ := h
  have hg := (k1.lt g rfl).1
  have hb : Below C w (w.setCells g (j * 18) (celv x cs)) := below_setCells (Below.refl _ _) (by omega) _ _
  exact ⟨_, row_setCells _ _ k1, celsOf_set k2 hj h1 h2 (h3.below hb (Nat.le_refl _)) fun _ _ _ _ q => q.below hb (Nat.le_refl _)⟩
theorem ktc {W : World} {g : Nat} {t : TypeId} {cs : Array Value} (h : Held W g t cs) (i : Nat) (v : Value) : KTy W (W.setCell ⟨g, i, none⟩ v) t := fun k e es fr hk hne => Below.heap_setCell W ⟨g, i, none⟩ v k (fun e2 => by
  have e3 : k = g := e2
  subst e3
  rw [Held, hk] at h
  simp at h
  exact hne h.2.1)
theorem ktsc {W : World} {g : Nat} {t : TypeId} {cs : Array Value} (h : Held W g t cs) (o : Nat) (vs : List Value) : KTy W (W.setCells g o vs) t := fun k e es fr hk hne => setCells_far vs o W g k (fun e2 => by
  subst e2
  rw [Held, hk] at h
  simp at h
  exact hne h.2.1)
theorem held_there {w : World} {g : Nat} {t : TypeId} {cs : Array Value} (h : Held w g t cs) {o k : Nat} (hk : o + k ≤ cs.size) : w.there g o k := fun j hj => ⟨by
  rw [h.cell (o + j), Array.getElem?_eq_getElem (by omega)]
  rfl, h.fz _⟩
theorem wp_build0G {o : Oper} {a : Act} {w : World} {K : Act → World → Prop} {Q : Exit → Act → World → Prop} (ho : o.op = .buildSlice 30 0 #[])
    (h : K (a.put o.dst (.slice (some ⟨w.heap.size, 0, none⟩) 0 0)) (w.alloc (.cells #[] 46))) : o.wp Tryd.prog a w K Q := by
  obtain ⟨i, hi, hz0, hz1, hz2⟩ := info_parts infoG
  have hr : (Instr.buildSlice 30 0 #[]).run Tryd.prog w = .ok (.slice (some ⟨w.heap.size, 0, none⟩) 0 0) (w.alloc (.cells #[] 46)) := by
    simp [Instr.buildSlice, run_underlying Tryd.underlying30, sizeOf, typeInfo, zeroValue, hi, hz0, hz1, newRow, Instr.fill]
    have e : (Array.map (fun _ => (default : Value)) (Array.range 0)) = #[] := Array.eq_empty_of_size_eq_zero (by simp)
    rw [e]
  unfold Oper.wp execOp
  simp only [ho, Sem.run_bind, List.map_toArray, List.map_nil, hr, Result.andThen_ok]
  exact h
theorem wp_build1G {o : Oper} {a : Act} {w : World} {K : Act → World → Prop} {Q : Exit → Act → World → Prop} {x : Operand} {A : Option Addr} {k c : Nat} {p q r : Int} (ho : o.op = .buildSlice 30 1 #[(0, x)]) (hx : a.eval x = .agg (rgc A k c p q r))
    (h : K (a.put o.dst (.slice (some ⟨w.heap.size, 0, none⟩) 1 1)) (w.alloc (.cells (rgc A k c p q r) 46))) : o.wp Tryd.prog a w K Q := by
  obtain ⟨i, hi, hz0, hz1, hz2⟩ := info_parts infoG
  exact wp_buildSlice 30 46 1 _ ho _ i _ Tryd.underlying30 hi hz0 (by rw [hz1]; decide) (by rw [hz1]; decide) (by simp only [List.map_toArray, List.map_cons, List.map_nil, hx, hz1]; kernel_rfl) h
theorem wp_make1R {o : Oper} {a : Act} {w : World} {K : Act → World → Prop} {Q : Exit → Act → World → Prop} {x y : Operand} (ho : o.op = .makeSlice 31 x y) (hx : a.eval x = .int .i64 1) (hy : a.eval y = .int .i64 1)
    (h : K (a.put o.dst (.slice (some ⟨w.heap.size, 0, none⟩) 1 1)) (w.alloc (.cells (zeroR 1) 33))) : o.wp Tryd.prog a w K Q := by
  have hr := make_rs (n := 1) (by decide) w
  unfold Oper.wp execOp
  simp only [ho, hx, hy, Sem.run_bind]
  rw [show (Instr.makeSlice 31 (.int .i64 1) (.int .i64 1)).run Tryd.prog w = _ from hr]
  simp only [Result.andThen_ok, Sem.run_pure]
  exact h
theorem wp_store_sl {o : Oper} {a : Act} {w : World} {K : Act → World → Prop} {Q : Exit → Act → World → Prop} {p x : Operand} {g i n c : Nat} {A : Option Addr} {y : Value} (ho : o.op = .store 30 p x) (hp : a.eval p = .pointer (some ⟨g, i, none⟩)) (hx : a.eval x = .slice A n c)
    (hy : w.cell? ⟨g, i, none⟩ = some y) (hz : w.frozen? ⟨g, i, none⟩ = false) (h : K (a.put o.dst undef) (w.setCell ⟨g, i, none⟩ (.slice A n c))) : o.wp Tryd.prog a w K Q := by
  have hu := Tryd.underlying30
  unfold Oper.wp execOp
  simp only [ho, hp, hx]
  simp [go_sem, hy, hz, hu]
  exact h
theorem gb_step {w u v : World} {r : Option Nat} (h : w.grownBy u r) (hb : Below u.heap.size u v) : w.grownBy v r :=
  ⟨hb.os.trans h.os, hb.tape.trans h.tape, hb.output.trans h.output, Nat.le_trans h.size hb.size, fun k hk hne => (hb.block k (Nat.lt_of_lt_of_le hk h.size)).trans (h.block k hk hne)⟩
theorem gb_cells {w u : World} {g : Nat} (h : w.grownBy u (some g)) (o : Nat) (vs : List Value) : w.grownBy (u.setCells g o vs) (some g) :=
  ⟨(setCells_rest vs o u g).1.trans h.os, (setCells_rest vs o u g).2.1.trans h.tape, (setCells_rest vs o u g).2.2.trans h.output, by rw [setCells_size]; exact h.size, fun k hk hne => (setCells_far vs o u g k (fun e => hne (by rw [e]))).trans (h.block k hk hne)⟩
theorem gb_below {w u : World} {B g : Nat} (h : w.grownBy u (some g)) (hB : B ≤ g) (hs : B ≤ w.heap.size := by assumption) : Below B w u :=
  ⟨h.os, h.tape, h.output, h.size, fun k hk => h.block k (by omega) (fun e => by simp at e; omega)⟩
theorem rrefs_n {l k : List V} {n m : Nat} {R : Bool} (hR : decide (l = k) = R) (e1 : l.length = n) (e2 : k.length = m) (h1 : n ≤ 100000) (h2 : m ≤ 100000) (c c2 : Nat) (W : World) {A A2 : Option Addr} (hp : PAt W W.heap.size A l) (hq : PAt W W.heap.size A2 k) :
    Calls Tryd.prog 11 #[.slice A n c, .slice A2 m c2] W fun e w' => e = .returned (.bool R) ∧ Below W.heap.size W w' := by
  subst e1 e2
  exact rrefsl_c hR h1 h2 c c2 W hp hq
/-- Four variables that hold the same world. -/
structure FourW (W : World) (lo : Nat) (cs : Array Value) (g5 g6 g7 g8 : Nat) : Prop where
  h5 : Held W g5 40 cs
  h6 : Held W g6 40 cs
  h7 : Held W g7 40 cs
  h8 : Held W g8 40 cs
  n56 : g5 ≠ g6
  n57 : g5 ≠ g7
  n58 : g5 ≠ g8
  n67 : g6 ≠ g7
  n68 : g6 ≠ g8
  n78 : g7 ≠ g8
  l5 : lo ≤ g5
  l6 : lo ≤ g6
  l7 : lo ≤ g7
  l8 : lo ≤ g8
end Go.Proofs.YtjibkgildfjjoaaDoor

