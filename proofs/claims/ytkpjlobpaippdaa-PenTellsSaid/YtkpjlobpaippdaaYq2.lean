/- Layer 12: lists appended in drawn regions. -/
import Derived.Test.YtkpjlobpaippdaaYl
namespace Go.Proofs.Ytkpjlobpaippdaa
set_option linter.unusedVariables false
set_option linter.unusedSimpArgs false
open Go.RowKit Go.ChangeShapes Go.WideShapes Go.ChangeAt Go.Sort

theorem held_kt {w w' : World} {k : Nat} {t t' : TypeId} {cs : Array Value} (h : Held w k t cs) (hk : KTy w w' t') (hne : t ≠ t') : Held w' k t cs := (hk k t cs (0, 0) h hne).trans h
/-- Cells appended to what was made. -/
def RowC (w : World) (D C : Nat) (A : Option Addr) (n c : Nat) (l : List Cel) : Prop := ∃ ys, w.ownsRow D 62 18 (.slice A n c) n ys ∧ CelsOf (fun _ => FrmAt w C) ys l
theorem RowC.below {w w' : World} {D C n c : Nat} {A : Option Addr} {l : List Cel} (h : RowC w D C A n c l) (hb : Below w.heap.size w w') (hC : C ≤ w.heap.size) : RowC w' D C A n c l := by
  obtain ⟨ys, h1, h2⟩ := h
  exact ⟨ys, r_later h1 hb, h2.mono fun _ _ _ k => k.below hb hC⟩
theorem RowC.turn {w w' : World} {D C n c : Nat} {A : Option Addr} {l : List Cel} {t : TypeId} (h : RowC w D C A n c l) (hk : KTy w w' t) (hne : 62 ≠ t) (hb : Below D w w') (hC : C ≤ D) : RowC w' D C A n c l := by
  obtain ⟨ys, h1, h2⟩ := h
  exact ⟨ys, row_kt h1 hk hne, h2.mono fun _ _ _ k => k.below hb hC⟩
theorem RowC.at {w : World} {D C n c : Nat} {A : Option Addr} {l : List Cel} (h : RowC w D C A n c l) (hn : l.length = n) (hC : C ≤ w.heap.size) : CAt w w.heap.size A l := by
  subst hn
  obtain ⟨ys, h1, h2⟩ := h
  obtain ⟨A', c', e, k⟩ := row_lies h1
  simp only [Value.slice.injEq] at e
  obtain ⟨rfl, _, rfl⟩ := e
  intro h0
  obtain ⟨b, e2, _, hlt, hr⟩ := k h0
  exact ⟨b, 0, ys, e2, hlt, hr, h2.mono fun _ _ _ k => k.more hC⟩
theorem wp_append_c0 {w : World} {o : Oper} {a : Act} {K : Act → World → Prop} {Q : Exit → Act → World → Prop}
    (s x : Operand) (hop : o.op = Op.call { callee := Callee.builtin Builtin.append, args := #[s, x], argTypes := #[22, 22] })
    (D : Nat) {g c0 : Nat} (hs : a.eval s = .slice (some ⟨g, 0, none⟩) 0 c0) (own : w.ownsRow D 62 18 (.slice (some ⟨g, 0, none⟩) 0 c0) 0 []) {A : Option Addr} {l : List Cel} {n c C : Nat} (hn : l.length = n) (hx : a.eval x = .slice A n c) (hc : CAt w C A l) (hC : C ≤ D) (hD : D ≤ w.heap.size)
    (hlen : n ≤ 10000)
    (h : ∀ A' c' w', RowC w' D C A' n c' l → KTy w w' 62 → Below D w w' → K (a.put o.dst (.slice A' n c')) w') : o.wp Try.prog a w K Q := by
  subst hn
  by_cases hk : l = []
  · subst hk
    have hr := fun ty => run_zeroC w g c0 c A ty
    have hx2 : a.eval x = .slice A 0 c := hx
    unfold Oper.wp execOp
    simp only [hop, resolve, invoke, builtin, Sem.run_bind, Sem.run_pure, Result.andThen_ok, List.map_toArray, List.map_cons, List.map_nil, hs, hx2, hr]
    exact h _ _ _ ⟨[], own, celsOf_nil _⟩ (KTy.refl _ _) (Below.refl _ _)
  · have h1 : 1 ≤ l.length := by
      cases l with
      | nil => exact absurd rfl hk
      | cons y ys => simp
    obtain ⟨b, off, ys, rfl, hb, hr, hcs⟩ := hc (by omega)
    obtain ⟨q, hi, hz0, hz1, hz2⟩ := info_parts infoC
    refine wp_append_lies w s x 22 hop D 62 q _ 18 192 Try.underlying22 hi hz0 hz1 hz2 rfl (by decide) _ 0 [] hs own ⟨b, off, none⟩ l.length c
      ys hx hcs.1 (fun j u hj => by rw [p_add]; exact hr j u hj) (celsOf_one hcs) (by omega) (by unfold maxLen; omega) (by omega) hD _ rfl ?_
    intro g' cap w' k1 k2 k3 k4
    have hbw : Below D w w' := below_grown k2 (fun q e => (own.lt q e).1) hD
    rw [List.nil_append] at k1
    have e9 : 0 + l.length = l.length := by omega
    rw [e9] at k1 ⊢
    exact h _ _ w' ⟨ys, k1, hcs.mono fun _ _ _ k => k.below hbw hC⟩ (kt_own own k2) hbw
theorem wp_append_i0 {w : World} {o : Oper} {a : Act} {K : Act → World → Prop} {Q : Exit → Act → World → Prop}
    (s x : Operand) (hop : o.op = Op.call { callee := Callee.builtin Builtin.append, args := #[s, x], argTypes := #[23, 23] })
    (D : Nat) {g c0 : Nat} (hs : a.eval s = .slice (some ⟨g, 0, none⟩) 0 c0) (own : OwnI w D (.slice (some ⟨g, 0, none⟩) 0 c0) []) {A : Option Addr} {l : List Int} {n c C : Nat} (hn : l.length = n) (hx : a.eval x = .slice A n c) (hc : IAt w C A l) (hD : D ≤ w.heap.size)
    (hlen : n ≤ 10000)
    (h : ∀ A' c' w', OwnI w' D (.slice A' n c') l → KTy w w' 3 → Below D w w' → K (a.put o.dst (.slice A' n c')) w') : o.wp Try.prog a w K Q := by
  subst hn
  by_cases hk : l = []
  · subst hk
    have hr := fun ty => run_zeroI w g c0 c A ty
    have hx2 : a.eval x = .slice A 0 c := hx
    unfold Oper.wp execOp
    simp only [hop, resolve, invoke, builtin, Sem.run_bind, Sem.run_pure, Result.andThen_ok, List.map_toArray, List.map_cons, List.map_nil, hs, hx2, hr]
    exact h _ _ _ own (KTy.refl _ _) (Below.refl _ _)
  · have h1 : 1 ≤ l.length := by
      cases l with
      | nil => exact absurd rfl hk
      | cons y ys => simp
    obtain ⟨b, off, rfl, hbC, hf⟩ := hc (by omega)
    obtain ⟨q, hi, hz0, hz1, hz2⟩ := info_parts infoI
    refine wp_append_lies w s x 23 hop D 3 q (.int .i64 0) 1 8 Try.underlying23 hi hz0 hz1 hz2 rfl (by decide) _ 0 [] hs own ⟨b, off, none⟩ l.length c
      (ivs l) hx (by simp) (newsI hf) oneI (by omega) (by unfold maxLen; omega) (by omega) hD _ rfl ?_
    intro g' cap w' k1 k2 k3 k4
    have hbw : Below D w w' := below_grown k2 (fun q e => (own.lt q e).1) hD
    rw [List.nil_append] at k1
    have e9 : 0 + l.length = l.length := by omega
    rw [e9] at k1 ⊢
    exact h _ _ w' k1 (kt_own own k2) hbw
theorem wp_build0C {o : Oper} {a : Act} {w : World} {K : Act → World → Prop} {Q : Exit → Act → World → Prop} (ho : o.op = .buildSlice 22 0 #[])
    (h : K (a.put o.dst (.slice (some ⟨w.heap.size, 0, none⟩) 0 0)) (w.alloc (.cells #[] 62))) : o.wp Try.prog a w K Q := by
  obtain ⟨i, hi, hz0, hz1, hz2⟩ := info_parts infoC
  have hr : (Instr.buildSlice 22 0 #[]).run Try.prog w = .ok (.slice (some ⟨w.heap.size, 0, none⟩) 0 0) (w.alloc (.cells #[] 62)) := by
    simp [Instr.buildSlice, run_underlying Try.underlying22, sizeOf, typeInfo, zeroValue, hi, hz0, hz1, newRow, Instr.fill]
    have e : (Array.map (fun _ => (default : Value)) (Array.range 0)) = #[] := Array.eq_empty_of_size_eq_zero (by simp)
    rw [e]
  unfold Oper.wp execOp
  simp only [ho, Sem.run_bind, List.map_toArray, List.map_nil, hr, Result.andThen_ok]
  exact h
theorem wp_build0I {o : Oper} {a : Act} {w : World} {K : Act → World → Prop} {Q : Exit → Act → World → Prop} (ho : o.op = .buildSlice 23 0 #[])
    (h : K (a.put o.dst (.slice (some ⟨w.heap.size, 0, none⟩) 0 0)) (w.alloc (.cells #[] 3))) : o.wp Try.prog a w K Q := by
  obtain ⟨i, hi, hz0, hz1, hz2⟩ := info_parts infoI
  have hr : (Instr.buildSlice 23 0 #[]).run Try.prog w = .ok (.slice (some ⟨w.heap.size, 0, none⟩) 0 0) (w.alloc (.cells #[] 3)) := by
    simp [Instr.buildSlice, run_underlying Try.underlying23, sizeOf, typeInfo, zeroValue, hi, hz0, hz1, newRow, Instr.fill]
    have e : (Array.map (fun _ => (default : Value)) (Array.range 0)) = #[] := Array.eq_empty_of_size_eq_zero (by simp)
    rw [e]
  unfold Oper.wp execOp
  simp only [ho, Sem.run_bind, List.map_toArray, List.map_nil, hr, Result.andThen_ok]
  exact h
theorem wp_build0R {o : Oper} {a : Act} {w : World} {K : Act → World → Prop} {Q : Exit → Act → World → Prop} (ho : o.op = .buildSlice 52 0 #[])
    (h : K (a.put o.dst (.slice (some ⟨w.heap.size, 0, none⟩) 0 0)) (w.alloc (.cells #[] 27))) : o.wp Try.prog a w K Q := by
  obtain ⟨i, hi, hz0, hz1, hz2⟩ := info_parts infoR
  have hr : (Instr.buildSlice 52 0 #[]).run Try.prog w = .ok (.slice (some ⟨w.heap.size, 0, none⟩) 0 0) (w.alloc (.cells #[] 27)) := by
    simp [Instr.buildSlice, run_underlying Try.underlying52, sizeOf, typeInfo, zeroValue, hi, hz0, hz1, newRow, Instr.fill]
    have e : (Array.map (fun _ => (default : Value)) (Array.range 0)) = #[] := Array.eq_empty_of_size_eq_zero (by simp)
    rw [e]
  unfold Oper.wp execOp
  simp only [ho, Sem.run_bind, List.map_toArray, List.map_nil, hr, Result.andThen_ok]
  exact h
end Go.Proofs.Ytkpjlobpaippdaa
