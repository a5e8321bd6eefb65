/- Layer 9's code: the runner ends, goes on, pushes, takes. -/
import Derived.Test.YtoeinpiekfmbgaaGreatDoorzFc
namespace Go.Proofs.YtoeinpiekfmbgaaGreatDoor
set_option linter.unusedVariables false
set_option linter.unusedSimpArgs false
open Gm Go.RowKit Go.ChangeShapes Go.WideShapes Go.ChangeAt Go.Sort

section
variable {B r : Nat} {pv l o s : Value} {f : Frm}

set_option maxHeartbeats 1000000 in
set_option maxRecDepth 100000 in
theorem rgoto_any (n : Int) (w : World) (h : RunAt w B r pv l o f s) :
    Calls Tryz.prog 116 #[.pointer (some ⟨r, 0, none⟩), .int .i64 n] w fun e w' => e = .returned (akv 1) ∧ Aft B r pv l o s w (goF f n) s w' := by
  have A0 := Lib.hid ((Aft.refl h).pc n)
  have c1 := h.cells 1
  have z1 := h.blk.fz 1
  have hl := h.rlt
  have hne := Nat.ne_of_lt hl
  simp at c1
  clear h
  go_enter Tryz.func116, Tryz.ntmps116
  go_wp2_with fail
  go_returns
  exact ⟨rfl, A0.out.alloc _⟩
set_option maxHeartbeats 1000000 in
set_option maxRecDepth 100000 in
theorem rend_any (t re im : Int) (w : World) (h : RunAt w B r pv l o f s) :
    Calls Tryz.prog 107 #[.pointer (some ⟨r, 0, none⟩), outv t re im] w fun e w' => e = .returned (akv 4) ∧ Aft B r pv l o s w (endF f t (re, im)) s w' := by
  have A0 := Lib.hid ((Aft.refl h).ends t re im)
  have c8 := h.cells 8
  have c10 := h.cells 10
  have c11 := h.cells 11
  have c12 := h.cells 12
  have z8 := h.blk.fz 8
  have z10 := h.blk.fz 10
  have z11 := h.blk.fz 11
  have z12 := h.blk.fz 12
  have hl := h.rlt
  have hne := Nat.ne_of_lt hl
  simp at c8 c10 c11 c12
  clear h
  go_enter Tryz.func107, Tryz.ntmps107
  go_upto_region 1 with (fail)
  go_region
  all_goals go_wp2_with fail
  all_goals go_returns
  all_goals exact ⟨rfl, ((A0.out.alloc _).alloc _).drew⟩

set_option maxHeartbeats 1000000 in
set_option maxRecDepth 100000 in
theorem rpush_any {A : Option Addr} {k : List V} {C : Nat} (n c : Nat) (w : World) (h : RunAt w B r pv l o f s) (hc : VAt w C A k) (hn : k.length = n) (h1 : 1 ≤ n) (hlen : f.stk.length + n ≤ 1000000) (hB : B ≤ w.heap.size) :
    Calls Tryz.prog 122 #[.pointer (some ⟨r, 0, none⟩), .slice A n c] w fun e w' => e = .returned (.tuple #[]) ∧ ∃ s', Aft B r pv l o s w (pushF f k) s' w' := by
  have c2 := h.cells 2
  have hl := h.rlt
  have H := Lib.hid h
  have HC := Lib.hid hc
  obtain ⟨⟨As, cs, rfl, _⟩, _, _⟩ := h.slices
  have HL := Lib.hid hlen
  have HN := Lib.hid hn
  have HB := Lib.hid hB
  simp at c2
  clear h hc hlen hn hB
  go_enter Tryz.func122, Tryz.ntmps122
  go_wp2_with (at_builtin; refine wpList_append_vs rfl _ _ rfl B _ f.stk rfl H.out.os HN.out rfl HC.out h1 HL.out HB.out ?_; intro v' u ho hg hv; obtain ⟨A', c', rfl, _⟩ := ho.lies; have hb := H.out.blk; have hr : u.heap[r]? = w.heap[r]? := hg.block r hl (fun e => H.out.sr e.symm); have c2 := (World.cell?_of_block (a := ⟨r, 2, none⟩) hr).trans c2; have z2 := (World.frozen?_of_block (a := ⟨r, 2, none⟩) hr).trans (H.out.blk.fz 2))
  go_end0
  rw [List.length_append] at ho hv
  refine ⟨rfl, .slice A' (f.stk.length + k.length) c', ?_⟩
  have hk : Kp r (.slice As f.stk.length cs) l o w u := (Kp.refl _ _ _ _ w).grown hg (fun b e => .inl e)
  refine ⟨H.out.stack (w' := u) (k := f.stk ++ k) (fun g e => hg.block g ?_ ?_) ho hv, hk.set (.inl rfl) 2 _, hv⟩
  · rcases e with rfl | e | e
    · exact hl
    · exact (H.out.ol.lt g e).2
    · exact (H.out.oo.lt g e).2
  · intro e2
    rcases e with rfl | e | e
    · exact H.out.sr e2.symm
    · exact H.out.sl g e2.symm e
    · exact H.out.so g e2.symm e

theorem own_cap {w : World} {A : Option Addr} {n c : Nat} {l : List V} (h : OwnVs w B (.slice A n c) l) : n ≤ c ∧ (c : Int) ≤ 9223372036854775807 := by
  rcases h.2 with ⟨e, h0⟩ | ⟨g, cap, cur, e, hb, hg, hnc, hcm, hcs, ht⟩
  · simp at e; omega
  · simp only [Value.slice.injEq] at e
    unfold maxLen at hcm
    omega
/-- The stack cut. -/
theorem cut_own {w : World} {A : Option Addr} {n c m : Nat} {l : List V} (h : OwnVs w B (.slice A n c) l) (hm : m ≤ l.length) : OwnVs w B (.slice A m c) (l.take m) := by
  have hlen : (l.take m).length = m := by rw [List.length_take]; omega
  unfold OwnVs at *
  rw [hlen]
  refine ⟨by rw [flatV_len, hlen], ?_⟩
  rcases h.2 with ⟨e, h0⟩ | ⟨g, cap, cur, e, hb, hg, hnc, hcm, hcs, ht⟩
  · simp at e
    obtain ⟨rfl, rfl, rfl⟩ := e
    exact .inl ⟨by rw [show m = 0 by omega], by omega⟩
  · simp only [Value.slice.injEq] at e
    obtain ⟨rfl, rfl, rfl⟩ := e
    refine .inr ⟨g, _, cur, rfl, hb, hg, by omega, hcm, hcs, ?_⟩
    have e1 : flatV l = flatV (l.take m) ++ flatV (l.drop m) := by rw [← flatV_append, List.take_append_drop]
    have e2 : cur.toList.take (m * 2) = (cur.toList.take (l.length * 2)).take (m * 2) := by rw [List.take_take, Nat.min_eq_left (by omega)]
    rw [e2, ht, e1, List.take_left' (by rw [flatV_len, hlen])]
/-- The upper values of a list. -/
theorem VAt.drop {w : World} {C b off : Nat} {l : List V} (h : VAt w C (some ⟨b, off, none⟩) l) (m : Nat) : VAt w C (some ⟨b, off + m * 2, none⟩) (l.drop m) := fun h0 => by
  rw [List.length_drop] at h0
  obtain ⟨b', off', e, hlt, hc⟩ := h (by omega)
  simp at e
  obtain ⟨rfl, rfl⟩ := e
  refine ⟨b, off + m * 2, rfl, hlt, fun j hj => ?_⟩
  rw [List.length_drop] at hj
  have := hc (m + j) (by omega)
  rw [List.getElem_drop]
  rw [show off + m * 2 + j * 2 = off + (m + j) * 2 by omega]
  exact this
theorem VAt.dropo {w : World} {C : Nat} {A : Option Addr} {l : List V} (h : VAt w C A l) (m : Nat) : VAt w C (A.map fun x => x.add (m * 2)) (l.drop m) := fun h0 => by
  have h1 : 0 < l.length := by rw [List.length_drop] at h0; omega
  obtain ⟨b, off, rfl, hlt, hc⟩ := h h1
  have := (show VAt w C (some ⟨b, off, none⟩) l from fun _ => ⟨b, off, rfl, hlt, hc⟩).drop m h0
  rw [Option.map_some, addr_add]
  exact this
set_option maxHeartbeats 1000000 in
set_option maxRecDepth 100000 in
theorem rtake_own (m : Nat) (w : World) (h : RunAt w B r pv l o f s) (hm : m ≤ f.stk.length) (hlen : f.stk.length ≤ 1000) (hB : B ≤ w.heap.size) :
    Calls Tryz.prog 120 #[.pointer (some ⟨r, 0, none⟩), .int .i64 m] w fun e w' => ∃ A c s', e = .returned (.slice A m c) ∧ OwnVs w' w.heap.size (.slice A m c) (f.stk.drop (f.stk.length - m)) ∧ Aft B r pv l o s w (popF f m) s' w' := by
  have c2 := h.cells 2
  have hl := h.rlt
  have H := Lib.hid h
  obtain ⟨⟨As, cs, rfl, hv⟩, _, _⟩ := h.slices
  have HL := Lib.hid hlen
  have HB := Lib.hid hB
  have HV := Lib.hid hv
  obtain ⟨d, hd⟩ : ∃ d, f.stk.length = d + m := ⟨f.stk.length - m, by omega⟩
  have hd0 : f.stk.length - m = d := by omega
  simp at c2
  have HD := Lib.hid hd
  have hcap := own_cap h.os
  clear h hlen hB hv
  generalize hL : f.stk.length = L at *
  have HE := Lib.hid hL
  clear hL
  subst hd
  have hlow : (((d + m : Nat) : Int) - (m : Int)) = (d : Int) := by omega
  have hdl : (f.stk.drop d).length = m := by rw [List.length_drop]; have := HE.out; omega
  have hva : VAt w w.heap.size (if cs = d then As else As.map fun x => x.add (d * 2)) (f.stk.drop d) := by
    split
    · intro h0; omega
    · exact HV.out.dropo d
  have C1 := Lib.hid (clonev_any (cs - d) w hva (by have := HL.out; omega) (Nat.le_refl _))
  clear hva
  rw [hdl] at C1
  have HDL := Lib.hid hdl
  clear hdl
  have key : ∀ (u : World) (v : Value), OwnVs u w.heap.size v (f.stk.drop d) → Below w.heap.size w u → ∃ A2 c2, v = .slice A2 m c2 ∧ OwnVs (u.setCell ⟨r, 2, none⟩ (.slice As d cs)) w.heap.size (.slice A2 m c2) (f.stk.drop d) ∧
      Aft B r pv l o (.slice As (d + m) cs) w (popF f m) (.slice As d cs) (u.setCell ⟨r, 2, none⟩ (.slice As d cs)) := fun u v ho hb => by
    have h1 : OwnVs (u.setCell ⟨r, 2, none⟩ (.slice As d cs)) w.heap.size v (f.stk.drop d) := row_same ho fun g e => Below.heap_setCell u ⟨r, 2, none⟩ _ g (by have := (ho.lt g e).1; show g ≠ r; omega)
    obtain ⟨A2, c2, e, h2⟩ := h1.lies
    rw [HDL.out] at e
    refine ⟨A2, c2, e, e ▸ h1, ?_⟩
    have hr := H.out.below hb
    have hbl : ∀ b, (Value.slice As d cs).ownBlock = some b → (Value.slice As (d + m) cs).ownBlock = some b ∨ u.heap.size ≤ b := fun b e => .inl (by cases As <;> exact e)
    have hpop : popF f m = { f with stk := f.stk.take d } := by unfold popF; rw [HE.out, hd0]
    have h3 := hr.stack (w' := u) (k := f.stk.take d) (s' := .slice As d cs) (fun _ _ => rfl) (cut_own hr.os (by rw [HE.out]; omega)) hbl
    rw [hpop]
    exact ⟨h3, (Kp.of_below hb).set (.inl rfl) 2 _, fun b e => .inl (by cases As <;> exact e)⟩
  have KY := Lib.hid key
  clear key
  go_enter Tryz.func120, Tryz.ntmps120
  go_wp2_with (go_at_call 102; (with_reducible refine C1.out.mono ?_); rintro _ u ⟨v, rfl, ho, hb⟩; obtain ⟨A2, k2, rfl, hv2, ha⟩ := KY.out u v ho hb; have c2 := (hb.cell (p := ⟨r, 2, none⟩) hl).trans c2; have z2 := (H.out.below hb).blk.fz 2)
  all_goals go_ret
  all_goals (first | exact ⟨A2, k2, _, rfl, hv2, ha⟩ | (subst_vars; exact ⟨A2, k2, _, rfl, hv2, ha⟩) | exact ⟨A2, k2, rfl, hv2, _, ha⟩ | (subst_vars; exact ⟨A2, k2, rfl, hv2, _, ha⟩))
theorem rtake_any (m : Nat) (w : World) (h : RunAt w B r pv l o f s) (hm : m ≤ f.stk.length) (hlen : f.stk.length ≤ 1000) (hB : B ≤ w.heap.size) :
    Calls Tryz.prog 120 #[.pointer (some ⟨r, 0, none⟩), .int .i64 m] w fun e w' => ∃ A c s', e = .returned (.slice A m c) ∧ VAt w' w'.heap.size A (f.stk.drop (f.stk.length - m)) ∧ Aft B r pv l o s w (popF f m) s' w' :=
  (rtake_own m w h hm hlen hB).mono fun _ _ ⟨A, c, s', e, ho, ha⟩ => by
    obtain ⟨A', c', e', hv⟩ := ho.lies
    simp only [Value.slice.injEq] at e'
    obtain ⟨rfl, _, rfl⟩ := e'
    exact ⟨A, c, s', e, hv, ha⟩
theorem rtake_int {n : Int} (m : Nat) (hn : n = m) (w : World) (h : RunAt w B r pv l o f s) (hm : m ≤ f.stk.length) (hlen : f.stk.length ≤ 1000) (hB : B ≤ w.heap.size) :
    Calls Tryz.prog 120 #[.pointer (some ⟨r, 0, none⟩), .int .i64 n] w fun e w' => ∃ A c s', e = .returned (.slice A m c) ∧ VAt w' w'.heap.size A (f.stk.drop (f.stk.length - m)) ∧ Aft B r pv l o s w (popF f m) s' w' := by
  subst hn
  exact rtake_any m w h hm hlen hB
end
end Go.Proofs.YtoeinpiekfmbgaaGreatDoor

