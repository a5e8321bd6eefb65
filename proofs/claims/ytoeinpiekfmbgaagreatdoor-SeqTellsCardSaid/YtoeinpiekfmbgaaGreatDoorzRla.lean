/- Layer 9: the document's lays. -/
import Derived.Test.YtoeinpiekfmbgaaGreatDoorzRjo
import Derived.Test.YtoeinpiekfmbgaaGreatDoorzGmz
import Derived.Test.YtoeinpiekfmbgaaGreatDoorzSr
import Derived.Test.YtoeinpiekfmbgaaGreatDoorzSb
import Derived.Great.BuildSlice
namespace Go.Proofs.YtoeinpiekfmbgaaGreatDoor
set_option linter.unusedVariables false
set_option linter.unusedSimpArgs false
open Gm Go.RowKit Go.ChangeShapes Go.WideShapes Go.ChangeAt Go.Sort

theorem OwnVs.one (w : World) (x y : Int) : OwnVs (w.alloc (.cells #[.int .i64 x, .int .i64 y] 30)) w.heap.size (.slice (some ⟨w.heap.size, 0, none⟩) 1 1) [(x, y)] :=
  ⟨rfl, .inr ⟨w.heap.size, 1, _, rfl, Nat.le_refl _, Held.new w 30 _, Nat.le_refl _, by decide, rfl, rfl⟩⟩
theorem OwnVs.two (w : World) (x y z t : Int) : OwnVs (w.alloc (.cells #[.int .i64 x, .int .i64 y, .int .i64 z, .int .i64 t] 30)) w.heap.size (.slice (some ⟨w.heap.size, 0, none⟩) 2 2) [(x, y), (z, t)] :=
  ⟨rfl, .inr ⟨w.heap.size, 2, _, rfl, Nat.le_refl _, Held.new w 30 _, Nat.le_refl _, by decide, rfl, rfl⟩⟩
theorem OwnVs.mono {w : World} {B C : Nat} {v : Value} {l : List V} (h : OwnVs w B v l) (hC : C ≤ B) : OwnVs w C v l := row_mono h hC
theorem wp_build1 {o : Oper} {a : Act} {w : World} {K : Act → World → Prop} {Q : Exit → Act → World → Prop} {x : Operand} {p q : Int} (ho : o.op = .buildSlice 24 1 #[(0, x)]) (hx : a.eval x = .agg #[.int .i64 p, .int .i64 q])
    (h : K (a.put o.dst (.slice (some ⟨w.heap.size, 0, none⟩) 1 1)) (w.alloc (.cells #[.int .i64 p, .int .i64 q] 30))) : o.wp Tryz.prog a w K Q := by
  obtain ⟨i, hi, hz0, hz1, hz2⟩ := info_parts infoV
  exact wp_buildSlice 24 30 1 _ ho _ i _ Tryz.underlying24 hi hz0 (by rw [hz1]; decide) (by rw [hz1]; decide) (by simp only [List.map_toArray, List.map_cons, List.map_nil, hx, hz1]; kernel_rfl) h
theorem wp_build2 {o : Oper} {a : Act} {w : World} {K : Act → World → Prop} {Q : Exit → Act → World → Prop} {x y : Operand} {p q r s : Int} (ho : o.op = .buildSlice 24 2 #[(0, x), (1, y)]) (hx : a.eval x = .agg #[.int .i64 p, .int .i64 q]) (hy : a.eval y = .agg #[.int .i64 r, .int .i64 s])
    (h : K (a.put o.dst (.slice (some ⟨w.heap.size, 0, none⟩) 2 2)) (w.alloc (.cells #[.int .i64 p, .int .i64 q, .int .i64 r, .int .i64 s] 30))) : o.wp Tryz.prog a w K Q := by
  obtain ⟨i, hi, hz0, hz1, hz2⟩ := info_parts infoV
  exact wp_buildSlice 24 30 2 _ ho _ i _ Tryz.underlying24 hi hz0 (by rw [hz1]; decide) (by rw [hz1]; decide) (by simp only [List.map_toArray, List.map_cons, List.map_nil, hx, hy, hz1]; kernel_rfl) h
/-- What an instruction lays on the stack. -/
def laysF (f : Frm) (x : Int × Int × Int) (v : List V) : List V :=
  if x.1 = 0 then [(rs x.2.1, rs x.2.2)] else if x.1 = 1 then [f.loc.getD x.2.1.toNat (0, 0)] else if x.1 = 3 then [gAdd (v.getD 0 (0, 0)) (v.getD 1 (0, 0))] else if x.1 = 4 then [gSub (v.getD 0 (0, 0)) (v.getD 1 (0, 0))]
  else if x.1 = 5 then [gMul (v.getD 0 (0, 0)) (v.getD 1 (0, 0))] else if x.1 = 6 then [gQuo (v.getD 0 (0, 0)) (v.getD 1 (0, 0))] else if x.1 = 7 then [gConj (v.getD 0 (0, 0))] else if x.1 = 8 then [v.getD 0 (0, 0), v.getD 0 (0, 0)] else if x.1 = 12 then [drawZ f.seed f.drw] else []
def LaysQ (w : World) (l : List V) (e : Ending) (w' : World) : Prop := ∃ A c, e = .returned (.slice A l.length c) ∧ OwnVs w' w.heap.size (.slice A l.length c) l ∧ Below w.heap.size w w'
set_option maxHeartbeats 4000000 in
set_option maxRecDepth 100000 in
theorem lays_add (f : Frm) {As Al Ao : Option Addr} {ns cs nl cl no co c C : Nat} (a b : Int) {g off : Nat} (x y : V) (w : World) (h : VAt w C (some ⟨g, off, none⟩) [x, y]) (hC : C ≤ w.heap.size) :
    Calls Tryz.prog 57 #[fv f (.slice As ns cs) (.slice Al nl cl) (.slice Ao no co), .agg #[.int .i64 3, .int .i64 a, .int .i64 b], .slice (some ⟨g, off, none⟩) 2 c] w (LaysQ w [gAdd x y]) := by
  obtain ⟨_, _, e, hlt, hc⟩ := h (by simp)
  simp only [Option.some.injEq, Addr.mk.injEq, and_true] at e
  obtain ⟨rfl, rfl⟩ := e
  have c0 := (hc 0 (by simp)).1
  have c1 := (hc 0 (by simp)).2
  have c2 := (hc 1 (by simp)).1
  have c3 := (hc 1 (by simp)).2
  simp at c0 c1 c2 c3
  have CA := Lib.hid (fun W => radd_any x.1 x.2 y.1 y.2 W)
  have hgl : g < w.heap.size := by omega
  clear h hc
  go_enter Tryz.func57, Tryz.ntmps57
  go_upto_region 7 with (fail)
  have hb0 : Below w.heap.size w ((w.alloc (.cells #[.int .i64 f.fn, .int .i64 f.pc, .slice As ns cs, .slice Al nl cl, .slice Ao no co, .int .i64 f.seed, .int .i64 f.spn, .int .i64 f.drw, .int .i64 f.st, .int .i64 f.wt, .int .i64 f.otr, .int .i64 f.ore, .int .i64 f.oim, .int .i64 f.uat, .int .i64 f.ugn, .int .i64 f.usl] 45)).alloc (.cells #[.int .i64 3, .int .i64 a, .int .i64 b] 92)) := below2 w _ _
  generalize ((w.alloc (.cells #[.int .i64 f.fn, .int .i64 f.pc, .slice As ns cs, .slice Al nl cl, .slice Ao no co, .int .i64 f.seed, .int .i64 f.spn, .int .i64 f.drw, .int .i64 f.st, .int .i64 f.wt, .int .i64 f.otr, .int .i64 f.ore, .int .i64 f.oim, .int .i64 f.uat, .int .i64 f.ugn, .int .i64 f.usl] 45)).alloc (.cells #[.int .i64 3, .int .i64 a, .int .i64 b] 92)) = W0 at *
  refine wp_region_held_drew (S := fun W => Below w.heap.size w W) (by kernel_rfl) hb0.drew (fun hS => ?_)
  generalize W0.drew = W3 at hS ⊢
  show wpAnyH _ _ _ _ _ 9 #[false, false, false, false, false, false, false, false, false] _ _
  refine wpAnyH_take (i := 0) (v := .slice (some ⟨g, off, none⟩) 2 c) rfl (by kernel_rfl) (by kernel_rfl) (by kernel_rfl) (fun _ _ _ h => h) (Or.inl ⟨by rfl, fun W hW => ?_⟩) hS ?_
  · go_simp
  simp only [Act.put, List.getElem_toArray, List.getElem_cons_succ, List.getElem_cons_zero, List.setIfInBounds_toArray, List.set_cons_zero, List.set_cons_succ]
  refine wpAnyH_take (i := 1) (v := .pointer (some ⟨g, off, none⟩)) rfl (by kernel_rfl) (by kernel_rfl) (by kernel_rfl) (fun _ _ _ h => h) (Or.inl ⟨by rfl, fun W hW => ?_⟩) hS ?_
  · go_simp
  simp only [Act.put, List.getElem_toArray, List.getElem_cons_succ, List.getElem_cons_zero, List.setIfInBounds_toArray, List.set_cons_zero, List.set_cons_succ]
  refine wpAnyH_take (i := 2) (v := .agg #[.int .i64 x.1, .int .i64 x.2]) rfl (by kernel_rfl) (by kernel_rfl) (by kernel_rfl) (fun _ _ _ h => h) (Or.inl ⟨by rfl, fun W hW => ?_⟩) hS ?_
  · (have q0 := (hW.cell (p := ⟨g, off, none⟩) hgl).trans c0; have q1 := (hW.cell (p := ⟨g, off + 1, none⟩) hgl).trans c1; go_simp)
  simp only [Act.put, List.getElem_toArray, List.getElem_cons_succ, List.getElem_cons_zero, List.setIfInBounds_toArray, List.set_cons_zero, List.set_cons_succ]
  refine wpAnyH_take (i := 3) (v := .slice (some ⟨g, off, none⟩) 2 c) rfl (by kernel_rfl) (by kernel_rfl) (by kernel_rfl) (fun _ _ _ h => h) (Or.inl ⟨by rfl, fun W hW => ?_⟩) hS ?_
  · go_simp
  simp only [Act.put, List.getElem_toArray, List.getElem_cons_succ, List.getElem_cons_zero, List.setIfInBounds_toArray, List.set_cons_zero, List.set_cons_succ]
  refine wpAnyH_take (i := 4) (v := .pointer (some ⟨g, off + 2, none⟩)) rfl (by kernel_rfl) (by kernel_rfl) (by kernel_rfl) (fun _ _ _ h => h) (Or.inl ⟨by rfl, fun W hW => ?_⟩) hS ?_
  · go_simp
  simp only [Act.put, List.getElem_toArray, List.getElem_cons_succ, List.getElem_cons_zero, List.setIfInBounds_toArray, List.set_cons_zero, List.set_cons_succ]
  refine wpAnyH_take (i := 5) (v := .agg #[.int .i64 y.1, .int .i64 y.2]) rfl (by kernel_rfl) (by kernel_rfl) (by kernel_rfl) (fun _ _ _ h => h) (Or.inl ⟨by rfl, fun W hW => ?_⟩) hS ?_
  · (have q0 := (hW.cell (p := ⟨g, off + 2, none⟩) hgl).trans c2; have q1 := (hW.cell (p := ⟨g, off + 2 + 1, none⟩) hgl).trans c3; go_simp)
  simp only [Act.put, List.getElem_toArray, List.getElem_cons_succ, List.getElem_cons_zero, List.setIfInBounds_toArray, List.set_cons_zero, List.set_cons_succ]
  refine wpAnyH_ready (rs := [6]) (by kernel_rfl) (by simp) ?_
  refine (AllReadyH.cons rfl (fun K hK => ?_) AllReadyH.nil)
  · go_simp
    go_at_call 81
    (with_reducible refine (CA.out _).mono ?_)
    rintro _ u1 ⟨rfl, hbu⟩
    replace hS := Below.step hS hbu
    clear hbu
    (try go_wp2_with fail)
    refine hK.out _ _ hS (fun _ => ?_)
    clear hK K
    (try simp only [Act.put, List.getElem_toArray, List.getElem_cons_succ, List.getElem_cons_zero, List.setIfInBounds_toArray, List.set_cons_zero, List.set_cons_succ])
    refine wpAnyH_ready (rs := [7]) (by kernel_rfl) (by simp) ?_
    refine (AllReadyH.cons rfl (fun K hK => ?_) AllReadyH.nil)
    · rw [if_pos (by rfl)]
      refine wp_build1 rfl rfl ?_
      have f8 := OwnVs.one u1
      have l8 := Below.size hS
      refine hK.out _ _ (below_allocz hS _) (fun hS => ?_)
      clear hK K
      (try simp only [Act.put, List.getElem_toArray, List.getElem_cons_succ, List.getElem_cons_zero, List.setIfInBounds_toArray, List.set_cons_zero, List.set_cons_succ])
      refine wpAnyH_take (i := 8) (v := .slice (some ⟨u1.heap.size, 0, none⟩) 1 1) rfl (by kernel_rfl) (by kernel_rfl) (by kernel_rfl) (fun _ _ _ h => h) (Or.inl ⟨by rfl, fun W hW => ?_⟩) hS ?_
      · go_simp
      simp only [Act.put, List.getElem_toArray, List.getElem_cons_succ, List.getElem_cons_zero, List.setIfInBounds_toArray, List.set_cons_zero, List.set_cons_succ]
      refine wpAnyH_done (by kernel_rfl) ?_ _
      go_wp2_with fail
      go_ret
      exact ⟨_, _, rfl, OwnVs.mono (f8 _ _) l8, hS⟩
set_option maxHeartbeats 4000000 in
set_option maxRecDepth 100000 in
theorem lays_sub (f : Frm) {As Al Ao : Option Addr} {ns cs nl cl no co c C : Nat} (a b : Int) {g off : Nat} (x y : V) (w : World) (h : VAt w C (some ⟨g, off, none⟩) [x, y]) (hC : C ≤ w.heap.size) :
    Calls Tryz.prog 57 #[fv f (.slice As ns cs) (.slice Al nl cl) (.slice Ao no co), .agg #[.int .i64 4, .int .i64 a, .int .i64 b], .slice (some ⟨g, off, none⟩) 2 c] w (LaysQ w [gSub x y]) := by
  obtain ⟨_, _, e, hlt, hc⟩ := h (by simp)
  simp only [Option.some.injEq, Addr.mk.injEq, and_true] at e
  obtain ⟨rfl, rfl⟩ := e
  have c0 := (hc 0 (by simp)).1
  have c1 := (hc 0 (by simp)).2
  have c2 := (hc 1 (by simp)).1
  have c3 := (hc 1 (by simp)).2
  simp at c0 c1 c2 c3
  have CA := Lib.hid (fun W => rsub_any x.1 x.2 y.1 y.2 W)
  have hgl : g < w.heap.size := by omega
  clear h hc
  go_enter Tryz.func57, Tryz.ntmps57
  go_upto_region 9 with (fail)
  have hb0 : Below w.heap.size w ((w.alloc (.cells #[.int .i64 f.fn, .int .i64 f.pc, .slice As ns cs, .slice Al nl cl, .slice Ao no co, .int .i64 f.seed, .int .i64 f.spn, .int .i64 f.drw, .int .i64 f.st, .int .i64 f.wt, .int .i64 f.otr, .int .i64 f.ore, .int .i64 f.oim, .int .i64 f.uat, .int .i64 f.ugn, .int .i64 f.usl] 45)).alloc (.cells #[.int .i64 4, .int .i64 a, .int .i64 b] 92)) := below2 w _ _
  generalize ((w.alloc (.cells #[.int .i64 f.fn, .int .i64 f.pc, .slice As ns cs, .slice Al nl cl, .slice Ao no co, .int .i64 f.seed, .int .i64 f.spn, .int .i64 f.drw, .int .i64 f.st, .int .i64 f.wt, .int .i64 f.otr, .int .i64 f.ore, .int .i64 f.oim, .int .i64 f.uat, .int .i64 f.ugn, .int .i64 f.usl] 45)).alloc (.cells #[.int .i64 4, .int .i64 a, .int .i64 b] 92)) = W0 at *
  refine wp_region_held_drew (S := fun W => Below w.heap.size w W) (by kernel_rfl) hb0.drew (fun hS => ?_)
  generalize W0.drew = W3 at hS ⊢
  show wpAnyH _ _ _ _ _ 9 #[false, false, false, false, false, false, false, false, false] _ _
  refine wpAnyH_take (i := 0) (v := .slice (some ⟨g, off, none⟩) 2 c) rfl (by kernel_rfl) (by kernel_rfl) (by kernel_rfl) (fun _ _ _ h => h) (Or.inl ⟨by rfl, fun W hW => ?_⟩) hS ?_
  · go_simp
  simp only [Act.put, List.getElem_toArray, List.getElem_cons_succ, List.getElem_cons_zero, List.setIfInBounds_toArray, List.set_cons_zero, List.set_cons_succ]
  refine wpAnyH_take (i := 1) (v := .pointer (some ⟨g, off, none⟩)) rfl (by kernel_rfl) (by kernel_rfl) (by kernel_rfl) (fun _ _ _ h => h) (Or.inl ⟨by rfl, fun W hW => ?_⟩) hS ?_
  · go_simp
  simp only [Act.put, List.getElem_toArray, List.getElem_cons_succ, List.getElem_cons_zero, List.setIfInBounds_toArray, List.set_cons_zero, List.set_cons_succ]
  refine wpAnyH_take (i := 2) (v := .agg #[.int .i64 x.1, .int .i64 x.2]) rfl (by kernel_rfl) (by kernel_rfl) (by kernel_rfl) (fun _ _ _ h => h) (Or.inl ⟨by rfl, fun W hW => ?_⟩) hS ?_
  · (have q0 := (hW.cell (p := ⟨g, off, none⟩) hgl).trans c0; have q1 := (hW.cell (p := ⟨g, off + 1, none⟩) hgl).trans c1; go_simp)
  simp only [Act.put, List.getElem_toArray, List.getElem_cons_succ, List.getElem_cons_zero, List.setIfInBounds_toArray, List.set_cons_zero, List.set_cons_succ]
  refine wpAnyH_take (i := 3) (v := .slice (some ⟨g, off, none⟩) 2 c) rfl (by kernel_rfl) (by kernel_rfl) (by kernel_rfl) (fun _ _ _ h => h) (Or.inl ⟨by rfl, fun W hW => ?_⟩) hS ?_
  · go_simp
  simp only [Act.put, List.getElem_toArray, List.getElem_cons_succ, List.getElem_cons_zero, List.setIfInBounds_toArray, List.set_cons_zero, List.set_cons_succ]
  refine wpAnyH_take (i := 4) (v := .pointer (some ⟨g, off + 2, none⟩)) rfl (by kernel_rfl) (by kernel_rfl) (by kernel_rfl) (fun _ _ _ h => h) (Or.inl ⟨by rfl, fun W hW => ?_⟩) hS ?_
  · go_simp
  simp only [Act.put, List.getElem_toArray, List.getElem_cons_succ, List.getElem_cons_zero, List.setIfInBounds_toArray, List.set_cons_zero, List.set_cons_succ]
  refine wpAnyH_take (i := 5) (v := .agg #[.int .i64 y.1, .int .i64 y.2]) rfl (by kernel_rfl) (by kernel_rfl) (by kernel_rfl) (fun _ _ _ h => h) (Or.inl ⟨by rfl, fun W hW => ?_⟩) hS ?_
  · (have q0 := (hW.cell (p := ⟨g, off + 2, none⟩) hgl).trans c2; have q1 := (hW.cell (p := ⟨g, off + 2 + 1, none⟩) hgl).trans c3; go_simp)
  simp only [Act.put, List.getElem_toArray, List.getElem_cons_succ, List.getElem_cons_zero, List.setIfInBounds_toArray, List.set_cons_zero, List.set_cons_succ]
  refine wpAnyH_ready (rs := [6]) (by kernel_rfl) (by simp) ?_
  refine (AllReadyH.cons rfl (fun K hK => ?_) AllReadyH.nil)
  · go_simp
    go_at_call 82
    (with_reducible refine (CA.out _).mono ?_)
    rintro _ u1 ⟨rfl, hbu⟩
    replace hS := Below.step hS hbu
    clear hbu
    (try go_wp2_with fail)
    refine hK.out _ _ hS (fun _ => ?_)
    clear hK K
    (try simp only [Act.put, List.getElem_toArray, List.getElem_cons_succ, List.getElem_cons_zero, List.setIfInBounds_toArray, List.set_cons_zero, List.set_cons_succ])
    refine wpAnyH_ready (rs := [7]) (by kernel_rfl) (by simp) ?_
    refine (AllReadyH.cons rfl (fun K hK => ?_) AllReadyH.nil)
    · rw [if_pos (by rfl)]
      refine wp_build1 rfl rfl ?_
      have f8 := OwnVs.one u1
      have l8 := Below.size hS
      refine hK.out _ _ (below_allocz hS _) (fun hS => ?_)
      clear hK K
      (try simp only [Act.put, List.getElem_toArray, List.getElem_cons_succ, List.getElem_cons_zero, List.setIfInBounds_toArray, List.set_cons_zero, List.set_cons_succ])
      refine wpAnyH_take (i := 8) (v := .slice (some ⟨u1.heap.size, 0, none⟩) 1 1) rfl (by kernel_rfl) (by kernel_rfl) (by kernel_rfl) (fun _ _ _ h => h) (Or.inl ⟨by rfl, fun W hW => ?_⟩) hS ?_
      · go_simp
      simp only [Act.put, List.getElem_toArray, List.getElem_cons_succ, List.getElem_cons_zero, List.setIfInBounds_toArray, List.set_cons_zero, List.set_cons_succ]
      refine wpAnyH_done (by kernel_rfl) ?_ _
      go_wp2_with fail
      go_ret
      exact ⟨_, _, rfl, OwnVs.mono (f8 _ _) l8, hS⟩
set_option maxHeartbeats 4000000 in
set_option maxRecDepth 100000 in
theorem lays_mul (f : Frm) {As Al Ao : Option Addr} {ns cs nl cl no co c C : Nat} (a b : Int) {g off : Nat} (x y : V) (w : World) (h : VAt w C (some ⟨g, off, none⟩) [x, y]) (hC : C ≤ w.heap.size) :
    Calls Tryz.prog 57 #[fv f (.slice As ns cs) (.slice Al nl cl) (.slice Ao no co), .agg #[.int .i64 5, .int .i64 a, .int .i64 b], .slice (some ⟨g, off, none⟩) 2 c] w (LaysQ w [gMul x y]) := by
  obtain ⟨_, _, e, hlt, hc⟩ := h (by simp)
  simp only [Option.some.injEq, Addr.mk.injEq, and_true] at e
  obtain ⟨rfl, rfl⟩ := e
  have c0 := (hc 0 (by simp)).1
  have c1 := (hc 0 (by simp)).2
  have c2 := (hc 1 (by simp)).1
  have c3 := (hc 1 (by simp)).2
  simp at c0 c1 c2 c3
  have CA := Lib.hid (fun W => rmul_any x.1 x.2 y.1 y.2 W)
  have hgl : g < w.heap.size := by omega
  clear h hc
  go_enter Tryz.func57, Tryz.ntmps57
  go_upto_region 11 with (fail)
  have hb0 : Below w.heap.size w ((w.alloc (.cells #[.int .i64 f.fn, .int .i64 f.pc, .slice As ns cs, .slice Al nl cl, .slice Ao no co, .int .i64 f.seed, .int .i64 f.spn, .int .i64 f.drw, .int .i64 f.st, .int .i64 f.wt, .int .i64 f.otr, .int .i64 f.ore, .int .i64 f.oim, .int .i64 f.uat, .int .i64 f.ugn, .int .i64 f.usl] 45)).alloc (.cells #[.int .i64 5, .int .i64 a, .int .i64 b] 92)) := below2 w _ _
  generalize ((w.alloc (.cells #[.int .i64 f.fn, .int .i64 f.pc, .slice As ns cs, .slice Al nl cl, .slice Ao no co, .int .i64 f.seed, .int .i64 f.spn, .int .i64 f.drw, .int .i64 f.st, .int .i64 f.wt, .int .i64 f.otr, .int .i64 f.ore, .int .i64 f.oim, .int .i64 f.uat, .int .i64 f.ugn, .int .i64 f.usl] 45)).alloc (.cells #[.int .i64 5, .int .i64 a, .int .i64 b] 92)) = W0 at *
  refine wp_region_held_drew (S := fun W => Below w.heap.size w W) (by kernel_rfl) hb0.drew (fun hS => ?_)
  generalize W0.drew = W3 at hS ⊢
  show wpAnyH _ _ _ _ _ 9 #[false, false, false, false, false, false, false, false, false] _ _
  refine wpAnyH_take (i := 0) (v := .slice (some ⟨g, off, none⟩) 2 c) rfl (by kernel_rfl) (by kernel_rfl) (by kernel_rfl) (fun _ _ _ h => h) (Or.inl ⟨by rfl, fun W hW => ?_⟩) hS ?_
  · go_simp
  simp only [Act.put, List.getElem_toArray, List.getElem_cons_succ, List.getElem_cons_zero, List.setIfInBounds_toArray, List.set_cons_zero, List.set_cons_succ]
  refine wpAnyH_take (i := 1) (v := .pointer (some ⟨g, off, none⟩)) rfl (by kernel_rfl) (by kernel_rfl) (by kernel_rfl) (fun _ _ _ h => h) (Or.inl ⟨by rfl, fun W hW => ?_⟩) hS ?_
  · go_simp
  simp only [Act.put, List.getElem_toArray, List.getElem_cons_succ, List.getElem_cons_zero, List.setIfInBounds_toArray, List.set_cons_zero, List.set_cons_succ]
  refine wpAnyH_take (i := 2) (v := .agg #[.int .i64 x.1, .int .i64 x.2]) rfl (by kernel_rfl) (by kernel_rfl) (by kernel_rfl) (fun _ _ _ h => h) (Or.inl ⟨by rfl, fun W hW => ?_⟩) hS ?_
  · (have q0 := (hW.cell (p := ⟨g, off, none⟩) hgl).trans c0; have q1 := (hW.cell (p := ⟨g, off + 1, none⟩) hgl).trans c1; go_simp)
  simp only [Act.put, List.getElem_toArray, List.getElem_cons_succ, List.getElem_cons_zero, List.setIfInBounds_toArray, List.set_cons_zero, List.set_cons_succ]
  refine wpAnyH_take (i := 3) (v := .slice (some ⟨g, off, none⟩) 2 c) rfl (by kernel_rfl) (by kernel_rfl) (by kernel_rfl) (fun _ _ _ h => h) (Or.inl ⟨by rfl, fun W hW => ?_⟩) hS ?_
  · go_simp
  simp only [Act.put, List.getElem_toArray, List.getElem_cons_succ, List.getElem_cons_zero, List.setIfInBounds_toArray, List.set_cons_zero, List.set_cons_succ]
  refine wpAnyH_take (i := 4) (v := .pointer (some ⟨g, off + 2, none⟩)) rfl (by kernel_rfl) (by kernel_rfl) (by kernel_rfl) (fun _ _ _ h => h) (Or.inl ⟨by rfl, fun W hW => ?_⟩) hS ?_
  · go_simp
  simp only [Act.put, List.getElem_toArray, List.getElem_cons_succ, List.getElem_cons_zero, List.setIfInBounds_toArray, List.set_cons_zero, List.set_cons_succ]
  refine wpAnyH_take (i := 5) (v := .agg #[.int .i64 y.1, .int .i64 y.2]) rfl (by kernel_rfl) (by kernel_rfl) (by kernel_rfl) (fun _ _ _ h => h) (Or.inl ⟨by rfl, fun W hW => ?_⟩) hS ?_
  · (have q0 := (hW.cell (p := ⟨g, off + 2, none⟩) hgl).trans c2; have q1 := (hW.cell (p := ⟨g, off + 2 + 1, none⟩) hgl).trans c3; go_simp)
  simp only [Act.put, List.getElem_toArray, List.getElem_cons_succ, List.getElem_cons_zero, List.setIfInBounds_toArray, List.set_cons_zero, List.set_cons_succ]
  refine wpAnyH_ready (rs := [6]) (by kernel_rfl) (by simp) ?_
  refine (AllReadyH.cons rfl (fun K hK => ?_) AllReadyH.nil)
  · go_simp
    go_at_call 78
    (with_reducible refine (CA.out _).mono ?_)
    rintro _ u1 ⟨rfl, hbu⟩
    replace hS := Below.step hS hbu
    clear hbu
    (try go_wp2_with fail)
    refine hK.out _ _ hS (fun _ => ?_)
    clear hK K
    (try simp only [Act.put, List.getElem_toArray, List.getElem_cons_succ, List.getElem_cons_zero, List.setIfInBounds_toArray, List.set_cons_zero, List.set_cons_succ])
    refine wpAnyH_ready (rs := [7]) (by kernel_rfl) (by simp) ?_
    refine (AllReadyH.cons rfl (fun K hK => ?_) AllReadyH.nil)
    · rw [if_pos (by rfl)]
      refine wp_build1 rfl rfl ?_
      have f8 := OwnVs.one u1
      have l8 := Below.size hS
      refine hK.out _ _ (below_allocz hS _) (fun hS => ?_)
      clear hK K
      (try simp only [Act.put, List.getElem_toArray, List.getElem_cons_succ, List.getElem_cons_zero, List.setIfInBounds_toArray, List.set_cons_zero, List.set_cons_succ])
      refine wpAnyH_take (i := 8) (v := .slice (some ⟨u1.heap.size, 0, none⟩) 1 1) rfl (by kernel_rfl) (by kernel_rfl) (by kernel_rfl) (fun _ _ _ h => h) (Or.inl ⟨by rfl, fun W hW => ?_⟩) hS ?_
      · go_simp
      simp only [Act.put, List.getElem_toArray, List.getElem_cons_succ, List.getElem_cons_zero, List.setIfInBounds_toArray, List.set_cons_zero, List.set_cons_succ]
      refine wpAnyH_done (by kernel_rfl) ?_ _
      go_wp2_with fail
      go_ret
      exact ⟨_, _, rfl, OwnVs.mono (f8 _ _) l8, hS⟩
set_option maxHeartbeats 4000000 in
set_option maxRecDepth 100000 in
theorem lays_push (f : Frm) {As Al Ao : Option Addr} {ns cs nl cl no co c C : Nat} (a b : Int) (v : Value) (hv : ∃ A n c, v = .slice A n c) (w : World)   :
    Calls Tryz.prog 57 #[fv f (.slice As ns cs) (.slice Al nl cl) (.slice Ao no co), .agg #[.int .i64 0, .int .i64 a, .int .i64 b], v] w (LaysQ w [(rs a, rs b)]) := by
  obtain ⟨Av, nv, cv, rfl⟩ := hv
  have CA := Lib.hid (fun W => rof_any a b W)
  go_enter Tryz.func57, Tryz.ntmps57
  go_upto_region 3 with (fail)
  have hb0 : Below w.heap.size w ((w.alloc (.cells #[.int .i64 f.fn, .int .i64 f.pc, .slice As ns cs, .slice Al nl cl, .slice Ao no co, .int .i64 f.seed, .int .i64 f.spn, .int .i64 f.drw, .int .i64 f.st, .int .i64 f.wt, .int .i64 f.otr, .int .i64 f.ore, .int .i64 f.oim, .int .i64 f.uat, .int .i64 f.ugn, .int .i64 f.usl] 45)).alloc (.cells #[.int .i64 0, .int .i64 a, .int .i64 b] 92)) := below2 w _ _
  have hi := Held.new1 w (.cells #[.int .i64 f.fn, .int .i64 f.pc, .slice As ns cs, .slice Al nl cl, .slice Ao no co, .int .i64 f.seed, .int .i64 f.spn, .int .i64 f.drw, .int .i64 f.st, .int .i64 f.wt, .int .i64 f.otr, .int .i64 f.ore, .int .i64 f.oim, .int .i64 f.uat, .int .i64 f.ugn, .int .i64 f.usl] 45) 92 #[.int .i64 0, .int .i64 a, .int .i64 b]
  generalize ((w.alloc (.cells #[.int .i64 f.fn, .int .i64 f.pc, .slice As ns cs, .slice Al nl cl, .slice Ao no co, .int .i64 f.seed, .int .i64 f.spn, .int .i64 f.drw, .int .i64 f.st, .int .i64 f.wt, .int .i64 f.otr, .int .i64 f.ore, .int .i64 f.oim, .int .i64 f.uat, .int .i64 f.ugn, .int .i64 f.usl] 45)).alloc (.cells #[.int .i64 0, .int .i64 a, .int .i64 b] 92)) = W0 at *
  have i1 := hi.cell 1
  have i2 := hi.cell 2
  simp at i1 i2
  go_wp2_with (go_at_call 58; (with_reducible refine (CA.out _).mono ?_); rintro _ u ⟨rfl, hb⟩)
  go_ret
  exact ⟨_, _, rfl, OwnVs.mono (OwnVs.one _ _ _) (Nat.le_trans hb0.size hb.size), below_allocz (Below.step hb0 hb) _⟩
set_option maxHeartbeats 4000000 in
set_option maxRecDepth 100000 in
theorem lays_rand (f : Frm) {As Al Ao : Option Addr} {ns cs nl cl no co c C : Nat} (a b : Int) (v : Value) (hv : ∃ A n c, v = .slice A n c) (w : World)   :
    Calls Tryz.prog 57 #[fv f (.slice As ns cs) (.slice Al nl cl) (.slice Ao no co), .agg #[.int .i64 12, .int .i64 a, .int .i64 b], v] w (LaysQ w [drawZ f.seed f.drw]) := by
  obtain ⟨Av, nv, cv, rfl⟩ := hv
  have CA := Lib.hid (rdraw_any f.seed f.drw)
  go_enter Tryz.func57, Tryz.ntmps57
  go_upto_region 20 with (fail)
  have hb0 : Below w.heap.size w ((w.alloc (.cells #[.int .i64 f.fn, .int .i64 f.pc, .slice As ns cs, .slice Al nl cl, .slice Ao no co, .int .i64 f.seed, .int .i64 f.spn, .int .i64 f.drw, .int .i64 f.st, .int .i64 f.wt, .int .i64 f.otr, .int .i64 f.ore, .int .i64 f.oim, .int .i64 f.uat, .int .i64 f.ugn, .int .i64 f.usl] 45)).alloc (.cells #[.int .i64 12, .int .i64 a, .int .i64 b] 92)) := below2 w _ _
  have hi := (Held.new w 45 #[.int .i64 f.fn, .int .i64 f.pc, .slice As ns cs, .slice Al nl cl, .slice Ao no co, .int .i64 f.seed, .int .i64 f.spn, .int .i64 f.drw, .int .i64 f.st, .int .i64 f.wt, .int .i64 f.otr, .int .i64 f.ore, .int .i64 f.oim, .int .i64 f.uat, .int .i64 f.ugn, .int .i64 f.usl]).alloc (.cells #[.int .i64 12, .int .i64 a, .int .i64 b] 92)
  generalize ((w.alloc (.cells #[.int .i64 f.fn, .int .i64 f.pc, .slice As ns cs, .slice Al nl cl, .slice Ao no co, .int .i64 f.seed, .int .i64 f.spn, .int .i64 f.drw, .int .i64 f.st, .int .i64 f.wt, .int .i64 f.otr, .int .i64 f.ore, .int .i64 f.oim, .int .i64 f.uat, .int .i64 f.ugn, .int .i64 f.usl] 45)).alloc (.cells #[.int .i64 12, .int .i64 a, .int .i64 b] 92)) = W0 at *
  have i1 := hi.cell 5
  have i2 := hi.cell 7
  simp at i1 i2
  go_wp2_with (go_at_call 83; (with_reducible refine (CA.out.go _).mono ?_); rintro _ u ⟨rfl, hb⟩)
  go_ret
  exact ⟨_, _, rfl, OwnVs.mono (OwnVs.one _ _ _) (Nat.le_trans hb0.size hb.size), below_allocz (Below.step hb0 hb) _⟩
set_option maxHeartbeats 4000000 in
set_option maxRecDepth 100000 in
theorem lays_conj (f : Frm) {As Al Ao : Option Addr} {ns cs nl cl no co c C : Nat} (a b : Int) {g off : Nat} (x : V) (w : World) (h : VAt w C (some ⟨g, off, none⟩) [x]) (hC : C ≤ w.heap.size) :
    Calls Tryz.prog 57 #[fv f (.slice As ns cs) (.slice Al nl cl) (.slice Ao no co), .agg #[.int .i64 7, .int .i64 a, .int .i64 b], .slice (some ⟨g, off, none⟩) 1 c] w (LaysQ w [gConj x]) := by
  obtain ⟨_, _, e, hlt, hc⟩ := h (by simp)
  simp only [Option.some.injEq, Addr.mk.injEq, and_true] at e
  obtain ⟨rfl, rfl⟩ := e
  have c0 := (hc 0 (by simp)).1
  have c1 := (hc 0 (by simp)).2
  simp at c0 c1
  have hgl : g < w.heap.size := by omega
  clear h hc
  have CA := Lib.hid (fun W => rconj_any x.1 x.2 W)
  go_enter Tryz.func57, Tryz.ntmps57
  go_upto_region 16 with (fail)
  have hb0 : Below w.heap.size w ((w.alloc (.cells #[.int .i64 f.fn, .int .i64 f.pc, .slice As ns cs, .slice Al nl cl, .slice Ao no co, .int .i64 f.seed, .int .i64 f.spn, .int .i64 f.drw, .int .i64 f.st, .int .i64 f.wt, .int .i64 f.otr, .int .i64 f.ore, .int .i64 f.oim, .int .i64 f.uat, .int .i64 f.ugn, .int .i64 f.usl] 45)).alloc (.cells #[.int .i64 7, .int .i64 a, .int .i64 b] 92)) := below2 w _ _
  generalize ((w.alloc (.cells #[.int .i64 f.fn, .int .i64 f.pc, .slice As ns cs, .slice Al nl cl, .slice Ao no co, .int .i64 f.seed, .int .i64 f.spn, .int .i64 f.drw, .int .i64 f.st, .int .i64 f.wt, .int .i64 f.otr, .int .i64 f.ore, .int .i64 f.oim, .int .i64 f.uat, .int .i64 f.ugn, .int .i64 f.usl] 45)).alloc (.cells #[.int .i64 7, .int .i64 a, .int .i64 b] 92)) = W0 at *
  replace c0 := (hb0.cell (p := ⟨g, off, none⟩) hgl).trans c0
  replace c1 := (hb0.cell (p := ⟨g, off + 1, none⟩) hgl).trans c1
  go_wp2_with (go_at_call 79; (with_reducible refine (CA.out _).mono ?_); rintro _ u ⟨rfl, hb⟩)
  go_ret
  exact ⟨_, _, rfl, OwnVs.mono (OwnVs.one _ _ _) (Nat.le_trans hb0.size hb.size), below_allocz (Below.step hb0 hb) _⟩
set_option maxHeartbeats 4000000 in
set_option maxRecDepth 100000 in
theorem lays_load (f : Frm) {As Al Ao : Option Addr} {ns cs nl cl no co c C : Nat} (a b : Int) {gl ol m : Nat} (v : Value) (hv : ∃ A n c, v = .slice A n c) (x : V) (w : World) (hl : w.cell? ⟨gl, ol + m * 2, none⟩ = some (.int .i64 x.1) ∧ w.cell? ⟨gl, ol + m * 2 + 1, none⟩ = some (.int .i64 x.2)) (hgl : gl < w.heap.size) (hm : m < nl)  :
    Calls Tryz.prog 57 #[fv f (.slice As ns cs) (.slice (some ⟨gl, ol, none⟩) nl cl) (.slice Ao no co), .agg #[.int .i64 1, .int .i64 m, .int .i64 b], v] w (LaysQ w [x]) := by
  obtain ⟨Av, nv, cv, rfl⟩ := hv
  obtain ⟨c0, c1⟩ := hl
  have hm2 : (m : Int) < nl := by omega
  go_enter Tryz.func57, Tryz.ntmps57
  go_upto_region 5 with (fail)
  have hb0 : Below w.heap.size w ((w.alloc (.cells #[.int .i64 f.fn, .int .i64 f.pc, .slice As ns cs, .slice (some ⟨gl, ol, none⟩) nl cl, .slice Ao no co, .int .i64 f.seed, .int .i64 f.spn, .int .i64 f.drw, .int .i64 f.st, .int .i64 f.wt, .int .i64 f.otr, .int .i64 f.ore, .int .i64 f.oim, .int .i64 f.uat, .int .i64 f.ugn, .int .i64 f.usl] 45)).alloc (.cells #[.int .i64 1, .int .i64 m, .int .i64 b] 92)) := below2 w _ _
  have hi := Held.new1 w (.cells #[.int .i64 f.fn, .int .i64 f.pc, .slice As ns cs, .slice (some ⟨gl, ol, none⟩) nl cl, .slice Ao no co, .int .i64 f.seed, .int .i64 f.spn, .int .i64 f.drw, .int .i64 f.st, .int .i64 f.wt, .int .i64 f.otr, .int .i64 f.ore, .int .i64 f.oim, .int .i64 f.uat, .int .i64 f.ugn, .int .i64 f.usl] 45) 92 #[.int .i64 1, .int .i64 m, .int .i64 b]
  have hf := (Held.new w 45 #[.int .i64 f.fn, .int .i64 f.pc, .slice As ns cs, .slice (some ⟨gl, ol, none⟩) nl cl, .slice Ao no co, .int .i64 f.seed, .int .i64 f.spn, .int .i64 f.drw, .int .i64 f.st, .int .i64 f.wt, .int .i64 f.otr, .int .i64 f.ore, .int .i64 f.oim, .int .i64 f.uat, .int .i64 f.ugn, .int .i64 f.usl]).alloc (.cells #[.int .i64 1, .int .i64 m, .int .i64 b] 92)
  generalize ((w.alloc (.cells #[.int .i64 f.fn, .int .i64 f.pc, .slice As ns cs, .slice (some ⟨gl, ol, none⟩) nl cl, .slice Ao no co, .int .i64 f.seed, .int .i64 f.spn, .int .i64 f.drw, .int .i64 f.st, .int .i64 f.wt, .int .i64 f.otr, .int .i64 f.ore, .int .i64 f.oim, .int .i64 f.uat, .int .i64 f.ugn, .int .i64 f.usl] 45)).alloc (.cells #[.int .i64 1, .int .i64 m, .int .i64 b] 92)) = W0 at *
  have i1 := hi.cell 1
  have i2 := hf.cell 3
  simp at i1 i2
  replace c0 := (hb0.cell (p := ⟨gl, ol + m * 2, none⟩) hgl).trans c0
  replace c1 := (hb0.cell (p := ⟨gl, ol + m * 2 + 1, none⟩) hgl).trans c1
  go_wp2_with fail
  go_ret
  exact ⟨_, _, rfl, OwnVs.mono (OwnVs.one _ _ _) hb0.size, below_allocz hb0 _⟩
set_option maxHeartbeats 4000000 in
set_option maxRecDepth 100000 in
theorem lays_none (f : Frm) {As Al Ao : Option Addr} {ns cs nl cl no co c C : Nat} (o a b : Int) (v : Value) (hv : ∃ A n c, v = .slice A n c) (w : World) (ho : o = 2 ∨ o = 9 ∨ o = 10 ∨ o = 11) :
    Calls Tryz.prog 57 #[fv f (.slice As ns cs) (.slice Al nl cl) (.slice Ao no co), .agg #[.int .i64 o, .int .i64 a, .int .i64 b], v] w (LaysQ w []) := by
  obtain ⟨Av, nv, cv, rfl⟩ := hv
  rcases ho with rfl | rfl | rfl | rfl
  all_goals
    go_enter Tryz.func57, Tryz.ntmps57
    go_wp2_with fail
    go_ret
    exact ⟨_, _, rfl, OwnVs.nil _ _, by go_grown⟩
set_option maxHeartbeats 4000000 in
set_option maxRecDepth 100000 in
theorem lays_dup (f : Frm) {As Al Ao : Option Addr} {ns cs nl cl no co c C : Nat} (a b : Int) {g off : Nat} (x : V) (w : World) (h : VAt w C (some ⟨g, off, none⟩) [x]) (hC : C ≤ w.heap.size) :
    Calls Tryz.prog 57 #[fv f (.slice As ns cs) (.slice Al nl cl) (.slice Ao no co), .agg #[.int .i64 8, .int .i64 a, .int .i64 b], .slice (some ⟨g, off, none⟩) 1 c] w (LaysQ w [x, x]) := by
  obtain ⟨_, _, e, hlt, hc⟩ := h (by simp)
  simp only [Option.some.injEq, Addr.mk.injEq, and_true] at e
  obtain ⟨rfl, rfl⟩ := e
  have c0 := (hc 0 (by simp)).1
  have c1 := (hc 0 (by simp)).2
  simp at c0 c1
  have hgl : g < w.heap.size := by omega
  clear h hc
  go_enter Tryz.func57, Tryz.ntmps57
  go_upto_region 18 with (fail)
  have hb0 : Below w.heap.size w ((w.alloc (.cells #[.int .i64 f.fn, .int .i64 f.pc, .slice As ns cs, .slice Al nl cl, .slice Ao no co, .int .i64 f.seed, .int .i64 f.spn, .int .i64 f.drw, .int .i64 f.st, .int .i64 f.wt, .int .i64 f.otr, .int .i64 f.ore, .int .i64 f.oim, .int .i64 f.uat, .int .i64 f.ugn, .int .i64 f.usl] 45)).alloc (.cells #[.int .i64 8, .int .i64 a, .int .i64 b] 92)) := below2 w _ _
  generalize ((w.alloc (.cells #[.int .i64 f.fn, .int .i64 f.pc, .slice As ns cs, .slice Al nl cl, .slice Ao no co, .int .i64 f.seed, .int .i64 f.spn, .int .i64 f.drw, .int .i64 f.st, .int .i64 f.wt, .int .i64 f.otr, .int .i64 f.ore, .int .i64 f.oim, .int .i64 f.uat, .int .i64 f.ugn, .int .i64 f.usl] 45)).alloc (.cells #[.int .i64 8, .int .i64 a, .int .i64 b] 92)) = W0 at *
  refine wp_region_held_drew (S := fun W => Below w.heap.size w W) (by kernel_rfl) hb0.drew (fun hS => ?_)
  generalize W0.drew = W3 at hS ⊢
  show wpAnyH _ _ _ _ _ 8 #[false, false, false, false, false, false, false, false] _ _
  refine wpAnyH_take (i := 0) (v := .slice (some ⟨g, off, none⟩) 1 c) rfl (by kernel_rfl) (by kernel_rfl) (by kernel_rfl) (fun _ _ _ h => h) (Or.inl ⟨by rfl, fun W hW => ?_⟩) hS ?_
  · go_simp
  simp only [Act.put, List.getElem_toArray, List.getElem_cons_succ, List.getElem_cons_zero, List.setIfInBounds_toArray, List.set_cons_zero, List.set_cons_succ]
  refine wpAnyH_take (i := 1) (v := .pointer (some ⟨g, off, none⟩)) rfl (by kernel_rfl) (by kernel_rfl) (by kernel_rfl) (fun _ _ _ h => h) (Or.inl ⟨by rfl, fun W hW => ?_⟩) hS ?_
  · go_simp
  simp only [Act.put, List.getElem_toArray, List.getElem_cons_succ, List.getElem_cons_zero, List.setIfInBounds_toArray, List.set_cons_zero, List.set_cons_succ]
  refine wpAnyH_take (i := 2) (v := .agg #[.int .i64 x.1, .int .i64 x.2]) rfl (by kernel_rfl) (by kernel_rfl) (by kernel_rfl) (fun _ _ _ h => h) (Or.inl ⟨by rfl, fun W hW => ?_⟩) hS ?_
  · (have q0 := (hW.cell (p := ⟨g, off, none⟩) hgl).trans c0; have q1 := (hW.cell (p := ⟨g, off + 1, none⟩) hgl).trans c1; go_simp)
  simp only [Act.put, List.getElem_toArray, List.getElem_cons_succ, List.getElem_cons_zero, List.setIfInBounds_toArray, List.set_cons_zero, List.set_cons_succ]
  refine wpAnyH_take (i := 3) (v := .slice (some ⟨g, off, none⟩) 1 c) rfl (by kernel_rfl) (by kernel_rfl) (by kernel_rfl) (fun _ _ _ h => h) (Or.inl ⟨by rfl, fun W hW => ?_⟩) hS ?_
  · go_simp
  simp only [Act.put, List.getElem_toArray, List.getElem_cons_succ, List.getElem_cons_zero, List.setIfInBounds_toArray, List.set_cons_zero, List.set_cons_succ]
  refine wpAnyH_take (i := 4) (v := .pointer (some ⟨g, off, none⟩)) rfl (by kernel_rfl) (by kernel_rfl) (by kernel_rfl) (fun _ _ _ h => h) (Or.inl ⟨by rfl, fun W hW => ?_⟩) hS ?_
  · go_simp
  simp only [Act.put, List.getElem_toArray, List.getElem_cons_succ, List.getElem_cons_zero, List.setIfInBounds_toArray, List.set_cons_zero, List.set_cons_succ]
  refine wpAnyH_take (i := 5) (v := .agg #[.int .i64 x.1, .int .i64 x.2]) rfl (by kernel_rfl) (by kernel_rfl) (by kernel_rfl) (fun _ _ _ h => h) (Or.inl ⟨by rfl, fun W hW => ?_⟩) hS ?_
  · (have q0 := (hW.cell (p := ⟨g, off, none⟩) hgl).trans c0; have q1 := (hW.cell (p := ⟨g, off + 1, none⟩) hgl).trans c1; go_simp)
  simp only [Act.put, List.getElem_toArray, List.getElem_cons_succ, List.getElem_cons_zero, List.setIfInBounds_toArray, List.set_cons_zero, List.set_cons_succ]
  refine wpAnyH_ready (rs := [6]) (by kernel_rfl) (by simp) ?_
  refine (AllReadyH.cons rfl (fun K hK => ?_) AllReadyH.nil)
  · rw [if_pos (by rfl)]
    refine wp_build2 rfl rfl rfl ?_
    have f8 := OwnVs.two W3
    have l8 := Below.size hS
    refine hK.out _ _ (below_allocz hS _) (fun hS => ?_)
    clear hK K
    (try simp only [Act.put, List.getElem_toArray, List.getElem_cons_succ, List.getElem_cons_zero, List.setIfInBounds_toArray, List.set_cons_zero, List.set_cons_succ])
    refine wpAnyH_take (i := 7) (v := .slice (some ⟨W3.heap.size, 0, none⟩) 2 2) rfl (by kernel_rfl) (by kernel_rfl) (by kernel_rfl) (fun _ _ _ h => h) (Or.inl ⟨by rfl, fun W hW => ?_⟩) hS ?_
    · go_simp
    simp only [Act.put, List.getElem_toArray, List.getElem_cons_succ, List.getElem_cons_zero, List.setIfInBounds_toArray, List.set_cons_zero, List.set_cons_succ]
    refine wpAnyH_done (by kernel_rfl) ?_ _
    go_wp2_with fail
    go_ret
    exact ⟨_, _, rfl, OwnVs.mono (f8 _ _ _ _) l8, hS⟩
theorem rdiv_yes (x y : V) (w : World) (h : gNorm y ≠ 0) : Calls Tryz.prog 56 #[.agg #[.int .i64 x.1, .int .i64 x.2], .agg #[.int .i64 y.1, .int .i64 y.2]] w fun e w' => e = .returned (.tuple #[.agg #[.int .i64 (gQuo x y).1, .int .i64 (gQuo x y).2], .bool true]) ∧ Below w.heap.size w w' := by
  have := rdiv_any x.1 x.2 y.1 y.2 w
  simpa [h] using this
set_option maxHeartbeats 4000000 in
set_option maxRecDepth 100000 in
theorem lays_div (f : Frm) {As Al Ao : Option Addr} {ns cs nl cl no co c C : Nat} (a b : Int) {g off : Nat} (x y : V) (w : World) (h : VAt w C (some ⟨g, off, none⟩) [x, y]) (hC : C ≤ w.heap.size) (hN : gNorm y ≠ 0) :
    Calls Tryz.prog 57 #[fv f (.slice As ns cs) (.slice Al nl cl) (.slice Ao no co), .agg #[.int .i64 6, .int .i64 a, .int .i64 b], .slice (some ⟨g, off, none⟩) 2 c] w (LaysQ w [gQuo x y]) := by
  obtain ⟨_, _, e, hlt, hc⟩ := h (by simp)
  simp only [Option.some.injEq, Addr.mk.injEq, and_true] at e
  obtain ⟨rfl, rfl⟩ := e
  have c0 := (hc 0 (by simp)).1
  have c1 := (hc 0 (by simp)).2
  have c2 := (hc 1 (by simp)).1
  have c3 := (hc 1 (by simp)).2
  simp at c0 c1 c2 c3
  have CA := Lib.hid (fun W => rdiv_yes x y W hN)
  have hgl : g < w.heap.size := by omega
  clear h hc
  go_enter Tryz.func57, Tryz.ntmps57
  go_upto_region 13 with (fail)
  have hb0 : Below w.heap.size w ((w.alloc (.cells #[.int .i64 f.fn, .int .i64 f.pc, .slice As ns cs, .slice Al nl cl, .slice Ao no co, .int .i64 f.seed, .int .i64 f.spn, .int .i64 f.drw, .int .i64 f.st, .int .i64 f.wt, .int .i64 f.otr, .int .i64 f.ore, .int .i64 f.oim, .int .i64 f.uat, .int .i64 f.ugn, .int .i64 f.usl] 45)).alloc (.cells #[.int .i64 6, .int .i64 a, .int .i64 b] 92)) := below2 w _ _
  generalize ((w.alloc (.cells #[.int .i64 f.fn, .int .i64 f.pc, .slice As ns cs, .slice Al nl cl, .slice Ao no co, .int .i64 f.seed, .int .i64 f.spn, .int .i64 f.drw, .int .i64 f.st, .int .i64 f.wt, .int .i64 f.otr, .int .i64 f.ore, .int .i64 f.oim, .int .i64 f.uat, .int .i64 f.ugn, .int .i64 f.usl] 45)).alloc (.cells #[.int .i64 6, .int .i64 a, .int .i64 b] 92)) = W0 at *
  go_cut [7] (fun v7 wx => ∃ g7, v7 = .pointer (some ⟨g7, 0, none⟩) ∧ Held wx g7 30 #[.int .i64 (gQuo x y).1, .int .i64 (gQuo x y).2] ∧ Below w.heap.size w wx)
  case first =>
    refine wp_region_held_drew (S := fun W => Below w.heap.size w W) (by kernel_rfl) hb0.drew (fun hS => ?_)
    generalize W0.drew = W3 at hS ⊢
    show wpAnyH _ _ _ _ _ 13 #[false, false, false, false, false, false, false, false, false, false, false, false, false] _ _
    refine wpAnyH_take (i := 0) (v := .slice (some ⟨g, off, none⟩) 2 c) rfl (by kernel_rfl) (by kernel_rfl) (by kernel_rfl) (fun _ _ _ h => h) (Or.inl ⟨by rfl, fun W hW => ?_⟩) hS ?_
    · go_simp
    simp only [Act.put, List.getElem_toArray, List.getElem_cons_succ, List.getElem_cons_zero, List.setIfInBounds_toArray, List.set_cons_zero, List.set_cons_succ]
    refine wpAnyH_take (i := 1) (v := .pointer (some ⟨g, off, none⟩)) rfl (by kernel_rfl) (by kernel_rfl) (by kernel_rfl) (fun _ _ _ h => h) (Or.inl ⟨by rfl, fun W hW => ?_⟩) hS ?_
    · go_simp
    simp only [Act.put, List.getElem_toArray, List.getElem_cons_succ, List.getElem_cons_zero, List.setIfInBounds_toArray, List.set_cons_zero, List.set_cons_succ]
    refine wpAnyH_take (i := 2) (v := .agg #[.int .i64 x.1, .int .i64 x.2]) rfl (by kernel_rfl) (by kernel_rfl) (by kernel_rfl) (fun _ _ _ h => h) (Or.inl ⟨by rfl, fun W hW => ?_⟩) hS ?_
    · (have q0 := (hW.cell (p := ⟨g, off, none⟩) hgl).trans c0; have q1 := (hW.cell (p := ⟨g, off + 1, none⟩) hgl).trans c1; go_simp)
    simp only [Act.put, List.getElem_toArray, List.getElem_cons_succ, List.getElem_cons_zero, List.setIfInBounds_toArray, List.set_cons_zero, List.set_cons_succ]
    refine wpAnyH_take (i := 3) (v := .slice (some ⟨g, off, none⟩) 2 c) rfl (by kernel_rfl) (by kernel_rfl) (by kernel_rfl) (fun _ _ _ h => h) (Or.inl ⟨by rfl, fun W hW => ?_⟩) hS ?_
    · go_simp
    simp only [Act.put, List.getElem_toArray, List.getElem_cons_succ, List.getElem_cons_zero, List.setIfInBounds_toArray, List.set_cons_zero, List.set_cons_succ]
    refine wpAnyH_take (i := 4) (v := .pointer (some ⟨g, off + 2, none⟩)) rfl (by kernel_rfl) (by kernel_rfl) (by kernel_rfl) (fun _ _ _ h => h) (Or.inl ⟨by rfl, fun W hW => ?_⟩) hS ?_
    · go_simp
    simp only [Act.put, List.getElem_toArray, List.getElem_cons_succ, List.getElem_cons_zero, List.setIfInBounds_toArray, List.set_cons_zero, List.set_cons_succ]
    refine wpAnyH_take (i := 5) (v := .agg #[.int .i64 y.1, .int .i64 y.2]) rfl (by kernel_rfl) (by kernel_rfl) (by kernel_rfl) (fun _ _ _ h => h) (Or.inl ⟨by rfl, fun W hW => ?_⟩) hS ?_
    · (have q0 := (hW.cell (p := ⟨g, off + 2, none⟩) hgl).trans c2; have q1 := (hW.cell (p := ⟨g, off + 2 + 1, none⟩) hgl).trans c3; go_simp)
    simp only [Act.put, List.getElem_toArray, List.getElem_cons_succ, List.getElem_cons_zero, List.setIfInBounds_toArray, List.set_cons_zero, List.set_cons_succ]
    refine wpAnyH_ready (rs := [6, 10]) (by kernel_rfl) (by simp) ?_
    refine (AllReadyH.cons rfl (fun K hK => ?_) (AllReadyH.cons rfl (fun K hK => ?_) AllReadyH.nil))
    · go_simp
      go_at_call 56
      (with_reducible refine (CA.out _).mono ?_)
      rintro _ u1 ⟨rfl, hbu⟩
      replace hS := Below.step hS hbu
      clear hbu
      (try go_wp2_with fail)
      refine hK.out _ _ hS (fun _ => ?_)
      clear hK K
      (try simp only [Act.put, List.getElem_toArray, List.getElem_cons_succ, List.getElem_cons_zero, List.setIfInBounds_toArray, List.set_cons_zero, List.set_cons_succ])
      refine wpAnyH_take (i := 7) (v := .tuple #[.agg #[.int .i64 (gQuo x y).1, .int .i64 (gQuo x y).2], .bool true]) rfl (by kernel_rfl) (by kernel_rfl) (by kernel_rfl) (fun _ _ _ h => h) (Or.inl ⟨by rfl, fun W hW => ?_⟩) hS ?_
      · go_simp
      simp only [Act.put, List.getElem_toArray, List.getElem_cons_succ, List.getElem_cons_zero, List.setIfInBounds_toArray, List.set_cons_zero, List.set_cons_succ]
      refine wpAnyH_take (i := 8) (v := .agg #[.int .i64 (gQuo x y).1, .int .i64 (gQuo x y).2]) rfl (by kernel_rfl) (by kernel_rfl) (by kernel_rfl) (fun _ _ _ h => h) (Or.inl ⟨by rfl, fun W hW => ?_⟩) hS ?_
      · go_simp
      simp only [Act.put, List.getElem_toArray, List.getElem_cons_succ, List.getElem_cons_zero, List.setIfInBounds_toArray, List.set_cons_zero, List.set_cons_succ]
      refine wpAnyH_take (i := 9) (v := .bool true) rfl (by kernel_rfl) (by kernel_rfl) (by kernel_rfl) (fun _ _ _ h => h) (Or.inl ⟨by rfl, fun W hW => ?_⟩) hS ?_
      · go_simp
      simp only [Act.put, List.getElem_toArray, List.getElem_cons_succ, List.getElem_cons_zero, List.setIfInBounds_toArray, List.set_cons_zero, List.set_cons_succ]
      refine wpAnyH_ready (rs := [10]) (by kernel_rfl) (by simp) ?_
      refine (AllReadyH.cons rfl (fun K hK => ?_) AllReadyH.nil)
      · rw [if_pos (by rfl)]
        refine wp_alloc_arr 30 rfl #[.int .i64 0, .int .i64 0] (by kernel_rfl) ?_
        have f7 := Held.new u1 30 #[.int .i64 0, .int .i64 0]
        have lf7 := Below.size hS
        replace hS := below_allocz hS (.cells #[.int .i64 0, .int .i64 0] 30)
        generalize u1.alloc (.cells #[.int .i64 0, .int .i64 0] 30) = W2z at *
        refine hK.out _ _ hS (fun _ => ?_)
        clear hK K
        (try simp only [Act.put, List.getElem_toArray, List.getElem_cons_succ, List.getElem_cons_zero, List.setIfInBounds_toArray, List.set_cons_zero, List.set_cons_succ])
        refine wpAnyH_ready (rs := [11]) (by kernel_rfl) (by simp) ?_
        refine (AllReadyH.cons rfl (fun K hK => ?_) AllReadyH.nil)
        · rw [if_pos (by rfl)]
          refine wp_store_row 30 _ _ rfl _ #[.int .i64 (gQuo x y).1, .int .i64 (gQuo x y).2] (by rfl) (by rfl) _ _ f7 (by kernel_rfl) (by rfl) (by simp [Value.oneCell']) ?_
          replace hS := below_rowz hS lf7 #[.int .i64 (gQuo x y).1, .int .i64 (gQuo x y).2]
          replace f7 := Held.rowSelf f7 #[.int .i64 (gQuo x y).1, .int .i64 (gQuo x y).2]
          generalize W2z.setRow _ #[.int .i64 (gQuo x y).1, .int .i64 (gQuo x y).2] = W3z at *
          refine hK.out _ _ hS (fun _ => ?_)
          clear hK K
          (try simp only [Act.put, List.getElem_toArray, List.getElem_cons_succ, List.getElem_cons_zero, List.setIfInBounds_toArray, List.set_cons_zero, List.set_cons_succ])
          refine wpAnyH_take (i := 12) (v := .bool true) rfl (by kernel_rfl) (by kernel_rfl) (by kernel_rfl) (fun _ _ _ h => h) (Or.inl ⟨by rfl, fun W hW => ?_⟩) hS ?_
          · go_simp
          simp only [Act.put, List.getElem_toArray, List.getElem_cons_succ, List.getElem_cons_zero, List.setIfInBounds_toArray, List.set_cons_zero, List.set_cons_succ]
          refine wpAnyH_done (by kernel_rfl) ?_ _
          go_wp2_with fail
          go_meet
          case rel => exact ⟨_, rfl, f7, hS⟩
    · rw [if_pos (by rfl)]
      refine wp_alloc_arr 30 rfl #[.int .i64 0, .int .i64 0] (by kernel_rfl) ?_
      have f7 := Held.new W3 30 #[.int .i64 0, .int .i64 0]
      have lf7 := Below.size hS
      replace hS := below_allocz hS (.cells #[.int .i64 0, .int .i64 0] 30)
      generalize W3.alloc (.cells #[.int .i64 0, .int .i64 0] 30) = W1z at *
      refine hK.out _ _ hS (fun _ => ?_)
      clear hK K
      (try simp only [Act.put, List.getElem_toArray, List.getElem_cons_succ, List.getElem_cons_zero, List.setIfInBounds_toArray, List.set_cons_zero, List.set_cons_succ])
      refine wpAnyH_ready (rs := [6]) (by kernel_rfl) (by simp) ?_
      refine (AllReadyH.cons rfl (fun K hK => ?_) AllReadyH.nil)
      · go_simp
        go_at_call 56
        (with_reducible refine (CA.out _).mono ?_)
        rintro _ u2 ⟨rfl, hbu⟩
        replace f7 := Held.below f7 hbu
        replace hS := Below.step hS hbu
        clear hbu
        (try go_wp2_with fail)
        refine hK.out _ _ hS (fun _ => ?_)
        clear hK K
        (try simp only [Act.put, List.getElem_toArray, List.getElem_cons_succ, List.getElem_cons_zero, List.setIfInBounds_toArray, List.set_cons_zero, List.set_cons_succ])
        refine wpAnyH_take (i := 7) (v := .tuple #[.agg #[.int .i64 (gQuo x y).1, .int .i64 (gQuo x y).2], .bool true]) rfl (by kernel_rfl) (by kernel_rfl) (by kernel_rfl) (fun _ _ _ h => h) (Or.inl ⟨by rfl, fun W hW => ?_⟩) hS ?_
        · go_simp
        simp only [Act.put, List.getElem_toArray, List.getElem_cons_succ, List.getElem_cons_zero, List.setIfInBounds_toArray, List.set_cons_zero, List.set_cons_succ]
        refine wpAnyH_take (i := 8) (v := .agg #[.int .i64 (gQuo x y).1, .int .i64 (gQuo x y).2]) rfl (by kernel_rfl) (by kernel_rfl) (by kernel_rfl) (fun _ _ _ h => h) (Or.inl ⟨by rfl, fun W hW => ?_⟩) hS ?_
        · go_simp
        simp only [Act.put, List.getElem_toArray, List.getElem_cons_succ, List.getElem_cons_zero, List.setIfInBounds_toArray, List.set_cons_zero, List.set_cons_succ]
        refine wpAnyH_take (i := 9) (v := .bool true) rfl (by kernel_rfl) (by kernel_rfl) (by kernel_rfl) (fun _ _ _ h => h) (Or.inl ⟨by rfl, fun W hW => ?_⟩) hS ?_
        · go_simp
        simp only [Act.put, List.getElem_toArray, List.getElem_cons_succ, List.getElem_cons_zero, List.setIfInBounds_toArray, List.set_cons_zero, List.set_cons_succ]
        refine wpAnyH_ready (rs := [11]) (by kernel_rfl) (by simp) ?_
        refine (AllReadyH.cons rfl (fun K hK => ?_) AllReadyH.nil)
        · rw [if_pos (by rfl)]
          refine wp_store_row 30 _ _ rfl _ #[.int .i64 (gQuo x y).1, .int .i64 (gQuo x y).2] (by rfl) (by rfl) _ _ f7 (by kernel_rfl) (by rfl) (by simp [Value.oneCell']) ?_
          replace hS := below_rowz hS lf7 #[.int .i64 (gQuo x y).1, .int .i64 (gQuo x y).2]
          replace f7 := Held.rowSelf f7 #[.int .i64 (gQuo x y).1, .int .i64 (gQuo x y).2]
          generalize u2.setRow _ #[.int .i64 (gQuo x y).1, .int .i64 (gQuo x y).2] = W3z at *
          refine hK.out _ _ hS (fun _ => ?_)
          clear hK K
          (try simp only [Act.put, List.getElem_toArray, List.getElem_cons_succ, List.getElem_cons_zero, List.setIfInBounds_toArray, List.set_cons_zero, List.set_cons_succ])
          refine wpAnyH_take (i := 12) (v := .bool true) rfl (by kernel_rfl) (by kernel_rfl) (by kernel_rfl) (fun _ _ _ h => h) (Or.inl ⟨by rfl, fun W hW => ?_⟩) hS ?_
          · go_simp
          simp only [Act.put, List.getElem_toArray, List.getElem_cons_succ, List.getElem_cons_zero, List.setIfInBounds_toArray, List.set_cons_zero, List.set_cons_succ]
          refine wpAnyH_done (by kernel_rfl) ?_ _
          go_wp2_with fail
          go_meet
          case rel => exact ⟨_, rfl, f7, hS⟩
  case rest =>
    obtain ⟨g7, rfl, h7, hS⟩ := hcut
    have k0 := h7.cell 0
    have k1 := h7.cell 1
    simp at k0 k1
    go_wp2_with fail
    go_ret
    exact ⟨_, _, rfl, OwnVs.mono (OwnVs.one _ _ _) hS.size, below_allocz hS _⟩
end Go.Proofs.YtoeinpiekfmbgaaGreatDoor

