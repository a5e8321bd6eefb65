/- Layer 9's code: Do. -/
import Derived.Test.YtagjddnpaahebaaGreatDoorzHf
namespace Go.Proofs.YtagjddnpaahebaaGreatDoor
set_option linter.unusedVariables false
set_option linter.unusedSimpArgs false
open Gm Go.RowKit Go.ChangeShapes Go.WideShapes Go.ChangeAt Go.Sort

/-- What Do leaves. -/
def DoQ (w : World) (R : Frm × ActP) (e : Ending) (w' : World) : Prop := ∃ v' av, e = .returned (.tuple #[v', av]) ∧ OwnF w' w.heap.size v' R.1 ∧ ActO w' w.heap.size av R.2 ∧ Below w.heap.size w w'
/-- The runner is made. -/
structure DoM (w : World) (pv : Value) (f : Frm) (r : Nat) (s l o : Value) (W : World) : Prop where
  run : RunAt W w.heap.size r pv l o f s
  h1 : Held W (w.heap.size + 1) 58 fz0
  h2 : Held W (w.heap.size + 1 + 1) 85 az0
  o1 : Off4 r s l o (w.heap.size + 1)
  o2 : Off4 r s l o (w.heap.size + 1 + 1)
  low : Below w.heap.size w W
theorem dom_of {w u : World} {pv : Value} {f : Frm} {s l o : Value} {c0 : Obj} (hb : Below (((w.alloc c0).alloc (.cells fz0 58)).alloc (.cells az0 85)).heap.size (((w.alloc c0).alloc (.cells fz0 58)).alloc (.cells az0 85)) u)
    (hs : OwnVs u (((w.alloc c0).alloc (.cells fz0 58)).alloc (.cells az0 85)).heap.size s f.stk) (hl : OwnVs u (((w.alloc c0).alloc (.cells fz0 58)).alloc (.cells az0 85)).heap.size l f.loc) (ho : OwnSs u (((w.alloc c0).alloc (.cells fz0 58)).alloc (.cells az0 85)).heap.size o f.slt)
    (d1 : ∀ b, s.ownBlock = some b → l.ownBlock ≠ some b) (d2 : ∀ b, s.ownBlock = some b → o.ownBlock ≠ some b) (d3 : ∀ b, l.ownBlock = some b → o.ownBlock ≠ some b) :
    DoM w pv f u.heap.size s l o (u.alloc (.cells (runA f s l o pv) 142)) := by
  have hsz : (((w.alloc c0).alloc (.cells fz0 58)).alloc (.cells az0 85)).heap.size = w.heap.size + 3 := by simp
  have hus := hb.size
  rw [hsz] at hs hl ho hus
  have ls := hs.lt
  have ll := hl.lt
  have lo := ho.lt
  have h1 : Held (((w.alloc c0).alloc (.cells fz0 58)).alloc (.cells az0 85)) (w.heap.size + 1) 58 fz0 := (Held.new1 w c0 _ _).alloc _
  have h2 : Held (((w.alloc c0).alloc (.cells fz0 58)).alloc (.cells az0 85)) (w.heap.size + 1 + 1) 85 az0 := Held.new2 w c0 _ _ _
  have hbw : Below w.heap.size w u := Below.step (below3 w _ _ _) hb
  refine ⟨⟨Held.new _ _ _, by omega, row_mono (World.ownsRow.alloc hs _) (by omega), row_mono (World.ownsRow.alloc hl _) (by omega), row_mono (World.ownsRow.alloc ho _) (by omega), ?_, ?_, ?_, d1, d2, d3⟩, (h1.below hb).alloc _, (h2.below hb).alloc _, ⟨by omega, ?_, ?_, ?_⟩, ⟨by omega, ?_, ?_, ?_⟩, hbw.alloc hbw.size _⟩
  · intro e; have := ls _ e; omega
  · intro e; have := ll _ e; omega
  · intro e; have := lo _ e; omega
  · intro e; have := ls _ e; omega
  · intro e; have := ll _ e; omega
  · intro e; have := lo _ e; omega
  · intro e; have := ls _ e; omega
  · intro e; have := ll _ e; omega
  · intro e; have := lo _ e; omega

set_option maxHeartbeats 8000000 in
set_option maxRecDepth 100000 in
theorem do_idle {C D : Nat} {A : Option Addr} {p : List Fun} {v : Value} {f : Frm} (c : Nat) (w : World) (hp : ProgAt w C A p) (hf : FrmAt w D v f) (hC : C ≤ w.heap.size) (hD : D ≤ w.heap.size) (hT : TabB w w.heap.size) (hz : SizedP p) (hl : FrmLen f) (hd : f.st ≠ 0 ∨ hasI p.length f.fn = false) :
    Calls Tryz.prog 81 #[.slice A p.length c, v] w fun e w' => DoQ w (doF p f) e w' := by
  have CL := fun W (hb : Below w.heap.size w W) => Lib.hid (clone_any W (hf.below hb hD) hl (Nat.le_trans hD hb.size))
  have HF := fun i => hasF_any A p.length c i
  have RD := fun r s l o W (hm : DoM w (.slice A p.length c) f r s l o W) (h : hasI p.length f.fn = true) => Lib.hid (rdo_any W hm.run (hp.below hm.low hC) hC (hT.below hm.low (Nat.le_refl _)) h hz hl.stk hm.low.size)
  obtain ⟨A1, c1, A2, c2, A3, c3, rfl, _, _, _⟩ := hf
  have HDD := Lib.hid hd
  clear hd
  generalize hR : doF p f = R
  have HR := Lib.hid hR
  clear hp hC hD hT hz hR
  go_enter Tryz.func81, Tryz.ntmps81
  go_upto_region 2 with (first
    | (refine wpList_load_row rfl 58 _ rfl w.heap.size rfl 58 (fcA f (.slice A1 f.stk.length c1) (.slice A2 f.loc.length c2) (.slice A3 f.slt.length c3)) (0, 0) _ (((Held.new w _ _).alloc _).alloc _) Tryz.underlying58 rfl (by kernel_rfl) ?_)
    | (go_at_call 99; (((with_reducible refine (CL _ ?_).out.mono ?_); (focus (go_grown))); rintro _ u ⟨s, l, o, rfl, hs, hlo, ho, e1, e2, e3, hb⟩; have hm := dom_of (pv := .slice A p.length c) hb hs hlo ho e1 e2 e3; obtain ⟨As, cs, rfl, _⟩ := hs.lies; obtain ⟨Al, cl, rfl, _⟩ := hlo.lies; obtain ⟨Ao, co, rfl, _⟩ := ho.lies)))
  have HM := Lib.hid hm
  clear hm hs hlo ho e1 e2 e3 hb CL
  generalize hW : u.alloc (.cells (runA f (.slice As f.stk.length cs) (.slice Al f.loc.length cl) (.slice Ao f.slt.length co) (.slice A p.length c)) 142) = W1 at *
  clear hW
  generalize u.heap.size = r at *
  have hm := HM.out
  have hrb := hm.run.blk
  have r0 := hrb.cell 0
  have r1 := hrb.cell 1
  have r2 := hrb.cell 2
  have r3 := hrb.cell 3
  have r4 := hrb.cell 4
  have r5 := hrb.cell 5
  have r6 := hrb.cell 6
  have r7 := hrb.cell 7
  have r8 := hrb.cell 8
  have r9 := hrb.cell 9
  have r10 := hrb.cell 10
  have r11 := hrb.cell 11
  have r12 := hrb.cell 12
  have r13 := hrb.cell 13
  have r14 := hrb.cell 14
  have r15 := hrb.cell 15
  simp at r0 r1 r2 r3 r4 r5 r6 r7 r8 r9 r10 r11 r12 r13 r14 r15
  have hr2 := hm.h1
  have hr3 := hm.h2
  have hrl := hm.run.rlt
  obtain ⟨q0, q1, q2, q3, q4, z0, z1, z2, z3, z4⟩ := five hr3
  have no1 : r ≠ w.heap.size + 1 := fun e => hm.o1.r e.symm
  have no2 : r ≠ w.heap.size + 1 + 1 := fun e => hm.o2.r e.symm
  have hd := HDD.out
  have hRR : R = (f, act0) := by rw [← HR.out]; unfold doF; rw [if_pos hd]
  subst hRR
  rcases (show (f.st != 0) = true ∨ ((f.st != 0) = false ∧ hasI p.length f.fn = false) by
    by_cases hz : f.st ≠ 0
    · exact .inl (by simpa using hz)
    · exact .inr ⟨by simpa using hz, hd.resolve_left hz⟩) with g1 | ⟨g1, g2⟩
  all_goals
    clear RD hd
    go_wp2_with (first
      | (go_at_call 33; (with_reducible refine ((HF _).go _).mono ?_); rintro _ u ⟨rfl, rfl⟩)
      | (refine wpList_store_row rfl 58 _ _ rfl (w.heap.size + 1) (fcA f (.slice As f.stk.length cs) (.slice Al f.loc.length cl) (.slice Ao f.slt.length co)) rfl rfl _ _ hr2 (by kernel_rfl) rfl (by simp [Value.oneCell']) ?_)
      | (refine wpList_store_row rfl 85 _ _ rfl (w.heap.size + 1 + 1) az0 rfl rfl _ _ (hr3.row (by omega) _) (by kernel_rfl) rfl (by simp [Value.oneCell']) ?_))
    have k1 : Held ((W1.setRow (w.heap.size + 1) (fcA f (.slice As f.stk.length cs) (.slice Al f.loc.length cl) (.slice Ao f.slt.length co))).setRow (w.heap.size + 1 + 1) az0) (w.heap.size + 1) 58 (fcA f (.slice As f.stk.length cs) (.slice Al f.loc.length cl) (.slice Ao f.slt.length co)) := (hr2.rowSelf _).row (by omega) _
    have k2 : Held ((W1.setRow (w.heap.size + 1) (fcA f (.slice As f.stk.length cs) (.slice Al f.loc.length cl) (.slice Ao f.slt.length co))).setRow (w.heap.size + 1 + 1) az0) (w.heap.size + 1 + 1) 85 az0 := (hr3.row (by omega) _).rowSelf _
    have l1 := run_loadVar_row (P := Tryz.prog) _ (w.heap.size + 1) 58 58 _ (0, 0) _ k1 Tryz.underlying58 rfl (by kernel_rfl)
    have l2 := run_loadVar_row (P := Tryz.prog) _ (w.heap.size + 1 + 1) 85 85 _ (0, 0) _ k2 Tryz.underlying85 rfl (by kernel_rfl)
    refine bodyPost_ret (v := .tuple #[fv f (.slice As f.stk.length cs) (.slice Al f.loc.length cl) (.slice Ao f.slt.length co), akv 0]) (results_two rfl _ _ rfl rfl l1 l2) rfl ⟨_, _, rfl, ((hm.run.row hm.o1 _).row hm.o2 _).own, ActO.z _ _, below_setRow (below_setRow hm.low (by omega) _) (by omega) _⟩
end Go.Proofs.YtagjddnpaahebaaGreatDoor

