/- Layer 9's code: Do, where something is done. -/
import Derived.Test.YtoeinpiekfmbgaaGreatDoorzRrz
namespace Go.Proofs.YtoeinpiekfmbgaaGreatDoor
set_option linter.unusedVariables false
set_option linter.unusedSimpArgs false
open Gm Go.RowKit Go.ChangeShapes Go.WideShapes Go.ChangeAt Go.Sort

set_option maxHeartbeats 8000000 in
set_option maxRecDepth 100000 in
theorem do_runs {C D : Nat} {A : Option Addr} {p : List Fun} {v : Value} {f : Frm} (c : Nat) (w : World) (hp : ProgAt w C A p) (hf : FrmAt w D v f) (hC : C ≤ w.heap.size) (hD : D ≤ w.heap.size) (hT : TabB w w.heap.size) (hz : SizedP p) (hl : FrmLen f) (hd : ¬ (f.st ≠ 0 ∨ hasI p.length f.fn = false)) :
    Calls Tryz.prog 69 #[.slice A p.length c, v] w fun e w' => DoQ w (doF p f) e w' := by
  have CL := fun W (hb : Below w.heap.size w W) => Lib.hid (clone_any W (hf.below hb hD) hl (Nat.le_trans hD hb.size))
  have HF := fun i => hasF_any A p.length c i
  have RD := fun r s l o W (hm : DoM w (.slice A p.length c) f r s l o W) (h : hasI p.length f.fn = true) => Lib.hid (rdo_any W hm.run (hp.below hm.low hC) hC (hT.below hm.low (Nat.le_refl _)) h hz hl.stk hm.low.size)
  obtain ⟨A1, c1, A2, c2, A3, c3, rfl, _, _, _⟩ := hf
  have HDD := Lib.hid hd
  clear hd
  generalize hR : doF p f = R
  have HR := Lib.hid hR
  clear hp hC hD hT hz hR
  go_enter Tryz.func69, Tryz.ntmps69
  go_upto_region 2 with (first
    | (refine wpList_load_row rfl 45 _ rfl w.heap.size rfl 45 (fcA f (.slice A1 f.stk.length c1) (.slice A2 f.loc.length c2) (.slice A3 f.slt.length c3)) (0, 0) _ (((Held.new w _ _).alloc _).alloc _) Tryz.underlying45 rfl (by kernel_rfl) ?_)
    | (go_at_call 90; (((with_reducible refine (CL _ ?_).out.mono ?_); (focus (go_grown))); rintro _ u ⟨s, l, o, rfl, hs, hlo, ho, e1, e2, e3, hb⟩; have hm := dom_of (pv := .slice A p.length c) hb hs hlo ho e1 e2 e3; obtain ⟨As, cs, rfl, _⟩ := hs.lies; obtain ⟨Al, cl, rfl, _⟩ := hlo.lies; obtain ⟨Ao, co, rfl, _⟩ := ho.lies)))
  have HM := Lib.hid hm
  clear hm hs hlo ho e1 e2 e3 hb CL
  generalize hW : u.alloc (.cells (runA f (.slice As f.stk.length cs) (.slice Al f.loc.length cl) (.slice Ao f.slt.length co) (.slice A p.length c)) 137) = W1 at *
  clear hW
  generalize u.heap.size = r at *
  have hm := HM.out
  have hrb := hm.run.blk
  have r0 := hrb.cell 0
  have r1 := hrb.cell 1
  have r2 := hrb.cell 2
  have r3 := hrb.cell 3
  have r4 := hrb.cell 4
  have r5 := hrb.cell 5
  have r6 := hrb.cell 6
  have r7 := hrb.cell 7
  have r8 := hrb.cell 8
  have r9 := hrb.cell 9
  have r10 := hrb.cell 10
  have r11 := hrb.cell 11
  have r12 := hrb.cell 12
  have r13 := hrb.cell 13
  have r14 := hrb.cell 14
  have r15 := hrb.cell 15
  simp at r0 r1 r2 r3 r4 r5 r6 r7 r8 r9 r10 r11 r12 r13 r14 r15
  have hr2 := hm.h1
  have hr3 := hm.h2
  have hrl := hm.run.rlt
  obtain ⟨q0, q1, q2, q3, q4, z0, z1, z2, z3, z4⟩ := five hr3
  have no1 : r ≠ w.heap.size + 1 := fun e => hm.o1.r e.symm
  have no2 : r ≠ w.heap.size + 1 + 1 := fun e => hm.o2.r e.symm
  have hd := HDD.out
  have hs0 : (f.st != 0) = false := by
    have : f.st = 0 := Decidable.byContradiction fun e => hd (.inl e)
    simpa using this
  have hh0 : hasI p.length f.fn = true := by
    cases hq : hasI p.length f.fn
    · exact absurd (.inr hq) hd
    · rfl
  have hRR : R = runF p f := by rw [← HR.out]; unfold doF; rw [if_neg hd]
  have RDD := RD _ _ _ _ _ hm hh0
  rw [← hRR] at RDD
  clear RD hd hRR HR
  obtain ⟨f', ⟨k1, k2, k3, k4, ar⟩⟩ := R
  unfold DoR at RDD
  simp only at RDD
  go_upto_region 5 with (first
    | (go_at_call 20; (with_reducible refine ((HF _).go _).mono ?_); rintro _ u ⟨rfl, rfl⟩)
    | (go_at_call 91; go_loud ((with_reducible refine RDD.out.mono ?_); rintro _ u3 ⟨av, rfl, ⟨A9, c9, rfl, ho⟩, s2, ha⟩)))
  try simp at ho
  have hrun := ha.run
  obtain ⟨⟨As', cs', rfl, _⟩, _, _⟩ := hrun.slices
  have hrb := hrun.blk.alloc (.cells #[.int .i64 k1, .int .i64 k2, .int .i64 k3, .int .i64 k4, .slice A9 ar.length c9] 77)
  have hac := Held.new u3 77 #[.int .i64 k1, .int .i64 k2, .int .i64 k3, .int .i64 k4, .slice A9 ar.length c9]
  have hr2' := (ha.held hr2 hm.o1).alloc (.cells #[.int .i64 k1, .int .i64 k2, .int .i64 k3, .int .i64 k4, .slice A9 ar.length c9] 77)
  have hr3' := (ha.held hr3 hm.o2).alloc (.cells #[.int .i64 k1, .int .i64 k2, .int .i64 k3, .int .i64 k4, .slice A9 ar.length c9] 77)
  have hrun2 := hrun.below ((Below.refl u3.heap.size u3).alloc (Nat.le_refl _) (.cells #[.int .i64 k1, .int .i64 k2, .int .i64 k3, .int .i64 k4, .slice A9 ar.length c9] 77))
  have oo1 := ha.off hm.o1 hm.h1.lt
  have oo2 := ha.off hm.o2 hm.h2.lt
  have ho2 := World.ownsRow.alloc ho (.cells #[.int .i64 k1, .int .i64 k2, .int .i64 k3, .int .i64 k4, .slice A9 ar.length c9] 77)
  have hlow := (hm.low.trans (ha.low hm.run hm.low.size)).alloc (Nat.le_trans hm.low.size ha.kp.size) (.cells #[.int .i64 k1, .int .i64 k2, .int .i64 k3, .int .i64 k4, .slice A9 ar.length c9] 77)
  have hW1 := hr3.lt
  generalize u3.alloc (.cells #[.int .i64 k1, .int .i64 k2, .int .i64 k3, .int .i64 k4, .slice A9 ar.length c9] 77) = W2 at *
  clear r0 r1 r2 r3 r4 r5 r6 r7 r8 r9 r10 r11 r12 r13 r14 r15 q0 q1 q2 q3 q4 z0 z1 z2 z3 z4
  have r0 := hrb.cell 0
  have r1 := hrb.cell 1
  have r2 := hrb.cell 2
  have r3 := hrb.cell 3
  have r4 := hrb.cell 4
  have r5 := hrb.cell 5
  have r6 := hrb.cell 6
  have r7 := hrb.cell 7
  have r8 := hrb.cell 8
  have r9 := hrb.cell 9
  have r10 := hrb.cell 10
  have r11 := hrb.cell 11
  have r12 := hrb.cell 12
  have r13 := hrb.cell 13
  have r14 := hrb.cell 14
  have r15 := hrb.cell 15
  have a0 := hac.cell 0
  have a1 := hac.cell 1
  have a2 := hac.cell 2
  have a3 := hac.cell 3
  have a4 := hac.cell 4
  simp at r0 r1 r2 r3 r4 r5 r6 r7 r8 r9 r10 r11 r12 r13 r14 r15 a0 a1 a2 a3 a4
  have p0 := hr2'.cell 0
  have p1 := hr2'.cell 1
  have p2 := hr2'.cell 2
  have p3 := hr2'.cell 3
  have p4 := hr2'.cell 4
  have p5 := hr2'.cell 5
  have p6 := hr2'.cell 6
  have p7 := hr2'.cell 7
  have p8 := hr2'.cell 8
  have p9 := hr2'.cell 9
  have p10 := hr2'.cell 10
  have p11 := hr2'.cell 11
  have p12 := hr2'.cell 12
  have p13 := hr2'.cell 13
  have p14 := hr2'.cell 14
  have p15 := hr2'.cell 15
  have pz0 := hr2'.fz 0
  have pz1 := hr2'.fz 1
  have pz2 := hr2'.fz 2
  have pz3 := hr2'.fz 3
  have pz4 := hr2'.fz 4
  have pz5 := hr2'.fz 5
  have pz6 := hr2'.fz 6
  have pz7 := hr2'.fz 7
  have pz8 := hr2'.fz 8
  have pz9 := hr2'.fz 9
  have pz10 := hr2'.fz 10
  have pz11 := hr2'.fz 11
  have pz12 := hr2'.fz 12
  have pz13 := hr2'.fz 13
  have pz14 := hr2'.fz 14
  have pz15 := hr2'.fz 15
  have q0 := hr3'.cell 0
  have q1 := hr3'.cell 1
  have q2 := hr3'.cell 2
  have q3 := hr3'.cell 3
  have q4 := hr3'.cell 4
  have qz0 := hr3'.fz 0
  have qz1 := hr3'.fz 1
  have qz2 := hr3'.fz 2
  have qz3 := hr3'.fz 3
  have qz4 := hr3'.fz 4
  simp at p0 p1 p2 p3 p4 p5 p6 p7 p8 p9 p10 p11 p12 p13 p14 p15 q0 q1 q2 q3 q4
  have nu1 : u3.heap.size ≠ w.heap.size + 1 := by have := ha.kp.size; have := hm.h1.lt; omega
  have nu2 : u3.heap.size ≠ w.heap.size + 1 + 1 := by have := ha.kp.size; have := hm.h2.lt; omega
  go_region
  all_goals go_wp2_with fail
  have s1 := set16 hr2' (.int .i64 f'.fn) (.int .i64 f'.pc) (.slice As' f'.stk.length cs') (.slice Al f.loc.length cl) (.slice Ao f.slt.length co) (.int .i64 f'.seed) (.int .i64 f'.spn) (.int .i64 f'.drw) (.int .i64 f'.st) (.int .i64 f'.wt) (.int .i64 f'.otr) (.int .i64 f'.ore) (.int .i64 f'.oim) (.int .i64 f'.uat) (.int .i64 f'.ugn) (.int .i64 f'.usl)
  have s2 := far16 W2 (w.heap.size + 1) (.int .i64 f'.fn) (.int .i64 f'.pc) (.slice As' f'.stk.length cs') (.slice Al f.loc.length cl) (.slice Ao f.slt.length co) (.int .i64 f'.seed) (.int .i64 f'.spn) (.int .i64 f'.drw) (.int .i64 f'.st) (.int .i64 f'.wt) (.int .i64 f'.otr) (.int .i64 f'.ore) (.int .i64 f'.oim) (.int .i64 f'.uat) (.int .i64 f'.ugn) (.int .i64 f'.usl)
  have s3 := below16 (.int .i64 f'.fn) (.int .i64 f'.pc) (.slice As' f'.stk.length cs') (.slice Al f.loc.length cl) (.slice Ao f.slt.length co) (.int .i64 f'.seed) (.int .i64 f'.spn) (.int .i64 f'.drw) (.int .i64 f'.st) (.int .i64 f'.wt) (.int .i64 f'.otr) (.int .i64 f'.ore) (.int .i64 f'.oim) (.int .i64 f'.uat) (.int .i64 f'.ugn) (.int .i64 f'.usl) (Nat.le_succ w.heap.size) hlow
  generalize (World.setCell (World.setCell _ ⟨w.heap.size + 1, 14, none⟩ _) ⟨w.heap.size + 1, 15, none⟩ _) = W3 at *
  have hr3w : Held W3 (w.heap.size + 1 + 1) 77 az0 := (s2 _ (by omega)).trans hr3'
  have k1h := s1.far5 (k := w.heap.size + 1 + 1) (by omega) (.int .i64 k1) (.int .i64 k2) (.int .i64 k3) (.int .i64 k4) (.slice A9 ar.length c9)
  have k2h := set5 hr3w (.int .i64 k1) (.int .i64 k2) (.int .i64 k3) (.int .i64 k4) (.slice A9 ar.length c9)
  have hru : RunAt W3 w.heap.size r (.slice A p.length c) (.slice Al f.loc.length cl) (.slice Ao f.slt.length co) f' (.slice As' f'.stk.length cs') := hrun2.keep fun g e => s2 g (by
    rintro rfl
    rcases e with e | e | e | e
    · exact oo1.r e
    · exact oo1.s e
    · exact oo1.l e
    · exact oo1.o e)
  have hru2 := ((((hru.far oo2 0 (.int .i64 k1)).far oo2 1 (.int .i64 k2)).far oo2 2 (.int .i64 k3)).far oo2 3 (.int .i64 k4)).far oo2 4 (.slice A9 ar.length c9)
  have hov : OwnVs W3 W1.heap.size (.slice A9 ar.length c9) ar := row_same ho2 fun g e => s2 g (by have := (World.ownsRow.lt ho2 g e).1; have := hm.h1.lt; omega)
  have hov2 := hov.far5 (k := w.heap.size + 1 + 1) hW1 (.int .i64 k1) (.int .i64 k2) (.int .i64 k3) (.int .i64 k4) (.slice A9 ar.length c9)
  have hlo2 := ((((s3.setCell (p := ⟨w.heap.size + 1 + 1, 0, none⟩) (by show w.heap.size ≤ w.heap.size + 1 + 1; omega) (.int .i64 k1)).setCell (p := ⟨w.heap.size + 1 + 1, 1, none⟩) (by show w.heap.size ≤ w.heap.size + 1 + 1; omega) (.int .i64 k2)).setCell (p := ⟨w.heap.size + 1 + 1, 2, none⟩) (by show w.heap.size ≤ w.heap.size + 1 + 1; omega) (.int .i64 k3)).setCell (p := ⟨w.heap.size + 1 + 1, 3, none⟩) (by show w.heap.size ≤ w.heap.size + 1 + 1; omega) (.int .i64 k4)).setCell (p := ⟨w.heap.size + 1 + 1, 4, none⟩) (by show w.heap.size ≤ w.heap.size + 1 + 1; omega) (.slice A9 ar.length c9)
  have l1 := run_loadVar_row (P := Tryz.prog) _ (w.heap.size + 1) 45 45 _ (0, 0) _ (held_drew k1h) Tryz.underlying45 rfl (by kernel_rfl)
  have l2 := run_loadVar_row (P := Tryz.prog) _ (w.heap.size + 1 + 1) 77 77 _ (0, 0) _ (held_drew k2h) Tryz.underlying77 rfl (by kernel_rfl)
  exact bodyPost_ret (results_two rfl _ _ rfl rfl l1 l2) rfl ⟨_, _, rfl, (hru2.below (Below.refl _ _).drew).own, (show ActO _ W1.heap.size _ ⟨k1, k2, k3, k4, ar⟩ from ⟨A9, c9, rfl, hov2⟩).mono HM.out.low.size, hlo2.drew⟩
/-- Do, at every program and every frame. -/
theorem do_any {C D : Nat} {A : Option Addr} {p : List Fun} {v : Value} {f : Frm} (c : Nat) (w : World) (hp : ProgAt w C A p) (hf : FrmAt w D v f) (hC : C ≤ w.heap.size) (hD : D ≤ w.heap.size) (hT : TabB w w.heap.size) (hz : SizedP p) (hl : FrmLen f) :
    Calls Tryz.prog 69 #[.slice A p.length c, v] w fun e w' => DoQ w (doF p f) e w' := by
  by_cases hd : f.st ≠ 0 ∨ hasI p.length f.fn = false
  · exact do_idle c w hp hf hC hD hT hz hl hd
  · exact do_runs c w hp hf hC hD hT hz hl hd
end Go.Proofs.YtoeinpiekfmbgaaGreatDoor

