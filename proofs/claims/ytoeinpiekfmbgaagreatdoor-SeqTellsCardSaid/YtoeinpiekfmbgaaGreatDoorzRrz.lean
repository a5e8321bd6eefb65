/- Layer 9's code: Do. -/
import Derived.Test.YtoeinpiekfmbgaaGreatDoorzHf
import Derived.Test.YtoeinpiekfmbgaaGreatDoorzHg
import Derived.Test.YtoeinpiekfmbgaaGreatDoorzRxz
namespace Go.Proofs.YtoeinpiekfmbgaaGreatDoor
set_option linter.unusedVariables false
set_option linter.unusedSimpArgs false
open Gm Go.RowKit Go.ChangeShapes Go.WideShapes Go.ChangeAt Go.Sort

/-- What Do leaves. -/
def DoQ (w : World) (R : Frm × ActP) (e : Ending) (w' : World) : Prop := ∃ v' av, e = .returned (.tuple #[v', av]) ∧ OwnF w' w.heap.size v' R.1 ∧ ActO w' w.heap.size av R.2 ∧ Below w.heap.size w w'
/-- The runner is made. -/
structure DoM (w : World) (pv : Value) (f : Frm) (r : Nat) (s l o : Value) (W : World) : Prop where
  run : RunAt W w.heap.size r pv l o f s
  h1 : Held W (w.heap.size + 1) 45 fz0
  h2 : Held W (w.heap.size + 1 + 1) 77 az0
  o1 : Off4 r s l o (w.heap.size + 1)
  o2 : Off4 r s l o (w.heap.size + 1 + 1)
  low : Below w.heap.size w W
theorem dom_of {w u : World} {pv : Value} {f : Frm} {s l o : Value} {c0 : Obj} (hb : Below (((w.alloc c0).alloc (.cells fz0 45)).alloc (.cells az0 77)).heap.size (((w.alloc c0).alloc (.cells fz0 45)).alloc (.cells az0 77)) u)
    (hs : OwnVs u (((w.alloc c0).alloc (.cells fz0 45)).alloc (.cells az0 77)).heap.size s f.stk) (hl : OwnVs u (((w.alloc c0).alloc (.cells fz0 45)).alloc (.cells az0 77)).heap.size l f.loc) (ho : OwnSs u (((w.alloc c0).alloc (.cells fz0 45)).alloc (.cells az0 77)).heap.size o f.slt)
    (d1 : ∀ b, s.ownBlock = some b → l.ownBlock ≠ some b) (d2 : ∀ b, s.ownBlock = some b → o.ownBlock ≠ some b) (d3 : ∀ b, l.ownBlock = some b → o.ownBlock ≠ some b) :
    DoM w pv f u.heap.size s l o (u.alloc (.cells (runA f s l o pv) 137)) := by
  have hsz : (((w.alloc c0).alloc (.cells fz0 45)).alloc (.cells az0 77)).heap.size = w.heap.size + 3 := by simp
  have hus := hb.size
  rw [hsz] at hs hl ho hus
  have ls := hs.lt
  have ll := hl.lt
  have lo := ho.lt
  have h1 : Held (((w.alloc c0).alloc (.cells fz0 45)).alloc (.cells az0 77)) (w.heap.size + 1) 45 fz0 := (Held.new1 w c0 _ _).alloc _
  have h2 : Held (((w.alloc c0).alloc (.cells fz0 45)).alloc (.cells az0 77)) (w.heap.size + 1 + 1) 77 az0 := Held.new2 w c0 _ _ _
  have hbw : Below w.heap.size w u := Below.step (below3 w _ _ _) hb
  refine ⟨⟨Held.new _ _ _, by omega, row_mono (World.ownsRow.alloc hs _) (by omega), row_mono (World.ownsRow.alloc hl _) (by omega), row_mono (World.ownsRow.alloc ho _) (by omega), ?_, ?_, ?_, d1, d2, d3⟩, (h1.below hb).alloc _, (h2.below hb).alloc _, ⟨by omega, ?_, ?_, ?_⟩, ⟨by omega, ?_, ?_, ?_⟩, hbw.alloc hbw.size _⟩
  · intro e; have := ls _ e; omega
  · intro e; have := ll _ e; omega
  · intro e; have := lo _ e; omega
  · intro e; have := ls _ e; omega
  · intro e; have := ll _ e; omega
  · intro e; have := lo _ e; omega
  · intro e; have := ls _ e; omega
  · intro e; have := ll _ e; omega
  · intro e; have := lo _ e; omega

set_option maxHeartbeats 8000000 in
set_option maxRecDepth 100000 in
theorem do_idle {C D : Nat} {A : Option Addr} {p : List Fun} {v : Value} {f : Frm} (c : Nat) (w : World) (hp : ProgAt w C A p) (hf : FrmAt w D v f) (hC : C ≤ w.heap.size) (hD : D ≤ w.heap.size) (hT : TabB w w.heap.size) (hz : SizedP p) (hl : FrmLen f) (hd : f.st ≠ 0 ∨ hasI p.length f.fn = false) :
    Calls Tryz.prog 69 #[.slice A p.length c, v] w fun e w' => DoQ w (doF p f) e w' := by
  have CL := fun W (hb : Below w.heap.size w W) => Lib.hid (clone_any W (hf.below hb hD) hl (Nat.le_trans hD hb.size))
  have HF := fun i => hasF_any A p.length c i
  have RD := fun r s l o W (hm : DoM w (.slice A p.length c) f r s l o W) (h : hasI p.length f.fn = true) => Lib.hid (rdo_any W hm.run (hp.below hm.low hC) hC (hT.below hm.low (Nat.le_refl _)) h hz hl.stk hm.low.size)
  obtain ⟨A1, c1, A2, c2, A3, c3, rfl, _, _, _⟩ := hf
  have HDD := Lib.hid hd
  clear hd
  generalize hR : doF p f = R
  have HR := Lib.hid hR
  clear hp hC hD hT hz hR
  go_enter Tryz.func69, Tryz.ntmps69
  go_upto_region 2 with (first
    | (refine wpList_load_row rfl 45 _ rfl w.heap.size rfl 45 (fcA f (.slice A1 f.stk.length c1) (.slice A2 f.loc.length c2) (.slice A3 f.slt.length c3)) (0, 0) _ (((Held.new w _ _).alloc _).alloc _) Tryz.underlying45 rfl (by kernel_rfl) ?_)
    | (go_at_call 90; (((with_reducible refine (CL _ ?_).out.mono ?_); (focus (go_grown))); rintro _ u ⟨s, l, o, rfl, hs, hlo, ho, e1, e2, e3, hb⟩; have hm := dom_of (pv := .slice A p.length c) hb hs hlo ho e1 e2 e3; obtain ⟨As, cs, rfl, _⟩ := hs.lies; obtain ⟨Al, cl, rfl, _⟩ := hlo.lies; obtain ⟨Ao, co, rfl, _⟩ := ho.lies)))
  have HM := Lib.hid hm
  clear hm hs hlo ho e1 e2 e3 hb CL
  generalize hW : u.alloc (.cells (runA f (.slice As f.stk.length cs) (.slice Al f.loc.length cl) (.slice Ao f.slt.length co) (.slice A p.length c)) 137) = W1 at *
  clear hW
  generalize u.heap.size = r at *
  have hm := HM.out
  have hrb := hm.run.blk
  have r0 := hrb.cell 0
  have r1 := hrb.cell 1
  have r2 := hrb.cell 2
  have r3 := hrb.cell 3
  have r4 := hrb.cell 4
  have r5 := hrb.cell 5
  have r6 := hrb.cell 6
  have r7 := hrb.cell 7
  have r8 := hrb.cell 8
  have r9 := hrb.cell 9
  have r10 := hrb.cell 10
  have r11 := hrb.cell 11
  have r12 := hrb.cell 12
  have r13 := hrb.cell 13
  have r14 := hrb.cell 14
  have r15 := hrb.cell 15
  simp at r0 r1 r2 r3 r4 r5 r6 r7 r8 r9 r10 r11 r12 r13 r14 r15
  have hr2 := hm.h1
  have hr3 := hm.h2
  have hrl := hm.run.rlt
  obtain ⟨q0, q1, q2, q3, q4, z0, z1, z2, z3, z4⟩ := five hr3
  have no1 : r ≠ w.heap.size + 1 := fun e => hm.o1.r e.symm
  have no2 : r ≠ w.heap.size + 1 + 1 := fun e => hm.o2.r e.symm
  have hd := HDD.out
  have hRR : R = (f, act0) := by rw [← HR.out]; unfold doF; rw [if_pos hd]
  subst hRR
  rcases (show (f.st != 0) = true ∨ ((f.st != 0) = false ∧ hasI p.length f.fn = false) by
    by_cases hz : f.st ≠ 0
    · exact .inl (by simpa using hz)
    · exact .inr ⟨by simpa using hz, hd.resolve_left hz⟩) with g1 | ⟨g1, g2⟩
  all_goals
    clear RD hd
    go_wp2_with (first
      | (go_at_call 20; (with_reducible refine ((HF _).go _).mono ?_); rintro _ u ⟨rfl, rfl⟩)
      | (refine wpList_store_row rfl 45 _ _ rfl (w.heap.size + 1) (fcA f (.slice As f.stk.length cs) (.slice Al f.loc.length cl) (.slice Ao f.slt.length co)) rfl rfl _ _ hr2 (by kernel_rfl) rfl (by simp [Value.oneCell']) ?_)
      | (refine wpList_store_row rfl 77 _ _ rfl (w.heap.size + 1 + 1) az0 rfl rfl _ _ (hr3.row (by omega) _) (by kernel_rfl) rfl (by simp [Value.oneCell']) ?_))
    have k1 : Held ((W1.setRow (w.heap.size + 1) (fcA f (.slice As f.stk.length cs) (.slice Al f.loc.length cl) (.slice Ao f.slt.length co))).setRow (w.heap.size + 1 + 1) az0) (w.heap.size + 1) 45 (fcA f (.slice As f.stk.length cs) (.slice Al f.loc.length cl) (.slice Ao f.slt.length co)) := (hr2.rowSelf _).row (by omega) _
    have k2 : Held ((W1.setRow (w.heap.size + 1) (fcA f (.slice As f.stk.length cs) (.slice Al f.loc.length cl) (.slice Ao f.slt.length co))).setRow (w.heap.size + 1 + 1) az0) (w.heap.size + 1 + 1) 77 az0 := (hr3.row (by omega) _).rowSelf _
    have l1 := run_loadVar_row (P := Tryz.prog) _ (w.heap.size + 1) 45 45 _ (0, 0) _ k1 Tryz.underlying45 rfl (by kernel_rfl)
    have l2 := run_loadVar_row (P := Tryz.prog) _ (w.heap.size + 1 + 1) 77 77 _ (0, 0) _ k2 Tryz.underlying77 rfl (by kernel_rfl)
    refine bodyPost_ret (v := .tuple #[fv f (.slice As f.stk.length cs) (.slice Al f.loc.length cl) (.slice Ao f.slt.length co), akv 0]) (results_two rfl _ _ rfl rfl l1 l2) rfl ⟨_, _, rfl, ((hm.run.row hm.o1 _).row hm.o2 _).own, ActO.z _ _, below_setRow (below_setRow hm.low (by omega) _) (by omega) _⟩
end Go.Proofs.YtoeinpiekfmbgaaGreatDoor

/- Layer 9: the document's Final, for frames that have ended. -/
namespace Go.Proofs.YtoeinpiekfmbgaaGreatDoor
set_option linter.unusedVariables false
set_option linter.unusedSimpArgs false
open Gm Go.RowKit Go.ChangeShapes Go.WideShapes Go.ChangeAt Go.Sort

abbrev fo0 : Array Value := #[.int .i64 0, .int .i64 0, .int .i64 0]
/-- What the end is, of the slots from j on. -/
def finO (f : Frm) (j : Nat) : Int × Int × Int := if f.otr = 0 then (match (f.slt.drop j).find? (fun s => s.st == 2 && s.tr != 0) with | some s => (s.tr, 0, 0) | none => (f.otr, f.ore, f.oim)) else (f.otr, f.ore, f.oim)
theorem finO_all (f : Frm) : finO f f.slt.length = (f.otr, f.ore, f.oim) := by
  unfold finO
  rw [List.drop_length]
  split <;> rfl
theorem finO_hit {f : Frm} {j : Nat} (hj : j < f.slt.length) (h : (f.slt[j].st == 2 && f.slt[j].tr != 0) = true) (h0 : f.otr = 0) : finO f j = (f.slt[j].tr, 0, 0) := by
  unfold finO
  rw [if_pos h0, List.drop_eq_getElem_cons hj, List.find?_cons, h]
theorem finO_miss {f : Frm} {j : Nat} (hj : j < f.slt.length) (h : (f.slt[j].st == 2 && f.slt[j].tr != 0) = false ∨ f.otr ≠ 0) : finO f j = finO f (j + 1) := by
  unfold finO
  by_cases h0 : f.otr = 0
  · rw [if_pos h0, if_pos h0, List.drop_eq_getElem_cons hj, List.find?_cons]
    rcases h with h | h
    · rw [h]
    · exact absurd h0 h
  · rw [if_neg h0, if_neg h0]
theorem finO_fin {f : Frm} (hs : f.st = 2) (hb : (f.slt.any fun s => s.st == 1) = false) : finF f = ((finO f 0).1, ((finO f 0).2.1, (finO f 0).2.2), true) := by
  unfold finF finO
  rw [if_neg (by rw [hb]; simp [hs]), List.drop_zero]
  by_cases h0 : f.otr = 0
  · rw [if_neg (by simp [h0]), if_pos h0]
    generalize f.slt.find? (fun s => s.st == 2 && s.tr != 0) = r
    cases r with
    | none => simp only; rw [h0]
    | some s => rfl
  · rw [if_pos h0, if_neg h0]
theorem fin_busy {f : Frm} {j : Nat} (hj : j < f.slt.length) (h : f.slt[j].st = 1) : finF f = (0, (0, 0), false) := by
  unfold finF
  rw [if_pos (.inr (List.any_eq_true.2 ⟨_, List.getElem_mem hj, by simpa using h⟩))]
theorem fin_wl {n : Nat} (h : n ≤ 1000) : wrap64 ((n : Int) - 1) = (n : Int) - 1 := by unfold wrap64; omega
theorem fin_lt {i n : Nat} (h : i < n) : (i : Int) < (n : Int) := by omega
theorem fin_me2 (j : Nat) : (intOf (.int .i64 ((j : Int) - 1)) + 1).toNat < (intOf (.int .i64 (j : Int)) + 1).toNat := by unfold intOf; simp only; omega
theorem fin_or {s0 s3 o : Int} (h : ¬ (s0 = 2 ∧ s3 ≠ 0 ∧ o = 0)) : (s0 == 2 && s3 != 0) = false ∨ o ≠ 0 := by
  by_cases h1 : s0 = 2
  · by_cases h2 : s3 = 0
    · exact .inl (by simp [h2])
    · exact .inr fun h3 => h ⟨h1, h2, h3⟩
  · exact .inl (by simp [h1])
theorem fin_wrap {j n : Nat} (h : j < n) (hn : n ≤ 1000) : wrap64 (((j + 1 : Nat) : Int) - 1 - 1) = (j : Int) - 1 ∧ ((j + 1 : Nat) : Int) - 1 = j := by unfold wrap64; omega
set_option maxHeartbeats 4000000 in
set_option maxRecDepth 100000 in
theorem rfinal_any {B : Nat} {v : Value} {f : Frm} (w : World) (h : FrmAt w B v f) (hl : FrmLen f) (hB : B ≤ w.heap.size) (hs : f.st = 2) :
    Calls Tryz.prog 32 #[v] w fun e w' => e = .returned (.tuple #[outv (finF f).1 (finF f).2.1.1 (finF f).2.1.2, .bool (finF f).2.2]) ∧ Below w.heap.size w w' := by
  obtain ⟨A1, c1, A2, c2, A3, c3, rfl, h1, h2, h3⟩ := h
  have hSL := h3.more hB
  have HSL := Lib.hid hSL
  have HLL := Lib.hid hl.slt
  have hs2 : (f.st != 2) = false := by simp [hs]
  have HS := Lib.hid hs
  obtain ⟨cs, hcs⟩ : ∃ cs, cs = fcA f (.slice A1 f.stk.length c1) (.slice A2 f.loc.length c2) (.slice A3 f.slt.length c3) := ⟨_, rfl⟩
  clear h1 h2 h3 hSL hl hB hs
  go_enter Tryz.func32, Tryz.ntmps32
  go_upto_region 3 with (first
    | (guard_target = wpList _ _ _ (Oper.mk _ (Op.box 45 _) _ _ _ none :: _) _ _; refine wpList_box_arr rfl 45 (.tmp 0) rfl (fcA f (.slice A1 f.stk.length c1) (.slice A2 f.loc.length c2) (.slice A3 f.slt.length c3)) rfl ?_; have hI := Held.new w 45 (fcA f (.slice A1 f.stk.length c1) (.slice A2 f.loc.length c2) (.slice A3 f.slt.length c3)); have i8 := hI.cell 8; simp at i8)
    | (guard_target = wpList _ _ _ (Oper.mk _ (Op.alloc 32) _ _ _ none :: _) _ _; refine wpList_alloc_arr rfl 32 rfl fo0 (by kernel_rfl) ?_))
  have hI2 : Held ((w.alloc (.cells (fcA f (.slice A1 f.stk.length c1) (.slice A2 f.loc.length c2) (.slice A3 f.slt.length c3)) 45)).alloc (.cells fo0 32)) w.heap.size 45 (fcA f (.slice A1 f.stk.length c1) (.slice A2 f.loc.length c2) (.slice A3 f.slt.length c3)) := hI.below ((Below.refl _ _).alloc (Nat.le_refl _) _)
  have hR2 : Held ((w.alloc (.cells (fcA f (.slice A1 f.stk.length c1) (.slice A2 f.loc.length c2) (.slice A3 f.slt.length c3)) 45)).alloc (.cells fo0 32)) (w.heap.size + 1) 32 fo0 := by
    have := Held.new (w.alloc (.cells (fcA f (.slice A1 f.stk.length c1) (.slice A2 f.loc.length c2) (.slice A3 f.slt.length c3)) 45)) 32 fo0
    simpa using this
  have hw2 : Below w.heap.size w ((w.alloc (.cells (fcA f (.slice A1 f.stk.length c1) (.slice A2 f.loc.length c2) (.slice A3 f.slt.length c3)) 45)).alloc (.cells fo0 32)) := ((Below.refl _ _).alloc (Nat.le_refl _) _).alloc (by simp) _
  have hsz : ((w.alloc (.cells (fcA f (.slice A1 f.stk.length c1) (.slice A2 f.loc.length c2) (.slice A3 f.slt.length c3)) 45)).alloc (.cells fo0 32)).heap.size = w.heap.size + 2 := by simp
  generalize (w.alloc (.cells (fcA f (.slice A1 f.stk.length c1) (.slice A2 f.loc.length c2) (.slice A3 f.slt.length c3)) 45)).alloc (.cells fo0 32) = W2 at *
  have x4 := hI2.cell 4
  have x10 := hI2.cell 10
  have x11 := hI2.cell 11
  have x12 := hI2.cell 12
  simp at x4 x10 x11 x12
  have hz4 := Held.new W2 32 fo0
  clear hI i8 hcs hs2
  go_upto_region 4 with (first
    | (guard_target = wpList _ _ _ (Oper.mk _ (Op.alloc 32) _ _ _ none :: _) _ _; refine wpList_alloc_arr rfl 32 rfl fo0 (by kernel_rfl) ?_)
    | (guard_target = wpList _ _ _ (Oper.mk _ (Op.store 32 (.tmp 4) (.tmp 11)) _ _ _ none :: _) _ _; refine wpList_store_row rfl 32 _ _ rfl W2.heap.size #[.int .i64 f.otr, .int .i64 f.ore, .int .i64 f.oim] rfl rfl _ _ hz4 (by kernel_rfl) rfl (by simp [Value.oneCell']) ?_))
  have hO3 : Held (W2.alloc (.cells #[.int .i64 f.otr, .int .i64 f.ore, .int .i64 f.oim] 32)) W2.heap.size 32 #[.int .i64 f.otr, .int .i64 f.ore, .int .i64 f.oim] := Held.new W2 32 _
  have hb3 : Below W2.heap.size W2 (W2.alloc (.cells #[.int .i64 f.otr, .int .i64 f.ore, .int .i64 f.oim] 32)) := (Below.refl _ _).alloc (Nat.le_refl _) _
  replace hI2 := hI2.below hb3
  replace hR2 := hR2.below hb3
  replace hw2 := Below.step hw2 hb3
  generalize (W2.alloc (.cells #[.int .i64 f.otr, .int .i64 f.ore, .int .i64 f.oim] 32)) = W3 at *
  rw [hsz] at hO3
  have hO4 : Held W3 (w.heap.size + 2) 32 #[.int .i64 (finO f f.slt.length).1, .int .i64 (finO f f.slt.length).2.1, .int .i64 (finO f f.slt.length).2.2] := by rw [finO_all]; exact hO3
  have HO4 := Lib.hid hO4
  have HI3 := Lib.hid hI2
  have HR3 := Lib.hid hR2
  have HW3 := Lib.hid hw2
  have HFB := Lib.hid (fun (j : Nat) (hj : j < f.slt.length) h => fin_busy (f := f) hj h)
  have y4 := hI2.cell 4
  simp at y4
  have hwl : wrap64 ((f.slt.length : Int) - 1) = (f.slt.length : Int) - 1 := fin_wl HLL.out
  clear x4 x10 x11 x12 hz4 hb3 hO3 hO4 hsz
  go_upto_region 5 with fail
  clear y4 hI2 hR2 hw2
  go_loopw [5] (fun iv W => ∃ j : Nat, iv = .int .i64 ((j : Int) - 1) ∧ j ≤ f.slt.length ∧ (∀ k, j ≤ k → ∀ h : k < f.slt.length, f.slt[k].st ≠ 1) ∧ Held W (w.heap.size + 2) 32 #[.int .i64 (finO f j).1, .int .i64 (finO f j).2.1, .int .i64 (finO f j).2.2] ∧ Below (w.heap.size + 2) W3 W) (fun iv _ => (intOf iv + 1).toNat)
  case atStart => exact ⟨f.slt.length, (by first | with_reducible rfl | (rw [hwl])), Nat.le_refl _, fun k h1 h2 => absurd h2 (Nat.not_lt_of_le h1), HO4.out, Below.refl _ _⟩
  case round =>
    obtain ⟨j, rfl, hj, hnb, hO, hb⟩ := hrel
    generalize wr = Wk at *
    have hI : Held Wk w.heap.size 45 (fcA f (.slice A1 f.stk.length c1) (.slice A2 f.loc.length c2) (.slice A3 f.slt.length c3)) := (hb.block w.heap.size (Nat.lt_succ_of_lt (Nat.lt_succ_self _))).trans HI3.out
    have hR : Held Wk (w.heap.size + 1) 32 fo0 := (hb.block (w.heap.size + 1) (Nat.lt_succ_self _)).trans HR3.out
    have hw := HW3.out.trans (hb.mono (Nat.le_add_right _ 2))
    have x4 := hI.cell 4
    have x10 := hI.cell 10
    simp at x4 x10
    have HNB := Lib.hid hnb
    have HO := Lib.hid hO
    have HB := Lib.hid hb
    have HR := Lib.hid hR
    have HW := Lib.hid hw
    clear hnb hI
    clear hwl
    match j, hj with
    | 0, _ =>
      have hd : decide ((0 : Int) ≤ ((0 : Nat) : Int) - 1) = false := by decide
      have k0 := HO.out.cell 0
      have k1 := HO.out.cell 1
      have k2 := HO.out.cell 2
      simp at k0 k1 k2
      have hfin := finO_fin HS.out (by
        rw [← Bool.not_eq_true, List.any_eq_true]
        rintro ⟨x, hx, hx1⟩
        obtain ⟨i, hi, rfl⟩ := List.getElem_of_mem hx
        exact HNB.out i (Nat.zero_le _) hi (by simpa using hx1))
      have HFIN := Lib.hid hfin
      have hR1 := HR.out
      clear hO hb hw x4 x10 hfin
      go_wp2_with (guard_target = wpList _ _ _ (Oper.mk _ (Op.store 32 (.tmp 2) (.tmp 59)) _ _ _ none :: _) _ _; refine wpList_store_row rfl 32 _ _ rfl (w.heap.size + 1) #[.int .i64 (finO f 0).1, .int .i64 (finO f 0).2.1, .int .i64 (finO f 0).2.2] rfl rfl _ _ hR1 (by kernel_rfl) rfl (by simp [Value.oneCell']) ?_)
      have k1 := hR1.rowSelf #[.int .i64 (finO f 0).1, .int .i64 (finO f 0).2.1, .int .i64 (finO f 0).2.2]
      have l1 := run_loadVar_row (P := Tryz.prog) _ (w.heap.size + 1) 32 32 _ (0, 0) _ k1 Tryz.underlying32 rfl (by kernel_rfl)
      exact bodyPost_ret (results_ct rfl _ _ rfl rfl l1) rfl ⟨by rw [HFIN.out]; rfl, below_row HW.out (Nat.le_succ _) _⟩
    | j + 1, hj =>
      have hjl : j < f.slt.length := hj
      obtain ⟨hwj, hej⟩ := fin_wrap hjl HLL.out
      rw [hej]
      rw [hej] at hwj
      have hd : decide ((0 : Int) ≤ (j : Int)) = true := decide_eq_true (Int.natCast_nonneg j)
      have hj2 : (j : Int) < (f.slt.length : Int) := fin_lt hjl
      obtain ⟨b, off, rfl, hbl, hdd⟩ := (HSL.out.below hw (Nat.le_refl _)) (Nat.zero_lt_of_lt hjl)
      obtain ⟨d0, d1, d2, d3, d4, d5⟩ := hdd j hjl
      have hfb := HFB.out j hjl
      have hhit := fun h => finO_hit (f := f) hjl h
      have hmiss := fun h => finO_miss (f := f) hjl h
      have hnb : f.slt[j].st ≠ 1 → ∀ k, j ≤ k → ∀ h : k < f.slt.length, f.slt[k].st ≠ 1 := fun h1 k hk h => by
        rcases Nat.lt_or_eq_of_le hk with hk | rfl
        · exact HNB.out k hk h
        · exact h1
      have HNB2 := Lib.hid hnb
      generalize f.slt[j] = sj at *
      obtain ⟨s0, s1, s2, s3, s4, s5⟩ := sj
      simp only at d0 d1 d2 d3 d4 d5
      have HHIT := Lib.hid hhit
      have HMISS := Lib.hid hmiss
      have HJ := Lib.hid hjl
      clear hdd hhit hmiss hnb hej HNB hj
      by_cases h1 : s0 = 1
      · have HFIN := Lib.hid (hfb h1)
        have h1b : (s0 == 1) = true := by simpa using h1
        have hR1 := HR.out
        clear h1 hO hb hw x10 hfb
        go_wp2_with (guard_target = wpList _ _ _ (Oper.mk _ (Op.store 32 (.tmp 2) (.tmp 27)) _ _ _ none :: _) _ _; refine wpList_store_row rfl 32 _ _ rfl (w.heap.size + 1) fo0 rfl rfl _ _ hR1 (by kernel_rfl) rfl (by simp [Value.oneCell']) ?_)
        have k1 := hR1.rowSelf fo0
        have l1 := run_loadVar_row (P := Tryz.prog) _ (w.heap.size + 1) 32 32 _ (0, 0) _ k1 Tryz.underlying32 rfl (by kernel_rfl)
        exact bodyPost_ret (results_ct rfl _ _ rfl rfl l1) rfl ⟨by rw [HFIN.out]; rfl, below_row HW.out (Nat.le_succ _) _⟩
      · have h1b : (s0 == 1) = false := by simpa using h1
        have HNB3 := Lib.hid (HNB2.out h1)
        clear h1 hfb HNB2
        by_cases hq : s0 = 2 ∧ s3 ≠ 0 ∧ f.otr = 0
        · obtain ⟨hq0, hq1, hq2⟩ := hq
          have e := HHIT.out (by simp [hq0, hq1]) hq2
          have HE := Lib.hid e
          have q1 : (s0 == 2) = true := by simpa using hq0
          have q2 : (s3 != 0) = true := by simpa using hq1
          have q3 : (f.otr == 0) = true := by simpa using hq2
          clear hq0 hq1 hq2 e hw
          have hO9 := HO.out
          go_wp2_with (guard_target = wpList _ _ _ (Oper.mk _ (Op.store 32 (.tmp 4) (.tmp 58)) _ _ _ none :: _) _ _; refine wpList_store_row rfl 32 _ _ rfl (w.heap.size + 2) #[.int .i64 s3, .int .i64 0, .int .i64 0] rfl rfl _ _ hO9 (by kernel_rfl) rfl (by simp [Value.oneCell']) ?_)
          go_roundw
          case rel =>
            refine ⟨j, (by first | with_reducible rfl | (rw [hwj])), Nat.le_of_lt HJ.out, HNB3.out, ?_, below_row HB.out (Nat.le_refl _) _⟩
            rw [HE.out]
            exact hO9.rowSelf _
          case measure => first | exact fin_me2 j | (rw [hwj]; exact fin_me2 j)
        · have HE := Lib.hid (HMISS.out (fin_or hq))
          have hO9 := HO.out
          by_cases q0 : s0 = 2
          · have q1 : (s0 == 2) = true := by simpa using q0
            by_cases q00 : s3 = 0
            · have q2 : (s3 != 0) = false := by simpa using q00
              clear hq q0 q00 hO hb hw
              go_wp2_with fail
              go_roundw
              case rel => exact ⟨j, (by first | with_reducible rfl | (rw [hwj])), Nat.le_of_lt HJ.out, HNB3.out, by rw [HE.out]; exact HO.out, HB.out⟩
              case measure => first | exact fin_me2 j | (rw [hwj]; exact fin_me2 j)
            · have q2 : (s3 != 0) = true := by simpa using q00
              have q3 : (f.otr == 0) = false := by
                have : f.otr ≠ 0 := fun h => hq ⟨q0, q00, h⟩
                simpa using this
              clear hq q0 q00 hO hb hw
              go_wp2_with fail
              go_roundw
              case rel => exact ⟨j, (by first | with_reducible rfl | (rw [hwj])), Nat.le_of_lt HJ.out, HNB3.out, by rw [HE.out]; exact HO.out, HB.out⟩
              case measure => first | exact fin_me2 j | (rw [hwj]; exact fin_me2 j)
          · have q1 : (s0 == 2) = false := by simpa using q0
            clear hq q0 hO hb hw
            go_wp2_with fail
            go_roundw
            case rel => exact ⟨j, (by first | with_reducible rfl | (rw [hwj])), Nat.le_of_lt HJ.out, HNB3.out, by rw [HE.out]; exact HO.out, HB.out⟩
            case measure => first | exact fin_me2 j | (rw [hwj]; exact fin_me2 j)
end Go.Proofs.YtoeinpiekfmbgaaGreatDoor

/- Layer 10: the document's run. -/
namespace Go.Proofs.YtoeinpiekfmbgaaGreatDoor
set_option linter.unusedVariables false
set_option linter.unusedSimpArgs false
open Gm Go.RowKit Go.ChangeShapes Go.WideShapes Go.ChangeAt Go.Sort

abbrev oz9 : Array Value := #[.int .i64 0, .int .i64 0, .int .i64 0]
def RunR : Option (OutP × Nat) → Value
  | none => .tuple #[.agg oz9, .int .i64 (-1)]
  | some (o, m) => .tuple #[outv o.1 o.2.1 o.2.2, .int .i64 m]
/-- What a run leaves. -/
def RunQ (w : World) (R : Option (OutP × Nat)) (e : Ending) (w' : World) : Prop := e = .returned (RunR R) ∧ Below w.heap.size w w'
/-- A round begins. -/
structure RM (w : World) (F : Frm) (s l o : Value) (W : World) : Prop where
  h4 : Held W w.heap.size 45 (fcA F s l o)
  h6 : Held W (w.heap.size + 1) 32 oz9
  os : OwnVs W 0 s F.stk
  ol : OwnVs W 0 l F.loc
  oo : OwnSs W 0 o F.slt
  bw : Below w.heap.size w W
theorem RM.below {w W W' : World} {F : Frm} {s l o : Value} (h : RM w F s l o W) (hb : Below W.heap.size W W') : RM w F s l o W' :=
  ⟨h.h4.below hb, h.h6.below hb, row_later h.os hb, row_later h.ol hb, row_later h.oo hb, Below.step h.bw hb⟩
theorem RM.at {w W : World} {F : Frm} {s l o : Value} (h : RM w F s l o W) : FrmAt W W.heap.size (fv F s l o) F := OwnF.at ⟨s, l, o, rfl, h.os, h.ol, h.oo⟩
theorem RM.store {w W : World} {F F' : Frm} {s l o s' l' o' : Value} (h : RM w F s l o W) (os : OwnVs W 0 s' F'.stk) (ol : OwnVs W 0 l' F'.loc) (oo : OwnSs W 0 o' F'.slt) : RM w F' s' l' o' (W.setRow w.heap.size (fcA F' s' l' o')) :=
  ⟨h.h4.rowSelf _, h.h6.row (Nat.succ_ne_self _) _, row_same os fun b e => setRow_far _ _ _ b (row_apart os h.h4 tyFV b e), row_same ol fun b e => setRow_far _ _ _ b (row_apart ol h.h4 tyFV b e),
    row_same oo fun b e => setRow_far _ _ _ b (row_apart oo h.h4 tyFS b e), below_row h.bw (Nat.le_refl _) _⟩
/-- Behind an instruction: what it asks for lies in a block, its values in their own. -/
structure RA (w : World) (F : Frm) (s l o : Value) (g9 : Nat) (a : ActP) (A5 : Option Addr) (c5 : Nat) (W : World) : Prop where
  rm : RM w F s l o W
  h9 : Held W g9 77 #[.int .i64 a.kd, .int .i64 a.fn, .int .i64 a.sl, .int .i64 a.sd, .slice A5 a.ar.length c5]
  av : OwnVs W 0 (.slice A5 a.ar.length c5) a.ar
theorem RA.below {w W W' : World} {F : Frm} {s l o : Value} {g9 c5 : Nat} {a : ActP} {A5 : Option Addr} (h : RA w F s l o g9 a A5 c5 W) (hb : Below W.heap.size W W') : RA w F s l o g9 a A5 c5 W' := ⟨h.rm.below hb, h.h9.below hb, row_later h.av hb⟩
theorem tyAF2 : 77 ≠ 45 := by decide
theorem RA.store {w W : World} {F F' : Frm} {s l o s' l' o' : Value} {g9 c5 : Nat} {a : ActP} {A5 : Option Addr} (h : RA w F s l o g9 a A5 c5 W) (os : OwnVs W 0 s' F'.stk) (ol : OwnVs W 0 l' F'.loc) (oo : OwnSs W 0 o' F'.slt) : RA w F' s' l' o' g9 a A5 c5 (W.setRow w.heap.size (fcA F' s' l' o')) :=
  ⟨h.rm.store os ol oo, h.h9.row (held_ne h.h9 h.rm.h4 tyAF2) _, row_same h.av fun b e => setRow_far _ _ _ b (row_apart h.av h.rm.h4 tyFV b e)⟩
/-- What Do leaves is stored in two new blocks. -/
theorem ra_of {w W u : World} {F F1 : Frm} {s l o s' l' o' : Value} {c5 : Nat} {a : ActP} {A5 : Option Addr} (h : RM w F s l o W) (hb : Below W.heap.size W u) (os : OwnVs u W.heap.size s' F1.stk) (ol : OwnVs u W.heap.size l' F1.loc) (oo : OwnSs u W.heap.size o' F1.slt) (av : OwnVs u W.heap.size (.slice A5 a.ar.length c5) a.ar) :
    RA w F s l o (u.heap.size + 1) a A5 c5 ((((u.alloc (.cells fz0 45)).alloc (.cells ac0 77)).setRow u.heap.size (fcA F1 s' l' o')).setRow (u.heap.size + 1) #[.int .i64 a.kd, .int .i64 a.fn, .int .i64 a.sl, .int .i64 a.sd, .slice A5 a.ar.length c5]) ∧
    Held ((((u.alloc (.cells fz0 45)).alloc (.cells ac0 77)).setRow u.heap.size (fcA F1 s' l' o')).setRow (u.heap.size + 1) #[.int .i64 a.kd, .int .i64 a.fn, .int .i64 a.sl, .int .i64 a.sd, .slice A5 a.ar.length c5]) u.heap.size 45 (fcA F1 s' l' o') ∧
    OwnVs ((((u.alloc (.cells fz0 45)).alloc (.cells ac0 77)).setRow u.heap.size (fcA F1 s' l' o')).setRow (u.heap.size + 1) #[.int .i64 a.kd, .int .i64 a.fn, .int .i64 a.sl, .int .i64 a.sd, .slice A5 a.ar.length c5]) 0 s' F1.stk ∧
    OwnVs ((((u.alloc (.cells fz0 45)).alloc (.cells ac0 77)).setRow u.heap.size (fcA F1 s' l' o')).setRow (u.heap.size + 1) #[.int .i64 a.kd, .int .i64 a.fn, .int .i64 a.sl, .int .i64 a.sd, .slice A5 a.ar.length c5]) 0 l' F1.loc ∧
    OwnSs ((((u.alloc (.cells fz0 45)).alloc (.cells ac0 77)).setRow u.heap.size (fcA F1 s' l' o')).setRow (u.heap.size + 1) #[.int .i64 a.kd, .int .i64 a.fn, .int .i64 a.sl, .int .i64 a.sd, .slice A5 a.ar.length c5]) 0 o' F1.slt := by
  have f8 := (Held.new u 45 fz0).alloc (.cells ac0 77)
  have f9 := Held.new1 u (.cells fz0 45) 77 ac0
  have hb2 : Below u.heap.size u ((((u.alloc (.cells fz0 45)).alloc (.cells ac0 77)).setRow u.heap.size (fcA F1 s' l' o')).setRow (u.heap.size + 1) #[.int .i64 a.kd, .int .i64 a.fn, .int .i64 a.sl, .int .i64 a.sd, .slice A5 a.ar.length c5]) :=
    below_row (below_row (below2 u _ _) (Nat.le_refl _) _) (Nat.le_succ _) _
  have k8 := (f8.rowSelf (fcA F1 s' l' o')).row (Nat.succ_ne_self u.heap.size).symm #[.int .i64 a.kd, .int .i64 a.fn, .int .i64 a.sl, .int .i64 a.sd, .slice A5 a.ar.length c5]
  have k9 := (f9.row (Nat.succ_ne_self u.heap.size) (fcA F1 s' l' o')).rowSelf #[.int .i64 a.kd, .int .i64 a.fn, .int .i64 a.sl, .int .i64 a.sd, .slice A5 a.ar.length c5]
  exact ⟨⟨h.below (hb.trans (hb2.mono hb.size)), k9, row_mono (row_later av hb2) (Nat.zero_le _)⟩, k8, row_mono (row_later os hb2) (Nat.zero_le _), row_mono (row_later ol hb2) (Nat.zero_le _), row_mono (row_later oo hb2) (Nat.zero_le _)⟩
set_option maxHeartbeats 8000000 in
set_option maxRecDepth 100000 in
theorem rrun_any {A : Option Addr} {p : List Fun} (c : Nat) (hc : (checkP p).2.2 = 0) (hz : SizedP p) : ∀ (n k : Nat) (g : Fun) (f : Frm) (A1 A2 A3 : Option Addr) (c1 c2 c3 C : Nat) (w : World), ProgAt w C A p → C ≤ w.heap.size →
    OwnVs w 0 (.slice A1 f.stk.length c1) f.stk → OwnVs w 0 (.slice A2 f.loc.length c2) f.loc → OwnSs w 0 (.slice A3 f.slt.length c3) f.slt → p[k]? = some g → Safe p k g (GoodT p) f → Inv (GoodT p) f → InvZ f → f.st = 0 → n ≤ 100000 →
    Calls Tryz.prog 15 #[.slice A p.length c, fv f (.slice A1 f.stk.length c1) (.slice A2 f.loc.length c2) (.slice A3 f.slt.length c3), .int .i64 n] w (RunQ w (runT p n [(f, 0)])) := by
  intro n
  induction n using Nat.strongRecOn with
  | _ n ih =>
  intro k g f A1 A2 A3 c1 c2 c3 C w hp hC os ol oo hg hs hi hZ hst hn
  obtain ⟨R, hR⟩ : ∃ R, R = runT p n [(f, 0)] := ⟨_, rfl⟩
  rw [← hR]
  have hb2 := below2 w (.cells (fcA f (.slice A1 f.stk.length c1) (.slice A2 f.loc.length c2) (.slice A3 f.slt.length c3)) 45) (.cells oz9 32)
  have hM0 : RM w f (.slice A1 f.stk.length c1) (.slice A2 f.loc.length c2) (.slice A3 f.slt.length c3) ((w.alloc (.cells (fcA f (.slice A1 f.stk.length c1) (.slice A2 f.loc.length c2) (.slice A3 f.slt.length c3)) 45)).alloc (.cells oz9 32)) :=
    ⟨(Held.new w 45 _).alloc _, Held.new1 w _ 32 oz9, row_later os hb2, row_later ol hb2, row_later oo hb2, hb2⟩
  have HM0 := Lib.hid hM0
  have HR := Lib.hid hR
  have HP := Lib.hid (fun W (hb : Below w.heap.size w W) => hp.below hb hC)
  have HC := Lib.hid hC
  have HG := Lib.hid hg
  have HIH := Lib.hid ih
  have HCK := Lib.hid hc
  have HZ := Lib.hid hz
  have HS := Lib.hid (And.intro hs (And.intro hi (And.intro hZ hst)))
  have hn' : (n : Int) ≤ 100000 := by omega
  clear hM0 hb2 hR hp hC os ol oo hg hs hi hZ hst ih hc hz hn
  go_enter Tryz.func15, Tryz.ntmps15
  go_wp2_with (guard_target = wpList _ _ _ (Oper.mk _ (Op.box 45 _) _ _ _ none :: _) _ _; refine wpList_box_arr rfl 45 (.tmp 1) rfl (fcA f (.slice A1 f.stk.length c1) (.slice A2 f.loc.length c2) (.slice A3 f.slt.length c3)) rfl ?_)
  generalize (w.alloc (.cells (fcA f (.slice A1 f.stk.length c1) (.slice A2 f.loc.length c2) (.slice A3 f.slt.length c3)) 45)).alloc (.cells oz9 32) = W0 at *
  go_loopw [2] (fun iv wr => ∃ (m : Nat) (F : Frm) (B1 B2 B3 : Option Addr) (b1 b2 b3 : Nat), iv = .int .i64 m ∧ m ≤ n ∧ RM w F (.slice B1 F.stk.length b1) (.slice B2 F.loc.length b2) (.slice B3 F.slt.length b3) wr ∧ Safe p k g (GoodT p) F ∧ Inv (GoodT p) F ∧ InvZ F ∧ F.st = 0 ∧ R = runT p m [(F, 0)]) (fun iv _ => (intOf iv).toNat)
  case atStart => exact ⟨n, f, A1, A2, A3, c1, c2, c3, rfl, Nat.le_refl _, HM0.out, HS.out.1, HS.out.2.1, HS.out.2.2.1, HS.out.2.2.2, HR.out⟩
  case round =>
    obtain ⟨m, F, B1, B2, B3, b1, b2, b3, rfl, hm, hM, hsF, hiF, hzF, hstF, hRF⟩ := hrel
    cases m with
    | zero =>
      have e : R = none := hRF
      subst e
      have h6 := hM.h6
      have hbw := hM.bw
      go_wp2_with (guard_target = wpList _ _ _ (Oper.mk _ (Op.store 32 (.tmp 6) _) _ _ _ none :: _) _ _; refine wpList_store_row rfl 32 _ _ rfl (w.heap.size + 1) oz9 rfl rfl _ _ h6 (by kernel_rfl) rfl (by simp [Value.oneCell']) ?_)
      have l1 := run_loadVar_row (P := Tryz.prog) _ (w.heap.size + 1) 32 32 _ (0, 0) _ (h6.rowSelf oz9) Tryz.underlying32 rfl (by kernel_rfl)
      exact bodyPost_ret (results_ct rfl _ _ rfl rfl l1) rfl ⟨rfl, below_row hbw (Nat.le_succ _) _⟩
    | succ m =>
      obtain ⟨F1, a, hFa⟩ : ∃ F1 a, doF p F = (F1, a) := ⟨_, _, rfl⟩
      have hrd := rnd_of HCK.out HG.out hsF hiF hzF hstF hRF hFa
      have CD := r9do_any c wr HCK.out HG.out hsF hstF hzF (HP.out wr hM.bw) (Nat.le_trans HC.out hM.bw.size) hM.at
      rw [hFa] at CD
      have HCD := Lib.hid CD
      have HRD := Lib.hid hrd
      have HM := Lib.hid hM
      have h4 := hM.h4
      have HMN := Lib.hid (show m < n from hm)
      have hm0 : (0 : Int) ≤ m := Int.natCast_nonneg m
      have hm1 : (m : Int) ≤ 100000 := by omega
      clear CD hrd hsF hiF hzF hstF hRF hFa hM hm
      go_upto_region 5 with (first
        | (guard_target = wpList _ _ _ (Oper.mk _ (Op.load 45 (.tmp 4)) _ _ _ none :: _) _ _; refine wpList_load_row rfl 45 _ rfl w.heap.size rfl _ _ _ _ h4 Tryz.underlying45 rfl (by kernel_rfl) ?_)
        | (go_at_call 30; (with_reducible refine HCD.out.mono ?_); rintro _ u ⟨fr, av, rfl, ⟨s', l', o', rfl, os, ol, oo⟩, ⟨A5, c5, rfl, hav⟩, hb⟩; obtain ⟨As, cs, rfl, -⟩ := os.lies; obtain ⟨Al, cl, rfl, -⟩ := ol.lies; obtain ⟨Ao, co, rfl, -⟩ := oo.lies; have f8 := (Held.new u 45 fz0).alloc (.cells ac0 77); have f9 := Held.new1 u (.cells fz0 45) 77 ac0)
        | (guard_target = wpList _ _ _ (Oper.mk _ (Op.alloc 45) _ _ _ none :: _) _ _; refine wpList_alloc_arr rfl 45 rfl fz0 (by kernel_rfl) ?_)
        | (guard_target = wpList _ _ _ (Oper.mk _ (Op.alloc 77) _ _ _ none :: _) _ _; refine wpList_alloc_arr rfl 77 rfl ac0 (by kernel_rfl) ?_)
        | (guard_target = wpList _ _ _ (Oper.mk _ (Op.store 45 (.tmp 8) _) _ _ _ none :: _) _ _; refine wpList_store_row rfl 45 _ _ rfl u.heap.size (fcA F1 (.slice As F1.stk.length cs) (.slice Al F1.loc.length cl) (.slice Ao F1.slt.length co)) rfl rfl _ _ f8 (by kernel_rfl) rfl (by simp [Value.oneCell']) ?_; have k9 := f9.row (Nat.succ_ne_self u.heap.size) (fcA F1 (.slice As F1.stk.length cs) (.slice Al F1.loc.length cl) (.slice Ao F1.slt.length co)))
        | (guard_target = wpList _ _ _ (Oper.mk _ (Op.store 77 (.tmp 9) _) _ _ _ none :: _) _ _; refine wpList_store_row rfl 77 _ _ rfl (u.heap.size + 1) #[.int .i64 a.kd, .int .i64 a.fn, .int .i64 a.sl, .int .i64 a.sd, .slice A5 a.ar.length c5] rfl rfl _ _ k9 (by kernel_rfl) rfl (by simp [Value.oneCell']) ?_))
      obtain ⟨hRA, h8, os8, ol8, oo8⟩ := ra_of HM.out hb os ol oo hav
      generalize ((((u.alloc (.cells fz0 45)).alloc (.cells ac0 77)).setRow u.heap.size (fcA F1 (.slice As F1.stk.length cs) (.slice Al F1.loc.length cl) (.slice Ao F1.slt.length co))).setRow (u.heap.size + 1) #[.int .i64 a.kd, .int .i64 a.fn, .int .i64 a.sl, .int .i64 a.sd, .slice A5 a.ar.length c5]) = W4 at *
      generalize u.heap.size = g8 at *
      clear f8 f9 k9 hb os ol oo hav HCD h4 HM
      have h4 := hRA.rm.h4
      go_upto_region 6 with (first
        | (guard_target = wpList _ _ _ (Oper.mk _ (Op.load 45 (.tmp 8)) _ _ _ none :: _) _ _; refine wpList_load_row rfl 45 _ rfl g8 rfl _ _ _ _ h8 Tryz.underlying45 rfl (by kernel_rfl) ?_)
        | (guard_target = wpList _ _ _ (Oper.mk _ (Op.store 45 (.tmp 4) _) _ _ _ none :: _) _ _; refine wpList_store_row rfl 45 _ _ rfl w.heap.size (fcA F1 (.slice As F1.stk.length cs) (.slice Al F1.loc.length cl) (.slice Ao F1.slt.length co)) rfl rfl _ _ h4 (by kernel_rfl) rfl (by simp [Value.oneCell']) ?_))
      have hRB := hRA.store os8 ol8 oo8
      generalize W4.setRow w.heap.size (fcA F1 (.slice As F1.stk.length cs) (.slice Al F1.loc.length cl) (.slice Ao F1.slt.length co)) = W5 at *
      clear h4 hRA h8 os8 ol8 oo8
      have q0 := hRB.h9.cell 0
      simp at q0
      have HRB := Lib.hid hRB
      clear hRB
      rcases HRD.out.kd with hk | hk | hk
      · obtain ⟨hst, hsf, hR1⟩ := HRD.out.on hk
        rw [hk] at q0
        have HF := Lib.hid (And.intro hst (And.intro hsf hR1))
        clear hst hsf hR1 hk
        go_wp2_with fail
        go_roundw
        case rel => exact ⟨m, F1, As, Al, Ao, cs, cl, co, by go_num, Nat.le_of_lt HMN.out, HRB.out.rm, HF.out.2.1, HRD.out.inv, HRD.out.zz, HF.out.1, HF.out.2.2⟩
        case measure => simp [intOf]
      · obtain ⟨⟨hn1, hn2, hn3⟩, ⟨j, hj, hjl, hj1⟩, hst1, ⟨k2, g2, hg2, hs2, hst2, hi2, hz2⟩, hno, hso⟩ := HRD.out.kid hk
        rw [hk] at q0
        have hk2 := hk
        have CN := rnew_yes c c5 a.fn a.sd W5 (HP.out W5 HRB.out.rm.bw) HZ.out (Nat.le_trans HC.out HRB.out.rm.bw.size) (own_at HRB.out.av) (Nat.le_trans HRD.out.arl (by decide)) (Nat.le_refl _) hn1 hn2 hn3
        obtain ⟨K, hK⟩ : ∃ K, K = (newF p a.fn a.ar a.sd).1 := ⟨_, rfl⟩
        rw [← hK] at hs2 hst2 hi2 hz2 hno hso
        have HCN := Lib.hid CN
        have HK := Lib.hid hK
        have HKID := Lib.hid (And.intro hg2 (And.intro hs2 (And.intro hst2 (And.intro hi2 hz2))))
        have HNO := Lib.hid hno
        have HSO := Lib.hid hso
        have HJ := Lib.hid (And.intro hjl hj1)
        have HST1 := Lib.hid hst1
        have q1 := HRB.out.h9.cell 1
        have q2 := HRB.out.h9.cell 2
        have q3 := HRB.out.h9.cell 3
        have q4 := HRB.out.h9.cell 4
        simp at q1 q2 q3 q4
        rw [hj] at q2
        clear CN hK hg2 hs2 hst2 hi2 hz2 hno hso hj1 hst1 hn1 hn2 hn3 hk
        go_upto_region 8 with (first
          | (go_at_call 13; (with_reducible refine HCN.out.mono ?_); rintro _ u7 ⟨v7, rfl, how, hb7⟩; rw [← HK.out] at how; obtain ⟨ks', kl', ko', rfl, ows, owl, owo⟩ := how; obtain ⟨Ks, ks, rfl, -⟩ := ows.lies; obtain ⟨Kl, kl, rfl, -⟩ := owl.lies; obtain ⟨Ko, ko, rfl, -⟩ := owo.lies; have f10 := Held.new u7 45 fz0)
          | (guard_target = wpList _ _ _ (Oper.mk _ (Op.alloc 45) _ _ _ none :: _) _ _; refine wpList_alloc_arr rfl 45 rfl fz0 (by kernel_rfl) ?_)
          | (guard_target = wpList _ _ _ (Oper.mk _ (Op.store 45 (.tmp 10) _) _ _ _ none :: _) _ _; refine wpList_store_row rfl 45 _ _ rfl u7.heap.size (fcA K (.slice Ks K.stk.length ks) (.slice Kl K.loc.length kl) (.slice Ko K.slt.length ko)) rfl rfl _ _ f10 (by kernel_rfl) rfl (by simp [Value.oneCell']) ?_))
        have k10 := f10.rowSelf (fcA K (.slice Ks K.stk.length ks) (.slice Kl K.loc.length kl) (.slice Ko K.slt.length ko))
        have hb8 : Below u7.heap.size u7 ((u7.alloc (.cells fz0 45)).setRow u7.heap.size (fcA K (.slice Ks K.stk.length ks) (.slice Kl K.loc.length kl) (.slice Ko K.slt.length ko))) := below_row ((Below.refl _ _).alloc (Nat.le_refl _) _) (Nat.le_refl _) _
        have hbB := Below.step hb7 hb8
        have ows8 := row_mono (row_later ows hb8) (Nat.zero_le _)
        have owl8 := row_mono (row_later owl hb8) (Nat.zero_le _)
        have owo8 := row_mono (row_later owo hb8) (Nat.zero_le _)
        have hRC := HRB.out.below hbB
        generalize ((u7.alloc (.cells fz0 45)).setRow u7.heap.size (fcA K (.slice Ks K.stk.length ks) (.slice Kl K.loc.length kl) (.slice Ko K.slt.length ko))) = W7 at *
        generalize u7.heap.size = g10 at *
        have HRC := Lib.hid hRC
        have CR := HIH.out m HMN.out k2 g2 K Ks Kl Ko ks kl ko C W7 (HP.out W7 hRC.rm.bw) (Nat.le_trans HC.out hRC.rm.bw.size) ows8 owl8 owo8 HKID.out.1 HKID.out.2.1 HKID.out.2.2.2.1 HKID.out.2.2.2.2 HKID.out.2.2.1 (by omega)
        clear hb8 hbB ows8 owl8 owo8 hRC f10 ows owl owo hb7 q0 q1 q2 q3 q4 HCN HK HRB
        cases hrk : runT p m [(K, 0)] with
        | none =>
          rw [hrk] at CR
          obtain rfl : R = none := HNO.out hrk
          have HCR := Lib.hid (show Calls Tryz.prog 15 _ W7 (fun e w' => e = .returned (.tuple #[.agg oz9, .int .i64 (-1)]) ∧ Below W7.heap.size W7 w') from CR)
          clear CR hrk
          go_wp2_with (first
            | (guard_target = wpList _ _ _ (Oper.mk _ (Op.load 45 (.tmp 10)) _ _ _ none :: _) _ _; refine wpList_load_row rfl 45 _ rfl g10 rfl _ _ _ _ k10 Tryz.underlying45 rfl (by kernel_rfl) ?_)
            | (go_at_call 15; (with_reducible refine HCR.out.mono ?_); rintro _ u8 ⟨rfl, hb8⟩; have f12 := Held.new u8 32 oz9; have h68 := HRC.out.rm.h6.below hb8; have hbw8 := Below.step HRC.out.rm.bw hb8; have k68 := (h68.alloc (.cells oz9 32)).row (Nat.ne_of_lt h68.lt) oz9; have hbw9 := below_row (hbw8.alloc hbw8.size (.cells oz9 32)) hbw8.size oz9)
            | (guard_target = wpList _ _ _ (Oper.mk _ (Op.alloc 32) _ _ _ none :: _) _ _; refine wpList_alloc_arr rfl 32 rfl oz9 (by kernel_rfl) ?_)
            | (guard_target = wpList _ _ _ (Oper.mk _ (Op.store 32 (.tmp 12) _) _ _ _ none :: _) _ _; refine wpList_store_row rfl 32 _ _ rfl u8.heap.size oz9 rfl rfl _ _ f12 (by kernel_rfl) rfl (by simp [Value.oneCell']) ?_)
            | (guard_target = wpList _ _ _ (Oper.mk _ (Op.store 32 (.tmp 6) _) _ _ _ none :: _) _ _; refine wpList_store_row rfl 32 _ _ rfl (w.heap.size + 1) oz9 rfl rfl _ _ k68 (by kernel_rfl) rfl (by simp [Value.oneCell']) ?_))
          have l1 := run_loadVar_row (P := Tryz.prog) _ (w.heap.size + 1) 32 32 _ (0, 0) _ (k68.rowSelf oz9) Tryz.underlying32 rfl (by kernel_rfl)
          exact bodyPost_ret (results_ct rfl _ _ rfl rfl l1) rfl ⟨rfl, below_row hbw9 (Nat.le_succ _) _⟩
        | some om =>
          obtain ⟨o, m2⟩ := om
          rw [hrk] at CR
          obtain ⟨hm2, hR2, hs3, hi3, hz3, hst3⟩ := HSO.out o m2 hrk
          have HCR := Lib.hid (show Calls Tryz.prog 15 _ W7 (fun e w' => e = .returned (.tuple #[outv o.1 o.2.1 o.2.2, .int .i64 m2]) ∧ Below W7.heap.size W7 w') from CR)
          rw [hj, give_is HJ.out.1 HJ.out.2 HST1.out] at hR2 hs3 hi3 hz3 hst3
          obtain ⟨G, hG⟩ : ∃ G, G = ({ F1 with slt := F1.slt.set j ⟨2, -1, 0, o.1, o.2.1, o.2.2⟩ } : Frm) := ⟨_, rfl⟩
          rw [← hG] at hR2 hs3 hi3 hz3 hst3
          have HF := Lib.hid (And.intro hR2 (And.intro hs3 (And.intro hi3 (And.intro hz3 hst3))))
          have HM2 := Lib.hid hm2
          have HGE := Lib.hid hG
          have hm20 : (0 : Int) ≤ m2 := Int.natCast_nonneg m2
          have hm21 : (m2 : Int) ≤ 100000 := by omega
          clear CR hrk hR2 hs3 hi3 hz3 hst3 hm2 hG HSO HNO
          go_upto_region 9 with (first
            | (guard_target = wpList _ _ _ (Oper.mk _ (Op.load 45 (.tmp 10)) _ _ _ none :: _) _ _; refine wpList_load_row rfl 45 _ rfl g10 rfl _ _ _ _ k10 Tryz.underlying45 rfl (by kernel_rfl) ?_)
            | (go_at_call 15; (with_reducible refine HCR.out.mono ?_); rintro _ u8 ⟨rfl, hb8⟩; have f12 := Held.new u8 32 oz9)
            | (guard_target = wpList _ _ _ (Oper.mk _ (Op.alloc 32) _ _ _ none :: _) _ _; refine wpList_alloc_arr rfl 32 rfl oz9 (by kernel_rfl) ?_)
            | (guard_target = wpList _ _ _ (Oper.mk _ (Op.store 32 (.tmp 12) _) _ _ _ none :: _) _ _; refine wpList_store_row rfl 32 _ _ rfl u8.heap.size #[.int .i64 o.1, .int .i64 o.2.1, .int .i64 o.2.2] rfl rfl _ _ f12 (by kernel_rfl) rfl (by simp [Value.oneCell']) ?_))
          have k12 := f12.rowSelf #[.int .i64 o.1, .int .i64 o.2.1, .int .i64 o.2.2]
          have hb9 : Below u8.heap.size u8 ((u8.alloc (.cells oz9 32)).setRow u8.heap.size #[.int .i64 o.1, .int .i64 o.2.1, .int .i64 o.2.2]) := below_row ((Below.refl _ _).alloc (Nat.le_refl _) _) (Nat.le_refl _) _
          have hRD := HRC.out.below (Below.step hb8 hb9)
          generalize ((u8.alloc (.cells oz9 32)).setRow u8.heap.size #[.int .i64 o.1, .int .i64 o.2.1, .int .i64 o.2.2]) = W8 at *
          generalize u8.heap.size = g12 at *
          have q2 := hRD.h9.cell 2
          simp at q2
          rw [hj] at q2
          have h4 := hRD.rm.h4
          have HRE := Lib.hid hRD
          have CG := Lib.hid (rgive_any o.1 o.2.1 o.2.2 W8 hRD.rm.at (Nat.le_refl _) ⟨Nat.le_trans HRD.out.bnd.stk (by decide), HRD.out.bnd.loc, HRD.out.bnd.slt⟩ HJ.out.1 HJ.out.2 HST1.out)
          clear hb9 f12 hb8 HRC hRD k10 HCR
          go_upto_region 13 with (first
            | (guard_target = wpList _ _ _ (Oper.mk _ (Op.load 45 (.tmp 4)) _ _ _ none :: _) _ _; refine wpList_load_row rfl 45 _ rfl w.heap.size rfl _ _ _ _ h4 Tryz.underlying45 rfl (by kernel_rfl) ?_)
            | (guard_target = wpList _ _ _ (Oper.mk _ (Op.load 32 (.tmp 12)) _ _ _ none :: _) _ _; refine wpList_load_row rfl 32 _ rfl g12 rfl _ _ _ _ k12 Tryz.underlying32 rfl (by kernel_rfl) ?_)
            | (go_at_call 31; (with_reducible refine CG.out.mono ?_); rintro _ u9 ⟨v9, rfl, how, hb9⟩; rw [← HGE.out] at how; obtain ⟨gs', gl', go', rfl, ows, owl, owo⟩ := how; obtain ⟨Gs, gs, rfl, -⟩ := ows.lies; obtain ⟨Gl, gl, rfl, -⟩ := owl.lies; obtain ⟨Go9, go9, rfl, -⟩ := owo.lies; have f14 := Held.new u9 45 fz0)
            | (guard_target = wpList _ _ _ (Oper.mk _ (Op.alloc 45) _ _ _ none :: _) _ _; refine wpList_alloc_arr rfl 45 rfl fz0 (by kernel_rfl) ?_)
            | (guard_target = wpList _ _ _ (Oper.mk _ (Op.store 45 (.tmp 14) _) _ _ _ none :: _) _ _; refine wpList_store_row rfl 45 _ _ rfl u9.heap.size (fcA G (.slice Gs G.stk.length gs) (.slice Gl G.loc.length gl) (.slice Go9 G.slt.length go9)) rfl rfl _ _ f14 (by kernel_rfl) rfl (by simp [Value.oneCell']) ?_))
          have k14 := f14.rowSelf (fcA G (.slice Gs G.stk.length gs) (.slice Gl G.loc.length gl) (.slice Go9 G.slt.length go9))
          have hb10 : Below u9.heap.size u9 ((u9.alloc (.cells fz0 45)).setRow u9.heap.size (fcA G (.slice Gs G.stk.length gs) (.slice Gl G.loc.length gl) (.slice Go9 G.slt.length go9))) := below_row ((Below.refl _ _).alloc (Nat.le_refl _) _) (Nat.le_refl _) _
          have hRF := HRE.out.below (Below.step hb9 hb10)
          have ows8 := row_mono (row_later ows hb10) (Nat.zero_le _)
          have owl8 := row_mono (row_later owl hb10) (Nat.zero_le _)
          have owo8 := row_mono (row_later owo hb10) (Nat.zero_le _)
          generalize ((u9.alloc (.cells fz0 45)).setRow u9.heap.size (fcA G (.slice Gs G.stk.length gs) (.slice Gl G.loc.length gl) (.slice Go9 G.slt.length go9))) = W9 at *
          generalize u9.heap.size = g14 at *
          clear hb10 f14 ows owl owo hb9 HRE h4 q2 CG
          have h4 := hRF.rm.h4
          have hRG := hRF.store ows8 owl8 owo8
          have hne := held_ne hRF.h9 hRF.rm.h4 tyAF2
          have q0 := hRG.h9.cell 0
          simp at q0
          rw [hk2] at q0
          have HRG := Lib.hid hRG
          clear hRF hRG ows8 owl8 owo8 hne
          go_wp2_with (first
            | (guard_target = wpList _ _ _ (Oper.mk _ (Op.load 45 (.tmp 14)) _ _ _ none :: _) _ _; refine wpList_load_row rfl 45 _ rfl g14 rfl _ _ _ _ k14 Tryz.underlying45 rfl (by kernel_rfl) ?_)
            | (guard_target = wpList _ _ _ (Oper.mk _ (Op.store 45 (.tmp 4) _) _ _ _ none :: _) _ _; refine wpList_store_row rfl 45 _ _ rfl w.heap.size (fcA G (.slice Gs G.stk.length gs) (.slice Gl G.loc.length gl) (.slice Go9 G.slt.length go9)) rfl rfl _ _ h4 (by kernel_rfl) rfl (by simp [Value.oneCell']) ?_))
          go_roundw
          case rel => exact ⟨m2, G, Gs, Gl, Go9, gs, gl, go9, by go_num, Nat.le_of_lt (Nat.lt_trans HM2.out HMN.out), HRG.out.rm, HF.out.2.1, HF.out.2.2.1, HF.out.2.2.2.1, HF.out.2.2.2.2, HF.out.1⟩
          case measure => simp [intOf]; have := HM2.out; omega
      · obtain ⟨hst, hR1⟩ := HRD.out.fin hk
        subst hR1
        rw [hk] at q0
        have CF := Lib.hid (rfinal_any W5 HRB.out.rm.at ⟨Nat.le_trans HRD.out.bnd.stk (by decide), HRD.out.bnd.loc, HRD.out.bnd.slt⟩ (Nat.le_refl _) hst)
        have h4 := HRB.out.rm.h4
        clear hst hk
        go_upto_region 16 with (first
          | (guard_target = wpList _ _ _ (Oper.mk _ (Op.load 45 (.tmp 4)) _ _ _ none :: _) _ _; refine wpList_load_row rfl 45 _ rfl w.heap.size rfl _ _ _ _ h4 Tryz.underlying45 rfl (by kernel_rfl) ?_)
          | (go_at_call 32; (with_reducible refine CF.out.mono ?_); rintro _ u7 ⟨rfl, hb7⟩; have f16 := Held.new u7 32 oz9; have h67 := HRB.out.rm.h6.below hb7; have hbw7 := Below.step HRB.out.rm.bw hb7)
          | (guard_target = wpList _ _ _ (Oper.mk _ (Op.alloc 32) _ _ _ none :: _) _ _; refine wpList_alloc_arr rfl 32 rfl oz9 (by kernel_rfl) ?_)
          | (guard_target = wpList _ _ _ (Oper.mk _ (Op.store 32 (.tmp 16) _) _ _ _ none :: _) _ _; refine wpList_store_row rfl 32 _ _ rfl u7.heap.size #[.int .i64 (finF F1).1, .int .i64 (finF F1).2.1.1, .int .i64 (finF F1).2.1.2] rfl rfl _ _ f16 (by kernel_rfl) rfl (by simp [Value.oneCell']) ?_))
        have k16 := f16.rowSelf #[.int .i64 (finF F1).1, .int .i64 (finF F1).2.1.1, .int .i64 (finF F1).2.1.2]
        have k6 := (h67.alloc (.cells oz9 32)).row (Nat.ne_of_lt h67.lt) #[.int .i64 (finF F1).1, .int .i64 (finF F1).2.1.1, .int .i64 (finF F1).2.1.2]
        have hbw8 := below_row (hbw7.alloc hbw7.size (.cells oz9 32)) hbw7.size #[.int .i64 (finF F1).1, .int .i64 (finF F1).2.1.1, .int .i64 (finF F1).2.1.2]
        generalize ((u7.alloc (.cells oz9 32)).setRow u7.heap.size #[.int .i64 (finF F1).1, .int .i64 (finF F1).2.1.1, .int .i64 (finF F1).2.1.2]) = W8 at *
        clear f16 h67 hbw7 hb7 h4 CF
        go_wp2_with (first
          | (guard_target = wpList _ _ _ (Oper.mk _ (Op.load 32 (.tmp 16)) _ _ _ none :: _) _ _; refine wpList_load_row rfl 32 _ rfl u7.heap.size rfl _ _ _ _ k16 Tryz.underlying32 rfl (by kernel_rfl) ?_)
          | (guard_target = wpList _ _ _ (Oper.mk _ (Op.store 32 (.tmp 6) _) _ _ _ none :: _) _ _; refine wpList_store_row rfl 32 _ _ rfl (w.heap.size + 1) #[.int .i64 (finF F1).1, .int .i64 (finF F1).2.1.1, .int .i64 (finF F1).2.1.2] rfl rfl _ _ k6 (by kernel_rfl) rfl (by simp [Value.oneCell']) ?_))
        have l1 := run_loadVar_row (P := Tryz.prog) _ (w.heap.size + 1) 32 32 _ (0, 0) _ (k6.rowSelf #[.int .i64 (finF F1).1, .int .i64 (finF F1).2.1.1, .int .i64 (finF F1).2.1.2]) Tryz.underlying32 rfl (by kernel_rfl)
        exact bodyPost_ret (results_ct rfl _ _ rfl rfl l1) rfl ⟨rfl, below_row hbw8 (Nat.le_succ _) _⟩
end Go.Proofs.YtoeinpiekfmbgaaGreatDoor

