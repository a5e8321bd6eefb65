/- SeqTells: for every input that can be read the law returns true, and each argument reads afterwards as it read before, where the listed tables hold what their initialisers lay; the card ties them to the program's text. No condition. (Out of its walk, in YtoeinpiekfmbgaaGreatDoorL10tells.) -/
import Derived.WalkKit
import Derived.Laws.Rows
import Derived.Laws.Tables
import Derived.Laws.World
import Derived.Deep.WholeRow
import Derived.Test.YtoeinpiekfmbgaaGreatDoorzSj
import Derived.Test.YtoeinpiekfmbgaaGreatDoorzGa
import Derived.Tactics
import Derived.Tactics2
import Derived.Defers
import Derived.Recover
import Derived.Laws.Pointers
import Derived.Test.YtoeinpiekfmbgaaGreatDoorzGs
import Derived.Test.YtoeinpiekfmbgaaGreatDoorzSb
import Derived.Test.YtoeinpiekfmbgaaGreatDoorzHb
import Derived.Test.YtoeinpiekfmbgaaGreatDoorzHc
import Derived.Test.YtoeinpiekfmbgaaGreatDoorzGh
import Derived.Test.YtoeinpiekfmbgaaGreatDoorzPlz
import Derived.SizedLaws
import Derived.Test.YtoeinpiekfmbgaaGreatDoorzGq
import Derived.Test.YtoeinpiekfmbgaaGreatDoorzHk
import Derived.Test.YtoeinpiekfmbgaaGreatDoorzGr
import Derived.Lib.QuietBelow
import Derived.Test.YtoeinpiekfmbgaaGreatDoorzRrz
import Derived.Test.YtoeinpiekfmbgaaGreatDoorzGc
import Derived.Test.YtoeinpiekfmbgaaGreatDoorCards
import Derived.Test.YtoeinpiekfmbgaaGreatDoorTie
import Derived.ProofKit
import Derived.OpenShut
import Derived.Lay
import Derived.Stop.Joined
import Derived.Stop.LaidErr
import Derived.Lib.LaidTab
import Derived.LaidMore
/- Arrays as whole rows of cells: a new one, by whatever name its zero cells have. -/
namespace Go.Proofs.YtoeinpiekfmbgaaGreatDoor
set_option linter.unusedVariables false
set_option linter.unusedSimpArgs false
open Go

theorem wpList_alloc_arr {P : Program} {w : World} {ops : Array Oper} {rest : List Oper} {o : Oper} {a : Act} {Q : Exit → Act → World → Prop} (hg : o.guard = none) (t : TypeId) (ho : o.op = .alloc t) (c : Array Value)
    (hz : (P.info? t).map (·.zero) = some (some (.agg c))) (h : wpList P ops Q rest (a.put o.dst (.pointer (some ⟨w.heap.size, 0, none⟩))) (w.alloc (.cells c t))) : wpList P ops Q (o :: rest) a w := by
  cases hq : P.info? t with
  | none => simp [hq] at hz
  | some i =>
    simp [hq] at hz
    have hrun : (Instr.alloc t true (.tuple #[])).run P w = .ok (.pointer (some ⟨w.heap.size, 0, none⟩)) (w.alloc (.cells c t)) := by
      simp [Instr.alloc, zeroValue, typeInfo, hq, hz, newVar, newRow, Value.cells]
    refine wpList_plain hg fun K hK => ?_
    unfold Oper.wp execOp
    simp only [ho, Sem.run_bind, hrun, Result.andThen_ok]
    exact hK _ _ h
end Go.Proofs.YtoeinpiekfmbgaaGreatDoor

/- Layer 10's code: a task ends. -/
namespace Go.Proofs.YtoeinpiekfmbgaaGreatDoor
set_option linter.unusedVariables false
set_option linter.unusedSimpArgs false
open Gm Go.RowKit Go.ChangeShapes Go.WideShapes Go.ChangeAt Go.Sort

theorem tyOV : 32 ≠ 30 := by decide
theorem tyOS : 32 ≠ 75 := by decide
theorem low_nat (n : Nat) : (((n + 1 : Nat) : Int) - 1) = (n : Int) := by omega
theorem lt_nat (n : Nat) : (n : Int) < ((n + 1 : Nat) : Int) := by omega
/-- The tasks as the machine has them: the last one first. -/
def revT (l : List TskC) : List Tsk := l.reverse.map TskC.t
theorem revT_snoc (l : List TskC) (x : TskC) : revT (l ++ [x]) = x.t :: revT l := by simp [revT]
def tskA (x : TskC) : Array Value := (x.cs.toList ++ [Value.int .i64 x.sl]).toArray
set_option maxHeartbeats 8000000 in
set_option maxRecDepth 100000 in
theorem send_any {B r np c : Nat} {A : Option Addr} {p : List Fun} {U : World} {v : Value} {fuel used : Int} {l0 : List TskC} {x : TskC} (w : World) (CX : Cx p A np c U) (hU : Below U.heap.size U w) (hUB : U.heap.size ≤ B) (h : RunS w B r (.slice A np c) fuel used v (l0 ++ [x])) (hl : l0.length ≤ 1000000) (hB : B ≤ w.heap.size) :
    Calls Tryz.prog 44 #[.pointer (some ⟨r, 0, none⟩)] w fun e w' => e = .returned (outv (outF x.f).1 (outF x.f).2.1 (outF x.f).2.2) ∧ ∃ v' l', RunS w' B r (.slice A np c) fuel used v' l' ∧ revT l' = backT x.sl (outF x.f) (revT l0) ∧ l'.length = l0.length ∧ KS B w w' := by
  obtain ⟨ot, ⟨oa, ob⟩, obb, hfin⟩ : ∃ t v b, finF x.f = (t, v, b) := ⟨_, _, _, rfl⟩
  have hO : outF x.f = (ot, (oa, ob)) := by unfold outF; rw [hfin]
  rw [hO]
  obtain ⟨g, cap, rfl, hnc, hcm, hBg, hgl, hgr, hra, _, _⟩ := h.last
  have r3 := h.blk.cell 3
  have z3 := h.blk.fz 3
  have rl := h.rlt
  simp at r3
  have hx := h.ok x (by simp)
  have hcsz : (tskA x).size = 17 := by have := hx.fc.size; simp [tskA, this]
  have hone : (tskA x).all (·.oneCell') = true := by
    refine Array.all_eq_true_iff_forall_mem.2 fun u hu => ?_
    simp only [tskA, List.mem_toArray] at hu
    rcases List.mem_append.1 hu with h1 | h1
    · exact (Array.all_eq_true_iff_forall_mem.1 hx.fc.one) u (by simpa using h1)
    · rw [List.mem_singleton] at h1; subst h1; rfl
  have hra2 : w.rangeAt g (l0.length * 17) (tskA x).toList := by simpa [tskA] using hra
  have HH := Lib.hid h
  have HB := Lib.hid hB
  have HU := Lib.hid hU
  have HCX := Lib.hid CX
  have HL := Lib.hid hl
  have HX := Lib.hid hx
  generalize hn : l0.length = n at *
  have HN := Lib.hid hn
  have hw1 : wrap64 (n : Int) = n := wrap64_nat hl
  have hw2 := i64_nat hl
  have hlow := low_nat n
  have hcapn := lt_nat n
  have hcap3 : n ≤ cap := Nat.le_of_succ_le hnc
  have hcap2 : (n : Int) ≤ (cap : Int) := Int.ofNat_le.2 hcap3
  clear h hB CX hU hn hl hra hx hcm hnc
  go_enter Tryz.func44, Tryz.ntmps44
  go_upto_region 2 with fail
  have hz0 := Held.new w 32 #[.int .i64 0, .int .i64 0, .int .i64 0]
  have hb1 : Below w.heap.size w (w.alloc (.cells #[.int .i64 0, .int .i64 0, .int .i64 0] 32)) := (Below.refl _ _).alloc (Nat.le_refl _) _
  have hra3 := rangeAt_keep hra2 (hb1.block g hgl)
  have r3b := (World.cell?_of_block (a := ⟨r, 3, none⟩) (hb1.block r rl)).trans r3
  have z3b := (World.frozen?_of_block (a := ⟨r, 3, none⟩) (hb1.block r rl)).trans z3
  have hW1 := hz0.lt
  generalize hW1e : w.alloc (.cells #[.int .i64 0, .int .i64 0, .int .i64 0] 32) = W1 at *
  have hB1 : w.heap.size ≤ W1.heap.size := hb1.size
  clear hW1e r3 z3 hra2
  go_upto_region 3 with (first
    | (guard_target = wpList _ _ _ (Oper.mk _ (Op.load 119 (.tmp 19)) _ _ _ none :: _) _ _; refine wpList_load_midA rfl 119 _ rfl g (n * 17) rfl (tskA x) _ hra3 Tryz.underlying119 rfl (by rw [hcsz]; kernel_rfl) ?_)
    | (guard_target = wpList _ _ _ (Oper.mk _ (Op.alloc 119) _ _ _ none :: _) _ _; refine wpList_alloc_arr rfl 119 rfl tz0 (by kernel_rfl) ?_)
    | (guard_target = wpList _ _ _ (Oper.mk _ (Op.store 119 (.tmp 4) (.tmp 20)) _ _ _ none :: _) _ _; refine wpList_store_row rfl 119 _ _ rfl W1.heap.size (tskA x) rfl rfl _ _ (Held.new W1 119 tz0) (by rw [hcsz]; kernel_rfl) (by rw [hcsz]; rfl) hone ?_))
  have hb2 : Below W1.heap.size W1 ((W1.alloc (.cells tz0 119)).setRow W1.heap.size (tskA x)) := below_row ((Below.refl _ _).alloc (Nat.le_refl _) _) (Nat.le_refl _) _
  have hT := (Held.new W1 119 tz0).rowSelf (tskA x)
  generalize (W1.alloc (.cells tz0 119)).setRow W1.heap.size (tskA x) = W2 at *
  have hbw2 : Below w.heap.size w W2 := Below.step hb1 hb2
  have H2 := HH.out.below hbw2
  have r3 := H2.blk.cell 3
  have z3 := H2.blk.fz 3
  have hr2 := H2.rlt
  rw [← HN.out] at H2
  obtain ⟨H3, K3⟩ := H2.cut
  have hz2 := hz0.below hb2
  rw [HN.out] at H3 K3
  simp at r3
  have hne1 : W1.heap.size ≠ r := by omega
  have hT3 : Held (W2.setCell ⟨r, 3, none⟩ (.slice (some ⟨g, 0, none⟩) n cap)) W1.heap.size 119 (tskA x) := (Below.heap_setCell W2 ⟨r, 3, none⟩ _ _ hne1).trans hT
  have hz3 := hz2.kt K3.kt tyOr tyOt
  have hlt1 := hT.lt
  have KK3 := Lib.hid ((KS.of hbw2 HB.out).trans K3)
  have H3 := Lib.hid H3
  clear H2 K3 hT hz2 hz0 hra3 r3b z3b
  go_upto_region 4 with fail
  generalize hW3e : W2.setCell ⟨r, 3, none⟩ (.slice (some ⟨g, 0, none⟩) n cap) = W3 at *
  have hs3 : W3.heap.size = W2.heap.size := by rw [← hW3e]; simp [World.setCell]
  have hx3 := HX.out.kt KK3.out.kt
  have hra4 : W3.rangeAt W1.heap.size 0 x.cs.toList := rangeAt_pre (k := [Value.int .i64 x.sl]) (by have := rangeAt_held hT3; simpa [tskA] using this)
  have FN := Lib.hid (final_any W3 hx3.own.at hx3.bnd.len (Nat.le_refl _))
  rw [hfin] at FN
  have FN : Hid (Calls Tryz.prog 70 #[.agg x.cs] W3 fun e w' => e = .returned (.tuple #[outv ot oa ob, .bool obb]) ∧ Below W3.heap.size W3 w') := FN
  clear hfin hO
  have hsl := hT3.cell 16
  have hsl2 : W3.cell? ⟨W1.heap.size, 16, none⟩ = some (.int .i64 x.sl) := by rw [hsl]; have := hx3.fc.size; simp [tskA, this]
  clear hsl r3 z3 hW3e
  clear hlt1
  go_upto_region 5 with (first
    | (guard_target = wpList _ _ _ (Oper.mk _ (Op.load 45 (.tmp 31)) _ _ _ none :: _) _ _; refine wpList_load_midA rfl 45 _ rfl W1.heap.size 0 rfl x.cs _ hra4 Tryz.underlying45 rfl (fb_info hx3.fc) ?_)
    | (go_at_call 70; (with_reducible refine FN.out.mono ?_); rintro _ u ⟨rfl, hbu⟩)
    | (guard_target = wpList _ _ _ (Oper.mk _ (Op.store 32 (.tmp 5) (.tmp 34)) _ _ _ none :: _) _ _; refine wpList_store_row rfl 32 _ _ rfl u.heap.size #[.int .i64 ot, .int .i64 oa, .int .i64 ob] rfl rfl _ _ (Held.new u 32 _) (by kernel_rfl) rfl (by simp [Value.oneCell']) ?_))
  have hO4 : Held ((u.alloc (.cells #[.int .i64 0, .int .i64 0, .int .i64 0] 32)).setRow u.heap.size #[.int .i64 ot, .int .i64 oa, .int .i64 ob]) u.heap.size 32 #[.int .i64 ot, .int .i64 oa, .int .i64 ob] := (Held.new u 32 _).rowSelf _
  have hb4 : Below W3.heap.size W3 ((u.alloc (.cells #[.int .i64 0, .int .i64 0, .int .i64 0] 32)).setRow u.heap.size #[.int .i64 ot, .int .i64 oa, .int .i64 ob]) := below_row (hbu.alloc hbu.size _) hbu.size _
  generalize (u.alloc (.cells #[.int .i64 0, .int .i64 0, .int .i64 0] 32)).setRow u.heap.size #[.int .i64 ot, .int .i64 oa, .int .i64 ob] = W4 at *
  have H4 := Lib.hid (H3.out.below hb4)
  have KK4 := Lib.hid (KK3.out.trans (KS.of hb4 (Nat.le_trans HB.out KK3.out.kt.size)))
  have hz4 := hz3.below hb4
  have hlt3 := hT3.lt
  have hsl4 := (hb4.cell (p := ⟨W1.heap.size, 16, none⟩) hlt3).trans hsl2
  have hg4 : g < W4.heap.size := Nat.lt_of_lt_of_le hgl KK4.out.kt.size
  have hlt4 := Nat.lt_of_lt_of_le hlt3 hb4.size
  clear hx3 hra4 FN hbu hT3 hz3 hb4 H3 KK3 hsl2 hlt3
  rcases List.eq_nil_or_concat l0 with rfl | ⟨l1, y, rfl⟩
  · obtain rfl : (0 : Nat) = n := HN.out
    have hgt : decide ((0 : Int) < ((0 : Nat) : Int)) = false := by decide
    go_wp2_with (first
      | (guard_target = wpList _ _ _ (Oper.mk _ (Op.load 32 (.tmp 5)) _ _ _ none :: _) _ _; refine wpList_load_row rfl 32 _ rfl u.heap.size rfl 32 #[.int .i64 ot, .int .i64 oa, .int .i64 ob] (0, 0) _ hO4 Tryz.underlying32 rfl (by kernel_rfl) ?_)
      | (guard_target = wpList _ _ _ (Oper.mk _ (Op.store 32 (.tmp 2) (.tmp 59)) _ _ _ none :: _) _ _; refine wpList_store_row rfl 32 _ _ rfl w.heap.size #[.int .i64 ot, .int .i64 oa, .int .i64 ob] rfl rfl _ _ hz4 (by kernel_rfl) rfl (by simp [Value.oneCell']) ?_))
    refine bodyPost_ret (v := outv ot oa ob) (results_cell_row rfl _ _ w.heap.size 32 _ (0, 0) _ rfl (hz4.rowSelf _) Tryz.underlying32 rfl (by kernel_rfl)) rfl ⟨rfl, _, [], H4.out.rowFar hz4 tyOr tyOt tyOV tyOS _, rfl, rfl, ⟨below_row KK4.out.below HB.out _, KK4.out.kt.rowNew (Nat.le_refl _) _⟩⟩
  · rw [List.concat_eq_append] at H4 HN
    obtain ⟨m, hm⟩ : ∃ m, l1.length = m := ⟨_, rfl⟩
    have HM := Lib.hid hm
    have hnm : n = m + 1 := by rw [← HN.out, ← hm]; simp
    have hm6 : m ≤ 1000000 := by have := HL.out; omega
    have hgt : decide ((0 : Int) < (n : Int)) = true := decide_eq_true (by omega)
    have hw1m : wrap64 (m : Int) = m := wrap64_nat hm6
    have hw2m := i64_nat hm6
    have hlowm : ((n : Int) - 1) = (m : Int) := by omega
    have hcapm : (m : Int) < (n : Int) := by omega
    have HNM := Lib.hid hnm
    clear hw1 hw2 hlow hcapn hcap2 hcap3 hm hnm hm6
    obtain ⟨g4', cap4, e4, q1, q2, q3, q4, q5, hra4, q6, q7⟩ := H4.out.last
    simp only [Value.slice.injEq, Option.some.injEq, Addr.mk.injEq, and_true, true_and] at e4
    obtain ⟨rfl, q8, rfl⟩ := e4
    clear q1 q2 q3 q4 q5 q6 q7 q8
    have hra5 := rangeAt_pre hra4
    rw [HM.out] at hra5
    have hoy := H4.out.ok y (by simp)
    have hfy := hoy.fc
    have r3 := H4.out.blk.cell 3
    simp at r3
    generalize hRR : giveF y.f x.sl ot (oa, ob) = R at *
    have HBR : Hid (Bnd R.1) := by rw [← hRR]; exact Lib.hid (hoy.bnd.give _ _ _)
    have GV : ∀ W, Below W4.heap.size W4 W → Hid (Calls Tryz.prog 71 #[.agg y.cs, .int .i64 x.sl, outv ot oa ob] W fun e w' => GivQ W R e w') := fun W hb => by
      have hy2 := hoy.kt (KT.of_below hb)
      exact Lib.hid (HCX.out.giv W y.f _ y.cs x.sl ot oa ob ((HU.out.trans (KK4.out.below.mono hUB)).trans (hb.mono (Nat.le_trans hUB (Nat.le_trans HB.out KK4.out.kt.size)))) hy2.own.at hy2.bnd.len hRR)
    clear hra4 hoy
    have X1 := Lib.hid hra5
    have X2 := Lib.hid hfy
    have X3 := Lib.hid hsl4
    have X4 := Lib.hid hO4
    have X5 := Lib.hid hz4
    have X6 := Lib.hid hRR
    have X7 := Lib.hid GV
    clear hra5 hfy hsl4 hO4 hz4 hRR GV FN
    go_upto_region 7 with fail
    have hra5 := X1.out
    have hfy := X2.out
    have hsl4 := X3.out
    have hO4 := X4.out
    have hz4 := X5.out
    have hRR := X6.out
    have GV := X7.out
    clear X1 X2 X3 X4 X5 X6 X7
    have hgb : (⟨W1.heap.size, 16, none⟩ : Addr).block ≠ g := Nat.ne_of_gt (Nat.lt_trans hgl hW1)
    have hbd : Below W4.heap.size W4 W4.drew := (Below.refl _ _).drew
    have hS : W4.drew.cell? ⟨W1.heap.size, 16, none⟩ = some (.int .i64 x.sl) ∧ Held W4.drew u.heap.size 32 #[.int .i64 ot, .int .i64 oa, .int .i64 ob] := ⟨(hbd.cell (p := ⟨W1.heap.size, 16, none⟩) hlt4).trans hsl4, hO4.below hbd⟩
    refine wp_region_held_drew (S := fun W => W.cell? ⟨W1.heap.size, 16, none⟩ = some (.int .i64 x.sl) ∧ Held W u.heap.size 32 #[.int .i64 ot, .int .i64 oa, .int .i64 ob]) (by kernel_rfl) hS (fun hS0 => ?_)
    show wpAnyH _ _ _ _ _ 15 #[false, false, false, false, false, false, false, false, false, false, false, false, false, false, false] _ _
    refine wpAnyH_take (i := 0) (v := .pointer (some ⟨g, m * 17, none⟩)) rfl (by kernel_rfl) (by kernel_rfl) (by kernel_rfl) (fun _ _ _ h => h) (Or.inl ⟨by rfl, fun W hW => ?_⟩) hS0 ?_
    · go_simp
    simp only [Act.put, List.getElem_toArray, List.getElem_cons_succ, List.getElem_cons_zero, List.setIfInBounds_toArray, List.set_cons_zero, List.set_cons_succ]
    refine wpAnyH_take (i := 1) (v := .pointer (some ⟨g, m * 17, none⟩)) rfl (by kernel_rfl) (by kernel_rfl) (by kernel_rfl) (fun _ _ _ h => h) (Or.inl ⟨by rfl, fun W hW => ?_⟩) hS0 ?_
    · go_simp
    simp only [Act.put, List.getElem_toArray, List.getElem_cons_succ, List.getElem_cons_zero, List.setIfInBounds_toArray, List.set_cons_zero, List.set_cons_succ]
    refine wpAnyH_take (i := 2) (v := .pointer (some ⟨g, m * 17, none⟩)) rfl (by kernel_rfl) (by kernel_rfl) (by kernel_rfl) (fun _ _ _ h => h) (Or.inl ⟨by rfl, fun W hW => ?_⟩) hS0 ?_
    · go_simp
    simp only [Act.put, List.getElem_toArray, List.getElem_cons_succ, List.getElem_cons_zero, List.setIfInBounds_toArray, List.set_cons_zero, List.set_cons_succ]
    refine wpAnyH_take (i := 3) (v := .pointer (some ⟨g, m * 17, none⟩)) rfl (by kernel_rfl) (by kernel_rfl) (by kernel_rfl) (fun _ _ _ h => h) (Or.inl ⟨by rfl, fun W hW => ?_⟩) hS0 ?_
    · go_simp
    simp only [Act.put, List.getElem_toArray, List.getElem_cons_succ, List.getElem_cons_zero, List.setIfInBounds_toArray, List.set_cons_zero, List.set_cons_succ]
    refine wpAnyH_take (i := 5) (v := .pointer (some ⟨W1.heap.size, 16, none⟩)) rfl (by kernel_rfl) (by kernel_rfl) (by kernel_rfl) (fun _ _ _ h => h) (Or.inl ⟨by rfl, fun W hW => ?_⟩) hS0 ?_
    · go_simp
    simp only [Act.put, List.getElem_toArray, List.getElem_cons_succ, List.getElem_cons_zero, List.setIfInBounds_toArray, List.set_cons_zero, List.set_cons_succ]
    refine wpAnyH_take (i := 6) (v := .int .i64 x.sl) rfl (by kernel_rfl) (by kernel_rfl) (by kernel_rfl) (fun _ _ _ h => h) (Or.inl ⟨by rfl, fun W hW => ?_⟩) hS0 ?_
    · (have q := hW.1; go_simp)
    simp only [Act.put, List.getElem_toArray, List.getElem_cons_succ, List.getElem_cons_zero, List.setIfInBounds_toArray, List.set_cons_zero, List.set_cons_succ]
    refine wpAnyH_take (i := 7) (v := outv ot oa ob) rfl (by kernel_rfl) (by kernel_rfl) (by kernel_rfl) (fun _ _ _ h => h) (Or.inl ⟨by rfl, fun W hW => ?_⟩) hS0 ?_
    · (have q0 := hW.2.cell 0; have q1 := hW.2.cell 1; have q2 := hW.2.cell 2; simp at q0 q1 q2; go_simp)
    simp only [Act.put, List.getElem_toArray, List.getElem_cons_succ, List.getElem_cons_zero, List.setIfInBounds_toArray, List.set_cons_zero, List.set_cons_succ]
    have hb0 : Below W4.heap.size W4 W4.drew := (Below.refl _ _).drew
    generalize W4.drew = W5 at hb0 hS0 ⊢
    refine wpAnyH_ready (rs := [4]) (by kernel_rfl) (by simp) ?_
    refine (AllReadyH.cons rfl (fun K hK => ?_) AllReadyH.nil)
    rw [if_pos (by rfl)]
    refine wp_load_midA 45 _ rfl g (m * 17) (by rfl) y.cs _ (rangeAt_keep hra5 (hb0.block g hg4)) Tryz.underlying45 rfl (fb_info hfy) ?_
    refine hK.out _ _ hS0 (fun _ => ?_)
    clear hK K
    simp only [Act.put, List.getElem_toArray, List.getElem_cons_succ, List.getElem_cons_zero, List.setIfInBounds_toArray, List.set_cons_zero, List.set_cons_succ]
    refine wpAnyH_ready (rs := [8]) (by kernel_rfl) (by simp) ?_
    refine (AllReadyH.cons rfl (fun K hK => ?_) AllReadyH.nil)
    go_simp
    go_at_call 71
    (with_reducible refine (GV _ hb0).out.mono ?_)
    rintro _ u2 ⟨v', rfl, ho, hbu2⟩
    have ho := OwnF.mono ho (Nat.zero_le _)
    have hb9 := Below.step hb0 hbu2
    obtain ⟨cs', rfl, hfc⟩ := ho.cells
    have hS9 := And.intro ((hb9.cell (p := ⟨W1.heap.size, 16, none⟩) hlt4).trans hsl4) (hO4.below hb9)
    (try go_wp2_with fail)
    refine hK.out _ _ hS9 (fun _ => ?_)
    clear hK K
    (try simp only [Act.put, List.getElem_toArray, List.getElem_cons_succ, List.getElem_cons_zero, List.setIfInBounds_toArray, List.set_cons_zero, List.set_cons_succ])
    refine wpAnyH_take (i := 9) (v := .tuple #[.agg cs', .bool R.2]) rfl (by kernel_rfl) (by kernel_rfl) (by kernel_rfl) (fun _ _ _ h => h) (Or.inl ⟨by rfl, fun W hW => ?_⟩) hS9 ?_
    · go_simp
    simp only [Act.put, List.getElem_toArray, List.getElem_cons_succ, List.getElem_cons_zero, List.setIfInBounds_toArray, List.set_cons_zero, List.set_cons_succ]
    refine wpAnyH_take (i := 10) (v := .agg cs') rfl (by kernel_rfl) (by kernel_rfl) (by kernel_rfl) (fun _ _ _ h => h) (Or.inl ⟨by rfl, fun W hW => ?_⟩) hS9 ?_
    · go_simp
    simp only [Act.put, List.getElem_toArray, List.getElem_cons_succ, List.getElem_cons_zero, List.setIfInBounds_toArray, List.set_cons_zero, List.set_cons_succ]
    refine wpAnyH_take (i := 11) (v := .bool R.2) rfl (by kernel_rfl) (by kernel_rfl) (by kernel_rfl) (fun _ _ _ h => h) (Or.inl ⟨by rfl, fun W hW => ?_⟩) hS9 ?_
    · go_simp
    simp only [Act.put, List.getElem_toArray, List.getElem_cons_succ, List.getElem_cons_zero, List.setIfInBounds_toArray, List.set_cons_zero, List.set_cons_succ]
    refine wpAnyH_take (i := 12) (v := .pointer (some ⟨g, m * 17, none⟩)) rfl (by kernel_rfl) (by kernel_rfl) (by kernel_rfl) (fun _ _ _ h => h) (Or.inl ⟨by rfl, fun W hW => ?_⟩) hS9 ?_
    · go_simp
    simp only [Act.put, List.getElem_toArray, List.getElem_cons_succ, List.getElem_cons_zero, List.setIfInBounds_toArray, List.set_cons_zero, List.set_cons_succ]
    refine wpAnyH_take (i := 13) (v := .pointer (some ⟨g, m * 17, none⟩)) rfl (by kernel_rfl) (by kernel_rfl) (by kernel_rfl) (fun _ _ _ h => h) (Or.inl ⟨by rfl, fun W hW => ?_⟩) hS9 ?_
    · go_simp
    simp only [Act.put, List.getElem_toArray, List.getElem_cons_succ, List.getElem_cons_zero, List.setIfInBounds_toArray, List.set_cons_zero, List.set_cons_succ]
    have H5 := H4.out.below hb9
    obtain ⟨_, _, e5, _, _, _, _, _, _, hth, _⟩ := H5.last
    simp only [Value.slice.injEq, Option.some.injEq, Addr.mk.injEq, and_true, true_and] at e5
    obtain ⟨rfl, e5, rfl⟩ := e5
    rw [e5] at H5
    obtain ⟨S1, S2⟩ := H5.setF (cs := cs') (F := R.1) ⟨ho, hfc, HBR.out⟩
    rw [HM.out] at hth S1 S2
    have hO9 := hS9.2.kt S2.kt tyOr tyOt
    have hz9 := (Held.below hz4 hb9).kt S2.kt tyOr tyOt
    have KK9 := Lib.hid ((KK4.out.trans (KS.of hb9 (Nat.le_trans HB.out KK4.out.kt.size))).trans S2)
    refine wpAnyH_ready (rs := [14]) (by kernel_rfl) (by simp) ?_
    refine (AllReadyH.cons rfl (fun K hK => ?_) AllReadyH.nil)
    rw [if_pos (by rfl)]
    refine wp_store_mid 45 _ _ rfl g (m * 17) cs' (by rfl) (by rfl) (fun j hj => hth j (by have := hfc.size; omega)) (fb_info hfc) hfc.one ?_
    refine hK.out _ _ ⟨?_, hO9⟩ (fun _ => ?_)
    · rw [World.cell?_setCells_out g cs'.toList (m * 17) u2 ⟨W1.heap.size, 16, none⟩ (fun e _ => absurd e hgb)]; exact hS9.1
    clear hK K
    simp only [Act.put, List.getElem_toArray, List.getElem_cons_succ, List.getElem_cons_zero, List.setIfInBounds_toArray, List.set_cons_zero, List.set_cons_succ]
    refine wpAnyH_done (by kernel_rfl) ?_ _
    generalize u2.setCells g (m * 17) cs'.toList = W9 at *
    clear hth H5 hra5 hS9 hbu2 hb9 hb0
    go_wp2_with (first
      | (guard_target = wpList _ _ _ (Oper.mk _ (Op.load 32 (.tmp 5)) _ _ _ none :: _) _ _; refine wpList_load_row rfl 32 _ rfl u.heap.size rfl 32 #[.int .i64 ot, .int .i64 oa, .int .i64 ob] (0, 0) _ hO9 Tryz.underlying32 rfl (by kernel_rfl) ?_)
      | (guard_target = wpList _ _ _ (Oper.mk _ (Op.store 32 (.tmp 2) (.tmp 59)) _ _ _ none :: _) _ _; refine wpList_store_row rfl 32 _ _ rfl w.heap.size #[.int .i64 ot, .int .i64 oa, .int .i64 ob] rfl rfl _ _ hz9 (by kernel_rfl) rfl (by simp [Value.oneCell']) ?_))
    refine bodyPost_ret (v := outv ot oa ob) (results_cell_row rfl _ _ w.heap.size 32 _ (0, 0) _ rfl (hz9.rowSelf _) Tryz.underlying32 rfl (by kernel_rfl)) rfl ⟨rfl, _, l1 ++ [⟨cs', R.1, y.sl⟩], S1.rowFar hz9 tyOr tyOt tyOV tyOS _, ?_, ?_, ⟨below_row KK9.out.below HB.out _, KK9.out.kt.rowNew (Nat.le_refl _) _⟩⟩
    · rw [List.concat_eq_append, revT_snoc, revT_snoc, ← hRR]; rfl
    · have h1 := HM.out; have h2 := HNM.out; simp; omega
end Go.Proofs.YtoeinpiekfmbgaaGreatDoor

/- Layer 10's code: tasks are executed. -/
namespace Go.Proofs.YtoeinpiekfmbgaaGreatDoor
set_option linter.unusedVariables false
set_option linter.unusedSimpArgs false
open Gm Go.RowKit Go.ChangeShapes Go.WideShapes Go.ChangeAt Go.Sort

theorem stored_one {W1 u : World} {g4 : Nat} {cs' z4 : Array Value} {F : Frm} (f4 : Held u g4 45 z4) (ho : OwnF u 0 (.agg cs') F) (hb : Below W1.heap.size W1 u) (l4 : W1.heap.size ≤ g4) :
    Held (u.setRow g4 cs') g4 45 cs' ∧ OwnF (u.setRow g4 cs') 0 (.agg cs') F ∧ Below W1.heap.size W1 (u.setRow g4 cs') :=
  ⟨f4.rowSelf cs', ho.kb f4 tyFV tyFS ((KB.of_below (Below.refl _ _) g4).row cs'), below_row hb l4 _⟩
def MidN (W1 : World) (F : Frm) (v6 : Value) (wx : World) : Prop := ∃ g6 cs, v6 = .pointer (some ⟨g6, 0, none⟩) ∧ Held wx g6 45 cs ∧ FC cs F ∧ OwnF wx 0 (.agg cs) F ∧ Below W1.heap.size W1 wx
/-- What is read of a cell that holds a number. -/
def rdN (w : World) (x : Addr) : Int := match w.cell? x with
  | some (.int _ n) => n
  | _ => 0
theorem rdN_of {w : World} {x : Addr} {n : Int} (h : w.cell? x = some (.int .i64 n)) : rdN w x = n := by unfold rdN; rw [h]
theorem run_kid {p : List Fun} {n : Nat} {f : Frm} {sl : Int} {ts : List Tsk} (h : (doF p f).2.kd = 2) : runT p (n + 1) ((f, sl) :: ts) = runT p n ((kidF p (doF p f).2, (doF p f).2.sl) :: ((doF p f).1, sl) :: ts) := runT_inl (by simp only [stepT]; rw [if_pos h])
theorem run_go {p : List Fun} {n : Nat} {f : Frm} {sl : Int} {ts : List Tsk} (h : (doF p f).2.kd ≠ 2) (h4 : (doF p f).2.kd ≠ 4) : runT p (n + 1) ((f, sl) :: ts) = runT p n (((doF p f).1, sl) :: ts) := runT_inl (by simp only [stepT]; rw [if_neg h, if_neg h4])
theorem run_out {p : List Fun} {n : Nat} {f : Frm} {sl : Int} (h4 : (doF p f).2.kd = 4) : runT p (n + 1) [(f, sl)] = some (outF (doF p f).1, n) := runT_inr (by simp only [stepT]; rw [if_neg (by omega), if_pos h4])
theorem run_back {p : List Fun} {n : Nat} {f : Frm} {sl : Int} {t : Tsk} {ts : List Tsk} (h4 : (doF p f).2.kd = 4) : runT p (n + 1) ((f, sl) :: t :: ts) = runT p n (backT sl (outF (doF p f).1) (t :: ts)) := runT_inl (by simp only [stepT]; rw [if_neg (by omega), if_pos h4])
theorem toNat_succ {a b : Int} (h : b < a) : (a - b).toNat = (a - (b + 1)).toNat + 1 := by omega
abbrev oz0 : Array Value := #[.int .i64 0, .int .i64 0, .int .i64 0]
def ExJ (B r np c b3 b4 : Nat) (A : Option Addr) (p : List Fun) (cs : Array Value) (RT : Option (OutP × Nat)) (fuel : Int) (w0 : World) (a' : Act) (W : World) : Prop :=
  ∃ (l : List TskC) (x : TskC) (used : Int) (v : Value), RunS W B r (.slice A np c) fuel used v (l ++ [x]) ∧ KS B w0 W ∧ runT p (fuel - used).toNat (revT (l ++ [x])) = RT ∧ 0 ≤ used ∧ used ≤ fuel ∧ (l.length : Int) ≤ used ∧ Held W b4 32 oz0 ∧ ∃ u5 u6 u7 u8 u9 u10 u11 u12 u13 u14 u15 u16 u17 u18 u19 u20 u21 u22 u23 u24 u25 u26 u27 u28 u29 u30 u31 u32 u33 u34 u35 u36 u37 u38 u39 u40 u41 u42 u43 u44 u45 u46 u47 : Value,  a' = { tmps := #[.pointer (some ⟨r, 0, none⟩), .agg cs, undef, .pointer (some ⟨b3, 0, none⟩), .pointer (some ⟨b4, 0, none⟩), u5, u6, u7, u8, u9, u10, u11, u12, u13, u14, u15, u16, u17, u18, u19, u20, u21, u22, u23, u24, u25, u26, u27, u28, u29, u30, u31, u32, u33, u34, u35, u36, u37, u38, u39, u40, u41, u42, u43, u44, u45, u46, u47], defers := [] }
set_option maxHeartbeats 16000000 in
set_option maxRecDepth 100000 in
theorem sexec_any {B r np c : Nat} {A : Option Addr} {p : List Fun} {U : World} {v : Value} {fuel : Int} {cs : Array Value} {f : Frm} (w : World) (CX : Cx p A np c U) (hU : Below U.heap.size U w) (hUB : U.heap.size ≤ B) (h : RunS w B r (.slice A np c) fuel 0 v []) (hx : TskOk w ⟨cs, f, 0⟩) (hB : B ≤ w.heap.size) (hf0 : 1 ≤ fuel) (hf : fuel ≤ 100000) :
    Calls Tryz.prog 25 #[.pointer (some ⟨r, 0, none⟩), .agg cs] w fun e w' => KS B w w' ∧ match runT p fuel.toNat [(f, 0)] with
      | none => e = .panicked [{ v := .iface 33 (.int .i64 100), recovered := false }]
      | some (o, m) => e = .returned (outv o.1 o.2.1 o.2.2) ∧ ∃ v', RunS w' B r (.slice A np c) fuel (fuel - m) v' [] := by
  obtain ⟨RT, hRT⟩ : ∃ RT, runT p fuel.toNat [(f, 0)] = RT := ⟨_, rfl⟩
  rw [hRT]
  have HRT := Lib.hid hRT
  clear hRT
  have HB := Lib.hid hB
  have HU := Lib.hid hU
  have HCX := Lib.hid CX
  have HH := Lib.hid h
  have HX := Lib.hid hx
  have HF := Lib.hid hf
  have HF0 := Lib.hid hf0
  clear CX hU h hx hB hf hf0
  go_enter Tryz.func25, Tryz.ntmps25
  go_wp2_with (first
    | (refine wpList_box_arr rfl _ _ rfl _ rfl ?_)
    | (guard_target = wpList _ _ _ (Oper.mk _ (Op.alloc 32) _ _ _ none :: _) _ _; refine wpList_alloc_arr rfl 32 rfl oz0 (by kernel_rfl) ?_))
  have h3 : Held ((w.alloc (.cells cs 45)).alloc (.cells oz0 32)) w.heap.size 45 cs := (Held.new w 45 cs).alloc _
  have h4 : Held ((w.alloc (.cells cs 45)).alloc (.cells oz0 32)) (w.heap.size + 1) 32 oz0 := Held.new1 w _ _ _
  have hbw : Below w.heap.size w ((w.alloc (.cells cs 45)).alloc (.cells oz0 32)) := ((Below.refl _ _).alloc (Nat.le_refl _) _).alloc (by simp) _
  generalize (w.alloc (.cells cs 45)).alloc (.cells oz0 32) = W0 at *
  have BG := Lib.hid (sbegin_any 0 W0 (HH.out.below hbw) (HX.out.kt (KT.of_below hbw)) (by simp) (Nat.le_trans HB.out hbw.size))
  have K0 := Lib.hid (KS.of hbw HB.out)
  have hfc0 := HX.out.fc
  have HS4 := Lib.hid h4
  clear h4
  refine wp_scope_once 0 (ExJ B r np c w.heap.size (w.heap.size + 1) A p cs RT fuel w) (fun _ W => (fuel - rdN W ⟨r, 2, none⟩).toNat) rfl ?_ ?_
  · rintro a' W ⟨l, x, used, vv, hR, hK, hrun, hu0, hu1, hul, hO, u5, u6, u7, u8, u9, u10, u11, u12, u13, u14, u15, u16, u17, u18, u19, u20, u21, u22, u23, u24, u25, u26, u27, u28, u29, u30, u31, u32, u33, u34, u35, u36, u37, u38, u39, u40, u41, u42, u43, u44, u45, u46, u47, rfl⟩
    try dsimp only
    have r2 := hR.blk.cell 2
    simp at r2
    rw [rdN_of r2]
    clear r2 hbw h3 BG K0 hfc0 HS4
    have HUW := Lib.hid (HU.out.trans (hK.below.mono hUB))
    have HBW := Lib.hid (Nat.le_trans HB.out hK.kt.size)
    have HR := Lib.hid hR
    have HK := Lib.hid hK
    have HRUN := Lib.hid hrun
    by_cases hfu : used = fuel
    · subst hfu
      have DO := Lib.hid (sdo_out W hR HBW.out)
      obtain rfl : none = RT := by rw [← hrun, Int.sub_self]; rfl
      clear hR hK hrun hO hu0 hu1 hul HRUN
      go_wp2_with (go_at_call 43; (with_reducible refine DO.out.mono ?_); rintro _ u ⟨rfl, hk⟩)
      simp only [Exit.jump]
      exact ⟨rfl, HK.out.trans hk, rfl⟩
    · have hlt : used < fuel := by omega
      have hlen : l.length ≤ 1000000 := by have := HF.out; omega
      have DO := Lib.hid (sdo_in W HCX.out HUW.out hUB hR hlen HBW.out hu0 hlt HF.out)
      have HKP := Lib.hid (do_keeps p x.f)
      have HBD := Lib.hid (Bnd.do (p := p) ((hR.ok x (by simp)).bnd))
      have HST := Lib.hid (toNat_succ hlt)
      rw [revT_snoc, toNat_succ hlt] at hrun
      generalize hRR : doF p x.f = R at *
      obtain ⟨G, kd, fn, s2, sd, ar⟩ := R
      simp only at DO HKP HBD
      have HRR := Lib.hid hRR
      have HRUN := Lib.hid hrun
      have HO := Lib.hid hO
      have HUL := Lib.hid (And.intro hu0 (And.intro hu1 (And.intro hul hlen)))
      clear hR hK hrun hO hu0 hu1 hul hRR hlen hlt hfu
      go_upto_region 3 with (first
        | (go_at_call 43; (with_reducible refine DO.out.mono ?_); rintro _ u ⟨av, cs1, rfl, hact, hR1, hK1⟩; obtain ⟨A4, c4, rfl, h4⟩ := hact)
        | (guard_target = wpList _ _ _ (Oper.mk _ (Op.store 77 (.tmp 5) (.tmp 13)) _ _ _ none :: _) _ _; refine wpList_store_row rfl 77 _ _ rfl u.heap.size #[.int .i64 kd, .int .i64 fn, .int .i64 s2, .int .i64 sd, .slice A4 ar.length c4] rfl rfl _ _ (Held.new u 77 _) (by kernel_rfl) rfl (by simp [Value.oneCell']) ?_))
      have hbA : Below u.heap.size u ((u.alloc (.cells az0 77)).setRow u.heap.size #[.int .i64 kd, .int .i64 fn, .int .i64 s2, .int .i64 sd, .slice A4 ar.length c4]) := below_row ((Below.refl _ _).alloc (Nat.le_refl _) _) (Nat.le_refl _) _
      have HA := (Held.new u 77 az0).rowSelf #[.int .i64 kd, .int .i64 fn, .int .i64 s2, .int .i64 sd, .slice A4 ar.length c4]
      generalize (u.alloc (.cells az0 77)).setRow u.heap.size #[.int .i64 kd, .int .i64 fn, .int .i64 s2, .int .i64 sd, .slice A4 ar.length c4] = W2 at *
      have H2 := Lib.hid (hR1.below hbA)
      have K2 := Lib.hid ((HK.out.trans hK1).trans (KS.of hbA (Nat.le_trans HBW.out hK1.kt.size)))
      have HO2 := Lib.hid ((HO.out.kt hK1.kt tyOr tyOt).below hbA)
      obtain ⟨A5, c5, e5, hva⟩ := h4.lies
      simp only [Value.slice.injEq, true_and] at e5
      obtain ⟨rfl, rfl⟩ := e5
      have HVA := Lib.hid (hva.below hbA (Nat.le_refl _))
      have HBA := Lib.hid hbA
      have HBW2 := Lib.hid (Nat.le_trans HB.out K2.out.kt.size)
      have HU2 := Lib.hid (HU.out.trans (K2.out.below.mono hUB))
      have hA0 := HA.cell 0
      have hA2 := HA.cell 2
      simp at hA0 hA2
      have HA := Lib.hid HA
      clear hR1 hK1 hbA h4 hva DO HR HK HO
      by_cases hk2 : kd = 2
      · subst hk2
        have NW : ∀ W, Below W2.heap.size W2 W → Hid (Calls Tryz.prog 11 #[.slice A np c, .int .i64 fn, .slice A4 ar.length c4, .int .i64 sd] W fun e w' => NewQ W (newF p fn ar sd) e w') := fun W hb =>
          Lib.hid (HCX.out.new W fn ar _ sd _ A4 c4 (HU2.out.trans (hb.mono (Nat.le_trans hUB HBW2.out))) ((HVA.out.below hb HBA.out.size).more (Nat.le_trans HBA.out.size hb.size)) rfl (Nat.le_trans HBD.out.2 (by decide)) rfl)
        have HNB := Lib.hid (new_bnd p fn ar sd)
        generalize hNR : newF p fn ar sd = NR at *
        have HNR := Lib.hid hNR
        clear hNR
        go_upto_region 5 with fail
        go_cut [6] (fun v6 wx => MidN W2 NR.1 v6 wx)
        case first =>
          refine wp_region_held_drew (S := fun W => Below W2.heap.size W2 W) (by kernel_rfl) (Below.refl _ _).drew (fun hb0 => ?_)
          generalize W2.drew = W2d at hb0 ⊢
          show wpAnyH _ _ _ _ _ 17 #[false, false, false, false, false, false, false, false, false, false, false, false, false, false, false, false, false] _ _
          refine wpAnyH_take (i := 0) (v := .pointer (some ⟨r, 0, none⟩)) rfl (by kernel_rfl) (by kernel_rfl) (by kernel_rfl) (fun _ _ _ h => h) (Or.inl ⟨by rfl, fun W hW => ?_⟩) hb0 ?_
          · go_simp
          simp only [Act.put, List.getElem_toArray, List.getElem_cons_succ, List.getElem_cons_zero, List.setIfInBounds_toArray, List.set_cons_zero, List.set_cons_succ]
          refine wpAnyH_take (i := 1) (v := .pointer (some ⟨r, 0, none⟩)) rfl (by kernel_rfl) (by kernel_rfl) (by kernel_rfl) (fun _ _ _ h => h) (Or.inl ⟨by rfl, fun W hW => ?_⟩) hb0 ?_
          · go_simp
          simp only [Act.put, List.getElem_toArray, List.getElem_cons_succ, List.getElem_cons_zero, List.setIfInBounds_toArray, List.set_cons_zero, List.set_cons_succ]
          refine wpAnyH_take (i := 2) (v := .pointer (some ⟨r, 0, none⟩)) rfl (by kernel_rfl) (by kernel_rfl) (by kernel_rfl) (fun _ _ _ h => h) (Or.inl ⟨by rfl, fun W hW => ?_⟩) hb0 ?_
          · go_simp
          simp only [Act.put, List.getElem_toArray, List.getElem_cons_succ, List.getElem_cons_zero, List.setIfInBounds_toArray, List.set_cons_zero, List.set_cons_succ]
          refine wpAnyH_take (i := 3) (v := .slice A np c) rfl (by kernel_rfl) (by kernel_rfl) (by kernel_rfl) (fun _ _ _ h => h) (Or.inl ⟨by rfl, fun W hW => ?_⟩) hb0 ?_
          · (have q := (Held.below H2.out.blk hW).cell 0; simp at q; go_simp)
          simp only [Act.put, List.getElem_toArray, List.getElem_cons_succ, List.getElem_cons_zero, List.setIfInBounds_toArray, List.set_cons_zero, List.set_cons_succ]
          refine wpAnyH_take (i := 4) (v := .pointer (some ⟨u.heap.size, 1, none⟩)) rfl (by kernel_rfl) (by kernel_rfl) (by kernel_rfl) (fun _ _ _ h => h) (Or.inl ⟨by rfl, fun W hW => ?_⟩) hb0 ?_
          · go_simp
          simp only [Act.put, List.getElem_toArray, List.getElem_cons_succ, List.getElem_cons_zero, List.setIfInBounds_toArray, List.set_cons_zero, List.set_cons_succ]
          refine wpAnyH_take (i := 5) (v := .int .i64 fn) rfl (by kernel_rfl) (by kernel_rfl) (by kernel_rfl) (fun _ _ _ h => h) (Or.inl ⟨by rfl, fun W hW => ?_⟩) hb0 ?_
          · (have q := (Held.below HA.out hW).cell 1; simp at q; go_simp)
          simp only [Act.put, List.getElem_toArray, List.getElem_cons_succ, List.getElem_cons_zero, List.setIfInBounds_toArray, List.set_cons_zero, List.set_cons_succ]
          refine wpAnyH_take (i := 6) (v := .pointer (some ⟨u.heap.size, 4, none⟩)) rfl (by kernel_rfl) (by kernel_rfl) (by kernel_rfl) (fun _ _ _ h => h) (Or.inl ⟨by rfl, fun W hW => ?_⟩) hb0 ?_
          · go_simp
          simp only [Act.put, List.getElem_toArray, List.getElem_cons_succ, List.getElem_cons_zero, List.setIfInBounds_toArray, List.set_cons_zero, List.set_cons_succ]
          refine wpAnyH_take (i := 7) (v := .slice A4 ar.length c4) rfl (by kernel_rfl) (by kernel_rfl) (by kernel_rfl) (fun _ _ _ h => h) (Or.inl ⟨by rfl, fun W hW => ?_⟩) hb0 ?_
          · (have q := (Held.below HA.out hW).cell 4; simp at q; go_simp)
          simp only [Act.put, List.getElem_toArray, List.getElem_cons_succ, List.getElem_cons_zero, List.setIfInBounds_toArray, List.set_cons_zero, List.set_cons_succ]
          refine wpAnyH_take (i := 8) (v := .pointer (some ⟨u.heap.size, 3, none⟩)) rfl (by kernel_rfl) (by kernel_rfl) (by kernel_rfl) (fun _ _ _ h => h) (Or.inl ⟨by rfl, fun W hW => ?_⟩) hb0 ?_
          · go_simp
          simp only [Act.put, List.getElem_toArray, List.getElem_cons_succ, List.getElem_cons_zero, List.setIfInBounds_toArray, List.set_cons_zero, List.set_cons_succ]
          refine wpAnyH_take (i := 9) (v := .int .i64 sd) rfl (by kernel_rfl) (by kernel_rfl) (by kernel_rfl) (fun _ _ _ h => h) (Or.inl ⟨by rfl, fun W hW => ?_⟩) hb0 ?_
          · (have q := (Held.below HA.out hW).cell 3; simp at q; go_simp)
          simp only [Act.put, List.getElem_toArray, List.getElem_cons_succ, List.getElem_cons_zero, List.setIfInBounds_toArray, List.set_cons_zero, List.set_cons_succ]
          refine wpAnyH_ready (rs := [10, 14]) (by kernel_rfl) (by simp) ?_
          refine (AllReadyH.cons rfl (fun K hK => ?_) (AllReadyH.cons rfl (fun K hK => ?_) AllReadyH.nil))
          · go_simp
            go_at_call 11
            (with_reducible refine (NW _ hb0).out.mono ?_)
            rintro _ u3 ⟨v', rfl, ho, hbu3⟩
            have ho1 := OwnF.mono ho (Nat.zero_le _)
            clear ho
            have hb1 := Below.step hb0 hbu3
            obtain ⟨cs', rfl, hfc⟩ := ho1.cells
            (try go_wp2_with fail)
            refine hK.out _ _ hb1 (fun _ => ?_)
            clear hK K
            (try simp only [Act.put, List.getElem_toArray, List.getElem_cons_succ, List.getElem_cons_zero, List.setIfInBounds_toArray, List.set_cons_zero, List.set_cons_succ])
            refine wpAnyH_take (i := 11) (v := .tuple #[.agg cs', .bool NR.2]) rfl (by kernel_rfl) (by kernel_rfl) (by kernel_rfl) (fun _ _ _ h => h) (Or.inl ⟨by rfl, fun W hW => ?_⟩) hb1 ?_
            · go_simp
            simp only [Act.put, List.getElem_toArray, List.getElem_cons_succ, List.getElem_cons_zero, List.setIfInBounds_toArray, List.set_cons_zero, List.set_cons_succ]
            refine wpAnyH_take (i := 12) (v := .agg cs') rfl (by kernel_rfl) (by kernel_rfl) (by kernel_rfl) (fun _ _ _ h => h) (Or.inl ⟨by rfl, fun W hW => ?_⟩) hb1 ?_
            · go_simp
            simp only [Act.put, List.getElem_toArray, List.getElem_cons_succ, List.getElem_cons_zero, List.setIfInBounds_toArray, List.set_cons_zero, List.set_cons_succ]
            refine wpAnyH_take (i := 13) (v := .bool NR.2) rfl (by kernel_rfl) (by kernel_rfl) (by kernel_rfl) (fun _ _ _ h => h) (Or.inl ⟨by rfl, fun W hW => ?_⟩) hb1 ?_
            · go_simp
            simp only [Act.put, List.getElem_toArray, List.getElem_cons_succ, List.getElem_cons_zero, List.setIfInBounds_toArray, List.set_cons_zero, List.set_cons_succ]
            refine wpAnyH_ready (rs := [14]) (by kernel_rfl) (by simp) ?_
            refine (AllReadyH.cons rfl (fun K hK => ?_) AllReadyH.nil)
            · rw [if_pos (by rfl)]
              refine wp_alloc_arr 45 rfl fz0 (by kernel_rfl) ?_
              have hb2 := below_allocz hb1 (.cells fz0 45)
              have l6 := Below.size hb1
              have f62 : Held (u3.alloc (.cells fz0 45)) _ 45 fz0 := Held.new _ _ _
              have ho2 := OwnF.alloc ho1 (.cells fz0 45)
              refine hK.out _ _ hb2 (fun _ => ?_)
              clear hK K
              simp only [Act.put, List.getElem_toArray, List.getElem_cons_succ, List.getElem_cons_zero, List.setIfInBounds_toArray, List.set_cons_zero, List.set_cons_succ]
              have st2 := stored_one f62 ho2 hb2 l6
              refine wpAnyH_ready (rs := [15]) (by kernel_rfl) (by simp) ?_
              refine (AllReadyH.cons rfl (fun K hK => ?_) AllReadyH.nil)
              rw [if_pos (by rfl)]
              refine wp_store_row 45 _ _ rfl _ cs' (by rfl) (by rfl) _ _ f62 (fb_info hfc) (by rw [hfc.size]; rfl) hfc.one ?_
              have hbs := below_rowz hb2 l6 cs'
              refine hK.out _ _ hbs (fun _ => ?_)
              clear hK K
              simp only [Act.put, List.getElem_toArray, List.getElem_cons_succ, List.getElem_cons_zero, List.setIfInBounds_toArray, List.set_cons_zero, List.set_cons_succ]
              refine wpAnyH_ready (rs := [16]) (by kernel_rfl) (by simp) ?_
              refine (AllReadyH.cons rfl (fun K hK => ?_) AllReadyH.nil)
              go_simp
              refine hK.out _ _ hbs (fun _ => ?_)
              clear hK K
              (try simp only [Act.put, List.getElem_toArray, List.getElem_cons_succ, List.getElem_cons_zero, List.setIfInBounds_toArray, List.set_cons_zero, List.set_cons_succ])
              refine wpAnyH_done (by kernel_rfl) ?_ _
              go_wp2_with fail
              go_meet
              case rel => exact ⟨_, cs', rfl, st2.1, hfc, st2.2.1, st2.2.2⟩
          · rw [if_pos (by rfl)]
            refine wp_alloc_arr 45 rfl fz0 (by kernel_rfl) ?_
            have hb1 := below_allocz hb0 (.cells fz0 45)
            have l6 := Below.size hb0
            have f61 : Held (W2d.alloc (.cells fz0 45)) _ 45 fz0 := Held.new _ _ _
            refine hK.out _ _ hb1 (fun _ => ?_)
            clear hK K
            simp only [Act.put, List.getElem_toArray, List.getElem_cons_succ, List.getElem_cons_zero, List.setIfInBounds_toArray, List.set_cons_zero, List.set_cons_succ]
            refine wpAnyH_ready (rs := [10]) (by kernel_rfl) (by simp) ?_
            refine (AllReadyH.cons rfl (fun K hK => ?_) AllReadyH.nil)
            · go_simp
              go_at_call 11
              (with_reducible refine (NW _ hb1).out.mono ?_)
              rintro _ u3 ⟨v', rfl, ho, hbu3⟩
              have ho2 := OwnF.mono ho (Nat.zero_le _)
              clear ho
              have hb2 := Below.step hb1 hbu3
              have f62 := Held.below f61 hbu3
              obtain ⟨cs', rfl, hfc⟩ := ho2.cells
              (try go_wp2_with fail)
              refine hK.out _ _ hb2 (fun _ => ?_)
              clear hK K
              (try simp only [Act.put, List.getElem_toArray, List.getElem_cons_succ, List.getElem_cons_zero, List.setIfInBounds_toArray, List.set_cons_zero, List.set_cons_succ])
              refine wpAnyH_take (i := 11) (v := .tuple #[.agg cs', .bool NR.2]) rfl (by kernel_rfl) (by kernel_rfl) (by kernel_rfl) (fun _ _ _ h => h) (Or.inl ⟨by rfl, fun W hW => ?_⟩) hb2 ?_
              · go_simp
              simp only [Act.put, List.getElem_toArray, List.getElem_cons_succ, List.getElem_cons_zero, List.setIfInBounds_toArray, List.set_cons_zero, List.set_cons_succ]
              refine wpAnyH_take (i := 12) (v := .agg cs') rfl (by kernel_rfl) (by kernel_rfl) (by kernel_rfl) (fun _ _ _ h => h) (Or.inl ⟨by rfl, fun W hW => ?_⟩) hb2 ?_
              · go_simp
              simp only [Act.put, List.getElem_toArray, List.getElem_cons_succ, List.getElem_cons_zero, List.setIfInBounds_toArray, List.set_cons_zero, List.set_cons_succ]
              refine wpAnyH_take (i := 13) (v := .bool NR.2) rfl (by kernel_rfl) (by kernel_rfl) (by kernel_rfl) (fun _ _ _ h => h) (Or.inl ⟨by rfl, fun W hW => ?_⟩) hb2 ?_
              · go_simp
              simp only [Act.put, List.getElem_toArray, List.getElem_cons_succ, List.getElem_cons_zero, List.setIfInBounds_toArray, List.set_cons_zero, List.set_cons_succ]
              have st2 := stored_one f62 ho2 hb2 l6
              refine wpAnyH_ready (rs := [15]) (by kernel_rfl) (by simp) ?_
              refine (AllReadyH.cons rfl (fun K hK => ?_) AllReadyH.nil)
              rw [if_pos (by rfl)]
              refine wp_store_row 45 _ _ rfl _ cs' (by rfl) (by rfl) _ _ f62 (fb_info hfc) (by rw [hfc.size]; rfl) hfc.one ?_
              have hbs := below_rowz hb2 l6 cs'
              refine hK.out _ _ hbs (fun _ => ?_)
              clear hK K
              simp only [Act.put, List.getElem_toArray, List.getElem_cons_succ, List.getElem_cons_zero, List.setIfInBounds_toArray, List.set_cons_zero, List.set_cons_succ]
              refine wpAnyH_ready (rs := [16]) (by kernel_rfl) (by simp) ?_
              refine (AllReadyH.cons rfl (fun K hK => ?_) AllReadyH.nil)
              go_simp
              refine hK.out _ _ hbs (fun _ => ?_)
              clear hK K
              (try simp only [Act.put, List.getElem_toArray, List.getElem_cons_succ, List.getElem_cons_zero, List.setIfInBounds_toArray, List.set_cons_zero, List.set_cons_succ])
              refine wpAnyH_done (by kernel_rfl) ?_ _
              go_wp2_with fail
              go_meet
              case rel => exact ⟨_, cs', rfl, st2.1, hfc, st2.2.1, st2.2.2⟩
        case rest =>
          obtain ⟨g6, cs6, rfl, hG, hfcG, hoG, hbC⟩ := hcut
          have BG := Lib.hid (sbegin_any s2 wc (H2.out.below hbC) (show TskOk wc ⟨cs6, NR.1, s2⟩ from ⟨hoG, hfcG, HNB.out⟩) (by have := HUL.out.2.2.2; have h1 := HUL.out.2.2.1; have h2 := HUL.out.2.1; have h3 := HF.out; rw [List.length_append, List.length_singleton]; omega) (Nat.le_trans HBW2.out hbC.size))
          have hA2c := (hbC.cell (p := ⟨u.heap.size, 2, none⟩) HA.out.lt).trans hA2
          have HOc := Lib.hid (HO2.out.below hbC)
          have HKc := Lib.hid (K2.out.trans (KS.of hbC HBW2.out))
          clear NW hA0 hA2
          go_wp2_with (first
            | (guard_target = wpList _ _ _ (Oper.mk _ (Op.load 45 (.tmp 6)) _ _ _ none :: _) _ _; refine wpList_load_row rfl 45 _ rfl g6 rfl 45 cs6 (0, 0) _ hG Tryz.underlying45 rfl (fb_info hfcG) ?_)
            | (go_at_call 42; (with_reducible refine BG.out.mono ?_); rintro _ u4 ⟨rfl, v', hR5, hK5⟩))
          go_step3
          have q2 := hR5.blk.cell 2
          simp at q2
          refine ⟨rfl, ⟨l ++ [⟨cs1, G, x.sl⟩], ⟨cs6, NR.1, s2⟩, used + 1, v', hR5, HKc.out.trans hK5, ?_, ?_, ?_, ?_, HOc.out.kt hK5.kt tyOr tyOt, _, _, _, _, _, _, _, _, _, _, _, _, _, _, _, _, _, _, _, _, _, _, _, _, _, _, _, _, _, _, _, _, _, _, _, _, _, _, _, _, _, _, _, rfl⟩, ?_⟩
          · rw [revT_snoc, revT_snoc, ← HNR.out]
            have e := HRUN.out
            rw [show x.t = (x.f, x.sl) from rfl, run_kid (by rw [HRR.out]), HRR.out] at e
            exact e
          · have := HUL.out.1; omega
          · have := HST.out; have h1 := HUL.out.2.1; omega
          · have h1 := HUL.out.2.2.1; rw [List.length_append, List.length_singleton]; omega
          · rw [rdN_of q2]; have := HST.out; omega
      by_cases hk4 : kd = 4
      · subst hk4
        have EN := Lib.hid (send_any W2 HCX.out HU2.out hUB H2.out HUL.out.2.2.2 HBW2.out)
        have HEO := Lib.hid (rfl : outF G = outF G)
        simp only at EN
        generalize hoe : outF G = o at *
        have HOE := Lib.hid hoe
        obtain ⟨ot, oa, ob⟩ := o
        clear hoe HEO hA2 HBD HKP
        go_upto_region 9 with (first
          | (go_at_call 44; (with_reducible refine EN.out.mono ?_); rintro _ u4 ⟨rfl, v', l', hR5, hrv, hll, hK5⟩)
          | (guard_target = wpList _ _ _ (Oper.mk _ (Op.store 32 (.tmp 8) (.tmp 40)) _ _ _ none :: _) _ _; refine wpList_store_row rfl 32 _ _ rfl u4.heap.size #[.int .i64 ot, .int .i64 oa, .int .i64 ob] rfl rfl _ _ (Held.new u4 32 _) (by kernel_rfl) rfl (by simp [Value.oneCell']) ?_))
        have hb6 : Below u4.heap.size u4 ((u4.alloc (.cells oz0 32)).setRow u4.heap.size #[.int .i64 ot, .int .i64 oa, .int .i64 ob]) := below_row ((Below.refl _ _).alloc (Nat.le_refl _) _) (Nat.le_refl _) _
        have hO8 := (Held.new u4 32 oz0).rowSelf #[.int .i64 ot, .int .i64 oa, .int .i64 ob]
        generalize (u4.alloc (.cells oz0 32)).setRow u4.heap.size #[.int .i64 ot, .int .i64 oa, .int .i64 ob] = W6 at *
        have H6 := Lib.hid (hR5.below hb6)
        have K6 := Lib.hid ((K2.out.trans hK5).trans (KS.of hb6 (Nat.le_trans HBW2.out hK5.kt.size)))
        have hO6 := (HO2.out.kt hK5.kt tyOr tyOt).below hb6
        have r3 := H6.out.blk.cell 3
        obtain ⟨A9, c9, rfl⟩ := H6.out.slice
        simp at r3
        have HRV := Lib.hid hrv
        have HLL := Lib.hid hll
        clear hR5 hK5 hb6 EN hrv hll hA0
        rcases List.eq_nil_or_concat l with rfl | ⟨l1, y, rfl⟩
        · obtain rfl : some (((ot, (oa, ob)) : OutP), (fuel - (used + 1)).toNat) = RT := by
            rw [← HRUN.out, show x.t :: revT [] = [(x.f, x.sl)] from rfl, run_out (by rw [HRR.out]), HRR.out, HOE.out]
          have HFU : Hid (fuel - (((fuel - (used + 1)).toNat : Nat) : Int) = used + 1) := Lib.hid (by have := HST.out; have h1 := HUL.out.2.1; omega)
          obtain rfl : l' = [] := List.eq_nil_of_length_eq_zero HLL.out
          go_wp2_with (first
            | (guard_target = wpList _ _ _ (Oper.mk _ (Op.load 32 (.tmp 8)) _ _ _ none :: _) _ _; refine wpList_load_row rfl 32 _ rfl u4.heap.size rfl 32 #[.int .i64 ot, .int .i64 oa, .int .i64 ob] (0, 0) _ hO8 Tryz.underlying32 rfl (by kernel_rfl) ?_)
            | (guard_target = wpList _ _ _ (Oper.mk _ (Op.store 32 (.tmp 4) (.tmp 47)) _ _ _ none :: _) _ _; refine wpList_store_row rfl 32 _ _ rfl (w.heap.size + 1) #[.int .i64 ot, .int .i64 oa, .int .i64 ob] rfl rfl _ _ hO6 (by kernel_rfl) rfl (by simp [Value.oneCell']) ?_))
          simp only [Exit.jump]
          have hfin := H6.out.rowFar hO6 tyOr tyOt tyOV tyOS #[.int .i64 ot, .int .i64 oa, .int .i64 ob]
          rw [← HFU.out] at hfin
          exact bodyPost_ret (v := outv ot oa ob) (results_cell_row rfl _ _ (w.heap.size + 1) 32 _ (0, 0) _ rfl (hO6.rowSelf _) Tryz.underlying32 rfl (by kernel_rfl)) rfl ⟨⟨below_row K6.out.below (Nat.le_succ_of_le HB.out) _, K6.out.kt.rowNew (Nat.le_succ _) _⟩, rfl, _, hfin⟩
        · have hz : ((l'.length : Int) == 0) = false := by rw [HLL.out]; simp; omega
          have hz2 : (l'.length == 0) = false := by rw [HLL.out]; simp
          go_wp2_with fail
          go_step3
          obtain ⟨l2, y2, rfl⟩ : ∃ l2 y2, l' = l2 ++ [y2] := by
            rcases List.eq_nil_or_concat l' with e | ⟨l2, y2, e⟩
            · have := HLL.out; rw [e] at this; simp at this
            · exact ⟨l2, y2, by rw [e, List.concat_eq_append]⟩
          have q2 := H6.out.blk.cell 2
          simp at q2
          have hlen2 : l2.length = l1.length := by have := HLL.out; simp at this; exact this
          have hlen1 : (l1.length : Int) + 1 ≤ used := by have := HUL.out.2.2.1; simp at this; exact this
          refine ⟨rfl, ⟨l2, y2, used + 1, _, H6.out, K6.out, ?_, ?_, ?_, ?_, hO6, _, _, _, _, _, _, _, _, _, _, _, _, _, _, _, _, _, _, _, _, _, _, _, _, _, _, _, _, _, _, _, _, _, _, _, _, _, _, _, _, _, _, _, rfl⟩, ?_⟩
          · rw [HRV.out, ← HRUN.out, List.concat_eq_append, revT_snoc, show x.t = (x.f, x.sl) from rfl, run_back (by rw [HRR.out]), HRR.out, HOE.out]
          · have := HUL.out.1; omega
          · have := HST.out; have h1 := HUL.out.2.1; omega
          · rw [hlen2]; omega
          · rw [rdN_of q2]; have := HST.out; omega
      · have h2 : (kd == 2) = false := by simpa using hk2
        have h4 : (kd == 4) = false := by simpa using hk4
        have HK2 := Lib.hid hk2
        have HK4 := Lib.hid hk4
        clear hk2 hk4 hA2
        go_wp2_with fail
        go_step3
        have q2 := H2.out.blk.cell 2
        simp at q2
        refine ⟨rfl, ⟨l, ⟨cs1, G, x.sl⟩, used + 1, _, H2.out, K2.out, ?_, ?_, ?_, ?_, HO2.out, _, _, _, _, _, _, _, _, _, _, _, _, _, _, _, _, _, _, _, _, _, _, _, _, _, _, _, _, _, _, _, _, _, _, _, _, _, _, _, _, _, _, _, rfl⟩, ?_⟩
        · rw [revT_snoc, ← HRUN.out, show x.t = (x.f, x.sl) from rfl, run_go (by rw [HRR.out]; exact HK2.out) (by rw [HRR.out]; exact HK4.out), HRR.out]
          rfl
        · have := HUL.out.1; omega
        · have := HST.out; have h1 := HUL.out.2.1; omega
        · have h1 := HUL.out.2.2.1; omega
        · rw [rdN_of q2]; have := HST.out; omega
  · intro hp
    have Hp := Lib.hid hp
    clear hp
    go_wp2_with (first
      | (guard_target = wpList _ _ _ (Oper.mk _ (Op.load 45 (.tmp 3)) _ _ _ none :: _) _ _; refine wpList_load_row rfl 45 _ rfl w.heap.size rfl 45 cs (0, 0) _ h3 Tryz.underlying45 rfl (fb_info hfc0) ?_)
      | (go_at_call 42; (with_reducible refine BG.out.mono ?_); rintro _ u ⟨rfl, v', hR, hK⟩))
    go_step3
    rename_i hKK
    refine hKK _ _ (Hp.out _ _ ⟨[], ⟨cs, f, 0⟩, 0, v', hR, K0.out.trans hK, by rw [← HRT.out]; simp [revT, TskC.t], by omega, by have := HF0.out; omega, by simp, HS4.out.kt hK.kt tyOr tyOt, _, _, _, _, _, _, _, _, _, _, _, _, _, _, _, _, _, _, _, _, _, _, _, _, _, _, _, _, _, _, _, _, _, _, _, _, _, _, _, _, _, _, _, rfl⟩)
end Go.Proofs.YtoeinpiekfmbgaaGreatDoor

/- Layer 10's code: the deferred closure. -/
namespace Go.Proofs.YtoeinpiekfmbgaaGreatDoor
set_option linter.unusedVariables false
set_option linter.unusedSimpArgs false
open Gm Go.RowKit Go.ChangeShapes Go.WideShapes Go.ChangeAt Go.Sort

abbrev fuelE : PanicEntry := { v := .iface 33 (.int .i64 100), recovered := false }
set_option maxHeartbeats 2000000 in
set_option maxRecDepth 100000 in
theorem catch_idle (b4 b5 b6 : Nat) (w : World) :
    CallsD Tryz.prog 24 #[.pointer (some ⟨b4, 0, none⟩), .pointer (some ⟨b5, 0, none⟩), .pointer (some ⟨b6, 0, none⟩)] .returning w fun e u' w' => e = .returned (.tuple #[]) ∧ u' = .returning ∧ w' = w := by
  refine callsD_of_wpS Tryz.func24 rfl fun c₀ cs hu => ?_
  apply wpS_seq
  apply wpS_region
  simp [wpOpsS, go_sem, recoverD, hu, Tryz.ntmps24, Exit.thenS]
  refine wpS_of_wp ?_
  show Code.wp _ _ _ { tmps := #[.pointer (some ⟨b4, 0, none⟩), .pointer (some ⟨b5, 0, none⟩), .pointer (some ⟨b6, 0, none⟩), .nilIface, undef, undef, .nilIface, undef, undef, undef, undef, undef, undef, undef, undef, undef, undef, undef, undef], defers := [] } _
  go_wp2
  cases c₀
  simp_all [bodyPostS, results, Tryz.results24]
set_option maxHeartbeats 2000000 in
set_option maxRecDepth 100000 in
theorem catch_pan (b4 b5 b6 : Nat) (older : List PanicEntry) (w : World) {o0 o1 o2 x5 x6 : Value} (h4 : Held w b4 32 #[o0, o1, o2]) (h5 : Held w b5 3 #[x5]) (h6 : Held w b6 33 #[x6]) (n45 : b4 ≠ b5) (n46 : b4 ≠ b6) (n56 : b5 ≠ b6) :
    CallsD Tryz.prog 24 #[.pointer (some ⟨b4, 0, none⟩), .pointer (some ⟨b5, 0, none⟩), .pointer (some ⟨b6, 0, none⟩)] (.panicking (fuelE :: older)) w fun e u' w' => e = .returned (.tuple #[]) ∧ u' = .panicking ({ fuelE with recovered := true } :: older) ∧
      w' = ((((w.setCell ⟨b4, 0, none⟩ (.int .i64 0)).setCell ⟨b4, 1, none⟩ (.int .i64 0)).setCell ⟨b4, 2, none⟩ (.int .i64 0)).setCell ⟨b5, 0, none⟩ (.int .i64 0)).setCell ⟨b6, 0, none⟩ (.int .i64 100) := by
  have c0 := h4.cell 0
  have c1 := h4.cell 1
  have c2 := h4.cell 2
  have c5 := h5.cell 0
  have c6 := h6.cell 0
  have z0 := h4.fz 0
  have z1 := h4.fz 1
  have z2 := h4.fz 2
  have z5 := h5.fz 0
  have z6 := h6.fz 0
  simp at c0 c1 c2 c5 c6
  refine callsD_of_wpS Tryz.func24 rfl fun c₀ cs hu => ?_
  apply wpS_seq
  apply wpS_region
  simp [wpOpsS, go_sem, recoverD, hu, Tryz.ntmps24, Exit.thenS]
  refine wpS_of_wp ?_
  show Code.wp _ _ _ { tmps := #[.pointer (some ⟨b4, 0, none⟩), .pointer (some ⟨b5, 0, none⟩), .pointer (some ⟨b6, 0, none⟩), (.iface 33 (.int .i64 100)), undef, undef, (.iface 33 (.int .i64 100)), undef, undef, undef, undef, undef, undef, undef, undef, undef, undef, undef, undef], defers := [] } _
  have hta : ∀ W, (Instr.typeAssert (.iface 33 (.int .i64 100)) 20 33 true).run Tryz.prog W = .ok (.tuple #[.int .i64 100, .bool true]) W := fun W => by
    simp [Instr.typeAssert, run_underlying Tryz.underlying33]
  go_wp2
  exact ⟨rfl, _, rfl, .tuple #[], by simp [results, Tryz.results24], rfl, rfl, rfl⟩
end Go.Proofs.YtoeinpiekfmbgaaGreatDoor

/- Layer 10's code: the result, fuel that is used up included. -/
namespace Go.Proofs.YtoeinpiekfmbgaaGreatDoor
set_option linter.unusedVariables false
set_option linter.unusedSimpArgs false
open Gm Go.RowKit Go.ChangeShapes Go.WideShapes Go.ChangeAt Go.Sort

theorem tyIr : 3 ≠ 50 := by decide
theorem tyIt : 3 ≠ 119 := by decide
theorem tyEr : 33 ≠ 50 := by decide
theorem tyEt : 33 ≠ 119 := by decide
/-- What is told of how the machine ends. -/
def tellT (fuel : Int) (x : Option (OutP × Nat)) : OutP × Int × Int := match x with
  | none => (zeroO, 0, 100)
  | some (o, m) => (o, fuel - m, 0)
abbrev tellV (R : OutP × Int × Int) : Value := .tuple #[outv R.1.1 R.1.2.1 R.1.2.2, .int .i64 R.2.1, .int .i64 R.2.2]
set_option maxHeartbeats 4000000 in
set_option maxRecDepth 100000 in
theorem sresult_any {B r np c : Nat} {A : Option Addr} {p : List Fun} {U : World} {v : Value} {fuel : Int} {cs : Array Value} {f : Frm} (w : World) (CX : Cx p A np c U) (hU : Below U.heap.size U w) (hUB : U.heap.size ≤ B) (h : RunS w B r (.slice A np c) fuel 0 v []) (hx : TskOk w ⟨cs, f, 0⟩) (hB : B ≤ w.heap.size) (hf0 : 1 ≤ fuel) (hf : fuel ≤ 100000) :
    Calls Tryz.prog 12 #[.pointer (some ⟨r, 0, none⟩), .agg cs] w fun e w' => e = .returned (tellV (tellT fuel (runT p fuel.toNat [(f, 0)]))) ∧ Below B w w' := by
  have hmf : ∀ (fn : Fn) (first cap : Array Value) (w : World), (Instr.makeFunc fn first cap).run Tryz.prog w = .ok (.func fn first cap) w := fun _ _ _ _ => rfl
  have hbw : Below w.heap.size w ((((w.alloc (.cells cs 45)).alloc (.cells oz0 32)).alloc (.cells #[.int .i64 0] 3)).alloc (.cells #[.int .i64 0] 33)) := ((((Below.refl _ _).alloc (Nat.le_refl _) _).alloc (by simp) _).alloc (by simp; omega) _).alloc (by simp; omega) _
  have EX := fun W (hb : Below w.heap.size w W) => Lib.hid (sexec_any W CX (hU.trans (hb.mono (Nat.le_trans hUB hB))) hUB (h.below hb) (hx.kt (KT.of_below hb)) (Nat.le_trans hB hb.size) hf0 hf)
  have hfc := hx.fc
  have hrl := h.rlt
  have HB := Lib.hid hB
  clear CX hU h hx hB hf0 hf
  go_enter_defers Tryz.func12, Tryz.ntmps12
  go_upto_region 2 with (first
    | (refine wpList_box_arr rfl _ _ rfl _ rfl ?_)
    | (guard_target = wpList _ _ _ (Oper.mk _ (Op.alloc 32) _ _ _ none :: _) _ _; refine wpList_alloc_arr rfl 32 rfl oz0 (by kernel_rfl) ?_))
  have h3 : Held ((((w.alloc (.cells cs 45)).alloc (.cells oz0 32)).alloc (.cells #[.int .i64 0] 3)).alloc (.cells #[.int .i64 0] 33)) w.heap.size 45 cs := (((Held.new w _ cs).alloc _).alloc _).alloc _
  have h4 : Held ((((w.alloc (.cells cs 45)).alloc (.cells oz0 32)).alloc (.cells #[.int .i64 0] 3)).alloc (.cells #[.int .i64 0] 33)) (w.heap.size + 1) 32 oz0 := ((Held.new1 w _ _ oz0).alloc _).alloc _
  have h5 : Held ((((w.alloc (.cells cs 45)).alloc (.cells oz0 32)).alloc (.cells #[.int .i64 0] 3)).alloc (.cells #[.int .i64 0] 33)) (w.heap.size + 1 + 1) 3 #[.int .i64 0] := by have := (Held.new1 (w.alloc (.cells cs 45)) (.cells oz0 32) 3 #[.int .i64 0]).alloc (.cells #[.int .i64 0] 33); rwa [size_alloc1] at this
  have h6 : Held ((((w.alloc (.cells cs 45)).alloc (.cells oz0 32)).alloc (.cells #[.int .i64 0] 3)).alloc (.cells #[.int .i64 0] 33)) (w.heap.size + 1 + 1 + 1) 33 #[.int .i64 0] := by have := Held.new1 ((w.alloc (.cells cs 45)).alloc (.cells oz0 32)) (.cells #[.int .i64 0] 3) 33 #[.int .i64 0]; rwa [size_alloc1, size_alloc1] at this
  have EX := EX _ hbw
  generalize ((((w.alloc (.cells cs 45)).alloc (.cells oz0 32)).alloc (.cells #[.int .i64 0] 3)).alloc (.cells #[.int .i64 0] 33)) = W1 at *
  have hBl := HB.out
  cases hRT : runT p fuel.toNat [(f, 0)] with
  | none =>
    rw [hRT] at EX
    simp only at EX
    go_wp2_with (first
      | (guard_target = wpList _ _ _ (Oper.mk _ (Op.load 45 (.tmp 3)) _ _ _ none :: _) _ _; refine wpList_load_row rfl 45 _ rfl w.heap.size rfl 45 cs (0, 0) _ h3 Tryz.underlying45 rfl (fb_info hfc) ?_)
      | (go_at_call 25; (with_reducible refine EX.out.mono ?_); rintro _ u ⟨hk, rfl⟩))
    refine leaves_cons (f := 24) (args := #[.pointer (some ⟨w.heap.size + 1, 0, none⟩), .pointer (some ⟨w.heap.size + 1 + 1, 0, none⟩), .pointer (some ⟨w.heap.size + 1 + 1 + 1, 0, none⟩)]) (by simp) (by simp [go_sem]) ?_
    have g4 := h4.kt hk.kt tyOr tyOt
    have g5 := h5.kt hk.kt tyIr tyIt
    have g6 := h6.kt hk.kt tyEr tyEt
    refine (catch_pan _ _ _ [] u g4 g5 g6 (by omega) (by omega) (by omega)).mono ?_
    rintro e u' w'' ⟨rfl, rfl, rfl⟩
    have c0 := g4.cell 0
    have c1 := g4.cell 1
    have c2 := g4.cell 2
    have c5 := g5.cell 0
    have c6 := g6.cell 0
    simp at c0 c1 c2 c5 c6
    have hbf := ((((((hbw.mono hBl).trans hk.below).setCell (p := ⟨w.heap.size + 1, 0, none⟩) (Nat.le_succ_of_le hBl) (.int .i64 0)).setCell (p := ⟨w.heap.size + 1, 1, none⟩) (Nat.le_succ_of_le hBl) (.int .i64 0)).setCell (p := ⟨w.heap.size + 1, 2, none⟩) (Nat.le_succ_of_le hBl) (.int .i64 0)).setCell (p := ⟨w.heap.size + 1 + 1, 0, none⟩) (Nat.le_succ_of_le (Nat.le_succ_of_le hBl)) (.int .i64 0)).setCell (p := ⟨w.heap.size + 1 + 1 + 1, 0, none⟩) (Nat.le_succ_of_le (Nat.le_succ_of_le (Nat.le_succ_of_le hBl))) (.int .i64 100)
    have hbf := Lib.hid hbf
    clear hbw hBl hk g4 g5 g6 h3 h4 h5 h6 EX
    simp [Leaves, settle, results, Tryz.results12, go_sem, c0, c1, c2, c5, c6, hRT, tellT, zeroO]
    exact hbf.out
  | some x =>
    obtain ⟨⟨ot, oa, ob⟩, m⟩ := x
    rw [hRT] at EX
    simp only at EX
    go_upto_region 3 with (first
      | (guard_target = wpList _ _ _ (Oper.mk _ (Op.load 45 (.tmp 3)) _ _ _ none :: _) _ _; refine wpList_load_row rfl 45 _ rfl w.heap.size rfl 45 cs (0, 0) _ h3 Tryz.underlying45 rfl (fb_info hfc) ?_)
      | (go_at_call 25; (with_reducible refine EX.out.mono ?_); rintro _ u ⟨hk, rfl, v', hR⟩; have g4 := h4.kt hk.kt tyOr tyOt)
      | (guard_target = wpList _ _ _ (Oper.mk _ (Op.store 32 (.tmp 4) (.tmp 10)) _ _ _ none :: _) _ _; refine wpList_store_row rfl 32 _ _ rfl (w.heap.size + 1) #[.int .i64 ot, .int .i64 oa, .int .i64 ob] rfl rfl _ _ g4 (by kernel_rfl) rfl (by simp [Value.oneCell']) ?_))
    have g5 := (h5.kt hk.kt tyIr tyIt).row (k := w.heap.size + 1) (by omega) #[.int .i64 ot, .int .i64 oa, .int .i64 ob]
    have g6 := (h6.kt hk.kt tyEr tyEt).row (k := w.heap.size + 1) (by omega) #[.int .i64 ot, .int .i64 oa, .int .i64 ob]
    have hR2 := hR.rowFar g4 tyOr tyOt tyOV tyOS #[.int .i64 ot, .int .i64 oa, .int .i64 ob]
    have g4b := g4.rowSelf #[.int .i64 ot, .int .i64 oa, .int .i64 ob]
    have hb5 := below_row ((hbw.mono hBl).trans hk.below) (Nat.le_succ_of_le hBl) #[.int .i64 ot, .int .i64 oa, .int .i64 ob]
    generalize u.setRow (w.heap.size + 1) #[.int .i64 ot, .int .i64 oa, .int .i64 ob] = W5 at *
    have c0 := g4b.cell 0
    have c1 := g4b.cell 1
    have c2 := g4b.cell 2
    have c5 := g5.cell 0
    have c6 := g6.cell 0
    have z0 := g4b.fz 0
    have z1 := g4b.fz 1
    have z2 := g4b.fz 2
    have z5 := g5.fz 0
    have z6 := g6.fz 0
    have r2 := hR2.blk.cell 2
    simp at c0 c1 c2 c5 c6 r2
    have hbf := Lib.hid ((((((hb5.setCell (p := ⟨w.heap.size + 1, 0, none⟩) (Nat.le_succ_of_le hBl) (.int .i64 ot)).setCell (p := ⟨w.heap.size + 1, 1, none⟩) (Nat.le_succ_of_le hBl) (.int .i64 oa)).setCell (p := ⟨w.heap.size + 1, 2, none⟩) (Nat.le_succ_of_le hBl) (.int .i64 ob)).setCell (p := ⟨w.heap.size + 1 + 1, 0, none⟩) (Nat.le_succ_of_le (Nat.le_succ_of_le hBl)) (.int .i64 (fuel - m))).setCell (p := ⟨w.heap.size + 1 + 1 + 1, 0, none⟩) (Nat.le_succ_of_le (Nat.le_succ_of_le (Nat.le_succ_of_le hBl))) (.int .i64 0)).drew)
    clear hbw hBl hk g4 g5 g6 g4b h3 h4 h5 h6 EX hb5 hR hR2
    have n1 : r ≠ w.heap.size + 1 := by omega
    have n2 : r ≠ w.heap.size + 1 + 1 := by omega
    have n3 : r ≠ w.heap.size + 1 + 1 + 1 := by omega
    have m1 := Ne.symm n1
    have m2 := Ne.symm n2
    have m3 := Ne.symm n3
    refine wp_region_noPanic ?_
    go_region
    all_goals refine NoPanic.normal ?_
    all_goals go_wp2_with fail
    all_goals refine leaves_cons (f := 24) (args := #[.pointer (some ⟨w.heap.size + 1, 0, none⟩), .pointer (some ⟨w.heap.size + 1 + 1, 0, none⟩), .pointer (some ⟨w.heap.size + 1 + 1 + 1, 0, none⟩)]) (by simp) (by simp [go_sem]) ?_
    all_goals refine (catch_idle _ _ _ _).mono ?_
    all_goals rintro e u' w'' ⟨rfl, rfl, rfl⟩
    all_goals simp [Leaves, settle, results, Tryz.results12, go_sem, c0, c1, c2, c5, c6, hRT, tellT]
    all_goals exact hbf.out
end Go.Proofs.YtoeinpiekfmbgaaGreatDoor

/- Layer 10's code: Eval, at every program. -/
namespace Go.Proofs.YtoeinpiekfmbgaaGreatDoor
set_option linter.unusedVariables false
set_option linter.unusedSimpArgs false
open Gm Go.RowKit Go.ChangeShapes Go.WideShapes Go.ChangeAt Go.Sort

theorem results_ctt {P : Program} {fn : Func} {p q t : Tmp} {ty1 : TypeId} (h : fn.results = #[.cell p ty1, .tmp q, .tmp t]) (tmps : Array Value) (w : World) {a1 : Addr} {v1 v2 v3 : Value} (hp : tmps.getD p undef = .pointer (some a1)) (hq : tmps.getD q undef = v2) (ht : tmps.getD t undef = v3)
    (l1 : (loadVar ty1 a1).run P w = .ok v1 w) : (results fn tmps).run P w = .ok (.tuple #[v1, v2, v3]) w := by
  have hp' : tmps[p]?.getD undef = .pointer (some a1) := by simpa using hp
  have hq' : tmps[q]?.getD undef = v2 := by simpa using hq
  have ht' : tmps[t]?.getD undef = v3 := by simpa using ht
  simp [results, h, hp', hq', ht', asAddr, l1]
theorem load_out {w : World} {g : Nat} {cs : Array Value} (h : Held w g 32 cs) (hs : cs.size = 3) : (loadVar 32 ⟨g, 0, none⟩).run Tryz.prog w = .ok (.agg cs) w :=
  run_loadVar_row w g 32 32 cs (0, 0) _ h Tryz.underlying32 rfl (by rw [hs]; kernel_rfl)
set_option maxHeartbeats 4000000 in
set_option maxRecDepth 100000 in
theorem seval_any {A A2 : Option Addr} {p : List Fun} {args : List V} (c c2 : Nat) (s fuel : Int) (w : World) (hT : TabB w w.heap.size) (h : ProgAt w w.heap.size A p) (hz : SizedP p) (ha : VAt w w.heap.size A2 args) (hl : args.length ≤ 1000) :
    Calls Tryz.prog 6 #[.slice A p.length c, .slice A2 args.length c2, .int .i64 s, .int .i64 fuel] w fun e w' => e = .returned (tellV (evalP p args s fuel)) ∧ Below w.heap.size w w' := by
  have CK := fun W (hb : Below w.heap.size w W) => Lib.hid (check_any c W (hT.below hb (Nat.le_refl _)).ot ((h.below hb (Nat.le_refl _))) hz hb.size)
  have CX := cx_of (c := c) hT h hz
  have NW := fun W (hb : Below w.heap.size w W) => Lib.hid (CX.new W 0 args args.length s _ A2 c2 hb ((ha.below hb (Nat.le_refl _)).more hb.size) rfl hl rfl)
  have HNB := Lib.hid (new_bnd p 0 args s)
  have HCX := Lib.hid CX
  obtain ⟨EV, hEV⟩ : ∃ R, evalP p args s fuel = R := ⟨_, rfl⟩
  have hno : ¬ canP p args s fuel → EV = (zeroO, 0, 1) := fun hn => by rw [← hEV]; exact evalP_no hn
  have hcan : canP p args s fuel → EV = tellT fuel (runT p fuel.toNat [((newF p 0 args s).1, 0)]) := fun hc => by
    rw [← hEV, evalP_can hc]; unfold tellT; rfl
  rw [hEV]
  by_cases h1 : (checkP p).2.2 ≠ 0 ∨ fuel < 1 ∨ 100000 < fuel
  · obtain rfl : EV = (zeroO, 0, 1) := hno fun hc => by
      rcases h1 with h1 | h1 | h1
      · exact h1 hc.1
      · have := hc.2.1; omega
      · have := hc.2.2.1; omega
    generalize checkP p = R at *
    obtain ⟨r1, r2, r3⟩ := R
    simp only at h1 CK
    clear hno hcan hEV hT h hz ha hl CX NW HNB HCX
    have hb : ((r3 != 0) || (decide (fuel < 1) || decide (100000 < fuel))) = true := by simpa using h1
    clear h1
    generalize hq1 : (r3 != 0) = q1 at *
    generalize hq2 : decide (fuel < 1) = q2 at *
    generalize hq3 : decide (100000 < fuel) = q3 at *
    cases q1 <;> cases q2 <;> cases q3 <;> simp at hb
    all_goals go_enter Tryz.func6, Tryz.ntmps6
    all_goals go_wp2_with (first
      | (guard_target = wpList _ _ _ (Oper.mk _ (Op.alloc 32) _ _ _ none :: _) _ _; refine wpList_alloc_arr rfl 32 rfl oz0 (by kernel_rfl) ?_)
      | (go_at_call 10; (with_reducible refine (CK _ ((Below.refl _ _).alloc (Nat.le_refl _) _)).out.mono ?_); rintro _ u ⟨rfl, hb1⟩; have g8 := (Held.new w 32 oz0).below hb1; have hb2 := below_laid hb1)
      | (guard_target = wpList _ _ _ (Oper.mk _ (Op.store 32 (.tmp 8) (.tmp 33)) _ _ _ none :: _) _ _; refine wpList_store_row rfl 32 _ _ rfl w.heap.size oz0 rfl rfl _ _ g8 (by kernel_rfl) rfl (by simp [Value.oneCell']) ?_))
    all_goals exact bodyPost_ret (v := tellV (zeroO, 0, 1)) (results_ctt rfl _ _ rfl rfl rfl (load_out (g8.rowSelf oz0) rfl)) rfl ⟨rfl, below_row hb2 (Nat.le_refl _) _⟩
  · have h3 : (checkP p).2.2 = 0 := by
      rcases Int.lt_trichotomy (checkP p).2.2 0 with e | e | e
      · exact absurd (.inl (by omega)) h1
      · exact e
      · exact absurd (.inl (by omega)) h1
    have f1 : 1 ≤ fuel := by
      rcases Int.lt_or_le fuel 1 with e | e
      · exact absurd (.inr (.inl e)) h1
      · exact e
    have f2 : fuel ≤ 100000 := by
      rcases Int.lt_or_le 100000 fuel with e | e
      · exact absurd (.inr (.inr e)) h1
      · exact e
    have q1 : decide (fuel < 1) = false := decide_eq_false (by omega)
    have q2 : decide (100000 < fuel) = false := decide_eq_false (by omega)
    have HQ := Lib.hid (And.intro f1 f2)
    clear h1
    by_cases hn : (newF p 0 args s).2 = true
    · obtain rfl := hcan ⟨h3, f1, f2, hn⟩
      have HP := Lib.hid (And.intro hT (And.intro h hz))
      have HNF := Lib.hid (rfl : (newF p 0 args s).1 = (newF p 0 args s).1)
      generalize hNR : newF p 0 args s = NR at *
      obtain ⟨F, nb⟩ := NR
      simp only at hn HNB
      subst hn
      show Calls _ _ _ _ fun e w' => e = .returned (tellV (tellT fuel (runT p fuel.toNat [(F, 0)]))) ∧ Below w.heap.size w w'
      generalize hTT : tellT fuel (runT p fuel.toNat [(F, 0)]) = TT
      have HTT := Lib.hid hTT
      clear hTT
      obtain ⟨⟨ot, oa, ob⟩, n, er⟩ := TT
      generalize checkP p = R at *
      obtain ⟨r1, r2, r3⟩ := R
      simp only at h3 CK
      subst h3
      clear hno hcan hEV hT h hz ha hl CX f1 f2 HNF hNR
      generalize hpl : p.length = pl at *
      generalize hal : args.length = al at *
      go_enter Tryz.func6, Tryz.ntmps6
      go_upto_region 7 with (first
      | (guard_target = wpList _ _ _ (Oper.mk _ (Op.alloc 32) _ _ _ none :: _) _ _; refine wpList_alloc_arr rfl 32 rfl oz0 (by kernel_rfl) ?_)
      | (go_at_call 10; (with_reducible refine (CK _ ((Below.refl _ _).alloc (Nat.le_refl _) _)).out.mono ?_); rintro _ u ⟨rfl, hb1⟩; have g8 := (Held.new w 32 oz0).below hb1; have hb2 := below_laid hb1)
      | (guard_target = wpList _ _ _ (Oper.mk _ (Op.store 32 (.tmp 8) (.tmp 33)) _ _ _ none :: _) _ _; refine wpList_store_row rfl 32 _ _ rfl w.heap.size oz0 rfl rfl _ _ g8 (by kernel_rfl) rfl (by simp [Value.oneCell']) ?_)
      | (go_at_call 11; (with_reducible refine (NW _ hb2).out.mono ?_); rintro _ u2 ⟨v', rfl, ho, hbu2⟩; obtain ⟨cs', rfl, hfc⟩ := ho.cells; have g8b := g8.below hbu2; have hb3 := Below.step hb2 hbu2)
      | (guard_target = wpList _ _ _ (Oper.mk _ (Op.alloc 45) _ _ _ none :: _) _ _; refine wpList_alloc_arr rfl 45 rfl fz0 (by kernel_rfl) ?_)
      | (guard_target = wpList _ _ _ (Oper.mk _ (Op.store 45 (.tmp 14) (.tmp 39)) _ _ _ none :: _) _ _; refine wpList_store_row rfl 45 _ _ rfl u2.heap.size cs' rfl rfl _ _ (Held.new u2 45 fz0) (fb_info hfc) (by rw [hfc.size]; rfl) hfc.one ?_))
      have hbF : Below u2.heap.size u2 ((u2.alloc (.cells fz0 45)).setRow u2.heap.size cs') := below_row ((Below.refl _ _).alloc (Nat.le_refl _) _) (Nat.le_refl _) _
      have hF := (Held.new u2 45 fz0).rowSelf cs'
      have ho3 := (ho.mono (Nat.zero_le _)).below hbF
      have g8c := g8b.below hbF
      have hb4 := Below.step hb3 hbF
      generalize (u2.alloc (.cells fz0 45)).setRow u2.heap.size cs' = W3 at *
      have hk : Held (W3.alloc (.cells #[.slice none 0 0, .int .i64 0, .int .i64 0, .slice none 0 0] 50)) W3.heap.size 50 _ := Held.new W3 _ _
      have hbR : Below W3.heap.size W3 ((W3.alloc (.cells #[.slice none 0 0, .int .i64 0, .int .i64 0, .slice none 0 0] 50)).setRow W3.heap.size #[.slice A pl c, .int .i64 fuel, .int .i64 0, .slice none 0 0]) := below_row ((Below.refl _ _).alloc (Nat.le_refl _) _) (Nat.le_refl _) _
      have hR4 : Held ((W3.alloc (.cells #[.slice none 0 0, .int .i64 0, .int .i64 0, .slice none 0 0] 50)).setRow W3.heap.size #[.slice A pl c, .int .i64 fuel, .int .i64 0, .slice none 0 0]) W3.heap.size 50 #[.slice A pl c, .int .i64 fuel, .int .i64 0, .slice none 0 0] := hk.rowSelf _
      clear hb1 g8 hb2 hbu2 ho g8b hb3 CK NW
      go_upto_region 8 with (first
        | (guard_target = wpList _ _ _ (Oper.mk _ (Op.alloc 50) _ _ _ none :: _) _ _; refine wpList_alloc_arr rfl 50 rfl #[.slice none 0 0, .int .i64 0, .int .i64 0, .slice none 0 0] (by kernel_rfl) ?_)
        | (guard_target = wpList _ _ _ (Oper.mk _ (Op.store 50 (.tmp 16) (.tmp 46)) _ _ _ none :: _) _ _; refine wpList_store_row rfl 50 _ _ rfl W3.heap.size #[.slice A pl c, .int .i64 fuel, .int .i64 0, .slice none 0 0] rfl rfl _ _ hk (by kernel_rfl) rfl (by simp [Value.oneCell']) ?_))
      generalize (W3.alloc (.cells #[.slice none 0 0, .int .i64 0, .int .i64 0, .slice none 0 0] 50)).setRow W3.heap.size #[.slice A pl c, .int .i64 fuel, .int .i64 0, .slice none 0 0] = W4 at *
      have hRS : RunS W4 W3.heap.size W3.heap.size (.slice A pl c) fuel 0 (.slice none 0 0) [] := ⟨hR4, Nat.le_refl _, World.ownsRow_nil _ _ _ _, fun x hx => by simp at hx⟩
      have hTK : TskOk W4 ⟨cs', F, 0⟩ := ⟨ho3.below hbR, hfc, HNB.out⟩
      have SR := Lib.hid (sresult_any W4 HCX.out (Below.step hb4 hbR) hb4.size hRS hTK hbR.size HQ.out.1 HQ.out.2)
      have hF4 := hF.below hbR
      have g8d := g8c.below hbR
      have hb5 := Below.step hb4 hbR
      have hlt8 := g8c.lt
      have hbs := hb4.size
      clear hRS hTK hR4 hk hbR hF g8c ho3 HCX HP HQ HNB hbF q1 q2
      rw [HTT.out] at SR
      go_wp2_with (first
        | (guard_target = wpList _ _ _ (Oper.mk _ (Op.load 45 (.tmp 14)) _ _ _ none :: _) _ _; refine wpList_load_row rfl 45 _ rfl u2.heap.size rfl 45 cs' (0, 0) _ hF4 Tryz.underlying45 rfl (fb_info hfc) ?_)
        | (go_at_call 12; (with_reducible refine SR.out.mono ?_); rintro _ u5 ⟨rfl, hb6⟩; have g8e : Held u5 w.heap.size 32 oz0 := (hb6.block _ hlt8).trans g8d)
        | (guard_target = wpList _ _ _ (Oper.mk _ (Op.store 32 (.tmp 8) (.tmp 49)) _ _ _ none :: _) _ _; refine wpList_store_row rfl 32 _ _ rfl w.heap.size #[.int .i64 ot, .int .i64 oa, .int .i64 ob] rfl rfl _ _ g8e (by kernel_rfl) rfl (by simp [Value.oneCell']) ?_))
      exact bodyPost_ret (v := tellV ((ot, oa, ob), n, er)) (results_ctt rfl _ _ rfl rfl rfl (load_out (g8e.rowSelf _) rfl)) rfl ⟨rfl, below_row (hb5.trans (hb6.mono hbs)) (Nat.le_refl _) _⟩
    · obtain rfl : EV = (zeroO, 0, 1) := hno fun hc => hn hc.2.2.2
      have hn2 : (newF p 0 args s).2 = false := by simpa using hn
      generalize hNR : newF p 0 args s = NR at *
      obtain ⟨F, nb⟩ := NR
      simp only at hn2
      subst hn2
      generalize checkP p = R at *
      obtain ⟨r1, r2, r3⟩ := R
      simp only at h3 CK
      subst h3
      clear hno hcan hEV hT h hz ha hl CX f1 f2 hNR hn HNB HCX HQ
      generalize hpl : p.length = pl at *
      generalize hal : args.length = al at *
      go_enter Tryz.func6, Tryz.ntmps6
      go_wp2_with (first
        | (guard_target = wpList _ _ _ (Oper.mk _ (Op.alloc 32) _ _ _ none :: _) _ _; refine wpList_alloc_arr rfl 32 rfl oz0 (by kernel_rfl) ?_)
        | (go_at_call 10; (with_reducible refine (CK _ ((Below.refl _ _).alloc (Nat.le_refl _) _)).out.mono ?_); rintro _ u ⟨rfl, hb1⟩; have g8 := (Held.new w 32 oz0).below hb1; have hb2 := below_laid hb1)
        | (go_at_call 11; (with_reducible refine (NW _ hb2).out.mono ?_); rintro _ u2 ⟨v', rfl, ho, hbu2⟩; obtain ⟨cs', rfl, hfc⟩ := ho.cells; have g8b := g8.below hbu2; have hb3 := Below.step hb2 hbu2)
        | (guard_target = wpList _ _ _ (Oper.mk _ (Op.alloc 45) _ _ _ none :: _) _ _; refine wpList_alloc_arr rfl 45 rfl fz0 (by kernel_rfl) ?_)
        | (guard_target = wpList _ _ _ (Oper.mk _ (Op.store 45 (.tmp 14) (.tmp 39)) _ _ _ none :: _) _ _; refine wpList_store_row rfl 45 _ _ rfl u2.heap.size cs' rfl rfl _ _ (Held.new u2 45 fz0) (fb_info hfc) (by rw [hfc.size]; rfl) hfc.one ?_; have hbF : Below u2.heap.size u2 ((u2.alloc (.cells fz0 45)).setRow u2.heap.size cs') := below_row ((Below.refl _ _).alloc (Nat.le_refl _) _) (Nat.le_refl _) _; have g8c := g8b.below hbF)
        | (guard_target = wpList _ _ _ (Oper.mk _ (Op.store 32 (.tmp 8) (.tmp 43)) _ _ _ none :: _) _ _; refine wpList_store_row rfl 32 _ _ rfl w.heap.size oz0 rfl rfl _ _ g8c (by kernel_rfl) rfl (by simp [Value.oneCell']) ?_))
      exact bodyPost_ret (v := tellV (zeroO, 0, 1)) (results_ctt rfl _ _ rfl rfl rfl (load_out (g8c.rowSelf oz0) rfl)) rfl ⟨rfl, below_row (Below.step hb3 hbF) (Nat.le_refl _) _⟩
end Go.Proofs.YtoeinpiekfmbgaaGreatDoor

/- Layer 10: the calls whose answers the document fixes. -/
namespace Go.Proofs.YtoeinpiekfmbgaaGreatDoor
set_option linter.unusedVariables false
set_option linter.unusedSimpArgs false
open Gm Go.RowKit Go.ChangeShapes Go.WideShapes Go.ChangeAt Go.Sort

set_option maxHeartbeats 2000000 in
set_option maxRecDepth 100000 in
theorem of10_any (l : List UInt8) (w : World) (hl : l.length ≤ 1000000) :
    Calls Tryz.prog 9 #[.string ⟨l.toArray⟩] w fun e w' => ∃ A c, e = .returned (.slice A (parseP l).1.length c) ∧ ProgAt w' w'.heap.size A (parseP l).1 ∧ Below w.heap.size w w' := by
  have PA := Lib.hid (pparse_any l w hl)
  unfold ParQ at PA
  go_enter Tryz.func9, Tryz.ntmps9
  go_wp2_with (go_at_call 16; (with_reducible refine PA.out.mono ?_); rintro _ u ⟨A, c, rfl, hp, hb⟩)
  go_ret
  exact ⟨A, c, rfl, hp, hb⟩
/-- What Eval answers of a program, from world U on, where it lies. -/
structure Ev (p : List Fun) (A : Option Addr) (n c : Nat) (U : World) : Prop where
  ev : ∀ W args m s fuel R A2 c2, Below U.heap.size U W → VAt W W.heap.size A2 args → args.length = m → m ≤ 1000 → evalP p args s fuel = R → Calls Tryz.prog 6 #[.slice A n c, .slice A2 m c2, .int .i64 s, .int .i64 fuel] W fun e w' => e = .returned (tellV R) ∧ Below W.heap.size W w'
theorem ev_of {p : List Fun} {A : Option Addr} {c : Nat} {U : World} (hT : TabB U U.heap.size) (hp : ProgAt U U.heap.size A p) (hz : SizedP p) : Ev p A p.length c U := by
  refine ⟨fun W args m s fuel R A2 c2 hw ha hm hl e => ?_⟩
  subst hm
  rw [← e]
  exact seval_any c c2 s fuel W ((hT.below hw (Nat.le_refl _)).more hw.size) ((hp.below hw (Nat.le_refl _)).more hw.size) hz ha hl
theorem ev_none {W : World} : VAt W W.heap.size none [] := VAt.nil _ _ _
theorem vat10 (U : World) (a b : Int) : VAt (U.alloc (.cells #[.int .i64 a, .int .i64 b] 30)) (U.alloc (.cells #[.int .i64 a, .int .i64 b] 30)).heap.size (some ⟨U.heap.size, 0, none⟩) [(a, b)] := fun _ => by
  have h := Held.new U 30 #[.int .i64 a, .int .i64 b]
  refine ⟨_, _, rfl, h.lt, fun j hj => ?_⟩
  obtain rfl : j = 0 := by simpa using hj
  exact ⟨h.cell 0, h.cell 1⟩
theorem out_kept {w u : World} {cs : Array Value} (hb : Below w.heap.size w u) : Held ((u.alloc (.cells oz0 32)).setRow u.heap.size cs) u.heap.size 32 cs ∧ Below w.heap.size w ((u.alloc (.cells oz0 32)).setRow u.heap.size cs) ∧ Below u.heap.size u ((u.alloc (.cells oz0 32)).setRow u.heap.size cs) :=
  ⟨(Held.new u 32 oz0).rowSelf cs, below_row (hb.alloc hb.size _) hb.size _, below_row ((Below.refl _ _).alloc (Nat.le_refl _) _) (Nat.le_refl _) _⟩
set_option maxHeartbeats 8000000 in
set_option maxRecDepth 100000 in
theorem fixed10 (w : World) (hT : TabB w w.heap.size) : Calls Tryz.prog 5 #[] w fun e w' => e = .returned (.bool true) ∧ Below w.heap.size w w' := by
  have OA := fun W => Lib.hid (of10_any ta10 W (by decide))
  have OB := fun W => Lib.hid (of10_any tb10 W (by decide))
  have hga : (⟨ta10.toArray⟩ : ByteArray) = ⟨#[102, 117, 110, 99, 32, 49, 32, 49, 32, 50, 10, 108, 111, 97, 100, 32, 48, 10, 115, 112, 97, 119, 110, 32, 49, 32, 48, 10, 108, 111, 97, 100, 32, 48, 10, 115, 112, 97, 119, 110, 32, 49, 32, 49, 10, 106, 111, 105, 110, 32, 48, 10, 106, 111, 105, 110, 32, 49, 10, 115, 117, 98, 10, 114, 101, 116, 10, 102, 117, 110, 99, 32, 49, 32, 49, 32, 48, 10, 108, 111, 97, 100, 32, 48, 10, 108, 111, 97, 100, 32, 48, 10, 109, 117, 108, 10, 114, 101, 116, 10]⟩ := by apply ByteArray.ext; rfl
  have hgb : (⟨tb10.toArray⟩ : ByteArray) = ⟨#[102, 117, 110, 99, 32, 48, 32, 48, 32, 50, 10, 115, 112, 97, 119, 110, 32, 49, 32, 49, 10, 115, 112, 97, 119, 110, 32, 49, 32, 48, 10, 112, 117, 115, 104, 32, 49, 32, 48, 10, 114, 101, 116, 10, 102, 117, 110, 99, 32, 48, 32, 48, 32, 48, 10, 116, 114, 97, 112, 32, 50, 48, 10]⟩ := by apply ByteArray.ext; rfl
  rw [hga, pa10_of] at OA
  rw [hgb, pb10_of] at OB
  have OA1 : ∀ W, Hid (Calls Tryz.prog 9 #[.string ⟨#[102, 117, 110, 99, 32, 49, 32, 49, 32, 50, 10, 108, 111, 97, 100, 32, 48, 10, 115, 112, 97, 119, 110, 32, 49, 32, 48, 10, 108, 111, 97, 100, 32, 48, 10, 115, 112, 97, 119, 110, 32, 49, 32, 49, 10, 106, 111, 105, 110, 32, 48, 10, 106, 111, 105, 110, 32, 49, 10, 115, 117, 98, 10, 114, 101, 116, 10, 102, 117, 110, 99, 32, 49, 32, 49, 32, 48, 10, 108, 111, 97, 100, 32, 48, 10, 108, 111, 97, 100, 32, 48, 10, 109, 117, 108, 10, 114, 101, 116, 10]⟩] W fun e w' => ∃ A c, e = .returned (.slice A 2 c) ∧ ProgAt w' w'.heap.size A pa10 ∧ Below W.heap.size W w') := OA
  have OB1 : ∀ W, Hid (Calls Tryz.prog 9 #[.string ⟨#[102, 117, 110, 99, 32, 48, 32, 48, 32, 50, 10, 115, 112, 97, 119, 110, 32, 49, 32, 49, 10, 115, 112, 97, 119, 110, 32, 49, 32, 48, 10, 112, 117, 115, 104, 32, 49, 32, 48, 10, 114, 101, 116, 10, 102, 117, 110, 99, 32, 48, 32, 48, 32, 48, 10, 116, 114, 97, 112, 32, 50, 48, 10]⟩] W fun e w' => ∃ A c, e = .returned (.slice A 2 c) ∧ ProgAt w' w'.heap.size A pb10 ∧ Below W.heap.size W w') := OB
  clear OA OB hga hgb
  have hza : SizedP pa10 := by rw [← pa10_of]; exact parse_sized _
  have hzb : SizedP pb10 := by rw [← pb10_of]; exact parse_sized _
  go_enter Tryz.func5, Tryz.ntmps5
  go_upto_region 2 with (first
    | (go_at_call 9; (with_reducible refine (OA1 _).out.mono ?_); rintro _ U ⟨A, c, rfl, hp, hb⟩))
  have EA := Lib.hid (show Ev pa10 A 2 c U from ev_of (c := c) ((hT.below hb (Nat.le_refl _)).more hb.size) hp hza)
  have HW := Lib.hid hb
  have HTU := Lib.hid ((hT.below hb (Nat.le_refl _)).more hb.size)
  clear hT hp hza hb OA1
  have hv2 := vat10 U 3 1
  have hw2 : Below U.heap.size U (U.alloc (.cells #[.int .i64 3, .int .i64 1] 30)) := (Below.refl U.heap.size U).alloc (Below.size (Below.refl U.heap.size U)) _
  go_upto_region 3 with (first
    | (go_at_call 6; (with_reducible refine (EA.out.ev _ _ 1 _ _ _ _ _ hw2 hv2 rfl (by decide) ev10a).mono ?_); rintro _ u2 ⟨rfl, hb2⟩; have hz2 := Held.new u2 32 oz0)
    | (guard_target = wpList _ _ _ (Oper.mk _ (Op.alloc 32) _ _ _ none :: _) _ _; refine wpList_alloc_arr rfl 32 rfl oz0 (by kernel_rfl) ?_)
    | (guard_target = wpList _ _ _ (Oper.mk _ (Op.store 32 (.tmp 2) (.tmp 20)) _ _ _ none :: _) _ _; refine wpList_store_row rfl 32 _ _ rfl u2.heap.size #[.int .i64 0, .int .i64 0, .int .i64 0] rfl rfl _ _ hz2 (by kernel_rfl) rfl (by simp [Value.oneCell']) ?_))
  obtain ⟨hO2, _, hn2⟩ := out_kept (cs := #[.int .i64 0, .int .i64 0, .int .i64 0]) hb2
  have hp2 := Below.step (Below.step hw2 hb2) hn2
  generalize (u2.alloc (.cells oz0 32)).setRow u2.heap.size #[.int .i64 0, .int .i64 0, .int .i64 0] = W2 at *
  clear hv2 hw2 hb2 hz2 hn2
  have hv3 := vat10 W2 3 0
  have hw3 : Below U.heap.size U (W2.alloc (.cells #[.int .i64 3, .int .i64 0] 30)) := hp2.alloc (Below.size hp2) _
  go_upto_region 4 with (first
    | (go_at_call 6; (with_reducible refine (EA.out.ev _ _ 1 _ _ _ _ _ hw3 hv3 rfl (by decide) ev10b).mono ?_); rintro _ u3 ⟨rfl, hb3⟩; have hz3 := Held.new u3 32 oz0)
    | (guard_target = wpList _ _ _ (Oper.mk _ (Op.alloc 32) _ _ _ none :: _) _ _; refine wpList_alloc_arr rfl 32 rfl oz0 (by kernel_rfl) ?_)
    | (guard_target = wpList _ _ _ (Oper.mk _ (Op.store 32 (.tmp 5) (.tmp 28)) _ _ _ none :: _) _ _; refine wpList_store_row rfl 32 _ _ rfl u3.heap.size #[.int .i64 0, .int .i64 0, .int .i64 0] rfl rfl _ _ hz3 (by kernel_rfl) rfl (by simp [Value.oneCell']) ?_))
  obtain ⟨hO3, _, hn3⟩ := out_kept (cs := #[.int .i64 0, .int .i64 0, .int .i64 0]) hb3
  have hp3 := Below.step (Below.step hw3 hb3) hn3
  have hO2 := hO2.below (Below.step (Below.step ((Below.refl _ _).alloc (Nat.le_refl _) _) hb3) hn3)
  generalize (u3.alloc (.cells oz0 32)).setRow u3.heap.size #[.int .i64 0, .int .i64 0, .int .i64 0] = W3 at *
  clear hv3 hw3 hb3 hz3 hn3 hO3
  go_upto_region 5 with (first
    | (go_at_call 6; (with_reducible refine (EA.out.ev _ _ 0 _ _ _ _ _ hp3 ev_none rfl (by decide) ev10c).mono ?_); rintro _ u4 ⟨rfl, hb4⟩; have hz4 := Held.new u4 32 oz0)
    | (guard_target = wpList _ _ _ (Oper.mk _ (Op.alloc 32) _ _ _ none :: _) _ _; refine wpList_alloc_arr rfl 32 rfl oz0 (by kernel_rfl) ?_)
    | (guard_target = wpList _ _ _ (Oper.mk _ (Op.store 32 (.tmp 8) (.tmp 34)) _ _ _ none :: _) _ _; refine wpList_store_row rfl 32 _ _ rfl u4.heap.size #[.int .i64 0, .int .i64 0, .int .i64 0] rfl rfl _ _ hz4 (by kernel_rfl) rfl (by simp [Value.oneCell']) ?_))
  obtain ⟨hO4, _, hn4⟩ := out_kept (cs := #[.int .i64 0, .int .i64 0, .int .i64 0]) hb4
  have hp4 := Below.step (Below.step hp3 hb4) hn4
  have hO2 := hO2.below (Below.step hb4 hn4)
  generalize (u4.alloc (.cells oz0 32)).setRow u4.heap.size #[.int .i64 0, .int .i64 0, .int .i64 0] = W4 at *
  clear hb4 hz4 hn4 hO4
  go_upto_region 6 with (first
    | (go_at_call 9; (with_reducible refine (OB1 _).out.mono ?_); rintro _ U2 ⟨A3, c3, rfl, hpB, hbB⟩; have hpU := Below.step hp4 hbB; have EB := Lib.hid (show Ev pb10 A3 2 c3 U2 from ev_of (c := c3) ((HTU.out.below hpU (Nat.le_refl _)).more hpU.size) hpB hzb))
    | (go_at_call 6; (with_reducible refine (EB.out.ev _ _ 0 _ _ _ _ _ (Below.refl U2.heap.size U2) ev_none rfl (by decide) ev10d).mono ?_); rintro _ u5 ⟨rfl, hb5⟩; have hz5 := Held.new u5 32 oz0)
    | (guard_target = wpList _ _ _ (Oper.mk _ (Op.alloc 32) _ _ _ none :: _) _ _; refine wpList_alloc_arr rfl 32 rfl oz0 (by kernel_rfl) ?_)
    | (guard_target = wpList _ _ _ (Oper.mk _ (Op.store 32 (.tmp 11) (.tmp 40)) _ _ _ none :: _) _ _; refine wpList_store_row rfl 32 _ _ rfl u5.heap.size #[.int .i64 20, .int .i64 0, .int .i64 0] rfl rfl _ _ hz5 (by kernel_rfl) rfl (by simp [Value.oneCell']) ?_))
  obtain ⟨hO5, _, hn5⟩ := out_kept (cs := #[.int .i64 20, .int .i64 0, .int .i64 0]) hb5
  have hp5 := Below.step (Below.step hpU hb5) hn5
  have hO2 := hO2.below (Below.step (Below.step hbB hb5) hn5)
  generalize (u5.alloc (.cells oz0 32)).setRow u5.heap.size #[.int .i64 20, .int .i64 0, .int .i64 0] = W5 at *
  have a0 := hO2.cell 0
  have a1 := hO2.cell 1
  have a2 := hO2.cell 2
  have b0 := hO5.cell 0
  have b1 := hO5.cell 1
  have b2 := hO5.cell 2
  simp at a0 a1 a2 b0 b1 b2
  have HF := Lib.hid (HW.out.trans (hp5.mono HW.out.size))
  clear hb5 hz5 hn5 hO5 hO2 hp5 hpU hpB hbB hp4 hp3 hp2 EA EB HW HTU OB1 hzb
  go_wp2_with fail
  go_ret
  exact ⟨rfl, HF.out⟩
end Go.Proofs.YtoeinpiekfmbgaaGreatDoor

/- Layer 9: arguments that are frames, lists of values, opened. -/
namespace Go.Proofs.YtoeinpiekfmbgaaGreatDoor
set_option linter.unusedVariables false
set_option linter.unusedSimpArgs false
open Gm Go.RowKit Go.ChangeShapes Go.WideShapes Go.ChangeAt Go.Deep Go.Joins

section
variable {H : Type} {enc : TypeId × Value → H} {W : World} {base : Nat} {sp : Nat → Bool} {hd : Bool} {fuel : Nat}
theorem ci1 : Tryz.prog.cellsOf 3 = 1 := by kernel_rfl
theorem ciV : Tryz.prog.cellsOf 30 = 2 := by kernel_rfl
theorem ciVs : Tryz.prog.cellsOf 24 = 1 := by kernel_rfl
theorem open_i {c : Value} {y : DataW H × List MemPlace} (g : DataW.trod enc Tryz.prog W base sp hd fuel 3 [c] = some y) : ∃ n : Int, c = .int .i64 n := by
  obtain ⟨n0, e0, _, _⟩ := DataW.trod_int Tryz.underlying3 g
  simp at e0
  exact ⟨n0, e0⟩
theorem open_val2 {a b : Value} {y : DataW H × List MemPlace} (g : DataW.trod enc Tryz.prog W base sp hd fuel 30 [a, b] = some y) : ∃ n m : Int, a = .int .i64 n ∧ b = .int .i64 m := by
  obtain ⟨y0, y1, k, _, _, g0, g1⟩ := trod_struct2 Tryz.underlying30 g
  simp [ci1] at g0 g1
  obtain ⟨n, rfl⟩ := open_i g0
  obtain ⟨m, rfl⟩ := open_i g1
  exact ⟨n, m, rfl, rfl⟩
instance : Inhabited Slt := ⟨slt0⟩
set_option maxRecDepth 100000 in
theorem open_vals {cs : List Value} {x : DataW H × List MemPlace} (h : DataW.trod enc Tryz.prog W base sp hd fuel 24 cs = some x) : ∃ A c l, cs = [.slice A l.length c] ∧ VAt W W.heap.size A l ∧ l.length ≤ maxLen := by
  rcases open_slice Tryz.underlying24 h with ⟨rfl, _⟩ | ⟨a, len, cap, m, n, D, Pl, rfl, _, hl, hm, hmm, rfl, hx⟩
  · exact ⟨none, 0, [], rfl, VAt.nil _ _ _, by simp⟩
  · have hlm : len ≤ m := by rw [hmm]; split <;> omega
    have each : ∀ i, i < len → ∃ q : V, W.cell? (a.add (i * 2)) = some (.int .i64 q.1) ∧ W.cell? (a.add (i * 2 + 1)) = some (.int .i64 q.2) := by
      intro i hi
      obtain ⟨cs', h1, h2⟩ := hx i (by omega)
      rw [ciV] at h1
      obtain ⟨_, hlen, hcell⟩ := World.cells?_some h1
      match cs', hlen with
      | [v0, v1], _ =>
        obtain ⟨n0, n1, rfl, rfl⟩ := open_val2 h2
        have c0 := hcell 0 (by omega)
        have c1 := hcell 1 (by omega)
        rw [add_add] at c0 c1
        exact ⟨(n0, n1), by simpa using c0, by simpa using c1⟩
    obtain ⟨q, hq⟩ := choose_lt each
    refine ⟨some a, cap, (List.range len).map q, by simp, fun h0 => ?_, by simp; omega⟩
    have hlen : 0 < len := by simpa using h0
    obtain ⟨b, off, spot⟩ := a
    have hspot : spot = none := by simpa [Addr.add] using World.cell?_spot (hq 0 hlen).1
    subst hspot
    refine ⟨b, off, rfl, block_lt_of_cell (a := Addr.add ⟨b, off, none⟩ (0 * 2)) (hq 0 hlen).1, fun j hj => ?_⟩
    have hj' : j < len := by simpa using hj
    obtain ⟨c0, c1⟩ := hq j hj'
    rw [addr_add] at c0 c1
    simp only [List.getElem_map, List.getElem_range]
    exact ⟨c0, c1⟩
end
end Go.Proofs.YtoeinpiekfmbgaaGreatDoor

/- Layer 10: arguments that are inputs, opened: a program, its arguments, a seed. -/
namespace Go.Proofs.YtoeinpiekfmbgaaGreatDoor
set_option linter.unusedVariables false
set_option linter.unusedSimpArgs false
open Gm Go.RowKit Go.ChangeShapes Go.WideShapes Go.ChangeAt Go.Deep Go.Joins

set_option maxRecDepth 100000 in
theorem open_progT {H : Type} {enc : TypeId × Value → H} {W : World} {fuel : Nat} {cs : List Value} {x : DataW H × List MemPlace}
    (hf : DataW.trod enc Tryz.prog W 0 (fun _ => true) true fuel 23 cs = some x) : ∃ A c ps, cs = [.slice A ps.length c] ∧ ProgAt W W.heap.size A ps ∧ SizedP ps := by
  rcases open_slice Tryz.underlying23 hf with ⟨hcs, _⟩ | ⟨a, len', cap', m, n, D, Pl, hcs, _, hl, hm, hmm, _, hx⟩
  · exact ⟨none, 0, [], by simpa using hcs, ProgAt.nil _ _ _, by simp, by intro x hx; simp at hx⟩
  · simp only [if_true] at hmm
    subst hcs
    generalize len' = len at *
    generalize cap' = cap at *
    have ce : Tryz.prog.cellsOf 57 = 4 := by kernel_rfl
    have each : ∀ i, i < len → ∃ f : Fun, (W.cell? (a.add (i * 4)) = some (.int .i64 f.ar) ∧ W.cell? (a.add (i * 4 + 1)) = some (.int .i64 f.lo) ∧ W.cell? (a.add (i * 4 + 2)) = some (.int .i64 f.sl) ∧
        ∃ B c, W.cell? (a.add (i * 4 + 3)) = some (.slice B f.code.length c) ∧ CodeAt W W.heap.size B f.code) ∧ f.code.length ≤ maxLen := by
      intro i hi
      obtain ⟨cs', h1, h2⟩ := hx i (by omega)
      rw [ce] at h1
      obtain ⟨_, hlen, hcell⟩ := World.cells?_some h1
      obtain ⟨y0, y1, y2, y3, k, _, _, g0, g1, g2, g3⟩ := trod_struct4 Tryz.underlying57 h2
      match cs', hlen with
      | [v0, v1, v2, v3], _ =>
        have ci : Tryz.prog.cellsOf 3 = 1 := by kernel_rfl
        have cc : Tryz.prog.cellsOf 55 = 1 := by kernel_rfl
        simp [ci, cc] at g0 g1 g2 g3
        obtain ⟨n0, e0, _, _⟩ := DataW.trod_int Tryz.underlying3 g0
        obtain ⟨n1, e1, _, _⟩ := DataW.trod_int Tryz.underlying3 g1
        obtain ⟨n2, e2, _, _⟩ := DataW.trod_int Tryz.underlying3 g2
        obtain ⟨B, c, l, e3, hc, hz⟩ := open_code g3
        simp at e0 e1 e2 e3
        subst e0 e1 e2 e3
        have c0 := hcell 0 (by omega)
        have c1 := hcell 1 (by omega)
        have c2 := hcell 2 (by omega)
        have c3 := hcell 3 (by omega)
        rw [add_add] at c0 c1 c2 c3
        exact ⟨⟨n0, n1, n2, l⟩, ⟨by simpa using c0, by simpa using c1, by simpa using c2, B, c, by simpa using c3, hc⟩, hz⟩
    obtain ⟨q, hq⟩ := choose_lt each
    refine ⟨some a, cap, (List.range len).map q, by simp, fun h0 => ?_, by simp; omega, fun f hf => ?_⟩
    · have hlen : 0 < len := by simpa using h0
      obtain ⟨b, off, spot⟩ := a
      have hspot : spot = none := by simpa [Addr.add] using World.cell?_spot (hq 0 hlen).1.1
      subst hspot
      refine ⟨b, off, rfl, block_lt_of_cell (a := Addr.add ⟨b, off, none⟩ (0 * 4)) (hq 0 hlen).1.1, fun j hj => ?_⟩
      have hj' : j < len := by simpa using hj
      obtain ⟨⟨c0, c1, c2, B, c, c3, hc⟩, _⟩ := hq j hj'
      rw [addr_add] at c0 c1 c2 c3
      simp only [List.getElem_map, List.getElem_range]
      exact ⟨c0, c1, c2, B, c, c3, hc⟩
    · obtain ⟨i, hi, rfl⟩ := List.mem_map.1 hf
      exact (hq i (by simpa using hi)).2

theorem ciP : Tryz.prog.cellsOf 23 = 1 := by kernel_rfl
theorem ciIn : Tryz.prog.cellsOf 26 = 3 := by kernel_rfl
theorem array3 {cs : Array Value} (h : cs.size = 3) : ∃ a b c, cs = #[a, b, c] := by
  obtain ⟨l⟩ := cs
  match l, h with
  | [a, b, c], _ => exact ⟨a, b, c, rfl⟩
set_option maxRecDepth 100000 in
/-- An input, opened. -/
theorem open_input {H : Type} {enc : TypeId × Value → H} {W : World} {base : Nat} {v : Value} {d : DataW H} {p : List MemPlace}
    (k : Value.okWide Tryz.prog W .any base 26 v) (h : DataW.Trod enc Tryz.prog W 0 (fun _ => true) true 26 v d p) :
    ∃ A c P A2 c2 args s, v = .agg #[.slice A (List.length P) c, .slice A2 (List.length args) c2, .int .i64 s] ∧ ProgAt W W.heap.size A P ∧ SizedP P ∧ VAt W W.heap.size A2 args := by
  obtain ⟨cs, rfl, hsz⟩ := okWide_struct Tryz.underlying26 k
  obtain ⟨c0, c1, c2, rfl⟩ := array3 (hsz.trans ciIn)
  obtain ⟨fuel, hf⟩ := h
  obtain ⟨xs, n, _, _, hl, hlen, hg⟩ := DataW.trod_struct Tryz.underlying26 hf
  have hx : ∀ i, i < 3 → ∃ y, xs[i]? = some y := fun i hi => ⟨xs[i]'(by rw [hlen]; exact hi), List.getElem?_eq_getElem _⟩
  simp only [Value.cells] at hg
  clear hf hl hsz k
  obtain ⟨y0, e0⟩ := hx 0 (by omega)
  have g0 := (hg 0 _ rfl).trans e0
  simp [ci1, ciP, ciVs] at g0
  obtain ⟨y1, e1⟩ := hx 1 (by omega)
  have g1 := (hg 1 _ rfl).trans e1
  simp [ci1, ciP, ciVs] at g1
  obtain ⟨y2, e2⟩ := hx 2 (by omega)
  have g2 := (hg 2 _ rfl).trans e2
  simp [ci1, ciP, ciVs] at g2
  obtain ⟨A, c, P, h0, hP, hz⟩ := open_progT g0
  obtain ⟨A2, cc, l, h1, hV, _⟩ := open_vals g1
  obtain ⟨s, rfl⟩ := open_i g2
  simp only [List.cons.injEq, and_true] at h0 h1
  subst h0 h1
  exact ⟨A, c, P, A2, cc, l, s, rfl, hP, hz, hV⟩
end Go.Proofs.YtoeinpiekfmbgaaGreatDoor

/- Arguments that are programs, opened, with their reach. -/
namespace Go.Proofs.YtoeinpiekfmbgaaGreatDoor
set_option linter.unusedVariables false
set_option linter.unusedSimpArgs false
open Go.RowKit Go.ChangeShapes Go.WideShapes Go.ChangeAt Go.Deep Go.Joins

end Go.Proofs.YtoeinpiekfmbgaaGreatDoor

/- Layer 10: has an input little? -/
namespace Go.Proofs.YtoeinpiekfmbgaaGreatDoor
set_option linter.unusedVariables false
set_option linter.unusedSimpArgs false
open Gm Go.RowKit Go.ChangeShapes Go.WideShapes Go.ChangeAt Go.Sort

abbrev inpA (A : Option Addr) (np c : Nat) (A2 : Option Addr) (na c2 : Nat) (s : Int) : Array Value := #[.slice A np c, .slice A2 na c2, .int .i64 s]
set_option maxHeartbeats 2000000 in
set_option maxRecDepth 100000 in
theorem small10 {A A2 : Option Addr} {p : List Fun} (c na c2 : Nat) (s : Int) (w : World) (h : ProgAt w w.heap.size A p) :
    Calls Tryz.prog 4 #[.agg (inpA A p.length c A2 na c2 s)] w fun e w' => e = .returned (.bool (smallP p 300 && decide (na ≤ 40))) ∧ Below w.heap.size w w' := by
  have SM := fun W (hb : Below w.heap.size w W) => Lib.hid (psmall_any c 300 W (h.below hb (Nat.le_refl _)))
  clear h
  generalize smallP p 300 = sp at *
  generalize hpl : p.length = pl at *
  by_cases hna : na ≤ 40
  · have h1 : decide ((na : Int) ≤ 40) = true := decide_eq_true (by omega)
    have h2 : decide (na ≤ 40) = true := decide_eq_true hna
    rw [h2]
    clear hna h2
    cases sp
    all_goals go_enter Tryz.func4, Tryz.ntmps4
    all_goals go_wp2_with (go_at_call 8; (with_reducible refine (SM _ ((Below.refl _ _).alloc (Nat.le_refl _) _)).out.mono ?_); rintro _ u ⟨rfl, rfl⟩)
    all_goals go_ret
    all_goals exact ⟨rfl, (Below.refl _ _).alloc (Nat.le_refl _) _⟩
  · have h1 : decide ((na : Int) ≤ 40) = false := decide_eq_false (by omega)
    have h2 : decide (na ≤ 40) = false := decide_eq_false hna
    rw [h2]
    clear hna h2
    cases sp
    all_goals go_enter Tryz.func4, Tryz.ntmps4
    all_goals go_wp2_with (go_at_call 8; (with_reducible refine (SM _ ((Below.refl _ _).alloc (Nat.le_refl _) _)).out.mono ?_); rintro _ u ⟨rfl, rfl⟩)
    all_goals go_ret
    all_goals exact ⟨rfl, (Below.refl _ _).alloc (Nat.le_refl _) _⟩
end Go.Proofs.YtoeinpiekfmbgaaGreatDoor

/- Layer 8: the document's Off, Next, open, behind, field, Ints. -/
namespace Go.Proofs.YtoeinpiekfmbgaaGreatDoor
set_option linter.unusedVariables false
set_option linter.unusedSimpArgs false
open Go.RowKit Go.ChangeShapes Go.WideShapes Go.ChangeAt Go.Sort

set_option maxHeartbeats 1000000 in
set_option maxRecDepth 100000 in
theorem off_any {B : Nat} {A : Option Addr} {p : List Fun} (c : Nat) (o a b : Int) (w : World) (h : ProgAt w B A p) (hB : B ≤ w.heap.size) (hx : o = 13 → 0 ≤ a ∧ a < p.length) :
    Calls Tryz.prog 108 #[.slice A p.length c, .agg #[.int .i64 o, .int .i64 a, .int .i64 b]] w fun e w' => e = .returned (.int .i64 (offI p (o, a, b))) ∧ Below w.heap.size w w' := by
  by_cases ho : o = 13
  · obtain ⟨h0, h1⟩ := hx ho
    obtain ⟨k, rfl⟩ := Int.eq_ofNat_of_zero_le h0
    have hk : k < p.length := by omega
    obtain ⟨bb, off, rfl, hbl, hc⟩ := h (by omega)
    obtain ⟨c1, _⟩ := hc k hk
    have hoff : offI p (o, k, b) = p[k].ar := by
      unfold offI arP
      rw [if_pos ho]
      simp [hk]
    rw [hoff]
    generalize p[k].ar = y at *
    subst ho
    have hbb : bb < w.heap.size := by omega
    clear hc hoff hx h0 h
    go_enter Tryz.func108, Tryz.ntmps108
    go_wp2_with fail
    go_ret
    exact ⟨rfl, by go_grown⟩
  · have e1 : (o == 13) = false := by simpa using ho
    have hoff : offI p (o, a, b) = (rz o).p := by unfold offI; rw [if_neg ho]
    rw [hoff]
    have C := roff_any o
    generalize (rz o).p = q at *
    clear ho hoff hx h
    go_enter Tryz.func108, Tryz.ntmps108
    go_wp2_with (go_at_call 75; (with_reducible refine (C.go _).mono ?_); rintro e v ⟨rfl, rfl⟩)
    go_ret
    exact ⟨rfl, by go_grown⟩

set_option maxHeartbeats 1000000 in
set_option maxRecDepth 100000 in
theorem rnext_any (o a b i : Int) (w : World) (hi : 0 ≤ i) (hi2 : i ≤ 1000) :
    Calls Tryz.prog 99 #[.agg #[.int .i64 o, .int .i64 a, .int .i64 b], .int .i64 i] w fun e w' => ∃ x, e = .returned x ∧ LstAt w' w.heap.size x (nextI (o, a, b) i) ∧ Below w.heap.size w w' := by
  by_cases h1 : o = 10
  · subst h1
    have hn : nextI (10, a, b) i = [a] := rfl
    rw [hn]
    go_enter Tryz.func99, Tryz.ntmps99
    go_wp2_with fail
    go_ret
    exact ⟨_, rfl, .inr ⟨_, rfl, by omega, Held.new1 _ _ _ _⟩, by go_grown⟩
  by_cases h2 : o = 15 ∨ o = 16
  · have hn : nextI (o, a, b) i = [] := by unfold nextI; rw [if_neg h1, if_pos h2]
    rw [hn]
    rcases h2 with rfl | rfl
    all_goals
      go_enter Tryz.func99, Tryz.ntmps99
      go_wp2_with fail
      go_ret
      exact ⟨_, rfl, .inl ⟨rfl, rfl⟩, by go_grown⟩
  by_cases h3 : o = 11
  · subst h3
    have hn : nextI (11, a, b) i = [i + 1, a] := rfl
    rw [hn]
    go_enter Tryz.func99, Tryz.ntmps99
    go_wp2_with fail
    go_ret
    exact ⟨_, rfl, .inr ⟨_, rfl, by omega, Held.new1 _ _ _ _⟩, by go_grown⟩
  · have hn : nextI (o, a, b) i = [i + 1] := by unfold nextI; rw [if_neg h1, if_neg h2, if_neg h3]
    rw [hn]
    have e1 : (o == 10) = false := by simpa using h1
    have e2 : (o == 15) = false := by simp; omega
    have e3 : (o == 16) = false := by simp; omega
    have e4 : (o == 11) = false := by simpa using h3
    clear h1 h2 h3
    go_enter Tryz.func99, Tryz.ntmps99
    go_wp2_with fail
    go_ret
    exact ⟨_, rfl, .inr ⟨_, rfl, by omega, Held.new1 _ _ _ _⟩, by go_grown⟩

/-- Who waits: who is reached, and was not gone through. -/
def waitV (D : List Int) (Q : List Bool) : List Bool := List.zipWith (fun d q => decide (0 ≤ d) && !q) D Q
theorem waitV_get (D : List Int) (Q : List Bool) {i : Nat} (h1 : i < D.length) (h2 : i < Q.length) : (waitV D Q)[i]? = some (decide (0 ≤ D[i]) && !Q[i]) := by
  unfold waitV
  rw [List.getElem?_zipWith, List.getElem?_eq_getElem h1, List.getElem?_eq_getElem h2]
theorem waitV_len (D : List Int) (Q : List Bool) (h : D.length = Q.length) : (waitV D Q).length = D.length := by
  unfold waitV
  rw [List.length_zipWith]
  omega

set_option maxHeartbeats 1000000 in
set_option maxRecDepth 100000 in
theorem ropen_any {d q : Nat} {D : List Int} {Q : List Bool} (w : World) (hd : Held w d 3 (intA D)) (hq : Held w q 4 (boolA Q)) (hl : Q.length = D.length) (hn : D.length ≤ 1000) :
    Calls Tryz.prog 97 #[.slice (some ⟨d, 0, none⟩) D.length D.length, .slice (some ⟨q, 0, none⟩) D.length D.length] w fun e w' => e = .returned (.int .i64 (match openS (waitV D Q) with | some i => (i : Int) | none => -1)) ∧ w = w' := by
  have H := Lib.hid hd
  have H2 := Lib.hid hq
  have hwl := waitV_len D Q hl.symm
  have hW2 : (D.length : Int) ≤ 1000 := by omega
  generalize hR : (match openS (waitV D Q) with | some i => (i : Int) | none => -1) = R
  have HR := Lib.hid hR
  clear hR hd hq
  go_enter Tryz.func97, Tryz.ntmps97
  go_wp2
  go_loop [5] (fun i => ∃ j : Nat, j ≤ D.length ∧ i = .int .i64 j ∧ (∀ k (hk : k < j) (hk2 : k < (waitV D Q).length), (waitV D Q)[k] = false)) (fun i => D.length - (intOf i).toNat)
  case atStart => exact ⟨0, by omega, rfl, by intro k hk; omega⟩
  case round =>
    obtain ⟨j, hj, rfl, hall⟩ := hrel
    have HA := Lib.hid hall
    clear hall
    by_cases hlt : j < D.length
    · have c0 := ints_cell H.out hlt
      have c1 := bools_cell H2.out (i := j) (by omega)
      have hw := waitV_get D Q (i := j) hlt (by omega)
      have HWL := Lib.hid hwl
      generalize hDj : D[j] = dj at *
      generalize Q[j]'(by omega) = qj at *
      by_cases hd0 : 0 ≤ dj
      · cases qj with
        | false =>
          have hwj : (waitV D Q)[j]'(by rw [HWL.out]; exact hlt) = true := by
            have := hw
            rw [List.getElem?_eq_getElem (by rw [HWL.out]; exact hlt)] at this
            have h2 := Option.some.inj this
            rw [h2]
            simpa using hd0
          have ho := openS_at (by rw [HWL.out]; exact hlt) hwj (fun k hk => HA.out k hk (by rw [HWL.out]; omega))
          have hr := HR.out
          rw [ho] at hr
          have HR2 := Lib.hid hr
          clear hw ho hr hwj
          go_wp2_with fail
          go_ret
          exact ⟨ret_int HR2.out, rfl⟩
        | true =>
          have hwj : (waitV D Q)[j]'(by rw [HWL.out]; exact hlt) = false := by
            have := hw
            rw [List.getElem?_eq_getElem (by rw [HWL.out]; exact hlt)] at this
            have h2 := Option.some.inj this
            rw [h2]
            simp
          have HWJ := Lib.hid hwj
          clear hw hwj
          go_wp2_with fail
          go_round
          case rel =>
            refine ⟨j + 1, by omega, by go_num, fun k hk hk2 => ?_⟩
            rcases Nat.lt_succ_iff_lt_or_eq.1 hk with h | rfl
            · exact HA.out k h hk2
            · exact HWJ.out
          case measure => simp [intOf]; omega
      · have hwj : (waitV D Q)[j]'(by rw [HWL.out]; exact hlt) = false := by
          have := hw
          rw [List.getElem?_eq_getElem (by rw [HWL.out]; exact hlt)] at this
          have h2 := Option.some.inj this
          rw [h2]
          simp [hd0]
        have HWJ := Lib.hid hwj
        clear hw hwj
        go_wp2_with fail
        go_round
        case rel =>
          refine ⟨j + 1, by omega, by go_num, fun k hk hk2 => ?_⟩
          rcases Nat.lt_succ_iff_lt_or_eq.1 hk with h | rfl
          · exact HA.out k h hk2
          · exact HWJ.out
        case measure => simp [intOf]; omega
    · obtain rfl : j = D.length := by omega
      have ho := openS_no (W := waitV D Q) (fun x hx => by
        obtain ⟨k, hk, rfl⟩ := List.mem_iff_getElem.1 hx
        exact HA.out k (by omega) hk)
      have hr := HR.out
      rw [ho] at hr
      have HR2 := Lib.hid hr
      clear ho hr
      go_wp2_with fail
      go_ret
      exact ⟨ret_int HR2.out, rfl⟩
end Go.Proofs.YtoeinpiekfmbgaaGreatDoor

/- Layer 8: the document's behind, field, Ints. -/
namespace Go.Proofs.YtoeinpiekfmbgaaGreatDoor
set_option linter.unusedVariables false
set_option linter.unusedSimpArgs false
open Go.RowKit Go.ChangeShapes Go.WideShapes Go.ChangeAt Go.Sort

def behI (q r d : Int) : Int := if d < q ∨ 16 < d - q + r then -1 else d - q + r
set_option maxHeartbeats 1000000 in
set_option maxRecDepth 100000 in
theorem rbehind_any {B : Nat} {A : Option Addr} {p : List Fun} (c : Nat) (o a b d : Int) (w : World) (h : ProgAt w B A p) (hB : B ≤ w.heap.size) (hx : o = 13 → 0 ≤ a ∧ a < p.length)
    (hq : 0 ≤ offI p (o, a, b) ∧ offI p (o, a, b) ≤ 16) (hr : 0 ≤ (rz o).q ∧ (rz o).q ≤ 2) (hd : 0 ≤ d ∧ d ≤ 16) :
    Calls Tryz.prog 98 #[.slice A p.length c, .agg #[.int .i64 o, .int .i64 a, .int .i64 b], .int .i64 d] w fun e w' => e = .returned (.int .i64 (behI (offI p (o, a, b)) (rz o).q d)) ∧ Below w.heap.size w w' := by
  have OF := fun W (hb : Below w.heap.size w W) => Lib.hid (off_any c o a b W (h.below hb hB) (Nat.le_trans hB hb.size) hx)
  have ON := ron_any o
  generalize offI p (o, a, b) = q at *
  generalize (rz o).q = r at *
  obtain ⟨q1, q2⟩ := hq
  obtain ⟨r1, r2⟩ := hr
  obtain ⟨d1, d2⟩ := hd
  clear h hx
  generalize hR : behI q r d = R
  unfold behI at hR
  by_cases h1 : d < q
  · rw [if_pos (.inl h1)] at hR
    subst hR
    go_enter Tryz.func98, Tryz.ntmps98
    go_wp2_with (go_at_call 108; (with_reducible refine (OF _ (by go_grown)).out.mono ?_); rintro _ u ⟨rfl, hb⟩; have hbx := (Held.new w 92 #[.int .i64 o, .int .i64 a, .int .i64 b]).below hb; have x0 := hbx.cell 0; simp at x0; have hbw := below_laid hb; clear hb)
    go_ret
    exact ⟨rfl, hbw⟩
  by_cases h2 : 16 < d - q + r
  · rw [if_pos (.inr h2)] at hR
    subst hR
    go_enter Tryz.func98, Tryz.ntmps98
    go_wp2_with (first
      | (go_at_call 108; (with_reducible refine (OF _ (by go_grown)).out.mono ?_); rintro _ u ⟨rfl, hb⟩; have hbx := (Held.new w 92 #[.int .i64 o, .int .i64 a, .int .i64 b]).below hb; have x0 := hbx.cell 0; simp at x0; have hbw := below_laid hb; clear hb)
      | (go_at_call 52; (with_reducible refine (ON.go _).mono ?_); rintro _ u2 ⟨rfl, rfl⟩))
    go_ret
    exact ⟨rfl, hbw⟩
  · rw [if_neg (by omega)] at hR
    subst hR
    go_enter Tryz.func98, Tryz.ntmps98
    go_wp2_with (first
      | (go_at_call 108; (with_reducible refine (OF _ (by go_grown)).out.mono ?_); rintro _ u ⟨rfl, hb⟩; have hbx := (Held.new w 92 #[.int .i64 o, .int .i64 a, .int .i64 b]).below hb; have x0 := hbx.cell 0; simp at x0; have hbw := below_laid hb; clear hb)
      | (go_at_call 52; (with_reducible refine (ON.go _).mono ?_); rintro _ u2 ⟨rfl, rfl⟩))
    go_ret
    exact ⟨rfl, hbw⟩

set_option maxHeartbeats 2000000 in
set_option maxRecDepth 100000 in
theorem rfield_any {A Ac : Option Addr} {p : List Fun} {f : Fun} (c cc : Nat) (o a b : Int) (w : World) :
    Calls Tryz.prog 73 #[.slice A p.length c, .agg #[.int .i64 f.ar, .int .i64 f.lo, .int .i64 f.sl, .slice Ac f.code.length cc], .agg #[.int .i64 o, .int .i64 a, .int .i64 b]] w fun e w' => e = .returned (.int .i64 (fieldI p f (o, a, b))) ∧ Below w.heap.size w w' := by
  generalize hF : fieldI p f (o, a, b) = r
  by_cases h1 : o = 1 ∨ o = 2
  · rw [field_load h1] at hF
    generalize f.lo = l at *
    by_cases h2 : a < l
    · rw [if_pos (by simpa using h2)] at hF
      subst hF
      rcases h1 with rfl | rfl
      all_goals
        go_enter Tryz.func73, Tryz.ntmps73
        go_wp2_with fail
        go_ret
        exact ⟨rfl, by go_grown⟩
    · rw [if_neg (by simpa using h2)] at hF
      subst hF
      rcases h1 with rfl | rfl
      all_goals
        go_enter Tryz.func73, Tryz.ntmps73
        go_wp2_with fail
        go_ret
        exact ⟨rfl, by go_grown⟩
  by_cases h2 : o = 14
  · rw [field_join h2] at hF
    generalize f.sl = l at *
    by_cases h3 : a < l
    · rw [if_pos (by simpa using h3)] at hF
      subst hF h2
      clear h1
      go_enter Tryz.func73, Tryz.ntmps73
      go_wp2_with fail
      go_ret
      exact ⟨rfl, by go_grown⟩
    · rw [if_neg (by simpa using h3)] at hF
      subst hF h2
      clear h1
      go_enter Tryz.func73, Tryz.ntmps73
      go_wp2_with fail
      go_ret
      exact ⟨rfl, by go_grown⟩
  by_cases h3 : o = 13
  · rw [field_spawn h3] at hF
    generalize f.sl = l at *
    by_cases h4 : b < l
    · by_cases h5 : a < (p.length : Int)
      · rw [if_pos (by simpa using ⟨h5, h4⟩)] at hF
        subst hF h3
        clear h1 h2
        go_enter Tryz.func73, Tryz.ntmps73
        go_wp2_with fail
        go_ret
        exact ⟨rfl, by go_grown⟩
      · rw [if_neg (by simp only [Bool.and_eq_true, decide_eq_true_eq]; omega)] at hF
        subst hF h3
        clear h1 h2
        go_enter Tryz.func73, Tryz.ntmps73
        go_wp2_with fail
        go_ret
        exact ⟨rfl, by go_grown⟩
    · rw [if_neg (by simp only [Bool.and_eq_true, decide_eq_true_eq]; omega)] at hF
      subst hF h3
      clear h1 h2
      go_enter Tryz.func73, Tryz.ntmps73
      go_wp2_with fail
      go_ret
      exact ⟨rfl, by go_grown⟩
  by_cases h4 : o = 10 ∨ o = 11
  · rw [field_jump h4] at hF
    generalize f.code.length = l at *
    by_cases h5 : a < (l : Int)
    · rw [if_pos (by simpa using h5)] at hF
      subst hF
      clear h1 h2 h3
      rcases h4 with rfl | rfl
      all_goals
        go_enter Tryz.func73, Tryz.ntmps73
        go_wp2_with fail
        go_ret
        exact ⟨rfl, by go_grown⟩
    · rw [if_neg (by simpa using h5)] at hF
      subst hF
      clear h1 h2 h3
      rcases h4 with rfl | rfl
      all_goals
        go_enter Tryz.func73, Tryz.ntmps73
        go_wp2_with fail
        go_ret
        exact ⟨rfl, by go_grown⟩
  · rw [field_none (by omega)] at hF
    subst hF
    have e1 : (o == 1) = false := by simp; omega
    have e2 : (o == 2) = false := by simp; omega
    have e3 : (o == 14) = false := by simp; omega
    have e4 : (o == 13) = false := by simp; omega
    have e5 : (o == 10) = false := by simp; omega
    have e6 : (o == 11) = false := by simp; omega
    clear h1 h2 h3 h4
    go_enter Tryz.func73, Tryz.ntmps73
    go_wp2_with fail
    go_ret
    exact ⟨rfl, by go_grown⟩

end Go.Proofs.YtoeinpiekfmbgaaGreatDoor

/- Layer 8: the document's reach. -/
namespace Go.Proofs.YtoeinpiekfmbgaaGreatDoor
set_option linter.unusedVariables false
set_option linter.unusedSimpArgs false
open Go.RowKit Go.ChangeShapes Go.WideShapes Go.ChangeAt Go.Sort

/-- Depths, as far as they were laid: the first place is reached, none else. -/
def fillE (n j : Nat) : List Int := 0 :: (List.replicate (j - 1) (-1) ++ List.replicate (n - j) 0)
theorem fillE_one {n : Nat} (h : 0 < n) : List.replicate n 0 = fillE n 1 := by
  obtain ⟨m, rfl⟩ : ∃ m, n = m + 1 := ⟨n - 1, by omega⟩
  simp [fillE, List.replicate_succ]
theorem fillE_all {n : Nat} (h : 0 < n) : fillE n n = initD n := by simp [fillE, initD]
theorem fillE_len {n j : Nat} (h0 : 1 ≤ j) (h : j ≤ n) : (fillE n j).length = n := by simp [fillE]; omega
theorem fillE_set {n j : Nat} (h0 : 1 ≤ j) (h : j < n) : (fillE n j).set j (-1) = fillE n (j + 1) := by
  unfold fillE
  apply List.ext_getElem?
  intro i
  rw [List.getElem?_set]
  cases i with
  | zero => rw [if_neg (by omega)]; rfl
  | succ i =>
    simp only [List.getElem?_cons_succ, List.getElem?_append, List.getElem?_replicate, List.length_replicate, List.length_append, List.length_cons]
    split <;> (repeat' split) <;> first | rfl | omega
/-- Whoever was gone through is reached. -/
structure RInv (n : Nat) (D : List Int) (Q : List Bool) : Prop where
  dl : D.length = n
  ql : Q.length = n
  low : ∀ (i : Nat) (d : Int), D[i]? = some d → -1 ≤ d
  dn : ∀ i : Nat, Q[i]? = some true → D[i]? ≠ some (-1)
theorem waitV_set {D : List Int} {Q : List Bool} {i : Nat} : (waitV D Q).set i false = waitV D (Q.set i true) := by
  apply List.ext_getElem?
  intro j
  unfold waitV
  rw [List.getElem?_set, List.getElem?_zipWith, List.getElem?_zipWith, List.getElem?_set, List.length_zipWith]
  by_cases hij : i = j
  · subst hij
    rw [if_pos rfl, if_pos rfl]
    by_cases h1 : i < D.length
    · by_cases h2 : i < Q.length
      · rw [if_pos (by omega), if_pos h2, List.getElem?_eq_getElem h1]
        simp
      · rw [if_neg (by omega), if_neg h2]
        cases D[i]? <;> rfl
    · rw [if_neg (by omega), List.getElem?_eq_none (by omega)]
  · rw [if_neg hij, if_neg hij]
theorem RInv.set {n : Nat} {D : List Int} {Q : List Bool} (h : RInv n D Q) {i : Nat} {d : Int} (hd : D[i]? = some d) (hn : d ≠ -1) : RInv n D (Q.set i true) := by
  refine ⟨h.dl, by rw [List.length_set]; exact h.ql, h.low, fun j hj => ?_⟩
  by_cases hij : i = j
  · subst hij
    rw [hd]
    exact fun e => hn (Option.some.inj e)
  · rw [List.getElem?_set_ne hij] at hj
    exact h.dn j hj
theorem rstep_bad {b : Int} {t n : Nat} {D : List Int} {Q : List Bool} (V : List Bool) (h : RInv n D Q) (ht : t < n) {e : Int} (he : D[t]? = some e) (h0 : 0 ≤ e) (hne : e ≠ b) : nextsS b [(t : Int)] D V = (D, V, 84) := by
  have hl := h.dl
  rw [nexts_eq, if_neg (by omega), Int.toNat_natCast, List.getD_eq_getElem?_getD, he, if_neg (by simp; omega), if_neg (by simpa using hne)]
theorem rstep_ok {b : Int} {t n : Nat} {D : List Int} {Q : List Bool} (h : RInv n D Q) (ht : t < n) {e : Int} (he : D[t]? = some e) (hok : ¬ (0 ≤ e ∧ e ≠ b)) (hb : 0 ≤ b) :
    nextsS b [(t : Int)] D (waitV D Q) = (D.set t b, waitV (D.set t b) Q, 0) ∧ RInv n (D.set t b) Q := by
  have hl := h.dl
  have hql := h.ql
  have hlow := h.low t e he
  constructor
  · rw [nexts_eq, if_neg (by omega), Int.toNat_natCast, List.getD_eq_getElem?_getD, he]
    by_cases h1 : e = -1
    · rw [if_pos (by simpa using h1), nexts_nil]
      have hq : Q[t]? = some false := by
        rw [List.getElem?_eq_getElem (by omega)]
        cases hqt : Q[t]'(by omega)
        · rfl
        · exact absurd (by rw [he, h1]) (h.dn t (by rw [List.getElem?_eq_getElem (by omega), hqt]))
      congr 2
      apply List.ext_getElem?
      intro j
      unfold waitV
      rw [List.getElem?_set, List.getElem?_zipWith, List.getElem?_zipWith, List.getElem?_set, List.length_zipWith]
      by_cases hij : t = j
      · subst hij
        rw [if_pos rfl, if_pos rfl, if_pos (by omega), if_pos (by omega), hq]
        simp [hb]
      · rw [if_neg hij, if_neg hij]
    · have heb : e = b := by omega
      rw [if_neg (by simpa using h1), if_pos (by simpa using heb), nexts_nil]
      have hs : D.set t b = D := by
        apply List.ext_getElem?
        intro j
        rw [List.getElem?_set]
        by_cases hij : t = j
        · subst hij
          rw [if_pos rfl, if_pos (by omega), he, heb]
        · rw [if_neg hij]
      rw [hs]
  · refine ⟨by rw [List.length_set]; exact hl, hql, fun j d hd => ?_, fun j hj => ?_⟩
    · rw [List.getElem?_set] at hd
      split at hd
      · split at hd
        · have := Option.some.inj hd
          omega
        · cases hd
      · exact h.low j d hd
    · rw [List.getElem?_set]
      split
      · split
        · exact fun e => by have := Option.some.inj e; omega
        · simp
      · exact h.dn j hj
theorem rinv_init {n : Nat} (hn : 0 < n) : RInv n (initD n) (List.replicate n false) ∧ waitV (initD n) (List.replicate n false) = initW n := by
  obtain ⟨m, rfl⟩ : ∃ m, n = m + 1 := ⟨n - 1, by omega⟩
  constructor
  · refine ⟨by simp [initD], by simp, fun i d h => ?_, fun i h => ?_⟩
    · have := (init_good (fun _ => (0, 0, [])) (n := m + 1) (by omega)).range i d h
      omega
    · rw [List.getElem?_replicate] at h
      split at h
      · cases h
      · cases h
  · simp [waitV, initD, initW, List.replicate_succ]

/-- What lies ready while places are gone through. -/
structure RkAt (B x d q : Nat) (Ap : Option Addr) (p : List Fun) (f : Fun) (Ac : Option Addr) (cc : Nat) (D : List Int) (Q : List Bool) (w : World) : Prop where
  xB : B ≤ x
  dB : B ≤ d
  qB : B ≤ q
  xd : x ≠ d
  xq : x ≠ q
  dq : d ≠ q
  hx : Held w x 57 #[.int .i64 f.ar, .int .i64 f.lo, .int .i64 f.sl, .slice Ac f.code.length cc]
  hd : Held w d 3 (intA D)
  hq : Held w q 4 (boolA Q)
  prog : ProgAt w B Ap p
  code : CodeAt w B Ac f.code
section
variable {B x d q : Nat} {Ap : Option Addr} {p : List Fun} {f : Fun} {Ac : Option Addr} {cc : Nat} {D : List Int} {Q : List Bool} {w w' : World}
theorem RkAt.lt (h : RkAt B x d q Ap p f Ac cc D Q w) : B ≤ w.heap.size := by
  have := h.hx.lt
  have := h.xB
  omega
theorem RkAt.below (h : RkAt B x d q Ap p f Ac cc D Q w) (hb : Below w.heap.size w w') : RkAt B x d q Ap p f Ac cc D Q w' :=
  ⟨h.xB, h.dB, h.qB, h.xd, h.xq, h.dq, h.hx.below hb, h.hd.below hb, h.hq.below hb, h.prog.below hb h.lt, h.code.below hb h.lt⟩
theorem RkAt.setD (h : RkAt B x d q Ap p f Ac cc D Q w) (i : Nat) (y : Int) : RkAt B x d q Ap p f Ac cc (D.set i y) Q (w.setCell ⟨d, i, none⟩ (.int .i64 y)) := by
  have hb : Below B w (w.setCell ⟨d, i, none⟩ (.int .i64 y)) := (Below.refl B w).setCell h.dB _
  exact ⟨h.xB, h.dB, h.qB, h.xd, h.xq, h.dq, h.hx.far h.xd _ _, ints_set h.hd i y, h.hq.far (Ne.symm h.dq) _ _, h.prog.below hb (Nat.le_refl _), h.code.below hb (Nat.le_refl _)⟩
theorem RkAt.setQ (h : RkAt B x d q Ap p f Ac cc D Q w) (i : Nat) (y : Bool) : RkAt B x d q Ap p f Ac cc D (Q.set i y) (w.setCell ⟨q, i, none⟩ (.bool y)) := by
  have hb : Below B w (w.setCell ⟨q, i, none⟩ (.bool y)) := (Below.refl B w).setCell h.qB _
  exact ⟨h.xB, h.dB, h.qB, h.xd, h.xq, h.dq, h.hx.far h.xq _ _, h.hd.far h.dq _ _, bools_set h.hq i y, h.prog.below hb (Nat.le_refl _), h.code.below hb (Nat.le_refl _)⟩
/-- An instruction's cells. -/
theorem RkAt.ins (h : RkAt B x d q Ap p f Ac cc D Q w) {i : Nat} (hi : i < f.code.length) :
    ∃ b off, Ac = some ⟨b, off, none⟩ ∧ b < B ∧ w.cell? ⟨b, off + i * 3, none⟩ = some (.int .i64 f.code[i].1) ∧ w.cell? ⟨b, off + i * 3 + 1, none⟩ = some (.int .i64 f.code[i].2.1) ∧ w.cell? ⟨b, off + i * 3 + 2, none⟩ = some (.int .i64 f.code[i].2.2) := by
  obtain ⟨b, off, h1, h2, h3⟩ := h.code (by omega)
  exact ⟨b, off, h1, h2, h3 i hi⟩
end
theorem rk_new {w : World} {Ap : Option Addr} {p : List Fun} {f : Fun} {Ac : Option Addr} {cc : Nat} {B : Nat} (hp : ProgAt w B Ap p) (hc : CodeAt w B Ac f.code) (hB : B ≤ w.heap.size) (D : List Int) (Q : List Bool) :
    RkAt B w.heap.size (w.heap.size + 1) (w.heap.size + 1 + 1) Ap p f Ac cc D Q (((w.alloc (.cells #[.int .i64 f.ar, .int .i64 f.lo, .int .i64 f.sl, .slice Ac f.code.length cc] 57)).alloc (.cells (intA D) 3)).alloc (.cells (boolA Q) 4)) := by
  have hb := below3 w (.cells #[.int .i64 f.ar, .int .i64 f.lo, .int .i64 f.sl, .slice Ac f.code.length cc] 57) (.cells (intA D) 3) (.cells (boolA Q) 4)
  exact ⟨hB, by omega, by omega, by omega, by omega, by omega, ((Held.new _ _ _).alloc _).alloc _, (Held.new1 _ _ _ _).alloc _, Held.new2 _ _ _ _ _, hp.below hb hB, hc.below hb hB⟩
end Go.Proofs.YtoeinpiekfmbgaaGreatDoor

/- Layer 8: the document's reach, at every function that may be. -/
namespace Go.Proofs.YtoeinpiekfmbgaaGreatDoor
set_option linter.unusedVariables false
set_option linter.unusedSimpArgs false
open Go.RowKit Go.ChangeShapes Go.WideShapes Go.ChangeAt Go.Sort

/-- What reach answers, in memory. -/
def ReaR (w : World) (p : List Fun) (f : Fun) (e : Ending) (w' : World) : Prop := ∃ y D, e = .returned (.tuple #[y, .int .i64 (flowF p f.code).2.1, .int .i64 (flowF p f.code).2.2]) ∧
      LstAt w' w.heap.size y D ∧ ((flowF p f.code).2.2 = 0 → D = (flowF p f.code).1) ∧ Below w.heap.size w w'
set_option maxHeartbeats 4000000 in
set_option maxRecDepth 100000 in
theorem rreach_any {B : Nat} {Ap : Option Addr} {p : List Fun} {f : Fun} {Ac : Option Addr} (c cc : Nat) (hok : FunOk p f) (w : World) (hp : ProgAt w B Ap p) (hc : CodeAt w B Ac f.code) (hB : B ≤ w.heap.size) :
    Calls Tryz.prog 74 #[.slice Ap p.length c, .agg #[.int .i64 f.ar, .int .i64 f.lo, .int .i64 f.sl, .slice Ac f.code.length cc]] w fun e w' => ReaR w p f e w' := by
  have hn1 := hok.n1
  have hn2 := hok.n2
  have M1 := fun w => make_ints (n := f.code.length) (by omega) w
  have M2 := fun w => make_bools (n := f.code.length) (by omega) w
  rw [fillE_one hn1] at M1
  have RN := Lib.hid (rk_new (f := f) (cc := cc) hp hc hB (fillE f.code.length 1) (List.replicate f.code.length false))
  have HB0 := Lib.hid (below3 w (.cells #[.int .i64 f.ar, .int .i64 f.lo, .int .i64 f.sl, .slice Ac f.code.length cc] 57) (.cells (intA (fillE f.code.length 1)) 3) (.cells (boolA (List.replicate f.code.length false)) 4))
  have HOK := Lib.hid hok
  have hbig : (f.code.length : Int) ≤ 200 := by omega
  clear hp hc hok
  go_enter Tryz.func74, Tryz.ntmps74
  go_wp2_with fail
  go_loopw [9] (fun iv W => ∃ j : Nat, iv = .int .i64 j ∧ 1 ≤ j ∧ j ≤ f.code.length ∧ RkAt B w.heap.size (w.heap.size + 1) (w.heap.size + 1 + 1) Ap p f Ac cc (fillE f.code.length j) (List.replicate f.code.length false) W ∧ Below w.heap.size w W) (fun iv _ => f.code.length - (intOf iv).toNat)
  case atStart => exact ⟨1, rfl, by omega, by omega, RN.out, HB0.out⟩
  case round =>
    obtain ⟨j, rfl, hj1, hj, hrk, hbw⟩ := hrel
    by_cases hlt : j < f.code.length
    · have hlen := fillE_len hj1 hj
      have c0 := ints_cell hrk.hd (i := j) (by omega)
      have f0 := hrk.hd.fz j
      have hs := hrk.setD j (-1)
      rw [fillE_set hj1 hlt] at hs
      have HS := Lib.hid hs
      have HBW := Lib.hid hbw
      generalize (fillE f.code.length j)[j] = x at *
      clear hs hrk hbw
      go_wp2_with fail
      go_roundw
      case rel => exact ⟨j + 1, by go_num, by omega, by omega, HS.out, HBW.out.setCell (by show _ ≤ w.heap.size + 1; omega) _⟩
      case measure => simp [intOf]; omega
    · obtain rfl : j = f.code.length := by omega
      have HRK := Lib.hid hrk
      have HBW := Lib.hid hbw
      have H00 := Lib.hid (rinv_init hn1)
      rw [fillE_all hn1] at HRK
      clear hrk hbw RN HB0 M1 M2 hj1 hj hlt
      go_wp2_with fail
      go_loopw [10, 11, 12, 13] (fun _ _ _ _ W => ∃ (D : List Int) (Q : List Bool) (K : Nat), RkAt B w.heap.size (w.heap.size + 1) (w.heap.size + 1 + 1) Ap p f Ac cc D Q W ∧ Below w.heap.size w W ∧ RInv f.code.length D Q ∧
        Gone (grF p f.code) f.code.length D (waitV D Q) ∧ muS f.code.length D (waitV D Q) ≤ K ∧ flowS (grF p f.code) K D (waitV D Q) = flowF p f.code) (fun _ _ _ _ W => muS f.code.length (rdI W (w.heap.size + 1)) (waitV (rdI W (w.heap.size + 1)) (rdB W (w.heap.size + 1 + 1))))
      case atStart => exact ⟨initD f.code.length, List.replicate f.code.length false, 201, HRK.out, HBW.out, H00.out.1, by rw [H00.out.2]; exact init_good _ hn1, Nat.le_trans (mu_le _ _ _) (by omega), by rw [H00.out.2]; rfl⟩
      case round =>
        obtain ⟨D, Q, K, hrk, hbw, hri, hgo, hmu, hfl⟩ := hrel
        clear HRK HBW H00
        have HM0 := Lib.hid (rdI_of hrk.hd)
        have HM1 := Lib.hid (rdB_of hrk.hq)
        have hdl := hri.dl
        have hql := hri.ql
        have hwl := waitV_len D Q (by omega)
        have OP := fun W (hb : W = wr) => Lib.hid (ropen_any (D := D) (Q := Q) wr hrk.hd hrk.hq (by omega) (by omega))
        rw [hdl] at OP
        cases ho : openS (waitV D Q) with
        | none =>
          rw [ho] at OP
          have hR : flowF p f.code = (D, 0, 0) := by
            rw [← hfl]
            cases K with
            | zero => rfl
            | succ K => unfold flowS; rw [ho]
          have HR := Lib.hid hR
          have HRK := Lib.hid hrk
          have HBW := Lib.hid hbw
          have HDL := Lib.hid hdl
          simp only at OP
          clear hrk hbw hri hgo hmu hfl hR ho hdl hql hwl
          go_wp2_with (go_at_call 97; (with_reducible refine (OP _ rfl).out.mono ?_); rintro _ u ⟨rfl, rfl⟩)
          go_returns
          unfold ReaR
          rw [HR.out]
          exact ⟨_, D, rfl, .inr ⟨w.heap.size + 1, by rw [HDL.out]; rfl, by omega, HRK.out.hd⟩, fun _ => rfl, HBW.out⟩
        | some i =>
          rw [ho] at OP
          simp only at OP
          obtain ⟨hi, hVi, hV2⟩ := openS_some ho
          clear hV2
          have hi2 : i < f.code.length := by omega
          have hpos := mu_pos (D := D) (n := f.code.length) (i := i) hi2 (by rw [List.getElem?_eq_getElem hi, hVi])
          obtain ⟨K, rfl⟩ : ∃ k, K = k + 1 := ⟨K - 1, by omega⟩
          have HMU := Lib.hid hmu
          have hd0 : D[i]? = some D[i] := List.getElem?_eq_getElem (by omega)
          have hge : D.getD i 0 = D[i] := by rw [List.getD_eq_getElem?_getD, hd0]; rfl
          have hne : D[i] ≠ -1 := fun e => hgo.wait i (by rw [List.getElem?_eq_getElem hi, hVi]) (by rw [hd0, e])
          have hrg := hgo.range i _ hd0
          have hri2 := hri.set hd0 hne
          have q0 := bools_cell hrk.hq (i := i) (by omega)
          have f0 := hrk.hq.fz i
          have hst := fun he => good_step HOK.out.fine hgo ho he
          unfold flowS at hfl
          rw [ho] at hfl
          simp only at hfl
          rw [hge] at hst hfl
          rw [waitV_set, grF_at hi2] at hst hfl
          have hrk1 := Lib.hid (hrk.setQ i true)
          have hbw1 := Lib.hid (hbw.setCell (p := ⟨w.heap.size + 1 + 1, i, none⟩) (by show _ ≤ w.heap.size + 1 + 1; omega) (.bool true))
          have hmem : f.code[i] ∈ f.code := List.getElem_mem hi2
          have hoff := HOK.out.off _ hmem
          have hon := HOK.out.on _ hmem
          have hsp := HOK.out.spawn _ hmem
          have hnx := HOK.out.next i hi2
          have HD0 := Lib.hid hd0
          have hrl := hrk.hq.lt
          generalize Q[i]'(by omega) = qi at *
          generalize Q.set i true = Q1 at *
          generalize D[i] = e at *
          have he0 : 0 ≤ e := by omega
          have he16 := hrg.2
          have HFL := Lib.hid hfl
          have HST := Lib.hid hst
          have HRI := Lib.hid hri2
          clear hrk hbw hri hgo hst hfl hVi ho hd0 hge hne hrg hri2 hwl hql hmem hpos hi hmu
          go_upto_region 11 with (go_at_call 97; (with_reducible refine (OP _ rfl).out.mono ?_); rintro _ u ⟨rfl, rfl⟩)
          clear OP
          generalize wr.setCell ⟨w.heap.size + 1 + 1, i, none⟩ (.bool true) = W1 at *
          clear f0 q0 hrl
          obtain ⟨bb, off, rfl, hbl, a0, a1, a2⟩ := hrk1.out.ins hi2
          have e3 := hrk1.out.hx.cell 3
          have d0 := ints_cell hrk1.out.hd (i := i) (by omega)
          have hde : D[i]'(by omega) = e := by
            have := HD0.out
            rw [List.getElem?_eq_getElem (by omega)] at this
            exact Option.some.inj this
          rw [hde] at d0
          simp at e3
          have BE := fun d os => Lib.hid (rbehind_any c f.code[i].1 f.code[i].2.1 f.code[i].2.2 e (grow (redrawn W1 d) os) (hrk1.out.prog.below (below_regrown W1 d os) hrk1.out.lt) (Nat.le_trans hrk1.out.lt (below_regrown W1 d os).size) hsp hoff hon ⟨he0, he16⟩)
          change ∀ d os, Hid (Calls Tryz.prog 98 #[.slice Ap p.length c, .agg #[.int .i64 f.code[i].1, .int .i64 f.code[i].2.1, .int .i64 f.code[i].2.2], .int .i64 e] (grow (redrawn W1 d) os) fun x w' => x = .returned (.int .i64 (behI (offI p f.code[i]) (rz f.code[i].1).q e)) ∧ Below (grow (redrawn W1 d) os).heap.size (grow (redrawn W1 d) os) w') at BE
          have NX := fun W => Lib.hid (rnext_any f.code[i].1 f.code[i].2.1 f.code[i].2.2 i W (by omega) (by omega))
          change ∀ W, Hid (Calls Tryz.prog 99 #[.agg #[.int .i64 f.code[i].1, .int .i64 f.code[i].2.1, .int .i64 f.code[i].2.2], .int .i64 i] W fun e w' => ∃ x, e = .returned x ∧ LstAt w' W.heap.size x (nextI f.code[i] i) ∧ Below W.heap.size W w') at NX
          have HLEN := Lib.hid (next_len f.code[i] i)
          have HNX := Lib.hid hnx
          have hps : ∀ V, procS (nodeI p f.code[i] i) e D V = if e < offI p f.code[i] ∨ 16 < e - offI p f.code[i] + (rz f.code[i].1).q then (D, V, 84) else nextsS (e - offI p f.code[i] + (rz f.code[i].1).q) (nextI f.code[i] i) D V := fun V => rfl
          have hfl := HFL.out
          have hst := HST.out
          rw [hps] at hfl hst
          clear HFL HST hps hnx hsp hde
          generalize nextI f.code[i] i = l at *
          generalize offI p f.code[i] = q at *
          generalize (rz f.code[i].1).q = r at *
          have A0 := Lib.hid a0
          have A1 := Lib.hid a1
          have A2 := Lib.hid a2
          generalize f.code[i].1 = xo at *
          generalize f.code[i].2.1 = xa at *
          generalize f.code[i].2.2 = xb at *
          obtain ⟨q1, q2⟩ := hoff
          obtain ⟨r1, r2⟩ := hon
          by_cases hbad : e < q ∨ 16 < e - q + r
          · have hbe : behI q r e = -1 := by unfold behI; rw [if_pos hbad]
            rw [hbe] at BE
            rw [if_pos hbad, if_neg (by simp)] at hfl
            have HFL := Lib.hid hfl
            have HDL := Lib.hid hdl
            clear hfl hst hbe hbad
            have e3g := fun d os => cell_regrown e3 d os
            have a0g := fun d os => cell_regrown a0 d os
            have a1g := fun d os => cell_regrown a1 d os
            have a2g := fun d os => cell_regrown a2 d os
            have dg := fun d os => cell_regrown d0 d os
            clear e3 a0 a1 a2 d0
            refine wp_region_quiet_below (by kernel_rfl) (by kernel_rfl) ?_
            repeat (first
              | go_big_quiet_step ((first
                | (go_at_call 98; (with_reducible exact Calls.regrown_of (BE _ _).out))))
              | quiet_step ((first
                | (go_at_call 98; (with_reducible exact Calls.regrown_of (BE _ _).out)))))
            refine wpQuiet_nil ?_
            intro W2 hv
            have hb := below_of_regrown hv
            clear hv e3g a0g a1g a2g dg BE
            have hrk2 := Lib.hid (hrk1.out.below hb)
            have hbw2 := Lib.hid (Below.step hbw1.out hb)
            clear hb hrk1 hbw1
            go_wp2_with fail
            go_returns
            unfold ReaR
            rw [← HFL.out]
            exact ⟨_, D, rfl, .inr ⟨w.heap.size + 1, by rw [HDL.out]; rfl, by omega, hrk2.out.hd⟩, fun h => absurd h (by simp), hbw2.out⟩
          · have hbe : behI q r e = e - q + r := by unfold behI; rw [if_neg hbad]
            rw [hbe] at BE
            rw [if_neg hbad] at hfl hst
            have hb0 : 0 ≤ e - q + r := by omega
            have hb16 : e - q + r ≤ 16 := by omega
            have HFL := Lib.hid hfl
            have HST := Lib.hid hst
            have HDL := Lib.hid hdl
            generalize e - q + r = b at *
            clear hfl hst hbe hbad q1 q2 r1 r2 he0 he16
            have e3g := fun d os => cell_regrown e3 d os
            have a0g := fun d os => cell_regrown a0 d os
            have a1g := fun d os => cell_regrown a1 d os
            have a2g := fun d os => cell_regrown a2 d os
            have dg := fun d os => cell_regrown d0 d os
            clear e3 a0 a1 a2 d0
            refine wp_region_quiet_below (by kernel_rfl) (by kernel_rfl) ?_
            repeat (first
              | go_big_quiet_step ((first
                | (go_at_call 98; (with_reducible exact Calls.regrown_of (BE _ _).out))))
              | quiet_step ((first
                | (go_at_call 98; (with_reducible exact Calls.regrown_of (BE _ _).out)))))
            refine wpQuiet_nil ?_
            intro W2 hv
            have hb := below_of_regrown hv
            clear hv e3g a0g a1g a2g dg BE
            have hrk2 := Lib.hid (hrk1.out.below hb)
            have hbw2 := Lib.hid (Below.step hbw1.out hb)
            have hbs := hrk1.out.lt
            have e3 := hrk2.out.hx.cell 3
            have e0 := hrk2.out.hx.lt
            simp at e3
            have a0 := (hb.cell (p := ⟨bb, off + i * 3, none⟩) (by show bb < _; omega)).trans A0.out
            have a1 := (hb.cell (p := ⟨bb, off + i * 3 + 1, none⟩) (by show bb < _; omega)).trans A1.out
            have a2 := (hb.cell (p := ⟨bb, off + i * 3 + 2, none⟩) (by show bb < _; omega)).trans A2.out
            clear hb hrk1 hbw1
            go_wp2_with (go_at_call 99; (with_reducible refine (NX _).out.mono ?_); rintro _ u2 ⟨x, rfl, hL, hb2⟩; obtain ⟨A, c', rfl, hcell⟩ := hL.slice; clear hL)
            have HC := Lib.hid hcell
            have hs2 := hb2.size
            have hdw := hrk2.out.hd.lt
            have hqw := hrk2.out.hq.lt
            have hrk3 := Lib.hid (hrk2.out.below hb2)
            have hbw3 := Lib.hid (Below.step hbw2.out hb2)
            have hll := HLEN.out
            clear hcell e3 e0 a0 a1 a2 A0 A1 A2 NX hrk2 hbw2 hb2
            go_loopw [13] (fun iv W => ∃ (k : Nat) (D' : List Int), iv = .int .i64 k ∧ k ≤ l.length ∧ RkAt B w.heap.size (w.heap.size + 1) (w.heap.size + 1 + 1) Ap p f (some ⟨bb, off, none⟩) cc D' Q1 W ∧ Below w.heap.size w W ∧ RInv f.code.length D' Q1 ∧
              Only (w.heap.size + 1) (w.heap.size + 1 + 1) u2 W ∧ nextsS b l D (waitV D Q1) = nextsS b (l.drop k) D' (waitV D' Q1)) (fun iv _ => l.length - (intOf iv).toNat)
            case atStart => exact ⟨0, D, rfl, by omega, hrk3.out, hbw3.out, HRI.out, Only.refl _ _ _, by simp⟩
            case round =>
              obtain ⟨k, D', rfl, hk, hrk, hbw, hri, hon, hns⟩ := hrel
              clear hrk3 hbw3
              by_cases hlt : k < l.length
              · obtain ⟨lb, rfl, hlb, hcell⟩ := HC.out k hlt
                have c0 := hon.cell hcell (by omega) (by omega)
                have hlx := HNX.out _ (List.getElem_mem hlt)
                rw [List.drop_eq_getElem_cons hlt, nexts_cons] at hns
                generalize l[k] = t at *
                obtain ⟨t1, t2⟩ := hlx
                have e3 := hrk.hx.cell 3
                have e0 := hrk.hx.lt
                simp at e3
                obtain ⟨t, rfl⟩ := Int.eq_ofNat_of_zero_le t1
                have HON := Lib.hid hon
                have HRK := Lib.hid hrk
                have HBW := Lib.hid hbw
                clear hcell hon hrk hbw
                by_cases htn : f.code.length ≤ t
                · have hd2 := hri.dl
                  rw [next1_out (by omega)] at hns
                  rw [if_neg (by simp)] at hns
                  have hfl := HFL.out
                  rw [hns, if_neg (by simp)] at hfl
                  have HFL2 := Lib.hid hfl
                  have HD2 := Lib.hid hd2
                  have htn2 : (f.code.length : Int) ≤ t := by omega
                  clear hfl hns hri hd2
                  go_wp2_with fail
                  go_quiet (fail)
                  go_wp2_with fail
                  go_returns
                  unfold ReaR
                  rw [← HFL2.out]
                  exact ⟨_, D', rfl, .inr ⟨w.heap.size + 1, by rw [HD2.out]; rfl, by omega, (HRK.out.below (below_drewN (Below.refl _ _) _)).hd⟩, fun h => absurd h (by simp), below_drewN HBW.out _⟩
                · have hd2 := hri.dl
                  have htd : t < D'.length := by omega
                  have he2 : D'[t]? = some D'[t] := List.getElem?_eq_getElem htd
                  have d0 := ints_cell HRK.out.hd htd
                  have f0 := HRK.out.hd.fz t
                  have dl0 := HRK.out.hd.lt
                  have hlow := hri.low t _ he2
                  have hbadS := fun h0 hne => rstep_bad (b := b) (waitV D' Q1) hri (show t < f.code.length by omega) he2 h0 hne
                  have hokS := fun hok => rstep_ok (b := b) hri (show t < f.code.length by omega) he2 hok hb0
                  have hset := HRK.out.setD t b
                  generalize D'[t] = e2 at *
                  have HS := Lib.hid hset
                  have HD2 := Lib.hid hd2
                  clear hset he2 hd2 htd
                  by_cases hb2 : 0 ≤ e2 ∧ e2 ≠ b
                  · rw [hbadS hb2.1 hb2.2] at hns
                    rw [if_neg (by simp)] at hns
                    have hfl := HFL.out
                    rw [hns, if_neg (by simp)] at hfl
                    have HFL2 := Lib.hid hfl
                    obtain ⟨g1, g2⟩ := hb2
                    have g3 : (e2 != b) = true := by simpa using g2
                    clear hfl hns hri hbadS hokS g2
                    go_wp2_with fail
                    go_quiet (fail)
                    go_wp2_with fail
                    go_returns
                    unfold ReaR
                    rw [← HFL2.out]
                    exact ⟨_, D', rfl, .inr ⟨w.heap.size + 1, by rw [HD2.out]; rfl, by omega, (HRK.out.below (below_drewN (Below.refl _ _) _)).hd⟩, fun h => absurd h (by simp), below_drewN HBW.out _⟩
                  · obtain ⟨hn1', hri2⟩ := hokS hb2
                    rw [hn1', if_pos rfl] at hns
                    have HNS := Lib.hid hns
                    have HRI2 := Lib.hid hri2
                    have HST2 := Lib.hid (HS.out.below (below_drewN (Below.refl _ _) 0))
                    have hq' : (0 ≤ e2 ∧ e2 = b) ∨ e2 < 0 := by omega
                    clear hns hri hri2 hbadS hokS hn1' hb2
                    rcases hq' with ⟨g1, rfl⟩ | g1
                    · have g2 : (e2 != e2) = false := by simp
                      go_wp2_with fail
                      go_quiet (fail)
                      have HR2 := Lib.hid ((HRK.out.below (below_drewN (Below.refl _ _) nq)).setD t e2)
                      have HB2 := Lib.hid ((below_drewN HBW.out nq).setCell (p := ⟨w.heap.size + 1, t, none⟩) (by show _ ≤ w.heap.size + 1; omega) (.int .i64 e2))
                      have HO2 := Lib.hid ((HON.out.drewN nq).set (.inl rfl) t (.int .i64 e2))
                      go_wp2_with fail
                      go_roundw
                      case rel => exact ⟨k + 1, D'.set t e2, by go_num, by omega, HR2.out, HB2.out, HRI2.out, HO2.out, HNS.out⟩
                      case measure => simp [intOf]; omega
                    · go_wp2_with fail
                      go_quiet (fail)
                      have HR2 := Lib.hid ((HRK.out.below (below_drewN (Below.refl _ _) nq)).setD t b)
                      have HB2 := Lib.hid ((below_drewN HBW.out nq).setCell (p := ⟨w.heap.size + 1, t, none⟩) (by show _ ≤ w.heap.size + 1; omega) (.int .i64 b))
                      have HO2 := Lib.hid ((HON.out.drewN nq).set (.inl rfl) t (.int .i64 b))
                      go_wp2_with fail
                      go_roundw
                      case rel => exact ⟨k + 1, D'.set t b, by go_num, by omega, HR2.out, HB2.out, HRI2.out, HO2.out, HNS.out⟩
                      case measure => simp [intOf]; omega
              · obtain rfl : k = l.length := by omega
                rw [List.drop_length, nexts_nil] at hns
                have hst := HST.out
                have hfl := HFL.out
                rw [hns] at hst hfl
                rw [if_pos rfl] at hfl
                have HST2 := Lib.hid (hst rfl)
                have HFL2 := Lib.hid hfl
                have HRK := Lib.hid hrk
                have HBW := Lib.hid hbw
                have HRI3 := Lib.hid hri
                clear hrk hbw hri hon hns hst hfl
                have hmk : muS f.code.length D' (waitV D' Q1) ≤ K := by
                  have := HST2.out.2
                  have := HMU.out
                  simp only at *
                  omega
                have HMK := Lib.hid hmk
                clear hmk
                go_wp2_with fail
                go_roundw
                case rel => exact ⟨D', Q1, K, HRK.out, HBW.out, HRI3.out, HST2.out.1, HMK.out, HFL2.out⟩
                case measure =>
                  rw [rdI_of HRK.out.hd, rdB_of HRK.out.hq, HM0.out, HM1.out]
                  exact HST2.out.2
end Go.Proofs.YtoeinpiekfmbgaaGreatDoor

/- Layer 8: the document's function, Check, Good, Depths. -/
namespace Go.Proofs.YtoeinpiekfmbgaaGreatDoor
set_option linter.unusedVariables false
set_option linter.unusedSimpArgs false
open Go.RowKit Go.ChangeShapes Go.WideShapes Go.ChangeAt Go.Sort

set_option maxHeartbeats 4000000 in
set_option maxRecDepth 100000 in
theorem rfunction_any {B : Nat} {Ap : Option Addr} {p : List Fun} {f : Fun} {Ac : Option Addr} (c cc : Nat) (hm : ∀ f ∈ p, mayF f = true) (hf : mayF f = true) (w : World) (hp : ProgAt w B Ap p) (hc : CodeAt w B Ac f.code) (hB : B ≤ w.heap.size) :
    Calls Tryz.prog 47 #[.slice Ap p.length c, .agg #[.int .i64 f.ar, .int .i64 f.lo, .int .i64 f.sl, .slice Ac f.code.length cc]] w fun x w' => x = .returned (.tuple #[.int .i64 (funE p f).1, .int .i64 (funE p f).2]) ∧ Below w.heap.size w w' := by
  obtain ⟨hh, hn1, hn, _⟩ := (mayF_iff f).1 hf
  generalize hG : funE p f = R
  have HG := Lib.hid hG
  clear hG hh
  have hx := Held.new w 57 #[.int .i64 f.ar, .int .i64 f.lo, .int .i64 f.sl, .slice Ac f.code.length cc]
  by_cases h1 : f.lo < f.ar
  · have hE := HG.out
    unfold funE at hE
    rw [if_pos h1] at hE
    subst hE
    clear hp hc hm hf hx
    go_enter Tryz.func47, Tryz.ntmps47
    go_wp2_with fail
    go_returns
    exact ⟨rfl, by go_grown⟩
  · have hle : f.ar ≤ f.lo := by omega
    have hb0 : Below w.heap.size w (w.alloc (.cells #[.int .i64 f.ar, .int .i64 f.lo, .int .i64 f.sl, .slice Ac f.code.length cc] 57)) := (Below.refl _ _).alloc (Nat.le_refl _) _
    have HX := Lib.hid hx
    have HB0 := Lib.hid hb0
    have HP := Lib.hid hp
    have HC := Lib.hid hc
    have HM := Lib.hid hm
    have HF := Lib.hid hf
    clear hp hc hm hf hx hb0 h1
    go_enter Tryz.func47, Tryz.ntmps47
    go_wp2_with fail
    go_loopw [6, 7] (fun iv _ W => ∃ k : Nat, iv = .int .i64 k ∧ k ≤ f.code.length ∧ Held W w.heap.size 57 #[.int .i64 f.ar, .int .i64 f.lo, .int .i64 f.sl, .slice Ac f.code.length cc] ∧ Below w.heap.size w W ∧ (∀ x ∈ f.code.take k, fieldI p f x = 0) ∧ firstI p f f.code 0 = firstI p f (f.code.drop k) k) (fun iv _ _ => f.code.length - (intOf iv).toNat)
    case atStart => exact ⟨0, rfl, by omega, HX.out, HB0.out, by simp, by simp⟩
    case round =>
      obtain ⟨k, rfl, hk, hx, hbw, hall, hfi⟩ := hrel
      clear HX HB0
      have hxl := hx.lt
      have e0 := hx.cell 0
      have e1 := hx.cell 1
      have e2 := hx.cell 2
      have e3 := hx.cell 3
      simp at e0 e1 e2 e3
      by_cases hlt : k < f.code.length
      · obtain ⟨bb, off, rfl, hbl, hcc⟩ := HC.out (by omega)
        obtain ⟨a0, a1, a2⟩ := hcc k hlt
        have hbb : bb < w.heap.size := by omega
        replace a0 := (hbw.cell (p := ⟨bb, off + k * 3, none⟩) hbb).trans a0
        replace a1 := (hbw.cell (p := ⟨bb, off + k * 3 + 1, none⟩) hbb).trans a1
        replace a2 := (hbw.cell (p := ⟨bb, off + k * 3 + 2, none⟩) hbb).trans a2
        have htk : f.code.take (k + 1) = f.code.take k ++ [f.code[k]] := List.take_succ_eq_append_getElem hlt
        have CF := fun d os => Lib.hid (rfield_any (A := Ap) (Ac := some ⟨bb, off, none⟩) (p := p) (f := f) c cc f.code[k].1 f.code[k].2.1 f.code[k].2.2 (grow (redrawn wr d) os))
        change ∀ d os, Hid (Calls Tryz.prog 73 #[.slice Ap p.length c, .agg #[.int .i64 f.ar, .int .i64 f.lo, .int .i64 f.sl, .slice (some ⟨bb, off, none⟩) f.code.length cc], .agg #[.int .i64 f.code[k].1, .int .i64 f.code[k].2.1, .int .i64 f.code[k].2.2]] (grow (redrawn wr d) os) fun e w' => e = .returned (.int .i64 (fieldI p f f.code[k])) ∧ Below (grow (redrawn wr d) os).heap.size (grow (redrawn wr d) os) w') at CF
        rw [List.drop_eq_getElem_cons hlt, firstI_cons] at hfi
        have HALL := Lib.hid hall
        have HFI := Lib.hid hfi
        have HTK := Lib.hid htk
        have HX := Lib.hid hx
        have HBW := Lib.hid hbw
        generalize hee : fieldI p f f.code[k] = ee at CF HFI
        have HEE := Lib.hid hee
        clear hee hall hfi htk hcc hx hbw
        generalize f.code[k] = x at *
        have step : ∀ {W : World}, (∃ q : Regrown, W = grow (redrawn wr q.d) q.os) → Below wr.heap.size wr W := fun h => below_of_regrown h
        by_cases he : ee = 0
        · subst he
          go_upto_region 6 with (fail)
          have e0g := fun d os => cell_regrown e0 d os
          have e1g := fun d os => cell_regrown e1 d os
          have e2g := fun d os => cell_regrown e2 d os
          have e3g := fun d os => cell_regrown e3 d os
          have a0g := fun d os => cell_regrown a0 d os
          have a1g := fun d os => cell_regrown a1 d os
          have a2g := fun d os => cell_regrown a2 d os
          clear e0 e1 e2 e3 a0 a1 a2
          refine wp_region_quiet_below (by kernel_rfl) (by kernel_rfl) ?_
          repeat (first
            | go_big_quiet_step ((first
              | (go_at_call 73; (with_reducible exact Calls.regrown_of (CF _ _).out))))
            | quiet_step ((first
              | (go_at_call 73; (with_reducible exact Calls.regrown_of (CF _ _).out)))))
          refine wpQuiet_nil ?_
          intro W2 hv
          have hb := below_of_regrown hv
          clear hv e0g e1g e2g e3g a0g a1g a2g CF
          go_wp2_with fail
          go_roundw
          case rel =>
            refine ⟨k + 1, by go_num, by omega, HX.out.below hb, Below.step HBW.out hb, fun y hy => ?_, by simpa using HFI.out⟩
            rw [HTK.out] at hy
            rcases List.mem_append.1 hy with hy | hy
            · exact HALL.out y hy
            · simp only [List.mem_singleton] at hy
              subst hy
              exact HEE.out
          case measure => simp [intOf]; omega
        · have hne : (ee != 0) = true := by simpa using he
          have hR : R = ((k : Int), ee) := by
            have h1 := HFI.out
            rw [if_neg he] at h1
            have h2 := HG.out
            unfold funE at h2
            rw [if_neg (Int.not_lt.2 hle), h1, if_neg he] at h2
            exact h2.symm
          subst hR
          clear he
          go_upto_region 6 with (fail)
          have e0g := fun d os => cell_regrown e0 d os
          have e1g := fun d os => cell_regrown e1 d os
          have e2g := fun d os => cell_regrown e2 d os
          have e3g := fun d os => cell_regrown e3 d os
          have a0g := fun d os => cell_regrown a0 d os
          have a1g := fun d os => cell_regrown a1 d os
          have a2g := fun d os => cell_regrown a2 d os
          clear e0 e1 e2 e3 a0 a1 a2
          refine wp_region_quiet_below (by kernel_rfl) (by kernel_rfl) ?_
          repeat (first
            | go_big_quiet_step ((first
              | (go_at_call 73; (with_reducible exact Calls.regrown_of (CF _ _).out))))
            | quiet_step ((first
              | (go_at_call 73; (with_reducible exact Calls.regrown_of (CF _ _).out)))))
          refine wpQuiet_nil ?_
          intro W2 hv
          have hb := below_of_regrown hv
          clear hv e0g e1g e2g e3g a0g a1g a2g CF
          go_wp2_with fail
          go_returns
          exact ⟨rfl, Below.step HBW.out hb⟩
      · obtain rfl : k = f.code.length := by omega
        rw [List.take_length] at hall
        have hok := fun_ok HM.out HF.out hall
        have hR : R = (flowF p f.code).2 := by
          have h2 := HG.out
          unfold funE at h2
          rw [if_neg (Int.not_lt.2 hle), first_all _ _ hall, if_pos rfl] at h2
          exact h2.symm
        have FL := Lib.hid (rreach_any (Ac := Ac) c cc hok wr (HP.out.below hbw hB) (HC.out.below hbw hB) (Nat.le_trans hB hbw.size))
        have HBW := Lib.hid hbw
        clear hx hbw hall hfi hok
        subst hR
        go_wp2_with (go_at_call 74; (with_reducible refine FL.out.mono ?_); rintro _ u ⟨y, D, rfl, _, _, hb2⟩)
        go_returns
        exact ⟨rfl, Below.step HBW.out hb2⟩
end Go.Proofs.YtoeinpiekfmbgaaGreatDoor

/- Layer 8: the document's Check, Good, Depths. -/
namespace Go.Proofs.YtoeinpiekfmbgaaGreatDoor
set_option linter.unusedVariables false
set_option linter.unusedSimpArgs false
open Go.RowKit Go.ChangeShapes Go.WideShapes Go.ChangeAt Go.Sort

set_option maxHeartbeats 4000000 in
set_option maxRecDepth 100000 in
theorem rcheck_any {B : Nat} {A : Option Addr} {p : List Fun} (c : Nat) (w : World) (h : ProgAt w B A p) (hz : SizedP p) (hB : B ≤ w.heap.size) :
    Calls Tryz.prog 29 #[.slice A p.length c] w fun x w' => x = .returned (.tuple #[.int .i64 (checkP p).1, .int .i64 (checkP p).2.1, .int .i64 (checkP p).2.2]) ∧ Below w.heap.size w w' := by
  have MY := Lib.hid (pmay_any c w h hz hB)
  have HA := Lib.hid h
  generalize hR : checkP p = R
  have HR := Lib.hid hR
  clear h hR
  cases hm : mayP p with
  | false =>
    have hR := HR.out
    unfold checkP at hR
    rw [if_neg (by rw [hm]; simp)] at hR
    subst hR
    rw [hm] at MY
    clear hm
    go_enter Tryz.func29, Tryz.ntmps29
    go_wp2_with (go_at_call 26; (with_reducible refine MY.out.mono ?_); rintro _ u ⟨rfl, hb⟩)
    go_returns
    exact ⟨rfl, hb⟩
  | true =>
    have hR := HR.out
    unfold checkP at hR
    rw [if_pos hm] at hR
    obtain ⟨hp1, hp2, hmf⟩ := (mayP_iff p).1 hm
    rw [hm] at MY
    have HR2 := Lib.hid hR
    have HMF := Lib.hid hmf
    clear hm hmf hR
    go_enter Tryz.func29, Tryz.ntmps29
    go_wp2_with (go_at_call 26; (with_reducible refine MY.out.mono ?_); rintro _ u ⟨rfl, hb⟩)
    have HB := Lib.hid hb
    clear hb
    go_loopw [5, 6, 7] (fun iv _ _ W => ∃ k : Nat, iv = .int .i64 k ∧ k ≤ p.length ∧ Below w.heap.size w W ∧ firstF p p 0 = firstF p (p.drop k) k) (fun iv _ _ _ => p.length - (intOf iv).toNat)
    case atStart => exact ⟨0, rfl, by omega, HB.out, by simp⟩
    case round =>
      obtain ⟨k, rfl, hk, hbw, hfi⟩ := hrel
      by_cases hlt : k < p.length
      · obtain ⟨bb, off, rfl, hbl, hc⟩ := (HA.out.below hbw hB) (by omega)
        obtain ⟨f0, f1, f2, Ac, cc, f3, hcode⟩ := hc k hlt
        have hmem := HMF.out _ (List.getElem_mem hlt)
        have hws := hbw.size
        rw [List.drop_eq_getElem_cons hlt, firstF_cons] at hfi
        have HBW := Lib.hid hbw
        have HFI := Lib.hid hfi
        have HMEM := Lib.hid hmem
        generalize p[k] = f at *
        have CC := Lib.hid (rfunction_any c cc HMF.out HMEM.out wr (HA.out.below hbw hB) hcode (Nat.le_trans hB hws))
        have hfe : (funE p f) = ((funE p f).1, (funE p f).2) := rfl
        generalize hf1 : (funE p f).1 = e1 at *
        generalize hf2 : (funE p f).2 = e2 at *
        have HF1 := Lib.hid hf1
        have HF2 := Lib.hid hf2
        have HFE := Lib.hid hfe
        clear hc hcode hmem hfi hbw hf1 hf2 hfe
        by_cases he : e2 = 0
        · subst he
          go_wp2_with (go_at_call 47; (with_reducible refine CC.out.mono ?_); rintro _ u3 ⟨rfl, hb3⟩)
          go_roundw
          case rel => exact ⟨k + 1, by go_num, by omega, Below.step HBW.out hb3, by simpa [HF2.out] using HFI.out⟩
          case measure => simp [intOf]; omega
        · have hne : (e2 != 0) = true := by simpa using he
          have hR : R = ((k : Int), e1, e2) := by
            have h1 := HFI.out
            rw [if_neg he, HFE.out] at h1
            exact HR2.out.symm.trans h1
          subst hR
          clear he
          go_wp2_with (go_at_call 47; (with_reducible refine CC.out.mono ?_); rintro _ u3 ⟨rfl, hb3⟩)
          go_returns
          exact ⟨rfl, Below.step HBW.out hb3⟩
      · obtain rfl : k = p.length := by omega
        rw [List.drop_length] at hfi
        have hR : R = (0, 0, 0) := HR2.out.symm.trans hfi
        subst hR
        have HBW := Lib.hid hbw
        clear hbw hfi
        go_wp2_with fail
        go_returns
        exact ⟨rfl, HBW.out⟩

set_option maxHeartbeats 4000000 in
set_option maxRecDepth 100000 in
theorem rgood_any {B : Nat} {A : Option Addr} {p : List Fun} (c : Nat) (w : World) (h : ProgAt w B A p) (hz : SizedP p) (hB : B ≤ w.heap.size) :
    Calls Tryz.prog 14 #[.slice A p.length c] w fun x w' => x = .returned (.bool ((checkP p).2.2 == 0)) ∧ Below w.heap.size w w' := by
  have CK := Lib.hid (rcheck_any c w h hz hB)
  generalize checkP p = R at *
  obtain ⟨r1, r2, r3⟩ := R
  clear h
  go_enter Tryz.func14, Tryz.ntmps14
  go_wp2_with (go_at_call 29; (with_reducible refine CK.out.mono ?_); rintro _ u ⟨rfl, hb⟩)
  go_ret
  exact ⟨rfl, hb⟩

end Go.Proofs.YtoeinpiekfmbgaaGreatDoor

/- Layer 10: the document's Eval. -/
namespace Go.Proofs.YtoeinpiekfmbgaaGreatDoor
set_option linter.unusedVariables false
set_option linter.unusedSimpArgs false
open Gm Go.RowKit Go.ChangeShapes Go.WideShapes Go.ChangeAt Go.Sort

theorem rnew_any {C D : Nat} {A A2 : Option Addr} {p : List Fun} {args : List V} (c c2 : Nat) (fn s : Int) (w : World) (h : ProgAt w C A p) (hz : SizedP p) (hC : C ≤ w.heap.size) (ha : VAt w D A2 args) (hl : args.length ≤ 1000) (hD : D ≤ w.heap.size) :
    Calls Tryz.prog 13 #[.slice A p.length c, .int .i64 fn, .slice A2 args.length c2, .int .i64 s] w (NewQ w (newF p fn args s)) := by
  by_cases hno : mayP p = true ∧ hasI p.length fn = true ∧ isZ s = true
  · exact rnew_yes c c2 fn s w h hz hC ha hl hD hno.1 hno.2.1 hno.2.2
  · exact rnew_no c c2 fn s w h hz hC hno
set_option maxHeartbeats 8000000 in
set_option maxRecDepth 100000 in
theorem reval_any {A A2 : Option Addr} {p : List Fun} {args : List V} (c c2 : Nat) (s fuel : Int) (w : World) (h : ProgAt w w.heap.size A p) (hz : SizedP p) (ha : VAt w w.heap.size A2 args) (hl : args.length ≤ 1000) :
    Calls Tryz.prog 7 #[.slice A p.length c, .slice A2 args.length c2, .int .i64 s, .int .i64 fuel] w fun e w' => e = .returned (tellV (evalP p args s fuel)) ∧ Below w.heap.size w w' := by
  have hb0 : Below w.heap.size w (w.alloc (.cells oz9 32)) := (Below.refl _ _).alloc (Nat.le_refl _) _
  have h8 := Held.new w 32 oz9
  have CN := rnew_any c c2 0 s (w.alloc (.cells oz9 32)) (h.below hb0 (Nat.le_refl _)) hz hb0.size (ha.below hb0 (Nat.le_refl _)) hl hb0.size
  have GD := fun W (hb : Below w.heap.size w W) => Lib.hid (rgood_any c W (h.below hb (Nat.le_refl _)) hz hb.size)
  obtain ⟨EV, hEV⟩ : ∃ R, evalP p args s fuel = R := ⟨_, rfl⟩
  have hno : ¬ canP p args s fuel → EV = (zeroO, 0, 1) := fun hn => by rw [← hEV]; exact evalP_no hn
  have hcan : canP p args s fuel → EV = tellT fuel (runT p fuel.toNat [((newF p 0 args s).1, 0)]) := fun hc => by
    rw [← hEV, evalP_can hc]; unfold tellT; rfl
  rw [hEV]
  obtain ⟨K, nb, hNF⟩ : ∃ K nb, newF p 0 args s = (K, nb) := ⟨_, _, rfl⟩
  have hcp : canP p args s fuel ↔ ((checkP p).2.2 = 0 ∧ 1 ≤ fuel ∧ fuel ≤ 100000 ∧ nb = true) := by unfold canP; rw [hNF]
  have hns := fun (hc : (checkP p).2.2 = 0) (hn : (newF p 0 args s).2 = true) => new_safe hc hn (T := GoodT p)
  have hni := fun (ha : ∀ v ∈ args, gMay v) => new_inv (T := GoodT p) (good0 p) (p := p) (fn := 0) (s := s) ha
  have hnz := new_z p 0 args s
  have hnf : (newF p 0 args s).2 = true → ∀ v ∈ args, gMay v := fun hn => by
    obtain ⟨_, _, _, _, _, _, _, hv, _⟩ := new_facts hn
    exact hv
  rw [hNF] at CN hcan hns hni hnz hnf
  simp only at hcan hns hni hnz hnf
  have HCN := Lib.hid (show Calls Tryz.prog 13 _ (w.alloc (.cells oz9 32)) (fun e w' => ∃ v', e = .returned (.tuple #[v', .bool nb]) ∧ OwnF w' (w.alloc (.cells oz9 32)).heap.size v' K ∧ Below (w.alloc (.cells oz9 32)).heap.size (w.alloc (.cells oz9 32)) w') from CN)
  have HP := Lib.hid (And.intro h hz)
  have HCP := Lib.hid hcp
  have HNS := Lib.hid hns
  have HNI := Lib.hid hni
  have HNZ := Lib.hid hnz
  have HNF := Lib.hid hnf
  have HNO := Lib.hid hno
  have HCAN := Lib.hid hcan
  clear CN hEV hNF h hz ha hl hcp hns hni hnz hnf hno hcan
  generalize hpl : p.length = pl at *
  have HPL := Lib.hid hpl
  generalize hal : args.length = al at *
  clear hal hpl
  go_enter Tryz.func7, Tryz.ntmps7
  go_upto_region 2 with (first
    | (guard_target = wpList _ _ _ (Oper.mk _ (Op.alloc 32) _ _ _ none :: _) _ _; refine wpList_alloc_arr rfl 32 rfl oz9 (by kernel_rfl) ?_)
    | (go_at_call 13; (with_reducible refine HCN.out.mono ?_); rintro _ u ⟨v7, rfl, how, hb7⟩; obtain ⟨ks', kl', ko', rfl, ows, owl, owo⟩ := how; obtain ⟨Ks, ks, rfl, -⟩ := ows.lies; obtain ⟨Kl, kl, rfl, -⟩ := owl.lies; obtain ⟨Ko, ko, rfl, -⟩ := owo.lies; have f11 := Held.new u 45 fz0)
    | (guard_target = wpList _ _ _ (Oper.mk _ (Op.alloc 45) _ _ _ none :: _) _ _; refine wpList_alloc_arr rfl 45 rfl fz0 (by kernel_rfl) ?_)
    | (guard_target = wpList _ _ _ (Oper.mk _ (Op.store 45 (.tmp 11) _) _ _ _ none :: _) _ _; refine wpList_store_row rfl 45 _ _ rfl u.heap.size (fcA K (.slice Ks K.stk.length ks) (.slice Kl K.loc.length kl) (.slice Ko K.slt.length ko)) rfl rfl _ _ f11 (by kernel_rfl) rfl (by simp [Value.oneCell']) ?_))
  have k11 := f11.rowSelf (fcA K (.slice Ks K.stk.length ks) (.slice Kl K.loc.length kl) (.slice Ko K.slt.length ko))
  have hb1 : Below u.heap.size u ((u.alloc (.cells fz0 45)).setRow u.heap.size (fcA K (.slice Ks K.stk.length ks) (.slice Kl K.loc.length kl) (.slice Ko K.slt.length ko))) := below_row ((Below.refl _ _).alloc (Nat.le_refl _) _) (Nat.le_refl _) _
  have hbA := Below.step hb7 hb1
  have ows1 := row_mono (row_later ows hb1) (Nat.zero_le _)
  have owl1 := row_mono (row_later owl hb1) (Nat.zero_le _)
  have owo1 := row_mono (row_later owo hb1) (Nat.zero_le _)
  have g8 := h8.below hbA
  have hb2 := Below.step hb0 hbA
  generalize ((u.alloc (.cells fz0 45)).setRow u.heap.size (fcA K (.slice Ks K.stk.length ks) (.slice Kl K.loc.length kl) (.slice Ko K.slt.length ko))) = W1 at *
  generalize u.heap.size = g11 at *
  have CG := GD W1 hb2
  clear hb1 hbA ows owl owo h8 hb0 f11 hb7 HCN GD
  by_cases hc : canP p args s fuel
  · obtain ⟨c1, c2', c3, c4⟩ := HCP.out.1 hc
    have hE := HCAN.out hc
    obtain ⟨n, rfl⟩ : ∃ n : Nat, fuel = n := ⟨fuel.toNat, by omega⟩
    subst c4
    rw [Int.toNat_natCast] at hE
    obtain ⟨k2, g2, hg2, hs2, hst2⟩ := HNS.out c1 rfl
    have hmay := HNF.out rfl
    have CR := fun W (hb : Below W1.heap.size W1 W) => rrun_any c c1 HP.out.2 n k2 g2 K Ks Kl Ko ks kl ko w.heap.size W ((HP.out.1.below hb2 (Nat.le_refl _)).below (hb.mono hb2.size) (Nat.le_refl _)) (Nat.le_trans hb2.size hb.size) (row_later ows1 hb) (row_later owl1 hb) (row_later owo1 hb) hg2 hs2 (HNI.out hmay) HNZ.out hst2 (by omega)
    have q1 : decide ((n : Int) < 1) = false := decide_eq_false (by omega)
    have q2 : decide ((100000 : Int) < n) = false := decide_eq_false (by omega)
    have cg : ((checkP p).2.2 == 0) = true := by simpa using c1
    rw [cg] at CG
    rw [HPL.out] at CR
    have HFB := Lib.hid (And.intro c2' c3)
    have HRN := Lib.hid CR
    clear CR c1 c2' c3 hg2 hs2 hst2 hmay cg hc ows1 owl1 owo1
    cases hrk : runT p n [(K, 0)] with
    | none =>
      rw [hrk] at hE
      obtain rfl : EV = (zeroO, 0, 100) := hE
      have CR3 := fun W (hb : Below W1.heap.size W1 W) => Lib.hid (HRN.out W hb)
      rw [hrk] at CR3
      have HCR : ∀ W, Below W1.heap.size W1 W → Hid (Calls Tryz.prog 15 #[.slice A pl c, .agg (fcA K (.slice Ks K.stk.length ks) (.slice Kl K.loc.length kl) (.slice Ko K.slt.length ko)), .int .i64 n] W (fun e w' => e = .returned (.tuple #[.agg oz9, .int .i64 (-1)]) ∧ Below W.heap.size W w')) := fun W hb => Lib.hid (CR3 W hb).out
      clear CR3 hrk HRN
      go_upto_region 4 with (go_at_call 14; (with_reducible refine CG.out.mono ?_); rintro _ u8 ⟨rfl, hb8⟩; have k8 := g8.below hb8; have hb3 := Below.step hb2 hb8; have HC8 := HCR _ hb8; have q11 := k11.below hb8)
      go_wp2_with (first
        | (guard_target = wpList _ _ _ (Oper.mk _ (Op.load 45 (.tmp 11)) _ _ _ none :: _) _ _; refine wpList_load_row rfl 45 _ rfl g11 rfl _ _ _ _ q11 Tryz.underlying45 rfl (by kernel_rfl) ?_)
        | (go_at_call 15; (with_reducible refine HC8.out.mono ?_); rintro _ u9 ⟨rfl, hb9x⟩; have f13 := Held.new u9 32 oz9; have h89 := k8.below hb9x; have hbw8 := Below.step hb3 hb9x; have k89 := (h89.alloc (.cells oz9 32)).row (Nat.ne_of_lt h89.lt) oz9; have hb9 := below_row (hbw8.alloc hbw8.size (.cells oz9 32)) hbw8.size oz9)
        | (guard_target = wpList _ _ _ (Oper.mk _ (Op.alloc 32) _ _ _ none :: _) _ _; refine wpList_alloc_arr rfl 32 rfl oz9 (by kernel_rfl) ?_)
        | (guard_target = wpList _ _ _ (Oper.mk _ (Op.store 32 (.tmp 13) _) _ _ _ none :: _) _ _; refine wpList_store_row rfl 32 _ _ rfl u9.heap.size oz9 rfl rfl _ _ f13 (by kernel_rfl) rfl (by simp [Value.oneCell']) ?_)
        | (guard_target = wpList _ _ _ (Oper.mk _ (Op.store 32 (.tmp 8) _) _ _ _ none :: _) _ _; refine wpList_store_row rfl 32 _ _ rfl w.heap.size oz9 rfl rfl _ _ k89 (by kernel_rfl) rfl (by simp [Value.oneCell']) ?_))
      exact bodyPost_ret (v := tellV (zeroO, 0, 100)) (results_ctt rfl _ _ rfl rfl rfl (load_out (k89.rowSelf oz9) rfl)) rfl ⟨rfl, below_row hb9 (Nat.le_refl _) _⟩
    | some om =>
      obtain ⟨o, m⟩ := om
      have hml := runT_left hrk
      rw [hrk] at hE
      obtain rfl : EV = (o, (n : Int) - m, 0) := hE
      have CR3 := fun W (hb : Below W1.heap.size W1 W) => Lib.hid (HRN.out W hb)
      rw [hrk] at CR3
      have HCR : ∀ W, Below W1.heap.size W1 W → Hid (Calls Tryz.prog 15 #[.slice A pl c, .agg (fcA K (.slice Ks K.stk.length ks) (.slice Kl K.loc.length kl) (.slice Ko K.slt.length ko)), .int .i64 n] W (fun e w' => e = .returned (.tuple #[outv o.1 o.2.1 o.2.2, .int .i64 m]) ∧ Below W.heap.size W w')) := fun W hb => Lib.hid (CR3 W hb).out
      have hm0 : (0 : Int) ≤ m := Int.natCast_nonneg m
      have hmn : (m : Int) < n := by omega
      have hn1 : (n : Int) ≤ 100000 := HFB.out.2
      clear CR3 hrk HRN hml
      go_upto_region 4 with (go_at_call 14; (with_reducible refine CG.out.mono ?_); rintro _ u8 ⟨rfl, hb8⟩; have k8 := g8.below hb8; have hb3 := Below.step hb2 hb8; have HC8 := HCR _ hb8; have q11 := k11.below hb8)
      go_upto_region 5 with (first
        | (guard_target = wpList _ _ _ (Oper.mk _ (Op.load 45 (.tmp 11)) _ _ _ none :: _) _ _; refine wpList_load_row rfl 45 _ rfl g11 rfl _ _ _ _ q11 Tryz.underlying45 rfl (by kernel_rfl) ?_)
        | (go_at_call 15; (with_reducible refine HC8.out.mono ?_); rintro _ u9 ⟨rfl, hb9x⟩; have f13 := Held.new u9 32 oz9; have h89 := k8.below hb9x; have hbw8 := Below.step hb3 hb9x; have k89 := (h89.alloc (.cells oz9 32)).row (Nat.ne_of_lt h89.lt) #[.int .i64 o.1, .int .i64 o.2.1, .int .i64 o.2.2]; have hb9 := below_row (hbw8.alloc hbw8.size (.cells oz9 32)) hbw8.size #[.int .i64 o.1, .int .i64 o.2.1, .int .i64 o.2.2])
        | (guard_target = wpList _ _ _ (Oper.mk _ (Op.alloc 32) _ _ _ none :: _) _ _; refine wpList_alloc_arr rfl 32 rfl oz9 (by kernel_rfl) ?_)
        | (guard_target = wpList _ _ _ (Oper.mk _ (Op.store 32 (.tmp 13) _) _ _ _ none :: _) _ _; refine wpList_store_row rfl 32 _ _ rfl u9.heap.size #[.int .i64 o.1, .int .i64 o.2.1, .int .i64 o.2.2] rfl rfl _ _ f13 (by kernel_rfl) rfl (by simp [Value.oneCell']) ?_))
      have k13 := f13.rowSelf #[.int .i64 o.1, .int .i64 o.2.1, .int .i64 o.2.2]
      generalize ((u9.alloc (.cells oz9 32)).setRow u9.heap.size #[.int .i64 o.1, .int .i64 o.2.1, .int .i64 o.2.2]) = W9 at *
      generalize u9.heap.size = g13 at *
      go_wp2_with (first
        | (guard_target = wpList _ _ _ (Oper.mk _ (Op.load 32 (.tmp 13)) _ _ _ none :: _) _ _; refine wpList_load_row rfl 32 _ rfl g13 rfl _ _ _ _ k13 Tryz.underlying32 rfl (by kernel_rfl) ?_)
        | (guard_target = wpList _ _ _ (Oper.mk _ (Op.store 32 (.tmp 8) _) _ _ _ none :: _) _ _; refine wpList_store_row rfl 32 _ _ rfl w.heap.size #[.int .i64 o.1, .int .i64 o.2.1, .int .i64 o.2.2] rfl rfl _ _ k89 (by kernel_rfl) rfl (by simp [Value.oneCell']) ?_))
      exact bodyPost_ret (v := tellV (o, (n : Int) - m, 0)) (results_ctt rfl _ _ rfl rfl rfl (load_out (k89.rowSelf #[.int .i64 o.1, .int .i64 o.2.1, .int .i64 o.2.2]) rfl)) rfl ⟨rfl, below_row hb9 (Nat.le_refl _) _⟩
  · obtain rfl : EV = (zeroO, 0, 1) := HNO.out hc
    have hcs : ((checkP p).2.2 == 0) = false ∨ (((checkP p).2.2 == 0) = true ∧ nb = false) ∨ (((checkP p).2.2 == 0) = true ∧ nb = true ∧ decide (fuel < 1) = true) ∨ (((checkP p).2.2 == 0) = true ∧ nb = true ∧ decide (fuel < 1) = false ∧ decide ((100000 : Int) < fuel) = true) := by
      by_cases e1 : (checkP p).2.2 = 0
      · cases e2 : nb with
        | false => exact .inr (.inl ⟨by simpa using e1, rfl⟩)
        | true =>
          by_cases e3 : fuel < 1
          · exact .inr (.inr (.inl ⟨by simpa using e1, rfl, by simpa using e3⟩))
          · refine .inr (.inr (.inr ⟨by simpa using e1, rfl, by simpa using e3, ?_⟩))
            by_cases e4 : 100000 < fuel
            · simpa using e4
            · exact absurd (HCP.out.2 ⟨e1, by omega, by omega, e2⟩) hc
      · exact .inl (by simpa using e1)
    clear hc HCP HNS HNI HNZ HNF HNO HCAN HP ows1 owl1 owo1 k11
    generalize ((checkP p).2.2 == 0) = ck at *
    rcases hcs with rfl | ⟨rfl, rfl⟩ | ⟨rfl, rfl, e3⟩ | ⟨rfl, rfl, e3, e4⟩
    all_goals
      go_wp2_with (first
        | (go_at_call 14; (with_reducible refine CG.out.mono ?_); rintro _ u8 ⟨rfl, hb8⟩; have k8 := g8.below hb8; have hb3 := Below.step hb2 hb8)
        | (guard_target = wpList _ _ _ (Oper.mk _ (Op.store 32 (.tmp 8) _) _ _ _ none :: _) _ _; refine wpList_store_row rfl 32 _ _ rfl w.heap.size oz9 rfl rfl _ _ k8 (by kernel_rfl) rfl (by simp [Value.oneCell']) ?_))
      exact bodyPost_ret (v := tellV (zeroO, 0, 1)) (results_ctt rfl _ _ rfl rfl rfl (load_out (k8.rowSelf oz9) rfl)) rfl ⟨rfl, below_row hb3 (Nat.le_refl _) _⟩
end Go.Proofs.YtoeinpiekfmbgaaGreatDoor

/- Layer 10: SeqTells: how any program ends, run one task behind the other, and how much it takes, are as the document says. For all programs, arguments, seeds, fuels. -/
namespace Go.Proofs.YtoeinpiekfmbgaaGreatDoor.seqTells
set_option linter.unusedVariables false
set_option linter.unusedSimpArgs false
open Gm Go.RowKit Go.ChangeShapes Go.WideShapes Go.ChangeAt Go.Sort

set_option maxHeartbeats 4000000 in
set_option maxRecDepth 100000 in
theorem out {A A2 : Option Addr} {p : List Fun} {args : List V} (c c2 : Nat) (s fuel : Int) (w : World) (hT : TabB w w.heap.size) (h : ProgAt w w.heap.size A p)
    (hs : (smallP p 300 && decide (args.length ≤ 40)) = false ∨ decide (3000 < fuel) = true) :
    Calls Tryz.prog 3 #[.agg (inpA A p.length c A2 args.length c2 s), .int .i64 fuel] w fun e w' => e = .returned (.bool true) ∧ Below w.heap.size w w' := by
  have F10 := fun W (hw : Below w.heap.size w W) => Lib.hid (fixed10 W ((hT.below hw (Nat.le_refl _)).more hw.size))
  have SM := fun W (hw : Below w.heap.size w W) => Lib.hid (small10 (A2 := A2) c args.length c2 s W ((h.below hw (Nat.le_refl _)).more hw.size))
  clear hT h
  generalize (smallP p 300 && decide (args.length ≤ 40)) = b1 at *
  generalize hb2 : decide (3000 < fuel) = b2 at *
  generalize p.length = pl at *
  generalize args.length = al at *
  have hw0 : Below w.heap.size w (w.alloc (.cells (inpA A pl c A2 al c2 s) 26)) := (Below.refl _ _).alloc (Nat.le_refl _) _
  have hI := Held.new w 26 (inpA A pl c A2 al c2 s)
  cases b1 <;> cases b2 <;> simp at hs
  all_goals go_enter Tryz.func3, Tryz.ntmps3
  all_goals go_wp2_with (first
    | (guard_target = wpList _ _ _ (Oper.mk _ (Op.box 26 _) _ _ _ none :: _) _ _; refine wpList_box_arr rfl 26 (.tmp 0) rfl (inpA A pl c A2 al c2 s) rfl ?_)
    | (go_at_call 5; (with_reducible refine (F10 _ hw0).out.mono ?_); rintro _ u ⟨rfl, hb⟩; replace hI := hI.below hb; replace hw0 := Below.step hw0 hb)
    | (guard_target = wpList _ _ _ (Oper.mk _ (Op.load 26 (.tmp 2)) _ _ _ none :: _) _ _; refine wpList_load_row rfl 26 _ rfl w.heap.size rfl _ _ _ _ hI Tryz.underlying26 rfl (by kernel_rfl) ?_)
    | (go_at_call 4; (with_reducible refine (SM _ hw0).out.mono ?_); rintro _ u ⟨rfl, hb⟩; replace hI := hI.below hb; replace hw0 := Below.step hw0 hb))
  all_goals go_ret
  all_goals exact ⟨rfl, hw0⟩
set_option maxHeartbeats 8000000 in
set_option maxRecDepth 100000 in
theorem good {A A2 : Option Addr} {p : List Fun} {args : List V} (c c2 : Nat) (s fuel : Int) (w : World) (hT : TabB w w.heap.size) (h : ProgAt w w.heap.size A p) (hz : SizedP p) (ha : VAt w w.heap.size A2 args)
    (h1 : (smallP p 300 && decide (args.length ≤ 40)) = true) (h2 : decide (3000 < fuel) = false) {a0 a1 a2 n e : Int} (e1 : evalP p args s fuel = ((a0, (a1, a2)), n, e)) :
    Calls Tryz.prog 3 #[.agg (inpA A p.length c A2 args.length c2 s), .int .i64 fuel] w fun e w' => e = .returned (.bool true) ∧ Below w.heap.size w w' := by
  have F10 := fun W (hw : Below w.heap.size w W) => Lib.hid (fixed10 W ((hT.below hw (Nat.le_refl _)).more hw.size))
  have SM := fun W (hw : Below w.heap.size w W) => Lib.hid (small10 (A2 := A2) c args.length c2 s W ((h.below hw (Nat.le_refl _)).more hw.size))
  rw [h1] at SM
  have hl : args.length ≤ 1000 := by simp only [Bool.and_eq_true, decide_eq_true_eq] at h1; omega
  have EV := Lib.hid (show Ev p A p.length c w from ev_of (c := c) hT h hz)
  have RE := fun W (hw : Below w.heap.size w W) => Lib.hid (reval_any (A2 := A2) (args := args) c c2 s fuel W ((h.below hw (Nat.le_refl _)).more hw.size) hz ((ha.below hw (Nat.le_refl _)).more hw.size) hl)
  have HA := fun W (hw : Below w.heap.size w W) => Lib.hid ((ha.below hw (Nat.le_refl _)).more hw.size)
  have HL := Lib.hid hl
  rw [e1] at RE
  have RV : ∀ W, Below w.heap.size w W → Hid (Calls Tryz.prog 7 #[.slice A p.length c, .slice A2 args.length c2, .int .i64 s, .int .i64 fuel] W fun e' w' => e' = .returned (.tuple #[outv a0 a1 a2, .int .i64 n, .int .i64 e]) ∧ Below W.heap.size W w') := fun W hw => Lib.hid (RE W hw).out
  clear hT h hz ha h1 hl RE
  generalize p.length = pl at *
  generalize hal : args.length = al at *
  have HAL := Lib.hid hal
  clear hal
  have hw0 : Below w.heap.size w (w.alloc (.cells (inpA A pl c A2 al c2 s) 26)) := (Below.refl _ _).alloc (Nat.le_refl _) _
  have hI := Held.new w 26 (inpA A pl c A2 al c2 s)
  have E1 := Lib.hid e1
  clear e1
  go_enter Tryz.func3, Tryz.ntmps3
  go_upto_region 3 with (first
    | (guard_target = wpList _ _ _ (Oper.mk _ (Op.box 26 _) _ _ _ none :: _) _ _; refine wpList_box_arr rfl 26 (.tmp 0) rfl (inpA A pl c A2 al c2 s) rfl ?_)
    | (guard_target = wpList _ _ _ (Oper.mk _ (Op.load 26 (.tmp 2)) _ _ _ none :: _) _ _; refine wpList_load_row rfl 26 _ rfl w.heap.size rfl _ _ _ _ hI Tryz.underlying26 rfl (by kernel_rfl) ?_)
    | (go_at_call 4; (with_reducible refine (SM _ hw0).out.mono ?_); rintro _ u ⟨rfl, hb⟩; replace hI := hI.below hb; replace hw0 := Below.step hw0 hb))
  clear SM h2
  have i0 := hI.cell 0
  have i1 := hI.cell 1
  have i2 := hI.cell 2
  simp at i0 i1 i2
  have hv3 := HA _ hw0
  go_upto_region 4 with (first
    | (go_at_call 6; (with_reducible refine (EV.out.ev _ args al s fuel _ A2 c2 hw0 hv3.out HAL.out (HAL.out ▸ HL.out) E1.out).mono ?_); rintro _ u3 ⟨rfl, hb3⟩; have hz3 := Held.new u3 32 oz0)
    | (guard_target = wpList _ _ _ (Oper.mk _ (Op.alloc 32) _ _ _ none :: _) _ _; refine wpList_alloc_arr rfl 32 rfl oz0 (by kernel_rfl) ?_)
    | (guard_target = wpList _ _ _ (Oper.mk _ (Op.store 32 (.tmp 5) _) _ _ _ none :: _) _ _; refine wpList_store_row rfl 32 _ _ rfl u3.heap.size #[.int .i64 a0, .int .i64 a1, .int .i64 a2] rfl rfl _ _ hz3 (by kernel_rfl) rfl (by simp [Value.oneCell']) ?_))
  obtain ⟨hO3, _, hn3⟩ := out_kept (cs := #[.int .i64 a0, .int .i64 a1, .int .i64 a2]) hb3
  have hs3 := Below.step hb3 hn3
  replace hw0 := Below.step hw0 hs3
  replace hI := hI.below hs3
  generalize (u3.alloc (.cells oz0 32)).setRow u3.heap.size #[.int .i64 a0, .int .i64 a1, .int .i64 a2] = W3 at *
  generalize u3.heap.size = g3 at *
  clear hv3 hb3 hz3 hn3 hs3 i0 i1 i2 EV HA HL HAL E1
  have i0 := hI.cell 0
  have i1 := hI.cell 1
  have i2 := hI.cell 2
  simp at i0 i1 i2
  have CR := RV _ hw0
  go_upto_region 5 with (first
    | (go_at_call 7; (with_reducible refine CR.out.mono ?_); rintro _ u4 ⟨rfl, hb4⟩; have hz4 := Held.new u4 32 oz0)
    | (guard_target = wpList _ _ _ (Oper.mk _ (Op.alloc 32) _ _ _ none :: _) _ _; refine wpList_alloc_arr rfl 32 rfl oz0 (by kernel_rfl) ?_)
    | (guard_target = wpList _ _ _ (Oper.mk _ (Op.store 32 (.tmp 8) _) _ _ _ none :: _) _ _; refine wpList_store_row rfl 32 _ _ rfl u4.heap.size #[.int .i64 a0, .int .i64 a1, .int .i64 a2] rfl rfl _ _ hz4 (by kernel_rfl) rfl (by simp [Value.oneCell']) ?_))
  obtain ⟨hO4, _, hn4⟩ := out_kept (cs := #[.int .i64 a0, .int .i64 a1, .int .i64 a2]) hb4
  have hs4 := Below.step hb4 hn4
  replace hw0 := Below.step hw0 hs4
  replace hI := hI.below hs4
  replace hO3 := hO3.below hs4
  generalize (u4.alloc (.cells oz0 32)).setRow u4.heap.size #[.int .i64 a0, .int .i64 a1, .int .i64 a2] = W4 at *
  generalize u4.heap.size = g4 at *
  clear hb4 hz4 hn4 hs4 i0 i1 i2 CR RV
  have HW := Lib.hid hw0
  have HF := F10 _ hw0
  clear F10 hw0 hI
  go_wp2_with (go_at_call 5; (with_reducible refine HF.out.mono ?_); rintro _ u ⟨rfl, hb⟩; have k3 := hO3.below hb; have k4 := hO4.below hb; have x0 := k3.cell 0; have x1 := k3.cell 1; have x2 := k3.cell 2; have y0 := k4.cell 0; have y1 := k4.cell 1; have y2 := k4.cell 2; simp at x0 x1 x2 y0 y1 y2)
  go_ret
  exact ⟨rfl, Below.step HW.out hb⟩
theorem walk {A A2 : Option Addr} {p : List Fun} {args : List V} (c c2 : Nat) (s fuel : Int) (w : World) (hT : TabB w w.heap.size) (h : ProgAt w w.heap.size A p) (hz : SizedP p) (ha : VAt w w.heap.size A2 args) :
    Calls Tryz.prog 3 #[.agg (inpA A p.length c A2 args.length c2 s), .int .i64 fuel] w fun e w' => e = .returned (.bool true) ∧ Below w.heap.size w w' := by
  cases h1 : (smallP p 300 && decide (args.length ≤ 40)) with
  | false => exact out c c2 s fuel w hT h (.inl h1)
  | true =>
    cases h2 : decide (3000 < fuel) with
    | true => exact out c c2 s fuel w hT h (.inr h2)
    | false =>
      rcases hR1 : evalP p args s fuel with ⟨⟨a0, a1, a2⟩, n, e⟩
      exact good c c2 s fuel w hT h hz ha h1 h2 hR1
set_option maxRecDepth 100000 in
theorem entry {H : Type} {enc : TypeId × Value → H} (W : World) (base : Nat) (v0 v1 : Value) (d0 d1 : DataW H) (p0 p1 : List MemPlace)
    (k0 : Value.okWide Tryz.prog W .any base 26 v0)
    (k1 : Value.okWide Tryz.prog W .any base 3 v1)
    (h0 : DataW.Trod enc Tryz.prog W 0 (fun _ => true) true 26 v0 d0 p0)
    (h1 : DataW.Trod enc Tryz.prog W 0 (fun _ => true) true 3 v1 d1 p1)
    (hT : TabB W W.heap.size) : Calls Tryz.prog 3 #[v0, v1] W fun e w' => e = .returned (.bool true) ∧ Below W.heap.size W w' := by
  obtain ⟨A, c, P, A2, c2, args, s, rfl, hP, hz, hV⟩ := open_input k0 h0
  obtain ⟨fuel, rfl, _, _, _⟩ := open_int Tryz.underlying3 k1 h1
  exact walk c c2 s fuel W hT hP hz hV
end Go.Proofs.YtoeinpiekfmbgaaGreatDoor.seqTells

namespace Go.Proofs.YtoeinpiekfmbgaaGreatDoor.seqTells
open Go.ChangeShapes Go.WideShapes Go.ChangeAt Go.RowKit
set_option linter.unusedVariables false
set_option linter.unusedSimpArgs false

theorem own : ownKnob Tryz.prog.godebug = none := by kernel_rfl
theorem laidOut : laidOutB Tryz.prog = true := by kernel_rfl

set_option maxRecDepth 100000 in
theorem lifted (os : Os) (started : os.Started) (H : Type) (enc : TypeId × Value → H) :
    ReturnsInHanded {} Tryz.checked os 3 .any (fun w args => (Rows.seqTellsSpec.pre enc Tryz.prog Tryz.f3 [] false w args ∧ laidMetH Tryz.prog Rows.seqTellsRow.laid w) ∧ sizedMet enc Tryz.prog Tryz.f3 (OpenSpec.ofChange Rows.seqTellsSpec) false w args) (Rows.seqTellsSpec.post enc Tryz.prog Tryz.f3 false true false false) := by
  refine returnsInHanded_of_change_and (C := Tryz.checked) (X := fun w _ => laidMetH Tryz.prog Rows.seqTellsRow.laid w) (fun _ _ _ hh h => h.of_heap hh) own started (by kernel_rfl) Tryz.func3
    (ChangeSpec.witness_shaped (enc := enc) (C := Tryz.checked) (os := os) (X := fun w _ => laidMetH Tryz.prog Rows.seqTellsRow.laid w) false (World.laidAll Tryz.prog os Rows.seqTellsRow.laid) #[.agg #[.slice none 0 0, .slice none 0 0, .int .i64 0], .int .i64 0] 8 (World.laidAll_os _ _ _)
      (World.shaped_of_ZipB (by kernel_rfl) (by kernel_rfl)) (by kernel_rfl) (by kernel_rfl) (by kernel_rfl)
      (by rw [MakeChecks.laidMetH_plain _ _ _ (by kernel_rfl)]; exact laidMet_laidAll _ (by kernel_rfl) (by kernel_rfl))) ?_
  intro W base args ds gs before hval0 hW _ _ hL _
  have hval : ∀ (j : Nat) t v, Tryz.f3.params[j]? = some t → args[j]? = some v → Value.okWide Tryz.prog W .any base t v := hval0
  have hW' := hW
  have hlt : ∀ x ∈ before, x.block < W.heap.size := fun x hx => hW.lt x hx
  obtain ⟨p, q, hA0, hV, rfl, hfz, hnd⟩ := hW
  have hA : DataW.TrodAll enc Tryz.prog W 0 (fun _ => true) true Tryz.f3.params.toList args.toList ds p := hA0
  have hA1 := hA
  rw [Tryz.params3] at hA hval
  obtain ⟨v0, vs0, d0, ds0, p0, q0, hargs, rfl, rfl, h0, r0⟩ := trodAll_cons hA
  obtain ⟨v1, vs1, d1, ds1, p1, q1, rfl, rfl, rfl, h1, r1⟩ := trodAll_cons r0
  obtain ⟨rfl, rfl, rfl⟩ := trodAll_nil r1
  obtain rfl : args = #[v0, v1] := by cases args; simp_all
  obtain ⟨rfl, rfl⟩ := trodVars_none hV
  clear hA0 hval0
  simp only [List.append_nil] at hW' hlt hA1
  rw [MakeChecks.laidMetH_plain _ _ _ (by kernel_rfl)] at hL
  have hO : Otab W := otab_of_laid (show laidMet Tryz.prog (("transhumance/op.operations", Rows.laid_transhumance_op_operations) :: _) W from hL)
  have hN : Nob W := nob_of_laid (show laidMet Tryz.prog (("transhumance/frame.nobody", Rows.laid_transhumance_frame_nobody) :: _) W from hL.tail)
  have hT := tabB_of hO hN
  refine (entry W base v0 v1 d0 d1 p0 p1 (hval 0 26 v0 rfl rfl) (hval 1 3 v1 rfl rfl) h0 h1 hT).mono fun e W' ⟨he, hg⟩ => ?_
  subst he
  exact ⟨_, rfl, post_kept (pv := []) hW' hg (fun _ _ _ => (trodAll_cons_mk (shut_bool Tryz.underlying4 _) trodAll_mk0)) (fun sp hsp => trodAll_kept laidOut hg (by rw [Tryz.params3]; exact (List.forall_mem_cons.2 ⟨⟨by kernel_rfl, of_decide_eq_true (by kernel_rfl)⟩, (List.forall_mem_cons.2 ⟨⟨by kernel_rfl, of_decide_eq_true (by kernel_rfl)⟩, (List.forall_mem_nil _)⟩)⟩)) hA1 hlt sp hsp) (fun _ _ => rfl) (by simp) (ok_one (by kernel_rfl) rfl (okWide_bool_mk Tryz.underlying4 _))⟩

theorem over : Rows.seqTellsRow.holds Tryz.pinned (OpenSpec.ofChange Rows.seqTellsSpec) :=
  OpenClaim.holds_of_wide 3 Tryz.f3 rfl rfl rfl rfl rfl rfl rfl ⟨rfl, rfl, rfl, rfl, rfl⟩ rfl rfl rfl rfl rfl (by kernel_rfl) Tryz.func3 (by kernel_rfl)
    (of_decide_eq_true (by kernel_rfl)) (by unfold Func.isWrapper; first | (rw [if_pos (by decide +kernel)]; kernel_rfl) | (rw [if_neg (by decide +kernel)]; exact ⟨rfl, rfl⟩))
    (fun os started H enc _ => lifted os started H enc)

theorem proved : Rows.SeqTellsCardSaid :=
  Claim7.holds_tied_plain_at .later [] [.data, .data] true (true, "918bc9387f2216fb82b9ad2ef179a61281965eed2c18a69e5bc85a83ae89c7d7") true over (fun _ h => by cases h) (by kernel_rfl) (fun _ h => by cases h) seqTells_row_tie rfl ⟨rfl, rfl⟩ (by kernel_rfl) rfl
    (fun f fn hf hfn => by
      obtain rfl : f = 3 := Option.some.inj ((show Tryz.prog.funcNamed "transhumance/transhumancelaw10.SeqTells" = some 3 by kernel_rfl).symm.trans hf) |>.symm
      obtain rfl : fn = Tryz.f3 := (Option.some.inj (Tryz.func3.symm.trans hfn)).symm
      exact ⟨by kernel_rfl, fun j t ht => by
        rw [Tryz.params3] at ht
        have hm : t ∈ [26, 3] := by simpa using Array.mem_of_getElem? ht
        have hall : ([26, 3].all fun u => !Tryz.prog.wantsStandIn u) = true := by kernel_rfl
        exact (show Tryz.prog.wantsStandIn t = false by simpa using List.all_eq_true.1 hall t hm)⟩)
    (by kernel_rfl)
end Go.Proofs.YtoeinpiekfmbgaaGreatDoor.seqTells

