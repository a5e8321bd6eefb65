/- Layer 10's code: a task begins. -/
import Derived.Test.YtagjddnpaahebaaGreatDoorzSb
namespace Go.Proofs.YtagjddnpaahebaaGreatDoor
set_option linter.unusedVariables false
set_option linter.unusedSimpArgs false
open Gm Go.RowKit Go.ChangeShapes Go.WideShapes Go.ChangeAt Go.Sort

abbrev tz0 : Array Value := #[.int .i64 0, .int .i64 0, .slice none 0 0, .slice none 0 0, .slice none 0 0, .int .i64 0, .int .i64 0, .int .i64 0, .int .i64 0, .int .i64 0, .int .i64 0, .int .i64 0, .int .i64 0, .int .i64 0, .int .i64 0, .int .i64 0, .int .i64 0]
theorem infoT : (Tryz.prog.info? 126).map (fun i => (i.zero, i.size, i.bytes)) = some (some (.agg tz0), 17, 184) := by kernel_rfl
section
variable {B r : Nat} {pv v : Value} {fuel used : Int} {l : List TskC}
theorem RunS.push {w w' : World} (h : RunS w B r pv fuel used v l) {v' : Value} {x : TskC} (hx : TskOk w x) (ho : w'.ownsRow B 126 17 v' (l.length + 1) (flatT (l ++ [x]))) (hg : w.grownBy w' v.ownBlock) (hB : B ≤ w.heap.size) :
    RunS (w'.setCell ⟨r, 3, none⟩ v') B r pv fuel used v' (l ++ [x]) ∧ KS B w (w'.setCell ⟨r, 3, none⟩ v') := by
  have hr : w'.heap[r]? = w.heap[r]? := hg.block r h.rlt (fun e => h.vr e.symm)
  have hb : Held w' r 63 #[pv, .int .i64 fuel, .int .i64 used, v] := hr.trans h.blk
  have hk : KT w w' := KT.grown hg fun k o t fr e hh => by
    rcases h.row.2 with ⟨rfl, _⟩ | ⟨g', cap, cur, rfl, _, hh2, _⟩
    · simp [Value.ownBlock] at e
    · simp only [Value.ownBlock, Option.some.injEq] at e
      subst e
      rw [hh2] at hh
      simp at hh
      exact hh.2.1.symm
  have hk2 : KT w (w'.setCell ⟨r, 3, none⟩ v') := hk.trans (KT.cell hb (.inl rfl) _ _)
  have hvr : v'.ownBlock ≠ some r := fun e => row_apart ho hb tyrt r e rfl
  refine ⟨⟨by have := hb.set_at 3 v'; exact this, h.ler, ?_, fun y hy => ?_⟩, ⟨?_, hk2⟩⟩
  · rw [List.length_append, List.length_singleton]
    exact row_same ho fun g' e => Below.heap_setCell w' ⟨r, 3, none⟩ _ g' (row_apart ho hb tyrt g' e)
  · rcases List.mem_append.1 hy with h2 | h2
    · exact (h.ok y h2).kt hk2
    · rw [List.mem_singleton] at h2
      subst h2
      exact hx.kt hk2
  · exact ((Below.refl _ _).grown hg hB (fun k hk => (h.row.lt k hk).1)).setCell (p := ⟨r, 3, none⟩) h.ler _
/-- A task more. -/
theorem step_append_tsk {w : World} {ops : Array Oper} {o : Oper} {a : Act} {K : Act → World → Prop} {Q : Exit → Act → World → Prop} {E : Prop} (hg : o.guard = none) (s x : Operand)
    (hop : o.op = Op.call { callee := Callee.builtin Builtin.append, args := #[s, x], argTypes := #[61, 61] })
    (w0 : World) (x0 : TskC) (cs : Array Value) (hcs : cs.toList = x0.cs.toList ++ [.int .i64 x0.sl]) (hw : w = w0.alloc (.cells cs 126)) (hs : a.eval s = v) (own : RunS w0 B r pv fuel used v l) (hx0 : TskOk w0 x0)
    (hx : a.eval x = .slice (some ⟨w0.heap.size, 0, none⟩) 1 1) (hlen : l.length ≤ 1000000) (hB : B ≤ w0.heap.size)
    (h : ∀ g cap w', w'.ownsRow B 126 17 (.slice (some ⟨g, 0, none⟩) (l.length + 1) cap) (l.length + 1) (flatT (l ++ [x0])) → w0.grownBy w' v.ownBlock → K (a.put o.dst (.slice (some ⟨g, 0, none⟩) (l.length + 1) cap)) w') :
    if Region.wanted o (yielded ops a.tmps) = true then Oper.wp Tryz.prog o a w K Q else E := by
  subst hw
  obtain ⟨q, hi, hz0, hz1, hz2⟩ := info_parts infoT
  have own' : (w0.alloc (.cells cs 126)).ownsRow B 126 17 v l.length (flatT l) := own.row.alloc _
  have hsz : cs.size = 17 := by
    have := congrArg List.length hcs
    have h16 := hx0.fc.size
    simpa [h16] using this
  refine step_append_lies (P := Tryz.prog) (Q := Q) _ hg s x 61 hop B 126 q (.agg tz0) 17 184 Tryz.underlying61 hi hz0 hz1 hz2 rfl (by decide) v l.length (flatT l) hs own' ⟨w0.heap.size, 0, none⟩ 1 1
    cs.toList hx (by simpa using hsz) (World.news_of_block (heap_alloc_last w0 _)) ?_ (by decide) (by unfold maxLen; omega) (by omega) (by simp; omega) _ rfl ?_
  · intro u hu
    rw [hcs] at hu
    rcases List.mem_append.1 hu with h1 | h1
    · exact (Array.all_eq_true_iff_forall_mem.1 hx0.fc.one) u (by simpa using h1)
    · rw [List.mem_singleton] at h1; subst h1; rfl
  · intro g cap w' h1 h2 h3 h4
    have hg2 : w0.grownBy w' v.ownBlock := ⟨h2.os, h2.tape, h2.output, Nat.le_trans (by simp) h2.size, fun k hk hne => (h2.block k (by simp; omega) hne).trans (Below.heap_alloc w0 _ k hk)⟩
    refine h g cap w' ?_ hg2
    rw [flatT_append, flatT_one, ← hcs]
    exact h1
end
set_option maxHeartbeats 4000000 in
set_option maxRecDepth 100000 in
theorem sbegin_any {B r : Nat} {pv v : Value} {fuel used : Int} {l : List TskC} {cs : Array Value} {f : Frm} (sl : Int) (w : World) (h : RunS w B r pv fuel used v l) (hx : TskOk w ⟨cs, f, sl⟩) (hl : l.length ≤ 1000000) (hB : B ≤ w.heap.size) :
    Calls Tryz.prog 54 #[.pointer (some ⟨r, 0, none⟩), .agg cs, .int .i64 sl] w fun e w' => e = .returned (.tuple #[]) ∧ ∃ v', RunS w' B r pv fuel used v' (l ++ [⟨cs, f, sl⟩]) ∧ KS B w w' := by
  obtain ⟨s, lo, o, e, o1, o2, o3⟩ := hx.own
  obtain ⟨A1, c1, rfl, _⟩ := o1.lies
  obtain ⟨A2, c2, rfl, _⟩ := o2.lies
  obtain ⟨A3, c3, rfl, _⟩ := o3.lies
  simp only [Value.agg.injEq] at e
  subst e
  obtain ⟨A, c, rfl⟩ := h.slice
  clear o1 o2 o3
  have HH := Lib.hid h
  have HX := Lib.hid hx
  have HL := Lib.hid hl
  have HB := Lib.hid hB
  have r3 := h.blk.cell 3
  have rl := h.rlt
  simp at r3
  clear h hx hl hB
  go_enter Tryz.func54, Tryz.ntmps54
  go_upto_region 1 with (first | (refine wpList_box_arr rfl _ _ rfl _ rfl ?_))
  have hF : Held (w.alloc (.cells #[.int .i64 f.fn, .int .i64 f.pc, .slice A1 f.stk.length c1, .slice A2 f.loc.length c2, .slice A3 f.slt.length c3, .int .i64 f.seed, .int .i64 f.spn, .int .i64 f.drw, .int .i64 f.st, .int .i64 f.wt, .int .i64 f.otr, .int .i64 f.ore, .int .i64 f.oim, .int .i64 f.uat, .int .i64 f.ugn, .int .i64 f.usl] 58)) w.heap.size 58 #[.int .i64 f.fn, .int .i64 f.pc, .slice A1 f.stk.length c1, .slice A2 f.loc.length c2, .slice A3 f.slt.length c3, .int .i64 f.seed, .int .i64 f.spn, .int .i64 f.drw, .int .i64 f.st, .int .i64 f.wt, .int .i64 f.otr, .int .i64 f.ore, .int .i64 f.oim, .int .i64 f.uat, .int .i64 f.ugn, .int .i64 f.usl] := Held.new w _ _
  have hbw : Below w.heap.size w (w.alloc (.cells #[.int .i64 f.fn, .int .i64 f.pc, .slice A1 f.stk.length c1, .slice A2 f.loc.length c2, .slice A3 f.slt.length c3, .int .i64 f.seed, .int .i64 f.spn, .int .i64 f.drw, .int .i64 f.st, .int .i64 f.wt, .int .i64 f.otr, .int .i64 f.ore, .int .i64 f.oim, .int .i64 f.uat, .int .i64 f.ugn, .int .i64 f.usl] 58)) := (Below.refl w.heap.size w).alloc (Nat.le_refl _) _
  generalize hW1 : w.alloc (.cells #[.int .i64 f.fn, .int .i64 f.pc, .slice A1 f.stk.length c1, .slice A2 f.loc.length c2, .slice A3 f.slt.length c3, .int .i64 f.seed, .int .i64 f.spn, .int .i64 f.drw, .int .i64 f.st, .int .i64 f.wt, .int .i64 f.otr, .int .i64 f.ore, .int .i64 f.oim, .int .i64 f.uat, .int .i64 f.ugn, .int .i64 f.usl] 58) = W1 at *
  have hB1 : B ≤ W1.heap.size := Nat.le_trans HB.out hbw.size
  have H1 := Lib.hid (HH.out.below hbw)
  have X1 := Lib.hid (HX.out.kt (KT.of_below hbw))
  have K1 := Lib.hid (KS.of hbw HB.out)
  generalize w.heap.size = b1 at *
  have hrb : r ≠ b1 := held_ne H1.out.blk hF (by decide)
  have hbr : b1 ≠ r := Ne.symm hrb
  have H2 := Lib.hid (H1.out.below (Below.refl _ _).drew)
  have X2 := Lib.hid (X1.out.kt (KT.of_below (Below.refl _ _).drew))
  have K2 := Lib.hid (K1.out.trans (KS.of (Below.refl W1.heap.size W1).drew hB1))
  have hS := Held.below hF (Below.refl _ _).drew
  have hB2 : B ≤ W1.drew.heap.size := hB1
  clear hF H1 X1 K1 hB1 HH HX hW1 hbw
  refine wp_region_held_drew (S := fun W => Held W b1 58 #[.int .i64 f.fn, .int .i64 f.pc, .slice A1 f.stk.length c1, .slice A2 f.loc.length c2, .slice A3 f.slt.length c3, .int .i64 f.seed, .int .i64 f.spn, .int .i64 f.drw, .int .i64 f.st, .int .i64 f.wt, .int .i64 f.otr, .int .i64 f.ore, .int .i64 f.oim, .int .i64 f.uat, .int .i64 f.ugn, .int .i64 f.usl]) (by kernel_rfl) hS (fun hS0 => ?_)
  generalize W1.drew = W2 at *
  show wpAnyH _ _ _ _ _ 13 #[false, false, false, false, false, false, false, false, false, false, false, false, false] _ _
  clear hS
  refine wpAnyH_take (i := 0) (v := .pointer (some ⟨r, 0, none⟩)) rfl (by kernel_rfl) (by kernel_rfl) (by kernel_rfl) (fun _ _ _ h => h) (Or.inl ⟨by rfl, fun W hW => ?_⟩) hS0 ?_
  · go_simp
  simp only [Act.put, List.getElem_toArray, List.getElem_cons_succ, List.getElem_cons_zero, List.setIfInBounds_toArray, List.set_cons_zero, List.set_cons_succ]
  refine wpAnyH_take (i := 1) (v := .pointer (some ⟨r, 0, none⟩)) rfl (by kernel_rfl) (by kernel_rfl) (by kernel_rfl) (fun _ _ _ h => h) (Or.inl ⟨by rfl, fun W hW => ?_⟩) hS0 ?_
  · go_simp
  simp only [Act.put, List.getElem_toArray, List.getElem_cons_succ, List.getElem_cons_zero, List.setIfInBounds_toArray, List.set_cons_zero, List.set_cons_succ]
  refine wpAnyH_take (i := 2) (v := .pointer (some ⟨r, 0, none⟩)) rfl (by kernel_rfl) (by kernel_rfl) (by kernel_rfl) (fun _ _ _ h => h) (Or.inl ⟨by rfl, fun W hW => ?_⟩) hS0 ?_
  · go_simp
  simp only [Act.put, List.getElem_toArray, List.getElem_cons_succ, List.getElem_cons_zero, List.setIfInBounds_toArray, List.set_cons_zero, List.set_cons_succ]
  refine wpAnyH_take (i := 3) (v := .pointer (some ⟨r, 3, none⟩)) rfl (by kernel_rfl) (by kernel_rfl) (by kernel_rfl) (fun _ _ _ h => h) (Or.inl ⟨by rfl, fun W hW => ?_⟩) hS0 ?_
  · go_simp
  simp only [Act.put, List.getElem_toArray, List.getElem_cons_succ, List.getElem_cons_zero, List.setIfInBounds_toArray, List.set_cons_zero, List.set_cons_succ]
  refine wpAnyH_take (i := 5) (v := .agg #[.int .i64 f.fn, .int .i64 f.pc, .slice A1 f.stk.length c1, .slice A2 f.loc.length c2, .slice A3 f.slt.length c3, .int .i64 f.seed, .int .i64 f.spn, .int .i64 f.drw, .int .i64 f.st, .int .i64 f.wt, .int .i64 f.otr, .int .i64 f.ore, .int .i64 f.oim, .int .i64 f.uat, .int .i64 f.ugn, .int .i64 f.usl]) rfl (by kernel_rfl) (by kernel_rfl) (by kernel_rfl) (fun _ _ _ h => h) (Or.inl ⟨by rfl, fun W hW => ?_⟩) hS0 ?_
  · (have q0 := hW.cell 0; have q1 := hW.cell 1; have q2 := hW.cell 2; have q3 := hW.cell 3; have q4 := hW.cell 4; have q5 := hW.cell 5; have q6 := hW.cell 6; have q7 := hW.cell 7; have q8 := hW.cell 8; have q9 := hW.cell 9; have q10 := hW.cell 10; have q11 := hW.cell 11; have q12 := hW.cell 12; have q13 := hW.cell 13; have q14 := hW.cell 14; have q15 := hW.cell 15; simp at q0 q1 q2 q3 q4 q5 q6 q7 q8 q9 q10 q11 q12 q13 q14 q15; go_simp)
  simp only [Act.put, List.getElem_toArray, List.getElem_cons_succ, List.getElem_cons_zero, List.setIfInBounds_toArray, List.set_cons_zero, List.set_cons_succ]
  refine wpAnyH_take (i := 6) (v := .int .i64 sl) rfl (by kernel_rfl) (by kernel_rfl) (by kernel_rfl) (fun _ _ _ h => h) (Or.inl ⟨by rfl, fun W hW => ?_⟩) hS0 ?_
  · go_simp
  simp only [Act.put, List.getElem_toArray, List.getElem_cons_succ, List.getElem_cons_zero, List.setIfInBounds_toArray, List.set_cons_zero, List.set_cons_succ]
  refine wpAnyH_take (i := 7) (v := .agg #[.int .i64 f.fn, .int .i64 f.pc, .slice A1 f.stk.length c1, .slice A2 f.loc.length c2, .slice A3 f.slt.length c3, .int .i64 f.seed, .int .i64 f.spn, .int .i64 f.drw, .int .i64 f.st, .int .i64 f.wt, .int .i64 f.otr, .int .i64 f.ore, .int .i64 f.oim, .int .i64 f.uat, .int .i64 f.ugn, .int .i64 f.usl, .int .i64 sl]) rfl (by kernel_rfl) (by kernel_rfl) (by kernel_rfl) (fun _ _ _ h => h) (Or.inl ⟨by rfl, fun W hW => ?_⟩) hS0 ?_
  · go_simp
  simp only [Act.put, List.getElem_toArray, List.getElem_cons_succ, List.getElem_cons_zero, List.setIfInBounds_toArray, List.set_cons_zero, List.set_cons_succ]
  have r3 := H2.out.blk.cell 3
  have rl1 := H2.out.rlt
  simp at r3
  have r3b := (((Below.refl W2.heap.size W2).alloc (Nat.le_refl _) (.cells #[.int .i64 f.fn, .int .i64 f.pc, .slice A1 f.stk.length c1, .slice A2 f.loc.length c2, .slice A3 f.slt.length c3, .int .i64 f.seed, .int .i64 f.spn, .int .i64 f.drw, .int .i64 f.st, .int .i64 f.wt, .int .i64 f.otr, .int .i64 f.ore, .int .i64 f.oim, .int .i64 f.uat, .int .i64 f.ugn, .int .i64 f.usl, .int .i64 sl] 126)).cell (p := ⟨r, 3, none⟩) rl1).trans r3
  have hSA := Held.alloc hS0 (.cells #[.int .i64 f.fn, .int .i64 f.pc, .slice A1 f.stk.length c1, .slice A2 f.loc.length c2, .slice A3 f.slt.length c3, .int .i64 f.seed, .int .i64 f.spn, .int .i64 f.drw, .int .i64 f.st, .int .i64 f.wt, .int .i64 f.otr, .int .i64 f.ore, .int .i64 f.oim, .int .i64 f.uat, .int .i64 f.ugn, .int .i64 f.usl, .int .i64 sl] 126)
  have hne : (Value.slice A l.length c).ownBlock ≠ some b1 := fun e => row_apart H2.out.row hS0 tyFt b1 e rfl
  have hbl := hS0.lt
  refine wpAnyH_ready (rs := [4, 8]) (by kernel_rfl) (by simp) ?_
  refine (AllReadyH.cons rfl (fun K hK => ?_) (AllReadyH.cons rfl (fun K hK => ?_) AllReadyH.nil))
  · go_simp
    refine hK.out _ _ hS0 (fun _ => ?_)
    clear hK K
    (try simp only [Act.put, List.getElem_toArray, List.getElem_cons_succ, List.getElem_cons_zero, List.setIfInBounds_toArray, List.set_cons_zero, List.set_cons_succ])
    refine wpAnyH_ready (rs := [8]) (by kernel_rfl) (by simp) ?_
    refine (AllReadyH.cons rfl (fun K hK => ?_) AllReadyH.nil)
    go_simp
    refine hK.out _ _ hSA (fun _ => ?_)
    clear hK K
    (try simp only [Act.put, List.getElem_toArray, List.getElem_cons_succ, List.getElem_cons_zero, List.setIfInBounds_toArray, List.set_cons_zero, List.set_cons_succ])
    refine wpAnyH_ready (rs := [9]) (by kernel_rfl) (by simp) ?_
    refine (AllReadyH.cons rfl (fun K hK => ?_) AllReadyH.nil)
    refine step_append_tsk (by rfl) _ _ (by rfl) W2 ⟨#[.int .i64 f.fn, .int .i64 f.pc, .slice A1 f.stk.length c1, .slice A2 f.loc.length c2, .slice A3 f.slt.length c3, .int .i64 f.seed, .int .i64 f.spn, .int .i64 f.drw, .int .i64 f.st, .int .i64 f.wt, .int .i64 f.otr, .int .i64 f.ore, .int .i64 f.oim, .int .i64 f.uat, .int .i64 f.ugn, .int .i64 f.usl], f, sl⟩ _ rfl rfl (by rfl) H2.out X2.out (by rfl) HL.out hB2 ?_
    intro g9 cap9 u ho hg
    obtain ⟨hR, hK9⟩ := RunS.push H2.out X2.out ho hg hB2
    have hRu : Held u r 63 _ := (hg.block r rl1 (fun e => H2.out.vr e.symm)).trans H2.out.blk
    have hu3 := hRu.cell 3
    have z3 := hRu.fz 3
    have hFu : Held u b1 58 #[.int .i64 f.fn, .int .i64 f.pc, .slice A1 f.stk.length c1, .slice A2 f.loc.length c2, .slice A3 f.slt.length c3, .int .i64 f.seed, .int .i64 f.spn, .int .i64 f.drw, .int .i64 f.st, .int .i64 f.wt, .int .i64 f.otr, .int .i64 f.ore, .int .i64 f.oim, .int .i64 f.uat, .int .i64 f.ugn, .int .i64 f.usl] := (hg.block b1 hbl (fun e => hne e.symm)).trans hS0
    simp at hu3
    refine hK.out _ _ hFu (fun _ => ?_)
    clear hK K
    simp only [Act.put, List.getElem_toArray, List.getElem_cons_succ, List.getElem_cons_zero, List.setIfInBounds_toArray, List.set_cons_zero, List.set_cons_succ]
    refine wpAnyH_take (i := 10) (v := .pointer (some ⟨r, 0, none⟩)) rfl (by kernel_rfl) (by kernel_rfl) (by kernel_rfl) (fun _ _ _ h => h) (Or.inl ⟨by rfl, fun W hW => ?_⟩) hFu ?_
    · go_simp
    simp only [Act.put, List.getElem_toArray, List.getElem_cons_succ, List.getElem_cons_zero, List.setIfInBounds_toArray, List.set_cons_zero, List.set_cons_succ]
    refine wpAnyH_take (i := 11) (v := .pointer (some ⟨r, 3, none⟩)) rfl (by kernel_rfl) (by kernel_rfl) (by kernel_rfl) (fun _ _ _ h => h) (Or.inl ⟨by rfl, fun W hW => ?_⟩) hFu ?_
    · go_simp
    simp only [Act.put, List.getElem_toArray, List.getElem_cons_succ, List.getElem_cons_zero, List.setIfInBounds_toArray, List.set_cons_zero, List.set_cons_succ]
    refine wpAnyH_ready (rs := [12]) (by kernel_rfl) (by simp) ?_
    refine (AllReadyH.cons rfl (fun K hK => ?_) AllReadyH.nil)
    clear ho hg r3 r3b
    go_simp
    refine hK.out _ _ ((Below.heap_setCell u ⟨r, 3, none⟩ _ b1 hbr).trans hFu) (fun _ => ?_)
    clear hK K
    (try simp only [Act.put, List.getElem_toArray, List.getElem_cons_succ, List.getElem_cons_zero, List.setIfInBounds_toArray, List.set_cons_zero, List.set_cons_succ])
    refine wpAnyH_done (by kernel_rfl) ?_ _
    go_wp2_with fail
    go_end0
    exact ⟨rfl, ⟨_, hR⟩, K2.out.trans hK9⟩
  · go_simp
    refine hK.out _ _ hSA (fun _ => ?_)
    clear hK K
    (try simp only [Act.put, List.getElem_toArray, List.getElem_cons_succ, List.getElem_cons_zero, List.setIfInBounds_toArray, List.set_cons_zero, List.set_cons_succ])
    refine wpAnyH_ready (rs := [4]) (by kernel_rfl) (by simp) ?_
    refine (AllReadyH.cons rfl (fun K hK => ?_) AllReadyH.nil)
    go_simp
    refine hK.out _ _ hSA (fun _ => ?_)
    clear hK K
    (try simp only [Act.put, List.getElem_toArray, List.getElem_cons_succ, List.getElem_cons_zero, List.setIfInBounds_toArray, List.set_cons_zero, List.set_cons_succ])
    refine wpAnyH_ready (rs := [9]) (by kernel_rfl) (by simp) ?_
    refine (AllReadyH.cons rfl (fun K hK => ?_) AllReadyH.nil)
    refine step_append_tsk (by rfl) _ _ (by rfl) W2 ⟨#[.int .i64 f.fn, .int .i64 f.pc, .slice A1 f.stk.length c1, .slice A2 f.loc.length c2, .slice A3 f.slt.length c3, .int .i64 f.seed, .int .i64 f.spn, .int .i64 f.drw, .int .i64 f.st, .int .i64 f.wt, .int .i64 f.otr, .int .i64 f.ore, .int .i64 f.oim, .int .i64 f.uat, .int .i64 f.ugn, .int .i64 f.usl], f, sl⟩ _ rfl rfl (by rfl) H2.out X2.out (by rfl) HL.out hB2 ?_
    intro g9 cap9 u ho hg
    obtain ⟨hR, hK9⟩ := RunS.push H2.out X2.out ho hg hB2
    have hRu : Held u r 63 _ := (hg.block r rl1 (fun e => H2.out.vr e.symm)).trans H2.out.blk
    have hu3 := hRu.cell 3
    have z3 := hRu.fz 3
    have hFu : Held u b1 58 #[.int .i64 f.fn, .int .i64 f.pc, .slice A1 f.stk.length c1, .slice A2 f.loc.length c2, .slice A3 f.slt.length c3, .int .i64 f.seed, .int .i64 f.spn, .int .i64 f.drw, .int .i64 f.st, .int .i64 f.wt, .int .i64 f.otr, .int .i64 f.ore, .int .i64 f.oim, .int .i64 f.uat, .int .i64 f.ugn, .int .i64 f.usl] := (hg.block b1 hbl (fun e => hne e.symm)).trans hS0
    simp at hu3
    refine hK.out _ _ hFu (fun _ => ?_)
    clear hK K
    simp only [Act.put, List.getElem_toArray, List.getElem_cons_succ, List.getElem_cons_zero, List.setIfInBounds_toArray, List.set_cons_zero, List.set_cons_succ]
    refine wpAnyH_take (i := 10) (v := .pointer (some ⟨r, 0, none⟩)) rfl (by kernel_rfl) (by kernel_rfl) (by kernel_rfl) (fun _ _ _ h => h) (Or.inl ⟨by rfl, fun W hW => ?_⟩) hFu ?_
    · go_simp
    simp only [Act.put, List.getElem_toArray, List.getElem_cons_succ, List.getElem_cons_zero, List.setIfInBounds_toArray, List.set_cons_zero, List.set_cons_succ]
    refine wpAnyH_take (i := 11) (v := .pointer (some ⟨r, 3, none⟩)) rfl (by kernel_rfl) (by kernel_rfl) (by kernel_rfl) (fun _ _ _ h => h) (Or.inl ⟨by rfl, fun W hW => ?_⟩) hFu ?_
    · go_simp
    simp only [Act.put, List.getElem_toArray, List.getElem_cons_succ, List.getElem_cons_zero, List.setIfInBounds_toArray, List.set_cons_zero, List.set_cons_succ]
    refine wpAnyH_ready (rs := [12]) (by kernel_rfl) (by simp) ?_
    refine (AllReadyH.cons rfl (fun K hK => ?_) AllReadyH.nil)
    clear ho hg r3 r3b
    go_simp
    refine hK.out _ _ ((Below.heap_setCell u ⟨r, 3, none⟩ _ b1 hbr).trans hFu) (fun _ => ?_)
    clear hK K
    (try simp only [Act.put, List.getElem_toArray, List.getElem_cons_succ, List.getElem_cons_zero, List.setIfInBounds_toArray, List.set_cons_zero, List.set_cons_succ])
    refine wpAnyH_done (by kernel_rfl) ?_ _
    go_wp2_with fail
    go_end0
    exact ⟨rfl, ⟨_, hR⟩, K2.out.trans hK9⟩
end Go.Proofs.YtagjddnpaahebaaGreatDoor

