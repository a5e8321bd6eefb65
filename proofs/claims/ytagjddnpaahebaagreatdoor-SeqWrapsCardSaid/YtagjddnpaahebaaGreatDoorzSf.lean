/- Layer 10's code: a task ends. -/
import Derived.Test.YtagjddnpaahebaaGreatDoorzSqd
import Derived.Test.YtagjddnpaahebaaGreatDoorzSqb
import Derived.Test.YtagjddnpaahebaaGreatDoorzGe
import Derived.Test.YtagjddnpaahebaaGreatDoorzGa
namespace Go.Proofs.YtagjddnpaahebaaGreatDoor
set_option linter.unusedVariables false
set_option linter.unusedSimpArgs false
open Gm Go.RowKit Go.ChangeShapes Go.WideShapes Go.ChangeAt Go.Sort

theorem tyOV : 32 ≠ 30 := by decide
theorem tyOS : 32 ≠ 83 := by decide
theorem low_nat (n : Nat) : (((n + 1 : Nat) : Int) - 1) = (n : Int) := by omega
theorem lt_nat (n : Nat) : (n : Int) < ((n + 1 : Nat) : Int) := by omega
/-- The tasks as the machine has them: the last one first. -/
def revT (l : List TskC) : List Tsk := l.reverse.map TskC.t
theorem revT_snoc (l : List TskC) (x : TskC) : revT (l ++ [x]) = x.t :: revT l := by simp [revT]
def tskA (x : TskC) : Array Value := (x.cs.toList ++ [Value.int .i64 x.sl]).toArray
set_option maxHeartbeats 8000000 in
set_option maxRecDepth 100000 in
theorem send_any {B r np c : Nat} {A : Option Addr} {p : List Fun} {U : World} {v : Value} {fuel used : Int} {l0 : List TskC} {x : TskC} (w : World) (CX : Cx p A np c U) (hU : Below U.heap.size U w) (hUB : U.heap.size ≤ B) (h : RunS w B r (.slice A np c) fuel used v (l0 ++ [x])) (hl : l0.length ≤ 1000000) (hB : B ≤ w.heap.size) :
    Calls Tryz.prog 56 #[.pointer (some ⟨r, 0, none⟩)] w fun e w' => e = .returned (outv (outF x.f).1 (outF x.f).2.1 (outF x.f).2.2) ∧ ∃ v' l', RunS w' B r (.slice A np c) fuel used v' l' ∧ revT l' = backT x.sl (outF x.f) (revT l0) ∧ l'.length = l0.length ∧ KS B w w' := by
  obtain ⟨ot, ⟨oa, ob⟩, obb, hfin⟩ : ∃ t v b, finF x.f = (t, v, b) := ⟨_, _, _, rfl⟩
  have hO : outF x.f = (ot, (oa, ob)) := by unfold outF; rw [hfin]
  rw [hO]
  obtain ⟨g, cap, rfl, hnc, hcm, hBg, hgl, hgr, hra, _, _⟩ := h.last
  have r3 := h.blk.cell 3
  have z3 := h.blk.fz 3
  have rl := h.rlt
  simp at r3
  have hx := h.ok x (by simp)
  have hcsz : (tskA x).size = 17 := by have := hx.fc.size; simp [tskA, this]
  have hone : (tskA x).all (·.oneCell') = true := by
    refine Array.all_eq_true_iff_forall_mem.2 fun u hu => ?_
    simp only [tskA, List.mem_toArray] at hu
    rcases List.mem_append.1 hu with h1 | h1
    · exact (Array.all_eq_true_iff_forall_mem.1 hx.fc.one) u (by simpa using h1)
    · rw [List.mem_singleton] at h1; subst h1; rfl
  have hra2 : w.rangeAt g (l0.length * 17) (tskA x).toList := by simpa [tskA] using hra
  have HH := Lib.hid h
  have HB := Lib.hid hB
  have HU := Lib.hid hU
  have HCX := Lib.hid CX
  have HL := Lib.hid hl
  have HX := Lib.hid hx
  generalize hn : l0.length = n at *
  have HN := Lib.hid hn
  have hw1 : wrap64 (n : Int) = n := wrap64_nat hl
  have hw2 := i64_nat hl
  have hlow := low_nat n
  have hcapn := lt_nat n
  have hcap3 : n ≤ cap := Nat.le_of_succ_le hnc
  have hcap2 : (n : Int) ≤ (cap : Int) := Int.ofNat_le.2 hcap3
  clear h hB CX hU hn hl hra hx hcm hnc
  go_enter Tryz.func56, Tryz.ntmps56
  go_upto_region 2 with fail
  have hz0 := Held.new w 32 #[.int .i64 0, .int .i64 0, .int .i64 0]
  have hb1 : Below w.heap.size w (w.alloc (.cells #[.int .i64 0, .int .i64 0, .int .i64 0] 32)) := (Below.refl _ _).alloc (Nat.le_refl _) _
  have hra3 := rangeAt_keep hra2 (hb1.block g hgl)
  have r3b := (World.cell?_of_block (a := ⟨r, 3, none⟩) (hb1.block r rl)).trans r3
  have z3b := (World.frozen?_of_block (a := ⟨r, 3, none⟩) (hb1.block r rl)).trans z3
  have hW1 := hz0.lt
  generalize hW1e : w.alloc (.cells #[.int .i64 0, .int .i64 0, .int .i64 0] 32) = W1 at *
  have hB1 : w.heap.size ≤ W1.heap.size := hb1.size
  clear hW1e r3 z3 hra2
  go_upto_region 3 with (first
    | (guard_target = wpList _ _ _ (Oper.mk _ (Op.load 126 (.tmp 19)) _ _ _ none :: _) _ _; refine wpList_load_midA rfl 126 _ rfl g (n * 17) rfl (tskA x) _ hra3 Tryz.underlying126 rfl (by rw [hcsz]; kernel_rfl) ?_)
    | (guard_target = wpList _ _ _ (Oper.mk _ (Op.alloc 126) _ _ _ none :: _) _ _; refine wpList_alloc_arr rfl 126 rfl tz0 (by kernel_rfl) ?_)
    | (guard_target = wpList _ _ _ (Oper.mk _ (Op.store 126 (.tmp 4) (.tmp 20)) _ _ _ none :: _) _ _; refine wpList_store_row rfl 126 _ _ rfl W1.heap.size (tskA x) rfl rfl _ _ (Held.new W1 126 tz0) (by rw [hcsz]; kernel_rfl) (by rw [hcsz]; rfl) hone ?_))
  have hb2 : Below W1.heap.size W1 ((W1.alloc (.cells tz0 126)).setRow W1.heap.size (tskA x)) := below_row ((Below.refl _ _).alloc (Nat.le_refl _) _) (Nat.le_refl _) _
  have hT := (Held.new W1 126 tz0).rowSelf (tskA x)
  generalize (W1.alloc (.cells tz0 126)).setRow W1.heap.size (tskA x) = W2 at *
  have hbw2 : Below w.heap.size w W2 := Below.step hb1 hb2
  have H2 := HH.out.below hbw2
  have r3 := H2.blk.cell 3
  have z3 := H2.blk.fz 3
  have hr2 := H2.rlt
  rw [← HN.out] at H2
  obtain ⟨H3, K3⟩ := H2.cut
  have hz2 := hz0.below hb2
  rw [HN.out] at H3 K3
  simp at r3
  have hne1 : W1.heap.size ≠ r := by omega
  have hT3 : Held (W2.setCell ⟨r, 3, none⟩ (.slice (some ⟨g, 0, none⟩) n cap)) W1.heap.size 126 (tskA x) := (Below.heap_setCell W2 ⟨r, 3, none⟩ _ _ hne1).trans hT
  have hz3 := hz2.kt K3.kt tyOr tyOt
  have hlt1 := hT.lt
  have KK3 := Lib.hid ((KS.of hbw2 HB.out).trans K3)
  have H3 := Lib.hid H3
  clear H2 K3 hT hz2 hz0 hra3 r3b z3b
  go_upto_region 4 with fail
  generalize hW3e : W2.setCell ⟨r, 3, none⟩ (.slice (some ⟨g, 0, none⟩) n cap) = W3 at *
  have hs3 : W3.heap.size = W2.heap.size := by rw [← hW3e]; simp [World.setCell]
  have hx3 := HX.out.kt KK3.out.kt
  have hra4 : W3.rangeAt W1.heap.size 0 x.cs.toList := rangeAt_pre (k := [Value.int .i64 x.sl]) (by have := rangeAt_held hT3; simpa [tskA] using this)
  have FN := Lib.hid (final_any W3 hx3.own.at hx3.bnd.len (Nat.le_refl _))
  rw [hfin] at FN
  have FN : Hid (Calls Tryz.prog 82 #[.agg x.cs] W3 fun e w' => e = .returned (.tuple #[outv ot oa ob, .bool obb]) ∧ Below W3.heap.size W3 w') := FN
  clear hfin hO
  have hsl := hT3.cell 16
  have hsl2 : W3.cell? ⟨W1.heap.size, 16, none⟩ = some (.int .i64 x.sl) := by rw [hsl]; have := hx3.fc.size; simp [tskA, this]
  clear hsl r3 z3 hW3e
  clear hlt1
  go_upto_region 5 with (first
    | (guard_target = wpList _ _ _ (Oper.mk _ (Op.load 58 (.tmp 31)) _ _ _ none :: _) _ _; refine wpList_load_midA rfl 58 _ rfl W1.heap.size 0 rfl x.cs _ hra4 Tryz.underlying58 rfl (fb_info hx3.fc) ?_)
    | (go_at_call 82; (with_reducible refine FN.out.mono ?_); rintro _ u ⟨rfl, hbu⟩)
    | (guard_target = wpList _ _ _ (Oper.mk _ (Op.store 32 (.tmp 5) (.tmp 34)) _ _ _ none :: _) _ _; refine wpList_store_row rfl 32 _ _ rfl u.heap.size #[.int .i64 ot, .int .i64 oa, .int .i64 ob] rfl rfl _ _ (Held.new u 32 _) (by kernel_rfl) rfl (by simp [Value.oneCell']) ?_))
  have hO4 : Held ((u.alloc (.cells #[.int .i64 0, .int .i64 0, .int .i64 0] 32)).setRow u.heap.size #[.int .i64 ot, .int .i64 oa, .int .i64 ob]) u.heap.size 32 #[.int .i64 ot, .int .i64 oa, .int .i64 ob] := (Held.new u 32 _).rowSelf _
  have hb4 : Below W3.heap.size W3 ((u.alloc (.cells #[.int .i64 0, .int .i64 0, .int .i64 0] 32)).setRow u.heap.size #[.int .i64 ot, .int .i64 oa, .int .i64 ob]) := below_row (hbu.alloc hbu.size _) hbu.size _
  generalize (u.alloc (.cells #[.int .i64 0, .int .i64 0, .int .i64 0] 32)).setRow u.heap.size #[.int .i64 ot, .int .i64 oa, .int .i64 ob] = W4 at *
  have H4 := Lib.hid (H3.out.below hb4)
  have KK4 := Lib.hid (KK3.out.trans (KS.of hb4 (Nat.le_trans HB.out KK3.out.kt.size)))
  have hz4 := hz3.below hb4
  have hlt3 := hT3.lt
  have hsl4 := (hb4.cell (p := ⟨W1.heap.size, 16, none⟩) hlt3).trans hsl2
  have hg4 : g < W4.heap.size := Nat.lt_of_lt_of_le hgl KK4.out.kt.size
  have hlt4 := Nat.lt_of_lt_of_le hlt3 hb4.size
  clear hx3 hra4 FN hbu hT3 hz3 hb4 H3 KK3 hsl2 hlt3
  rcases List.eq_nil_or_concat l0 with rfl | ⟨l1, y, rfl⟩
  · obtain rfl : (0 : Nat) = n := HN.out
    have hgt : decide ((0 : Int) < ((0 : Nat) : Int)) = false := by decide
    go_wp2_with (first
      | (guard_target = wpList _ _ _ (Oper.mk _ (Op.load 32 (.tmp 5)) _ _ _ none :: _) _ _; refine wpList_load_row rfl 32 _ rfl u.heap.size rfl 32 #[.int .i64 ot, .int .i64 oa, .int .i64 ob] (0, 0) _ hO4 Tryz.underlying32 rfl (by kernel_rfl) ?_)
      | (guard_target = wpList _ _ _ (Oper.mk _ (Op.store 32 (.tmp 2) (.tmp 59)) _ _ _ none :: _) _ _; refine wpList_store_row rfl 32 _ _ rfl w.heap.size #[.int .i64 ot, .int .i64 oa, .int .i64 ob] rfl rfl _ _ hz4 (by kernel_rfl) rfl (by simp [Value.oneCell']) ?_))
    refine bodyPost_ret (v := outv ot oa ob) (results_cell_row rfl _ _ w.heap.size 32 _ (0, 0) _ rfl (hz4.rowSelf _) Tryz.underlying32 rfl (by kernel_rfl)) rfl ⟨rfl, _, [], H4.out.rowFar hz4 tyOr tyOt tyOV tyOS _, rfl, rfl, ⟨below_row KK4.out.below HB.out _, KK4.out.kt.rowNew (Nat.le_refl _) _⟩⟩
  · rw [List.concat_eq_append] at H4 HN
    obtain ⟨m, hm⟩ : ∃ m, l1.length = m := ⟨_, rfl⟩
    have HM := Lib.hid hm
    have hnm : n = m + 1 := by rw [← HN.out, ← hm]; simp
    have hm6 : m ≤ 1000000 := by have := HL.out; omega
    have hgt : decide ((0 : Int) < (n : Int)) = true := decide_eq_true (by omega)
    have hw1m : wrap64 (m : Int) = m := wrap64_nat hm6
    have hw2m := i64_nat hm6
    have hlowm : ((n : Int) - 1) = (m : Int) := by omega
    have hcapm : (m : Int) < (n : Int) := by omega
    have HNM := Lib.hid hnm
    clear hw1 hw2 hlow hcapn hcap2 hcap3 hm hnm hm6
    obtain ⟨g4', cap4, e4, q1, q2, q3, q4, q5, hra4, q6, q7⟩ := H4.out.last
    simp only [Value.slice.injEq, Option.some.injEq, Addr.mk.injEq, and_true, true_and] at e4
    obtain ⟨rfl, q8, rfl⟩ := e4
    clear q1 q2 q3 q4 q5 q6 q7 q8
    have hra5 := rangeAt_pre hra4
    rw [HM.out] at hra5
    have hoy := H4.out.ok y (by simp)
    have hfy := hoy.fc
    have r3 := H4.out.blk.cell 3
    simp at r3
    generalize hRR : giveF y.f x.sl ot (oa, ob) = R at *
    have HBR : Hid (Bnd R.1) := by rw [← hRR]; exact Lib.hid (hoy.bnd.give _ _ _)
    have GV : ∀ W, Below W4.heap.size W4 W → Hid (Calls Tryz.prog 83 #[.agg y.cs, .int .i64 x.sl, outv ot oa ob] W fun e w' => GivQ W R e w') := fun W hb => by
      have hy2 := hoy.kt (KT.of_below hb)
      exact Lib.hid (HCX.out.giv W y.f _ y.cs x.sl ot oa ob ((HU.out.trans (KK4.out.below.mono hUB)).trans (hb.mono (Nat.le_trans hUB (Nat.le_trans HB.out KK4.out.kt.size)))) hy2.own.at hy2.bnd.len hRR)
    clear hra4 hoy
    have X1 := Lib.hid hra5
    have X2 := Lib.hid hfy
    have X3 := Lib.hid hsl4
    have X4 := Lib.hid hO4
    have X5 := Lib.hid hz4
    have X6 := Lib.hid hRR
    have X7 := Lib.hid GV
    clear hra5 hfy hsl4 hO4 hz4 hRR GV FN
    go_upto_region 7 with fail
    have hra5 := X1.out
    have hfy := X2.out
    have hsl4 := X3.out
    have hO4 := X4.out
    have hz4 := X5.out
    have hRR := X6.out
    have GV := X7.out
    clear X1 X2 X3 X4 X5 X6 X7
    have hgb : (⟨W1.heap.size, 16, none⟩ : Addr).block ≠ g := Nat.ne_of_gt (Nat.lt_trans hgl hW1)
    have hbd : Below W4.heap.size W4 W4.drew := (Below.refl _ _).drew
    have hS : W4.drew.cell? ⟨W1.heap.size, 16, none⟩ = some (.int .i64 x.sl) ∧ Held W4.drew u.heap.size 32 #[.int .i64 ot, .int .i64 oa, .int .i64 ob] := ⟨(hbd.cell (p := ⟨W1.heap.size, 16, none⟩) hlt4).trans hsl4, hO4.below hbd⟩
    refine wp_region_held_drew (S := fun W => W.cell? ⟨W1.heap.size, 16, none⟩ = some (.int .i64 x.sl) ∧ Held W u.heap.size 32 #[.int .i64 ot, .int .i64 oa, .int .i64 ob]) (by kernel_rfl) hS (fun hS0 => ?_)
    show wpAnyH _ _ _ _ _ 15 #[false, false, false, false, false, false, false, false, false, false, false, false, false, false, false] _ _
    refine wpAnyH_take (i := 0) (v := .pointer (some ⟨g, m * 17, none⟩)) rfl (by kernel_rfl) (by kernel_rfl) (by kernel_rfl) (fun _ _ _ h => h) (Or.inl ⟨by rfl, fun W hW => ?_⟩) hS0 ?_
    · go_simp
    simp only [Act.put, List.getElem_toArray, List.getElem_cons_succ, List.getElem_cons_zero, List.setIfInBounds_toArray, List.set_cons_zero, List.set_cons_succ]
    refine wpAnyH_take (i := 1) (v := .pointer (some ⟨g, m * 17, none⟩)) rfl (by kernel_rfl) (by kernel_rfl) (by kernel_rfl) (fun _ _ _ h => h) (Or.inl ⟨by rfl, fun W hW => ?_⟩) hS0 ?_
    · go_simp
    simp only [Act.put, List.getElem_toArray, List.getElem_cons_succ, List.getElem_cons_zero, List.setIfInBounds_toArray, List.set_cons_zero, List.set_cons_succ]
    refine wpAnyH_take (i := 2) (v := .pointer (some ⟨g, m * 17, none⟩)) rfl (by kernel_rfl) (by kernel_rfl) (by kernel_rfl) (fun _ _ _ h => h) (Or.inl ⟨by rfl, fun W hW => ?_⟩) hS0 ?_
    · go_simp
    simp only [Act.put, List.getElem_toArray, List.getElem_cons_succ, List.getElem_cons_zero, List.setIfInBounds_toArray, List.set_cons_zero, List.set_cons_succ]
    refine wpAnyH_take (i := 3) (v := .pointer (some ⟨g, m * 17, none⟩)) rfl (by kernel_rfl) (by kernel_rfl) (by kernel_rfl) (fun _ _ _ h => h) (Or.inl ⟨by rfl, fun W hW => ?_⟩) hS0 ?_
    · go_simp
    simp only [Act.put, List.getElem_toArray, List.getElem_cons_succ, List.getElem_cons_zero, List.setIfInBounds_toArray, List.set_cons_zero, List.set_cons_succ]
    refine wpAnyH_take (i := 5) (v := .pointer (some ⟨W1.heap.size, 16, none⟩)) rfl (by kernel_rfl) (by kernel_rfl) (by kernel_rfl) (fun _ _ _ h => h) (Or.inl ⟨by rfl, fun W hW => ?_⟩) hS0 ?_
    · go_simp
    simp only [Act.put, List.getElem_toArray, List.getElem_cons_succ, List.getElem_cons_zero, List.setIfInBounds_toArray, List.set_cons_zero, List.set_cons_succ]
    refine wpAnyH_take (i := 6) (v := .int .i64 x.sl) rfl (by kernel_rfl) (by kernel_rfl) (by kernel_rfl) (fun _ _ _ h => h) (Or.inl ⟨by rfl, fun W hW => ?_⟩) hS0 ?_
    · (have q := hW.1; go_simp)
    simp only [Act.put, List.getElem_toArray, List.getElem_cons_succ, List.getElem_cons_zero, List.setIfInBounds_toArray, List.set_cons_zero, List.set_cons_succ]
    refine wpAnyH_take (i := 7) (v := outv ot oa ob) rfl (by kernel_rfl) (by kernel_rfl) (by kernel_rfl) (fun _ _ _ h => h) (Or.inl ⟨by rfl, fun W hW => ?_⟩) hS0 ?_
    · (have q0 := hW.2.cell 0; have q1 := hW.2.cell 1; have q2 := hW.2.cell 2; simp at q0 q1 q2; go_simp)
    simp only [Act.put, List.getElem_toArray, List.getElem_cons_succ, List.getElem_cons_zero, List.setIfInBounds_toArray, List.set_cons_zero, List.set_cons_succ]
    have hb0 : Below W4.heap.size W4 W4.drew := (Below.refl _ _).drew
    generalize W4.drew = W5 at hb0 hS0 ⊢
    refine wpAnyH_ready (rs := [4]) (by kernel_rfl) (by simp) ?_
    refine (AllReadyH.cons rfl (fun K hK => ?_) AllReadyH.nil)
    rw [if_pos (by rfl)]
    refine wp_load_midA 58 _ rfl g (m * 17) (by rfl) y.cs _ (rangeAt_keep hra5 (hb0.block g hg4)) Tryz.underlying58 rfl (fb_info hfy) ?_
    refine hK.out _ _ hS0 (fun _ => ?_)
    clear hK K
    simp only [Act.put, List.getElem_toArray, List.getElem_cons_succ, List.getElem_cons_zero, List.setIfInBounds_toArray, List.set_cons_zero, List.set_cons_succ]
    refine wpAnyH_ready (rs := [8]) (by kernel_rfl) (by simp) ?_
    refine (AllReadyH.cons rfl (fun K hK => ?_) AllReadyH.nil)
    go_simp
    go_at_call 83
    (with_reducible refine (GV _ hb0).out.mono ?_)
    rintro _ u2 ⟨v', rfl, ho, hbu2⟩
    have ho := OwnF.mono ho (Nat.zero_le _)
    have hb9 := Below.step hb0 hbu2
    obtain ⟨cs', rfl, hfc⟩ := ho.cells
    have hS9 := And.intro ((hb9.cell (p := ⟨W1.heap.size, 16, none⟩) hlt4).trans hsl4) (hO4.below hb9)
    (try go_wp2_with fail)
    refine hK.out _ _ hS9 (fun _ => ?_)
    clear hK K
    (try simp only [Act.put, List.getElem_toArray, List.getElem_cons_succ, List.getElem_cons_zero, List.setIfInBounds_toArray, List.set_cons_zero, List.set_cons_succ])
    refine wpAnyH_take (i := 9) (v := .tuple #[.agg cs', .bool R.2]) rfl (by kernel_rfl) (by kernel_rfl) (by kernel_rfl) (fun _ _ _ h => h) (Or.inl ⟨by rfl, fun W hW => ?_⟩) hS9 ?_
    · go_simp
    simp only [Act.put, List.getElem_toArray, List.getElem_cons_succ, List.getElem_cons_zero, List.setIfInBounds_toArray, List.set_cons_zero, List.set_cons_succ]
    refine wpAnyH_take (i := 10) (v := .agg cs') rfl (by kernel_rfl) (by kernel_rfl) (by kernel_rfl) (fun _ _ _ h => h) (Or.inl ⟨by rfl, fun W hW => ?_⟩) hS9 ?_
    · go_simp
    simp only [Act.put, List.getElem_toArray, List.getElem_cons_succ, List.getElem_cons_zero, List.setIfInBounds_toArray, List.set_cons_zero, List.set_cons_succ]
    refine wpAnyH_take (i := 11) (v := .bool R.2) rfl (by kernel_rfl) (by kernel_rfl) (by kernel_rfl) (fun _ _ _ h => h) (Or.inl ⟨by rfl, fun W hW => ?_⟩) hS9 ?_
    · go_simp
    simp only [Act.put, List.getElem_toArray, List.getElem_cons_succ, List.getElem_cons_zero, List.setIfInBounds_toArray, List.set_cons_zero, List.set_cons_succ]
    refine wpAnyH_take (i := 12) (v := .pointer (some ⟨g, m * 17, none⟩)) rfl (by kernel_rfl) (by kernel_rfl) (by kernel_rfl) (fun _ _ _ h => h) (Or.inl ⟨by rfl, fun W hW => ?_⟩) hS9 ?_
    · go_simp
    simp only [Act.put, List.getElem_toArray, List.getElem_cons_succ, List.getElem_cons_zero, List.setIfInBounds_toArray, List.set_cons_zero, List.set_cons_succ]
    refine wpAnyH_take (i := 13) (v := .pointer (some ⟨g, m * 17, none⟩)) rfl (by kernel_rfl) (by kernel_rfl) (by kernel_rfl) (fun _ _ _ h => h) (Or.inl ⟨by rfl, fun W hW => ?_⟩) hS9 ?_
    · go_simp
    simp only [Act.put, List.getElem_toArray, List.getElem_cons_succ, List.getElem_cons_zero, List.setIfInBounds_toArray, List.set_cons_zero, List.set_cons_succ]
    have H5 := H4.out.below hb9
    obtain ⟨_, _, e5, _, _, _, _, _, _, hth, _⟩ := H5.last
    simp only [Value.slice.injEq, Option.some.injEq, Addr.mk.injEq, and_true, true_and] at e5
    obtain ⟨rfl, e5, rfl⟩ := e5
    rw [e5] at H5
    obtain ⟨S1, S2⟩ := H5.setF (cs := cs') (F := R.1) ⟨ho, hfc, HBR.out⟩
    rw [HM.out] at hth S1 S2
    have hO9 := hS9.2.kt S2.kt tyOr tyOt
    have hz9 := (Held.below hz4 hb9).kt S2.kt tyOr tyOt
    have KK9 := Lib.hid ((KK4.out.trans (KS.of hb9 (Nat.le_trans HB.out KK4.out.kt.size))).trans S2)
    refine wpAnyH_ready (rs := [14]) (by kernel_rfl) (by simp) ?_
    refine (AllReadyH.cons rfl (fun K hK => ?_) AllReadyH.nil)
    rw [if_pos (by rfl)]
    refine wp_store_mid 58 _ _ rfl g (m * 17) cs' (by rfl) (by rfl) (fun j hj => hth j (by have := hfc.size; omega)) (fb_info hfc) hfc.one ?_
    refine hK.out _ _ ⟨?_, hO9⟩ (fun _ => ?_)
    · rw [World.cell?_setCells_out g cs'.toList (m * 17) u2 ⟨W1.heap.size, 16, none⟩ (fun e _ => absurd e hgb)]; exact hS9.1
    clear hK K
    simp only [Act.put, List.getElem_toArray, List.getElem_cons_succ, List.getElem_cons_zero, List.setIfInBounds_toArray, List.set_cons_zero, List.set_cons_succ]
    refine wpAnyH_done (by kernel_rfl) ?_ _
    generalize u2.setCells g (m * 17) cs'.toList = W9 at *
    clear hth H5 hra5 hS9 hbu2 hb9 hb0
    go_wp2_with (first
      | (guard_target = wpList _ _ _ (Oper.mk _ (Op.load 32 (.tmp 5)) _ _ _ none :: _) _ _; refine wpList_load_row rfl 32 _ rfl u.heap.size rfl 32 #[.int .i64 ot, .int .i64 oa, .int .i64 ob] (0, 0) _ hO9 Tryz.underlying32 rfl (by kernel_rfl) ?_)
      | (guard_target = wpList _ _ _ (Oper.mk _ (Op.store 32 (.tmp 2) (.tmp 59)) _ _ _ none :: _) _ _; refine wpList_store_row rfl 32 _ _ rfl w.heap.size #[.int .i64 ot, .int .i64 oa, .int .i64 ob] rfl rfl _ _ hz9 (by kernel_rfl) rfl (by simp [Value.oneCell']) ?_))
    refine bodyPost_ret (v := outv ot oa ob) (results_cell_row rfl _ _ w.heap.size 32 _ (0, 0) _ rfl (hz9.rowSelf _) Tryz.underlying32 rfl (by kernel_rfl)) rfl ⟨rfl, _, l1 ++ [⟨cs', R.1, y.sl⟩], S1.rowFar hz9 tyOr tyOt tyOV tyOS _, ?_, ?_, ⟨below_row KK9.out.below HB.out _, KK9.out.kt.rowNew (Nat.le_refl _) _⟩⟩
    · rw [List.concat_eq_append, revT_snoc, revT_snoc, ← hRR]; rfl
    · have h1 := HM.out; have h2 := HNM.out; simp; omega
end Go.Proofs.YtagjddnpaahebaaGreatDoor

/- Layer 10's code: tasks are executed. -/
namespace Go.Proofs.YtagjddnpaahebaaGreatDoor
set_option linter.unusedVariables false
set_option linter.unusedSimpArgs false
open Gm Go.RowKit Go.ChangeShapes Go.WideShapes Go.ChangeAt Go.Sort

theorem stored_one {W1 u : World} {g4 : Nat} {cs' z4 : Array Value} {F : Frm} (f4 : Held u g4 58 z4) (ho : OwnF u 0 (.agg cs') F) (hb : Below W1.heap.size W1 u) (l4 : W1.heap.size ≤ g4) :
    Held (u.setRow g4 cs') g4 58 cs' ∧ OwnF (u.setRow g4 cs') 0 (.agg cs') F ∧ Below W1.heap.size W1 (u.setRow g4 cs') :=
  ⟨f4.rowSelf cs', ho.kb f4 tyFV tyFS ((KB.of_below (Below.refl _ _) g4).row cs'), below_row hb l4 _⟩
def MidN (W1 : World) (F : Frm) (v6 : Value) (wx : World) : Prop := ∃ g6 cs, v6 = .pointer (some ⟨g6, 0, none⟩) ∧ Held wx g6 58 cs ∧ FC cs F ∧ OwnF wx 0 (.agg cs) F ∧ Below W1.heap.size W1 wx
/-- What is read of a cell that holds a number. -/
def rdN (w : World) (x : Addr) : Int := match w.cell? x with
  | some (.int _ n) => n
  | _ => 0
theorem rdN_of {w : World} {x : Addr} {n : Int} (h : w.cell? x = some (.int .i64 n)) : rdN w x = n := by unfold rdN; rw [h]
theorem run_kid {p : List Fun} {n : Nat} {f : Frm} {sl : Int} {ts : List Tsk} (h : (doF p f).2.kd = 2) : runT p (n + 1) ((f, sl) :: ts) = runT p n ((kidF p (doF p f).2, (doF p f).2.sl) :: ((doF p f).1, sl) :: ts) := runT_inl (by simp only [stepT]; rw [if_pos h])
theorem run_go {p : List Fun} {n : Nat} {f : Frm} {sl : Int} {ts : List Tsk} (h : (doF p f).2.kd ≠ 2) (h4 : (doF p f).2.kd ≠ 4) : runT p (n + 1) ((f, sl) :: ts) = runT p n (((doF p f).1, sl) :: ts) := runT_inl (by simp only [stepT]; rw [if_neg h, if_neg h4])
theorem run_out {p : List Fun} {n : Nat} {f : Frm} {sl : Int} (h4 : (doF p f).2.kd = 4) : runT p (n + 1) [(f, sl)] = some (outF (doF p f).1, n) := runT_inr (by simp only [stepT]; rw [if_neg (by omega), if_pos h4])
theorem run_back {p : List Fun} {n : Nat} {f : Frm} {sl : Int} {t : Tsk} {ts : List Tsk} (h4 : (doF p f).2.kd = 4) : runT p (n + 1) ((f, sl) :: t :: ts) = runT p n (backT sl (outF (doF p f).1) (t :: ts)) := runT_inl (by simp only [stepT]; rw [if_neg (by omega), if_pos h4])
theorem toNat_succ {a b : Int} (h : b < a) : (a - b).toNat = (a - (b + 1)).toNat + 1 := by omega
theorem revT_len {l : List TskC} : (revT l).length = l.length := by simp [revT]
abbrev oz0 : Array Value := #[.int .i64 0, .int .i64 0, .int .i64 0]
def ExJ (B r np c b3 b4 : Nat) (A : Option Addr) (p : List Fun) (cs : Array Value) (RT : Option (OutP × Nat)) (fuel : Int) (w0 : World) (a' : Act) (W : World) : Prop :=
  ∃ (l : List TskC) (x : TskC) (used : Int) (v : Value), RunS W B r (.slice A np c) fuel used v (l ++ [x]) ∧ KS B w0 W ∧ runT p (fuel - used).toNat (revT (l ++ [x])) = RT ∧ 0 ≤ used ∧ used ≤ fuel ∧ (l.length : Int) ≤ used ∧ Held W b4 32 oz0 ∧ ∃ u5 u6 u7 u8 u9 u10 u11 u12 u13 u14 u15 u16 u17 u18 u19 u20 u21 u22 u23 u24 u25 u26 u27 u28 u29 u30 u31 u32 u33 u34 u35 u36 u37 u38 u39 u40 u41 u42 u43 u44 u45 u46 u47 : Value,  a' = { tmps := #[.pointer (some ⟨r, 0, none⟩), .agg cs, undef, .pointer (some ⟨b3, 0, none⟩), .pointer (some ⟨b4, 0, none⟩), u5, u6, u7, u8, u9, u10, u11, u12, u13, u14, u15, u16, u17, u18, u19, u20, u21, u22, u23, u24, u25, u26, u27, u28, u29, u30, u31, u32, u33, u34, u35, u36, u37, u38, u39, u40, u41, u42, u43, u44, u45, u46, u47], defers := [] }
set_option maxHeartbeats 16000000 in
set_option maxRecDepth 100000 in
theorem sexec_any {B r np c : Nat} {A : Option Addr} {p : List Fun} {U : World} {v : Value} {fuel : Int} {cs : Array Value} {f : Frm} (w : World) (CX : Cx p A np c U) (hU : Below U.heap.size U w) (hUB : U.heap.size ≤ B) (h : RunS w B r (.slice A np c) fuel 0 v []) (hx : TskOk w ⟨cs, f, 0⟩) (hB : B ≤ w.heap.size) (hf0 : 1 ≤ fuel) (hf : fuel ≤ 100000) :
    Calls Tryz.prog 38 #[.pointer (some ⟨r, 0, none⟩), .agg cs] w fun e w' => KS B w w' ∧ match runT p fuel.toNat [(f, 0)] with
      | none => e = .panicked [{ v := .iface 33 (.int .i64 100), recovered := false }]
      | some (o, m) => e = .returned (outv o.1 o.2.1 o.2.2) ∧ ∃ v', RunS w' B r (.slice A np c) fuel (fuel - m) v' [] := by
  obtain ⟨RT, hRT⟩ : ∃ RT, runT p fuel.toNat [(f, 0)] = RT := ⟨_, rfl⟩
  rw [hRT]
  have HRT := Lib.hid hRT
  clear hRT
  have HB := Lib.hid hB
  have HU := Lib.hid hU
  have HCX := Lib.hid CX
  have HH := Lib.hid h
  have HX := Lib.hid hx
  have HF := Lib.hid hf
  have HF0 := Lib.hid hf0
  clear CX hU h hx hB hf hf0
  go_enter Tryz.func38, Tryz.ntmps38
  go_wp2_with (first
    | (refine wpList_box_arr rfl _ _ rfl _ rfl ?_)
    | (guard_target = wpList _ _ _ (Oper.mk _ (Op.alloc 32) _ _ _ none :: _) _ _; refine wpList_alloc_arr rfl 32 rfl oz0 (by kernel_rfl) ?_))
  have h3 : Held ((w.alloc (.cells cs 58)).alloc (.cells oz0 32)) w.heap.size 58 cs := (Held.new w 58 cs).alloc _
  have h4 : Held ((w.alloc (.cells cs 58)).alloc (.cells oz0 32)) (w.heap.size + 1) 32 oz0 := Held.new1 w _ _ _
  have hbw : Below w.heap.size w ((w.alloc (.cells cs 58)).alloc (.cells oz0 32)) := ((Below.refl _ _).alloc (Nat.le_refl _) _).alloc (by simp) _
  generalize (w.alloc (.cells cs 58)).alloc (.cells oz0 32) = W0 at *
  have BG := Lib.hid (sbegin_any 0 W0 (HH.out.below hbw) (HX.out.kt (KT.of_below hbw)) (by simp) (Nat.le_trans HB.out hbw.size))
  have K0 := Lib.hid (KS.of hbw HB.out)
  have hfc0 := HX.out.fc
  have HS4 := Lib.hid h4
  clear h4
  refine wp_scope_once 0 (ExJ B r np c w.heap.size (w.heap.size + 1) A p cs RT fuel w) (fun _ W => (fuel - rdN W ⟨r, 2, none⟩).toNat) rfl ?_ ?_
  · rintro a' W ⟨l, x, used, vv, hR, hK, hrun, hu0, hu1, hul, hO, u5, u6, u7, u8, u9, u10, u11, u12, u13, u14, u15, u16, u17, u18, u19, u20, u21, u22, u23, u24, u25, u26, u27, u28, u29, u30, u31, u32, u33, u34, u35, u36, u37, u38, u39, u40, u41, u42, u43, u44, u45, u46, u47, rfl⟩
    try dsimp only
    have r2 := hR.blk.cell 2
    simp at r2
    rw [rdN_of r2]
    clear r2 hbw h3 BG K0 hfc0 HS4
    have HUW := Lib.hid (HU.out.trans (hK.below.mono hUB))
    have HBW := Lib.hid (Nat.le_trans HB.out hK.kt.size)
    have HR := Lib.hid hR
    have HK := Lib.hid hK
    have HRUN := Lib.hid hrun
    by_cases hfu : used = fuel
    · subst hfu
      have DO := Lib.hid (sdo_out W hR HBW.out)
      obtain rfl : none = RT := by rw [← hrun, Int.sub_self]; rfl
      clear hR hK hrun hO hu0 hu1 hul HRUN
      go_wp2_with (go_at_call 55; (with_reducible refine DO.out.mono ?_); rintro _ u ⟨rfl, hk⟩)
      simp only [Exit.jump]
      exact ⟨rfl, HK.out.trans hk, rfl⟩
    · have hlt : used < fuel := by omega
      have hlen : l.length ≤ 1000000 := by have := HF.out; omega
      have DO := Lib.hid (sdo_in W HCX.out HUW.out hUB hR hlen HBW.out hu0 hlt HF.out)
      have HKP := Lib.hid (do_keeps p x.f)
      have HBD := Lib.hid (Bnd.do (p := p) ((hR.ok x (by simp)).bnd))
      have HST := Lib.hid (toNat_succ hlt)
      rw [revT_snoc, toNat_succ hlt] at hrun
      generalize hRR : doF p x.f = R at *
      obtain ⟨G, kd, fn, s2, sd, ar⟩ := R
      simp only at DO HKP HBD
      have HRR := Lib.hid hRR
      have HRUN := Lib.hid hrun
      have HO := Lib.hid hO
      have HUL := Lib.hid (And.intro hu0 (And.intro hu1 (And.intro hul hlen)))
      clear hR hK hrun hO hu0 hu1 hul hRR hlen hlt hfu
      go_upto_region 3 with (first
        | (go_at_call 55; (with_reducible refine DO.out.mono ?_); rintro _ u ⟨av, cs1, rfl, hact, hR1, hK1⟩; obtain ⟨A4, c4, rfl, h4⟩ := hact)
        | (guard_target = wpList _ _ _ (Oper.mk _ (Op.store 85 (.tmp 5) (.tmp 13)) _ _ _ none :: _) _ _; refine wpList_store_row rfl 85 _ _ rfl u.heap.size #[.int .i64 kd, .int .i64 fn, .int .i64 s2, .int .i64 sd, .slice A4 ar.length c4] rfl rfl _ _ (Held.new u 85 _) (by kernel_rfl) rfl (by simp [Value.oneCell']) ?_))
      have hbA : Below u.heap.size u ((u.alloc (.cells az0 85)).setRow u.heap.size #[.int .i64 kd, .int .i64 fn, .int .i64 s2, .int .i64 sd, .slice A4 ar.length c4]) := below_row ((Below.refl _ _).alloc (Nat.le_refl _) _) (Nat.le_refl _) _
      have HA := (Held.new u 85 az0).rowSelf #[.int .i64 kd, .int .i64 fn, .int .i64 s2, .int .i64 sd, .slice A4 ar.length c4]
      generalize (u.alloc (.cells az0 85)).setRow u.heap.size #[.int .i64 kd, .int .i64 fn, .int .i64 s2, .int .i64 sd, .slice A4 ar.length c4] = W2 at *
      have H2 := Lib.hid (hR1.below hbA)
      have K2 := Lib.hid ((HK.out.trans hK1).trans (KS.of hbA (Nat.le_trans HBW.out hK1.kt.size)))
      have HO2 := Lib.hid ((HO.out.kt hK1.kt tyOr tyOt).below hbA)
      obtain ⟨A5, c5, e5, hva⟩ := h4.lies
      simp only [Value.slice.injEq, true_and] at e5
      obtain ⟨rfl, rfl⟩ := e5
      have HVA := Lib.hid (hva.below hbA (Nat.le_refl _))
      have HBA := Lib.hid hbA
      have HBW2 := Lib.hid (Nat.le_trans HB.out K2.out.kt.size)
      have HU2 := Lib.hid (HU.out.trans (K2.out.below.mono hUB))
      have hA0 := HA.cell 0
      have hA2 := HA.cell 2
      simp at hA0 hA2
      have HA := Lib.hid HA
      clear hR1 hK1 hbA h4 hva DO HR HK HO
      by_cases hk2 : kd = 2
      · subst hk2
        have NW : ∀ W, Below W2.heap.size W2 W → Hid (Calls Tryz.prog 21 #[.slice A np c, .int .i64 fn, .slice A4 ar.length c4, .int .i64 sd] W fun e w' => NewQ W (newF p fn ar sd) e w') := fun W hb =>
          Lib.hid (HCX.out.new W fn ar _ sd _ A4 c4 (HU2.out.trans (hb.mono (Nat.le_trans hUB HBW2.out))) ((HVA.out.below hb HBA.out.size).more (Nat.le_trans HBA.out.size hb.size)) rfl (Nat.le_trans HBD.out.2 (by decide)) rfl)
        have HNB := Lib.hid (new_bnd p fn ar sd)
        generalize hNR : newF p fn ar sd = NR at *
        have HNR := Lib.hid hNR
        clear hNR
        go_upto_region 5 with fail
        go_cut [6] (fun v6 wx => MidN W2 NR.1 v6 wx)
        case first =>
          refine wp_region_held_drew (S := fun W => Below W2.heap.size W2 W) (by kernel_rfl) (Below.refl _ _).drew (fun hb0 => ?_)
          generalize W2.drew = W2d at hb0 ⊢
          show wpAnyH _ _ _ _ _ 17 #[false, false, false, false, false, false, false, false, false, false, false, false, false, false, false, false, false] _ _
          refine wpAnyH_take (i := 0) (v := .pointer (some ⟨r, 0, none⟩)) rfl (by kernel_rfl) (by kernel_rfl) (by kernel_rfl) (fun _ _ _ h => h) (Or.inl ⟨by rfl, fun W hW => ?_⟩) hb0 ?_
          · go_simp
          simp only [Act.put, List.getElem_toArray, List.getElem_cons_succ, List.getElem_cons_zero, List.setIfInBounds_toArray, List.set_cons_zero, List.set_cons_succ]
          refine wpAnyH_take (i := 1) (v := .pointer (some ⟨r, 0, none⟩)) rfl (by kernel_rfl) (by kernel_rfl) (by kernel_rfl) (fun _ _ _ h => h) (Or.inl ⟨by rfl, fun W hW => ?_⟩) hb0 ?_
          · go_simp
          simp only [Act.put, List.getElem_toArray, List.getElem_cons_succ, List.getElem_cons_zero, List.setIfInBounds_toArray, List.set_cons_zero, List.set_cons_succ]
          refine wpAnyH_take (i := 2) (v := .pointer (some ⟨r, 0, none⟩)) rfl (by kernel_rfl) (by kernel_rfl) (by kernel_rfl) (fun _ _ _ h => h) (Or.inl ⟨by rfl, fun W hW => ?_⟩) hb0 ?_
          · go_simp
          simp only [Act.put, List.getElem_toArray, List.getElem_cons_succ, List.getElem_cons_zero, List.setIfInBounds_toArray, List.set_cons_zero, List.set_cons_succ]
          refine wpAnyH_take (i := 3) (v := .slice A np c) rfl (by kernel_rfl) (by kernel_rfl) (by kernel_rfl) (fun _ _ _ h => h) (Or.inl ⟨by rfl, fun W hW => ?_⟩) hb0 ?_
          · (have q := (Held.below H2.out.blk hW).cell 0; simp at q; go_simp)
          simp only [Act.put, List.getElem_toArray, List.getElem_cons_succ, List.getElem_cons_zero, List.setIfInBounds_toArray, List.set_cons_zero, List.set_cons_succ]
          refine wpAnyH_take (i := 4) (v := .pointer (some ⟨u.heap.size, 1, none⟩)) rfl (by kernel_rfl) (by kernel_rfl) (by kernel_rfl) (fun _ _ _ h => h) (Or.inl ⟨by rfl, fun W hW => ?_⟩) hb0 ?_
          · go_simp
          simp only [Act.put, List.getElem_toArray, List.getElem_cons_succ, List.getElem_cons_zero, List.setIfInBounds_toArray, List.set_cons_zero, List.set_cons_succ]
          refine wpAnyH_take (i := 5) (v := .int .i64 fn) rfl (by kernel_rfl) (by kernel_rfl) (by kernel_rfl) (fun _ _ _ h => h) (Or.inl ⟨by rfl, fun W hW => ?_⟩) hb0 ?_
          · (have q := (Held.below HA.out hW).cell 1; simp at q; go_simp)
          simp only [Act.put, List.getElem_toArray, List.getElem_cons_succ, List.getElem_cons_zero, List.setIfInBounds_toArray, List.set_cons_zero, List.set_cons_succ]
          refine wpAnyH_take (i := 6) (v := .pointer (some ⟨u.heap.size, 4, none⟩)) rfl (by kernel_rfl) (by kernel_rfl) (by kernel_rfl) (fun _ _ _ h => h) (Or.inl ⟨by rfl, fun W hW => ?_⟩) hb0 ?_
          · go_simp
          simp only [Act.put, List.getElem_toArray, List.getElem_cons_succ, List.getElem_cons_zero, List.setIfInBounds_toArray, List.set_cons_zero, List.set_cons_succ]
          refine wpAnyH_take (i := 7) (v := .slice A4 ar.length c4) rfl (by kernel_rfl) (by kernel_rfl) (by kernel_rfl) (fun _ _ _ h => h) (Or.inl ⟨by rfl, fun W hW => ?_⟩) hb0 ?_
          · (have q := (Held.below HA.out hW).cell 4; simp at q; go_simp)
          simp only [Act.put, List.getElem_toArray, List.getElem_cons_succ, List.getElem_cons_zero, List.setIfInBounds_toArray, List.set_cons_zero, List.set_cons_succ]
          refine wpAnyH_take (i := 8) (v := .pointer (some ⟨u.heap.size, 3, none⟩)) rfl (by kernel_rfl) (by kernel_rfl) (by kernel_rfl) (fun _ _ _ h => h) (Or.inl ⟨by rfl, fun W hW => ?_⟩) hb0 ?_
          · go_simp
          simp only [Act.put, List.getElem_toArray, List.getElem_cons_succ, List.getElem_cons_zero, List.setIfInBounds_toArray, List.set_cons_zero, List.set_cons_succ]
          refine wpAnyH_take (i := 9) (v := .int .i64 sd) rfl (by kernel_rfl) (by kernel_rfl) (by kernel_rfl) (fun _ _ _ h => h) (Or.inl ⟨by rfl, fun W hW => ?_⟩) hb0 ?_
          · (have q := (Held.below HA.out hW).cell 3; simp at q; go_simp)
          simp only [Act.put, List.getElem_toArray, List.getElem_cons_succ, List.getElem_cons_zero, List.setIfInBounds_toArray, List.set_cons_zero, List.set_cons_succ]
          refine wpAnyH_ready (rs := [10, 14]) (by kernel_rfl) (by simp) ?_
          refine (AllReadyH.cons rfl (fun K hK => ?_) (AllReadyH.cons rfl (fun K hK => ?_) AllReadyH.nil))
          · go_simp
            go_at_call 21
            (with_reducible refine (NW _ hb0).out.mono ?_)
            rintro _ u3 ⟨v', rfl, ho, hbu3⟩
            have ho1 := OwnF.mono ho (Nat.zero_le _)
            clear ho
            have hb1 := Below.step hb0 hbu3
            obtain ⟨cs', rfl, hfc⟩ := ho1.cells
            (try go_wp2_with fail)
            refine hK.out _ _ hb1 (fun _ => ?_)
            clear hK K
            (try simp only [Act.put, List.getElem_toArray, List.getElem_cons_succ, List.getElem_cons_zero, List.setIfInBounds_toArray, List.set_cons_zero, List.set_cons_succ])
            refine wpAnyH_take (i := 11) (v := .tuple #[.agg cs', .bool NR.2]) rfl (by kernel_rfl) (by kernel_rfl) (by kernel_rfl) (fun _ _ _ h => h) (Or.inl ⟨by rfl, fun W hW => ?_⟩) hb1 ?_
            · go_simp
            simp only [Act.put, List.getElem_toArray, List.getElem_cons_succ, List.getElem_cons_zero, List.setIfInBounds_toArray, List.set_cons_zero, List.set_cons_succ]
            refine wpAnyH_take (i := 12) (v := .agg cs') rfl (by kernel_rfl) (by kernel_rfl) (by kernel_rfl) (fun _ _ _ h => h) (Or.inl ⟨by rfl, fun W hW => ?_⟩) hb1 ?_
            · go_simp
            simp only [Act.put, List.getElem_toArray, List.getElem_cons_succ, List.getElem_cons_zero, List.setIfInBounds_toArray, List.set_cons_zero, List.set_cons_succ]
            refine wpAnyH_take (i := 13) (v := .bool NR.2) rfl (by kernel_rfl) (by kernel_rfl) (by kernel_rfl) (fun _ _ _ h => h) (Or.inl ⟨by rfl, fun W hW => ?_⟩) hb1 ?_
            · go_simp
            simp only [Act.put, List.getElem_toArray, List.getElem_cons_succ, List.getElem_cons_zero, List.setIfInBounds_toArray, List.set_cons_zero, List.set_cons_succ]
            refine wpAnyH_ready (rs := [14]) (by kernel_rfl) (by simp) ?_
            refine (AllReadyH.cons rfl (fun K hK => ?_) AllReadyH.nil)
            · rw [if_pos (by rfl)]
              refine wp_alloc_arr 58 rfl fz0 (by kernel_rfl) ?_
              have hb2 := below_allocz hb1 (.cells fz0 58)
              have l6 := Below.size hb1
              have f62 : Held (u3.alloc (.cells fz0 58)) _ 58 fz0 := Held.new _ _ _
              have ho2 := OwnF.alloc ho1 (.cells fz0 58)
              refine hK.out _ _ hb2 (fun _ => ?_)
              clear hK K
              simp only [Act.put, List.getElem_toArray, List.getElem_cons_succ, List.getElem_cons_zero, List.setIfInBounds_toArray, List.set_cons_zero, List.set_cons_succ]
              have st2 := stored_one f62 ho2 hb2 l6
              refine wpAnyH_ready (rs := [15]) (by kernel_rfl) (by simp) ?_
              refine (AllReadyH.cons rfl (fun K hK => ?_) AllReadyH.nil)
              rw [if_pos (by rfl)]
              refine wp_store_row 58 _ _ rfl _ cs' (by rfl) (by rfl) _ _ f62 (fb_info hfc) (by rw [hfc.size]; rfl) hfc.one ?_
              have hbs := below_rowz hb2 l6 cs'
              refine hK.out _ _ hbs (fun _ => ?_)
              clear hK K
              simp only [Act.put, List.getElem_toArray, List.getElem_cons_succ, List.getElem_cons_zero, List.setIfInBounds_toArray, List.set_cons_zero, List.set_cons_succ]
              refine wpAnyH_ready (rs := [16]) (by kernel_rfl) (by simp) ?_
              refine (AllReadyH.cons rfl (fun K hK => ?_) AllReadyH.nil)
              go_simp
              refine hK.out _ _ hbs (fun _ => ?_)
              clear hK K
              (try simp only [Act.put, List.getElem_toArray, List.getElem_cons_succ, List.getElem_cons_zero, List.setIfInBounds_toArray, List.set_cons_zero, List.set_cons_succ])
              refine wpAnyH_done (by kernel_rfl) ?_ _
              go_wp2_with fail
              go_meet
              case rel => exact ⟨_, cs', rfl, st2.1, hfc, st2.2.1, st2.2.2⟩
          · rw [if_pos (by rfl)]
            refine wp_alloc_arr 58 rfl fz0 (by kernel_rfl) ?_
            have hb1 := below_allocz hb0 (.cells fz0 58)
            have l6 := Below.size hb0
            have f61 : Held (W2d.alloc (.cells fz0 58)) _ 58 fz0 := Held.new _ _ _
            refine hK.out _ _ hb1 (fun _ => ?_)
            clear hK K
            simp only [Act.put, List.getElem_toArray, List.getElem_cons_succ, List.getElem_cons_zero, List.setIfInBounds_toArray, List.set_cons_zero, List.set_cons_succ]
            refine wpAnyH_ready (rs := [10]) (by kernel_rfl) (by simp) ?_
            refine (AllReadyH.cons rfl (fun K hK => ?_) AllReadyH.nil)
            · go_simp
              go_at_call 21
              (with_reducible refine (NW _ hb1).out.mono ?_)
              rintro _ u3 ⟨v', rfl, ho, hbu3⟩
              have ho2 := OwnF.mono ho (Nat.zero_le _)
              clear ho
              have hb2 := Below.step hb1 hbu3
              have f62 := Held.below f61 hbu3
              obtain ⟨cs', rfl, hfc⟩ := ho2.cells
              (try go_wp2_with fail)
              refine hK.out _ _ hb2 (fun _ => ?_)
              clear hK K
              (try simp only [Act.put, List.getElem_toArray, List.getElem_cons_succ, List.getElem_cons_zero, List.setIfInBounds_toArray, List.set_cons_zero, List.set_cons_succ])
              refine wpAnyH_take (i := 11) (v := .tuple #[.agg cs', .bool NR.2]) rfl (by kernel_rfl) (by kernel_rfl) (by kernel_rfl) (fun _ _ _ h => h) (Or.inl ⟨by rfl, fun W hW => ?_⟩) hb2 ?_
              · go_simp
              simp only [Act.put, List.getElem_toArray, List.getElem_cons_succ, List.getElem_cons_zero, List.setIfInBounds_toArray, List.set_cons_zero, List.set_cons_succ]
              refine wpAnyH_take (i := 12) (v := .agg cs') rfl (by kernel_rfl) (by kernel_rfl) (by kernel_rfl) (fun _ _ _ h => h) (Or.inl ⟨by rfl, fun W hW => ?_⟩) hb2 ?_
              · go_simp
              simp only [Act.put, List.getElem_toArray, List.getElem_cons_succ, List.getElem_cons_zero, List.setIfInBounds_toArray, List.set_cons_zero, List.set_cons_succ]
              refine wpAnyH_take (i := 13) (v := .bool NR.2) rfl (by kernel_rfl) (by kernel_rfl) (by kernel_rfl) (fun _ _ _ h => h) (Or.inl ⟨by rfl, fun W hW => ?_⟩) hb2 ?_
              · go_simp
              simp only [Act.put, List.getElem_toArray, List.getElem_cons_succ, List.getElem_cons_zero, List.setIfInBounds_toArray, List.set_cons_zero, List.set_cons_succ]
              have st2 := stored_one f62 ho2 hb2 l6
              refine wpAnyH_ready (rs := [15]) (by kernel_rfl) (by simp) ?_
              refine (AllReadyH.cons rfl (fun K hK => ?_) AllReadyH.nil)
              rw [if_pos (by rfl)]
              refine wp_store_row 58 _ _ rfl _ cs' (by rfl) (by rfl) _ _ f62 (fb_info hfc) (by rw [hfc.size]; rfl) hfc.one ?_
              have hbs := below_rowz hb2 l6 cs'
              refine hK.out _ _ hbs (fun _ => ?_)
              clear hK K
              simp only [Act.put, List.getElem_toArray, List.getElem_cons_succ, List.getElem_cons_zero, List.setIfInBounds_toArray, List.set_cons_zero, List.set_cons_succ]
              refine wpAnyH_ready (rs := [16]) (by kernel_rfl) (by simp) ?_
              refine (AllReadyH.cons rfl (fun K hK => ?_) AllReadyH.nil)
              go_simp
              refine hK.out _ _ hbs (fun _ => ?_)
              clear hK K
              (try simp only [Act.put, List.getElem_toArray, List.getElem_cons_succ, List.getElem_cons_zero, List.setIfInBounds_toArray, List.set_cons_zero, List.set_cons_succ])
              refine wpAnyH_done (by kernel_rfl) ?_ _
              go_wp2_with fail
              go_meet
              case rel => exact ⟨_, cs', rfl, st2.1, hfc, st2.2.1, st2.2.2⟩
        case rest =>
          obtain ⟨g6, cs6, rfl, hG, hfcG, hoG, hbC⟩ := hcut
          have BG := Lib.hid (sbegin_any s2 wc (H2.out.below hbC) (show TskOk wc ⟨cs6, NR.1, s2⟩ from ⟨hoG, hfcG, HNB.out⟩) (by have := HUL.out.2.2.2; have h1 := HUL.out.2.2.1; have h2 := HUL.out.2.1; have h3 := HF.out; rw [List.length_append, List.length_singleton]; omega) (Nat.le_trans HBW2.out hbC.size))
          have hA2c := (hbC.cell (p := ⟨u.heap.size, 2, none⟩) HA.out.lt).trans hA2
          have HOc := Lib.hid (HO2.out.below hbC)
          have HKc := Lib.hid (K2.out.trans (KS.of hbC HBW2.out))
          clear NW hA0 hA2
          go_wp2_with (first
            | (guard_target = wpList _ _ _ (Oper.mk _ (Op.load 58 (.tmp 6)) _ _ _ none :: _) _ _; refine wpList_load_row rfl 58 _ rfl g6 rfl 58 cs6 (0, 0) _ hG Tryz.underlying58 rfl (fb_info hfcG) ?_)
            | (go_at_call 54; (with_reducible refine BG.out.mono ?_); rintro _ u4 ⟨rfl, v', hR5, hK5⟩))
          go_step3
          have q2 := hR5.blk.cell 2
          simp at q2
          refine ⟨rfl, ⟨l ++ [⟨cs1, G, x.sl⟩], ⟨cs6, NR.1, s2⟩, used + 1, v', hR5, HKc.out.trans hK5, ?_, ?_, ?_, ?_, HOc.out.kt hK5.kt tyOr tyOt, _, _, _, _, _, _, _, _, _, _, _, _, _, _, _, _, _, _, _, _, _, _, _, _, _, _, _, _, _, _, _, _, _, _, _, _, _, _, _, _, _, _, _, rfl⟩, ?_⟩
          · rw [revT_snoc, revT_snoc, ← HNR.out]
            have e := HRUN.out
            rw [show x.t = (x.f, x.sl) from rfl, run_kid (by rw [HRR.out]), HRR.out] at e
            exact e
          · have := HUL.out.1; omega
          · have := HST.out; have h1 := HUL.out.2.1; omega
          · have h1 := HUL.out.2.2.1; rw [List.length_append, List.length_singleton]; omega
          · rw [rdN_of q2]; have := HST.out; omega
      by_cases hk4 : kd = 4
      · subst hk4
        have EN := Lib.hid (send_any W2 HCX.out HU2.out hUB H2.out HUL.out.2.2.2 HBW2.out)
        have HEO := Lib.hid (rfl : outF G = outF G)
        simp only at EN
        generalize hoe : outF G = o at *
        have HOE := Lib.hid hoe
        obtain ⟨ot, oa, ob⟩ := o
        clear hoe HEO hA2 HBD HKP
        go_upto_region 9 with (first
          | (go_at_call 56; (with_reducible refine EN.out.mono ?_); rintro _ u4 ⟨rfl, v', l', hR5, hrv, hll, hK5⟩)
          | (guard_target = wpList _ _ _ (Oper.mk _ (Op.store 32 (.tmp 8) (.tmp 40)) _ _ _ none :: _) _ _; refine wpList_store_row rfl 32 _ _ rfl u4.heap.size #[.int .i64 ot, .int .i64 oa, .int .i64 ob] rfl rfl _ _ (Held.new u4 32 _) (by kernel_rfl) rfl (by simp [Value.oneCell']) ?_))
        have hb6 : Below u4.heap.size u4 ((u4.alloc (.cells oz0 32)).setRow u4.heap.size #[.int .i64 ot, .int .i64 oa, .int .i64 ob]) := below_row ((Below.refl _ _).alloc (Nat.le_refl _) _) (Nat.le_refl _) _
        have hO8 := (Held.new u4 32 oz0).rowSelf #[.int .i64 ot, .int .i64 oa, .int .i64 ob]
        generalize (u4.alloc (.cells oz0 32)).setRow u4.heap.size #[.int .i64 ot, .int .i64 oa, .int .i64 ob] = W6 at *
        have H6 := Lib.hid (hR5.below hb6)
        have K6 := Lib.hid ((K2.out.trans hK5).trans (KS.of hb6 (Nat.le_trans HBW2.out hK5.kt.size)))
        have hO6 := (HO2.out.kt hK5.kt tyOr tyOt).below hb6
        have r3 := H6.out.blk.cell 3
        obtain ⟨A9, c9, rfl⟩ := H6.out.slice
        simp at r3
        have HRV := Lib.hid hrv
        have HLL := Lib.hid hll
        clear hR5 hK5 hb6 EN hrv hll hA0
        rcases List.eq_nil_or_concat l with rfl | ⟨l1, y, rfl⟩
        · obtain rfl : some (((ot, (oa, ob)) : OutP), (fuel - (used + 1)).toNat) = RT := by
            rw [← HRUN.out, show x.t :: revT [] = [(x.f, x.sl)] from rfl, run_out (by rw [HRR.out]), HRR.out, HOE.out]
          have HFU : Hid (fuel - (((fuel - (used + 1)).toNat : Nat) : Int) = used + 1) := Lib.hid (by have := HST.out; have h1 := HUL.out.2.1; omega)
          obtain rfl : l' = [] := List.eq_nil_of_length_eq_zero HLL.out
          go_wp2_with (first
            | (guard_target = wpList _ _ _ (Oper.mk _ (Op.load 32 (.tmp 8)) _ _ _ none :: _) _ _; refine wpList_load_row rfl 32 _ rfl u4.heap.size rfl 32 #[.int .i64 ot, .int .i64 oa, .int .i64 ob] (0, 0) _ hO8 Tryz.underlying32 rfl (by kernel_rfl) ?_)
            | (guard_target = wpList _ _ _ (Oper.mk _ (Op.store 32 (.tmp 4) (.tmp 47)) _ _ _ none :: _) _ _; refine wpList_store_row rfl 32 _ _ rfl (w.heap.size + 1) #[.int .i64 ot, .int .i64 oa, .int .i64 ob] rfl rfl _ _ hO6 (by kernel_rfl) rfl (by simp [Value.oneCell']) ?_))
          simp only [Exit.jump]
          have hfin := H6.out.rowFar hO6 tyOr tyOt tyOV tyOS #[.int .i64 ot, .int .i64 oa, .int .i64 ob]
          rw [← HFU.out] at hfin
          exact bodyPost_ret (v := outv ot oa ob) (results_cell_row rfl _ _ (w.heap.size + 1) 32 _ (0, 0) _ rfl (hO6.rowSelf _) Tryz.underlying32 rfl (by kernel_rfl)) rfl ⟨⟨below_row K6.out.below (Nat.le_succ_of_le HB.out) _, K6.out.kt.rowNew (Nat.le_succ _) _⟩, rfl, _, hfin⟩
        · have hz : ((l'.length : Int) == 0) = false := by rw [HLL.out]; simp; omega
          have hz2 : (l'.length == 0) = false := by rw [HLL.out]; simp
          go_wp2_with fail
          go_step3
          obtain ⟨l2, y2, rfl⟩ : ∃ l2 y2, l' = l2 ++ [y2] := by
            rcases List.eq_nil_or_concat l' with e | ⟨l2, y2, e⟩
            · have := HLL.out; rw [e] at this; simp at this
            · exact ⟨l2, y2, by rw [e, List.concat_eq_append]⟩
          have q2 := H6.out.blk.cell 2
          simp at q2
          have hlen2 : l2.length = l1.length := by have := HLL.out; simp at this; exact this
          have hlen1 : (l1.length : Int) + 1 ≤ used := by have := HUL.out.2.2.1; simp at this; exact this
          refine ⟨rfl, ⟨l2, y2, used + 1, _, H6.out, K6.out, ?_, ?_, ?_, ?_, hO6, _, _, _, _, _, _, _, _, _, _, _, _, _, _, _, _, _, _, _, _, _, _, _, _, _, _, _, _, _, _, _, _, _, _, _, _, _, _, _, _, _, _, _, rfl⟩, ?_⟩
          · rw [HRV.out, ← HRUN.out, List.concat_eq_append, revT_snoc, show x.t = (x.f, x.sl) from rfl, run_back (by rw [HRR.out]), HRR.out, HOE.out]
          · have := HUL.out.1; omega
          · have := HST.out; have h1 := HUL.out.2.1; omega
          · rw [hlen2]; omega
          · rw [rdN_of q2]; have := HST.out; omega
      · have h2 : (kd == 2) = false := by simpa using hk2
        have h4 : (kd == 4) = false := by simpa using hk4
        have HK2 := Lib.hid hk2
        have HK4 := Lib.hid hk4
        clear hk2 hk4 hA2
        go_wp2_with fail
        go_step3
        have q2 := H2.out.blk.cell 2
        simp at q2
        refine ⟨rfl, ⟨l, ⟨cs1, G, x.sl⟩, used + 1, _, H2.out, K2.out, ?_, ?_, ?_, ?_, HO2.out, _, _, _, _, _, _, _, _, _, _, _, _, _, _, _, _, _, _, _, _, _, _, _, _, _, _, _, _, _, _, _, _, _, _, _, _, _, _, _, _, _, _, _, rfl⟩, ?_⟩
        · rw [revT_snoc, ← HRUN.out, show x.t = (x.f, x.sl) from rfl, run_go (by rw [HRR.out]; exact HK2.out) (by rw [HRR.out]; exact HK4.out), HRR.out]
          rfl
        · have := HUL.out.1; omega
        · have := HST.out; have h1 := HUL.out.2.1; omega
        · have h1 := HUL.out.2.2.1; omega
        · rw [rdN_of q2]; have := HST.out; omega
  · intro hp
    have Hp := Lib.hid hp
    clear hp
    go_wp2_with (first
      | (guard_target = wpList _ _ _ (Oper.mk _ (Op.load 58 (.tmp 3)) _ _ _ none :: _) _ _; refine wpList_load_row rfl 58 _ rfl w.heap.size rfl 58 cs (0, 0) _ h3 Tryz.underlying58 rfl (fb_info hfc0) ?_)
      | (go_at_call 54; (with_reducible refine BG.out.mono ?_); rintro _ u ⟨rfl, v', hR, hK⟩))
    go_step3
    rename_i hKK
    refine hKK _ _ (Hp.out _ _ ⟨[], ⟨cs, f, 0⟩, 0, v', hR, K0.out.trans hK, by rw [← HRT.out]; simp [revT, TskC.t], by omega, by have := HF0.out; omega, by simp, HS4.out.kt hK.kt tyOr tyOt, _, _, _, _, _, _, _, _, _, _, _, _, _, _, _, _, _, _, _, _, _, _, _, _, _, _, _, _, _, _, _, _, _, _, _, _, _, _, _, _, _, _, _, rfl⟩)
end Go.Proofs.YtagjddnpaahebaaGreatDoor

