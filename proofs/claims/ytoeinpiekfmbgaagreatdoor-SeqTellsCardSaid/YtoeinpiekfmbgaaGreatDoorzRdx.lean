/- Layer 9: the document's Do: spawn, join, ret, trap, a quotient by 0. -/
import Derived.Test.YtoeinpiekfmbgaaGreatDoorzRpz
namespace Go.Proofs.YtoeinpiekfmbgaaGreatDoor
set_option linter.unusedVariables false
set_option linter.unusedSimpArgs false
open Gm Go.RowKit Go.ChangeShapes Go.WideShapes Go.ChangeAt Go.Sort

set_option maxHeartbeats 8000000 in
set_option maxRecDepth 100000 in
theorem r9do_x {C D : Nat} {A : Option Addr} {p : List Fun} {f : Frm} {A1 A2 A3 : Option Addr} {c1 c2 c3 : Nat} (c : Nat) (w : World) (hp : ProgAt w C A p) (hC : C ≤ w.heap.size) (hf : FrmAt w D (fv f (.slice A1 f.stk.length c1) (.slice A2 f.loc.length c2) (.slice A3 f.slt.length c3)) f) (hD : D ≤ w.heap.size)
    (hl : FrmLen f) (hst : f.st = 0) {k i : Nat} (hk : k < p.length) (hfn : f.fn = k) (hi : i < p[k].code.length) (hpc : f.pc = i) (hi2 : i < 200) {o a b : Int} (hx : p[k].code[i] = (o, a, b)) (hm : mayZ o a b = true) (hkn : knowsF p f (o, a, b) = true) (hde : depthF p f (o, a, b) = 0) (hZ : InvZ f) (ho : o = 13 ∨ o = 14 ∨ o = 15 ∨ o = 16 ∨ (o = 6 ∧ gNorm ((f.stk.drop ((f.stk.length : Int) - offI p (o, a, b)).toNat).getD 1 (0, 0)) = 0)) :
    Calls Tryz.prog 30 #[.slice A p.length c, fv f (.slice A1 f.stk.length c1) (.slice A2 f.loc.length c2) (.slice A3 f.slt.length c3)] w (TwoR w w.heap.size (trapT (execF p f (o, a, b))).1 (trapT (execF p f (o, a, b))).2) := by
  have HO := Lib.hid ho
  clear ho
  generalize hRR : trapT (execF p f (o, a, b)) = RR
  have HRR := Lib.hid hRR
  clear hRR
  obtain ⟨n, hn⟩ : ∃ n : Nat, offI p (o, a, b) = n := by
    unfold depthF at hde
    split at hde
    · simp at hde
    · exact ⟨(offI p (o, a, b)).toNat, by omega⟩
  obtain ⟨d, hd⟩ : ∃ d : Nat, f.stk.length = d + n := by
    unfold depthF at hde
    split at hde
    · simp at hde
    · exact ⟨f.stk.length - n, by omega⟩
  have hq : ¬ (0 < (rz o).q ∧ 16 < (d : Int) + (rz o).q) := by
    unfold depthF at hde
    split at hde
    · simp at hde
    · split at hde
      · simp at hde
      · rename_i h9
        intro h8
        exact h9 ⟨h8.1, by rw [hn, hd]; have := h8.2; push_cast; omega⟩
  obtain ⟨pb, po, rfl, hpb, hpf⟩ := hp (Nat.zero_lt_of_lt hk)
  obtain ⟨-, -, -, Ac, cc, y3, hcode⟩ := hpf k hk
  obtain ⟨cb, cof, rfl, hcb, hcc⟩ := hcode (Nat.zero_lt_of_lt hi)
  obtain ⟨z0, z1, z2⟩ := hcc i hi
  rw [hx] at z0 z1 z2
  simp only at z0 z1 z2
  have HN := Lib.hid hn
  have HD := Lib.hid hd
  have HQ := Lib.hid hq
  have HP := Lib.hid hp
  have HF := Lib.hid hf
  have HL := Lib.hid hl
  have HM := Lib.hid hm
  have HKN := Lib.hid hkn
  have HZ := Lib.hid hZ
  have HPC := Lib.hid hpc
  have HFN := Lib.hid hfn
  have HI2 := Lib.hid hi2
  have hkI : (k : Int) < p.length := by omega
  have hiI : (i : Int) < p[k].code.length := by omega
  clear hx hcc hcode hpf
  generalize hLc : p[k].code.length = Lc at *
  have e8 : (f.st != 0) = false := by simp [hst]
  have w0 := below3 w (.cells (fcA f (.slice A1 f.stk.length c1) (.slice A2 f.loc.length c2) (.slice A3 f.slt.length c3)) 45) (.cells fz0 45) (.cells ac0 77)
  have hx3 := ((Held.new w 45 (fcA f (.slice A1 f.stk.length c1) (.slice A2 f.loc.length c2) (.slice A3 f.slt.length c3))).alloc (.cells fz0 45)).alloc (.cells ac0 77)
  have hx4 := (Held.new1 w (.cells (fcA f (.slice A1 f.stk.length c1) (.slice A2 f.loc.length c2) (.slice A3 f.slt.length c3)) 45) 45 fz0).alloc (.cells ac0 77)
  have hx5 := Held.new2 w (.cells (fcA f (.slice A1 f.stk.length c1) (.slice A2 f.loc.length c2) (.slice A3 f.slt.length c3)) 45) (.cells fz0 45) 77 ac0
  have hz0 : (((w.alloc (.cells (fcA f (.slice A1 f.stk.length c1) (.slice A2 f.loc.length c2) (.slice A3 f.slt.length c3)) 45)).alloc (.cells fz0 45)).alloc (.cells ac0 77)).heap.size = w.heap.size + 3 := by simp
  clear hp hf hl hm hkn hZ hn hq hde hst hd hLc hfn hpc hi2
  go_enter Tryz.func30, Tryz.ntmps30
  go_upto_region 1 with (guard_target = wpList _ _ _ (Oper.mk _ (Op.box 45 _) _ _ _ none :: _) _ _; refine wpList_box_arr rfl 45 (.tmp 1) rfl (fcA f (.slice A1 f.stk.length c1) (.slice A2 f.loc.length c2) (.slice A3 f.slt.length c3)) rfl ?_)
  generalize (((w.alloc (.cells (fcA f (.slice A1 f.stk.length c1) (.slice A2 f.loc.length c2) (.slice A3 f.slt.length c3)) 45)).alloc (.cells fz0 45)).alloc (.cells ac0 77)) = W0 at *
  have x0 := hx3.cell 0
  have x8 := hx3.cell 8
  simp at x0 x8
  rw [HFN.out] at x0
  have X3 := Lib.hid hx3
  have X4 := Lib.hid hx4
  have X5 := Lib.hid hx5
  have BW := Lib.hid w0
  have SZ := Lib.hid hz0
  clear hx3 hx4 hx5 w0 hz0
  go_upto_region 3 with (fail)
  clear x0 x8 e8
  have h3 := X3.out
  have CC := Lib.hid (rcopy_any W0 (HF.out.below BW.out hD) HL.out (Nat.le_trans hD BW.out.size))
  go_upto_region 4 with (first
    | (guard_target = wpList _ _ _ (Oper.mk _ (Op.load 45 (.tmp 3)) _ _ _ none :: _) _ _; refine wpList_load_row rfl 45 _ rfl w.heap.size rfl _ _ _ _ h3 Tryz.underlying45 rfl (by kernel_rfl) ?_)
    | (go_at_call 48; (with_reducible refine CC.out.mono ?_); rintro _ u ⟨s, l, o', rfl, hs, hlo, ho, d1, d2, d3, hb⟩; obtain ⟨As, cs, rfl, -⟩ := hs.lies; obtain ⟨Al, cl, rfl, -⟩ := hlo.lies; obtain ⟨Ao, co, rfl, -⟩ := ho.lies; have f6 := Held.new u 45 fz0)
    | (guard_target = wpList _ _ _ (Oper.mk _ (Op.alloc 45) _ _ _ none :: _) _ _; refine wpList_alloc_arr rfl 45 rfl fz0 (by kernel_rfl) ?_)
    | (guard_target = wpList _ _ _ (Oper.mk _ (Op.store 45 (.tmp 6) _) _ _ _ none :: _) _ _; refine wpList_store_row rfl 45 _ _ rfl u.heap.size (fcA f (.slice As f.stk.length cs) (.slice Al f.loc.length cl) (.slice Ao f.slt.length co)) rfl rfl _ _ f6 (by kernel_rfl) rfl (by simp [Value.oneCell']) ?_))
  have hb1 : Below u.heap.size u ((u.alloc (.cells fz0 45)).setRow u.heap.size (fcA f (.slice As f.stk.length cs) (.slice Al f.loc.length cl) (.slice Ao f.slt.length co))) := below_row ((Below.refl _ _).alloc (Nat.le_refl _) _) (Nat.le_refl _) _
  have h6 : Held ((u.alloc (.cells fz0 45)).setRow u.heap.size (fcA f (.slice As f.stk.length cs) (.slice Al f.loc.length cl) (.slice Ao f.slt.length co))) u.heap.size 45 (fcA f (.slice As f.stk.length cs) (.slice Al f.loc.length cl) (.slice Ao f.slt.length co)) := f6.rowSelf _
  have os := row_later hs hb1
  have ol := row_later hlo hb1
  have oo := row_later ho hb1
  have hbW := Below.step hb hb1
  have hbz := Below.step BW.out hbW
  have l6 : W0.heap.size ≤ u.heap.size := hb.size
  generalize ((u.alloc (.cells fz0 45)).setRow u.heap.size (fcA f (.slice As f.stk.length cs) (.slice Al f.loc.length cl) (.slice Ao f.slt.length co))) = W1 at *
  generalize u.heap.size = g6 at *
  have H6 := Lib.hid h6
  have OS := Lib.hid os
  have OL := Lib.hid ol
  have OO := Lib.hid oo
  have D1 := Lib.hid d1
  have HBW := Lib.hid hbW
  have HBZ := Lib.hid hbz
  have L6 := Lib.hid l6
  clear f6 hs hlo ho hb hb1 h6 os ol oo d1 d2 d3 h3 CC hbW hbz l6
  have x0 := H6.out.cell 0
  simp at x0
  rw [HFN.out] at x0
  have y3' := (HBZ.out.cell (p := ⟨pb, _, none⟩) (Nat.lt_of_lt_of_le hpb hC)).trans y3
  go_upto_region 5 with (fail)
  have QPC := Lib.hid (show ∀ W, Below W1.heap.size W1 W → W.cell? ⟨g6, 1, none⟩ = some (.int .i64 i) from fun W hW => by
    have := (H6.out.below hW).cell 1
    simp at this
    rw [HPC.out] at this
    exact this)
  have QIN := Lib.hid (show ∀ W, Below W1.heap.size W1 W → W.cell? ⟨cb, cof + i * 3, none⟩ = some (.int .i64 o) ∧ W.cell? ⟨cb, cof + i * 3 + 1, none⟩ = some (.int .i64 a) ∧ W.cell? ⟨cb, cof + i * 3 + 2, none⟩ = some (.int .i64 b) from fun W hW => by
    have hb := Below.step HBZ.out hW
    exact ⟨(hb.cell (p := ⟨cb, _, none⟩) (Nat.lt_of_lt_of_le hcb hC)).trans z0, (hb.cell (p := ⟨cb, _, none⟩) (Nat.lt_of_lt_of_le hcb hC)).trans z1, (hb.cell (p := ⟨cb, _, none⟩) (Nat.lt_of_lt_of_le hcb hC)).trans z2⟩)
  have CTH := Lib.hid (show ∀ W, Calls Tryz.prog 49 #[.slice (some ⟨pb, po, none⟩) p.length c, .agg (fcA f (.slice As f.stk.length cs) (.slice Al f.loc.length cl) (.slice Ao f.slt.length co)), .agg #[.int .i64 o, .int .i64 a, .int .i64 b]] W fun e w' => e = .returned (.bool true) ∧ Below W.heap.size W w' from fun W => by
    have := rthere_any (A := some ⟨pb, po, none⟩) (p := p) (f := f) (s := As) (l := Al) (t := Ao) c cs cl co o a b W
    rw [HM.out, HKN.out] at this
    exact this)
  have hi0 : (0 : Int) ≤ i := Int.natCast_nonneg i
  clear x0 y3' z0 z1 z2 y3
  go_cut [60] (fun v60 wx => v60 = .bool false ∧ Below W1.heap.size W1 wx)
  case first =>
    refine wp_region_held_drew (S := fun W => Below W1.heap.size W1 W) (by kernel_rfl) (Below.refl _ _).drew (fun hS => ?_)
    generalize W1.drew = W3 at hS ⊢
    show wpAnyH _ _ _ _ _ 22 #[false, false, false, false, false, false, false, false, false, false, false, false, false, false, false, false, false, false, false, false, false, false] _ _
    refine wpAnyH_take (i := 0) (v := .pointer (some ⟨g6, 1, none⟩)) rfl (by kernel_rfl) (by kernel_rfl) (by kernel_rfl) (fun _ _ _ h => h) (Or.inl ⟨by rfl, fun W hW => ?_⟩) hS ?_
    · go_simp
    simp only [Act.put, List.getElem_toArray, List.getElem_cons_succ, List.getElem_cons_zero, List.setIfInBounds_toArray, List.set_cons_zero, List.set_cons_succ]
    refine wpAnyH_take (i := 1) (v := .int .i64 i) rfl (by kernel_rfl) (by kernel_rfl) (by kernel_rfl) (fun _ _ _ h => h) (Or.inl ⟨by rfl, fun W hW => ?_⟩) hS ?_
    · (have q := QPC.out W hW; go_simp)
    simp only [Act.put, List.getElem_toArray, List.getElem_cons_succ, List.getElem_cons_zero, List.setIfInBounds_toArray, List.set_cons_zero, List.set_cons_succ]
    refine wpAnyH_take (i := 2) (v := .bool false) rfl (by kernel_rfl) (by kernel_rfl) (by kernel_rfl) (fun _ _ _ h => h) (Or.inl ⟨by rfl, fun W hW => ?_⟩) hS ?_
    · go_simp
    simp only [Act.put, List.getElem_toArray, List.getElem_cons_succ, List.getElem_cons_zero, List.setIfInBounds_toArray, List.set_cons_zero, List.set_cons_succ]
    refine wpAnyH_take (i := 3) (v := .bool false) rfl (by kernel_rfl) (by kernel_rfl) (by kernel_rfl) (fun _ _ _ h => h) (Or.inl ⟨by rfl, fun W hW => ?_⟩) hS ?_
    · go_simp
    simp only [Act.put, List.getElem_toArray, List.getElem_cons_succ, List.getElem_cons_zero, List.setIfInBounds_toArray, List.set_cons_zero, List.set_cons_succ]
    refine wpAnyH_take (i := 4) (v := .pointer (some ⟨g6, 1, none⟩)) rfl (by kernel_rfl) (by kernel_rfl) (by kernel_rfl) (fun _ _ _ h => h) (Or.inl ⟨by rfl, fun W hW => ?_⟩) hS ?_
    · go_simp
    simp only [Act.put, List.getElem_toArray, List.getElem_cons_succ, List.getElem_cons_zero, List.setIfInBounds_toArray, List.set_cons_zero, List.set_cons_succ]
    refine wpAnyH_take (i := 5) (v := .int .i64 i) rfl (by kernel_rfl) (by kernel_rfl) (by kernel_rfl) (fun _ _ _ h => h) (Or.inl ⟨by rfl, fun W hW => ?_⟩) hS ?_
    · (have q := QPC.out W hW; go_simp)
    simp only [Act.put, List.getElem_toArray, List.getElem_cons_succ, List.getElem_cons_zero, List.setIfInBounds_toArray, List.set_cons_zero, List.set_cons_succ]
    refine wpAnyH_take (i := 6) (v := .slice (some ⟨cb, cof, none⟩) Lc cc) rfl (by kernel_rfl) (by kernel_rfl) (by kernel_rfl) (fun _ _ _ h => h) (Or.inl ⟨by rfl, fun W hW => ?_⟩) hS ?_
    · go_simp
    simp only [Act.put, List.getElem_toArray, List.getElem_cons_succ, List.getElem_cons_zero, List.setIfInBounds_toArray, List.set_cons_zero, List.set_cons_succ]
    refine wpAnyH_take (i := 7) (v := .int .i64 Lc) rfl (by kernel_rfl) (by kernel_rfl) (by kernel_rfl) (fun _ _ _ h => h) (Or.inl ⟨by rfl, fun W hW => ?_⟩) hS ?_
    · go_simp
    simp only [Act.put, List.getElem_toArray, List.getElem_cons_succ, List.getElem_cons_zero, List.setIfInBounds_toArray, List.set_cons_zero, List.set_cons_succ]
    refine wpAnyH_take (i := 8) (v := .bool false) rfl (by kernel_rfl) (by kernel_rfl) (by kernel_rfl) (fun _ _ _ h => h) (Or.inl ⟨by rfl, fun W hW => ?_⟩) hS ?_
    · go_simp
    simp only [Act.put, List.getElem_toArray, List.getElem_cons_succ, List.getElem_cons_zero, List.setIfInBounds_toArray, List.set_cons_zero, List.set_cons_succ]
    refine wpAnyH_take (i := 9) (v := .bool false) rfl (by kernel_rfl) (by kernel_rfl) (by kernel_rfl) (fun _ _ _ h => h) (Or.inl ⟨by rfl, fun W hW => ?_⟩) hS ?_
    · go_simp
    simp only [Act.put, List.getElem_toArray, List.getElem_cons_succ, List.getElem_cons_zero, List.setIfInBounds_toArray, List.set_cons_zero, List.set_cons_succ]
    refine wpAnyH_take (i := 10) (v := .bool false) rfl (by kernel_rfl) (by kernel_rfl) (by kernel_rfl) (fun _ _ _ h => h) (Or.inl ⟨by rfl, fun W hW => ?_⟩) hS ?_
    · go_simp
    simp only [Act.put, List.getElem_toArray, List.getElem_cons_succ, List.getElem_cons_zero, List.setIfInBounds_toArray, List.set_cons_zero, List.set_cons_succ]
    refine wpAnyH_take (i := 11) (v := .slice (some ⟨pb, po, none⟩) p.length c) rfl (by kernel_rfl) (by kernel_rfl) (by kernel_rfl) (fun _ _ _ h => h) (Or.inl ⟨by rfl, fun W hW => ?_⟩) hS ?_
    · go_simp
    simp only [Act.put, List.getElem_toArray, List.getElem_cons_succ, List.getElem_cons_zero, List.setIfInBounds_toArray, List.set_cons_zero, List.set_cons_succ]
    refine wpAnyH_take (i := 12) (v := .agg (fcA f (.slice As f.stk.length cs) (.slice Al f.loc.length cl) (.slice Ao f.slt.length co))) rfl (by kernel_rfl) (by kernel_rfl) (by kernel_rfl) (fun _ _ _ h => h) (yieldsIf_load_midA (by rfl) 45 (.tmp 6) rfl g6 0 rfl _ _ (fun W hW => rangeAt_held (H6.out.below hW)) Tryz.underlying45 rfl (by kernel_rfl)) hS ?_
    simp only [Act.put, List.getElem_toArray, List.getElem_cons_succ, List.getElem_cons_zero, List.setIfInBounds_toArray, List.set_cons_zero, List.set_cons_succ]
    refine wpAnyH_take (i := 13) (v := .slice (some ⟨cb, cof, none⟩) Lc cc) rfl (by kernel_rfl) (by kernel_rfl) (by kernel_rfl) (fun _ _ _ h => h) (Or.inl ⟨by rfl, fun W hW => ?_⟩) hS ?_
    · go_simp
    simp only [Act.put, List.getElem_toArray, List.getElem_cons_succ, List.getElem_cons_zero, List.setIfInBounds_toArray, List.set_cons_zero, List.set_cons_succ]
    refine wpAnyH_take (i := 14) (v := .pointer (some ⟨g6, 1, none⟩)) rfl (by kernel_rfl) (by kernel_rfl) (by kernel_rfl) (fun _ _ _ h => h) (Or.inl ⟨by rfl, fun W hW => ?_⟩) hS ?_
    · go_simp
    simp only [Act.put, List.getElem_toArray, List.getElem_cons_succ, List.getElem_cons_zero, List.setIfInBounds_toArray, List.set_cons_zero, List.set_cons_succ]
    refine wpAnyH_take (i := 15) (v := .int .i64 i) rfl (by kernel_rfl) (by kernel_rfl) (by kernel_rfl) (fun _ _ _ h => h) (Or.inl ⟨by rfl, fun W hW => ?_⟩) hS ?_
    · (have q := QPC.out W hW; go_simp)
    simp only [Act.put, List.getElem_toArray, List.getElem_cons_succ, List.getElem_cons_zero, List.setIfInBounds_toArray, List.set_cons_zero, List.set_cons_succ]
    refine wpAnyH_take (i := 16) (v := .int .i64 i) rfl (by kernel_rfl) (by kernel_rfl) (by kernel_rfl) (fun _ _ _ h => h) (Or.inl ⟨by rfl, fun W hW => ?_⟩) hS ?_
    · (go_simp; first | done | (intro h9; omega))
    simp only [Act.put, List.getElem_toArray, List.getElem_cons_succ, List.getElem_cons_zero, List.setIfInBounds_toArray, List.set_cons_zero, List.set_cons_succ]
    refine wpAnyH_take (i := 17) (v := .pointer (some ⟨cb, cof + i * 3, none⟩)) rfl (by kernel_rfl) (by kernel_rfl) (by kernel_rfl) (fun _ _ _ h => h) (Or.inl ⟨by rfl, fun W hW => ?_⟩) hS ?_
    · go_simp
    simp only [Act.put, List.getElem_toArray, List.getElem_cons_succ, List.getElem_cons_zero, List.setIfInBounds_toArray, List.set_cons_zero, List.set_cons_succ]
    refine wpAnyH_take (i := 18) (v := .agg #[.int .i64 o, .int .i64 a, .int .i64 b]) rfl (by kernel_rfl) (by kernel_rfl) (by kernel_rfl) (fun _ _ _ h => h) (Or.inl ⟨by rfl, fun W hW => ?_⟩) hS ?_
    · (obtain ⟨q0, q1, q2⟩ := QIN.out W hW; go_simp)
    simp only [Act.put, List.getElem_toArray, List.getElem_cons_succ, List.getElem_cons_zero, List.setIfInBounds_toArray, List.set_cons_zero, List.set_cons_succ]
    refine wpAnyH_ready (rs := [19]) (by kernel_rfl) (by simp) ?_
    refine (AllReadyH.cons rfl (fun K hK => ?_) AllReadyH.nil)
    · go_simp
      go_at_call 49
      (with_reducible refine ((CTH.out _)).mono ?_)
      rintro _ u1 ⟨rfl, hbu⟩
      replace hS := Below.step hS hbu
      clear hbu
      (repeat (first | go_skip | go_guarded | go_step | go_upon))
      refine hK.out _ _ hS (fun _ => ?_)
      clear hK K
      (try simp only [Act.put, List.getElem_toArray, List.getElem_cons_succ, List.getElem_cons_zero, List.setIfInBounds_toArray, List.set_cons_zero, List.set_cons_succ])
      refine wpAnyH_take (i := 20) (v := .bool false) rfl (by kernel_rfl) (by kernel_rfl) (by kernel_rfl) (fun _ _ _ h => h) (Or.inl ⟨by rfl, fun W hW => ?_⟩) hS ?_
      · go_simp
      simp only [Act.put, List.getElem_toArray, List.getElem_cons_succ, List.getElem_cons_zero, List.setIfInBounds_toArray, List.set_cons_zero, List.set_cons_succ]
      refine wpAnyH_take (i := 21) (v := .bool false) rfl (by kernel_rfl) (by kernel_rfl) (by kernel_rfl) (fun _ _ _ h => h) (Or.inl ⟨by rfl, fun W hW => ?_⟩) hS ?_
      · go_simp
      simp only [Act.put, List.getElem_toArray, List.getElem_cons_succ, List.getElem_cons_zero, List.setIfInBounds_toArray, List.set_cons_zero, List.set_cons_succ]
      refine wpAnyH_done (by kernel_rfl) ?_ _
      (repeat (first | go_skip | go_guarded | go_step | go_upon))
      go_meet
      case rel => exact ⟨rfl, hS⟩
  case rest =>
  obtain ⟨rfl, hb1⟩ := hcut
  generalize wc = W2 at *
  replace H6 := Lib.hid (H6.out.below hb1)
  replace OS := Lib.hid (show OwnVs W2 W0.heap.size (.slice As f.stk.length cs) f.stk from row_later OS.out hb1)
  replace OL := Lib.hid (show OwnVs W2 W0.heap.size (.slice Al f.loc.length cl) f.loc from row_later OL.out hb1)
  replace OO := Lib.hid (show OwnSs W2 W0.heap.size (.slice Ao f.slt.length co) f.slt from row_later OO.out hb1)
  replace HBW := Lib.hid (Below.step HBW.out hb1)
  replace HBZ := Lib.hid (Below.step HBZ.out hb1)
  have x1 := QPC.out W2 hb1
  obtain ⟨z0, z1, z2⟩ := QIN.out W2 hb1
  have hb2 : Below W2.heap.size W2 (W2.alloc (.cells #[.int .i64 o, .int .i64 a, .int .i64 b] 92)) := (Below.refl _ _).alloc (Nat.le_refl _) _
  have h8 : Held (W2.alloc (.cells #[.int .i64 o, .int .i64 a, .int .i64 b] 92)) W2.heap.size 92 #[.int .i64 o, .int .i64 a, .int .i64 b] := Held.new _ _ _
  clear QPC QIN CTH hb1
  go_upto_region 8 with (fail)
  have H8 := Lib.hid h8
  replace H6 := Lib.hid (H6.out.below hb2)
  replace OS := Lib.hid (show OwnVs _ W0.heap.size (.slice As f.stk.length cs) f.stk from row_later OS.out hb2)
  replace OL := Lib.hid (show OwnVs _ W0.heap.size (.slice Al f.loc.length cl) f.loc from row_later OL.out hb2)
  replace OO := Lib.hid (show OwnSs _ W0.heap.size (.slice Ao f.slt.length co) f.slt from row_later OO.out hb2)
  replace HBW := Lib.hid (Below.step HBW.out hb2)
  replace HBZ := Lib.hid (Below.step HBZ.out hb2)
  generalize W2.alloc (.cells #[.int .i64 o, .int .i64 a, .int .i64 b] 92) = W3 at *
  generalize W2.heap.size = g8 at *
  clear hb2 h8 x1 z0 z1 z2
  generalize hL : f.stk.length = L at *
  have HE := Lib.hid hL
  have e9 := HD.out
  clear hL HD
  subst e9
  have h13 : o = 13 → 0 ≤ a ∧ a < p.length := fun e => by
    subst e
    have h9 := HKN.out
    unfold knowsF at h9
    rw [if_neg (by simp), if_pos rfl, Bool.and_eq_true] at h9
    have h10 := h9.1
    simp [hasI] at h10
    exact h10
  have CO := Lib.hid (show Calls Tryz.prog 51 #[.slice (some ⟨pb, po, none⟩) p.length c, .agg #[.int .i64 o, .int .i64 a, .int .i64 b]] W3 fun e w' => e = .returned (.int .i64 n) ∧ Below W3.heap.size W3 w' from by
    have := off9_any c o a b W3 (HP.out.below HBZ.out hC) (Nat.le_trans hC HBZ.out.size) h13
    rw [HN.out] at this
    exact this)
  have i0 := H8.out.cell 0
  have i1 := H8.out.cell 1
  have i2 := H8.out.cell 2
  simp at i0 i1 i2
  have HIN := Lib.hid hi
  clear h13 hi hiI hi0
  go_upto_region 9 with (go_at_call 51; (with_reducible refine CO.out.mono ?_); rintro _ u2 ⟨rfl, hb2⟩)
  replace H8 := Lib.hid (H8.out.below hb2)
  replace H6 := Lib.hid (H6.out.below hb2)
  replace OS := Lib.hid (show OwnVs _ W0.heap.size (.slice As (d + n) cs) f.stk from row_later OS.out hb2)
  replace OL := Lib.hid (show OwnVs _ W0.heap.size (.slice Al f.loc.length cl) f.loc from row_later OL.out hb2)
  replace OO := Lib.hid (show OwnSs _ W0.heap.size (.slice Ao f.slt.length co) f.slt from row_later OO.out hb2)
  replace HBW := Lib.hid (Below.step HBW.out hb2)
  replace HBZ := Lib.hid (Below.step HBZ.out hb2)
  clear CO i0 i1 i2 hb2
  generalize u2 = W4 at *
  have x2 := H6.out.cell 2
  have i0 := H8.out.cell 0
  simp at x2 i0
  have hLL : f.stk.length ≤ 1000 := HL.out.stk
  rw [HE.out] at hLL
  have hd0 : (0 : Int) ≤ d := Int.natCast_nonneg d
  have hdb : (d : Int) ≤ 1000 := by omega
  have HLL := Lib.hid hLL
  clear hLL
  go_upto_region 10 with (fail)
  clear x2
  have hq0 : 0 ≤ (rz o).q ∧ (rz o).q ≤ 2 := by
    obtain ⟨k9, hk9, e9⟩ := may_in HM.out
    rw [e9, rz_in hk9, q_of k9 hk9]
    split
    · omega
    · split
      · omega
      · omega
  have CN := Lib.hid (ron_any o)
  generalize (rz o).q = q at *
  have hqq : decide (0 < q) = false ∨ (decide (0 < q) = true ∧ decide (16 < (d : Int) + q) = false) := by
    by_cases h9 : 0 < q
    · exact .inr ⟨decide_eq_true h9, decide_eq_false fun h8 => HQ.out ⟨h9, h8⟩⟩
    · exact .inl (decide_eq_false h9)
  obtain ⟨hqa, hqb⟩ := hq0
  have hn0 : (0 : Int) ≤ n := Int.natCast_nonneg n
  go_cut [97] from 78 to 97 (fun v97 wx => v97 = .bool false ∧ wx = W4)
  case first =>
    rcases hqq with hqq | ⟨hq1, hq2⟩
    all_goals go_wp2_with (go_at_call 52; (with_reducible refine (CN.out.go _).mono ?_); rintro _ _ ⟨rfl, rfl⟩)
    all_goals go_meet
    all_goals case rel => exact ⟨rfl, rfl⟩
  case rest =>
  obtain ⟨rfl, rfl⟩ := hcut
  generalize wc = W4 at *
  have hcap := own_cap OS.out
  have hva : VAt W4 W4.heap.size (if cs = d then As else As.map fun x => x.add (d * 2)) (f.stk.drop d) := by
    obtain ⟨A9, c9, e9, hv9⟩ := OS.out.lies
    simp only [Value.slice.injEq] at e9
    obtain ⟨rfl, _, rfl⟩ := e9
    split
    · intro h0
      rw [List.length_drop, HE.out] at h0
      omega
    · exact hv9.dropo d
  have HVA := Lib.hid (hva.below ((Below.refl W4.heap.size W4).alloc (Nat.le_refl _) (.cells #[] 30)) (Nat.le_refl _))
  have HKL := Lib.hid (show (f.stk.drop d).length = n by rw [List.length_drop, HE.out]; omega)
  have HNL := Lib.hid (show n ≤ 1000000 by have := HLL.out; omega)
  have x2 := H6.out.cell 2
  simp at x2
  have hb3 : Below W4.heap.size W4 (W4.alloc (.cells #[] 30)) := (Below.refl _ _).alloc (Nat.le_refl _) _
  have x2' := (H6.out.below hb3).cell 2
  simp at x2'
  clear hva hqq CN hb3
  go_upto_region 12 with (fail)
  go_cut [11] (fun v11 wx => ∃ Av cv, v11 = .slice Av n cv ∧ OwnVs wx W4.heap.size (.slice Av n cv) (f.stk.drop d) ∧ Below W4.heap.size W4 wx)
  case first =>
    go_wp2_with (at_builtin; refine wpList_append_vs0n rfl _ _ rfl W4 rfl rfl HKL.out rfl HVA.out HNL.out ?_; intro Av cv u3 hv hb3)
    all_goals go_meet
    all_goals case rel => exact ⟨Av, cv, rfl, hv, hb3⟩
  case rest =>
  obtain ⟨Av, cv, rfl, hv, hb3⟩ := hcut
  generalize wc = u3 at *
  have OV := Lib.hid (show OwnVs u3 W0.heap.size (.slice Av n cv) (f.stk.drop d) from row_mono hv HBW.out.size)
  have VL := Lib.hid (show ∀ b, (Value.slice Av n cv).ownBlock = some b → (Value.slice Al f.loc.length cl).ownBlock ≠ some b from fun b e e2 => by
    have q1 := (hv.lt b e).1
    have q2 := (OL.out.lt b e2).2
    omega)
  have VS := Lib.hid (show ∀ b, (Value.slice Av n cv).ownBlock = some b → (Value.slice As (d + n) cs).ownBlock ≠ some b from fun b e e2 => by
    have q1 := (hv.lt b e).1
    have q2 := (OS.out.lt b e2).2
    omega)
  replace H8 := Lib.hid (H8.out.below hb3)
  replace H6 := Lib.hid (H6.out.below hb3)
  replace OS := Lib.hid (show OwnVs u3 W0.heap.size (.slice As (d + n) cs) f.stk from row_later OS.out hb3)
  replace OL := Lib.hid (show OwnVs u3 W0.heap.size (.slice Al f.loc.length cl) f.loc from row_later OL.out hb3)
  replace OO := Lib.hid (show OwnSs u3 W0.heap.size (.slice Ao f.slt.length co) f.slt from row_later OO.out hb3)
  replace HBW := Lib.hid (Below.step HBW.out hb3)
  replace HBZ := Lib.hid (Below.step HBZ.out hb3)
  replace i0 := H8.out.cell 0
  simp at i0
  clear hv x2 x2' hb3 HVA HNL
  generalize u3 = W5 at *
  go_upto_block 0 with (fail)
  have H4 := Lib.hid (X4.out.below HBW.out)
  have H5 := Lib.hid (X5.out.below HBW.out)
  have BZ := Lib.hid (show w.heap.size ≤ W0.heap.size by rw [SZ.out]; omega)
  have l4 : w.heap.size + 1 < W0.heap.size := by rw [SZ.out]; omega
  have l5 : w.heap.size + 1 + 1 < W0.heap.size := by rw [SZ.out]; omega
  have B5 := Lib.hid HBW.out.size
  have hhl := H6.out.lt
  have h6 := H6.out
  have h8 := H8.out
  have i1 := h8.cell 1
  have i2 := h8.cell 2
  simp at i1 i2
  clear X3 X4 X5 HF HP hkI hqa hqb hpb hcb
  by_cases h13 : o = 13
  · as_aux_lemma =>
    have hkn := HKN.out
    have hn9 := HN.out
    rw [h13] at hkn hn9
    unfold knowsF at hkn
    rw [if_neg (by simp), if_pos rfl, Bool.and_eq_true] at hkn
    unfold offI at hn9
    rw [if_pos rfl] at hn9
    obtain ⟨hka, hkb⟩ := hkn
    simp [hasI] at hka hkb
    obtain ⟨m, rfl⟩ := Int.eq_ofNat_of_zero_le hkb.1
    have hm : m < f.slt.length := by omega
    obtain ⟨gs, gc, egs⟩ := own_form OO.out (by omega)
    simp only [Value.slice.injEq, true_and] at egs
    obtain ⟨rfl, rfl⟩ := egs
    have hRR := HRR.out
    rw [h13, spawn_eq HZ.out hm hn9 HE.out a] at hRR
    have CX := Lib.hid (show Calls Tryz.prog 53 #[.agg (fcA f (.slice As (d + n) cs) (.slice Al f.loc.length cl) (.slice (some ⟨gs, 0, none⟩) f.slt.length co)), .agg #[.int .i64 13, .int .i64 a, .int .i64 m], .slice Av n cv] W5 (TwoR W5 W0.heap.size RR.1 RR.2) from by
      rw [← hRR]
      by_cases h9 : f.slt[m].st ≠ 0
      · rw [if_pos h9]
        exact spawn_taken a W5 OS.out OL.out OO.out hm h9 B5.out
      · rw [if_neg h9]
        exact spawn_free a W5 OS.out OL.out OO.out OV.out hm (Decidable.not_not.1 h9) HLL.out ⟨by rw [HPC.out]; omega, by rw [HPC.out]; have := HI2.out; omega⟩ B5.out)
    clear hRR hka hkb hn9
    subst h13
    go_upto_region 15 with (fail)
    go_cut [] (fun wx => ∃ cs' ca', TwoH w w.heap.size (w.heap.size + 1) (w.heap.size + 1 + 1) cs' ca' RR.1 RR.2 wx ∧ cs'.size = 16 ∧ ca'.size = 5)
    case first =>
      go_wp2_with (first
        | (guard_target = wpList _ _ _ (Oper.mk _ (Op.load 45 (.tmp 6)) _ _ _ none :: _) _ _; refine wpList_load_row rfl 45 _ rfl g6 rfl _ _ _ _ h6 Tryz.underlying45 rfl (by kernel_rfl) ?_)
        | (go_at_call 53; (with_reducible refine (CX.out).mono ?_); rintro _ u ⟨fr, av, rfl, hof, hac, hb⟩; obtain ⟨cs', rfl, hfc⟩ := hof.cells; obtain ⟨ca', rfl, hcc⟩ := hac.cells; have f4 := (hb.block (w.heap.size + 1) l4).trans H4.out; have f5 := (hb.block (w.heap.size + 1 + 1) l5).trans H5.out)
        | (guard_target = wpList _ _ _ (Oper.mk _ (Op.store 45 (.tmp 4) _) _ _ _ none :: _) _ _; refine wpList_store_row rfl 45 _ _ rfl (w.heap.size + 1) cs' rfl rfl _ _ f4 (fb_info hfc) (by rw [hfc.size]; rfl) hfc.one ?_; have k5 := Held.row (show Held u (w.heap.size + 1 + 1) 77 ac0 from f5) (Nat.succ_ne_self (w.heap.size + 1)) cs')
        | (guard_target = wpList _ _ _ (Oper.mk _ (Op.store 77 (.tmp 5) _) _ _ _ none :: _) _ _; refine wpList_store_row rfl 77 _ _ rfl (w.heap.size + 1 + 1) ca' rfl rfl _ _ k5 (ab_info hcc) (by rw [hcc.size]; rfl) hcc.one ?_))
      go_meet
      case rel => exact ⟨cs', ca', two_set f4 f5 (OwnF.mono hof BZ.out) (ActO.mono hac BZ.out) (HBZ.out.trans (hb.mono BZ.out)) (Nat.le_succ _) (Nat.le_succ_of_le (Nat.le_succ _)), hfc.size, hcc.size⟩
    case rest =>
      obtain ⟨cs', ca', ⟨k4, k5, hof, hac, hb⟩, n1, n2⟩ := hcut
      (repeat go_step)
      exact bodyPost_ret (two_ret rfl rfl _ k4 k5 n1 n2 rfl rfl) rfl ⟨_, _, rfl, hof, hac, hb⟩
  have H13 := Lib.hid h13
  clear h13
  by_cases h14 : o = 14
  · as_aux_lemma =>
    have hkn := HKN.out
    rw [h14] at hkn
    unfold knowsF at hkn
    rw [if_neg (by simp), if_neg (by simp), if_pos rfl] at hkn
    simp [hasI] at hkn
    obtain ⟨m, rfl⟩ := Int.eq_ofNat_of_zero_le hkn.1
    have hm : m < f.slt.length := by omega
    obtain ⟨gs, gc, egs⟩ := own_form OO.out (by omega)
    simp only [Value.slice.injEq, true_and] at egs
    obtain ⟨rfl, rfl⟩ := egs
    have hRR := HRR.out
    rw [h14, show trapT (execF p f (14, (m : Int), b)) = trapT (joinF f m) from rfl] at hRR
    have CX := Lib.hid (show Calls Tryz.prog 54 #[.agg (fcA f (.slice As (d + n) cs) (.slice Al f.loc.length cl) (.slice (some ⟨gs, 0, none⟩) f.slt.length co)), .agg #[.int .i64 14, .int .i64 m, .int .i64 b]] W5 (TwoR W5 W0.heap.size RR.1 RR.2) from by
      rw [← hRR]
      have e9 := HE.out
      have os := OS.out
      rw [← e9] at os
      have d1 := D1.out
      rw [← e9] at d1
      have := r9join_any b W5 os OL.out OO.out d1 hm (by rw [e9]; exact HLL.out) ⟨by rw [HPC.out]; omega, by rw [HPC.out]; have := HI2.out; omega⟩ B5.out
      rw [e9] at this
      exact this)
    clear hRR hkn
    subst h14
    go_upto_region 17 with (fail)
    go_cut [] (fun wx => ∃ cs' ca', TwoH w w.heap.size (w.heap.size + 1) (w.heap.size + 1 + 1) cs' ca' RR.1 RR.2 wx ∧ cs'.size = 16 ∧ ca'.size = 5)
    case first =>
      go_wp2_with (first
        | (guard_target = wpList _ _ _ (Oper.mk _ (Op.load 45 (.tmp 6)) _ _ _ none :: _) _ _; refine wpList_load_row rfl 45 _ rfl g6 rfl _ _ _ _ h6 Tryz.underlying45 rfl (by kernel_rfl) ?_)
        | (go_at_call 54; (with_reducible refine (CX.out).mono ?_); rintro _ u ⟨fr, av, rfl, hof, hac, hb⟩; obtain ⟨cs', rfl, hfc⟩ := hof.cells; obtain ⟨ca', rfl, hcc⟩ := hac.cells; have f4 := (hb.block (w.heap.size + 1) l4).trans H4.out; have f5 := (hb.block (w.heap.size + 1 + 1) l5).trans H5.out)
        | (guard_target = wpList _ _ _ (Oper.mk _ (Op.store 45 (.tmp 4) _) _ _ _ none :: _) _ _; refine wpList_store_row rfl 45 _ _ rfl (w.heap.size + 1) cs' rfl rfl _ _ f4 (fb_info hfc) (by rw [hfc.size]; rfl) hfc.one ?_; have k5 := Held.row (show Held u (w.heap.size + 1 + 1) 77 ac0 from f5) (Nat.succ_ne_self (w.heap.size + 1)) cs')
        | (guard_target = wpList _ _ _ (Oper.mk _ (Op.store 77 (.tmp 5) _) _ _ _ none :: _) _ _; refine wpList_store_row rfl 77 _ _ rfl (w.heap.size + 1 + 1) ca' rfl rfl _ _ k5 (ab_info hcc) (by rw [hcc.size]; rfl) hcc.one ?_))
      go_meet
      case rel => exact ⟨cs', ca', two_set f4 f5 (OwnF.mono hof BZ.out) (ActO.mono hac BZ.out) (HBZ.out.trans (hb.mono BZ.out)) (Nat.le_succ _) (Nat.le_succ_of_le (Nat.le_succ _)), hfc.size, hcc.size⟩
    case rest =>
      obtain ⟨cs', ca', ⟨k4, k5, hof, hac, hb⟩, n1, n2⟩ := hcut
      (repeat go_step)
      exact bodyPost_ret (two_ret rfl rfl _ k4 k5 n1 n2 rfl rfl) rfl ⟨_, _, rfl, hof, hac, hb⟩
  have H14 := Lib.hid h14
  clear h14
  by_cases h15 : o = 15
  · as_aux_lemma =>
    have hn9 := HN.out
    rw [h15] at hn9
    obtain rfl : n = 1 := by
      have e9 : offI p (15, a, b) = 1 := by
        show (rz 15).p = 1
        decide
      rw [e9] at hn9
      omega
    have hRR := HRR.out
    have htv : (f.stk.drop d).getD 0 (0, 0) = topF f := drop_top HE.out.symm
    obtain ⟨tv, htv2⟩ : ∃ tv, tv = topF f := ⟨_, rfl⟩
    rw [h15, show trapT (execF p f (15, a, b)) = (endF (popF f 1) 0 (topF f), actK 4) from rfl, pop_d HE.out.symm, ← htv2] at hRR
    have hv1 : 0 < (f.stk.drop d).length := by rw [HKL.out]; decide
    obtain ⟨gv, cv', egv⟩ := own_form OV.out hv1
    simp only [Value.slice.injEq] at egv
    obtain ⟨rfl, hz9, rfl⟩ := egv
    clear hz9
    have v0 := (own_vs OV.out hv1).1
    have v1 := (own_vs OV.out hv1).2.1
    have hg0 : (f.stk.drop d)[0] = tv := by
      rw [htv2, ← htv, List.getD_eq_getElem?_getD, List.getElem?_eq_getElem hv1]
      rfl
    rw [hg0] at v0 v1
    replace v0 : W5.cell? ⟨gv, 0, none⟩ = some (.int .i64 tv.1) := v0
    replace v1 : W5.cell? ⟨gv, 1, none⟩ = some (.int .i64 tv.2) := v1
    have x2 := h6.cell 2
    have z2 := h6.fz 2
    simp at x2
    have HRR2 := Lib.hid hRR
    have hgvl := (OV.out.lt gv rfl).2
    clear hRR hn9 htv htv2 hg0 hv1
    subst h15
    have hd1 : (d : Int) ≤ cs := by have := hcap.1; omega
    go_upto_region 20 with (fail)
    have far : ∀ k, k ≠ g6 → (W5.setCell ⟨g6, 2, none⟩ (.slice As d cs)).heap[k]? = W5.heap[k]? := fun k hk => Below.heap_setCell W5 ⟨g6, 2, none⟩ _ k hk
    have nv6 : gv ≠ g6 := row_apart OV.out h6 tyFV gv rfl
    have l6 : W0.heap.size ≤ g6 := L6.out
    have n64 : g6 ≠ w.heap.size + 1 := by omega
    have n65 : g6 ≠ w.heap.size + 1 + 1 := by omega
    have gvB := (OV.out.lt gv rfl).1
    have nv4 : gv ≠ w.heap.size + 1 := by omega
    have nv5 : gv ≠ w.heap.size + 1 + 1 := by omega
    have H66 := Lib.hid (show Held (W5.setCell ⟨g6, 2, none⟩ (.slice As d cs)) g6 45 (fcA f (.slice As d cs) (.slice Al f.loc.length cl) (.slice Ao f.slt.length co)) from h6.set_at 2 _)
    have c0 : (W5.setCell ⟨g6, 2, none⟩ (.slice As d cs)).cell? ⟨gv, 0, none⟩ = some (.int .i64 tv.1) := (World.cell?_of_block (a := ⟨gv, 0, none⟩) (far gv nv6)).trans v0
    have c1 : (W5.setCell ⟨g6, 2, none⟩ (.slice As d cs)).cell? ⟨gv, 1, none⟩ = some (.int .i64 tv.2) := (World.cell?_of_block (a := ⟨gv, 1, none⟩) (far gv nv6)).trans v1
    have H46 := Lib.hid (show Held (W5.setCell ⟨g6, 2, none⟩ (.slice As d cs)).drew (w.heap.size + 1) 45 fz0 from (far _ n64.symm).trans H4.out)
    have H56 := Lib.hid (show Held (W5.setCell ⟨g6, 2, none⟩ (.slice As d cs)).drew (w.heap.size + 1 + 1) 77 ac0 from (far _ n65.symm).trans H5.out)
    have OWN6 := Lib.hid (show OwnF (W5.setCell ⟨g6, 2, none⟩ (.slice As d cs)).drew W0.heap.size (fv (endF { f with stk := f.stk.take d } 0 tv) (.slice As d cs) (.slice Al f.loc.length cl) (.slice Ao f.slt.length co)) (endF { f with stk := f.stk.take d } 0 tv) from
      ⟨_, _, _, rfl, row_same (cut_own OS.out (by rw [HE.out]; omega)) fun b e => far b (row_apart (cut_own OS.out (by rw [HE.out]; omega)) h6 tyFV b e), row_same OL.out fun b e => far b (row_apart OL.out h6 tyFV b e), row_same OO.out fun b e => far b (row_apart OO.out h6 tyFS b e)⟩)
    have BW6 := Lib.hid (show Below w.heap.size w (W5.setCell ⟨g6, 2, none⟩ (.slice As d cs)).drew from (HBZ.out.setCell (p := ⟨g6, 2, none⟩) (Nat.le_trans BZ.out l6) _).drew)
    have B6 := Lib.hid (show W0.heap.size ≤ (W5.setCell ⟨g6, 2, none⟩ (.slice As d cs)).drew.heap.size by show W0.heap.size ≤ (W5.setCell ⟨g6, 2, none⟩ (.slice As d cs)).heap.size; rw [later_cell (w := w)]; exact B5.out)
    have CE := Lib.hid (fun W => r9end_any { f with stk := f.stk.take d } (.slice As d cs) (.slice Al f.loc.length cl) (.slice Ao f.slt.length co) 0 tv.1 tv.2 W ⟨_, _, _, rfl⟩ ⟨_, _, _, rfl⟩ ⟨_, _, _, rfl⟩)
    clear v0 v1 x2 z2 far h6
    go_cut [] (fun wx => ∃ cs' ca', TwoH w w.heap.size (w.heap.size + 1) (w.heap.size + 1 + 1) cs' ca' RR.1 RR.2 wx ∧ cs'.size = 16 ∧ ca'.size = 5)
    case first =>
      refine wp_region_held_drew (S := fun W => Held W g6 45 (fcA f (.slice As d cs) (.slice Al f.loc.length cl) (.slice Ao f.slt.length co)) ∧ W.cell? ⟨gv, 0, none⟩ = some (.int .i64 tv.1) ∧ W.cell? ⟨gv, 1, none⟩ = some (.int .i64 tv.2)) (by kernel_rfl) ⟨H66.out, c0, c1⟩ (fun hS => ?_)
      generalize (W5.setCell ⟨g6, 2, none⟩ (.slice As d cs)).drew = W7 at *
      show wpAnyH _ _ _ _ _ 10 #[false, false, false, false, false, false, false, false, false, false] _ _
      refine wpAnyH_take (i := 0) (v := .agg (fcA f (.slice As d cs) (.slice Al f.loc.length cl) (.slice Ao f.slt.length co))) rfl (by kernel_rfl) (by kernel_rfl) (by kernel_rfl) (fun _ _ _ h => h) (yieldsIf_load_midA (by rfl) 45 (.tmp 6) rfl g6 0 rfl _ _ (fun W hW => rangeAt_held hW.1) Tryz.underlying45 rfl (by kernel_rfl)) hS ?_
      simp only [Act.put, List.getElem_toArray, List.getElem_cons_succ, List.getElem_cons_zero, List.setIfInBounds_toArray, List.set_cons_zero, List.set_cons_succ]
      refine wpAnyH_take (i := 1) (v := .slice (some ⟨gv, 0, none⟩) 1 cv) rfl (by kernel_rfl) (by kernel_rfl) (by kernel_rfl) (fun _ _ _ h => h) (Or.inl ⟨by rfl, fun W hW => ?_⟩) hS ?_
      · go_simp
      simp only [Act.put, List.getElem_toArray, List.getElem_cons_succ, List.getElem_cons_zero, List.setIfInBounds_toArray, List.set_cons_zero, List.set_cons_succ]
      refine wpAnyH_take (i := 2) (v := .pointer (some ⟨gv, 0, none⟩)) rfl (by kernel_rfl) (by kernel_rfl) (by kernel_rfl) (fun _ _ _ h => h) (Or.inl ⟨by rfl, fun W hW => ?_⟩) hS ?_
      · go_simp
      simp only [Act.put, List.getElem_toArray, List.getElem_cons_succ, List.getElem_cons_zero, List.setIfInBounds_toArray, List.set_cons_zero, List.set_cons_succ]
      refine wpAnyH_take (i := 3) (v := .agg #[.int .i64 tv.1, .int .i64 tv.2]) rfl (by kernel_rfl) (by kernel_rfl) (by kernel_rfl) (fun _ _ _ h => h) (Or.inl ⟨by rfl, fun W hW => ?_⟩) hS ?_
      · (obtain ⟨_, q0, q1⟩ := hW; go_simp)
      simp only [Act.put, List.getElem_toArray, List.getElem_cons_succ, List.getElem_cons_zero, List.setIfInBounds_toArray, List.set_cons_zero, List.set_cons_succ]
      refine wpAnyH_take (i := 4) (v := .agg #[.int .i64 0, .int .i64 tv.1, .int .i64 tv.2]) rfl (by kernel_rfl) (by kernel_rfl) (by kernel_rfl) (fun _ _ _ h => h) (Or.inl ⟨by rfl, fun W hW => ?_⟩) hS ?_
      · go_simp
      simp only [Act.put, List.getElem_toArray, List.getElem_cons_succ, List.getElem_cons_zero, List.setIfInBounds_toArray, List.set_cons_zero, List.set_cons_succ]
      refine wpAnyH_ready (rs := [5]) (by kernel_rfl) (by simp) ?_
      refine (AllReadyH.cons rfl (fun K hK => ?_) AllReadyH.nil)
      · go_simp
        go_at_call 55
        (with_reducible refine (CE.out _).mono ?_)
        rintro _ u7 ⟨rfl, hbu⟩
        replace hS := And.intro (hS.1.below hbu) (And.intro ((hbu.cell (p := ⟨gv, 0, none⟩) (block_lt_of_cell hS.2.1)).trans hS.2.1) ((hbu.cell (p := ⟨gv, 1, none⟩) (block_lt_of_cell hS.2.2)).trans hS.2.2))
        have f4 := H46.out.below hbu
        have f5 := H56.out.below hbu
        have own := OWN6.out.below hbu
        have bw7 := BW6.out.trans (hbu.mono (Nat.le_trans BZ.out B6.out))
        refine hK.out _ _ hS (fun _ => ?_)
        clear hK K
        (try simp only [Act.put, List.getElem_toArray, List.getElem_cons_succ, List.getElem_cons_zero, List.setIfInBounds_toArray, List.set_cons_zero, List.set_cons_succ])
        refine wpAnyH_take (i := 6) (v := .agg (fcA (endF { f with stk := f.stk.take d } 0 tv) (.slice As d cs) (.slice Al f.loc.length cl) (.slice Ao f.slt.length co))) rfl (by kernel_rfl) (by kernel_rfl) (by kernel_rfl) (fun _ _ _ h => h) (Or.inl ⟨by rfl, fun W hW => ?_⟩) hS ?_
        · go_simp
        simp only [Act.put, List.getElem_toArray, List.getElem_cons_succ, List.getElem_cons_zero, List.setIfInBounds_toArray, List.set_cons_zero, List.set_cons_succ]
        refine wpAnyH_take (i := 7) (v := .agg ac4) rfl (by kernel_rfl) (by kernel_rfl) (by kernel_rfl) (fun _ _ _ h => h) (Or.inl ⟨by rfl, fun W hW => ?_⟩) hS ?_
        · go_simp
        simp only [Act.put, List.getElem_toArray, List.getElem_cons_succ, List.getElem_cons_zero, List.setIfInBounds_toArray, List.set_cons_zero, List.set_cons_succ]
        refine wpAnyH_ready (rs := [8]) (by kernel_rfl) (by simp) ?_
        refine (AllReadyH.cons rfl (fun K hK => ?_) AllReadyH.nil)
        · rw [if_pos (by rfl)]
          refine wp_store_row 45 _ _ rfl _ (fcA (endF { f with stk := f.stk.take d } 0 tv) (.slice As d cs) (.slice Al f.loc.length cl) (.slice Ao f.slt.length co)) (by rfl) (by rfl) _ _ f4 (by kernel_rfl) (by rfl) (by simp [Value.oneCell']) ?_
          replace hS := And.intro (Held.row hS.1 n64 (fcA (endF { f with stk := f.stk.take d } 0 tv) (.slice As d cs) (.slice Al f.loc.length cl) (.slice Ao f.slt.length co))) (And.intro ((World.cell?_of_block (a := ⟨gv, 0, none⟩) (setRow_far _ _ (fcA (endF { f with stk := f.stk.take d } 0 tv) (.slice As d cs) (.slice Al f.loc.length cl) (.slice Ao f.slt.length co)) gv nv4)).trans hS.2.1) ((World.cell?_of_block (a := ⟨gv, 1, none⟩) (setRow_far _ _ (fcA (endF { f with stk := f.stk.take d } 0 tv) (.slice As d cs) (.slice Al f.loc.length cl) (.slice Ao f.slt.length co)) gv nv4)).trans hS.2.2))
          have f5r := Held.row f5 (Nat.succ_ne_self (w.heap.size + 1)) (fcA (endF { f with stk := f.stk.take d } 0 tv) (.slice As d cs) (.slice Al f.loc.length cl) (.slice Ao f.slt.length co))
          refine hK.out _ _ hS (fun _ => ?_)
          clear hK K
          (try simp only [Act.put, List.getElem_toArray, List.getElem_cons_succ, List.getElem_cons_zero, List.setIfInBounds_toArray, List.set_cons_zero, List.set_cons_succ])
          refine wpAnyH_ready (rs := [9]) (by kernel_rfl) (by simp) ?_
          refine (AllReadyH.cons rfl (fun K hK => ?_) AllReadyH.nil)
          · rw [if_pos (by rfl)]
            refine wp_store_row 77 _ _ rfl _ ac4 (by rfl) (by rfl) _ _ f5r (by kernel_rfl) (by rfl) (by simp [Value.oneCell']) ?_
            replace hS := And.intro (Held.row hS.1 n65 ac4) (And.intro ((World.cell?_of_block (a := ⟨gv, 0, none⟩) (setRow_far _ _ ac4 gv nv5)).trans hS.2.1) ((World.cell?_of_block (a := ⟨gv, 1, none⟩) (setRow_far _ _ ac4 gv nv5)).trans hS.2.2))
            refine hK.out _ _ hS (fun _ => ?_)
            clear hK K
            (try simp only [Act.put, List.getElem_toArray, List.getElem_cons_succ, List.getElem_cons_zero, List.setIfInBounds_toArray, List.set_cons_zero, List.set_cons_succ])
            refine wpAnyH_done (by kernel_rfl) ?_ _
            (repeat (first | go_skip | go_guarded | go_step | go_upon))
            go_meet
            case rel => rw [← HRR2.out]; exact ⟨_, _, two_set f4 f5 (OwnF.mono own BZ.out) (ActO.k _ _ 4) bw7 (Nat.le_succ _) (Nat.le_succ_of_le (Nat.le_succ _)), rfl, rfl⟩
    case rest =>
      obtain ⟨cs', ca', ⟨k4, k5, hof, hac, hb⟩, n1, n2⟩ := hcut
      (repeat go_step)
      exact bodyPost_ret (two_ret rfl rfl _ k4 k5 n1 n2 rfl rfl) rfl ⟨_, _, rfl, hof, hac, hb⟩
  have H15 := Lib.hid h15
  clear h15
  by_cases h16 : o = 16
  · as_aux_lemma =>
    have hRR := HRR.out
    have ha0 : a ≠ 0 := may16 (h16 ▸ HM.out)
    rw [h16, show trapT (execF p f (16, a, b)) = (endF f a (0, 0), actK 4) from if_pos ha0] at hRR
    have CX := Lib.hid (show Calls Tryz.prog 50 #[.agg (fcA f (.slice As (d + n) cs) (.slice Al f.loc.length cl) (.slice Ao f.slt.length co)), .int .i64 a] W5 (TwoR W5 W0.heap.size RR.1 RR.2) from by
      rw [← hRR]
      exact trap_two a W5 OS.out OL.out OO.out B5.out)
    clear hRR ha0
    subst h16
    go_upto_region 22 with (fail)
    go_cut [] (fun wx => ∃ cs' ca', TwoH w w.heap.size (w.heap.size + 1) (w.heap.size + 1 + 1) cs' ca' RR.1 RR.2 wx ∧ cs'.size = 16 ∧ ca'.size = 5)
    case first =>
      go_wp2_with (first
        | (guard_target = wpList _ _ _ (Oper.mk _ (Op.load 45 (.tmp 6)) _ _ _ none :: _) _ _; refine wpList_load_row rfl 45 _ rfl g6 rfl _ _ _ _ h6 Tryz.underlying45 rfl (by kernel_rfl) ?_)
        | (go_at_call 50; (with_reducible refine (CX.out).mono ?_); rintro _ u ⟨fr, av, rfl, hof, hac, hb⟩; obtain ⟨cs', rfl, hfc⟩ := hof.cells; obtain ⟨ca', rfl, hcc⟩ := hac.cells; have f4 := (hb.block (w.heap.size + 1) l4).trans H4.out; have f5 := (hb.block (w.heap.size + 1 + 1) l5).trans H5.out)
        | (guard_target = wpList _ _ _ (Oper.mk _ (Op.store 45 (.tmp 4) _) _ _ _ none :: _) _ _; refine wpList_store_row rfl 45 _ _ rfl (w.heap.size + 1) cs' rfl rfl _ _ f4 (fb_info hfc) (by rw [hfc.size]; rfl) hfc.one ?_; have k5 := Held.row (show Held u (w.heap.size + 1 + 1) 77 ac0 from f5) (Nat.succ_ne_self (w.heap.size + 1)) cs')
        | (guard_target = wpList _ _ _ (Oper.mk _ (Op.store 77 (.tmp 5) _) _ _ _ none :: _) _ _; refine wpList_store_row rfl 77 _ _ rfl (w.heap.size + 1 + 1) ca' rfl rfl _ _ k5 (ab_info hcc) (by rw [hcc.size]; rfl) hcc.one ?_))
      go_meet
      case rel => exact ⟨cs', ca', two_set f4 f5 (OwnF.mono hof BZ.out) (ActO.mono hac BZ.out) (HBZ.out.trans (hb.mono BZ.out)) (Nat.le_succ _) (Nat.le_succ_of_le (Nat.le_succ _)), hfc.size, hcc.size⟩
    case rest =>
      obtain ⟨cs', ca', ⟨k4, k5, hof, hac, hb⟩, n1, n2⟩ := hcut
      (repeat go_step)
      exact bodyPost_ret (two_ret rfl rfl _ k4 k5 n1 n2 rfl rfl) rfl ⟨_, _, rfl, hof, hac, hb⟩
  have H16 := Lib.hid h16
  clear h16
  by_cases h6z : o = 6 ∧ gNorm ((f.stk.drop d).getD 1 (0, 0)) = 0
  · as_aux_lemma =>
    obtain ⟨h6o, hz⟩ := h6z
    have hn9 := HN.out
    rw [h6o] at hn9
    obtain rfl : n = 2 := by
      have e9 : offI p (6, a, b) = 2 := by
        show (rz 6).p = 2
        decide
      rw [e9] at hn9
      omega
    have hRR := HRR.out
    have e1 := (drop_low HE.out.symm).2
    have hz2 := hz
    rw [e1] at hz
    rw [h6o, show execF p f (6, a, b) = compF f 6 from rfl, show trapT (compF f 6) = (endF f 1 (0, 0), actK 4) from by
      unfold compF
      rw [if_neg (by show ¬ decide (gNorm (topF f) ≠ 0) = true; simpa using hz)]
      rfl] at hRR
    have HRR2 := Lib.hid hRR
    have hv2 : 0 < (f.stk.drop d).length := by rw [HKL.out]; decide
    obtain ⟨gv, cv', egv⟩ := own_form OV.out hv2
    simp only [Value.slice.injEq] at egv
    obtain ⟨rfl, hz9, rfl⟩ := egv
    clear hz9 hv2
    obtain ⟨xv, yv, hxy⟩ := len2 HKL.out
    have v0 := (own_vs (l := [xv, yv]) (hxy ▸ OV.out) (k := 0) (Nat.zero_lt_succ _)).1
    have v1 := (own_vs (l := [xv, yv]) (hxy ▸ OV.out) (k := 0) (Nat.zero_lt_succ _)).2.1
    have v2 := (own_vs (l := [xv, yv]) (hxy ▸ OV.out) (k := 1) (Nat.lt_succ_self _)).1
    have v3 := (own_vs (l := [xv, yv]) (hxy ▸ OV.out) (k := 1) (Nat.lt_succ_self _)).2.1
    replace v0 : W5.cell? ⟨gv, 0, none⟩ = some (.int .i64 xv.1) := v0
    replace v1 : W5.cell? ⟨gv, 1, none⟩ = some (.int .i64 xv.2) := v1
    replace v2 : W5.cell? ⟨gv, 2, none⟩ = some (.int .i64 yv.1) := v2
    replace v3 : W5.cell? ⟨gv, 3, none⟩ = some (.int .i64 yv.2) := v3
    have hgvl := (OV.out.lt gv rfl).2
    rw [hxy] at hz2
    have CD := Lib.hid (fun W => rdiv_no xv yv W hz2)
    clear hRR hn9 e1 hz hz2 hxy HRR
    subst h6o
    go_upto_region 24 with (fail)
    go_cut [13] (fun v13 wx => v13 = .bool false ∧ Below W5.heap.size W5 wx)
    case first =>
      refine wp_region_held_drew (S := fun W => Below W5.heap.size W5 W) (by kernel_rfl) (Below.refl _ _).drew (fun hS => ?_)
      generalize W5.drew = W7 at hS ⊢
      show wpAnyH _ _ _ _ _ 13 #[false, false, false, false, false, false, false, false, false, false, false, false, false] _ _
      refine wpAnyH_take (i := 0) (v := .slice (some ⟨gv, 0, none⟩) 2 cv) rfl (by kernel_rfl) (by kernel_rfl) (by kernel_rfl) (fun _ _ _ h => h) (Or.inl ⟨by rfl, fun W hW => ?_⟩) hS ?_
      · go_simp
      simp only [Act.put, List.getElem_toArray, List.getElem_cons_succ, List.getElem_cons_zero, List.setIfInBounds_toArray, List.set_cons_zero, List.set_cons_succ]
      refine wpAnyH_take (i := 1) (v := .pointer (some ⟨gv, 0, none⟩)) rfl (by kernel_rfl) (by kernel_rfl) (by kernel_rfl) (fun _ _ _ h => h) (Or.inl ⟨by rfl, fun W hW => ?_⟩) hS ?_
      · go_simp
      simp only [Act.put, List.getElem_toArray, List.getElem_cons_succ, List.getElem_cons_zero, List.setIfInBounds_toArray, List.set_cons_zero, List.set_cons_succ]
      refine wpAnyH_take (i := 2) (v := .agg #[.int .i64 xv.1, .int .i64 xv.2]) rfl (by kernel_rfl) (by kernel_rfl) (by kernel_rfl) (fun _ _ _ h => h) (Or.inl ⟨by rfl, fun W hW => ?_⟩) hS ?_
      · (have q0 := (hW.cell (p := ⟨gv, 0, none⟩) hgvl).trans v0; have q1 := (hW.cell (p := ⟨gv, 1, none⟩) hgvl).trans v1; go_simp)
      simp only [Act.put, List.getElem_toArray, List.getElem_cons_succ, List.getElem_cons_zero, List.setIfInBounds_toArray, List.set_cons_zero, List.set_cons_succ]
      refine wpAnyH_take (i := 3) (v := .slice (some ⟨gv, 0, none⟩) 2 cv) rfl (by kernel_rfl) (by kernel_rfl) (by kernel_rfl) (fun _ _ _ h => h) (Or.inl ⟨by rfl, fun W hW => ?_⟩) hS ?_
      · go_simp
      simp only [Act.put, List.getElem_toArray, List.getElem_cons_succ, List.getElem_cons_zero, List.setIfInBounds_toArray, List.set_cons_zero, List.set_cons_succ]
      refine wpAnyH_take (i := 4) (v := .pointer (some ⟨gv, 2, none⟩)) rfl (by kernel_rfl) (by kernel_rfl) (by kernel_rfl) (fun _ _ _ h => h) (Or.inl ⟨by rfl, fun W hW => ?_⟩) hS ?_
      · go_simp
      simp only [Act.put, List.getElem_toArray, List.getElem_cons_succ, List.getElem_cons_zero, List.setIfInBounds_toArray, List.set_cons_zero, List.set_cons_succ]
      refine wpAnyH_take (i := 5) (v := .agg #[.int .i64 yv.1, .int .i64 yv.2]) rfl (by kernel_rfl) (by kernel_rfl) (by kernel_rfl) (fun _ _ _ h => h) (Or.inl ⟨by rfl, fun W hW => ?_⟩) hS ?_
      · (have q0 := (hW.cell (p := ⟨gv, 2, none⟩) hgvl).trans v2; have q1 := (hW.cell (p := ⟨gv, 3, none⟩) hgvl).trans v3; go_simp)
      simp only [Act.put, List.getElem_toArray, List.getElem_cons_succ, List.getElem_cons_zero, List.setIfInBounds_toArray, List.set_cons_zero, List.set_cons_succ]
      refine wpAnyH_ready (rs := [6, 10]) (by kernel_rfl) (by simp) ?_
      refine (AllReadyH.cons rfl (fun K hK => ?_) (AllReadyH.cons rfl (fun K hK => ?_) AllReadyH.nil))
      · go_simp
        go_at_call 56
        (with_reducible refine ((CD.out _)).mono ?_)
        rintro _ u1 ⟨rfl, hbu⟩
        replace hS := Below.step hS hbu
        clear hbu
        (repeat (first | go_skip | go_guarded | go_step | go_upon))
        refine hK.out _ _ hS (fun _ => ?_)
        clear hK K
        (try simp only [Act.put, List.getElem_toArray, List.getElem_cons_succ, List.getElem_cons_zero, List.setIfInBounds_toArray, List.set_cons_zero, List.set_cons_succ])
        refine wpAnyH_take (i := 7) (v := .tuple #[.agg #[.int .i64 zv0.1, .int .i64 zv0.2], .bool false]) rfl (by kernel_rfl) (by kernel_rfl) (by kernel_rfl) (fun _ _ _ h => h) (Or.inl ⟨by rfl, fun W hW => ?_⟩) hS ?_
        · go_simp
        simp only [Act.put, List.getElem_toArray, List.getElem_cons_succ, List.getElem_cons_zero, List.setIfInBounds_toArray, List.set_cons_zero, List.set_cons_succ]
        refine wpAnyH_take (i := 8) (v := .agg #[.int .i64 zv0.1, .int .i64 zv0.2]) rfl (by kernel_rfl) (by kernel_rfl) (by kernel_rfl) (fun _ _ _ h => h) (Or.inl ⟨by rfl, fun W hW => ?_⟩) hS ?_
        · go_simp
        simp only [Act.put, List.getElem_toArray, List.getElem_cons_succ, List.getElem_cons_zero, List.setIfInBounds_toArray, List.set_cons_zero, List.set_cons_succ]
        refine wpAnyH_take (i := 9) (v := .bool false) rfl (by kernel_rfl) (by kernel_rfl) (by kernel_rfl) (fun _ _ _ h => h) (Or.inl ⟨by rfl, fun W hW => ?_⟩) hS ?_
        · go_simp
        simp only [Act.put, List.getElem_toArray, List.getElem_cons_succ, List.getElem_cons_zero, List.setIfInBounds_toArray, List.set_cons_zero, List.set_cons_succ]
        refine wpAnyH_ready (rs := [10]) (by kernel_rfl) (by simp) ?_
        refine (AllReadyH.cons rfl (fun K hK => ?_) AllReadyH.nil)
        · rw [if_pos (by rfl)]
          refine wp_alloc_arr 30 rfl #[.int .i64 0, .int .i64 0] (by kernel_rfl) ?_
          have f12 := Held.new u1 30 #[.int .i64 0, .int .i64 0]
          have lf12 := Below.size hS
          replace hS := below_allocz hS (.cells #[.int .i64 0, .int .i64 0] 30)
          generalize u1.alloc (.cells #[.int .i64 0, .int .i64 0] 30) = W2z at *
          refine hK.out _ _ hS (fun _ => ?_)
          clear hK K
          (try simp only [Act.put, List.getElem_toArray, List.getElem_cons_succ, List.getElem_cons_zero, List.setIfInBounds_toArray, List.set_cons_zero, List.set_cons_succ])
          refine wpAnyH_ready (rs := [11]) (by kernel_rfl) (by simp) ?_
          refine (AllReadyH.cons rfl (fun K hK => ?_) AllReadyH.nil)
          · rw [if_pos (by rfl)]
            refine wp_store_row 30 _ _ rfl _ #[.int .i64 zv0.1, .int .i64 zv0.2] (by rfl) (by rfl) _ _ f12 (by kernel_rfl) (by rfl) (by simp [Value.oneCell']) ?_
            replace hS := below_rowz hS lf12 #[.int .i64 zv0.1, .int .i64 zv0.2]
            replace f12 := Held.rowSelf f12 #[.int .i64 zv0.1, .int .i64 zv0.2]
            generalize W2z.setRow _ #[.int .i64 zv0.1, .int .i64 zv0.2] = W3z at *
            refine hK.out _ _ hS (fun _ => ?_)
            clear hK K
            (try simp only [Act.put, List.getElem_toArray, List.getElem_cons_succ, List.getElem_cons_zero, List.setIfInBounds_toArray, List.set_cons_zero, List.set_cons_succ])
            refine wpAnyH_take (i := 12) (v := .bool false) rfl (by kernel_rfl) (by kernel_rfl) (by kernel_rfl) (fun _ _ _ h => h) (Or.inl ⟨by rfl, fun W hW => ?_⟩) hS ?_
            · go_simp
            simp only [Act.put, List.getElem_toArray, List.getElem_cons_succ, List.getElem_cons_zero, List.setIfInBounds_toArray, List.set_cons_zero, List.set_cons_succ]
            refine wpAnyH_done (by kernel_rfl) ?_ _
            (repeat (first | go_skip | go_guarded | go_step | go_upon))
            go_meet
            case rel => exact ⟨rfl, hS⟩
      · rw [if_pos (by rfl)]
        refine wp_alloc_arr 30 rfl #[.int .i64 0, .int .i64 0] (by kernel_rfl) ?_
        have f12 := Held.new W7 30 #[.int .i64 0, .int .i64 0]
        have lf12 := Below.size hS
        replace hS := below_allocz hS (.cells #[.int .i64 0, .int .i64 0] 30)
        generalize W7.alloc (.cells #[.int .i64 0, .int .i64 0] 30) = W1z at *
        refine hK.out _ _ hS (fun _ => ?_)
        clear hK K
        (try simp only [Act.put, List.getElem_toArray, List.getElem_cons_succ, List.getElem_cons_zero, List.setIfInBounds_toArray, List.set_cons_zero, List.set_cons_succ])
        refine wpAnyH_ready (rs := [6]) (by kernel_rfl) (by simp) ?_
        refine (AllReadyH.cons rfl (fun K hK => ?_) AllReadyH.nil)
        · go_simp
          go_at_call 56
          (with_reducible refine ((CD.out _)).mono ?_)
          rintro _ u2 ⟨rfl, hbu⟩
          replace f12 := Held.below f12 hbu
          replace hS := Below.step hS hbu
          clear hbu
          (repeat (first | go_skip | go_guarded | go_step | go_upon))
          refine hK.out _ _ hS (fun _ => ?_)
          clear hK K
          (try simp only [Act.put, List.getElem_toArray, List.getElem_cons_succ, List.getElem_cons_zero, List.setIfInBounds_toArray, List.set_cons_zero, List.set_cons_succ])
          refine wpAnyH_take (i := 7) (v := .tuple #[.agg #[.int .i64 zv0.1, .int .i64 zv0.2], .bool false]) rfl (by kernel_rfl) (by kernel_rfl) (by kernel_rfl) (fun _ _ _ h => h) (Or.inl ⟨by rfl, fun W hW => ?_⟩) hS ?_
          · go_simp
          simp only [Act.put, List.getElem_toArray, List.getElem_cons_succ, List.getElem_cons_zero, List.setIfInBounds_toArray, List.set_cons_zero, List.set_cons_succ]
          refine wpAnyH_take (i := 8) (v := .agg #[.int .i64 zv0.1, .int .i64 zv0.2]) rfl (by kernel_rfl) (by kernel_rfl) (by kernel_rfl) (fun _ _ _ h => h) (Or.inl ⟨by rfl, fun W hW => ?_⟩) hS ?_
          · go_simp
          simp only [Act.put, List.getElem_toArray, List.getElem_cons_succ, List.getElem_cons_zero, List.setIfInBounds_toArray, List.set_cons_zero, List.set_cons_succ]
          refine wpAnyH_take (i := 9) (v := .bool false) rfl (by kernel_rfl) (by kernel_rfl) (by kernel_rfl) (fun _ _ _ h => h) (Or.inl ⟨by rfl, fun W hW => ?_⟩) hS ?_
          · go_simp
          simp only [Act.put, List.getElem_toArray, List.getElem_cons_succ, List.getElem_cons_zero, List.setIfInBounds_toArray, List.set_cons_zero, List.set_cons_succ]
          refine wpAnyH_ready (rs := [11]) (by kernel_rfl) (by simp) ?_
          refine (AllReadyH.cons rfl (fun K hK => ?_) AllReadyH.nil)
          · rw [if_pos (by rfl)]
            refine wp_store_row 30 _ _ rfl _ #[.int .i64 zv0.1, .int .i64 zv0.2] (by rfl) (by rfl) _ _ f12 (by kernel_rfl) (by rfl) (by simp [Value.oneCell']) ?_
            replace hS := below_rowz hS lf12 #[.int .i64 zv0.1, .int .i64 zv0.2]
            replace f12 := Held.rowSelf f12 #[.int .i64 zv0.1, .int .i64 zv0.2]
            generalize u2.setRow _ #[.int .i64 zv0.1, .int .i64 zv0.2] = W3z at *
            refine hK.out _ _ hS (fun _ => ?_)
            clear hK K
            (try simp only [Act.put, List.getElem_toArray, List.getElem_cons_succ, List.getElem_cons_zero, List.setIfInBounds_toArray, List.set_cons_zero, List.set_cons_succ])
            refine wpAnyH_take (i := 12) (v := .bool false) rfl (by kernel_rfl) (by kernel_rfl) (by kernel_rfl) (fun _ _ _ h => h) (Or.inl ⟨by rfl, fun W hW => ?_⟩) hS ?_
            · go_simp
            simp only [Act.put, List.getElem_toArray, List.getElem_cons_succ, List.getElem_cons_zero, List.setIfInBounds_toArray, List.set_cons_zero, List.set_cons_succ]
            refine wpAnyH_done (by kernel_rfl) ?_ _
            (repeat (first | go_skip | go_guarded | go_step | go_upon))
            go_meet
            case rel => exact ⟨rfl, hS⟩
    case rest =>
      obtain ⟨rfl, hb6⟩ := hcut
      generalize wc = W6 at *
      have h6 := H6.out.below hb6
      have H4 := Lib.hid (H4.out.below hb6)
      have H5 := Lib.hid (H5.out.below hb6)
      replace HBZ := Lib.hid (Below.step HBZ.out hb6)
      have CX := Lib.hid (show Calls Tryz.prog 50 #[.agg (fcA f (.slice As (d + 2) cs) (.slice Al f.loc.length cl) (.slice Ao f.slt.length co)), .int .i64 1] W6 (TwoR W6 W0.heap.size RR.1 RR.2) from by
        rw [← HRR2.out]
        exact trap_two 1 W6 (row_later OS.out hb6) (row_later OL.out hb6) (row_later OO.out hb6) (Nat.le_trans B5.out hb6.size))
      clear v0 v1 v2 v3
      go_upto_region 26 with (fail)
      go_cut [] (fun wx => ∃ cs' ca', TwoH w w.heap.size (w.heap.size + 1) (w.heap.size + 1 + 1) cs' ca' RR.1 RR.2 wx ∧ cs'.size = 16 ∧ ca'.size = 5)
      case first =>
        go_wp2_with (first
          | (guard_target = wpList _ _ _ (Oper.mk _ (Op.load 45 (.tmp 6)) _ _ _ none :: _) _ _; refine wpList_load_row rfl 45 _ rfl g6 rfl _ _ _ _ h6 Tryz.underlying45 rfl (by kernel_rfl) ?_)
          | (go_at_call 50; (with_reducible refine (CX.out).mono ?_); rintro _ u ⟨fr, av, rfl, hof, hac, hb⟩; obtain ⟨cs', rfl, hfc⟩ := hof.cells; obtain ⟨ca', rfl, hcc⟩ := hac.cells; have f4 := (hb.block (w.heap.size + 1) l4).trans H4.out; have f5 := (hb.block (w.heap.size + 1 + 1) l5).trans H5.out)
          | (guard_target = wpList _ _ _ (Oper.mk _ (Op.store 45 (.tmp 4) _) _ _ _ none :: _) _ _; refine wpList_store_row rfl 45 _ _ rfl (w.heap.size + 1) cs' rfl rfl _ _ f4 (fb_info hfc) (by rw [hfc.size]; rfl) hfc.one ?_; have k5 := Held.row (show Held u (w.heap.size + 1 + 1) 77 ac0 from f5) (Nat.succ_ne_self (w.heap.size + 1)) cs')
          | (guard_target = wpList _ _ _ (Oper.mk _ (Op.store 77 (.tmp 5) _) _ _ _ none :: _) _ _; refine wpList_store_row rfl 77 _ _ rfl (w.heap.size + 1 + 1) ca' rfl rfl _ _ k5 (ab_info hcc) (by rw [hcc.size]; rfl) hcc.one ?_))
        go_meet
        case rel => exact ⟨cs', ca', two_set f4 f5 (OwnF.mono hof BZ.out) (ActO.mono hac BZ.out) (HBZ.out.trans (hb.mono BZ.out)) (Nat.le_succ _) (Nat.le_succ_of_le (Nat.le_succ _)), hfc.size, hcc.size⟩
      case rest =>
        obtain ⟨cs', ca', ⟨k4, k5, hof, hac, hb⟩, n1, n2⟩ := hcut
        (repeat go_step)
        exact bodyPost_ret (two_ret rfl rfl _ k4 k5 n1 n2 rfl rfl) rfl ⟨_, _, rfl, hof, hac, hb⟩
  have H6z := Lib.hid h6z
  clear h6z
  have e1 := HN.out
  have e2 := HE.out
  have ho := HO.out
  rw [show (((d + n : Nat) : Int) - offI p (o, a, b)).toNat = d by rw [e1]; omega] at ho
  rcases ho with h | h | h | h | h
  · exact absurd h H13.out
  · exact absurd h H14.out
  · exact absurd h H15.out
  · exact absurd h H16.out
  · exact absurd h H6z.out
end Go.Proofs.YtoeinpiekfmbgaaGreatDoor

