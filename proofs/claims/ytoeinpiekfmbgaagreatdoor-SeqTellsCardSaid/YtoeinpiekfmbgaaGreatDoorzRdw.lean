/- Layer 9: the document's Do: what lays and takes. -/
import Derived.Test.YtoeinpiekfmbgaaGreatDoorzRpz
namespace Go.Proofs.YtoeinpiekfmbgaaGreatDoor
set_option linter.unusedVariables false
set_option linter.unusedSimpArgs false
open Gm Go.RowKit Go.ChangeShapes Go.WideShapes Go.ChangeAt Go.Sort

set_option maxHeartbeats 8000000 in
set_option maxRecDepth 100000 in
theorem r9do_w {C D : Nat} {A : Option Addr} {p : List Fun} {f : Frm} {A1 A2 A3 : Option Addr} {c1 c2 c3 : Nat} (c : Nat) (w : World) (hp : ProgAt w C A p) (hC : C ≤ w.heap.size) (hf : FrmAt w D (fv f (.slice A1 f.stk.length c1) (.slice A2 f.loc.length c2) (.slice A3 f.slt.length c3)) f) (hD : D ≤ w.heap.size)
    (hl : FrmLen f) (hst : f.st = 0) {k i : Nat} (hk : k < p.length) (hfn : f.fn = k) (hi : i < p[k].code.length) (hpc : f.pc = i) (hi2 : i < 200) {o a b : Int} (hx : p[k].code[i] = (o, a, b)) (hm : mayZ o a b = true) (hkn : knowsF p f (o, a, b) = true) (hde : depthF p f (o, a, b) = 0) (hZ : InvZ f) (ho : o ≠ 13 ∧ o ≠ 14 ∧ o ≠ 15 ∧ o ≠ 16 ∧ (o = 6 → gNorm ((f.stk.drop ((f.stk.length : Int) - offI p (o, a, b)).toNat).getD 1 (0, 0)) ≠ 0)) :
    Calls Tryz.prog 30 #[.slice A p.length c, fv f (.slice A1 f.stk.length c1) (.slice A2 f.loc.length c2) (.slice A3 f.slt.length c3)] w (TwoR w w.heap.size (trapT (execF p f (o, a, b))).1 (trapT (execF p f (o, a, b))).2) := by
  have HO := Lib.hid ho
  clear ho
  generalize hRR : trapT (execF p f (o, a, b)) = RR
  have HRR := Lib.hid hRR
  clear hRR
  obtain ⟨n, hn⟩ : ∃ n : Nat, offI p (o, a, b) = n := by
    unfold depthF at hde
    split at hde
    · simp at hde
    · exact ⟨(offI p (o, a, b)).toNat, by omega⟩
  obtain ⟨d, hd⟩ : ∃ d : Nat, f.stk.length = d + n := by
    unfold depthF at hde
    split at hde
    · simp at hde
    · exact ⟨f.stk.length - n, by omega⟩
  have hq : ¬ (0 < (rz o).q ∧ 16 < (d : Int) + (rz o).q) := by
    unfold depthF at hde
    split at hde
    · simp at hde
    · split at hde
      · simp at hde
      · rename_i h9
        intro h8
        exact h9 ⟨h8.1, by rw [hn, hd]; have := h8.2; push_cast; omega⟩
  obtain ⟨pb, po, rfl, hpb, hpf⟩ := hp (Nat.zero_lt_of_lt hk)
  obtain ⟨-, -, -, Ac, cc, y3, hcode⟩ := hpf k hk
  obtain ⟨cb, cof, rfl, hcb, hcc⟩ := hcode (Nat.zero_lt_of_lt hi)
  obtain ⟨z0, z1, z2⟩ := hcc i hi
  rw [hx] at z0 z1 z2
  simp only at z0 z1 z2
  have HN := Lib.hid hn
  have HD := Lib.hid hd
  have HQ := Lib.hid hq
  have HP := Lib.hid hp
  have HF := Lib.hid hf
  have HL := Lib.hid hl
  have HM := Lib.hid hm
  have HKN := Lib.hid hkn
  have HZ := Lib.hid hZ
  have HPC := Lib.hid hpc
  have HFN := Lib.hid hfn
  have HI2 := Lib.hid hi2
  have hkI : (k : Int) < p.length := by omega
  have hiI : (i : Int) < p[k].code.length := by omega
  clear hx hcc hcode hpf
  generalize hLc : p[k].code.length = Lc at *
  have e8 : (f.st != 0) = false := by simp [hst]
  have w0 := below3 w (.cells (fcA f (.slice A1 f.stk.length c1) (.slice A2 f.loc.length c2) (.slice A3 f.slt.length c3)) 45) (.cells fz0 45) (.cells ac0 77)
  have hx3 := ((Held.new w 45 (fcA f (.slice A1 f.stk.length c1) (.slice A2 f.loc.length c2) (.slice A3 f.slt.length c3))).alloc (.cells fz0 45)).alloc (.cells ac0 77)
  have hx4 := (Held.new1 w (.cells (fcA f (.slice A1 f.stk.length c1) (.slice A2 f.loc.length c2) (.slice A3 f.slt.length c3)) 45) 45 fz0).alloc (.cells ac0 77)
  have hx5 := Held.new2 w (.cells (fcA f (.slice A1 f.stk.length c1) (.slice A2 f.loc.length c2) (.slice A3 f.slt.length c3)) 45) (.cells fz0 45) 77 ac0
  have hz0 : (((w.alloc (.cells (fcA f (.slice A1 f.stk.length c1) (.slice A2 f.loc.length c2) (.slice A3 f.slt.length c3)) 45)).alloc (.cells fz0 45)).alloc (.cells ac0 77)).heap.size = w.heap.size + 3 := by simp
  clear hp hf hl hm hkn hZ hn hq hde hst hd hLc hfn hpc hi2
  go_enter Tryz.func30, Tryz.ntmps30
  go_upto_region 1 with (guard_target = wpList _ _ _ (Oper.mk _ (Op.box 45 _) _ _ _ none :: _) _ _; refine wpList_box_arr rfl 45 (.tmp 1) rfl (fcA f (.slice A1 f.stk.length c1) (.slice A2 f.loc.length c2) (.slice A3 f.slt.length c3)) rfl ?_)
  generalize (((w.alloc (.cells (fcA f (.slice A1 f.stk.length c1) (.slice A2 f.loc.length c2) (.slice A3 f.slt.length c3)) 45)).alloc (.cells fz0 45)).alloc (.cells ac0 77)) = W0 at *
  have x0 := hx3.cell 0
  have x8 := hx3.cell 8
  simp at x0 x8
  rw [HFN.out] at x0
  have X3 := Lib.hid hx3
  have X4 := Lib.hid hx4
  have X5 := Lib.hid hx5
  have BW := Lib.hid w0
  have SZ := Lib.hid hz0
  clear hx3 hx4 hx5 w0 hz0
  go_upto_region 3 with (fail)
  clear x0 x8 e8
  have h3 := X3.out
  have CC := Lib.hid (rcopy_any W0 (HF.out.below BW.out hD) HL.out (Nat.le_trans hD BW.out.size))
  go_upto_region 4 with (first
    | (guard_target = wpList _ _ _ (Oper.mk _ (Op.load 45 (.tmp 3)) _ _ _ none :: _) _ _; refine wpList_load_row rfl 45 _ rfl w.heap.size rfl _ _ _ _ h3 Tryz.underlying45 rfl (by kernel_rfl) ?_)
    | (go_at_call 48; (with_reducible refine CC.out.mono ?_); rintro _ u ⟨s, l, o', rfl, hs, hlo, ho, d1, d2, d3, hb⟩; obtain ⟨As, cs, rfl, -⟩ := hs.lies; obtain ⟨Al, cl, rfl, -⟩ := hlo.lies; obtain ⟨Ao, co, rfl, -⟩ := ho.lies; have f6 := Held.new u 45 fz0)
    | (guard_target = wpList _ _ _ (Oper.mk _ (Op.alloc 45) _ _ _ none :: _) _ _; refine wpList_alloc_arr rfl 45 rfl fz0 (by kernel_rfl) ?_)
    | (guard_target = wpList _ _ _ (Oper.mk _ (Op.store 45 (.tmp 6) _) _ _ _ none :: _) _ _; refine wpList_store_row rfl 45 _ _ rfl u.heap.size (fcA f (.slice As f.stk.length cs) (.slice Al f.loc.length cl) (.slice Ao f.slt.length co)) rfl rfl _ _ f6 (by kernel_rfl) rfl (by simp [Value.oneCell']) ?_))
  have hb1 : Below u.heap.size u ((u.alloc (.cells fz0 45)).setRow u.heap.size (fcA f (.slice As f.stk.length cs) (.slice Al f.loc.length cl) (.slice Ao f.slt.length co))) := below_row ((Below.refl _ _).alloc (Nat.le_refl _) _) (Nat.le_refl _) _
  have h6 : Held ((u.alloc (.cells fz0 45)).setRow u.heap.size (fcA f (.slice As f.stk.length cs) (.slice Al f.loc.length cl) (.slice Ao f.slt.length co))) u.heap.size 45 (fcA f (.slice As f.stk.length cs) (.slice Al f.loc.length cl) (.slice Ao f.slt.length co)) := f6.rowSelf _
  have os := row_later hs hb1
  have ol := row_later hlo hb1
  have oo := row_later ho hb1
  have hbW := Below.step hb hb1
  have hbz := Below.step BW.out hbW
  have l6 : W0.heap.size ≤ u.heap.size := hb.size
  generalize ((u.alloc (.cells fz0 45)).setRow u.heap.size (fcA f (.slice As f.stk.length cs) (.slice Al f.loc.length cl) (.slice Ao f.slt.length co))) = W1 at *
  generalize u.heap.size = g6 at *
  have H6 := Lib.hid h6
  have OS := Lib.hid os
  have OL := Lib.hid ol
  have OO := Lib.hid oo
  have D1 := Lib.hid d1
  have HBW := Lib.hid hbW
  have HBZ := Lib.hid hbz
  have L6 := Lib.hid l6
  clear f6 hs hlo ho hb hb1 h6 os ol oo d1 d2 d3 h3 CC hbW hbz l6
  have x0 := H6.out.cell 0
  simp at x0
  rw [HFN.out] at x0
  have y3' := (HBZ.out.cell (p := ⟨pb, _, none⟩) (Nat.lt_of_lt_of_le hpb hC)).trans y3
  go_upto_region 5 with (fail)
  have QPC := Lib.hid (show ∀ W, Below W1.heap.size W1 W → W.cell? ⟨g6, 1, none⟩ = some (.int .i64 i) from fun W hW => by
    have := (H6.out.below hW).cell 1
    simp at this
    rw [HPC.out] at this
    exact this)
  have QIN := Lib.hid (show ∀ W, Below W1.heap.size W1 W → W.cell? ⟨cb, cof + i * 3, none⟩ = some (.int .i64 o) ∧ W.cell? ⟨cb, cof + i * 3 + 1, none⟩ = some (.int .i64 a) ∧ W.cell? ⟨cb, cof + i * 3 + 2, none⟩ = some (.int .i64 b) from fun W hW => by
    have hb := Below.step HBZ.out hW
    exact ⟨(hb.cell (p := ⟨cb, _, none⟩) (Nat.lt_of_lt_of_le hcb hC)).trans z0, (hb.cell (p := ⟨cb, _, none⟩) (Nat.lt_of_lt_of_le hcb hC)).trans z1, (hb.cell (p := ⟨cb, _, none⟩) (Nat.lt_of_lt_of_le hcb hC)).trans z2⟩)
  have CTH := Lib.hid (show ∀ W, Calls Tryz.prog 49 #[.slice (some ⟨pb, po, none⟩) p.length c, .agg (fcA f (.slice As f.stk.length cs) (.slice Al f.loc.length cl) (.slice Ao f.slt.length co)), .agg #[.int .i64 o, .int .i64 a, .int .i64 b]] W fun e w' => e = .returned (.bool true) ∧ Below W.heap.size W w' from fun W => by
    have := rthere_any (A := some ⟨pb, po, none⟩) (p := p) (f := f) (s := As) (l := Al) (t := Ao) c cs cl co o a b W
    rw [HM.out, HKN.out] at this
    exact this)
  have hi0 : (0 : Int) ≤ i := Int.natCast_nonneg i
  clear x0 y3' z0 z1 z2 y3
  go_cut [60] (fun v60 wx => v60 = .bool false ∧ Below W1.heap.size W1 wx)
  case first =>
   as_aux_lemma =>
    refine wp_region_held_drew (S := fun W => Below W1.heap.size W1 W) (by kernel_rfl) (Below.refl _ _).drew (fun hS => ?_)
    generalize W1.drew = W3 at hS ⊢
    show wpAnyH _ _ _ _ _ 22 #[false, false, false, false, false, false, false, false, false, false, false, false, false, false, false, false, false, false, false, false, false, false] _ _
    refine wpAnyH_take (i := 0) (v := .pointer (some ⟨g6, 1, none⟩)) rfl (by kernel_rfl) (by kernel_rfl) (by kernel_rfl) (fun _ _ _ h => h) (Or.inl ⟨by rfl, fun W hW => ?_⟩) hS ?_
    · go_simp
    simp only [Act.put, List.getElem_toArray, List.getElem_cons_succ, List.getElem_cons_zero, List.setIfInBounds_toArray, List.set_cons_zero, List.set_cons_succ]
    refine wpAnyH_take (i := 1) (v := .int .i64 i) rfl (by kernel_rfl) (by kernel_rfl) (by kernel_rfl) (fun _ _ _ h => h) (Or.inl ⟨by rfl, fun W hW => ?_⟩) hS ?_
    · (have q := QPC.out W hW; go_simp)
    simp only [Act.put, List.getElem_toArray, List.getElem_cons_succ, List.getElem_cons_zero, List.setIfInBounds_toArray, List.set_cons_zero, List.set_cons_succ]
    refine wpAnyH_take (i := 2) (v := .bool false) rfl (by kernel_rfl) (by kernel_rfl) (by kernel_rfl) (fun _ _ _ h => h) (Or.inl ⟨by rfl, fun W hW => ?_⟩) hS ?_
    · go_simp
    simp only [Act.put, List.getElem_toArray, List.getElem_cons_succ, List.getElem_cons_zero, List.setIfInBounds_toArray, List.set_cons_zero, List.set_cons_succ]
    refine wpAnyH_take (i := 3) (v := .bool false) rfl (by kernel_rfl) (by kernel_rfl) (by kernel_rfl) (fun _ _ _ h => h) (Or.inl ⟨by rfl, fun W hW => ?_⟩) hS ?_
    · go_simp
    simp only [Act.put, List.getElem_toArray, List.getElem_cons_succ, List.getElem_cons_zero, List.setIfInBounds_toArray, List.set_cons_zero, List.set_cons_succ]
    refine wpAnyH_take (i := 4) (v := .pointer (some ⟨g6, 1, none⟩)) rfl (by kernel_rfl) (by kernel_rfl) (by kernel_rfl) (fun _ _ _ h => h) (Or.inl ⟨by rfl, fun W hW => ?_⟩) hS ?_
    · go_simp
    simp only [Act.put, List.getElem_toArray, List.getElem_cons_succ, List.getElem_cons_zero, List.setIfInBounds_toArray, List.set_cons_zero, List.set_cons_succ]
    refine wpAnyH_take (i := 5) (v := .int .i64 i) rfl (by kernel_rfl) (by kernel_rfl) (by kernel_rfl) (fun _ _ _ h => h) (Or.inl ⟨by rfl, fun W hW => ?_⟩) hS ?_
    · (have q := QPC.out W hW; go_simp)
    simp only [Act.put, List.getElem_toArray, List.getElem_cons_succ, List.getElem_cons_zero, List.setIfInBounds_toArray, List.set_cons_zero, List.set_cons_succ]
    refine wpAnyH_take (i := 6) (v := .slice (some ⟨cb, cof, none⟩) Lc cc) rfl (by kernel_rfl) (by kernel_rfl) (by kernel_rfl) (fun _ _ _ h => h) (Or.inl ⟨by rfl, fun W hW => ?_⟩) hS ?_
    · go_simp
    simp only [Act.put, List.getElem_toArray, List.getElem_cons_succ, List.getElem_cons_zero, List.setIfInBounds_toArray, List.set_cons_zero, List.set_cons_succ]
    refine wpAnyH_take (i := 7) (v := .int .i64 Lc) rfl (by kernel_rfl) (by kernel_rfl) (by kernel_rfl) (fun _ _ _ h => h) (Or.inl ⟨by rfl, fun W hW => ?_⟩) hS ?_
    · go_simp
    simp only [Act.put, List.getElem_toArray, List.getElem_cons_succ, List.getElem_cons_zero, List.setIfInBounds_toArray, List.set_cons_zero, List.set_cons_succ]
    refine wpAnyH_take (i := 8) (v := .bool false) rfl (by kernel_rfl) (by kernel_rfl) (by kernel_rfl) (fun _ _ _ h => h) (Or.inl ⟨by rfl, fun W hW => ?_⟩) hS ?_
    · go_simp
    simp only [Act.put, List.getElem_toArray, List.getElem_cons_succ, List.getElem_cons_zero, List.setIfInBounds_toArray, List.set_cons_zero, List.set_cons_succ]
    refine wpAnyH_take (i := 9) (v := .bool false) rfl (by kernel_rfl) (by kernel_rfl) (by kernel_rfl) (fun _ _ _ h => h) (Or.inl ⟨by rfl, fun W hW => ?_⟩) hS ?_
    · go_simp
    simp only [Act.put, List.getElem_toArray, List.getElem_cons_succ, List.getElem_cons_zero, List.setIfInBounds_toArray, List.set_cons_zero, List.set_cons_succ]
    refine wpAnyH_take (i := 10) (v := .bool false) rfl (by kernel_rfl) (by kernel_rfl) (by kernel_rfl) (fun _ _ _ h => h) (Or.inl ⟨by rfl, fun W hW => ?_⟩) hS ?_
    · go_simp
    simp only [Act.put, List.getElem_toArray, List.getElem_cons_succ, List.getElem_cons_zero, List.setIfInBounds_toArray, List.set_cons_zero, List.set_cons_succ]
    refine wpAnyH_take (i := 11) (v := .slice (some ⟨pb, po, none⟩) p.length c) rfl (by kernel_rfl) (by kernel_rfl) (by kernel_rfl) (fun _ _ _ h => h) (Or.inl ⟨by rfl, fun W hW => ?_⟩) hS ?_
    · go_simp
    simp only [Act.put, List.getElem_toArray, List.getElem_cons_succ, List.getElem_cons_zero, List.setIfInBounds_toArray, List.set_cons_zero, List.set_cons_succ]
    refine wpAnyH_take (i := 12) (v := .agg (fcA f (.slice As f.stk.length cs) (.slice Al f.loc.length cl) (.slice Ao f.slt.length co))) rfl (by kernel_rfl) (by kernel_rfl) (by kernel_rfl) (fun _ _ _ h => h) (yieldsIf_load_midA (by rfl) 45 (.tmp 6) rfl g6 0 rfl _ _ (fun W hW => rangeAt_held (H6.out.below hW)) Tryz.underlying45 rfl (by kernel_rfl)) hS ?_
    simp only [Act.put, List.getElem_toArray, List.getElem_cons_succ, List.getElem_cons_zero, List.setIfInBounds_toArray, List.set_cons_zero, List.set_cons_succ]
    refine wpAnyH_take (i := 13) (v := .slice (some ⟨cb, cof, none⟩) Lc cc) rfl (by kernel_rfl) (by kernel_rfl) (by kernel_rfl) (fun _ _ _ h => h) (Or.inl ⟨by rfl, fun W hW => ?_⟩) hS ?_
    · go_simp
    simp only [Act.put, List.getElem_toArray, List.getElem_cons_succ, List.getElem_cons_zero, List.setIfInBounds_toArray, List.set_cons_zero, List.set_cons_succ]
    refine wpAnyH_take (i := 14) (v := .pointer (some ⟨g6, 1, none⟩)) rfl (by kernel_rfl) (by kernel_rfl) (by kernel_rfl) (fun _ _ _ h => h) (Or.inl ⟨by rfl, fun W hW => ?_⟩) hS ?_
    · go_simp
    simp only [Act.put, List.getElem_toArray, List.getElem_cons_succ, List.getElem_cons_zero, List.setIfInBounds_toArray, List.set_cons_zero, List.set_cons_succ]
    refine wpAnyH_take (i := 15) (v := .int .i64 i) rfl (by kernel_rfl) (by kernel_rfl) (by kernel_rfl) (fun _ _ _ h => h) (Or.inl ⟨by rfl, fun W hW => ?_⟩) hS ?_
    · (have q := QPC.out W hW; go_simp)
    simp only [Act.put, List.getElem_toArray, List.getElem_cons_succ, List.getElem_cons_zero, List.setIfInBounds_toArray, List.set_cons_zero, List.set_cons_succ]
    refine wpAnyH_take (i := 16) (v := .int .i64 i) rfl (by kernel_rfl) (by kernel_rfl) (by kernel_rfl) (fun _ _ _ h => h) (Or.inl ⟨by rfl, fun W hW => ?_⟩) hS ?_
    · (go_simp; first | done | (intro h9; omega))
    simp only [Act.put, List.getElem_toArray, List.getElem_cons_succ, List.getElem_cons_zero, List.setIfInBounds_toArray, List.set_cons_zero, List.set_cons_succ]
    refine wpAnyH_take (i := 17) (v := .pointer (some ⟨cb, cof + i * 3, none⟩)) rfl (by kernel_rfl) (by kernel_rfl) (by kernel_rfl) (fun _ _ _ h => h) (Or.inl ⟨by rfl, fun W hW => ?_⟩) hS ?_
    · go_simp
    simp only [Act.put, List.getElem_toArray, List.getElem_cons_succ, List.getElem_cons_zero, List.setIfInBounds_toArray, List.set_cons_zero, List.set_cons_succ]
    refine wpAnyH_take (i := 18) (v := .agg #[.int .i64 o, .int .i64 a, .int .i64 b]) rfl (by kernel_rfl) (by kernel_rfl) (by kernel_rfl) (fun _ _ _ h => h) (Or.inl ⟨by rfl, fun W hW => ?_⟩) hS ?_
    · (obtain ⟨q0, q1, q2⟩ := QIN.out W hW; go_simp)
    simp only [Act.put, List.getElem_toArray, List.getElem_cons_succ, List.getElem_cons_zero, List.setIfInBounds_toArray, List.set_cons_zero, List.set_cons_succ]
    refine wpAnyH_ready (rs := [19]) (by kernel_rfl) (by simp) ?_
    refine (AllReadyH.cons rfl (fun K hK => ?_) AllReadyH.nil)
    · go_simp
      go_at_call 49
      (with_reducible refine ((CTH.out _)).mono ?_)
      rintro _ u1 ⟨rfl, hbu⟩
      replace hS := Below.step hS hbu
      clear hbu
      (repeat (first | go_skip | go_guarded | go_step | go_upon))
      refine hK.out _ _ hS (fun _ => ?_)
      clear hK K
      (try simp only [Act.put, List.getElem_toArray, List.getElem_cons_succ, List.getElem_cons_zero, List.setIfInBounds_toArray, List.set_cons_zero, List.set_cons_succ])
      refine wpAnyH_take (i := 20) (v := .bool false) rfl (by kernel_rfl) (by kernel_rfl) (by kernel_rfl) (fun _ _ _ h => h) (Or.inl ⟨by rfl, fun W hW => ?_⟩) hS ?_
      · go_simp
      simp only [Act.put, List.getElem_toArray, List.getElem_cons_succ, List.getElem_cons_zero, List.setIfInBounds_toArray, List.set_cons_zero, List.set_cons_succ]
      refine wpAnyH_take (i := 21) (v := .bool false) rfl (by kernel_rfl) (by kernel_rfl) (by kernel_rfl) (fun _ _ _ h => h) (Or.inl ⟨by rfl, fun W hW => ?_⟩) hS ?_
      · go_simp
      simp only [Act.put, List.getElem_toArray, List.getElem_cons_succ, List.getElem_cons_zero, List.setIfInBounds_toArray, List.set_cons_zero, List.set_cons_succ]
      refine wpAnyH_done (by kernel_rfl) ?_ _
      (repeat (first | go_skip | go_guarded | go_step | go_upon))
      go_meet
      case rel => exact ⟨rfl, hS⟩
  case rest =>
  obtain ⟨rfl, hb1⟩ := hcut
  generalize wc = W2 at *
  replace H6 := Lib.hid (H6.out.below hb1)
  replace OS := Lib.hid (show OwnVs W2 W0.heap.size (.slice As f.stk.length cs) f.stk from row_later OS.out hb1)
  replace OL := Lib.hid (show OwnVs W2 W0.heap.size (.slice Al f.loc.length cl) f.loc from row_later OL.out hb1)
  replace OO := Lib.hid (show OwnSs W2 W0.heap.size (.slice Ao f.slt.length co) f.slt from row_later OO.out hb1)
  replace HBW := Lib.hid (Below.step HBW.out hb1)
  replace HBZ := Lib.hid (Below.step HBZ.out hb1)
  have x1 := QPC.out W2 hb1
  obtain ⟨z0, z1, z2⟩ := QIN.out W2 hb1
  have hb2 : Below W2.heap.size W2 (W2.alloc (.cells #[.int .i64 o, .int .i64 a, .int .i64 b] 92)) := (Below.refl _ _).alloc (Nat.le_refl _) _
  have h8 : Held (W2.alloc (.cells #[.int .i64 o, .int .i64 a, .int .i64 b] 92)) W2.heap.size 92 #[.int .i64 o, .int .i64 a, .int .i64 b] := Held.new _ _ _
  clear QPC QIN CTH hb1
  go_upto_region 8 with (fail)
  have H8 := Lib.hid h8
  replace H6 := Lib.hid (H6.out.below hb2)
  replace OS := Lib.hid (show OwnVs _ W0.heap.size (.slice As f.stk.length cs) f.stk from row_later OS.out hb2)
  replace OL := Lib.hid (show OwnVs _ W0.heap.size (.slice Al f.loc.length cl) f.loc from row_later OL.out hb2)
  replace OO := Lib.hid (show OwnSs _ W0.heap.size (.slice Ao f.slt.length co) f.slt from row_later OO.out hb2)
  replace HBW := Lib.hid (Below.step HBW.out hb2)
  replace HBZ := Lib.hid (Below.step HBZ.out hb2)
  generalize W2.alloc (.cells #[.int .i64 o, .int .i64 a, .int .i64 b] 92) = W3 at *
  generalize W2.heap.size = g8 at *
  clear hb2 h8 x1 z0 z1 z2
  generalize hL : f.stk.length = L at *
  have HE := Lib.hid hL
  have e9 := HD.out
  clear hL HD
  subst e9
  have h13 : o = 13 → 0 ≤ a ∧ a < p.length := fun e => by
    subst e
    have h9 := HKN.out
    unfold knowsF at h9
    rw [if_neg (by simp), if_pos rfl, Bool.and_eq_true] at h9
    have h10 := h9.1
    simp [hasI] at h10
    exact h10
  have CO := Lib.hid (show Calls Tryz.prog 51 #[.slice (some ⟨pb, po, none⟩) p.length c, .agg #[.int .i64 o, .int .i64 a, .int .i64 b]] W3 fun e w' => e = .returned (.int .i64 n) ∧ Below W3.heap.size W3 w' from by
    have := off9_any c o a b W3 (HP.out.below HBZ.out hC) (Nat.le_trans hC HBZ.out.size) h13
    rw [HN.out] at this
    exact this)
  have i0 := H8.out.cell 0
  have i1 := H8.out.cell 1
  have i2 := H8.out.cell 2
  simp at i0 i1 i2
  have HIN := Lib.hid hi
  clear h13 hi hiI hi0
  go_upto_region 9 with (go_at_call 51; (with_reducible refine CO.out.mono ?_); rintro _ u2 ⟨rfl, hb2⟩)
  replace H8 := Lib.hid (H8.out.below hb2)
  replace H6 := Lib.hid (H6.out.below hb2)
  replace OS := Lib.hid (show OwnVs _ W0.heap.size (.slice As (d + n) cs) f.stk from row_later OS.out hb2)
  replace OL := Lib.hid (show OwnVs _ W0.heap.size (.slice Al f.loc.length cl) f.loc from row_later OL.out hb2)
  replace OO := Lib.hid (show OwnSs _ W0.heap.size (.slice Ao f.slt.length co) f.slt from row_later OO.out hb2)
  replace HBW := Lib.hid (Below.step HBW.out hb2)
  replace HBZ := Lib.hid (Below.step HBZ.out hb2)
  clear CO i0 i1 i2 hb2
  generalize u2 = W4 at *
  have x2 := H6.out.cell 2
  have i0 := H8.out.cell 0
  simp at x2 i0
  have hLL : f.stk.length ≤ 1000 := HL.out.stk
  rw [HE.out] at hLL
  have hd0 : (0 : Int) ≤ d := Int.natCast_nonneg d
  have hdb : (d : Int) ≤ 1000 := by omega
  have HLL := Lib.hid hLL
  clear hLL
  go_upto_region 10 with (fail)
  clear x2
  have hq0 : 0 ≤ (rz o).q ∧ (rz o).q ≤ 2 := by
    obtain ⟨k9, hk9, e9⟩ := may_in HM.out
    rw [e9, rz_in hk9, q_of k9 hk9]
    split
    · omega
    · split
      · omega
      · omega
  have CN := Lib.hid (ron_any o)
  generalize (rz o).q = q at *
  have hqq : decide (0 < q) = false ∨ (decide (0 < q) = true ∧ decide (16 < (d : Int) + q) = false) := by
    by_cases h9 : 0 < q
    · exact .inr ⟨decide_eq_true h9, decide_eq_false fun h8 => HQ.out ⟨h9, h8⟩⟩
    · exact .inl (decide_eq_false h9)
  obtain ⟨hqa, hqb⟩ := hq0
  have hn0 : (0 : Int) ≤ n := Int.natCast_nonneg n
  go_cut [97] from 78 to 97 (fun v97 wx => v97 = .bool false ∧ wx = W4)
  case first =>
   as_aux_lemma =>
    rcases hqq with hqq | ⟨hq1, hq2⟩
    all_goals go_wp2_with (go_at_call 52; (with_reducible refine (CN.out.go _).mono ?_); rintro _ _ ⟨rfl, rfl⟩)
    all_goals go_meet
    all_goals case rel => exact ⟨rfl, rfl⟩
  case rest =>
  obtain ⟨rfl, rfl⟩ := hcut
  generalize wc = W4 at *
  have hcap := own_cap OS.out
  have hva : VAt W4 W4.heap.size (if cs = d then As else As.map fun x => x.add (d * 2)) (f.stk.drop d) := by
    obtain ⟨A9, c9, e9, hv9⟩ := OS.out.lies
    simp only [Value.slice.injEq] at e9
    obtain ⟨rfl, _, rfl⟩ := e9
    split
    · intro h0
      rw [List.length_drop, HE.out] at h0
      omega
    · exact hv9.dropo d
  have HVA := Lib.hid (hva.below ((Below.refl W4.heap.size W4).alloc (Nat.le_refl _) (.cells #[] 30)) (Nat.le_refl _))
  have HKL := Lib.hid (show (f.stk.drop d).length = n by rw [List.length_drop, HE.out]; omega)
  have HNL := Lib.hid (show n ≤ 1000000 by have := HLL.out; omega)
  have x2 := H6.out.cell 2
  simp at x2
  have hb3 : Below W4.heap.size W4 (W4.alloc (.cells #[] 30)) := (Below.refl _ _).alloc (Nat.le_refl _) _
  have x2' := (H6.out.below hb3).cell 2
  simp at x2'
  clear hva hqq CN hb3
  go_upto_region 12 with (fail)
  go_cut [11] (fun v11 wx => ∃ Av cv, v11 = .slice Av n cv ∧ OwnVs wx W4.heap.size (.slice Av n cv) (f.stk.drop d) ∧ Below W4.heap.size W4 wx)
  case first =>
   as_aux_lemma =>
    go_wp2_with (at_builtin; refine wpList_append_vs0n rfl _ _ rfl W4 rfl rfl HKL.out rfl HVA.out HNL.out ?_; intro Av cv u3 hv hb3)
    all_goals go_meet
    all_goals case rel => exact ⟨Av, cv, rfl, hv, hb3⟩
  case rest =>
  obtain ⟨Av, cv, rfl, hv, hb3⟩ := hcut
  generalize wc = u3 at *
  have OV := Lib.hid (show OwnVs u3 W0.heap.size (.slice Av n cv) (f.stk.drop d) from row_mono hv HBW.out.size)
  have VL := Lib.hid (show ∀ b, (Value.slice Av n cv).ownBlock = some b → (Value.slice Al f.loc.length cl).ownBlock ≠ some b from fun b e e2 => by
    have q1 := (hv.lt b e).1
    have q2 := (OL.out.lt b e2).2
    omega)
  have VS := Lib.hid (show ∀ b, (Value.slice Av n cv).ownBlock = some b → (Value.slice As (d + n) cs).ownBlock ≠ some b from fun b e e2 => by
    have q1 := (hv.lt b e).1
    have q2 := (OS.out.lt b e2).2
    omega)
  replace H8 := Lib.hid (H8.out.below hb3)
  replace H6 := Lib.hid (H6.out.below hb3)
  replace OS := Lib.hid (show OwnVs u3 W0.heap.size (.slice As (d + n) cs) f.stk from row_later OS.out hb3)
  replace OL := Lib.hid (show OwnVs u3 W0.heap.size (.slice Al f.loc.length cl) f.loc from row_later OL.out hb3)
  replace OO := Lib.hid (show OwnSs u3 W0.heap.size (.slice Ao f.slt.length co) f.slt from row_later OO.out hb3)
  replace HBW := Lib.hid (Below.step HBW.out hb3)
  replace HBZ := Lib.hid (Below.step HBZ.out hb3)
  replace i0 := H8.out.cell 0
  simp at i0
  clear hv x2 x2' hb3 HVA HNL
  generalize u3 = W5 at *
  go_upto_block 0 with (fail)
  have H4 := Lib.hid (X4.out.below HBW.out)
  have H5 := Lib.hid (X5.out.below HBW.out)
  have BZ := Lib.hid (show w.heap.size ≤ W0.heap.size by rw [SZ.out]; omega)
  have l4 : w.heap.size + 1 < W0.heap.size := by rw [SZ.out]; omega
  have l5 : w.heap.size + 1 + 1 < W0.heap.size := by rw [SZ.out]; omega
  have B5 := Lib.hid HBW.out.size
  have hhl := H6.out.lt
  have h6 := H6.out
  have h8 := H8.out
  have i1 := h8.cell 1
  have i2 := h8.cell 2
  simp at i1 i2
  clear X3 X4 X5 HF HP hkI hqa hqb hpb hcb
  have hNZ : o = 6 → gNorm ((f.stk.drop d).getD 1 (0, 0)) ≠ 0 := fun e => by
    have e1 := HN.out
    have e2 := HE.out
    have e3 := HO.out.2.2.2.2 e
    rwa [show (((d + n : Nat) : Int) - offI p (o, a, b)).toNat = d by rw [e1]; omega] at e3
  obtain ⟨h13, h14, h15, h16, -⟩ := HO.out
  clear HO
  have e13 : (o == 13) = false := by simpa using h13
  have e14 : (o == 14) = false := by simpa using h14
  have e15 : (o == 15) = false := by simpa using h15
  have e16 : (o == 16) = false := by simpa using h16
  have HH := Lib.hid (And.intro h13 (And.intro h14 (And.intro h15 (And.intro h16 hNZ))))
  clear h13 h14 h15 h16 hNZ i1 i2
  go_cut [] (fun wx => Below W5.heap.size W5 wx)
  case first =>
   as_aux_lemma =>
    by_cases h6o : o = 6
    · have hn9 := HN.out
      rw [h6o] at hn9
      obtain rfl : n = 2 := by
        have e9 : offI p (6, a, b) = 2 := by
          show (rz 6).p = 2
          decide
        rw [e9] at hn9
        omega
      have hNZ := HH.out.2.2.2.2 h6o
      have hv2 : 0 < (f.stk.drop d).length := by rw [HKL.out]; decide
      obtain ⟨gv, cv', egv⟩ := own_form OV.out hv2
      simp only [Value.slice.injEq] at egv
      obtain ⟨rfl, hz9, rfl⟩ := egv
      clear hz9 hv2
      obtain ⟨xv, yv, hxy⟩ := len2 HKL.out
      have v0 := (own_vs (l := [xv, yv]) (hxy ▸ OV.out) (k := 0) (Nat.zero_lt_succ _)).1
      have v1 := (own_vs (l := [xv, yv]) (hxy ▸ OV.out) (k := 0) (Nat.zero_lt_succ _)).2.1
      have v2 := (own_vs (l := [xv, yv]) (hxy ▸ OV.out) (k := 1) (Nat.lt_succ_self _)).1
      have v3 := (own_vs (l := [xv, yv]) (hxy ▸ OV.out) (k := 1) (Nat.lt_succ_self _)).2.1
      replace v0 : W5.cell? ⟨gv, 0, none⟩ = some (.int .i64 xv.1) := v0
      replace v1 : W5.cell? ⟨gv, 1, none⟩ = some (.int .i64 xv.2) := v1
      replace v2 : W5.cell? ⟨gv, 2, none⟩ = some (.int .i64 yv.1) := v2
      replace v3 : W5.cell? ⟨gv, 3, none⟩ = some (.int .i64 yv.2) := v3
      have hgvl := (OV.out.lt gv rfl).2
      rw [hxy] at hNZ
      have CD := Lib.hid (fun W => rdiv_yes xv yv W hNZ)
      clear hn9 hNZ hxy HRR e13 e14 e15 e16
      subst h6o
      go_upto_region 24 with (fail)
      go_cut [13] (fun v13 wx => v13 = .bool true ∧ Below W5.heap.size W5 wx)
      case first =>
        refine wp_region_held_drew (S := fun W => Below W5.heap.size W5 W) (by kernel_rfl) (Below.refl _ _).drew (fun hS => ?_)
        generalize W5.drew = W7 at hS ⊢
        show wpAnyH _ _ _ _ _ 13 #[false, false, false, false, false, false, false, false, false, false, false, false, false] _ _
        refine wpAnyH_take (i := 0) (v := .slice (some ⟨gv, 0, none⟩) 2 cv) rfl (by kernel_rfl) (by kernel_rfl) (by kernel_rfl) (fun _ _ _ h => h) (Or.inl ⟨by rfl, fun W hW => ?_⟩) hS ?_
        · go_simp
        simp only [Act.put, List.getElem_toArray, List.getElem_cons_succ, List.getElem_cons_zero, List.setIfInBounds_toArray, List.set_cons_zero, List.set_cons_succ]
        refine wpAnyH_take (i := 1) (v := .pointer (some ⟨gv, 0, none⟩)) rfl (by kernel_rfl) (by kernel_rfl) (by kernel_rfl) (fun _ _ _ h => h) (Or.inl ⟨by rfl, fun W hW => ?_⟩) hS ?_
        · go_simp
        simp only [Act.put, List.getElem_toArray, List.getElem_cons_succ, List.getElem_cons_zero, List.setIfInBounds_toArray, List.set_cons_zero, List.set_cons_succ]
        refine wpAnyH_take (i := 2) (v := .agg #[.int .i64 xv.1, .int .i64 xv.2]) rfl (by kernel_rfl) (by kernel_rfl) (by kernel_rfl) (fun _ _ _ h => h) (Or.inl ⟨by rfl, fun W hW => ?_⟩) hS ?_
        · (have q0 := (hW.cell (p := ⟨gv, 0, none⟩) hgvl).trans v0; have q1 := (hW.cell (p := ⟨gv, 1, none⟩) hgvl).trans v1; go_simp)
        simp only [Act.put, List.getElem_toArray, List.getElem_cons_succ, List.getElem_cons_zero, List.setIfInBounds_toArray, List.set_cons_zero, List.set_cons_succ]
        refine wpAnyH_take (i := 3) (v := .slice (some ⟨gv, 0, none⟩) 2 cv) rfl (by kernel_rfl) (by kernel_rfl) (by kernel_rfl) (fun _ _ _ h => h) (Or.inl ⟨by rfl, fun W hW => ?_⟩) hS ?_
        · go_simp
        simp only [Act.put, List.getElem_toArray, List.getElem_cons_succ, List.getElem_cons_zero, List.setIfInBounds_toArray, List.set_cons_zero, List.set_cons_succ]
        refine wpAnyH_take (i := 4) (v := .pointer (some ⟨gv, 2, none⟩)) rfl (by kernel_rfl) (by kernel_rfl) (by kernel_rfl) (fun _ _ _ h => h) (Or.inl ⟨by rfl, fun W hW => ?_⟩) hS ?_
        · go_simp
        simp only [Act.put, List.getElem_toArray, List.getElem_cons_succ, List.getElem_cons_zero, List.setIfInBounds_toArray, List.set_cons_zero, List.set_cons_succ]
        refine wpAnyH_take (i := 5) (v := .agg #[.int .i64 yv.1, .int .i64 yv.2]) rfl (by kernel_rfl) (by kernel_rfl) (by kernel_rfl) (fun _ _ _ h => h) (Or.inl ⟨by rfl, fun W hW => ?_⟩) hS ?_
        · (have q0 := (hW.cell (p := ⟨gv, 2, none⟩) hgvl).trans v2; have q1 := (hW.cell (p := ⟨gv, 3, none⟩) hgvl).trans v3; go_simp)
        simp only [Act.put, List.getElem_toArray, List.getElem_cons_succ, List.getElem_cons_zero, List.setIfInBounds_toArray, List.set_cons_zero, List.set_cons_succ]
        refine wpAnyH_ready (rs := [6, 10]) (by kernel_rfl) (by simp) ?_
        refine (AllReadyH.cons rfl (fun K hK => ?_) (AllReadyH.cons rfl (fun K hK => ?_) AllReadyH.nil))
        · go_simp
          go_at_call 56
          (with_reducible refine ((CD.out _)).mono ?_)
          rintro _ u1 ⟨rfl, hbu⟩
          replace hS := Below.step hS hbu
          clear hbu
          (repeat (first | go_skip | go_guarded | go_step | go_upon))
          refine hK.out _ _ hS (fun _ => ?_)
          clear hK K
          (try simp only [Act.put, List.getElem_toArray, List.getElem_cons_succ, List.getElem_cons_zero, List.setIfInBounds_toArray, List.set_cons_zero, List.set_cons_succ])
          refine wpAnyH_take (i := 7) (v := .tuple #[.agg #[.int .i64 (gQuo xv yv).1, .int .i64 (gQuo xv yv).2], .bool true]) rfl (by kernel_rfl) (by kernel_rfl) (by kernel_rfl) (fun _ _ _ h => h) (Or.inl ⟨by rfl, fun W hW => ?_⟩) hS ?_
          · go_simp
          simp only [Act.put, List.getElem_toArray, List.getElem_cons_succ, List.getElem_cons_zero, List.setIfInBounds_toArray, List.set_cons_zero, List.set_cons_succ]
          refine wpAnyH_take (i := 8) (v := .agg #[.int .i64 (gQuo xv yv).1, .int .i64 (gQuo xv yv).2]) rfl (by kernel_rfl) (by kernel_rfl) (by kernel_rfl) (fun _ _ _ h => h) (Or.inl ⟨by rfl, fun W hW => ?_⟩) hS ?_
          · go_simp
          simp only [Act.put, List.getElem_toArray, List.getElem_cons_succ, List.getElem_cons_zero, List.setIfInBounds_toArray, List.set_cons_zero, List.set_cons_succ]
          refine wpAnyH_take (i := 9) (v := .bool true) rfl (by kernel_rfl) (by kernel_rfl) (by kernel_rfl) (fun _ _ _ h => h) (Or.inl ⟨by rfl, fun W hW => ?_⟩) hS ?_
          · go_simp
          simp only [Act.put, List.getElem_toArray, List.getElem_cons_succ, List.getElem_cons_zero, List.setIfInBounds_toArray, List.set_cons_zero, List.set_cons_succ]
          refine wpAnyH_ready (rs := [10]) (by kernel_rfl) (by simp) ?_
          refine (AllReadyH.cons rfl (fun K hK => ?_) AllReadyH.nil)
          · rw [if_pos (by rfl)]
            refine wp_alloc_arr 30 rfl #[.int .i64 0, .int .i64 0] (by kernel_rfl) ?_
            have f12 := Held.new u1 30 #[.int .i64 0, .int .i64 0]
            have lf12 := Below.size hS
            replace hS := below_allocz hS (.cells #[.int .i64 0, .int .i64 0] 30)
            generalize u1.alloc (.cells #[.int .i64 0, .int .i64 0] 30) = W2z at *
            refine hK.out _ _ hS (fun _ => ?_)
            clear hK K
            (try simp only [Act.put, List.getElem_toArray, List.getElem_cons_succ, List.getElem_cons_zero, List.setIfInBounds_toArray, List.set_cons_zero, List.set_cons_succ])
            refine wpAnyH_ready (rs := [11]) (by kernel_rfl) (by simp) ?_
            refine (AllReadyH.cons rfl (fun K hK => ?_) AllReadyH.nil)
            · rw [if_pos (by rfl)]
              refine wp_store_row 30 _ _ rfl _ #[.int .i64 (gQuo xv yv).1, .int .i64 (gQuo xv yv).2] (by rfl) (by rfl) _ _ f12 (by kernel_rfl) (by rfl) (by simp [Value.oneCell']) ?_
              replace hS := below_rowz hS lf12 #[.int .i64 (gQuo xv yv).1, .int .i64 (gQuo xv yv).2]
              replace f12 := Held.rowSelf f12 #[.int .i64 (gQuo xv yv).1, .int .i64 (gQuo xv yv).2]
              generalize W2z.setRow _ #[.int .i64 (gQuo xv yv).1, .int .i64 (gQuo xv yv).2] = W3z at *
              refine hK.out _ _ hS (fun _ => ?_)
              clear hK K
              (try simp only [Act.put, List.getElem_toArray, List.getElem_cons_succ, List.getElem_cons_zero, List.setIfInBounds_toArray, List.set_cons_zero, List.set_cons_succ])
              refine wpAnyH_take (i := 12) (v := .bool true) rfl (by kernel_rfl) (by kernel_rfl) (by kernel_rfl) (fun _ _ _ h => h) (Or.inl ⟨by rfl, fun W hW => ?_⟩) hS ?_
              · go_simp
              simp only [Act.put, List.getElem_toArray, List.getElem_cons_succ, List.getElem_cons_zero, List.setIfInBounds_toArray, List.set_cons_zero, List.set_cons_succ]
              refine wpAnyH_done (by kernel_rfl) ?_ _
              (repeat (first | go_skip | go_guarded | go_step | go_upon))
              go_meet
              case rel => exact ⟨rfl, hS⟩
        · rw [if_pos (by rfl)]
          refine wp_alloc_arr 30 rfl #[.int .i64 0, .int .i64 0] (by kernel_rfl) ?_
          have f12 := Held.new W7 30 #[.int .i64 0, .int .i64 0]
          have lf12 := Below.size hS
          replace hS := below_allocz hS (.cells #[.int .i64 0, .int .i64 0] 30)
          generalize W7.alloc (.cells #[.int .i64 0, .int .i64 0] 30) = W1z at *
          refine hK.out _ _ hS (fun _ => ?_)
          clear hK K
          (try simp only [Act.put, List.getElem_toArray, List.getElem_cons_succ, List.getElem_cons_zero, List.setIfInBounds_toArray, List.set_cons_zero, List.set_cons_succ])
          refine wpAnyH_ready (rs := [6]) (by kernel_rfl) (by simp) ?_
          refine (AllReadyH.cons rfl (fun K hK => ?_) AllReadyH.nil)
          · go_simp
            go_at_call 56
            (with_reducible refine ((CD.out _)).mono ?_)
            rintro _ u2 ⟨rfl, hbu⟩
            replace f12 := Held.below f12 hbu
            replace hS := Below.step hS hbu
            clear hbu
            (repeat (first | go_skip | go_guarded | go_step | go_upon))
            refine hK.out _ _ hS (fun _ => ?_)
            clear hK K
            (try simp only [Act.put, List.getElem_toArray, List.getElem_cons_succ, List.getElem_cons_zero, List.setIfInBounds_toArray, List.set_cons_zero, List.set_cons_succ])
            refine wpAnyH_take (i := 7) (v := .tuple #[.agg #[.int .i64 (gQuo xv yv).1, .int .i64 (gQuo xv yv).2], .bool true]) rfl (by kernel_rfl) (by kernel_rfl) (by kernel_rfl) (fun _ _ _ h => h) (Or.inl ⟨by rfl, fun W hW => ?_⟩) hS ?_
            · go_simp
            simp only [Act.put, List.getElem_toArray, List.getElem_cons_succ, List.getElem_cons_zero, List.setIfInBounds_toArray, List.set_cons_zero, List.set_cons_succ]
            refine wpAnyH_take (i := 8) (v := .agg #[.int .i64 (gQuo xv yv).1, .int .i64 (gQuo xv yv).2]) rfl (by kernel_rfl) (by kernel_rfl) (by kernel_rfl) (fun _ _ _ h => h) (Or.inl ⟨by rfl, fun W hW => ?_⟩) hS ?_
            · go_simp
            simp only [Act.put, List.getElem_toArray, List.getElem_cons_succ, List.getElem_cons_zero, List.setIfInBounds_toArray, List.set_cons_zero, List.set_cons_succ]
            refine wpAnyH_take (i := 9) (v := .bool true) rfl (by kernel_rfl) (by kernel_rfl) (by kernel_rfl) (fun _ _ _ h => h) (Or.inl ⟨by rfl, fun W hW => ?_⟩) hS ?_
            · go_simp
            simp only [Act.put, List.getElem_toArray, List.getElem_cons_succ, List.getElem_cons_zero, List.setIfInBounds_toArray, List.set_cons_zero, List.set_cons_succ]
            refine wpAnyH_ready (rs := [11]) (by kernel_rfl) (by simp) ?_
            refine (AllReadyH.cons rfl (fun K hK => ?_) AllReadyH.nil)
            · rw [if_pos (by rfl)]
              refine wp_store_row 30 _ _ rfl _ #[.int .i64 (gQuo xv yv).1, .int .i64 (gQuo xv yv).2] (by rfl) (by rfl) _ _ f12 (by kernel_rfl) (by rfl) (by simp [Value.oneCell']) ?_
              replace hS := below_rowz hS lf12 #[.int .i64 (gQuo xv yv).1, .int .i64 (gQuo xv yv).2]
              replace f12 := Held.rowSelf f12 #[.int .i64 (gQuo xv yv).1, .int .i64 (gQuo xv yv).2]
              generalize u2.setRow _ #[.int .i64 (gQuo xv yv).1, .int .i64 (gQuo xv yv).2] = W3z at *
              refine hK.out _ _ hS (fun _ => ?_)
              clear hK K
              (try simp only [Act.put, List.getElem_toArray, List.getElem_cons_succ, List.getElem_cons_zero, List.setIfInBounds_toArray, List.set_cons_zero, List.set_cons_succ])
              refine wpAnyH_take (i := 12) (v := .bool true) rfl (by kernel_rfl) (by kernel_rfl) (by kernel_rfl) (fun _ _ _ h => h) (Or.inl ⟨by rfl, fun W hW => ?_⟩) hS ?_
              · go_simp
              simp only [Act.put, List.getElem_toArray, List.getElem_cons_succ, List.getElem_cons_zero, List.setIfInBounds_toArray, List.set_cons_zero, List.set_cons_succ]
              refine wpAnyH_done (by kernel_rfl) ?_ _
              (repeat (first | go_skip | go_guarded | go_step | go_upon))
              go_meet
              case rel => exact ⟨rfl, hS⟩
      case rest =>
        obtain ⟨rfl, hb6⟩ := hcut
        (repeat (first | go_skip | go_guarded | go_step | go_upon))
        go_meet
        case rel => exact hb6
    · have e6 : (o == 6) = false := by simpa using h6o
      clear h6o
      (repeat (first | go_skip | go_guarded | go_step | go_upon))
      go_meet
      case rel => exact Below.refl _ _
  case rest =>
  generalize wc = W6 at *
  have hb6 : Below W5.heap.size W5 W6.drew := hcut.drew
  clear hcut e13 e14 e15 e16
  have h6 : Held W6.drew g6 45 (fcA f (.slice As (d + n) cs) (.slice Al f.loc.length cl) (.slice Ao f.slt.length co)) := H6.out.below hb6
  have h8 : Held W6.drew g8 92 #[.int .i64 o, .int .i64 a, .int .i64 b] := H8.out.below hb6
  have H47 := Lib.hid (show Held W6.drew (w.heap.size + 1) 45 fz0 from H4.out.below hb6)
  have H57 := Lib.hid (show Held W6.drew (w.heap.size + 1 + 1) 77 ac0 from H5.out.below hb6)
  have OS7 := Lib.hid (show OwnVs W6.drew W0.heap.size (.slice As d cs) (f.stk.take d) from row_later (cut_own OS.out (by rw [HE.out]; omega)) hb6)
  have OL7 := Lib.hid (show OwnVs W6.drew W0.heap.size (.slice Al f.loc.length cl) f.loc from row_later OL.out hb6)
  have OO7 := Lib.hid (show OwnSs W6.drew W0.heap.size (.slice Ao f.slt.length co) f.slt from row_later OO.out hb6)
  have OV7 := Lib.hid (show OwnVs W6.drew W0.heap.size (.slice Av n cv) (f.stk.drop d) from row_later OV.out hb6)
  have BZ7 := Lib.hid (show Below w.heap.size w W6.drew from Below.step HBZ.out hb6)
  have B7 := Lib.hid (show W0.heap.size ≤ W6.drew.heap.size from Nat.le_trans B5.out hb6.size)
  have SLD := Lib.hid (show ∀ b, (Value.slice As d cs).ownBlock = some b → (Value.slice Al f.loc.length cl).ownBlock ≠ some b from fun b e => D1.out b (by cases As <;> exact e))
  have VSD := Lib.hid (show ∀ b, (Value.slice Av n cv).ownBlock = some b → (Value.slice As d cs).ownBlock ≠ some b from fun b e e2 => VS.out b e (by cases As <;> exact e2))
  have LEN := Lib.hid (show ∀ m, m ≤ 2 → (f.stk.take d).length + m ≤ 1000000 from fun m hm => by rw [List.length_take]; have := HLL.out; omega)
  have CL := Lib.hid (show Calls Tryz.prog 57 #[.agg (fcA f (.slice As (d + n) cs) (.slice Al f.loc.length cl) (.slice Ao f.slt.length co)), .agg #[.int .i64 o, .int .i64 a, .int .i64 b], (.slice Av n cv)] W6.drew (LaysQ W6.drew (laysF f (o, a, b) (f.stk.drop d))) from
    lays_gen HM.out HH.out.1 HH.out.2.1 HH.out.2.2.1 HH.out.2.2.2.1 HKN.out HN.out HKL.out HH.out.2.2.2.2 W6.drew (own_at OV7.out) (own_at OL7.out))
  have hd1 : (d : Int) ≤ cs := by have := hcap.1; omega
  clear hb6 hcap H4 H5 OS OL OO OV HBZ HBW B5 VS D1 H6 H8
  go_upto_region 27 with (fail)
  go_cut [] (fun wx => ∃ A8 c8 s8, s8 = Value.slice A8 (f.stk.take d ++ laysF f (o, a, b) (f.stk.drop d)).length c8 ∧ GSt w W0.heap.size g6 g8 #[.int .i64 o, .int .i64 a, .int .i64 b] (.slice Al f.loc.length cl) (.slice Ao f.slt.length co) (.slice Av n cv) (f.stk.drop d) wx { f with stk := f.stk.take d ++ laysF f (o, a, b) (f.stk.drop d) } s8)
  case first =>
   as_aux_lemma =>
    refine wp_region_held_drew (S := fun W => Held W g8 92 #[.int .i64 o, .int .i64 a, .int .i64 b]) (by kernel_rfl) h8 (fun hS => ?_)
    generalize W6.drew = W7 at *
    show wpAnyH _ _ _ _ _ 11 #[false, false, false, false, false, false, false, false, false, false, false] _ _
    refine wpAnyH_take (i := 0) (v := .pointer (some ⟨g6, 2, none⟩)) rfl (by kernel_rfl) (by kernel_rfl) (by kernel_rfl) (fun _ _ _ h => h) (Or.inl ⟨by rfl, fun W hW => ?_⟩) hS ?_
    · go_simp
    simp only [Act.put, List.getElem_toArray, List.getElem_cons_succ, List.getElem_cons_zero, List.setIfInBounds_toArray, List.set_cons_zero, List.set_cons_succ]
    refine wpAnyH_take (i := 2) (v := .int .i64 d) rfl (by kernel_rfl) (by kernel_rfl) (by kernel_rfl) (fun _ _ _ h => h) (Or.inl ⟨by rfl, fun W hW => ?_⟩) hS ?_
    · go_simp
    simp only [Act.put, List.getElem_toArray, List.getElem_cons_succ, List.getElem_cons_zero, List.setIfInBounds_toArray, List.set_cons_zero, List.set_cons_succ]
    refine wpAnyH_take (i := 5) (v := .agg #[.int .i64 o, .int .i64 a, .int .i64 b]) rfl (by kernel_rfl) (by kernel_rfl) (by kernel_rfl) (fun _ _ _ h => h) (yieldsIf_load_midA (by rfl) 92 (.tmp 8) rfl g8 0 rfl _ _ (fun W hW => rangeAt_held hW) Tryz.underlying92 rfl (by kernel_rfl)) hS ?_
    simp only [Act.put, List.getElem_toArray, List.getElem_cons_succ, List.getElem_cons_zero, List.setIfInBounds_toArray, List.set_cons_zero, List.set_cons_succ]
    refine wpAnyH_take (i := 6) (v := (.slice Av n cv)) rfl (by kernel_rfl) (by kernel_rfl) (by kernel_rfl) (fun _ _ _ h => h) (Or.inl ⟨by rfl, fun W hW => ?_⟩) hS ?_
    · go_simp
    simp only [Act.put, List.getElem_toArray, List.getElem_cons_succ, List.getElem_cons_zero, List.setIfInBounds_toArray, List.set_cons_zero, List.set_cons_succ]
    refine wpAnyH_ready (rs := [1, 4]) (by kernel_rfl) (by simp) ?_
    refine (AllReadyH.cons rfl (fun K hK => ?_) (AllReadyH.cons rfl (fun K hK => ?_) AllReadyH.nil))
    · (have q := h6.cell 2; simp at q; go_simp)
      refine hK.out _ _ hS (fun _ => ?_)
      clear hK K
      (try simp only [Act.put, List.getElem_toArray, List.getElem_cons_succ, List.getElem_cons_zero, List.setIfInBounds_toArray, List.set_cons_zero, List.set_cons_succ])
      refine wpAnyH_take (i := 3) (v := .slice As d cs) rfl (by kernel_rfl) (by kernel_rfl) (by kernel_rfl) (fun _ _ _ h => h) (Or.inl ⟨by rfl, fun W hW => ?_⟩) hS ?_
      · go_simp
      simp only [Act.put, List.getElem_toArray, List.getElem_cons_succ, List.getElem_cons_zero, List.setIfInBounds_toArray, List.set_cons_zero, List.set_cons_succ]
      refine wpAnyH_ready (rs := [4]) (by kernel_rfl) (by simp) ?_
      refine (AllReadyH.cons rfl (fun K hK => ?_) AllReadyH.nil)
      · rw [if_pos (by rfl)]
        refine wp_load_row 45 _ rfl g6 rfl _ _ _ _ h6 Tryz.underlying45 rfl (by kernel_rfl) ?_
        refine hK.out _ _ hS (fun _ => ?_)
        clear hK K
        (try simp only [Act.put, List.getElem_toArray, List.getElem_cons_succ, List.getElem_cons_zero, List.setIfInBounds_toArray, List.set_cons_zero, List.set_cons_succ])
        refine wpAnyH_ready (rs := [7]) (by kernel_rfl) (by simp) ?_
        refine (AllReadyH.cons rfl (fun K hK => ?_) AllReadyH.nil)
        · go_simp
          go_at_call 57
          (with_reducible refine CL.out.mono ?_)
          rintro _ u7 ⟨A7, c7, rfl, hlv, hbu⟩
          replace hS := hS.below hbu
          replace h6 := h6.below hbu
          have HBU := Lib.hid hbu.size
          have os : OwnVs u7 W0.heap.size (.slice As d cs) (f.stk.take d) := row_later OS7.out hbu
          have ol : OwnVs u7 W0.heap.size (.slice Al f.loc.length cl) f.loc := row_later OL7.out hbu
          have oo : OwnSs u7 W0.heap.size (.slice Ao f.slt.length co) f.slt := row_later OO7.out hbu
          have ov : OwnVs u7 W0.heap.size (.slice Av n cv) (f.stk.drop d) := row_later OV7.out hbu
          have f4 := H47.out.below hbu
          have f5 := H57.out.below hbu
          have bz := Below.step BZ7.out hbu
          have hlv2 := own_at hlv
          have hBu := Nat.le_trans B7.out hbu.size
          have hlen := LEN.out
          have HLL := Lib.hid (show (laysF f (o, a, b) (f.stk.drop d)).length ≤ 2 from lays_len _ _ _)
          generalize laysF f (o, a, b) (f.stk.drop d) = LL at *
          clear hbu hlv
          (repeat (first | go_skip | go_guarded | go_step | go_upon))
          refine hK.out _ _ hS (fun _ => ?_)
          clear hK K
          (try simp only [Act.put, List.getElem_toArray, List.getElem_cons_succ, List.getElem_cons_zero, List.setIfInBounds_toArray, List.set_cons_zero, List.set_cons_succ])
          refine wpAnyH_ready (rs := [8]) (by kernel_rfl) (by simp) ?_
          refine (AllReadyH.cons rfl (fun K hK => ?_) AllReadyH.nil)
          · rw [if_pos (by rfl)]
            refine wp_append_vsA _ _ rfl W0.heap.size (f.stk.take d) rfl os rfl rfl hlv2 (hlen _ HLL.out) hBu ?_
            intro A8 c8 u8 k1 k2 k3
            have bz8 := bz.grown k2 (Nat.le_trans BZ.out hBu) (fun j hj => Nat.le_trans BZ.out (os.lt j hj).1)
            have hB8 := Nat.le_trans hBu k2.size
            have ns6 : (Value.slice As d cs).ownBlock ≠ some g6 := fun e => row_apart os h6 tyFV _ e rfl
            have ns8 : (Value.slice As d cs).ownBlock ≠ some g8 := fun e => row_apart os hS (by decide) _ e rfl
            have ns4 : (Value.slice As d cs).ownBlock ≠ some (w.heap.size + 1) := fun e => row_apart os f4 tyFV _ e rfl
            have ns5 : (Value.slice As d cs).ownBlock ≠ some (w.heap.size + 1 + 1) := fun e => row_apart os f5 tyAV _ e rfl
            have ol8 := row_off k2 ol (fun b e => SLD.out b e)
            have oo8 := row_off k2 oo (fun b e e2 => rows_ne os oo tyVS b e e2)
            have ov8 := row_off k2 ov (fun b e e2 => VSD.out b e2 e)
            replace h6 := h6.grown k2 ns6
            replace hS := Held.grown hS k2 ns8
            replace f4 := Held.grown f4 k2 ns4
            replace f5 := Held.grown f5 k2 ns5
            have sl8 : ∀ b, (Value.slice A8 (f.stk.take d ++ LL).length c8).ownBlock = some b → (Value.slice Al f.loc.length cl).ownBlock ≠ some b := fun b e e2 => by
              rcases k3 b e with e3 | e3
              · exact SLD.out b e3 e2
              · exact absurd (Nat.lt_of_lt_of_le (OL7.out.lt b e2).2 HBU.out) (Nat.not_lt_of_le e3)
            have hG := gst_of h6 hS k1 ol8 oo8 ov8 sl8 VL.out f4 f5 bz8 SZ.out.symm hB8 L6.out
            have HG := Lib.hid hG
            clear hG os ol oo ov ol8 oo8 ov8 sl8 f4 f5 bz bz8 ns6 ns8 ns4 ns5 hlv2 hlen k1 k2 k3
            generalize f.stk.take d ++ LL = KK at *
            refine hK.out _ _ hS (fun _ => ?_)
            clear hK K
            (try simp only [Act.put, List.getElem_toArray, List.getElem_cons_succ, List.getElem_cons_zero, List.setIfInBounds_toArray, List.set_cons_zero, List.set_cons_succ])
            refine wpAnyH_take (i := 9) (v := .pointer (some ⟨g6, 2, none⟩)) rfl (by kernel_rfl) (by kernel_rfl) (by kernel_rfl) (fun _ _ _ h => h) (Or.inl ⟨by rfl, fun W hW => ?_⟩) hS ?_
            · go_simp
            simp only [Act.put, List.getElem_toArray, List.getElem_cons_succ, List.getElem_cons_zero, List.setIfInBounds_toArray, List.set_cons_zero, List.set_cons_succ]
            refine wpAnyH_ready (rs := [10]) (by kernel_rfl) (by simp) ?_
            refine (AllReadyH.cons rfl (fun K hK => ?_) AllReadyH.nil)
            · (have q := h6.cell 2; have z := h6.fz 2; have ql := h6.lt; simp at q; go_simp)
              replace hS := HG.out.h8
              refine hK.out _ _ hS (fun _ => ?_)
              clear hK K
              (try simp only [Act.put, List.getElem_toArray, List.getElem_cons_succ, List.getElem_cons_zero, List.setIfInBounds_toArray, List.set_cons_zero, List.set_cons_succ])
              refine wpAnyH_done (by kernel_rfl) ?_ _
              (repeat (first | go_skip | go_guarded | go_step | go_upon))
              go_meet
              case rel => exact ⟨_, _, _, rfl, HG.out⟩
    · rw [if_pos (by rfl)]
      refine wp_load_row 45 _ rfl g6 rfl _ _ _ _ h6 Tryz.underlying45 rfl (by kernel_rfl) ?_
      refine hK.out _ _ hS (fun _ => ?_)
      clear hK K
      (try simp only [Act.put, List.getElem_toArray, List.getElem_cons_succ, List.getElem_cons_zero, List.setIfInBounds_toArray, List.set_cons_zero, List.set_cons_succ])
      refine wpAnyH_ready (rs := [1, 7]) (by kernel_rfl) (by simp) ?_
      refine (AllReadyH.cons rfl (fun K hK => ?_) (AllReadyH.cons rfl (fun K hK => ?_) AllReadyH.nil))
      · (have q := h6.cell 2; simp at q; go_simp)
        refine hK.out _ _ hS (fun _ => ?_)
        clear hK K
        (try simp only [Act.put, List.getElem_toArray, List.getElem_cons_succ, List.getElem_cons_zero, List.setIfInBounds_toArray, List.set_cons_zero, List.set_cons_succ])
        refine wpAnyH_take (i := 3) (v := .slice As d cs) rfl (by kernel_rfl) (by kernel_rfl) (by kernel_rfl) (fun _ _ _ h => h) (Or.inl ⟨by rfl, fun W hW => ?_⟩) hS ?_
        · go_simp
        simp only [Act.put, List.getElem_toArray, List.getElem_cons_succ, List.getElem_cons_zero, List.setIfInBounds_toArray, List.set_cons_zero, List.set_cons_succ]
        refine wpAnyH_ready (rs := [7]) (by kernel_rfl) (by simp) ?_
        refine (AllReadyH.cons rfl (fun K hK => ?_) AllReadyH.nil)
        · go_simp
          go_at_call 57
          (with_reducible refine CL.out.mono ?_)
          rintro _ u7 ⟨A7, c7, rfl, hlv, hbu⟩
          replace hS := hS.below hbu
          replace h6 := h6.below hbu
          have HBU := Lib.hid hbu.size
          have os : OwnVs u7 W0.heap.size (.slice As d cs) (f.stk.take d) := row_later OS7.out hbu
          have ol : OwnVs u7 W0.heap.size (.slice Al f.loc.length cl) f.loc := row_later OL7.out hbu
          have oo : OwnSs u7 W0.heap.size (.slice Ao f.slt.length co) f.slt := row_later OO7.out hbu
          have ov : OwnVs u7 W0.heap.size (.slice Av n cv) (f.stk.drop d) := row_later OV7.out hbu
          have f4 := H47.out.below hbu
          have f5 := H57.out.below hbu
          have bz := Below.step BZ7.out hbu
          have hlv2 := own_at hlv
          have hBu := Nat.le_trans B7.out hbu.size
          have hlen := LEN.out
          have HLL := Lib.hid (show (laysF f (o, a, b) (f.stk.drop d)).length ≤ 2 from lays_len _ _ _)
          generalize laysF f (o, a, b) (f.stk.drop d) = LL at *
          clear hbu hlv
          (repeat (first | go_skip | go_guarded | go_step | go_upon))
          refine hK.out _ _ hS (fun _ => ?_)
          clear hK K
          (try simp only [Act.put, List.getElem_toArray, List.getElem_cons_succ, List.getElem_cons_zero, List.setIfInBounds_toArray, List.set_cons_zero, List.set_cons_succ])
          refine wpAnyH_ready (rs := [8]) (by kernel_rfl) (by simp) ?_
          refine (AllReadyH.cons rfl (fun K hK => ?_) AllReadyH.nil)
          · rw [if_pos (by rfl)]
            refine wp_append_vsA _ _ rfl W0.heap.size (f.stk.take d) rfl os rfl rfl hlv2 (hlen _ HLL.out) hBu ?_
            intro A8 c8 u8 k1 k2 k3
            have bz8 := bz.grown k2 (Nat.le_trans BZ.out hBu) (fun j hj => Nat.le_trans BZ.out (os.lt j hj).1)
            have hB8 := Nat.le_trans hBu k2.size
            have ns6 : (Value.slice As d cs).ownBlock ≠ some g6 := fun e => row_apart os h6 tyFV _ e rfl
            have ns8 : (Value.slice As d cs).ownBlock ≠ some g8 := fun e => row_apart os hS (by decide) _ e rfl
            have ns4 : (Value.slice As d cs).ownBlock ≠ some (w.heap.size + 1) := fun e => row_apart os f4 tyFV _ e rfl
            have ns5 : (Value.slice As d cs).ownBlock ≠ some (w.heap.size + 1 + 1) := fun e => row_apart os f5 tyAV _ e rfl
            have ol8 := row_off k2 ol (fun b e => SLD.out b e)
            have oo8 := row_off k2 oo (fun b e e2 => rows_ne os oo tyVS b e e2)
            have ov8 := row_off k2 ov (fun b e e2 => VSD.out b e2 e)
            replace h6 := h6.grown k2 ns6
            replace hS := Held.grown hS k2 ns8
            replace f4 := Held.grown f4 k2 ns4
            replace f5 := Held.grown f5 k2 ns5
            have sl8 : ∀ b, (Value.slice A8 (f.stk.take d ++ LL).length c8).ownBlock = some b → (Value.slice Al f.loc.length cl).ownBlock ≠ some b := fun b e e2 => by
              rcases k3 b e with e3 | e3
              · exact SLD.out b e3 e2
              · exact absurd (Nat.lt_of_lt_of_le (OL7.out.lt b e2).2 HBU.out) (Nat.not_lt_of_le e3)
            have hG := gst_of h6 hS k1 ol8 oo8 ov8 sl8 VL.out f4 f5 bz8 SZ.out.symm hB8 L6.out
            have HG := Lib.hid hG
            clear hG os ol oo ov ol8 oo8 ov8 sl8 f4 f5 bz bz8 ns6 ns8 ns4 ns5 hlv2 hlen k1 k2 k3
            generalize f.stk.take d ++ LL = KK at *
            refine hK.out _ _ hS (fun _ => ?_)
            clear hK K
            (try simp only [Act.put, List.getElem_toArray, List.getElem_cons_succ, List.getElem_cons_zero, List.setIfInBounds_toArray, List.set_cons_zero, List.set_cons_succ])
            refine wpAnyH_take (i := 9) (v := .pointer (some ⟨g6, 2, none⟩)) rfl (by kernel_rfl) (by kernel_rfl) (by kernel_rfl) (fun _ _ _ h => h) (Or.inl ⟨by rfl, fun W hW => ?_⟩) hS ?_
            · go_simp
            simp only [Act.put, List.getElem_toArray, List.getElem_cons_succ, List.getElem_cons_zero, List.setIfInBounds_toArray, List.set_cons_zero, List.set_cons_succ]
            refine wpAnyH_ready (rs := [10]) (by kernel_rfl) (by simp) ?_
            refine (AllReadyH.cons rfl (fun K hK => ?_) AllReadyH.nil)
            · (have q := h6.cell 2; have z := h6.fz 2; have ql := h6.lt; simp at q; go_simp)
              replace hS := HG.out.h8
              refine hK.out _ _ hS (fun _ => ?_)
              clear hK K
              (try simp only [Act.put, List.getElem_toArray, List.getElem_cons_succ, List.getElem_cons_zero, List.setIfInBounds_toArray, List.set_cons_zero, List.set_cons_succ])
              refine wpAnyH_done (by kernel_rfl) ?_ _
              (repeat (first | go_skip | go_guarded | go_step | go_upon))
              go_meet
              case rel => exact ⟨_, _, _, rfl, HG.out⟩
      · go_simp
        go_at_call 57
        (with_reducible refine CL.out.mono ?_)
        rintro _ u7 ⟨A7, c7, rfl, hlv, hbu⟩
        replace hS := hS.below hbu
        replace h6 := h6.below hbu
        have HBU := Lib.hid hbu.size
        have os : OwnVs u7 W0.heap.size (.slice As d cs) (f.stk.take d) := row_later OS7.out hbu
        have ol : OwnVs u7 W0.heap.size (.slice Al f.loc.length cl) f.loc := row_later OL7.out hbu
        have oo : OwnSs u7 W0.heap.size (.slice Ao f.slt.length co) f.slt := row_later OO7.out hbu
        have ov : OwnVs u7 W0.heap.size (.slice Av n cv) (f.stk.drop d) := row_later OV7.out hbu
        have f4 := H47.out.below hbu
        have f5 := H57.out.below hbu
        have bz := Below.step BZ7.out hbu
        have hlv2 := own_at hlv
        have hBu := Nat.le_trans B7.out hbu.size
        have hlen := LEN.out
        have HLL := Lib.hid (show (laysF f (o, a, b) (f.stk.drop d)).length ≤ 2 from lays_len _ _ _)
        generalize laysF f (o, a, b) (f.stk.drop d) = LL at *
        clear hbu hlv
        (repeat (first | go_skip | go_guarded | go_step | go_upon))
        refine hK.out _ _ hS (fun _ => ?_)
        clear hK K
        (try simp only [Act.put, List.getElem_toArray, List.getElem_cons_succ, List.getElem_cons_zero, List.setIfInBounds_toArray, List.set_cons_zero, List.set_cons_succ])
        refine wpAnyH_ready (rs := [1]) (by kernel_rfl) (by simp) ?_
        refine (AllReadyH.cons rfl (fun K hK => ?_) AllReadyH.nil)
        · (have q := h6.cell 2; simp at q; go_simp)
          refine hK.out _ _ hS (fun _ => ?_)
          clear hK K
          (try simp only [Act.put, List.getElem_toArray, List.getElem_cons_succ, List.getElem_cons_zero, List.setIfInBounds_toArray, List.set_cons_zero, List.set_cons_succ])
          refine wpAnyH_take (i := 3) (v := .slice As d cs) rfl (by kernel_rfl) (by kernel_rfl) (by kernel_rfl) (fun _ _ _ h => h) (Or.inl ⟨by rfl, fun W hW => ?_⟩) hS ?_
          · go_simp
          simp only [Act.put, List.getElem_toArray, List.getElem_cons_succ, List.getElem_cons_zero, List.setIfInBounds_toArray, List.set_cons_zero, List.set_cons_succ]
          refine wpAnyH_ready (rs := [8]) (by kernel_rfl) (by simp) ?_
          refine (AllReadyH.cons rfl (fun K hK => ?_) AllReadyH.nil)
          · rw [if_pos (by rfl)]
            refine wp_append_vsA _ _ rfl W0.heap.size (f.stk.take d) rfl os rfl rfl hlv2 (hlen _ HLL.out) hBu ?_
            intro A8 c8 u8 k1 k2 k3
            have bz8 := bz.grown k2 (Nat.le_trans BZ.out hBu) (fun j hj => Nat.le_trans BZ.out (os.lt j hj).1)
            have hB8 := Nat.le_trans hBu k2.size
            have ns6 : (Value.slice As d cs).ownBlock ≠ some g6 := fun e => row_apart os h6 tyFV _ e rfl
            have ns8 : (Value.slice As d cs).ownBlock ≠ some g8 := fun e => row_apart os hS (by decide) _ e rfl
            have ns4 : (Value.slice As d cs).ownBlock ≠ some (w.heap.size + 1) := fun e => row_apart os f4 tyFV _ e rfl
            have ns5 : (Value.slice As d cs).ownBlock ≠ some (w.heap.size + 1 + 1) := fun e => row_apart os f5 tyAV _ e rfl
            have ol8 := row_off k2 ol (fun b e => SLD.out b e)
            have oo8 := row_off k2 oo (fun b e e2 => rows_ne os oo tyVS b e e2)
            have ov8 := row_off k2 ov (fun b e e2 => VSD.out b e2 e)
            replace h6 := h6.grown k2 ns6
            replace hS := Held.grown hS k2 ns8
            replace f4 := Held.grown f4 k2 ns4
            replace f5 := Held.grown f5 k2 ns5
            have sl8 : ∀ b, (Value.slice A8 (f.stk.take d ++ LL).length c8).ownBlock = some b → (Value.slice Al f.loc.length cl).ownBlock ≠ some b := fun b e e2 => by
              rcases k3 b e with e3 | e3
              · exact SLD.out b e3 e2
              · exact absurd (Nat.lt_of_lt_of_le (OL7.out.lt b e2).2 HBU.out) (Nat.not_lt_of_le e3)
            have hG := gst_of h6 hS k1 ol8 oo8 ov8 sl8 VL.out f4 f5 bz8 SZ.out.symm hB8 L6.out
            have HG := Lib.hid hG
            clear hG os ol oo ov ol8 oo8 ov8 sl8 f4 f5 bz bz8 ns6 ns8 ns4 ns5 hlv2 hlen k1 k2 k3
            generalize f.stk.take d ++ LL = KK at *
            refine hK.out _ _ hS (fun _ => ?_)
            clear hK K
            (try simp only [Act.put, List.getElem_toArray, List.getElem_cons_succ, List.getElem_cons_zero, List.setIfInBounds_toArray, List.set_cons_zero, List.set_cons_succ])
            refine wpAnyH_take (i := 9) (v := .pointer (some ⟨g6, 2, none⟩)) rfl (by kernel_rfl) (by kernel_rfl) (by kernel_rfl) (fun _ _ _ h => h) (Or.inl ⟨by rfl, fun W hW => ?_⟩) hS ?_
            · go_simp
            simp only [Act.put, List.getElem_toArray, List.getElem_cons_succ, List.getElem_cons_zero, List.setIfInBounds_toArray, List.set_cons_zero, List.set_cons_succ]
            refine wpAnyH_ready (rs := [10]) (by kernel_rfl) (by simp) ?_
            refine (AllReadyH.cons rfl (fun K hK => ?_) AllReadyH.nil)
            · (have q := h6.cell 2; have z := h6.fz 2; have ql := h6.lt; simp at q; go_simp)
              replace hS := HG.out.h8
              refine hK.out _ _ hS (fun _ => ?_)
              clear hK K
              (try simp only [Act.put, List.getElem_toArray, List.getElem_cons_succ, List.getElem_cons_zero, List.setIfInBounds_toArray, List.set_cons_zero, List.set_cons_succ])
              refine wpAnyH_done (by kernel_rfl) ?_ _
              (repeat (first | go_skip | go_guarded | go_step | go_upon))
              go_meet
              case rel => exact ⟨_, _, _, rfl, HG.out⟩
  case rest =>
  as_aux_lemma =>
  obtain ⟨A8, c8, s8, e8, hG⟩ := hcut
  generalize wc = W8 at *
  have hRR := HRR.out
  rw [exec_gen (x := (o, a, b)) HM.out HH.out.1 HH.out.2.1 HH.out.2.2.1 HH.out.2.2.2.1 HN.out HE.out.symm HH.out.2.2.2.2, show trapT (genF f (o, a, b) d, actK 1, 0) = (genF f (o, a, b) d, actK 1) from rfl] at hRR
  unfold genF at hRR
  generalize f.stk.take d ++ laysF f (o, a, b) (f.stk.drop d) = KK at *
  subst e8
  have i0 := hG.h8.cell 0
  simp at i0
  have HG := Lib.hid hG
  have HR := Lib.hid hRR
  clear hG hRR HRR SLD VSD LEN CL H47 H57 OS7 OL7 OO7 OV7 BZ7 B7 HQ
  go_upto_if 178 with (fail)
  go_cut [] (fun wx => GSt w W0.heap.size g6 g8 #[.int .i64 o, .int .i64 a, .int .i64 b] (.slice Al f.loc.length cl) (.slice Ao f.slt.length co) (.slice Av n cv) (f.stk.drop d) wx { f with stk := KK, loc := if o = 2 then f.loc.set a.toNat ((f.stk.drop d).getD 0 (0, 0)) else f.loc } (.slice A8 KK.length c8))
  case first =>
   as_aux_lemma =>
    by_cases h2 : o = 2
    · have hn9 := HN.out
      rw [h2] at hn9
      obtain rfl : n = 1 := by
        have e9 : offI p (2, a, b) = 1 := by
          show (rz 2).p = 1
          decide
        rw [e9] at hn9
        omega
      have h9 := HKN.out
      rw [h2] at h9
      unfold knowsF at h9
      rw [if_pos (by simp)] at h9
      simp [hasI] at h9
      obtain ⟨m, rfl⟩ := Int.eq_ofNat_of_zero_le h9.1
      have hml : m < f.loc.length := by omega
      obtain ⟨xv, hxv⟩ := len1 HKL.out
      have ol : OwnVs W8 W0.heap.size (.slice Al f.loc.length cl) f.loc := HG.out.ol
      have ov : OwnVs W8 W0.heap.size (.slice Av 1 cv) (f.stk.drop d) := HG.out.ov
      obtain ⟨gl, gc, egl⟩ := own_form ol (by omega)
      simp only [Value.slice.injEq, true_and] at egl
      obtain ⟨rfl, rfl⟩ := egl
      have hv1 : 0 < (f.stk.drop d).length := by rw [HKL.out]; decide
      obtain ⟨gv, cv', egv⟩ := own_form ov hv1
      simp only [Value.slice.injEq] at egv
      obtain ⟨rfl, hz9, rfl⟩ := egv
      have v0 := (own_vs (l := [xv]) (hxv ▸ ov) (k := 0) (Nat.zero_lt_succ _)).1
      have v1 := (own_vs (l := [xv]) (hxv ▸ ov) (k := 0) (Nat.zero_lt_succ _)).2.1
      replace v0 : W8.cell? ⟨gv, 0, none⟩ = some (.int .i64 xv.1) := v0
      replace v1 : W8.cell? ⟨gv, 1, none⟩ = some (.int .i64 xv.2) := v1
      obtain ⟨y0, y1, z0, z1⟩ := own_vs ol hml
      have x3 := HG.out.h6.cell 3
      have i1 := HG.out.h8.cell 1
      simp at x3 i1
      have hm2 : (m : Int) < f.loc.length := by omega
      have hm0 : (0 : Int) ≤ m := Int.natCast_nonneg m
      clear hn9 h9 hz9 hv1 ol ov
      subst h2
      go_upto_region 29 with (fail)
      go_region
      (repeat (first | go_skip | go_guarded | go_step | go_upon))
      go_meet
      case rel =>
        have := (HG.out.setLoc m xv hml).drew
        rw [hxv] at this
        rw [if_pos rfl, hxv, Int.toNat_natCast]
        exact this
    · have e2 : (o == 2) = false := by simpa using h2
      (repeat (first | go_skip | go_guarded | go_step | go_upon))
      go_meet
      case rel => rw [if_neg h2]; exact HG.out
  case rest =>
  generalize wc = W9 at *
  generalize (if o = 2 then f.loc.set a.toNat ((f.stk.drop d).getD 0 (0, 0)) else f.loc) = LO at *
  clear i0 HG
  have i0 := hcut.h8.cell 0
  simp at i0
  have HG := Lib.hid hcut
  clear hcut
  go_upto_if 189 with (fail)
  go_cut [] (fun wx => GSt w W0.heap.size g6 g8 #[.int .i64 o, .int .i64 a, .int .i64 b] (.slice Al f.loc.length cl) (.slice Ao f.slt.length co) (.slice Av n cv) (f.stk.drop d) wx { f with stk := KK, loc := LO, drw := if o = 12 then wrap64 (f.drw + 1) else f.drw } (.slice A8 KK.length c8))
  case first =>
   as_aux_lemma =>
    by_cases h12 : o = 12
    · have x7 := HG.out.h6.cell 7
      have f7 := HG.out.h6.fz 7
      have l6 := HG.out.h6.lt
      simp at x7
      have e12 : (o == 12) = true := by simpa using h12
      (repeat (first | go_skip | go_guarded | go_step | go_upon))
      go_meet
      case rel => rw [if_pos h12]; exact HG.out.put 7 _ _ rfl rfl rfl rfl
    · have e12 : (o == 12) = false := by simpa using h12
      (repeat (first | go_skip | go_guarded | go_step | go_upon))
      go_meet
      case rel => rw [if_neg h12]; exact HG.out
  case rest =>
  generalize wc = W10 at *
  generalize (if o = 12 then wrap64 (f.drw + 1) else f.drw) = DR at *
  clear i0 HG
  have HG := Lib.hid hcut
  have x1 := hcut.h6.cell 1
  have f1 := hcut.h6.fz 1
  have l6 := hcut.h6.lt
  simp at x1
  rw [HPC.out] at x1
  have hi2 := HI2.out
  have hi3 : (i : Int) < 200 := by omega
  have hi0 : (0 : Int) ≤ i := Int.natCast_nonneg i
  clear hcut hi2
  go_upto_region 33 with (fail)
  have HG2 := Lib.hid (HG.out.put 1 (.int .i64 ((i : Int) + 1)) { f with stk := KK, loc := LO, drw := DR, pc := (i : Int) + 1 } rfl rfl rfl rfl)
  clear HG x1 f1 l6
  generalize W10.setCell ⟨g6, 1, none⟩ (.int .i64 ((i : Int) + 1)) = W11 at *
  obtain ⟨X, hX⟩ : ∃ X : Bool, X = decide (o = 10 ∨ (o = 11 ∧ gOf ((f.stk.drop d).getD 0 (0, 0)) = (0, 0))) := ⟨_, rfl⟩
  have i0 := HG2.out.h8.cell 0
  simp at i0
  have g0 := fun d os => cell_regrown i0 d os
  go_cut [218] (fun v218 wx => v218 = .bool X ∧ Below W11.heap.size W11 wx)
  case first =>
   as_aux_lemma =>
    by_cases h10 : o = 10
    · have hX2 : X = true := by rw [hX]; exact decide_eq_true (.inl h10)
      subst hX2
      clear hX
      subst h10
      refine wp_region_quiet_below (by kernel_rfl) (by kernel_rfl) ?_
      (repeat (first | go_big_quiet_step (fail) | quiet_step (fail)))
      refine wpQuiet_nil ?_
      intro U hv
      have hbU := below_of_regrown hv
      clear hv
      (repeat (first | go_skip | go_guarded | go_step | go_upon))
      go_meet
      exact ⟨rfl, hbU⟩
    · by_cases h11 : o = 11
      · have hn9 := HN.out
        rw [h11] at hn9
        obtain rfl : n = 1 := by
          have e9 : offI p (11, a, b) = 1 := by
            show (rz 11).p = 1
            decide
          rw [e9] at hn9
          omega
        obtain ⟨xv, hxv⟩ := len1 HKL.out
        have ov : OwnVs W11 W0.heap.size (.slice Av 1 cv) (f.stk.drop d) := HG2.out.ov
        have hv1 : 0 < (f.stk.drop d).length := by rw [HKL.out]; decide
        obtain ⟨gv, cv', egv⟩ := own_form ov hv1
        simp only [Value.slice.injEq] at egv
        obtain ⟨rfl, hz9, rfl⟩ := egv
        have v0 := (own_vs (l := [xv]) (hxv ▸ ov) (k := 0) (Nat.zero_lt_succ _)).1
        have v1 := (own_vs (l := [xv]) (hxv ▸ ov) (k := 0) (Nat.zero_lt_succ _)).2.1
        replace v0 : W11.cell? ⟨gv, 0, none⟩ = some (.int .i64 xv.1) := v0
        replace v1 : W11.cell? ⟨gv, 1, none⟩ = some (.int .i64 xv.2) := v1
        have gv0 := fun d os => cell_regrown v0 d os
        have gv1 := fun d os => cell_regrown v1 d os
        have OF4 := fun W => Lib.hid (rof_any xv.1 xv.2 W)
        have EQ : ∀ W, (binOp .eql 30 (Go.Proofs.YtoeinpiekfmbgaaGreatDoor.gv (rs xv.1) (rs xv.2)) (Go.Proofs.YtoeinpiekfmbgaaGreatDoor.gv 0 0)).run Tryz.prog W = .ok (.bool X) W := fun W => by
          rw [hX, hxv]
          have := eqv_run (rs xv.1) (rs xv.2) 0 0 W
          rw [this]
          congr 2
          simp [gOf, h11]
        clear hX hn9 hz9 hv1 ov v0 v1 h10
        subst h11
        generalize rs xv.1 = r1 at *
        generalize rs xv.2 = r2 at *
        refine wp_region_quiet_below (by kernel_rfl) (by kernel_rfl) ?_
        (repeat (first | go_big_quiet_step ((go_at_call 58; (with_reducible exact Calls.regrown_of (OF4 _).out))) | quiet_step ((go_at_call 58; (with_reducible exact Calls.regrown_of (OF4 _).out)))))
        refine wpQuiet_nil ?_
        intro U hv
        have hbU := below_of_regrown hv
        clear hv
        (repeat (first | go_skip | go_guarded | go_step | go_upon))
        go_meet
        exact ⟨rfl, hbU⟩
      · have hX2 : X = false := by rw [hX]; exact decide_eq_false (fun h => h.elim h10 (fun h => h11 h.1))
        subst hX2
        have e10 : (o == 10) = false := by simpa using h10
        have e11 : (o == 11) = false := by simpa using h11
        clear hX h10 h11
        refine wp_region_quiet_below (by kernel_rfl) (by kernel_rfl) ?_
        (repeat (first | go_big_quiet_step (fail) | quiet_step (fail)))
        refine wpQuiet_nil ?_
        intro U hv
        have hbU := below_of_regrown hv
        clear hv
        (repeat (first | go_skip | go_guarded | go_step | go_upon))
        go_meet
        exact ⟨rfl, hbU⟩
  case rest =>
  obtain ⟨rfl, hbU⟩ := hcut
  have HX := Lib.hid hX
  clear hX
  generalize wc = W12 at *
  have HG3 := Lib.hid (HG2.out.below hbU)
  have i1 := HG3.out.h8.cell 1
  have x1 := HG3.out.h6.cell 1
  have f1 := HG3.out.h6.fz 1
  have l6 := HG3.out.h6.lt
  simp at i1 x1
  clear hbU HG2 g0 i0
  go_upto_if 218 with (fail)
  go_cut [] (fun wx => GSt w W0.heap.size g6 g8 #[.int .i64 o, .int .i64 a, .int .i64 b] (.slice Al f.loc.length cl) (.slice Ao f.slt.length co) (.slice Av n cv) (f.stk.drop d) wx { f with stk := KK, loc := LO, drw := DR, pc := if X = true then a else (i : Int) + 1 } (.slice A8 KK.length c8))
  case first =>
   as_aux_lemma =>
    cases X with
    | true =>
      (repeat (first | go_skip | go_guarded | go_step | go_upon))
      go_meet
      case rel => exact HG3.out.put 1 _ _ rfl rfl rfl rfl
    | false =>
      (repeat (first | go_skip | go_guarded | go_step | go_upon))
      go_meet
      case rel => exact HG3.out
  case rest =>
  as_aux_lemma =>
  generalize wc = W13 at *
  clear i1 x1 f1 l6 HG3
  have hR : ({ f with stk := KK, loc := LO, drw := DR, pc := if X = true then a else (i : Int) + 1 }, actK 1) = RR := by
    rw [← HR.out, HX.out, HPC.out]
    simp
  generalize (if X = true then a else (i : Int) + 1) = PC at *
  have HR2 := Lib.hid hR
  clear hR HR HX
  have h6 := hcut.h6
  have f4 := hcut.h4
  have f5 := hcut.h5
  have own := hcut.own
  have hbz := hcut.bz
  clear hcut
  go_upto_region 35 with (fail)
  go_cut [] (fun wx => ∃ cs' ca', TwoH w w.heap.size (w.heap.size + 1) (w.heap.size + 1 + 1) cs' ca' RR.1 RR.2 wx ∧ cs'.size = 16 ∧ ca'.size = 5)
  case first =>
    go_wp2_with (first
      | (guard_target = wpList _ _ _ (Oper.mk _ (Op.load 45 (.tmp 6)) _ _ _ none :: _) _ _; refine wpList_load_row rfl 45 _ rfl g6 rfl _ _ _ _ h6 Tryz.underlying45 rfl (by kernel_rfl) ?_)
      | (guard_target = wpList _ _ _ (Oper.mk _ (Op.store 45 (.tmp 4) _) _ _ _ none :: _) _ _; refine wpList_store_row rfl 45 _ _ rfl (w.heap.size + 1) (fcA { f with stk := KK, loc := LO, drw := DR, pc := PC } (.slice A8 KK.length c8) (.slice Al f.loc.length cl) (.slice Ao f.slt.length co)) rfl rfl _ _ f4 (by kernel_rfl) rfl (by simp [Value.oneCell']) ?_; have k5 := Held.row (show Held W13 (w.heap.size + 1 + 1) 77 ac0 from f5) (Nat.succ_ne_self (w.heap.size + 1)) (fcA { f with stk := KK, loc := LO, drw := DR, pc := PC } (.slice A8 KK.length c8) (.slice Al f.loc.length cl) (.slice Ao f.slt.length co)))
      | (guard_target = wpList _ _ _ (Oper.mk _ (Op.store 77 (.tmp 5) _) _ _ _ none :: _) _ _; refine wpList_store_row rfl 77 _ _ rfl (w.heap.size + 1 + 1) ac1 rfl rfl _ _ k5 (by kernel_rfl) rfl (by simp [Value.oneCell']) ?_))
    go_meet
    case rel => rw [← HR2.out]; exact ⟨_, _, two_set f4 f5 own (ActO.k _ _ 1) hbz (Nat.le_succ _) (Nat.le_succ_of_le (Nat.le_succ _)), rfl, rfl⟩
  case rest =>
    obtain ⟨cs', ca', ⟨k4, k5, hof, hac, hb⟩, n1, n2⟩ := hcut
    (repeat go_step)
    exact bodyPost_ret (two_ret rfl rfl _ k4 k5 n1 n2 rfl rfl) rfl ⟨_, _, rfl, hof, hac, hb⟩
end Go.Proofs.YtoeinpiekfmbgaaGreatDoor

