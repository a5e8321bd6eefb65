/- Layer 12: the document's Same; its copy. -/
import Derived.Test.YtkpjlobpaippdaaYs
import Derived.Test.YtkpjlobpaippdaaYi
namespace Go.Proofs.Ytkpjlobpaippdaa
set_option linter.unusedVariables false
set_option linter.unusedSimpArgs false
open Go.RowKit Go.ChangeShapes Go.WideShapes Go.ChangeAt Go.Sort

theorem pen_eq2 (x y : Zp) : decide (x = y) = ((x.most == y.most) && decide (x.cells.length = y.cells.length) && decide (x.free = y.free) && decide (x.cells = y.cells)) := by
  rw [pen_eq]
  by_cases h : x.cells = y.cells
  · rw [h]; simp
  · rw [decide_eq_false h]; simp
set_option maxHeartbeats 4000000 in
set_option maxRecDepth 100000 in
theorem rsame_z {A A2 A3 A4 : Option Addr} {p q : Zp} {B B' n m n' m' : Nat} (c c2 c3 c4 : Nat) (w : World) (hn : p.cells.length = n) (hm : p.free.length = m) (hn' : q.cells.length = n') (hm' : q.free.length = m') (h : PAtZ w B A A2 p) (h' : PAtZ w B' A3 A4 q) (hl : LenZ p) (hl' : LenZ q) (hB : B ≤ w.heap.size) (hB' : B' ≤ w.heap.size) :
    Calls Try.prog 22 #[pv A n c A2 m c2 p.most, pv A3 n' c3 A4 m' c4 q.most] w fun e w' => e = .returned (.bool (decide (p = q))) ∧ Below w.heap.size w w' := by
  have hb0 := below2 w (.cells (pc A n c A2 m c2 p.most) 25) (.cells (pc A3 n' c3 A4 m' c4 q.most) 25)
  have g2 := (Held.new w 25 (pc A n c A2 m c2 p.most)).alloc (.cells (pc A3 n' c3 A4 m' c4 q.most) 25)
  have g3 := Held.new1 w (.cells (pc A n c A2 m c2 p.most) 25) 25 (pc A3 n' c3 A4 m' c4 q.most)
  have hp := h.below hb0 hB
  have hq := h'.below hb0 hB'
  have hbs := Nat.le_trans hB hb0.size
  have hbs' := Nat.le_trans hB' hb0.size
  have SI := Lib.hid (rints_z c2 c4 _ hm hm' hp.free hq.free (by have := hl.free; omega) (by have := hl'.free; omega))
  have HE := Lib.hid (pen_eq2 p q)
  have HCE : Hid (p.cells = q.cells → decide (p.cells = q.cells) = true) := Lib.hid decide_eq_true
  have HCN : Hid (p.cells ≠ q.cells → decide (p.cells = q.cells) = false) := Lib.hid decide_eq_false
  have hnI : (n : Int) ≤ 2000 := by have := hl.cells; omega
  have HN := Lib.hid hn
  have HN' := Lib.hid hn'
  have HF := Lib.hid hl.frm
  have HF' := Lib.hid hl'.frm
  have HPC := Lib.hid hp.cells
  have HQC := Lib.hid hq.cells
  obtain ⟨pcs, pfr, pm⟩ := p
  obtain ⟨qcs, qfr, qm⟩ := q
  generalize decide (Zp.mk pcs pfr pm = Zp.mk qcs qfr qm) = R at *
  simp only at HE SI g2 g3 hb0 HCE HCN HN HN' HF HF' HPC HQC ⊢
  obtain ⟨e1, he1⟩ : ∃ e, (pm == qm) = e := ⟨_, rfl⟩
  generalize decide (pfr = qfr) = e2 at *
  generalize decide (pcs = qcs) = e3 at *
  rw [he1, HN.out, HN'.out] at HE
  have ne9 : (pm != qm) = !e1 := by rw [← he1]; rfl
  clear h h' hl hl' hB hB' hp hq hn hm hn' hm' he1
  cases e1
  case false =>
    simp only [Bool.not_false] at ne9
    go_enter Try.func22, Try.ntmps22
    go_upto_region 1 with (fail)
    generalize (w.alloc (.cells (pc A n c A2 m c2 pm) 25)).alloc (.cells (pc A3 n' c3 A4 m' c4 qm) 25) = W0 at *
    have x2 := g2.cell 2
    have y2 := g3.cell 2
    simp at x2 y2
    go_wp2_with fail
    go_ret
    rw [HE.out]
    exact ⟨ret_bool (by simp), hb0⟩
  case true =>
  simp only [Bool.not_true] at ne9
  by_cases hlen : n = n'
  case neg =>
    have ne8 : ((n : Int) != (n' : Int)) = true := by simpa using fun e : (n : Int) = n' => hlen (by omega)
    rw [decide_eq_false hlen] at HE
    clear hlen
    go_enter Try.func22, Try.ntmps22
    go_upto_region 1 with (fail)
    generalize (w.alloc (.cells (pc A n c A2 m c2 pm) 25)).alloc (.cells (pc A3 n' c3 A4 m' c4 qm) 25) = W0 at *
    have x2 := g2.cell 2
    have y2 := g3.cell 2
    have x0 := g2.cell 0
    have y0 := g3.cell 0
    simp at x2 y2 x0 y0
    go_wp2_with fail
    go_ret
    rw [HE.out]
    exact ⟨ret_bool (by simp), hb0⟩
  case pos =>
  subst hlen
  rw [decide_eq_true (rfl : n = n)] at HE
  cases e2
  case false =>
    go_enter Try.func22, Try.ntmps22
    go_upto_region 1 with (fail)
    generalize (w.alloc (.cells (pc A n c A2 m c2 pm) 25)).alloc (.cells (pc A3 n c3 A4 m' c4 qm) 25) = W0 at *
    have x2 := g2.cell 2
    have y2 := g3.cell 2
    have x0 := g2.cell 0
    have y0 := g3.cell 0
    have x1 := g2.cell 1
    have y1 := g3.cell 1
    simp at x2 y2 x0 y0 x1 y1
    go_wp2_with (go_at_call 38; (with_reducible refine SI.out.mono ?_); rintro _ u8 ⟨rfl, hb8⟩)
    go_ret
    rw [HE.out]
    exact ⟨ret_bool (by simp), Below.step hb0 hb8⟩
  case true =>
    go_enter Try.func22, Try.ntmps22
    go_upto_region 1 with (fail)
    generalize (w.alloc (.cells (pc A n c A2 m c2 pm) 25)).alloc (.cells (pc A3 n c3 A4 m' c4 qm) 25) = W0 at *
    have x2 := g2.cell 2
    have y2 := g3.cell 2
    have x0 := g2.cell 0
    have y0 := g3.cell 0
    have x1 := g2.cell 1
    have y1 := g3.cell 1
    simp at x2 y2 x0 y0 x1 y1
    go_upto_region 4 with (go_at_call 38; (with_reducible refine SI.out.mono ?_); rintro _ u8 ⟨rfl, hb8⟩)
    replace g2 := Held.below g2 hb8
    replace g3 := Held.below g3 hb8
    have HB8 := Lib.hid hb8
    have HB0 := Lib.hid hb0
    clear x2 y2 x0 y0 x1 y1 SI hb8 hb0
    go_loopw [5] (fun iv W => ∃ j : Nat, iv = .int .i64 j ∧ j ≤ n ∧ pcs.take j = qcs.take j ∧ Below u8.heap.size u8 W) (fun iv _ => n - (intOf iv).toNat)
    case atStart => exact ⟨0, rfl, by omega, by simp, Below.refl _ _⟩
    case round =>
      obtain ⟨j, rfl, hj, htk, hw⟩ := hrel
      have HTK := Lib.hid htk
      have HW := Lib.hid hw
      have h2 := Held.below g2 hw
      have h3 := Held.below g3 hw
      have x0 := h2.cell 0
      have y0 := h3.cell 0
      simp at x0 y0
      clear htk
      by_cases hlt : j < n
      · have hjl : j < pcs.length := by rw [HN.out]; exact hlt
        have hjk : j < qcs.length := by rw [HN'.out]; exact hlt
        obtain ⟨b1, off1, rfl, arr, a1, r1⟩ := ((HPC.out.below HB8.out hbs).below hw (Nat.le_trans hbs HB8.out.size)).celV hjl
        obtain ⟨b2, off2, rfl, brr, a2, r2⟩ := ((HQC.out.below HB8.out hbs').below hw (Nat.le_trans hbs' HB8.out.size)).celV hjk
        have T1 := Lib.hid (List.take_succ_eq_append_getElem hjl)
        have T2 := Lib.hid (List.take_succ_eq_append_getElem hjk)
        have NE9 : Hid (pcs[j] ≠ qcs[j] → e3 = false) := Lib.hid fun hne => HCN.out (fun e => hne (by subst e; rfl))
        have hlt2 : (j : Int) < n := by omega
        have hj0 : (0 : Int) ≤ j := by omega
        have F1 := HF.out j hjl
        have F2 := HF'.out j hjk
        generalize pcs[j] = x at *
        generalize qcs[j] = y at *
        have sz1 := Lib.hid a1.size
        have sz2 := Lib.hid a2.size
        have on1 := Lib.hid a1.one
        have on2 := Lib.hid a2.one
        have FF := Lib.hid (And.intro F1 (And.intro F2 (And.intro (Nat.le_trans hbs (Nat.le_trans HB8.out.size hw.size)) (Nat.le_trans hbs' (Nat.le_trans HB8.out.size hw.size)))))
        have hl1 : b1 < wr.heap.size := block_lt_of_cell (r1 0 (arr[0]'(by rw [sz1.out]; omega)) (by simp [sz1.out]))
        have hl2 : b2 < wr.heap.size := block_lt_of_cell (r2 0 (brr[0]'(by rw [sz2.out]; omega)) (by simp [sz2.out]))
        clear F1 F2 hw
        go_upto_region 6 with (fail)
        go_cut [6, 7] from 30 to 66 (fun v6 v7 wx => ∃ k6 k7, v6 = .pointer (some ⟨k6, 0, none⟩) ∧ v7 = .pointer (some ⟨k7, 0, none⟩) ∧ Held wx k6 62 arr ∧ Held wx k7 62 brr ∧ Below wr.heap.size wr wx)
        case first =>
          have hdr := (Below.refl wr.heap.size wr).drew
          have HD := Lib.hid hdr
          replace h2 := Held.below h2 hdr
          replace h3 := Held.below h3 hdr
          replace r1 : wr.drew.rangeAt b1 (off1 + j * 18) arr.toList := r1
          replace r2 : wr.drew.rangeAt b2 (off2 + j * 18) brr.toList := r2
          replace hl1 : b1 < wr.drew.heap.size := hl1
          replace hl2 : b2 < wr.drew.heap.size := hl2
          clear hdr
          refine wp_region_held_drew (S := fun W => Below wr.drew.heap.size wr.drew W) (by kernel_rfl) (Below.refl _ _) (fun hS => ?_)
          generalize wr.drew = W1 at *
          show wpAnyH _ _ _ _ _ 14 #[false, false, false, false, false, false, false, false, false, false, false, false, false, false] _ _
          refine wpAnyH_begin (by kernel_rfl) (fun HNS => ?_)
          refine wpAnyH_takeS HNS (i := 0) (v := .pointer (some ⟨w.heap.size, 0, none⟩)) rfl (by kernel_rfl) (by kernel_rfl) (fun _ _ _ h => h) (Or.inl ⟨by kernel_rfl, fun W hW => ?_⟩) hS ?_
          · go_simp
          simp only [Act.put, List.getElem_toArray, List.getElem_cons_succ, List.getElem_cons_zero, List.setIfInBounds_toArray, List.set_cons_zero, List.set_cons_succ]
          refine wpAnyH_takeS HNS (i := 1) (v := .slice (some ⟨b1, off1, none⟩) n c) rfl (by kernel_rfl) (by kernel_rfl) (fun _ _ _ h => h) (Or.inl ⟨by kernel_rfl, fun W hW => ?_⟩) hS ?_
          · (have hz := Held.below h2 hW; have z0 := hz.cell 0; simp at z0; go_simp)
          simp only [Act.put, List.getElem_toArray, List.getElem_cons_succ, List.getElem_cons_zero, List.setIfInBounds_toArray, List.set_cons_zero, List.set_cons_succ]
          refine wpAnyH_takeS HNS (i := 2) (v := .int .i64 j) rfl (by kernel_rfl) (by kernel_rfl) (fun _ _ _ h => h) (Or.inl ⟨by kernel_rfl, fun W hW => ?_⟩) hS ?_
          · go_simp
          simp only [Act.put, List.getElem_toArray, List.getElem_cons_succ, List.getElem_cons_zero, List.setIfInBounds_toArray, List.set_cons_zero, List.set_cons_succ]
          refine wpAnyH_takeS HNS (i := 3) (v := .pointer (some ⟨b1, off1 + j * 18, none⟩)) rfl (by kernel_rfl) (by kernel_rfl) (fun _ _ _ h => h) (Or.inl ⟨by kernel_rfl, fun W hW => ?_⟩) hS ?_
          · go_simp
          simp only [Act.put, List.getElem_toArray, List.getElem_cons_succ, List.getElem_cons_zero, List.setIfInBounds_toArray, List.set_cons_zero, List.set_cons_succ]
          refine wpAnyH_takeS HNS (i := 4) (v := .agg arr) rfl (by kernel_rfl) (by kernel_rfl) (fun _ _ _ h => h) (yieldsIf_load_midA (by kernel_rfl) 62 _ rfl b1 (off1 + j * 18) (by rfl) arr _ (fun W hW => range_keep r1 (hW.block b1 hl1)) Try.underlying62 rfl (by rw [sz1.out]; kernel_rfl)) hS ?_
          simp only [Act.put, List.getElem_toArray, List.getElem_cons_succ, List.getElem_cons_zero, List.setIfInBounds_toArray, List.set_cons_zero, List.set_cons_succ]
          refine wpAnyH_takeS HNS (i := 5) (v := .pointer (some ⟨w.heap.size + 1, 0, none⟩)) rfl (by kernel_rfl) (by kernel_rfl) (fun _ _ _ h => h) (Or.inl ⟨by kernel_rfl, fun W hW => ?_⟩) hS ?_
          · go_simp
          simp only [Act.put, List.getElem_toArray, List.getElem_cons_succ, List.getElem_cons_zero, List.setIfInBounds_toArray, List.set_cons_zero, List.set_cons_succ]
          refine wpAnyH_takeS HNS (i := 6) (v := .slice (some ⟨b2, off2, none⟩) n c3) rfl (by kernel_rfl) (by kernel_rfl) (fun _ _ _ h => h) (Or.inl ⟨by kernel_rfl, fun W hW => ?_⟩) hS ?_
          · (have hz := Held.below h3 hW; have z0 := hz.cell 0; simp at z0; go_simp)
          simp only [Act.put, List.getElem_toArray, List.getElem_cons_succ, List.getElem_cons_zero, List.setIfInBounds_toArray, List.set_cons_zero, List.set_cons_succ]
          refine wpAnyH_takeS HNS (i := 7) (v := .int .i64 j) rfl (by kernel_rfl) (by kernel_rfl) (fun _ _ _ h => h) (Or.inl ⟨by kernel_rfl, fun W hW => ?_⟩) hS ?_
          · go_simp
          simp only [Act.put, List.getElem_toArray, List.getElem_cons_succ, List.getElem_cons_zero, List.setIfInBounds_toArray, List.set_cons_zero, List.set_cons_succ]
          refine wpAnyH_takeS HNS (i := 8) (v := .pointer (some ⟨b2, off2 + j * 18, none⟩)) rfl (by kernel_rfl) (by kernel_rfl) (fun _ _ _ h => h) (Or.inl ⟨by kernel_rfl, fun W hW => ?_⟩) hS ?_
          · go_simp
          simp only [Act.put, List.getElem_toArray, List.getElem_cons_succ, List.getElem_cons_zero, List.setIfInBounds_toArray, List.set_cons_zero, List.set_cons_succ]
          refine wpAnyH_takeS HNS (i := 9) (v := .agg brr) rfl (by kernel_rfl) (by kernel_rfl) (fun _ _ _ h => h) (yieldsIf_load_midA (by kernel_rfl) 62 _ rfl b2 (off2 + j * 18) (by rfl) brr _ (fun W hW => range_keep r2 (hW.block b2 hl2)) Try.underlying62 rfl (by rw [sz2.out]; kernel_rfl)) hS ?_
          simp only [Act.put, List.getElem_toArray, List.getElem_cons_succ, List.getElem_cons_zero, List.setIfInBounds_toArray, List.set_cons_zero, List.set_cons_succ]
          refine wpAnyH_ready (rs := [10, 11]) (by kernel_rfl) (by simp) ?_
          refine (AllReadyH.cons rfl (fun K hK => ?_) (AllReadyH.cons rfl (fun K hK => ?_) AllReadyH.nil))
          · rw [if_pos (by kernel_rfl)]
            refine wp_alloc_R 62 rfl cz0 (by kernel_rfl) ?_
            have hbA := ((Below.refl _ _).alloc (Nat.le_refl _) _ : Below W1.heap.size W1 (W1.alloc (.cells cz0 62)))
            have h6 := Held.new W1 62 cz0
            have lh6 := hS.size
            replace hS := Below.step hS hbA
            clear hbA
            generalize W1.alloc (.cells cz0 62) = Wd1 at *
            refine hK.out _ _ hS (fun _ => ?_)
            clear hK K
            (try simp only [Act.put, List.getElem_toArray, List.getElem_cons_succ, List.getElem_cons_zero, List.setIfInBounds_toArray, List.set_cons_zero, List.set_cons_succ])
            refine wpAnyH_ready (rs := [11]) (by kernel_rfl) (by simp) ?_
            refine (AllReadyH.cons rfl (fun K hK => ?_) AllReadyH.nil)
            · rw [if_pos (by kernel_rfl)]
              refine wp_alloc_R 62 rfl cz0 (by kernel_rfl) ?_
              have nh6h7 : W1.heap.size ≠ Wd1.heap.size := Nat.ne_of_lt (Held.lt h6)
              have hbA := ((Below.refl _ _).alloc (Nat.le_refl _) _ : Below Wd1.heap.size Wd1 (Wd1.alloc (.cells cz0 62)))
              replace h6 := Held.below h6 hbA
              have h7 := Held.new Wd1 62 cz0
              have lh7 := hS.size
              replace hS := Below.step hS hbA
              clear hbA
              generalize Wd1.alloc (.cells cz0 62) = Wd2 at *
              refine hK.out _ _ hS (fun _ => ?_)
              clear hK K
              (try simp only [Act.put, List.getElem_toArray, List.getElem_cons_succ, List.getElem_cons_zero, List.setIfInBounds_toArray, List.set_cons_zero, List.set_cons_succ])
              refine wpAnyH_ready (rs := [12]) (by kernel_rfl) (by simp) ?_
              refine (AllReadyH.cons rfl (fun K hK => ?_) AllReadyH.nil)
              · rw [if_pos (by kernel_rfl)]
                refine wp_store_row 62 _ _ rfl _ arr (by rfl) (by rfl) _ _ h6 (by rw [sz1.out]; kernel_rfl) (by rw [sz1.out]; rfl) on1.out ?_
                replace h7 := held_row h7 (Ne.symm nh6h7) arr
                replace hS := below_setRow hS lh6 arr
                replace h6 := held_rowSelf h6 arr
                generalize World.setRow _ _ arr = Wd3 at *
                refine hK.out _ _ hS (fun _ => ?_)
                clear hK K
                (try simp only [Act.put, List.getElem_toArray, List.getElem_cons_succ, List.getElem_cons_zero, List.setIfInBounds_toArray, List.set_cons_zero, List.set_cons_succ])
                refine wpAnyH_ready (rs := [13]) (by kernel_rfl) (by simp) ?_
                refine (AllReadyH.cons rfl (fun K hK => ?_) AllReadyH.nil)
                · rw [if_pos (by kernel_rfl)]
                  refine wp_store_row 62 _ _ rfl _ brr (by rfl) (by rfl) _ _ h7 (by rw [sz2.out]; kernel_rfl) (by rw [sz2.out]; rfl) on2.out ?_
                  replace h6 := held_row h6 nh6h7 brr
                  replace hS := below_setRow hS lh7 brr
                  replace h7 := held_rowSelf h7 brr
                  generalize World.setRow _ _ brr = Wd4 at *
                  refine hK.out _ _ hS (fun _ => ?_)
                  clear hK K
                  (try simp only [Act.put, List.getElem_toArray, List.getElem_cons_succ, List.getElem_cons_zero, List.setIfInBounds_toArray, List.set_cons_zero, List.set_cons_succ])
                  refine wpAnyH_done (by kernel_rfl) ?_ _
                  go_wp2_with fail
                  go_meet
                  case rel => exact ⟨_, _, rfl, rfl, h6, h7, Below.step HD.out hS⟩
          · rw [if_pos (by kernel_rfl)]
            refine wp_alloc_R 62 rfl cz0 (by kernel_rfl) ?_
            have hbA := ((Below.refl _ _).alloc (Nat.le_refl _) _ : Below W1.heap.size W1 (W1.alloc (.cells cz0 62)))
            have h7 := Held.new W1 62 cz0
            have lh7 := hS.size
            replace hS := Below.step hS hbA
            clear hbA
            generalize W1.alloc (.cells cz0 62) = Wd5 at *
            refine hK.out _ _ hS (fun _ => ?_)
            clear hK K
            (try simp only [Act.put, List.getElem_toArray, List.getElem_cons_succ, List.getElem_cons_zero, List.setIfInBounds_toArray, List.set_cons_zero, List.set_cons_succ])
            refine wpAnyH_ready (rs := [10]) (by kernel_rfl) (by simp) ?_
            refine (AllReadyH.cons rfl (fun K hK => ?_) AllReadyH.nil)
            · rw [if_pos (by kernel_rfl)]
              refine wp_alloc_R 62 rfl cz0 (by kernel_rfl) ?_
              have nh7h6 : W1.heap.size ≠ Wd5.heap.size := Nat.ne_of_lt (Held.lt h7)
              have hbA := ((Below.refl _ _).alloc (Nat.le_refl _) _ : Below Wd5.heap.size Wd5 (Wd5.alloc (.cells cz0 62)))
              replace h7 := Held.below h7 hbA
              have h6 := Held.new Wd5 62 cz0
              have lh6 := hS.size
              replace hS := Below.step hS hbA
              clear hbA
              generalize Wd5.alloc (.cells cz0 62) = Wd6 at *
              refine hK.out _ _ hS (fun _ => ?_)
              clear hK K
              (try simp only [Act.put, List.getElem_toArray, List.getElem_cons_succ, List.getElem_cons_zero, List.setIfInBounds_toArray, List.set_cons_zero, List.set_cons_succ])
              refine wpAnyH_ready (rs := [12]) (by kernel_rfl) (by simp) ?_
              refine (AllReadyH.cons rfl (fun K hK => ?_) AllReadyH.nil)
              · rw [if_pos (by kernel_rfl)]
                refine wp_store_row 62 _ _ rfl _ arr (by rfl) (by rfl) _ _ h6 (by rw [sz1.out]; kernel_rfl) (by rw [sz1.out]; rfl) on1.out ?_
                replace h7 := held_row h7 nh7h6 arr
                replace hS := below_setRow hS lh6 arr
                replace h6 := held_rowSelf h6 arr
                generalize World.setRow _ _ arr = Wd7 at *
                refine hK.out _ _ hS (fun _ => ?_)
                clear hK K
                (try simp only [Act.put, List.getElem_toArray, List.getElem_cons_succ, List.getElem_cons_zero, List.setIfInBounds_toArray, List.set_cons_zero, List.set_cons_succ])
                refine wpAnyH_ready (rs := [13]) (by kernel_rfl) (by simp) ?_
                refine (AllReadyH.cons rfl (fun K hK => ?_) AllReadyH.nil)
                · rw [if_pos (by kernel_rfl)]
                  refine wp_store_row 62 _ _ rfl _ brr (by rfl) (by rfl) _ _ h7 (by rw [sz2.out]; kernel_rfl) (by rw [sz2.out]; rfl) on2.out ?_
                  replace h6 := held_row h6 (Ne.symm nh7h6) brr
                  replace hS := below_setRow hS lh7 brr
                  replace h7 := held_rowSelf h7 brr
                  generalize World.setRow _ _ brr = Wd8 at *
                  refine hK.out _ _ hS (fun _ => ?_)
                  clear hK K
                  (try simp only [Act.put, List.getElem_toArray, List.getElem_cons_succ, List.getElem_cons_zero, List.setIfInBounds_toArray, List.set_cons_zero, List.set_cons_succ])
                  refine wpAnyH_done (by kernel_rfl) ?_ _
                  go_wp2_with fail
                  go_meet
                  case rel => exact ⟨_, _, rfl, rfl, h6, h7, Below.step HD.out hS⟩
        case rest =>
          obtain ⟨k6, k7, rfl, rfl, h6, h7, hb9⟩ := hcut
          have x0 := (h6.cell 0).trans a1.gen
          have x1 := (h6.cell 1).trans a1.used
          have y0 := (h7.cell 0).trans a2.gen
          have y1 := (h7.cell 1).trans a2.used
          obtain ⟨cs, s1, -, hf, hr⟩ := a1.frm
          obtain ⟨ds, t1, -, hf', hr'⟩ := a2.frm
          have HR := Lib.hid (hr _ _ h6)
          have HR' := Lib.hid (hr' _ _ h7)
          have SF := Lib.hid (rsamef_z _ (hf.below hb9 FF.out.2.2.1) (hf'.below hb9 FF.out.2.2.2) FF.out.1 FF.out.2.1 (Nat.le_trans FF.out.2.2.1 hb9.size) (Nat.le_trans FF.out.2.2.2 hb9.size))
          have S1 := Lib.hid s1
          have T9 := Lib.hid t1
          have HCQ := Lib.hid (cel_eq x y)
          have HBW := Lib.hid (Below.step HW.out hb9)
          obtain ⟨gx, ux, fx⟩ := x
          obtain ⟨gy, uy, fy⟩ := y
          obtain ⟨RC, hRC⟩ : ∃ r, decide (Cel.mk gx ux fx = Cel.mk gy uy fy) = r := ⟨_, rfl⟩
          have HRC := Lib.hid hRC
          rw [hRC] at HCQ
          simp only at HCQ SF x0 x1 y0 y1
          obtain ⟨d1, hd1⟩ : ∃ e, (gx == gy) = e := ⟨_, rfl⟩
          obtain ⟨d2, hd2⟩ : ∃ e, (ux == uy) = e := ⟨_, rfl⟩
          generalize decide (fx = fy) = d3 at *
          rw [hd1, hd2] at HCQ
          have nd1 : (gx != gy) = !d1 := by rw [← hd1]; rfl
          clear hd1 h2 h3 r1 r2 a1 a2 s1 t1 hf hf' hr hr' hRC hb9
          cases d1
          case false =>
            simp only [Bool.not_false] at nd1
            have hno : RC = false := by rw [HCQ.out]; rfl
            subst hno
            obtain rfl : e3 = false := NE9.out (of_decide_eq_false HRC.out)
            go_wp2_with (first
            | (guard_target = wpList _ _ _ (Oper.mk (some 61) _ _ _ _ _ :: _) _ _; refine wpList_done rfl ?_; refine wpList_load_midA rfl 35 _ rfl k6 2 rfl cs _ HR.out Try.underlying35 rfl (by rw [S1.out]; kernel_rfl) ?_)
            | (guard_target = wpList _ _ _ (Oper.mk (some 63) _ _ _ _ _ :: _) _ _; refine wpList_done rfl ?_; refine wpList_load_midA rfl 35 _ rfl k7 2 rfl ds _ HR'.out Try.underlying35 rfl (by rw [T9.out]; kernel_rfl) ?_)
            | (go_at_call 23; (with_reducible refine SF.out.mono ?_); rintro _ u9 ⟨rfl, hb9⟩))
            go_ret
            rw [HE.out]
            exact ⟨ret_bool (by simp), Below.step HB0.out (Below.step HB8.out HBW.out)⟩
          case true =>
          simp only [Bool.not_true] at nd1
          cases ux <;> cases uy <;> simp at hd2 <;> subst hd2
          case false.true | true.false =>
            have hno : RC = false := by rw [HCQ.out]; rfl
            subst hno
            obtain rfl : e3 = false := NE9.out (of_decide_eq_false HRC.out)
            go_wp2_with (first
            | (guard_target = wpList _ _ _ (Oper.mk (some 61) _ _ _ _ _ :: _) _ _; refine wpList_done rfl ?_; refine wpList_load_midA rfl 35 _ rfl k6 2 rfl cs _ HR.out Try.underlying35 rfl (by rw [S1.out]; kernel_rfl) ?_)
            | (guard_target = wpList _ _ _ (Oper.mk (some 63) _ _ _ _ _ :: _) _ _; refine wpList_done rfl ?_; refine wpList_load_midA rfl 35 _ rfl k7 2 rfl ds _ HR'.out Try.underlying35 rfl (by rw [T9.out]; kernel_rfl) ?_)
            | (go_at_call 23; (with_reducible refine SF.out.mono ?_); rintro _ u9 ⟨rfl, hb9⟩))
            go_ret
            rw [HE.out]
            exact ⟨ret_bool (by simp), Below.step HB0.out (Below.step HB8.out HBW.out)⟩
          all_goals
            cases d3
            case false =>
              have hno : RC = false := by rw [HCQ.out]; rfl
              subst hno
              obtain rfl : e3 = false := NE9.out (of_decide_eq_false HRC.out)
              go_wp2_with (first
            | (guard_target = wpList _ _ _ (Oper.mk (some 61) _ _ _ _ _ :: _) _ _; refine wpList_done rfl ?_; refine wpList_load_midA rfl 35 _ rfl k6 2 rfl cs _ HR.out Try.underlying35 rfl (by rw [S1.out]; kernel_rfl) ?_)
            | (guard_target = wpList _ _ _ (Oper.mk (some 63) _ _ _ _ _ :: _) _ _; refine wpList_done rfl ?_; refine wpList_load_midA rfl 35 _ rfl k7 2 rfl ds _ HR'.out Try.underlying35 rfl (by rw [T9.out]; kernel_rfl) ?_)
            | (go_at_call 23; (with_reducible refine SF.out.mono ?_); rintro _ u9 ⟨rfl, hb9⟩))
              go_ret
              rw [HE.out]
              exact ⟨ret_bool (by simp), Below.step HB0.out (Below.step HB8.out (Below.step HBW.out hb9))⟩
            case true =>
              have hno : RC = true := by rw [HCQ.out]; rfl
              subst hno
              have HXY := Lib.hid (of_decide_eq_true HRC.out)
              go_wp2_with (first
            | (guard_target = wpList _ _ _ (Oper.mk (some 61) _ _ _ _ _ :: _) _ _; refine wpList_done rfl ?_; refine wpList_load_midA rfl 35 _ rfl k6 2 rfl cs _ HR.out Try.underlying35 rfl (by rw [S1.out]; kernel_rfl) ?_)
            | (guard_target = wpList _ _ _ (Oper.mk (some 63) _ _ _ _ _ :: _) _ _; refine wpList_done rfl ?_; refine wpList_load_midA rfl 35 _ rfl k7 2 rfl ds _ HR'.out Try.underlying35 rfl (by rw [T9.out]; kernel_rfl) ?_)
            | (go_at_call 23; (with_reducible refine SF.out.mono ?_); rintro _ u9 ⟨rfl, hb9⟩))
              go_roundw
              case rel => exact ⟨j + 1, by go_num, by omega, by rw [T1.out, T2.out, HTK.out, HXY.out], Below.step HBW.out hb9⟩
              case measure => simp [intOf]; omega
      · obtain rfl : j = n := by omega
        obtain rfl : e3 = true := HCE.out (by
          have := HTK.out
          rwa [List.take_of_length_le (by rw [HN.out]; exact Nat.le_refl _), List.take_of_length_le (by rw [HN'.out]; exact Nat.le_refl _)] at this)
        clear hw hlt h2 h3
        go_wp2_with fail
        go_ret
        rw [HE.out]
        exact ⟨ret_bool (by simp), Below.step HB0.out (Below.step HB8.out HW.out)⟩
end Go.Proofs.Ytkpjlobpaippdaa
