/- Layer 12: the document's Same; its copy. -/
import Derived.Test.YtjibkgildfjjoaaGreatDoorzYs
import Derived.Test.YtjibkgildfjjoaaGreatDoorzYi
import Derived.Test.YtjibkgildfjjoaaGreatDoorzYr
import Derived.Test.YtjibkgildfjjoaaGreatDoorzYg
import Derived.Test.YtjibkgildfjjoaaGreatDoorzKit
import Derived.Test.YtjibkgildfjjoaaGreatDoorzYn
namespace Go.Proofs.YtjibkgildfjjoaaGreatDoor
set_option linter.unusedVariables false
set_option linter.unusedSimpArgs false
open Go.RowKit Go.ChangeShapes Go.WideShapes Go.ChangeAt Go.Sort

theorem pen_eq2 (x y : Zp) : decide (x = y) = ((x.most == y.most) && decide (x.cells.length = y.cells.length) && decide (x.free = y.free) && decide (x.cells = y.cells)) := by
  rw [pen_eq]
  by_cases h : x.cells = y.cells
  · rw [h]; simp
  · rw [decide_eq_false h]; simp
set_option maxHeartbeats 4000000 in
set_option maxRecDepth 100000 in
theorem rsame_z {A A2 A3 A4 : Option Addr} {p q : Zp} {B B' n m n' m' : Nat} (c c2 c3 c4 : Nat) (w : World) (hn : p.cells.length = n) (hm : p.free.length = m) (hn' : q.cells.length = n') (hm' : q.free.length = m') (h : PAtZ w B A A2 p) (h' : PAtZ w B' A3 A4 q) (hl : LenZ p) (hl' : LenZ q) (hB : B ≤ w.heap.size) (hB' : B' ≤ w.heap.size) :
    Calls Tryz.prog 39 #[pv A n c A2 m c2 p.most, pv A3 n' c3 A4 m' c4 q.most] w fun e w' => e = .returned (.bool (decide (p = q))) ∧ Below w.heap.size w w' := by
  have hb0 := below2 w (.cells (pc A n c A2 m c2 p.most) 32) (.cells (pc A3 n' c3 A4 m' c4 q.most) 32)
  have g2 := (Held.new w 32 (pc A n c A2 m c2 p.most)).alloc (.cells (pc A3 n' c3 A4 m' c4 q.most) 32)
  have g3 := Held.new1 w (.cells (pc A n c A2 m c2 p.most) 32) 32 (pc A3 n' c3 A4 m' c4 q.most)
  have hp := h.below hb0 hB
  have hq := h'.below hb0 hB'
  have hbs := Nat.le_trans hB hb0.size
  have hbs' := Nat.le_trans hB' hb0.size
  have SI := Lib.hid (rints_z c2 c4 _ hm hm' hp.free hq.free (by have := hl.free; omega) (by have := hl'.free; omega))
  have HE := Lib.hid (pen_eq2 p q)
  have HCE : Hid (p.cells = q.cells → decide (p.cells = q.cells) = true) := Lib.hid decide_eq_true
  have HCN : Hid (p.cells ≠ q.cells → decide (p.cells = q.cells) = false) := Lib.hid decide_eq_false
  have hnI : (n : Int) ≤ 2000 := by have := hl.cells; omega
  have HN := Lib.hid hn
  have HN' := Lib.hid hn'
  have HF := Lib.hid hl.frm
  have HF' := Lib.hid hl'.frm
  have HPC := Lib.hid hp.cells
  have HQC := Lib.hid hq.cells
  obtain ⟨pcs, pfr, pm⟩ := p
  obtain ⟨qcs, qfr, qm⟩ := q
  generalize decide (Zp.mk pcs pfr pm = Zp.mk qcs qfr qm) = R at *
  simp only at HE SI g2 g3 hb0 HCE HCN HN HN' HF HF' HPC HQC ⊢
  obtain ⟨e1, he1⟩ : ∃ e, (pm == qm) = e := ⟨_, rfl⟩
  generalize decide (pfr = qfr) = e2 at *
  generalize decide (pcs = qcs) = e3 at *
  rw [he1, HN.out, HN'.out] at HE
  have ne9 : (pm != qm) = !e1 := by rw [← he1]; rfl
  clear h h' hl hl' hB hB' hp hq hn hm hn' hm' he1
  cases e1
  case false =>
    simp only [Bool.not_false] at ne9
    go_enter Tryz.func39, Tryz.ntmps39
    go_upto_region 1 with (fail)
    generalize (w.alloc (.cells (pc A n c A2 m c2 pm) 32)).alloc (.cells (pc A3 n' c3 A4 m' c4 qm) 32) = W0 at *
    have x2 := g2.cell 2
    have y2 := g3.cell 2
    simp at x2 y2
    go_wp2_with fail
    go_ret
    rw [HE.out]
    exact ⟨ret_bool (by simp), hb0⟩
  case true =>
  simp only [Bool.not_true] at ne9
  by_cases hlen : n = n'
  case neg =>
    have ne8 : ((n : Int) != (n' : Int)) = true := by simpa using fun e : (n : Int) = n' => hlen (by omega)
    rw [decide_eq_false hlen] at HE
    clear hlen
    go_enter Tryz.func39, Tryz.ntmps39
    go_upto_region 1 with (fail)
    generalize (w.alloc (.cells (pc A n c A2 m c2 pm) 32)).alloc (.cells (pc A3 n' c3 A4 m' c4 qm) 32) = W0 at *
    have x2 := g2.cell 2
    have y2 := g3.cell 2
    have x0 := g2.cell 0
    have y0 := g3.cell 0
    simp at x2 y2 x0 y0
    go_wp2_with fail
    go_ret
    rw [HE.out]
    exact ⟨ret_bool (by simp), hb0⟩
  case pos =>
  subst hlen
  rw [decide_eq_true (rfl : n = n)] at HE
  cases e2
  case false =>
    go_enter Tryz.func39, Tryz.ntmps39
    go_upto_region 1 with (fail)
    generalize (w.alloc (.cells (pc A n c A2 m c2 pm) 32)).alloc (.cells (pc A3 n c3 A4 m' c4 qm) 32) = W0 at *
    have x2 := g2.cell 2
    have y2 := g3.cell 2
    have x0 := g2.cell 0
    have y0 := g3.cell 0
    have x1 := g2.cell 1
    have y1 := g3.cell 1
    simp at x2 y2 x0 y0 x1 y1
    go_wp2_with (go_at_call 69; (with_reducible refine SI.out.mono ?_); rintro _ u8 ⟨rfl, hb8⟩)
    go_ret
    rw [HE.out]
    exact ⟨ret_bool (by simp), Below.step hb0 hb8⟩
  case true =>
    go_enter Tryz.func39, Tryz.ntmps39
    go_upto_region 1 with (fail)
    generalize (w.alloc (.cells (pc A n c A2 m c2 pm) 32)).alloc (.cells (pc A3 n c3 A4 m' c4 qm) 32) = W0 at *
    have x2 := g2.cell 2
    have y2 := g3.cell 2
    have x0 := g2.cell 0
    have y0 := g3.cell 0
    have x1 := g2.cell 1
    have y1 := g3.cell 1
    simp at x2 y2 x0 y0 x1 y1
    go_upto_region 4 with (go_at_call 69; (with_reducible refine SI.out.mono ?_); rintro _ u8 ⟨rfl, hb8⟩)
    replace g2 := Held.below g2 hb8
    replace g3 := Held.below g3 hb8
    have HB8 := Lib.hid hb8
    have HB0 := Lib.hid hb0
    clear x2 y2 x0 y0 x1 y1 SI hb8 hb0
    go_loopw [5] (fun iv W => ∃ j : Nat, iv = .int .i64 j ∧ j ≤ n ∧ pcs.take j = qcs.take j ∧ Below u8.heap.size u8 W) (fun iv _ => n - (intOf iv).toNat)
    case atStart => exact ⟨0, rfl, by omega, by simp, Below.refl _ _⟩
    case round =>
      obtain ⟨j, rfl, hj, htk, hw⟩ := hrel
      have HTK := Lib.hid htk
      have HW := Lib.hid hw
      have h2 := Held.below g2 hw
      have h3 := Held.below g3 hw
      have x0 := h2.cell 0
      have y0 := h3.cell 0
      simp at x0 y0
      clear htk
      by_cases hlt : j < n
      · have hjl : j < pcs.length := by rw [HN.out]; exact hlt
        have hjk : j < qcs.length := by rw [HN'.out]; exact hlt
        obtain ⟨b1, off1, rfl, arr, a1, r1⟩ := ((HPC.out.below HB8.out hbs).below hw (Nat.le_trans hbs HB8.out.size)).celV hjl
        obtain ⟨b2, off2, rfl, brr, a2, r2⟩ := ((HQC.out.below HB8.out hbs').below hw (Nat.le_trans hbs' HB8.out.size)).celV hjk
        have T1 := Lib.hid (List.take_succ_eq_append_getElem hjl)
        have T2 := Lib.hid (List.take_succ_eq_append_getElem hjk)
        have NE9 : Hid (pcs[j] ≠ qcs[j] → e3 = false) := Lib.hid fun hne => HCN.out (fun e => hne (by subst e; rfl))
        have hlt2 : (j : Int) < n := by omega
        have hj0 : (0 : Int) ≤ j := by omega
        have F1 := HF.out j hjl
        have F2 := HF'.out j hjk
        generalize pcs[j] = x at *
        generalize qcs[j] = y at *
        have sz1 := Lib.hid a1.size
        have sz2 := Lib.hid a2.size
        have on1 := Lib.hid a1.one
        have on2 := Lib.hid a2.one
        have FF := Lib.hid (And.intro F1 (And.intro F2 (And.intro (Nat.le_trans hbs (Nat.le_trans HB8.out.size hw.size)) (Nat.le_trans hbs' (Nat.le_trans HB8.out.size hw.size)))))
        have hl1 : b1 < wr.heap.size := block_lt_of_cell (r1 0 (arr[0]'(by rw [sz1.out]; omega)) (by simp [sz1.out]))
        have hl2 : b2 < wr.heap.size := block_lt_of_cell (r2 0 (brr[0]'(by rw [sz2.out]; omega)) (by simp [sz2.out]))
        clear F1 F2 hw
        go_upto_region 6 with (fail)
        go_cut [6, 7] from 30 to 66 (fun v6 v7 wx => ∃ k6 k7, v6 = .pointer (some ⟨k6, 0, none⟩) ∧ v7 = .pointer (some ⟨k7, 0, none⟩) ∧ Held wx k6 77 arr ∧ Held wx k7 77 brr ∧ Below wr.heap.size wr wx)
        case first =>
          have hdr := (Below.refl wr.heap.size wr).drew
          have HD := Lib.hid hdr
          replace h2 := Held.below h2 hdr
          replace h3 := Held.below h3 hdr
          replace r1 : wr.drew.rangeAt b1 (off1 + j * 18) arr.toList := r1
          replace r2 : wr.drew.rangeAt b2 (off2 + j * 18) brr.toList := r2
          replace hl1 : b1 < wr.drew.heap.size := hl1
          replace hl2 : b2 < wr.drew.heap.size := hl2
          clear hdr
          refine wp_region_held_drew (S := fun W => Below wr.drew.heap.size wr.drew W) (by kernel_rfl) (Below.refl _ _) (fun hS => ?_)
          generalize wr.drew = W1 at *
          show wpAnyH _ _ _ _ _ 14 #[false, false, false, false, false, false, false, false, false, false, false, false, false, false] _ _
          refine wpAnyH_begin (by kernel_rfl) (fun HNS => ?_)
          refine wpAnyH_takeS HNS (i := 0) (v := .pointer (some ⟨w.heap.size, 0, none⟩)) rfl (by kernel_rfl) (by kernel_rfl) (fun _ _ _ h => h) (Or.inl ⟨by kernel_rfl, fun W hW => ?_⟩) hS ?_
          · go_simp
          simp only [Act.put, List.getElem_toArray, List.getElem_cons_succ, List.getElem_cons_zero, List.setIfInBounds_toArray, List.set_cons_zero, List.set_cons_succ]
          refine wpAnyH_takeS HNS (i := 1) (v := .slice (some ⟨b1, off1, none⟩) n c) rfl (by kernel_rfl) (by kernel_rfl) (fun _ _ _ h => h) (Or.inl ⟨by kernel_rfl, fun W hW => ?_⟩) hS ?_
          · (have hz := Held.below h2 hW; have z0 := hz.cell 0; simp at z0; go_simp)
          simp only [Act.put, List.getElem_toArray, List.getElem_cons_succ, List.getElem_cons_zero, List.setIfInBounds_toArray, List.set_cons_zero, List.set_cons_succ]
          refine wpAnyH_takeS HNS (i := 2) (v := .int .i64 j) rfl (by kernel_rfl) (by kernel_rfl) (fun _ _ _ h => h) (Or.inl ⟨by kernel_rfl, fun W hW => ?_⟩) hS ?_
          · go_simp
          simp only [Act.put, List.getElem_toArray, List.getElem_cons_succ, List.getElem_cons_zero, List.setIfInBounds_toArray, List.set_cons_zero, List.set_cons_succ]
          refine wpAnyH_takeS HNS (i := 3) (v := .pointer (some ⟨b1, off1 + j * 18, none⟩)) rfl (by kernel_rfl) (by kernel_rfl) (fun _ _ _ h => h) (Or.inl ⟨by kernel_rfl, fun W hW => ?_⟩) hS ?_
          · go_simp
          simp only [Act.put, List.getElem_toArray, List.getElem_cons_succ, List.getElem_cons_zero, List.setIfInBounds_toArray, List.set_cons_zero, List.set_cons_succ]
          refine wpAnyH_takeS HNS (i := 4) (v := .agg arr) rfl (by kernel_rfl) (by kernel_rfl) (fun _ _ _ h => h) (yieldsIf_load_midA (by kernel_rfl) 77 _ rfl b1 (off1 + j * 18) (by rfl) arr _ (fun W hW => range_keep r1 (hW.block b1 hl1)) Tryz.underlying77 rfl (by rw [sz1.out]; kernel_rfl)) hS ?_
          simp only [Act.put, List.getElem_toArray, List.getElem_cons_succ, List.getElem_cons_zero, List.setIfInBounds_toArray, List.set_cons_zero, List.set_cons_succ]
          refine wpAnyH_takeS HNS (i := 5) (v := .pointer (some ⟨w.heap.size + 1, 0, none⟩)) rfl (by kernel_rfl) (by kernel_rfl) (fun _ _ _ h => h) (Or.inl ⟨by kernel_rfl, fun W hW => ?_⟩) hS ?_
          · go_simp
          simp only [Act.put, List.getElem_toArray, List.getElem_cons_succ, List.getElem_cons_zero, List.setIfInBounds_toArray, List.set_cons_zero, List.set_cons_succ]
          refine wpAnyH_takeS HNS (i := 6) (v := .slice (some ⟨b2, off2, none⟩) n c3) rfl (by kernel_rfl) (by kernel_rfl) (fun _ _ _ h => h) (Or.inl ⟨by kernel_rfl, fun W hW => ?_⟩) hS ?_
          · (have hz := Held.below h3 hW; have z0 := hz.cell 0; simp at z0; go_simp)
          simp only [Act.put, List.getElem_toArray, List.getElem_cons_succ, List.getElem_cons_zero, List.setIfInBounds_toArray, List.set_cons_zero, List.set_cons_succ]
          refine wpAnyH_takeS HNS (i := 7) (v := .int .i64 j) rfl (by kernel_rfl) (by kernel_rfl) (fun _ _ _ h => h) (Or.inl ⟨by kernel_rfl, fun W hW => ?_⟩) hS ?_
          · go_simp
          simp only [Act.put, List.getElem_toArray, List.getElem_cons_succ, List.getElem_cons_zero, List.setIfInBounds_toArray, List.set_cons_zero, List.set_cons_succ]
          refine wpAnyH_takeS HNS (i := 8) (v := .pointer (some ⟨b2, off2 + j * 18, none⟩)) rfl (by kernel_rfl) (by kernel_rfl) (fun _ _ _ h => h) (Or.inl ⟨by kernel_rfl, fun W hW => ?_⟩) hS ?_
          · go_simp
          simp only [Act.put, List.getElem_toArray, List.getElem_cons_succ, List.getElem_cons_zero, List.setIfInBounds_toArray, List.set_cons_zero, List.set_cons_succ]
          refine wpAnyH_takeS HNS (i := 9) (v := .agg brr) rfl (by kernel_rfl) (by kernel_rfl) (fun _ _ _ h => h) (yieldsIf_load_midA (by kernel_rfl) 77 _ rfl b2 (off2 + j * 18) (by rfl) brr _ (fun W hW => range_keep r2 (hW.block b2 hl2)) Tryz.underlying77 rfl (by rw [sz2.out]; kernel_rfl)) hS ?_
          simp only [Act.put, List.getElem_toArray, List.getElem_cons_succ, List.getElem_cons_zero, List.setIfInBounds_toArray, List.set_cons_zero, List.set_cons_succ]
          refine wpAnyH_ready (rs := [10, 11]) (by kernel_rfl) (by simp) ?_
          refine (AllReadyH.cons rfl (fun K hK => ?_) (AllReadyH.cons rfl (fun K hK => ?_) AllReadyH.nil))
          · rw [if_pos (by kernel_rfl)]
            refine wp_alloc_R 77 rfl cz0 (by kernel_rfl) ?_
            have hbA := ((Below.refl _ _).alloc (Nat.le_refl _) _ : Below W1.heap.size W1 (W1.alloc (.cells cz0 77)))
            have h6 := Held.new W1 77 cz0
            have lh6 := hS.size
            replace hS := Below.step hS hbA
            clear hbA
            generalize W1.alloc (.cells cz0 77) = Wd1 at *
            refine hK.out _ _ hS (fun _ => ?_)
            clear hK K
            (try simp only [Act.put, List.getElem_toArray, List.getElem_cons_succ, List.getElem_cons_zero, List.setIfInBounds_toArray, List.set_cons_zero, List.set_cons_succ])
            refine wpAnyH_ready (rs := [11]) (by kernel_rfl) (by simp) ?_
            refine (AllReadyH.cons rfl (fun K hK => ?_) AllReadyH.nil)
            · rw [if_pos (by kernel_rfl)]
              refine wp_alloc_R 77 rfl cz0 (by kernel_rfl) ?_
              have nh6h7 : W1.heap.size ≠ Wd1.heap.size := Nat.ne_of_lt (Held.lt h6)
              have hbA := ((Below.refl _ _).alloc (Nat.le_refl _) _ : Below Wd1.heap.size Wd1 (Wd1.alloc (.cells cz0 77)))
              replace h6 := Held.below h6 hbA
              have h7 := Held.new Wd1 77 cz0
              have lh7 := hS.size
              replace hS := Below.step hS hbA
              clear hbA
              generalize Wd1.alloc (.cells cz0 77) = Wd2 at *
              refine hK.out _ _ hS (fun _ => ?_)
              clear hK K
              (try simp only [Act.put, List.getElem_toArray, List.getElem_cons_succ, List.getElem_cons_zero, List.setIfInBounds_toArray, List.set_cons_zero, List.set_cons_succ])
              refine wpAnyH_ready (rs := [12]) (by kernel_rfl) (by simp) ?_
              refine (AllReadyH.cons rfl (fun K hK => ?_) AllReadyH.nil)
              · rw [if_pos (by kernel_rfl)]
                refine wp_store_row 77 _ _ rfl _ arr (by rfl) (by rfl) _ _ h6 (by rw [sz1.out]; kernel_rfl) (by rw [sz1.out]; rfl) on1.out ?_
                replace h7 := held_row h7 (Ne.symm nh6h7) arr
                replace hS := below_setRow hS lh6 arr
                replace h6 := held_rowSelf h6 arr
                generalize World.setRow _ _ arr = Wd3 at *
                refine hK.out _ _ hS (fun _ => ?_)
                clear hK K
                (try simp only [Act.put, List.getElem_toArray, List.getElem_cons_succ, List.getElem_cons_zero, List.setIfInBounds_toArray, List.set_cons_zero, List.set_cons_succ])
                refine wpAnyH_ready (rs := [13]) (by kernel_rfl) (by simp) ?_
                refine (AllReadyH.cons rfl (fun K hK => ?_) AllReadyH.nil)
                · rw [if_pos (by kernel_rfl)]
                  refine wp_store_row 77 _ _ rfl _ brr (by rfl) (by rfl) _ _ h7 (by rw [sz2.out]; kernel_rfl) (by rw [sz2.out]; rfl) on2.out ?_
                  replace h6 := held_row h6 nh6h7 brr
                  replace hS := below_setRow hS lh7 brr
                  replace h7 := held_rowSelf h7 brr
                  generalize World.setRow _ _ brr = Wd4 at *
                  refine hK.out _ _ hS (fun _ => ?_)
                  clear hK K
                  (try simp only [Act.put, List.getElem_toArray, List.getElem_cons_succ, List.getElem_cons_zero, List.setIfInBounds_toArray, List.set_cons_zero, List.set_cons_succ])
                  refine wpAnyH_done (by kernel_rfl) ?_ _
                  go_wp2_with fail
                  go_meet
                  case rel => exact ⟨_, _, rfl, rfl, h6, h7, Below.step HD.out hS⟩
          · rw [if_pos (by kernel_rfl)]
            refine wp_alloc_R 77 rfl cz0 (by kernel_rfl) ?_
            have hbA := ((Below.refl _ _).alloc (Nat.le_refl _) _ : Below W1.heap.size W1 (W1.alloc (.cells cz0 77)))
            have h7 := Held.new W1 77 cz0
            have lh7 := hS.size
            replace hS := Below.step hS hbA
            clear hbA
            generalize W1.alloc (.cells cz0 77) = Wd5 at *
            refine hK.out _ _ hS (fun _ => ?_)
            clear hK K
            (try simp only [Act.put, List.getElem_toArray, List.getElem_cons_succ, List.getElem_cons_zero, List.setIfInBounds_toArray, List.set_cons_zero, List.set_cons_succ])
            refine wpAnyH_ready (rs := [10]) (by kernel_rfl) (by simp) ?_
            refine (AllReadyH.cons rfl (fun K hK => ?_) AllReadyH.nil)
            · rw [if_pos (by kernel_rfl)]
              refine wp_alloc_R 77 rfl cz0 (by kernel_rfl) ?_
              have nh7h6 : W1.heap.size ≠ Wd5.heap.size := Nat.ne_of_lt (Held.lt h7)
              have hbA := ((Below.refl _ _).alloc (Nat.le_refl _) _ : Below Wd5.heap.size Wd5 (Wd5.alloc (.cells cz0 77)))
              replace h7 := Held.below h7 hbA
              have h6 := Held.new Wd5 77 cz0
              have lh6 := hS.size
              replace hS := Below.step hS hbA
              clear hbA
              generalize Wd5.alloc (.cells cz0 77) = Wd6 at *
              refine hK.out _ _ hS (fun _ => ?_)
              clear hK K
              (try simp only [Act.put, List.getElem_toArray, List.getElem_cons_succ, List.getElem_cons_zero, List.setIfInBounds_toArray, List.set_cons_zero, List.set_cons_succ])
              refine wpAnyH_ready (rs := [12]) (by kernel_rfl) (by simp) ?_
              refine (AllReadyH.cons rfl (fun K hK => ?_) AllReadyH.nil)
              · rw [if_pos (by kernel_rfl)]
                refine wp_store_row 77 _ _ rfl _ arr (by rfl) (by rfl) _ _ h6 (by rw [sz1.out]; kernel_rfl) (by rw [sz1.out]; rfl) on1.out ?_
                replace h7 := held_row h7 nh7h6 arr
                replace hS := below_setRow hS lh6 arr
                replace h6 := held_rowSelf h6 arr
                generalize World.setRow _ _ arr = Wd7 at *
                refine hK.out _ _ hS (fun _ => ?_)
                clear hK K
                (try simp only [Act.put, List.getElem_toArray, List.getElem_cons_succ, List.getElem_cons_zero, List.setIfInBounds_toArray, List.set_cons_zero, List.set_cons_succ])
                refine wpAnyH_ready (rs := [13]) (by kernel_rfl) (by simp) ?_
                refine (AllReadyH.cons rfl (fun K hK => ?_) AllReadyH.nil)
                · rw [if_pos (by kernel_rfl)]
                  refine wp_store_row 77 _ _ rfl _ brr (by rfl) (by rfl) _ _ h7 (by rw [sz2.out]; kernel_rfl) (by rw [sz2.out]; rfl) on2.out ?_
                  replace h6 := held_row h6 (Ne.symm nh7h6) brr
                  replace hS := below_setRow hS lh7 brr
                  replace h7 := held_rowSelf h7 brr
                  generalize World.setRow _ _ brr = Wd8 at *
                  refine hK.out _ _ hS (fun _ => ?_)
                  clear hK K
                  (try simp only [Act.put, List.getElem_toArray, List.getElem_cons_succ, List.getElem_cons_zero, List.setIfInBounds_toArray, List.set_cons_zero, List.set_cons_succ])
                  refine wpAnyH_done (by kernel_rfl) ?_ _
                  go_wp2_with fail
                  go_meet
                  case rel => exact ⟨_, _, rfl, rfl, h6, h7, Below.step HD.out hS⟩
        case rest =>
          obtain ⟨k6, k7, rfl, rfl, h6, h7, hb9⟩ := hcut
          have x0 := (h6.cell 0).trans a1.gen
          have x1 := (h6.cell 1).trans a1.used
          have y0 := (h7.cell 0).trans a2.gen
          have y1 := (h7.cell 1).trans a2.used
          obtain ⟨cs, s1, -, hf, hr⟩ := a1.frm
          obtain ⟨ds, t1, -, hf', hr'⟩ := a2.frm
          have HR := Lib.hid (hr _ _ h6)
          have HR' := Lib.hid (hr' _ _ h7)
          have SF := Lib.hid (rsamef_z _ (hf.below hb9 FF.out.2.2.1) (hf'.below hb9 FF.out.2.2.2) FF.out.1 FF.out.2.1 (Nat.le_trans FF.out.2.2.1 hb9.size) (Nat.le_trans FF.out.2.2.2 hb9.size))
          have S1 := Lib.hid s1
          have T9 := Lib.hid t1
          have HCQ := Lib.hid (cel_eq x y)
          have HBW := Lib.hid (Below.step HW.out hb9)
          obtain ⟨gx, ux, fx⟩ := x
          obtain ⟨gy, uy, fy⟩ := y
          obtain ⟨RC, hRC⟩ : ∃ r, decide (Cel.mk gx ux fx = Cel.mk gy uy fy) = r := ⟨_, rfl⟩
          have HRC := Lib.hid hRC
          rw [hRC] at HCQ
          simp only at HCQ SF x0 x1 y0 y1
          obtain ⟨d1, hd1⟩ : ∃ e, (gx == gy) = e := ⟨_, rfl⟩
          obtain ⟨d2, hd2⟩ : ∃ e, (ux == uy) = e := ⟨_, rfl⟩
          generalize decide (fx = fy) = d3 at *
          rw [hd1, hd2] at HCQ
          have nd1 : (gx != gy) = !d1 := by rw [← hd1]; rfl
          clear hd1 h2 h3 r1 r2 a1 a2 s1 t1 hf hf' hr hr' hRC hb9
          cases d1
          case false =>
            simp only [Bool.not_false] at nd1
            have hno : RC = false := by rw [HCQ.out]; rfl
            subst hno
            obtain rfl : e3 = false := NE9.out (of_decide_eq_false HRC.out)
            go_wp2_with (first
            | (guard_target = wpList _ _ _ (Oper.mk (some 61) _ _ _ _ _ :: _) _ _; refine wpList_done rfl ?_; refine wpList_load_midA rfl 60 _ rfl k6 2 rfl cs _ HR.out Tryz.underlying60 rfl (by rw [S1.out]; kernel_rfl) ?_)
            | (guard_target = wpList _ _ _ (Oper.mk (some 63) _ _ _ _ _ :: _) _ _; refine wpList_done rfl ?_; refine wpList_load_midA rfl 60 _ rfl k7 2 rfl ds _ HR'.out Tryz.underlying60 rfl (by rw [T9.out]; kernel_rfl) ?_)
            | (go_at_call 24; (with_reducible refine SF.out.mono ?_); rintro _ u9 ⟨rfl, hb9⟩))
            go_ret
            rw [HE.out]
            exact ⟨ret_bool (by simp), Below.step HB0.out (Below.step HB8.out HBW.out)⟩
          case true =>
          simp only [Bool.not_true] at nd1
          cases ux <;> cases uy <;> simp at hd2 <;> subst hd2
          case false.true | true.false =>
            have hno : RC = false := by rw [HCQ.out]; rfl
            subst hno
            obtain rfl : e3 = false := NE9.out (of_decide_eq_false HRC.out)
            go_wp2_with (first
            | (guard_target = wpList _ _ _ (Oper.mk (some 61) _ _ _ _ _ :: _) _ _; refine wpList_done rfl ?_; refine wpList_load_midA rfl 60 _ rfl k6 2 rfl cs _ HR.out Tryz.underlying60 rfl (by rw [S1.out]; kernel_rfl) ?_)
            | (guard_target = wpList _ _ _ (Oper.mk (some 63) _ _ _ _ _ :: _) _ _; refine wpList_done rfl ?_; refine wpList_load_midA rfl 60 _ rfl k7 2 rfl ds _ HR'.out Tryz.underlying60 rfl (by rw [T9.out]; kernel_rfl) ?_)
            | (go_at_call 24; (with_reducible refine SF.out.mono ?_); rintro _ u9 ⟨rfl, hb9⟩))
            go_ret
            rw [HE.out]
            exact ⟨ret_bool (by simp), Below.step HB0.out (Below.step HB8.out HBW.out)⟩
          all_goals
            cases d3
            case false =>
              have hno : RC = false := by rw [HCQ.out]; rfl
              subst hno
              obtain rfl : e3 = false := NE9.out (of_decide_eq_false HRC.out)
              go_wp2_with (first
            | (guard_target = wpList _ _ _ (Oper.mk (some 61) _ _ _ _ _ :: _) _ _; refine wpList_done rfl ?_; refine wpList_load_midA rfl 60 _ rfl k6 2 rfl cs _ HR.out Tryz.underlying60 rfl (by rw [S1.out]; kernel_rfl) ?_)
            | (guard_target = wpList _ _ _ (Oper.mk (some 63) _ _ _ _ _ :: _) _ _; refine wpList_done rfl ?_; refine wpList_load_midA rfl 60 _ rfl k7 2 rfl ds _ HR'.out Tryz.underlying60 rfl (by rw [T9.out]; kernel_rfl) ?_)
            | (go_at_call 24; (with_reducible refine SF.out.mono ?_); rintro _ u9 ⟨rfl, hb9⟩))
              go_ret
              rw [HE.out]
              exact ⟨ret_bool (by simp), Below.step HB0.out (Below.step HB8.out (Below.step HBW.out hb9))⟩
            case true =>
              have hno : RC = true := by rw [HCQ.out]; rfl
              subst hno
              have HXY := Lib.hid (of_decide_eq_true HRC.out)
              go_wp2_with (first
            | (guard_target = wpList _ _ _ (Oper.mk (some 61) _ _ _ _ _ :: _) _ _; refine wpList_done rfl ?_; refine wpList_load_midA rfl 60 _ rfl k6 2 rfl cs _ HR.out Tryz.underlying60 rfl (by rw [S1.out]; kernel_rfl) ?_)
            | (guard_target = wpList _ _ _ (Oper.mk (some 63) _ _ _ _ _ :: _) _ _; refine wpList_done rfl ?_; refine wpList_load_midA rfl 60 _ rfl k7 2 rfl ds _ HR'.out Tryz.underlying60 rfl (by rw [T9.out]; kernel_rfl) ?_)
            | (go_at_call 24; (with_reducible refine SF.out.mono ?_); rintro _ u9 ⟨rfl, hb9⟩))
              go_roundw
              case rel => exact ⟨j + 1, by go_num, by omega, by rw [T1.out, T2.out, HTK.out, HXY.out], Below.step HBW.out hb9⟩
              case measure => simp [intOf]; omega
      · obtain rfl : j = n := by omega
        obtain rfl : e3 = true := HCE.out (by
          have := HTK.out
          rwa [List.take_of_length_le (by rw [HN.out]; exact Nat.le_refl _), List.take_of_length_le (by rw [HN'.out]; exact Nat.le_refl _)] at this)
        clear hw hlt h2 h3
        go_wp2_with fail
        go_ret
        rw [HE.out]
        exact ⟨ret_bool (by simp), Below.step HB0.out (Below.step HB8.out HW.out)⟩
end Go.Proofs.YtjibkgildfjjoaaGreatDoor

/- Layer 12: pens, frames, refs in variables' blocks; the calls as the laws meet them. -/
namespace Go.Proofs.YtjibkgildfjjoaaGreatDoor
set_option linter.unusedVariables false
set_option linter.unusedSimpArgs false
open Go.RowKit Go.ChangeShapes Go.WideShapes Go.ChangeAt Go.Sort

/-- A variable that holds a pen of one's own; one that can be read; a frame's. -/
structure PV (W : World) (g : Nat) (A : Option Addr) (c : Nat) (A2 : Option Addr) (c2 : Nat) (P : Zp) : Prop where
  x : Held W g 32 (pc A P.cells.length c A2 P.free.length c2 P.most)
  o : OwnZ W 0 A c A2 c2 P
structure PR (W : World) (g : Nat) (A : Option Addr) (c : Nat) (A2 : Option Addr) (c2 : Nat) (P : Zp) : Prop where
  x : Held W g 32 (pc A P.cells.length c A2 P.free.length c2 P.most)
  p : PAtZ W W.heap.size A A2 P
structure FV (W : World) (g : Nat) (fs : Array Value) (F : Frm) : Prop where
  x : Held W g 60 fs
  s : fs.size = 16
  n : fs.all (·.oneCell') = true
  p : FrmAt W W.heap.size (.agg fs) F
theorem PV.below {W W' : World} {g c c2 : Nat} {A A2 : Option Addr} {P : Zp} (h : PV W g A c A2 c2 P) (hb : Below W.heap.size W W') : PV W' g A c A2 c2 P := ⟨h.x.below hb, h.o.below hb⟩
theorem PR.below {W W' : World} {g c c2 : Nat} {A A2 : Option Addr} {P : Zp} (h : PR W g A c A2 c2 P) (hb : Below W.heap.size W W') : PR W' g A c A2 c2 P := ⟨h.x.below hb, h.p.later hb⟩
theorem FV.below {W W' : World} {g : Nat} {fs : Array Value} {F : Frm} (h : FV W g fs F) (hb : Below W.heap.size W W') : FV W' g fs F := ⟨h.x.below hb, h.s, h.n, (h.p.below hb (Nat.le_refl _)).more hb.size⟩
theorem PV.p {W : World} {g c c2 : Nat} {A A2 : Option Addr} {P : Zp} (h : PV W g A c A2 c2 P) : PAtZ W W.heap.size A A2 P := h.o.at
theorem PV.r {W : World} {g c c2 : Nat} {A A2 : Option Addr} {P : Zp} (h : PV W g A c A2 c2 P) : PR W g A c A2 c2 P := ⟨h.x, h.o.at⟩
theorem new_p1 {W u : World} {D c c2 : Nat} {A A2 : Option Addr} {P : Zp} (hb : Below W.heap.size W u) (ho : OwnZ u D A c A2 c2 P) :
    PV ((u.alloc (.cells pz0 32)).setRow u.heap.size (pc A P.cells.length c A2 P.free.length c2 P.most)) u.heap.size A c A2 c2 P ∧ Below W.heap.size W ((u.alloc (.cells pz0 32)).setRow u.heap.size (pc A P.cells.length c A2 P.free.length c2 P.most)) := by
  have hb2 : Below u.heap.size u ((u.alloc (.cells pz0 32)).setRow u.heap.size (pc A P.cells.length c A2 P.free.length c2 P.most)) := below_setRow ((Below.refl _ _).alloc (Nat.le_refl _) _) (Nat.le_refl _) _
  exact ⟨⟨held_rowSelf (Held.new u 32 pz0) _, (ho.mono (Nat.zero_le _)).below hb2⟩, Below.step hb hb2⟩
theorem new_r1 {W u : World} {c c2 : Nat} {A A2 : Option Addr} {P : Zp} (hb : Below W.heap.size W u) (ho : PAtZ u u.heap.size A A2 P) :
    PR ((u.alloc (.cells pz0 32)).setRow u.heap.size (pc A P.cells.length c A2 P.free.length c2 P.most)) u.heap.size A c A2 c2 P ∧ Below W.heap.size W ((u.alloc (.cells pz0 32)).setRow u.heap.size (pc A P.cells.length c A2 P.free.length c2 P.most)) := by
  have hb2 : Below u.heap.size u ((u.alloc (.cells pz0 32)).setRow u.heap.size (pc A P.cells.length c A2 P.free.length c2 P.most)) := below_setRow ((Below.refl _ _).alloc (Nat.le_refl _) _) (Nat.le_refl _) _
  exact ⟨⟨held_rowSelf (Held.new u 32 pz0) _, ho.later hb2⟩, Below.step hb hb2⟩
theorem new_f1 {W u : World} {fs : Array Value} {F : Frm} (hb : Below W.heap.size W u) (hs : fs.size = 16) (hn : fs.all (·.oneCell') = true) (hf : FrmAt u u.heap.size (.agg fs) F) :
    FV ((u.alloc (.cells fzc 60)).setRow u.heap.size fs) u.heap.size fs F ∧ Below W.heap.size W ((u.alloc (.cells fzc 60)).setRow u.heap.size fs) := by
  have hb2 : Below u.heap.size u ((u.alloc (.cells fzc 60)).setRow u.heap.size fs) := below_setRow ((Below.refl _ _).alloc (Nat.le_refl _) _) (Nat.le_refl _) _
  exact ⟨⟨held_rowSelf (Held.new u 60 fzc) _, hs, hn, (hf.below hb2 (Nat.le_refl _)).more hb2.size⟩, Below.step hb hb2⟩
theorem new_c {m : Int} {P : Zp} {R : Bool} (hR : newZ m = (P, R)) (W : World) :
    Calls Tryz.prog 31 #[.int .i64 m] W fun e w' => e = .returned (.tuple #[pv none P.cells.length 0 none P.free.length 0 P.most, .bool R]) ∧ OwnZ w' 0 none 0 none 0 P ∧ Below W.heap.size W w' := by
  refine (newZ_z m W).mono fun e w' ⟨he, hb⟩ => ?_
  have hc : P.cells = [] ∧ P.free = [] := by
    unfold newZ at hR
    split at hR
    · simp only [Prod.mk.injEq] at hR
      rw [← hR.1]
      exact ⟨rfl, rfl⟩
    · simp only [Prod.mk.injEq] at hR
      rw [← hR.1]
      exact ⟨rfl, rfl⟩
  rw [hR] at he
  obtain ⟨pcs, pfr, pm⟩ := P
  simp only at hc
  obtain ⟨rfl, rfl⟩ := hc
  exact ⟨he, ⟨OwnCe.nil _ _, OwnI.nil _ _⟩, hb⟩
theorem lay_c {P S : Zp} {F : Frm} {r : V} {x : Int} (hR : layZ P F = (S, r, x)) (hl : LenZ P) (hlf : FrmLen F) (c c2 : Nat) (W : World) {A A2 : Option Addr} {fs : Array Value} (hp : PAtZ W W.heap.size A A2 P) (hs : fs.size = 16) (hf : FrmAt W W.heap.size (.agg fs) F) :
    Calls Tryz.prog 32 #[pv A P.cells.length c A2 P.free.length c2 P.most, .agg fs] W fun e w' => ∃ A' c' A2' c2', e = .returned (.tuple #[pv A' S.cells.length c' A2' S.free.length c2' S.most, gv r.1 r.2, .int .i64 x]) ∧ OwnZ w' W.heap.size A' c' A2' c2' S ∧ Below W.heap.size W w' := by
  have h := lay_z c c2 W rfl rfl hp hl (Nat.le_refl _) hs hf hlf (Nat.le_refl _)
  rw [hR] at h
  exact h
theorem rsamef_c {F G : Frm} {R : Bool} (hR : decide (F = G) = R) (hl : FrmLen F) (hl' : FrmLen G) (W : World) {fs gs : Array Value} (hf : FrmAt W W.heap.size (.agg fs) F) (hg : FrmAt W W.heap.size (.agg gs) G) :
    Calls Tryz.prog 24 #[.agg fs, .agg gs] W fun e w' => e = .returned (.bool R) ∧ Below W.heap.size W w' := by
  subst hR
  exact rsamef_z W hf hg hl hl' (Nat.le_refl _) (Nat.le_refl _)
end Go.Proofs.YtjibkgildfjjoaaGreatDoor

/- Layer 12: the document's Lay, where it refuses. -/
namespace Go.Proofs.YtjibkgildfjjoaaGreatDoor
set_option linter.unusedVariables false
set_option linter.unusedSimpArgs false
open Go.RowKit Go.ChangeShapes Go.WideShapes Go.ChangeAt Go.Sort

end Go.Proofs.YtjibkgildfjjoaaGreatDoor

/- Layer 12: lists appended in drawn regions. -/
namespace Go.Proofs.YtjibkgildfjjoaaGreatDoor
set_option linter.unusedVariables false
set_option linter.unusedSimpArgs false
open Go.RowKit Go.ChangeShapes Go.WideShapes Go.ChangeAt Go.Sort

theorem held_kt {w w' : World} {k : Nat} {t t' : TypeId} {cs : Array Value} (h : Held w k t cs) (hk : KTy w w' t') (hne : t ≠ t') : Held w' k t cs := (hk k t cs (0, 0) h hne).trans h
/-- Cells appended to what was made. -/
def RowC (w : World) (D C : Nat) (A : Option Addr) (n c : Nat) (l : List Cel) : Prop := ∃ ys, w.ownsRow D 77 18 (.slice A n c) n ys ∧ CelsOf (fun _ => FrmAt w C) ys l
theorem RowC.below {w w' : World} {D C n c : Nat} {A : Option Addr} {l : List Cel} (h : RowC w D C A n c l) (hb : Below w.heap.size w w') (hC : C ≤ w.heap.size) : RowC w' D C A n c l := by
  obtain ⟨ys, h1, h2⟩ := h
  exact ⟨ys, r_later h1 hb, h2.mono fun _ _ _ k => k.below hb hC⟩
theorem RowC.turn {w w' : World} {D C n c : Nat} {A : Option Addr} {l : List Cel} {t : TypeId} (h : RowC w D C A n c l) (hk : KTy w w' t) (hne : 77 ≠ t) (hb : Below D w w') (hC : C ≤ D) : RowC w' D C A n c l := by
  obtain ⟨ys, h1, h2⟩ := h
  exact ⟨ys, row_kt h1 hk hne, h2.mono fun _ _ _ k => k.below hb hC⟩
theorem RowC.at {w : World} {D C n c : Nat} {A : Option Addr} {l : List Cel} (h : RowC w D C A n c l) (hn : l.length = n) (hC : C ≤ w.heap.size) : CAt w w.heap.size A l := by
  subst hn
  obtain ⟨ys, h1, h2⟩ := h
  obtain ⟨A', c', e, k⟩ := row_lies h1
  simp only [Value.slice.injEq] at e
  obtain ⟨rfl, _, rfl⟩ := e
  intro h0
  obtain ⟨b, e2, _, hlt, hr⟩ := k h0
  exact ⟨b, 0, ys, e2, hlt, hr, h2.mono fun _ _ _ k => k.more hC⟩
end Go.Proofs.YtjibkgildfjjoaaGreatDoor

/- Layer 12: the document's Lay, where a free cell is used. -/
namespace Go.Proofs.YtjibkgildfjjoaaGreatDoor
set_option linter.unusedVariables false
set_option linter.unusedSimpArgs false
open Go.RowKit Go.ChangeShapes Go.WideShapes Go.ChangeAt Go.Sort

/-- Two blocks alone are turned. -/
def Two (a b : Nat) (w w' : World) : Prop := ∀ k, k ≠ a → k ≠ b → w'.heap[k]? = w.heap[k]?
theorem Two.refl (a b : Nat) (w : World) : Two a b w w := fun _ _ _ => rfl
theorem Two.set1 {a b : Nat} {w w' : World} (h : Two a b w w') (cs : Array Value) : Two a b w (w'.setRow a cs) := fun k h1 h2 => (row_far0 _ _ _ k h1).trans (h k h1 h2)
theorem Two.set2 {a b : Nat} {w w' : World} (h : Two a b w w') (cs : Array Value) : Two a b w (w'.setRow b cs) := fun k h1 h2 => (row_far0 _ _ _ k h2).trans (h k h1 h2)
/-- The last free places are cut off. -/
theorem RowZ.cut {F : Value → Frm → Prop} {w : World} {D c c2 m L : Nat} {A A2 : Option Addr} {p : Zp} (h : RowZ F w D A c A2 c2 p) (hm : p.free.length = m) (hL : L ≤ m) : RowZ F w D A c A2 c2 ⟨p.cells, p.free.take L, p.most⟩ := by
  refine ⟨h.cells, ?_⟩
  have hlen : (p.free.take L).length = L := by rw [List.length_take]; omega
  have h9 := h.free
  show OwnI w D (.slice A2 (p.free.take L).length c2) (p.free.take L)
  rw [hlen]
  exact h9.cut (by omega)
end Go.Proofs.YtjibkgildfjjoaaGreatDoor

/- Layer 12: the document's Lay, where a new cell is laid. -/
namespace Go.Proofs.YtjibkgildfjjoaaGreatDoor
set_option linter.unusedVariables false
set_option linter.unusedSimpArgs false
open Go.RowKit Go.ChangeShapes Go.WideShapes Go.ChangeAt Go.Sort

end Go.Proofs.YtjibkgildfjjoaaGreatDoor

/- Layer 12: the document's Drop. -/
namespace Go.Proofs.YtjibkgildfjjoaaGreatDoor
set_option linter.unusedVariables false
set_option linter.unusedSimpArgs false
open Go.RowKit Go.ChangeShapes Go.WideShapes Go.ChangeAt Go.Sort

end Go.Proofs.YtjibkgildfjjoaaGreatDoor

/- Layer 12: the document's calls, as the law PenTells meets them. -/
namespace Go.Proofs.YtjibkgildfjjoaaGreatDoor
set_option linter.unusedVariables false
set_option linter.unusedSimpArgs false
open Go.RowKit Go.ChangeShapes Go.WideShapes Go.ChangeAt Go.Sort

theorem rget_c {P : Zp} {F : Frm} {r : V} {x : Bool} (hR : getZ P r = (F, x)) (hl : LenZ P) (c c2 : Nat) (W : World) {A A2 : Option Addr} (hp : PAtZ W W.heap.size A A2 P) :
    Calls Tryz.prog 23 #[pv A P.cells.length c A2 P.free.length c2 P.most, gv r.1 r.2] W fun e w' => ∃ ds : Array Value, e = .returned (.tuple #[.agg ds, .bool x]) ∧ ds.size = 16 ∧ ds.all (·.oneCell') = true ∧ FrmAt w' w'.heap.size (.agg ds) F ∧ Below W.heap.size W w' := by
  have h := rget_z c c2 r W rfl rfl hp hl (Nat.le_refl _)
  rw [hR] at h
  exact h
theorem rnew_c {m : Int} {P : Zp} {R : Bool} (hR : newZ m = (P, R)) (W : World) :
    Calls Tryz.prog 34 #[.int .i64 m] W fun e w' => e = .returned (.tuple #[pv none P.cells.length 0 none P.free.length 0 P.most, .bool R]) ∧ PAtZ w' w'.heap.size none none P ∧ Below W.heap.size W w' := by
  refine (rnew_z m W).mono fun e w' ⟨he, hb⟩ => ?_
  have hc : P.cells = [] ∧ P.free = [] := by
    unfold newZ at hR
    split at hR
    · simp only [Prod.mk.injEq] at hR
      rw [← hR.1]
      exact ⟨rfl, rfl⟩
    · simp only [Prod.mk.injEq] at hR
      rw [← hR.1]
      exact ⟨rfl, rfl⟩
  rw [hR] at he
  obtain ⟨pcs, pfr, pm⟩ := P
  simp only at hc
  obtain ⟨rfl, rfl⟩ := hc
  exact ⟨he, ⟨CAt.nil _ _ _, IAt.nil _ _ _⟩, hb⟩
theorem rrefsp_c {P : Zp} {l : List V} (hR : refsZ P = l) (hl : LenZ P) (c c2 : Nat) (W : World) {A A2 : Option Addr} (hp : PAtZ W W.heap.size A A2 P) :
    Calls Tryz.prog 25 #[pv A P.cells.length c A2 P.free.length c2 P.most] W fun e w' => ∃ A' c', e = .returned (.slice A' l.length c') ∧ OwnR w' W.heap.size (.slice A' l.length c') l ∧ Below W.heap.size W w' := by
  subst hR
  exact rrefs_z c c2 W rfl rfl hp hl (Nat.le_refl _)
end Go.Proofs.YtjibkgildfjjoaaGreatDoor

/- Layer 12: the document's Lay and both New, as the law PenTells meets them. -/
namespace Go.Proofs.YtjibkgildfjjoaaGreatDoor
set_option linter.unusedVariables false
set_option linter.unusedSimpArgs false
open Go.RowKit Go.ChangeShapes Go.WideShapes Go.ChangeAt Go.Sort

theorem rnew_e {m : Int} {P : Zp} {R : Bool} (hR : newZ m = (P, R)) (W : World) :
    Calls Tryz.prog 34 #[.int .i64 m] W fun e w' => ∃ A' c' A2' c2', e = .returned (.tuple #[pv A' P.cells.length c' A2' P.free.length c2' P.most, .bool R]) ∧ PAtZ w' w'.heap.size A' A2' P ∧ Below W.heap.size W w' :=
  (rnew_c hR W).mono fun _ _ ⟨a, b, c⟩ => ⟨none, 0, none, 0, a, b, c⟩
end Go.Proofs.YtjibkgildfjjoaaGreatDoor

/- Layer 12: the document's Lay into a pen without cells: the cell holds just what was given. -/
namespace Go.Proofs.YtjibkgildfjjoaaGreatDoor
set_option linter.unusedVariables false
set_option linter.unusedSimpArgs false
open Go.RowKit Go.ChangeShapes Go.WideShapes Go.ChangeAt Go.Sort

theorem rowZ_any {F G : Value → Frm → Prop} {w : World} {D c c2 : Nat} {A A2 : Option Addr} {p : Zp} (h : RowZ F w D A c A2 c2 p) (h0 : p.cells = []) : RowZ G w D A c A2 c2 p := by
  obtain ⟨xs, k1, k2⟩ := h.cells
  exact ⟨⟨xs, k1, k2.1, fun j hj => absurd hj (by rw [h0]; simp)⟩, h.free⟩
/-- What it tells. -/
def LayFi (w : World) (R : Zp × V × Int) (fs : Array Value) (f : Frm) (e : Ending) (w' : World) : Prop := ∃ A c A2 c2, e = .returned (.tuple #[pv A R.1.cells.length c A2 R.1.free.length c2 R.1.most, gv R.2.1.1 R.2.1.2, .int .i64 R.2.2]) ∧ RowZ (fun v F => v = .agg fs ∧ F = f) w' w.heap.size A c A2 c2 R.1 ∧ Below w.heap.size w w'
set_option maxHeartbeats 8000000 in
set_option maxRecDepth 100000 in
theorem rlay_first {A A2 : Option Addr} {p : Zp} {B BF n m : Nat} {fs : Array Value} {f : Frm} (c c2 : Nat) (w : World) (hn : p.cells.length = n) (hm : p.free.length = m) (h : PAtZ w B A A2 p) (hl : LenZ p) (hB : B ≤ w.heap.size) (hf : FrmAt w BF (.agg fs) f) (hBF : BF ≤ w.heap.size) (hok : okZ p = true) (hc0 : p.cells = []) (hf0 : p.free = []) (hful : ¬ (p.cells.length : Int) = p.most) :
    Calls Tryz.prog 35 #[pv A n c A2 m c2 p.most, .agg fs] w (LayFi w (layZ p f) fs f) := by
  obtain ⟨Ax1, cx1, Ax2, cx2, Ax3, cx3, ef, hv1, hv2, hv3⟩ := hf
  have hf : FrmAt w BF (.agg fs) f := ⟨Ax1, cx1, Ax2, cx2, Ax3, cx3, ef, hv1, hv2, hv3⟩
  obtain rfl : fs = (fcA f (.slice Ax1 f.stk.length cx1) (.slice Ax2 f.loc.length cx2) (.slice Ax3 f.slt.length cx3)) := by simpa [fv] using ef
  clear ef hv1 hv2 hv3
  obtain rfl : m = 0 := by rw [← hm, hf0]; rfl
  have hS : layZ p f = (⟨p.cells ++ [⟨0, true, f⟩], [], p.most⟩, ((n : Int), 0), 0) := by
    unfold layZ
    rw [if_neg (by rw [hok]; decide), if_pos hf0, if_neg hful, hn]
  rw [hS]
  have hroom : (n : Int) < p.most := by
    have h9 := ((okZ_iff p).1 hok).top
    have := h9.2.2
    rw [hn] at hful this
    omega
  have HFZ := Lib.hid hf0
  have hmost : p.most ≤ 1024 := ((okZ_iff p).1 hok).top.2.1
  clear hS hf0 hful
  have hbw : Below w.heap.size w ((((w.alloc (.cells (pc A n c A2 0 c2 p.most) 32)).alloc (.cells (fcA f (.slice Ax1 f.stk.length cx1) (.slice Ax2 f.loc.length cx2) (.slice Ax3 f.slt.length cx3)) 60)).alloc (.cells pz0 32)).alloc (.cells (refc 0 0) 36)) := below4 w _ _ _ _
  have k2 : Held ((((w.alloc (.cells (pc A n c A2 0 c2 p.most) 32)).alloc (.cells (fcA f (.slice Ax1 f.stk.length cx1) (.slice Ax2 f.loc.length cx2) (.slice Ax3 f.slt.length cx3)) 60)).alloc (.cells pz0 32)).alloc (.cells (refc 0 0) 36)) w.heap.size 32 (pc A n c A2 0 c2 p.most) := (((Held.new w 32 (pc A n c A2 0 c2 p.most)).alloc _).alloc _).alloc _
  have k3 : Held ((((w.alloc (.cells (pc A n c A2 0 c2 p.most) 32)).alloc (.cells (fcA f (.slice Ax1 f.stk.length cx1) (.slice Ax2 f.loc.length cx2) (.slice Ax3 f.slt.length cx3)) 60)).alloc (.cells pz0 32)).alloc (.cells (refc 0 0) 36)) (w.heap.size + 1) 60 (fcA f (.slice Ax1 f.stk.length cx1) (.slice Ax2 f.loc.length cx2) (.slice Ax3 f.slt.length cx3)) := ((Held.new1 w (.cells (pc A n c A2 0 c2 p.most) 32) 60 (fcA f (.slice Ax1 f.stk.length cx1) (.slice Ax2 f.loc.length cx2) (.slice Ax3 f.slt.length cx3))).alloc _).alloc _
  have k4 : Held ((((w.alloc (.cells (pc A n c A2 0 c2 p.most) 32)).alloc (.cells (fcA f (.slice Ax1 f.stk.length cx1) (.slice Ax2 f.loc.length cx2) (.slice Ax3 f.slt.length cx3)) 60)).alloc (.cells pz0 32)).alloc (.cells (refc 0 0) 36)) (w.heap.size + 1 + 1) 32 pz0 := (Held.new2 w (.cells (pc A n c A2 0 c2 p.most) 32) (.cells (fcA f (.slice Ax1 f.stk.length cx1) (.slice Ax2 f.loc.length cx2) (.slice Ax3 f.slt.length cx3)) 60) 32 pz0).alloc _
  have k5 : Held ((((w.alloc (.cells (pc A n c A2 0 c2 p.most) 32)).alloc (.cells (fcA f (.slice Ax1 f.stk.length cx1) (.slice Ax2 f.loc.length cx2) (.slice Ax3 f.slt.length cx3)) 60)).alloc (.cells pz0 32)).alloc (.cells (refc 0 0) 36)) (w.heap.size + 1 + 1 + 1) 36 (refc 0 0) := by
    have := Held.new2 (w.alloc (.cells (pc A n c A2 0 c2 p.most) 32)) (.cells (fcA f (.slice Ax1 f.stk.length cx1) (.slice Ax2 f.loc.length cx2) (.slice Ax3 f.slt.length cx3)) 60) (.cells pz0 32) 36 (refc 0 0)
    simpa using this
  have HN := Lib.hid hn
  have HM := Lib.hid hm
  have HL := Lib.hid hl
  have HP := Lib.hid (And.intro h hB)
  have HF := Lib.hid (And.intro hf hBF)
  have hn1 : n ≤ 3000 := by have := hl.cells; omega
  have hm1 : 0 ≤ 100000 := by have := hl.free; omega
  have MC : ∀ W, Below w.heap.size w W → Calls Tryz.prog 51 #[pv A n c A2 0 c2 p.most] W fun e w' => e = .returned (.bool (okZ p)) ∧ Below W.heap.size W w' := fun W hb => rmay_z c c2 W HN.out HM.out (HP.out.1.below hb HP.out.2) (by omega) hm1 (Nat.le_trans HP.out.2 hb.size)
  rw [hok] at MC
  have HMC := Lib.hid MC
  clear MC h hl hB hn hm hok hf hBF
  go_enter Tryz.func35, Tryz.ntmps35
  go_upto_region 1 with (guard_target = wpList _ _ _ (Oper.mk (some 3) _ _ _ _ none :: _) _ _; refine wpList_box_arr rfl 60 _ rfl (fcA f (.slice Ax1 f.stk.length cx1) (.slice Ax2 f.loc.length cx2) (.slice Ax3 f.slt.length cx3)) rfl ?_)
  generalize ((((w.alloc (.cells (pc A n c A2 0 c2 p.most) 32)).alloc (.cells (fcA f (.slice Ax1 f.stk.length cx1) (.slice Ax2 f.loc.length cx2) (.slice Ax3 f.slt.length cx3)) 60)).alloc (.cells pz0 32)).alloc (.cells (refc 0 0) 36)) = W0 at *
  go_upto_region 3 with (first
    | (guard_target = wpList _ _ _ (Oper.mk (some 10) _ _ _ _ none :: _) _ _; refine wpList_load_row rfl 32 _ rfl w.heap.size rfl _ _ _ _ k2 Tryz.underlying32 rfl (by kernel_rfl) ?_)
    | (go_at_call 51; (with_reducible refine (HMC.out _ hbw).mono ?_); rintro _ u1 ⟨rfl, hb1⟩; replace k2 := Held.below k2 hb1; replace k3 := Held.below k3 hb1; replace k4 := Held.below k4 hb1; replace k5 := Held.below k5 hb1; replace hbw := Below.step hbw hb1; clear hb1))
  have hp9 := HP.out.1.below hbw HP.out.2
  have hB9 := Nat.le_trans HP.out.2 hbw.size
  go_upto_region 4 with (first
    | (guard_target = wpList _ _ _ (Oper.mk (some 15) _ _ _ _ none :: _) _ _; refine wpList_load_row rfl 32 _ rfl w.heap.size rfl _ _ _ _ k2 Tryz.underlying32 rfl (by kernel_rfl) ?_)
    | (go_at_call 68; (with_reducible refine (copied_z c c2 _ HN.out HM.out hp9 HL.out hB9).mono ?_); rintro _ u ⟨A9, c9, B9, d9, rfl, hrow, hb⟩; have hD := Held.lt k5; replace k2 := Held.below k2 hb; replace k3 := Held.below k3 hb; replace k4 := Held.below k4 hb; replace k5 := Held.below k5 hb; replace hbw := Below.step hbw hb; have hbA := ((Below.refl _ _).alloc (Nat.le_refl _) _ : Below u.heap.size u (u.alloc (.cells pz0 32))); have kn := Held.new u 32 pz0)
    | (guard_target = wpList _ _ _ (Oper.mk _ (Op.store 32 (.tmp 7) _) _ _ _ none :: _) _ _; refine wpList_store_row rfl 32 _ _ rfl u.heap.size (pc A9 n c9 B9 0 d9 p.most) rfl rfl _ _ kn (by kernel_rfl) rfl (by simp [Value.oneCell']) ?_))
  have hb2 : Below u.heap.size u ((u.alloc (.cells pz0 32)).setRow u.heap.size (pc A9 n c9 B9 0 d9 p.most)) := below_setRow hbA (Nat.le_refl _) _
  have hBu : B ≤ u.heap.size := Nat.le_trans hB9 hb.size
  have hrow1 := (rowZ_any (G := (fun v F => v = .agg (fcA f (.slice Ax1 f.stk.length cx1) (.slice Ax2 f.loc.length cx2) (.slice Ax3 f.slt.length cx3)) ∧ F = f)) hrow hc0).below (F' := (fun v F => v = .agg (fcA f (.slice Ax1 f.stk.length cx1) (.slice Ax2 f.loc.length cx2) (.slice Ax3 f.slt.length cx3)) ∧ F = f)) hb2 (fun _ _ h => h)
  have kn1 := held_rowSelf kn (pc A9 n c9 B9 0 d9 p.most)
  replace k2 := Held.below k2 hb2
  replace k3 := Held.below k3 hb2
  replace k4 := Held.below k4 hb2
  have h5u := Held.lt k5
  replace k5 := Held.below k5 hb2
  replace hbw := Below.step hbw hb2
  have hD5 : (w.heap.size + 1 + 1 + 1) < u.heap.size := by omega
  have hqq : ∀ q, Value.ownBlock (.slice A9 n c9) = some q → (w.heap.size + 1 + 1 + 1) < q ∧ q < u.heap.size := fun q e => by
    obtain ⟨xs9, q1, -⟩ := hrow.cells
    rw [HN.out] at q1
    have := q1.lt q e
    omega
  have HQQ := Lib.hid hqq
  have hDu : u.heap.size ≤ ((u.alloc (.cells pz0 32)).setRow u.heap.size (pc A9 n c9 B9 0 d9 p.most)).heap.size := hb2.size
  have hDw : w.heap.size ≤ u.heap.size := by omega
  clear hrow kn hbA hb2 hBu hp9 hB9 hb hqq
  generalize World.setRow _ u.heap.size _ = W1 at *
  generalize u.heap.size = gV at *
  have x0 := kn1.cell 0
  have x1 := kn1.cell 1
  have x2 := kn1.cell 2
  simp at x0 x1 x2
  have hn0 : (0 : Int) ≤ n := by omega
  have hnI : (n : Int) ≤ 3000 := by omega
  have hge : decide (p.most ≤ (n : Int)) = false := by simp; omega
  have HR1 := Lib.hid hrow1
  clear hrow1
  go_upto_region 12 with (fail)
  clear x1 x2 hge
  have hbA : Below W1.heap.size W1 (W1.alloc (.cells (celv ⟨0, true, f⟩ (fcA f (.slice Ax1 f.stk.length cx1) (.slice Ax2 f.loc.length cx2) (.slice Ax3 f.slt.length cx3))).toArray 77)) := (Below.refl _ _).alloc (Nat.le_refl _) _
  obtain ⟨xs9, q1, q2⟩ := HR1.out.cells
  rw [HN.out] at q1
  have Q1 := Lib.hid (row_mono (r_later q1 hbA) (show w.heap.size ≤ _ by omega))
  have hwA : Below w.heap.size W1 (W1.alloc (.cells (celv ⟨0, true, f⟩ (fcA f (.slice Ax1 f.stk.length cx1) (.slice Ax2 f.loc.length cx2) (.slice Ax3 f.slt.length cx3))).toArray 77)) := (Below.refl _ _).alloc (by omega) _
  have Q2 := Lib.hid q2
  have Q3 := Lib.hid (r_later HR1.out.free hbA)
  have hr9 : Hid ((W1.alloc (.cells (celv ⟨0, true, f⟩ (fcA f (.slice Ax1 f.stk.length cx1) (.slice Ax2 f.loc.length cx2) (.slice Ax3 f.slt.length cx3))).toArray 77)).rangeAt W1.heap.size 0 (celv ⟨0, true, f⟩ (fcA f (.slice Ax1 f.stk.length cx1) (.slice Ax2 f.loc.length cx2) (.slice Ax3 f.slt.length cx3)))) := Lib.hid (by have := range_held (Held.new W1 77 (celv ⟨0, true, f⟩ (fcA f (.slice Ax1 f.stk.length cx1) (.slice Ax2 f.loc.length cx2) (.slice Ax3 f.slt.length cx3))).toArray); simpa using this)
  have KA := Lib.hid (And.intro (Held.below kn1 hbA) (And.intro (Held.below k4 hbA) (And.intro (Held.below k5 hbA) (Below.step hbw hbA))))
  have x0' := KA.out.1.cell 0
  simp at x0'
  clear q1 q2 hbA hwA HR1 kn1 k4 k5 k2
  go_upto_region 13 with (first
    | (guard_target = wpList _ _ _ (Oper.mk (some 65) _ _ _ _ none :: _) _ _; refine wpList_load_row rfl 60 _ rfl (w.heap.size + 1) rfl _ _ _ _ k3 Tryz.underlying60 rfl (by kernel_rfl) ?_)
    | (at_builtin; refine wpList_append_cs rfl _ _ rfl w.heap.size _ n rfl Q1.out rfl hr9.out rfl (celsOf_one (celsOf_one1 (F := fun _ _ _ => True) (c := ⟨0, true, f⟩) (cs := (fcA f (.slice Ax1 f.stk.length cx1) (.slice Ax2 f.loc.length cx2) (.slice Ax3 f.slt.length cx3))) rfl (by simp [Value.oneCell']) trivial)) (Nat.le_refl _) (by omega) KA.out.2.2.2.size ?_; intro A8 m8 c8 u8 hm8 r1 r2; have HM8 := Lib.hid hm8; clear hm8; have R1 := Lib.hid r1; have R2 := Lib.hid r2; have g9 := held_grown KA.out.1 r2 (fun e => by have := HQQ.out _ e; omega); have y0 := g9.cell 0; have z0 := g9.fz 0; simp at y0; clear r1 r2))

  have hlen8 : (p.cells ++ [(⟨0, true, f⟩ : Cel)]).length = m8 := by rw [HM8.out, List.length_append, HN.out]; rfl
  have hbl2 := below_grow R2.out (fun q e => (Q1.out.lt q e).1) KA.out.2.2.2.size
  have hkC := kt_own Q1.out R2.out
  have hw9 := KA.out.2.2.2.trans hbl2
  have hcel : RowZ (fun v F => v = .agg (fcA f (.slice Ax1 f.stk.length cx1) (.slice Ax2 f.loc.length cx2) (.slice Ax3 f.slt.length cx3)) ∧ F = f) u8 w.heap.size A8 c8 B9 d9 ⟨p.cells ++ [⟨0, true, f⟩], p.free, p.most⟩ := by
    refine ⟨⟨_, by simp only [hlen8]; exact R1.out, celsOf_app Q2.out (celsOf_one1 rfl (by simp [Value.oneCell']) ⟨rfl, rfl⟩)⟩, row_kt (row_mono Q3.out (by omega)) hkC tyCI⟩
  have K2 := g9.set_at 0 (.slice A8 m8 c8)
  have k4 := (held_grown KA.out.2.1 R2.out (fun e => by have := HQQ.out _ e; omega)).far (show (w.heap.size + 1 + 1) ≠ gV by omega) 0 (.slice A8 m8 c8)
  have k5 := (held_grown KA.out.2.2.1 R2.out (fun e => by have := HQQ.out _ e; omega)).far (show (w.heap.size + 1 + 1 + 1) ≠ gV by omega) 0 (.slice A8 m8 c8)
  have hlw := (Below.refl w.heap.size u8).setCell (p := ⟨gV, 0, none⟩) (show w.heap.size ≤ gV by omega) (.slice A8 m8 c8)
  have hrow2 := hcel.kt (F' := (fun v F => v = .agg (fcA f (.slice Ax1 f.stk.length cx1) (.slice Ax2 f.loc.length cx2) (.slice Ax3 f.slt.length cx3)) ∧ F = f)) (kt_cell g9 0 (.slice A8 m8 c8)) (by decide) (by decide) (fun _ _ h => h)
  have hbw := hw9.trans hlw
  have hM1 : m8 = n + 1 := HM8.out
  clear hcel hlw hw9 hkC hbl2 g9 y0 z0 x0 x0' Q1 Q2 Q3 hr9 R1 R2 KA HQQ k3
  generalize u8.setCell ⟨gV, 0, none⟩ (.slice A8 m8 c8) = W4 at *
  simp at K2
  obtain ⟨mi, hmi⟩ : ∃ mi : Int, (m8 : Int) = mi := ⟨_, rfl⟩
  have hmi1 : mi - 1 = n := by omega
  have hmi0 : (0 : Int) ≤ mi := by omega
  have hmi9 : mi ≤ 3001 := by omega
  clear hM1

  have hdr := (Below.refl W4.heap.size W4).drew
  have hrow8 := hrow2.below (F' := (fun v F => v = .agg (fcA f (.slice Ax1 f.stk.length cx1) (.slice Ax2 f.loc.length cx2) (.slice Ax3 f.slt.length cx3)) ∧ F = f)) hdr (fun _ _ h => h)
  replace K2 := Held.below K2 hdr
  replace k4 := Held.below k4 hdr
  replace k5 := Held.below k5 hdr
  replace hbw := Below.step hbw hdr
  clear hrow2
  clear hdr
  refine wp_region_held_drew (S := fun W => Two (w.heap.size + 1 + 1) (w.heap.size + 1 + 1 + 1) W4.drew W) (by kernel_rfl) (Two.refl _ _ _) (fun hS => ?_)
  generalize W4.drew = W5 at *
  show wpAnyH _ _ _ _ _ 9 #[false, false, false, false, false, false, false, false, false] _ _
  refine wpAnyH_begin (by kernel_rfl) (fun HNS => ?_)
  refine wpAnyH_takeS HNS (i := 0) (v := .agg (pc A8 m8 c8 B9 0 d9 p.most)) rfl (by kernel_rfl) (by kernel_rfl) (fun _ _ _ h => h) (Or.inl ⟨by kernel_rfl, fun W hW => ?_⟩) hS ?_
  · (have hz : Held W gV 32 (pc A8 m8 c8 B9 0 d9 p.most) := (hW gV (by omega) (by omega)).trans K2; have z0 := hz.cell 0; have z1 := hz.cell 1; have z2 := hz.cell 2; simp at z0 z1 z2; go_simp)
  simp only [Act.put, List.getElem_toArray, List.getElem_cons_succ, List.getElem_cons_zero, List.setIfInBounds_toArray, List.set_cons_zero, List.set_cons_succ]
  refine wpAnyH_takeS HNS (i := 1) (v := .pointer (some ⟨gV, 0, none⟩)) rfl (by kernel_rfl) (by kernel_rfl) (fun _ _ _ h => h) (Or.inl ⟨by kernel_rfl, fun W hW => ?_⟩) hS ?_
  · go_simp
  simp only [Act.put, List.getElem_toArray, List.getElem_cons_succ, List.getElem_cons_zero, List.setIfInBounds_toArray, List.set_cons_zero, List.set_cons_succ]
  refine wpAnyH_takeS HNS (i := 2) (v := .slice A8 m8 c8) rfl (by kernel_rfl) (by kernel_rfl) (fun _ _ _ h => h) (Or.inl ⟨by kernel_rfl, fun W hW => ?_⟩) hS ?_
  · (have hz : Held W gV 32 (pc A8 m8 c8 B9 0 d9 p.most) := (hW gV (by omega) (by omega)).trans K2; have z0 := hz.cell 0; have z1 := hz.cell 1; have z2 := hz.cell 2; simp at z0 z1 z2; go_simp)
  simp only [Act.put, List.getElem_toArray, List.getElem_cons_succ, List.getElem_cons_zero, List.setIfInBounds_toArray, List.set_cons_zero, List.set_cons_succ]
  refine wpAnyH_takeS HNS (i := 3) (v := .int .i64 mi) rfl (by kernel_rfl) (by kernel_rfl) (fun _ _ _ h => h) (Or.inl ⟨by kernel_rfl, fun W hW => ?_⟩) hS ?_
  · (go_simp; try exact hmi)
  simp only [Act.put, List.getElem_toArray, List.getElem_cons_succ, List.getElem_cons_zero, List.setIfInBounds_toArray, List.set_cons_zero, List.set_cons_succ]
  refine wpAnyH_takeS HNS (i := 4) (v := .int .i64 n) rfl (by kernel_rfl) (by kernel_rfl) (fun _ _ _ h => h) (Or.inl ⟨by kernel_rfl, fun W hW => ?_⟩) hS ?_
  · (go_simp; first | done | exact IntWalk.i64_in _ (by omega))
  simp only [Act.put, List.getElem_toArray, List.getElem_cons_succ, List.getElem_cons_zero, List.setIfInBounds_toArray, List.set_cons_zero, List.set_cons_succ]
  refine wpAnyH_takeS HNS (i := 5) (v := .agg #[.int .i64 n, .int .i64 0]) rfl (by kernel_rfl) (by kernel_rfl) (fun _ _ _ h => h) (Or.inl ⟨by kernel_rfl, fun W hW => ?_⟩) hS ?_
  · go_simp
  simp only [Act.put, List.getElem_toArray, List.getElem_cons_succ, List.getElem_cons_zero, List.setIfInBounds_toArray, List.set_cons_zero, List.set_cons_succ]
  refine wpAnyH_ready (rs := [6]) (by kernel_rfl) (by simp) ?_
  refine (AllReadyH.cons rfl (fun K hK => ?_) AllReadyH.nil)
  rw [if_pos (by kernel_rfl)]
  refine wp_store_row 32 _ _ rfl _ (pc A8 m8 c8 B9 0 d9 p.most) (by rfl) (by rfl) _ _ k4 (by kernel_rfl) rfl (by simp [Value.oneCell']) ?_
  replace hS := hS.set1 (pc A8 m8 c8 B9 0 d9 p.most)
  replace k5 := held_row k5 (show (w.heap.size + 1 + 1 + 1) ≠ (w.heap.size + 1 + 1) by omega) (pc A8 m8 c8 B9 0 d9 p.most)
  have k4b := held_rowSelf k4 (pc A8 m8 c8 B9 0 d9 p.most)
  have HQ1 := Lib.hid (kt_row k4 (pc A8 m8 c8 B9 0 d9 p.most))
  have hbw1 := below_setRow hbw (show w.heap.size ≤ (w.heap.size + 1 + 1) by omega) (pc A8 m8 c8 B9 0 d9 p.most)
  have hlw1 := below_setRow (Below.refl w.heap.size W5) (show w.heap.size ≤ (w.heap.size + 1 + 1) by omega) (pc A8 m8 c8 B9 0 d9 p.most)
  have HLW1 := Lib.hid hlw1
  clear hlw1
  generalize World.setRow _ _ (pc A8 m8 c8 B9 0 d9 p.most) = Wy at *
  refine hK.out _ _ hS (fun _ => ?_)
  clear hK K
  (try simp only [Act.put, List.getElem_toArray, List.getElem_cons_succ, List.getElem_cons_zero, List.setIfInBounds_toArray, List.set_cons_zero, List.set_cons_succ])
  refine wpAnyH_ready (rs := [7]) (by kernel_rfl) (by simp) ?_
  refine (AllReadyH.cons rfl (fun K hK => ?_) AllReadyH.nil)
  rw [if_pos (by kernel_rfl)]
  refine wp_store_row 36 _ _ rfl _ (refc n 0) (by rfl) (by rfl) _ _ k5 (by kernel_rfl) rfl (by simp [Value.oneCell']) ?_
  replace hS := hS.set2 (refc n 0)
  have k4c := held_row k4b (show (w.heap.size + 1 + 1) ≠ (w.heap.size + 1 + 1 + 1) by omega) (refc n 0)
  have k5c := held_rowSelf k5 (refc n 0)
  have HQ2 := Lib.hid (kt_row k5 (refc n 0))
  have hbw2 := below_setRow hbw1 (show w.heap.size ≤ (w.heap.size + 1 + 1 + 1) by omega) (refc n 0)
  have hlw2 := below_setRow (Below.refl w.heap.size Wy) (show w.heap.size ≤ (w.heap.size + 1 + 1 + 1) by omega) (refc n 0)
  have HLW2 := Lib.hid hlw2
  clear hlw2
  generalize World.setRow _ _ (refc n 0) = Wz at *
  refine hK.out _ _ hS (fun _ => ?_)
  clear hK K
  (try simp only [Act.put, List.getElem_toArray, List.getElem_cons_succ, List.getElem_cons_zero, List.setIfInBounds_toArray, List.set_cons_zero, List.set_cons_succ])
  refine wpAnyH_takeS HNS (i := 8) (v := .int .i64 0) rfl (by kernel_rfl) (by kernel_rfl) (fun _ _ _ h => h) (Or.inl ⟨by kernel_rfl, fun W hW => ?_⟩) hS ?_
  · go_simp
  simp only [Act.put, List.getElem_toArray, List.getElem_cons_succ, List.getElem_cons_zero, List.setIfInBounds_toArray, List.set_cons_zero, List.set_cons_succ]
  refine wpAnyH_done (by kernel_rfl) ?_ _
  have hrow9 := (hrow8.kt (F' := (fun v F => v = .agg (fcA f (.slice Ax1 f.stk.length cx1) (.slice Ax2 f.loc.length cx2) (.slice Ax3 f.slt.length cx3)) ∧ F = f)) HQ1.out (by decide) (by decide) (fun _ _ h => h)).kt (F' := (fun v F => v = .agg (fcA f (.slice Ax1 f.stk.length cx1) (.slice Ax2 f.loc.length cx2) (.slice Ax3 f.slt.length cx3)) ∧ F = f)) HQ2.out (by decide) (by decide) (fun _ _ h => h)
  (repeat go_step)
  exact bodyPost_ret (results_cct rfl _ _ rfl rfl rfl (load_pen k4c rfl) (load_ref k5c rfl)) rfl ⟨_, _, _, _, by simp only [hlen8]; rfl, (by rw [HFZ.out] at hrow9; exact hrow9), hbw2⟩
end Go.Proofs.YtjibkgildfjjoaaGreatDoor

