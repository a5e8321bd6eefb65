/- Layer 13: the document's Ready. -/
import Derived.Test.YtjibkgildfjjoaaGreatDoorzZc
import Derived.Test.YtjibkgildfjjoaaGreatDoorzPr1
import Derived.Test.YtjibkgildfjjoaaGreatDoorzRw
import Derived.Deep.RegionHeld3
import Derived.Deep.DeepCutAuto
import Derived.Deep.CutBlock
import Derived.BigQuiet
namespace Go.Proofs.YtjibkgildfjjoaaGreatDoor
set_option linter.unusedVariables false
set_option linter.unusedSimpArgs false
open Go.RowKit Go.ChangeShapes Go.WideShapes Go.ChangeAt Go.Sort

theorem pat_cell {w : World} {B : Nat} {A : Option Addr} {l : List P2} (h : PAt w B A l) {j : Nat} (hj : j < l.length) : ∃ b off, A = some ⟨b, off, none⟩ ∧ b < B ∧ w.cell? ⟨b, off + j * 2, none⟩ = some (.int .i64 l[j].1) ∧ w.cell? ⟨b, off + j * 2 + 1, none⟩ = some (.int .i64 l[j].2) := by
  obtain ⟨b, off, e, hb, hc⟩ := h (by omega)
  exact ⟨b, off, e, hb, (hc j hj).1, (hc j hj).2⟩
set_option maxHeartbeats 4000000 in
set_option maxRecDepth 100000 in
theorem rready_w {a : WA} {W : Wld} {B : Nat} (w : World) (h : WAt w B a W) (hn1 : W.rings.length ≤ 200) (hn2 : W.cur.length ≤ 200) (hB : B ≤ w.heap.size) :
    Calls Tryz.prog 16 #[.agg (wcs a W)] w (ListQ w (readyW W)) := by
  have hb0 := below2 w (.cells (wcs a W) 43) (.cells #[] 36)
  have g1 := (Held.new w 43 (wcs a W)).alloc (.cells #[] 36)
  have HP := Lib.hid (And.intro h hB)
  have ho := Own2.made 36 (w.alloc (.cells (wcs a W) 43))
  have hs1 : (w.alloc (.cells (wcs a W) 43)).heap.size = w.heap.size + 1 := by simp
  rw [hs1] at ho
  clear h hB
  go_enter Tryz.func16, Tryz.ntmps16
  go_upto_region 1 with (fail)
  go_upto_region 3 with (fail)
  generalize (w.alloc (.cells (wcs a W) 43)).alloc (.cells #[] 36) = W0 at *
  have HX := Lib.hid (And.intro g1 (And.intro hb0 (r_mono ho (Nat.le_succ _) : OwnR _ w.heap.size _ [])))
  clear g1 hb0 ho hs1
  go_loopw [4, 3] (fun iv sv wx => ∃ (j k : Nat) (A9 : Option Addr) (c9 : Nat), iv = .int .i64 j ∧ sv = .slice A9 k c9 ∧ j ≤ W.rings.length ∧ (readyN W.rings W.cur j).length = k ∧ OwnR wx w.heap.size (.slice A9 k c9) (readyN W.rings W.cur j) ∧ Below w.heap.size w wx ∧ Held wx w.heap.size 43 (wcs a W)) (fun iv _ _ => W.rings.length - (intOf iv).toNat)
  case atStart => exact ⟨0, 0, _, _, rfl, rfl, by omega, rfl, HX.out.2.2, HX.out.2.1, HX.out.1⟩
  case round =>
    clear HX
    obtain ⟨j, k, A9, c9, rfl, rfl, hj, hk, ho, hbw, g1⟩ := hrel
    have hp := HP.out.1.below hbw HP.out.2
    have hbs := Nat.le_trans HP.out.2 hbw.size
    have hj0 : (0 : Int) ≤ j := by omega
    have hnI : (W.rings.length : Int) ≤ 200 := by omega
    have hcI : (W.cur.length : Int) ≤ 200 := by omega
    by_cases hlt : j < W.rings.length
    · have hlt2 : (j : Int) < (W.rings.length : Int) := by omega
      have hkn : k ≤ 205000 := by
        have := readyN_le W.rings W.cur j
        omega
      have HST := Lib.hid (readyN_at (cs := W.cur) hlt)
      obtain ⟨cj, hcj⟩ : ∃ c, W.cur.getD j noV = c := ⟨_, rfl⟩
      rw [hcj] at HST
      have x7 := g1.cell 7
      have x8 := g1.cell 8
      simp at x7 x8
      have HJ := Lib.hid (And.intro ho (And.intro hbw hk))
      clear ho hbw hk
      go_upto_region 5 with (fail)
      go_cut [26] from 13 to 27 (fun v wx => v = .bool (decide (cj ≠ noV)) ∧ Below wr.heap.size wr wx)
      case first =>
        by_cases hc : j < W.cur.length
        · have hc2 : (j : Int) < (W.cur.length : Int) := by omega
          obtain ⟨b, off, e1, hbl0, k0, k1⟩ := pat_cell hp.cur hc
          have hbl : b < wr.heap.size := Nat.lt_of_lt_of_le hbl0 hbs
          rw [show W.cur[j] = cj by rw [← hcj, List.getD_eq_getElem?_getD, List.getElem?_eq_getElem hc, Option.getD_some]] at k0 k1
          have NE9 : ∀ w9, (binOp .neq 36 (gv cj.1 cj.2) (gv (-1) 0)).run Tryz.prog w9 = .ok (.bool (decide (cj ≠ noV))) w9 := fun w9 => neqr_run cj.1 cj.2 (-1) 0 w9
          clear HST HJ hp x7 x8 hbl0
          have hdr := (Below.refl wr.heap.size wr).drew
          have HDR := Lib.hid hdr
          replace g1 := Held.below g1 hdr
          replace k0 := (hdr.cell (p := ⟨b, _, none⟩) hbl).trans k0
          replace k1 := (hdr.cell (p := ⟨b, _, none⟩) hbl).trans k1
          replace hbl : b < wr.drew.heap.size := hbl
          clear hdr
          refine wp_region_held_drew (S := fun W => Below wr.drew.heap.size wr.drew W) (by kernel_rfl) (Below.refl _ _) (fun hS => ?_)
          generalize wr.drew = Wq at *
          show wpAnyH _ _ _ _ _ 14 #[false, false, false, false, false, false, false, false, false, false, false, false, false, false] _ _
          refine wpAnyH_begin (by kernel_rfl) (fun HNS => ?_)
          refine wpAnyH_takeS HNS (i := 0) (v := .int .i64 j) rfl (by kernel_rfl) (by kernel_rfl) (fun _ _ _ h => h) (Or.inl ⟨by kernel_rfl, fun W hW => ?_⟩) hS ?_
          · go_simp
          simp only [Act.put, List.getElem_toArray, List.getElem_cons_succ, List.getElem_cons_zero, List.setIfInBounds_toArray, List.set_cons_zero, List.set_cons_succ]
          refine wpAnyH_takeS HNS (i := 1) (v := .pointer (some ⟨w.heap.size, 8, none⟩)) rfl (by kernel_rfl) (by kernel_rfl) (fun _ _ _ h => h) (Or.inl ⟨by kernel_rfl, fun W hW => ?_⟩) hS ?_
          · go_simp
          simp only [Act.put, List.getElem_toArray, List.getElem_cons_succ, List.getElem_cons_zero, List.setIfInBounds_toArray, List.set_cons_zero, List.set_cons_succ]
          refine wpAnyH_takeS HNS (i := 2) (v := .slice a.aq W.cur.length a.cq) rfl (by kernel_rfl) (by kernel_rfl) (fun _ _ _ h => h) (Or.inl ⟨by kernel_rfl, fun W hW => ?_⟩) hS ?_
          · (have hz := Held.below g1 hW; have z0 := hz.cell 8; simp at z0; go_simp)
          simp only [Act.put, List.getElem_toArray, List.getElem_cons_succ, List.getElem_cons_zero, List.setIfInBounds_toArray, List.set_cons_zero, List.set_cons_succ]
          refine wpAnyH_takeS HNS (i := 3) (v := .int .i64 (W.cur.length : Nat)) rfl (by kernel_rfl) (by kernel_rfl) (fun _ _ _ h => h) (Or.inl ⟨by kernel_rfl, fun W hW => ?_⟩) hS ?_
          · go_simp
          simp only [Act.put, List.getElem_toArray, List.getElem_cons_succ, List.getElem_cons_zero, List.setIfInBounds_toArray, List.set_cons_zero, List.set_cons_succ]
          refine wpAnyH_takeS HNS (i := 4) (v := .bool true) rfl (by kernel_rfl) (by kernel_rfl) (fun _ _ _ h => h) (Or.inl ⟨by kernel_rfl, fun W hW => ?_⟩) hS ?_
          · go_simp
          simp only [Act.put, List.getElem_toArray, List.getElem_cons_succ, List.getElem_cons_zero, List.setIfInBounds_toArray, List.set_cons_zero, List.set_cons_succ]
          refine wpAnyH_takeS HNS (i := 5) (v := .bool true) rfl (by kernel_rfl) (by kernel_rfl) (fun _ _ _ h => h) (Or.inl ⟨by kernel_rfl, fun W hW => ?_⟩) hS ?_
          · go_simp
          simp only [Act.put, List.getElem_toArray, List.getElem_cons_succ, List.getElem_cons_zero, List.setIfInBounds_toArray, List.set_cons_zero, List.set_cons_succ]
          refine wpAnyH_takeS HNS (i := 6) (v := .pointer (some ⟨w.heap.size, 8, none⟩)) rfl (by kernel_rfl) (by kernel_rfl) (fun _ _ _ h => h) (Or.inl ⟨by kernel_rfl, fun W hW => ?_⟩) hS ?_
          · go_simp
          simp only [Act.put, List.getElem_toArray, List.getElem_cons_succ, List.getElem_cons_zero, List.setIfInBounds_toArray, List.set_cons_zero, List.set_cons_succ]
          refine wpAnyH_takeS HNS (i := 7) (v := .slice (some ⟨b, off, none⟩) W.cur.length a.cq) rfl (by kernel_rfl) (by kernel_rfl) (fun _ _ _ h => h) (Or.inl ⟨by kernel_rfl, fun W hW => ?_⟩) hS ?_
          · (have hz := Held.below g1 hW; have z0 := hz.cell 8; simp at z0; rw [e1] at z0; go_simp)
          simp only [Act.put, List.getElem_toArray, List.getElem_cons_succ, List.getElem_cons_zero, List.setIfInBounds_toArray, List.set_cons_zero, List.set_cons_succ]
          refine wpAnyH_takeS HNS (i := 8) (v := .int .i64 j) rfl (by kernel_rfl) (by kernel_rfl) (fun _ _ _ h => h) (Or.inl ⟨by kernel_rfl, fun W hW => ?_⟩) hS ?_
          · go_simp
          simp only [Act.put, List.getElem_toArray, List.getElem_cons_succ, List.getElem_cons_zero, List.setIfInBounds_toArray, List.set_cons_zero, List.set_cons_succ]
          refine wpAnyH_takeS HNS (i := 9) (v := .pointer (some ⟨b, off + j * 2, none⟩)) rfl (by kernel_rfl) (by kernel_rfl) (fun _ _ _ h => h) (Or.inl ⟨by kernel_rfl, fun W hW => ?_⟩) hS ?_
          · go_simp
          simp only [Act.put, List.getElem_toArray, List.getElem_cons_succ, List.getElem_cons_zero, List.setIfInBounds_toArray, List.set_cons_zero, List.set_cons_succ]
          refine wpAnyH_takeS HNS (i := 10) (v := .agg #[.int .i64 cj.1, .int .i64 cj.2]) rfl (by kernel_rfl) (by kernel_rfl) (fun _ _ _ h => h) (Or.inl ⟨by kernel_rfl, fun W hW => ?_⟩) hS ?_
          · (have z0 := (hW.cell (p := ⟨b, _, none⟩) hbl).trans k0; have z1 := (hW.cell (p := ⟨b, _, none⟩) hbl).trans k1; go_simp)
          simp only [Act.put, List.getElem_toArray, List.getElem_cons_succ, List.getElem_cons_zero, List.setIfInBounds_toArray, List.set_cons_zero, List.set_cons_succ]
          refine wpAnyH_ready (rs := [11]) (by kernel_rfl) (by simp) ?_
          refine (AllReadyH.cons rfl (fun K hK => ?_) AllReadyH.nil)
          · rw [if_pos (by kernel_rfl)]
            go_simp
            go_at_call 22
            (with_reducible refine (none_z _).mono ?_)
            rintro _ u1 ⟨rfl, hb1⟩
            replace hS := Below.step hS hb1
            (repeat (first | go_skip | go_guarded | go_step | go_upon))
            refine hK.out _ _ hS (fun _ => ?_)
            clear hK K
            (try simp only [Act.put, List.getElem_toArray, List.getElem_cons_succ, List.getElem_cons_zero, List.setIfInBounds_toArray, List.set_cons_zero, List.set_cons_succ])
            refine wpAnyH_takeS HNS (i := 12) (v := .bool (decide (cj ≠ noV))) rfl (by kernel_rfl) (by kernel_rfl) (fun _ _ _ h => h) (Or.inl ⟨by kernel_rfl, fun W hW => ?_⟩) hS ?_
            · (have e9 := NE9 W; go_simp; try exact e9)
            simp only [Act.put, List.getElem_toArray, List.getElem_cons_succ, List.getElem_cons_zero, List.setIfInBounds_toArray, List.set_cons_zero, List.set_cons_succ]
            refine wpAnyH_takeS HNS (i := 13) (v := .bool (decide (cj ≠ noV))) rfl (by kernel_rfl) (by kernel_rfl) (fun _ _ _ h => h) (Or.inl ⟨by kernel_rfl, fun W hW => ?_⟩) hS ?_
            · go_simp
            simp only [Act.put, List.getElem_toArray, List.getElem_cons_succ, List.getElem_cons_zero, List.setIfInBounds_toArray, List.set_cons_zero, List.set_cons_succ]
            refine wpAnyH_done (by kernel_rfl) ?_ _
            (repeat (first | go_skip | go_guarded | go_step | go_upon))
            go_meet
            case rel => exact ⟨rfl, Below.step HDR.out hS⟩
        · have hc2 : ¬ (j : Int) < (W.cur.length : Int) := by omega
          have hcn : cj = noV := by rw [← hcj, List.getD_eq_getElem?_getD, List.getElem?_eq_none (by omega), Option.getD_none]
          clear HST HJ hp x7 x8
          have hdr := (Below.refl wr.heap.size wr).drew
          have HDR := Lib.hid hdr
          replace g1 := Held.below g1 hdr
          clear hdr
          refine wp_region_held_drew (S := fun W => Below wr.drew.heap.size wr.drew W) (by kernel_rfl) (Below.refl _ _) (fun hS => ?_)
          generalize wr.drew = Wq at *
          show wpAnyH _ _ _ _ _ 14 #[false, false, false, false, false, false, false, false, false, false, false, false, false, false] _ _
          refine wpAnyH_begin (by kernel_rfl) (fun HNS => ?_)
          refine wpAnyH_takeS HNS (i := 0) (v := .int .i64 j) rfl (by kernel_rfl) (by kernel_rfl) (fun _ _ _ h => h) (Or.inl ⟨by kernel_rfl, fun W hW => ?_⟩) hS ?_
          · go_simp
          simp only [Act.put, List.getElem_toArray, List.getElem_cons_succ, List.getElem_cons_zero, List.setIfInBounds_toArray, List.set_cons_zero, List.set_cons_succ]
          refine wpAnyH_takeS HNS (i := 1) (v := .pointer (some ⟨w.heap.size, 8, none⟩)) rfl (by kernel_rfl) (by kernel_rfl) (fun _ _ _ h => h) (Or.inl ⟨by kernel_rfl, fun W hW => ?_⟩) hS ?_
          · go_simp
          simp only [Act.put, List.getElem_toArray, List.getElem_cons_succ, List.getElem_cons_zero, List.setIfInBounds_toArray, List.set_cons_zero, List.set_cons_succ]
          refine wpAnyH_takeS HNS (i := 2) (v := .slice a.aq W.cur.length a.cq) rfl (by kernel_rfl) (by kernel_rfl) (fun _ _ _ h => h) (Or.inl ⟨by kernel_rfl, fun W hW => ?_⟩) hS ?_
          · (have hz := Held.below g1 hW; have z0 := hz.cell 8; simp at z0; go_simp)
          simp only [Act.put, List.getElem_toArray, List.getElem_cons_succ, List.getElem_cons_zero, List.setIfInBounds_toArray, List.set_cons_zero, List.set_cons_succ]
          refine wpAnyH_takeS HNS (i := 3) (v := .int .i64 (W.cur.length : Nat)) rfl (by kernel_rfl) (by kernel_rfl) (fun _ _ _ h => h) (Or.inl ⟨by kernel_rfl, fun W hW => ?_⟩) hS ?_
          · go_simp
          simp only [Act.put, List.getElem_toArray, List.getElem_cons_succ, List.getElem_cons_zero, List.setIfInBounds_toArray, List.set_cons_zero, List.set_cons_succ]
          refine wpAnyH_takeS HNS (i := 4) (v := .bool false) rfl (by kernel_rfl) (by kernel_rfl) (fun _ _ _ h => h) (Or.inl ⟨by kernel_rfl, fun W hW => ?_⟩) hS ?_
          · go_simp
          simp only [Act.put, List.getElem_toArray, List.getElem_cons_succ, List.getElem_cons_zero, List.setIfInBounds_toArray, List.set_cons_zero, List.set_cons_succ]
          refine wpAnyH_takeS HNS (i := 5) (v := .bool false) rfl (by kernel_rfl) (by kernel_rfl) (fun _ _ _ h => h) (Or.inl ⟨by kernel_rfl, fun W hW => ?_⟩) hS ?_
          · go_simp
          simp only [Act.put, List.getElem_toArray, List.getElem_cons_succ, List.getElem_cons_zero, List.setIfInBounds_toArray, List.set_cons_zero, List.set_cons_succ]
          refine wpAnyH_takeS HNS (i := 6) (v := undef) rfl (by kernel_rfl) (by kernel_rfl) (fun _ _ _ h => h) (Or.inr ⟨by kernel_rfl, rfl⟩) hS ?_
          simp only [Act.put, List.getElem_toArray, List.getElem_cons_succ, List.getElem_cons_zero, List.setIfInBounds_toArray, List.set_cons_zero, List.set_cons_succ]
          refine wpAnyH_takeS HNS (i := 7) (v := undef) rfl (by kernel_rfl) (by kernel_rfl) (fun _ _ _ h => h) (Or.inr ⟨by kernel_rfl, rfl⟩) hS ?_
          simp only [Act.put, List.getElem_toArray, List.getElem_cons_succ, List.getElem_cons_zero, List.setIfInBounds_toArray, List.set_cons_zero, List.set_cons_succ]
          refine wpAnyH_takeS HNS (i := 8) (v := undef) rfl (by kernel_rfl) (by kernel_rfl) (fun _ _ _ h => h) (Or.inr ⟨by kernel_rfl, rfl⟩) hS ?_
          simp only [Act.put, List.getElem_toArray, List.getElem_cons_succ, List.getElem_cons_zero, List.setIfInBounds_toArray, List.set_cons_zero, List.set_cons_succ]
          refine wpAnyH_takeS HNS (i := 9) (v := undef) rfl (by kernel_rfl) (by kernel_rfl) (fun _ _ _ h => h) (Or.inr ⟨by kernel_rfl, rfl⟩) hS ?_
          simp only [Act.put, List.getElem_toArray, List.getElem_cons_succ, List.getElem_cons_zero, List.setIfInBounds_toArray, List.set_cons_zero, List.set_cons_succ]
          refine wpAnyH_takeS HNS (i := 10) (v := undef) rfl (by kernel_rfl) (by kernel_rfl) (fun _ _ _ h => h) (Or.inr ⟨by kernel_rfl, rfl⟩) hS ?_
          simp only [Act.put, List.getElem_toArray, List.getElem_cons_succ, List.getElem_cons_zero, List.setIfInBounds_toArray, List.set_cons_zero, List.set_cons_succ]
          refine wpAnyH_takeS HNS (i := 11) (v := undef) rfl (by kernel_rfl) (by kernel_rfl) (fun _ _ _ h => h) (Or.inr ⟨by kernel_rfl, rfl⟩) hS ?_
          simp only [Act.put, List.getElem_toArray, List.getElem_cons_succ, List.getElem_cons_zero, List.setIfInBounds_toArray, List.set_cons_zero, List.set_cons_succ]
          refine wpAnyH_takeS HNS (i := 12) (v := undef) rfl (by kernel_rfl) (by kernel_rfl) (fun _ _ _ h => h) (Or.inr ⟨by kernel_rfl, rfl⟩) hS ?_
          simp only [Act.put, List.getElem_toArray, List.getElem_cons_succ, List.getElem_cons_zero, List.setIfInBounds_toArray, List.set_cons_zero, List.set_cons_succ]
          refine wpAnyH_takeS HNS (i := 13) (v := .bool false) rfl (by kernel_rfl) (by kernel_rfl) (fun _ _ _ h => h) (Or.inl ⟨by kernel_rfl, fun W hW => ?_⟩) hS ?_
          · go_simp
          simp only [Act.put, List.getElem_toArray, List.getElem_cons_succ, List.getElem_cons_zero, List.setIfInBounds_toArray, List.set_cons_zero, List.set_cons_succ]
          refine wpAnyH_done (by kernel_rfl) ?_ _
          (repeat (first | go_skip | go_guarded | go_step | go_upon))
          go_meet
          case rel => exact ⟨by rw [hcn]; simp, Below.step HDR.out hS⟩
      case rest =>
        obtain ⟨rfl, hwc⟩ := hcut
        have g1b := g1.below hwc
        obtain ⟨ho0, hbw0, hk0⟩ := HJ.out
        have hob : OwnR wc w.heap.size (.slice A9 k c9) (readyN W.rings W.cur j) := r_later ho0 hwc
        have hbwb := Below.step hbw0 hwc
        obtain ⟨L, hL⟩ : ∃ L, readyN W.rings W.cur j = L := ⟨_, rfl⟩
        rw [hL] at HST hob hk0
        clear g1 hp hbs HJ ho0 hbw0 hwc x7 x8 hL
        obtain ⟨rj, hrj⟩ : ∃ r, W.rings[j] = r := ⟨_, rfl⟩
        rw [hrj] at HST
        obtain ⟨IL, hIL⟩ : ∃ l, itemsR rj = l := ⟨_, rfl⟩
        have hIl : IL.length ≤ 1024 := by rw [← hIL]; exact itemsR_le rj
        rw [hIL] at HST
        by_cases hcn : cj = noV
        · subst hcn
          have HST2 : Hid (readyN W.rings W.cur (j + 1) = L ++ IL) := Lib.hid (by rw [HST.out]; rfl)
          have HLK := Lib.hid (show L.length ≤ 206000 by omega)
          have hdn : decide (noV ≠ noV) = false := by simp
          rw [hdn]
          clear hk0 HST hcj hdn
          have hp := HP.out.1.below hbwb HP.out.2
          have hbs := Nat.le_trans HP.out.2 hbwb.size
          have x7 := g1b.cell 7
          simp at x7
          obtain ⟨b, off, e1, hbl0, Ab, cb, hab, k0, k1, k2, k3⟩ := hp.rings.rng hlt
          rw [e1] at x7
          rw [hrj] at k0 k1 k2 k3 hab
          have hic := ritems_any (r := rj) cb wc hab hbs
          rw [hIL] at hic
          have IC := Lib.hid hic
          have HF := Lib.hid (And.intro hob (And.intro hbwb g1b))
          clear hp hbs e1 hbl0 hab hic hob hbwb g1b hrj hIL
          go_wp2_with (first
            | (go_at_call 20; (with_reducible refine IC.out.mono ?_); rintro _ u ⟨A7, c7, rfl, hi, hbi⟩)
            | (at_builtin; refine wpList_append_rsE rfl _ _ rfl w.heap.size _ L rfl (by have h9 : OwnR u w.heap.size (.slice A9 k c9) L := r_later HF.out.1 hbi; exact h9) (k := IL) (n := IL.length) rfl rfl (own2_at hi) (by have := HLK.out; omega) (Nat.le_trans HF.out.2.1.size hbi.size) ?_; rintro v8 w8 r1 r2 -; obtain ⟨A8, c8, rfl, -⟩ := Own2.lies r1; have R1 := Lib.hid r1; have R2 := Lib.hid r2; clear r1 r2))
          have o9 : OwnR u w.heap.size (.slice A9 k c9) L := r_later HF.out.1 hbi
          have bw9 := (Below.step HF.out.2.1 hbi).trans (below_grow R2.out (fun q e => (World.ownsRow.lt o9 q e).1) (Nat.le_trans HF.out.2.1.size hbi.size))
          have g9 := held_grown (HF.out.2.2.below hbi) R2.out (fun e => r_apart o9 (HF.out.2.2.below hbi) (by decide) _ e rfl)
          have HG := Lib.hid (And.intro bw9 g9)
          clear o9 bw9 g9 HF IC R2 hbi hi x7 k0 k1 k2 k3
          go_roundw
          case rel => exact ⟨j + 1, (L ++ IL).length, A8, c8, by go_num, by rw [List.length_append], by omega, by rw [HST2.out], by rw [HST2.out]; exact R1.out, HG.out.1, HG.out.2⟩
          case measure => simp [intOf]; omega
        · have hc : j < W.cur.length := Nat.lt_of_not_le fun h9 => hcn (by rw [← hcj, List.getD_eq_getElem?_getD, List.getElem?_eq_none h9, Option.getD_none])
          have hc2 : (j : Int) < (W.cur.length : Int) := by omega
          have hp := HP.out.1.below hbwb HP.out.2
          have x8 := g1b.cell 8
          simp at x8
          obtain ⟨bq, offq, e2, hbq0, q0, q1⟩ := pat_cell hp.cur hc
          rw [show W.cur[j] = cj by rw [← hcj, List.getD_eq_getElem?_getD, List.getElem?_eq_getElem hc, Option.getD_some]] at q0 q1
          rw [e2] at x8
          have hdn : decide (cj ≠ noV) = true := decide_eq_true hcn
          rw [hdn]
          have HST2 : Hid (readyN W.rings W.cur (j + 1) = (L ++ [cj]) ++ IL) := Lib.hid (by rw [HST.out, show curL cj = [cj] from if_neg hcn, List.append_assoc])
          have HF := Lib.hid (And.intro hob (And.intro hbwb g1b))
          have HK1 := Lib.hid hk0
          have HBA := Lib.hid ((Below.refl _ _).alloc (Nat.le_refl _) _ : Below wc.heap.size wc (wc.alloc (.cells #[.int .i64 cj.1, .int .i64 cj.2] 36)))
          clear hob hbwb g1b hk0 HST hcj hcn hdn e2 hbq0 hp
          go_upto_region 7 with (at_builtin; (refine wpList_append_rs rfl _ _ rfl w.heap.size _ L rfl (by have h9 : OwnR _ w.heap.size (.slice A9 k c9) L := r_later HF.out.1 HBA.out; exact h9) (k := [cj]) (n := 1) rfl rfl (one2_at cj.1 cj.2) (Nat.le_refl _) (by have := HK1.out; omega) (Nat.le_trans HF.out.2.1.size HBA.out.size) ?_; rintro v6 w6 r1 r2 -; obtain ⟨A6, c6, rfl, -⟩ := Own2.lies r1; have R1 := Lib.hid r1; have R2 := Lib.hid r2; clear r1 r2))
          have o9 : OwnR _ w.heap.size (.slice A9 k c9) L := r_later HF.out.1 HBA.out
          have bw6 := (Below.step HF.out.2.1 HBA.out).trans (below_grow R2.out (fun q e => (World.ownsRow.lt o9 q e).1) (Nat.le_trans HF.out.2.1.size HBA.out.size))
          have g6 := held_grown (HF.out.2.2.below HBA.out) R2.out (fun e => r_apart o9 (HF.out.2.2.below HBA.out) (by decide) _ e rfl)
          have o6 : OwnR w6 w.heap.size (.slice A6 (L.length + 1) c6) (L ++ [cj]) := by
            have h9 := R1.out
            rw [List.length_append] at h9
            exact h9
          obtain ⟨k6, hk6⟩ : ∃ n, L.length + 1 = n := ⟨_, rfl⟩
          obtain ⟨L6, hL6⟩ : ∃ l, L ++ [cj] = l := ⟨_, rfl⟩
          simp only [hk6] at o6 ⊢
          have HLK : Hid (L6.length ≤ 206000) := Lib.hid (by rw [← hL6, List.length_append]; have := HK1.out; simp; omega)
          rw [hL6] at o6 HST2
          clear o9 HF HBA R1 R2 HK1 hL6 hk6 x8 q0 q1
          have hp := HP.out.1.below bw6 HP.out.2
          have hbs := Nat.le_trans HP.out.2 bw6.size
          have x7 := g6.cell 7
          simp at x7
          obtain ⟨b, off, e1, hbl0, Ab, cb, hab, k0, k1, k2, k3⟩ := hp.rings.rng hlt
          rw [e1] at x7
          rw [hrj] at k0 k1 k2 k3 hab
          have hic := ritems_any (r := rj) cb w6 hab hbs
          rw [hIL] at hic
          have IC := Lib.hid hic
          have HF := Lib.hid (And.intro o6 (And.intro bw6 g6))
          clear hp hbs e1 hbl0 hab hic o6 bw6 g6 hrj hIL
          go_wp2_with (first
            | (go_at_call 20; (with_reducible refine IC.out.mono ?_); rintro _ u ⟨A7, c7, rfl, hi, hbi⟩)
            | (at_builtin; refine wpList_append_rsE rfl _ _ rfl w.heap.size _ L6 rfl (by have h9 : OwnR u w.heap.size (.slice A6 k6 c6) L6 := r_later HF.out.1 hbi; exact h9) (k := IL) (n := IL.length) rfl rfl (own2_at hi) (by have := HLK.out; omega) (Nat.le_trans HF.out.2.1.size hbi.size) ?_; rintro v8 w8 r1 r2 -; obtain ⟨A8, c8, rfl, -⟩ := Own2.lies r1; have R1 := Lib.hid r1; have R2 := Lib.hid r2; clear r1 r2))
          have o9 : OwnR u w.heap.size (.slice A6 k6 c6) L6 := r_later HF.out.1 hbi
          have bw9 := (Below.step HF.out.2.1 hbi).trans (below_grow R2.out (fun q e => (World.ownsRow.lt o9 q e).1) (Nat.le_trans HF.out.2.1.size hbi.size))
          have g9 := held_grown (HF.out.2.2.below hbi) R2.out (fun e => r_apart o9 (HF.out.2.2.below hbi) (by decide) _ e rfl)
          have HG := Lib.hid (And.intro bw9 g9)
          clear o9 bw9 g9 HF IC R2 hbi hi x7 k0 k1 k2 k3
          go_roundw
          case rel => exact ⟨j + 1, (L6 ++ IL).length, A8, c8, by go_num, by rw [List.length_append], by omega, by rw [HST2.out], by rw [HST2.out]; exact R1.out, HG.out.1, HG.out.2⟩
          case measure => simp [intOf]; omega
    · obtain rfl : j = W.rings.length := by omega
      have HF := Lib.hid (And.intro ho (And.intro hbw hk))
      have x7 := g1.cell 7
      simp at x7
      clear ho hbw hk hp hbs g1
      go_wp2_with fail
      go_ret
      obtain ⟨ho, hbw, hk⟩ := HF.out
      refine ⟨A9, c9, ?_, ?_, hbw⟩
      · unfold readyW; rw [hk]; rfl
      · unfold readyW; rw [hk]; exact ho
end Go.Proofs.YtjibkgildfjjoaaGreatDoor

