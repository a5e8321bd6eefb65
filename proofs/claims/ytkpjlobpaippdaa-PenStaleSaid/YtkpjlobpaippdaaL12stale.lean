/- PenStale. -/
import Derived.Test.YtkpjlobpaippdaaYl
import Derived.Test.YtkpjlobpaippdaaYz
import Derived.Test.YtkpjlobpaippdaaYfl
import Derived.Test.YtkpjlobpaippdaaYq2
import Derived.Test.YtkpjlobpaippdaaYw
import Derived.Deep.DeepCutAuto
import Derived.Deep.CutBlock
namespace Go.Proofs.Ytkpjlobpaippdaa.penStale
set_option linter.unusedVariables false
set_option linter.unusedSimpArgs false
open Go.RowKit Go.ChangeShapes Go.WideShapes Go.ChangeAt Go.Sort Go.Proofs.Ytkpjlobpaippdaa

theorem rsame_c {P Q : Zp} {R : Bool} (hR : decide (P = Q) = R) (hl : LenZ P) (hl' : LenZ Q) (c c2 c3 c4 : Nat) (W : World) {A A2 A3 A4 : Option Addr} (hp : PAtZ W W.heap.size A A2 P) (hq : PAtZ W W.heap.size A3 A4 Q) :
    Calls Try.prog 22 #[pv A P.cells.length c A2 P.free.length c2 P.most, pv A3 Q.cells.length c3 A4 Q.free.length c4 Q.most] W fun e w' => e = .returned (.bool R) ∧ Below W.heap.size W w' := by
  subst hR
  exact rsame_z c c2 c3 c4 W rfl rfl rfl rfl hp hq hl hl' (Nat.le_refl _) (Nat.le_refl _)
theorem plain (p : Zp) (r : V) (f : Frm) : ∃ F SA SB : _, ∃ x y : Int, ∃ u : Bool, getZ p r = (F, u) ∧ setZ p r f = (SA, x) ∧ dropZ p r = (SB, y) ∧ ((u = true ∧ x = 0 ∧ y = 0) ∨ (u = false ∧ (x ≠ 0 ∧ y ≠ 0) ∧ SA = p ∧ SB = p)) := by
  cases h : okZ p with
  | false => exact ⟨_, _, _, _, _, _, if_neg (by rw [h]; simp), set_no f h, drop_no h, .inr ⟨rfl, ⟨by decide, by decide⟩, rfl, rfl⟩⟩
  | true =>
    cases h2 : hasZ p r with
    | false => exact ⟨_, _, _, _, _, _, get_none h2, set_no2 f h h2, drop_no2 h h2, .inr ⟨rfl, ⟨by decide, by decide⟩, rfl, rfl⟩⟩
    | true =>
      obtain ⟨j, g, e, hc⟩ := has_at.1 h2
      obtain ⟨S, e1, -⟩ := set_ok f h h2
      obtain ⟨T, e2, -⟩ := drop_ok h h2
      exact ⟨_, _, _, _, _, _, get_at h e hc, e1, e2, .inl ⟨rfl, rfl, rfl⟩⟩
theorem each (p : Zp) (k : Nat) (hk : k < (refsZ p).length) : (∃ u, getZ p (refsZ p)[k] = (u, true)) ∧ ∀ i (h : i < k), ((refsZ p)[i]'(by omega)).1 < (refsZ p)[k].1 := by
  have h : okZ p = true := by
    cases h : okZ p with
    | true => rfl
    | false =>
      unfold refsZ at hk
      rw [h] at hk
      simp at hk
  obtain ⟨j, g, e, hc⟩ := has_at.1 ((refs_mem h _).1 (List.getElem_mem hk))
  refine ⟨⟨g, get_at h e hc⟩, fun i hi => ?_⟩
  have hs := refsL_sort p.cells 0
  rw [← refsZ_ok h] at hs
  exact List.pairwise_iff_getElem.1 hs i k (by omega) hk hi
set_option maxHeartbeats 8000000 in
set_option maxRecDepth 100000 in
theorem walk (CF : ∀ w, Calls Try.prog 11 #[] w fun e w' => e = .returned (.bool true) ∧ Below w.heap.size w w') {A A2 : Option Addr} {p : Zp} {f : Frm} {fs : Array Value} {B : Nat} (c c2 : Nat) (r : V) (w : World) (hp : PAtZ w B A A2 p) (hf : FrmAt w B (.agg fs) f) (hfs : fs.size = 16) (hfn : fs.all (·.oneCell') = true) (hB : B ≤ w.heap.size) (hl1 : p.cells.length ≤ maxLen) (hl2 : p.free.length ≤ maxLen) :
    Calls Try.prog 5 #[pv A p.cells.length c A2 p.free.length c2 p.most, gv r.1 r.2, .agg fs] w fun e w' => e = .returned (.bool true) ∧ Below w.heap.size w w' := by
  have hW : Below w.heap.size w (((w.alloc (.cells (pc A p.cells.length c A2 p.free.length c2 p.most) 25)).alloc (.cells (refc r.1 r.2) 27)).alloc (.cells fs 35)) := below3 w _ _ _
  have v3 : PR (((w.alloc (.cells (pc A p.cells.length c A2 p.free.length c2 p.most) 25)).alloc (.cells (refc r.1 r.2) 27)).alloc (.cells fs 35)) w.heap.size A c A2 c2 p := ⟨((Held.new w 25 (pc A p.cells.length c A2 p.free.length c2 p.most)).alloc (.cells (refc r.1 r.2) 27)).alloc (.cells fs 35), (hp.below hW hB).more (Nat.le_trans hB hW.size)⟩
  have v4 : Held (((w.alloc (.cells (pc A p.cells.length c A2 p.free.length c2 p.most) 25)).alloc (.cells (refc r.1 r.2) 27)).alloc (.cells fs 35)) (w.heap.size + 1) 27 (refc r.1 r.2) := (Held.new1 w (.cells (pc A p.cells.length c A2 p.free.length c2 p.most) 25) 27 (refc r.1 r.2)).alloc (.cells fs 35)
  have v5 : FV (((w.alloc (.cells (pc A p.cells.length c A2 p.free.length c2 p.most) 25)).alloc (.cells (refc r.1 r.2) 27)).alloc (.cells fs 35)) (w.heap.size + 1 + 1) fs f := ⟨Held.new2 w (.cells (pc A p.cells.length c A2 p.free.length c2 p.most) 25) (.cells (refc r.1 r.2) 27) 35 fs, hfs, hfn, (hf.below hW hB).more (Nat.le_trans hB hW.size)⟩
  have HL1 := Lib.hid hl1
  have HL2 := Lib.hid hl2
  obtain ⟨b1, hb1⟩ : ∃ b, smZ p 30 = b := ⟨_, rfl⟩
  obtain ⟨b2, hb2⟩ : ∃ b, smB f = b := ⟨_, rfl⟩
  have H1 := Lib.hid hb1
  have H2 := Lib.hid hb2
  clear hp hf hfs hfn hB hl1 hl2 hb1 hb2
  go_enter Try.func5, Try.ntmps5
  go_upto_region 1 with (guard_target = wpList _ _ _ (Oper.mk (some 5) _ _ _ _ none :: _) _ _; refine wpList_box_arr rfl 35 _ rfl fs rfl ?_)
  generalize (((w.alloc (.cells (pc A p.cells.length c A2 p.free.length c2 p.most) 25)).alloc (.cells (refc r.1 r.2) 27)).alloc (.cells fs 35)) = W0 at *
  cases b1
  case false =>
    go_wp2_with (first
      | (go_at_call 11; (with_reducible refine (CF _).mono ?_); rintro _ uf ⟨rfl, hbf⟩; replace v3 := v3.below hbf; replace v4 := Held.below v4 hbf; replace v5 := v5.below hbf; replace hW := Below.step hW hbf)
      | (guard_target = wpList _ _ _ (Oper.mk (some 21) _ _ _ _ _ :: _) _ _; refine wpList_done rfl ?_; refine wpList_load_row rfl 25 _ rfl w.heap.size rfl _ _ _ _ v3.x Try.underlying25 rfl (by kernel_rfl) ?_)
      | (go_at_call 9; (with_reducible refine (small_c H1.out HL1.out HL2.out c c2 _ v3.p).mono ?_); rintro _ us ⟨rfl, hbs⟩; replace v3 := v3.below hbs; replace v4 := Held.below v4 hbs; replace v5 := v5.below hbs; replace hW := Below.step hW hbs)
      | (guard_target = wpList _ _ _ (Oper.mk (some 26) _ _ _ _ _ :: _) _ _; refine wpList_done rfl ?_; refine wpList_load_row rfl 35 _ rfl (w.heap.size + 1 + 1) rfl _ _ _ _ v5.x Try.underlying35 rfl (by rw [v5.s]; kernel_rfl) ?_)
      | (go_at_call 10; (with_reducible refine (smallf_c H2.out _ v5.p).mono ?_); rintro _ ut ⟨rfl, hbt⟩; replace v3 := v3.below hbt; replace v4 := Held.below v4 hbt; replace v5 := v5.below hbt; replace hW := Below.step hW hbt))
    go_ret
    exact ⟨rfl, hW⟩
  case true =>
  cases b2
  case false =>
    go_wp2_with (first
      | (go_at_call 11; (with_reducible refine (CF _).mono ?_); rintro _ uf ⟨rfl, hbf⟩; replace v3 := v3.below hbf; replace v4 := Held.below v4 hbf; replace v5 := v5.below hbf; replace hW := Below.step hW hbf)
      | (guard_target = wpList _ _ _ (Oper.mk (some 21) _ _ _ _ _ :: _) _ _; refine wpList_done rfl ?_; refine wpList_load_row rfl 25 _ rfl w.heap.size rfl _ _ _ _ v3.x Try.underlying25 rfl (by kernel_rfl) ?_)
      | (go_at_call 9; (with_reducible refine (small_c H1.out HL1.out HL2.out c c2 _ v3.p).mono ?_); rintro _ us ⟨rfl, hbs⟩; replace v3 := v3.below hbs; replace v4 := Held.below v4 hbs; replace v5 := v5.below hbs; replace hW := Below.step hW hbs)
      | (guard_target = wpList _ _ _ (Oper.mk (some 26) _ _ _ _ _ :: _) _ _; refine wpList_done rfl ?_; refine wpList_load_row rfl 35 _ rfl (w.heap.size + 1 + 1) rfl _ _ _ _ v5.x Try.underlying35 rfl (by rw [v5.s]; kernel_rfl) ?_)
      | (go_at_call 10; (with_reducible refine (smallf_c H2.out _ v5.p).mono ?_); rintro _ ut ⟨rfl, hbt⟩; replace v3 := v3.below hbt; replace v4 := Held.below v4 hbt; replace v5 := v5.below hbt; replace hW := Below.step hW hbt))
    go_ret
    exact ⟨rfl, hW⟩
  case true =>
  have SP : SmP p 30 := by
    have h9 := H1.out
    unfold smZ at h9
    simp only [Bool.and_eq_true, decide_eq_true_eq, List.all_eq_true] at h9
    exact ⟨h9.1.1, h9.1.2, fun x hx => sm_frm (h9.2 x hx)⟩
  have LF := sm_frm H2.out
  have LP := SP.len (by decide)
  have hcl : p.cells.length ≤ 10000 := by have := SP.cells; omega
  have hfl : p.free.length ≤ 10000 := by have := SP.free; omega
  obtain ⟨L, hL⟩ : ∃ L, refsZ p = L := ⟨_, rfl⟩
  obtain ⟨GF, SA, SB, x, y, u, eg, es, ed, hxy⟩ := plain p r f
  have PA := set_sm es SP LF
  have PB := drop_sm ed SP
  have LA := PA.len (by decide)
  have LB := PB.len (by decide)
  have hLn : L.length ≤ 30 := by
    rw [← hL]
    unfold refsZ
    split
    · have := refsL_len p.cells 0
      have := SP.cells
      omega
    · simp
  have EG := Lib.hid eg
  have ES := Lib.hid es
  have ED := Lib.hid ed
  have HXY := Lib.hid hxy
  have HLR := Lib.hid hL
  clear eg es ed hxy hL
  go_upto_region 3 with (first
    | (go_at_call 11; (with_reducible refine (CF _).mono ?_); rintro _ uf ⟨rfl, hbf⟩; replace v3 := v3.below hbf; replace v4 := Held.below v4 hbf; replace v5 := v5.below hbf; replace hW := Below.step hW hbf)
    | (guard_target = wpList _ _ _ (Oper.mk (some 21) _ _ _ _ _ :: _) _ _; refine wpList_done rfl ?_; refine wpList_load_row rfl 25 _ rfl w.heap.size rfl _ _ _ _ v3.x Try.underlying25 rfl (by kernel_rfl) ?_)
    | (go_at_call 9; (with_reducible refine (small_c H1.out HL1.out HL2.out c c2 _ v3.p).mono ?_); rintro _ us ⟨rfl, hbs⟩; replace v3 := v3.below hbs; replace v4 := Held.below v4 hbs; replace v5 := v5.below hbs; replace hW := Below.step hW hbs)
    | (guard_target = wpList _ _ _ (Oper.mk (some 26) _ _ _ _ _ :: _) _ _; refine wpList_done rfl ?_; refine wpList_load_row rfl 35 _ rfl (w.heap.size + 1 + 1) rfl _ _ _ _ v5.x Try.underlying35 rfl (by rw [v5.s]; kernel_rfl) ?_)
    | (go_at_call 10; (with_reducible refine (smallf_c H2.out _ v5.p).mono ?_); rintro _ ut ⟨rfl, hbt⟩; replace v3 := v3.below hbt; replace v4 := Held.below v4 hbt; replace v5 := v5.below hbt; replace hW := Below.step hW hbt))
  go_cut [7] from 31 to 41 (fun v7 wx => ∃ k7 A7 c7 B7 d7, v7 = .pointer (some ⟨k7, 0, none⟩) ∧ PR wx k7 A7 c7 B7 d7 p ∧ Below ut.heap.size ut wx)
  case first =>
    have hdr := (Below.refl ut.heap.size ut).drew
    have HDR := Lib.hid hdr
    replace v3 := v3.below hdr
    clear hdr
    refine wp_region_held_drew (S := fun W => Below ut.drew.heap.size ut.drew W) (by kernel_rfl) (Below.refl _ _) (fun hS => ?_)
    generalize ut.drew = Wq at *
    show wpAnyH _ _ _ _ _ 13 #[false, false, false, false, false, false, false, false, false, false, false, false, false] _ _
    refine wpAnyH_begin (by kernel_rfl) (fun HNS => ?_)
    refine wpAnyH_takeS HNS (i := 1) (v := .pointer (some ⟨w.heap.size, 0, none⟩)) rfl (by kernel_rfl) (by kernel_rfl) (fun _ _ _ h => h) (Or.inl ⟨by kernel_rfl, fun W hW => ?_⟩) hS ?_
    · go_simp
    simp only [Act.put, List.getElem_toArray, List.getElem_cons_succ, List.getElem_cons_zero, List.setIfInBounds_toArray, List.set_cons_zero, List.set_cons_succ]
    refine wpAnyH_takeS HNS (i := 2) (v := .slice A p.cells.length c) rfl (by kernel_rfl) (by kernel_rfl) (fun _ _ _ h => h) (Or.inl ⟨by kernel_rfl, fun W hW => ?_⟩) hS ?_
    · (have hz := Held.below v3.x hW; have z0 := hz.cell 0; simp at z0; go_simp)
    simp only [Act.put, List.getElem_toArray, List.getElem_cons_succ, List.getElem_cons_zero, List.setIfInBounds_toArray, List.set_cons_zero, List.set_cons_succ]
    refine wpAnyH_takeS HNS (i := 5) (v := .pointer (some ⟨w.heap.size, 1, none⟩)) rfl (by kernel_rfl) (by kernel_rfl) (fun _ _ _ h => h) (Or.inl ⟨by kernel_rfl, fun W hW => ?_⟩) hS ?_
    · go_simp
    simp only [Act.put, List.getElem_toArray, List.getElem_cons_succ, List.getElem_cons_zero, List.setIfInBounds_toArray, List.set_cons_zero, List.set_cons_succ]
    refine wpAnyH_takeS HNS (i := 6) (v := .slice A2 p.free.length c2) rfl (by kernel_rfl) (by kernel_rfl) (fun _ _ _ h => h) (Or.inl ⟨by kernel_rfl, fun W hW => ?_⟩) hS ?_
    · (have hz := Held.below v3.x hW; have z0 := hz.cell 1; simp at z0; go_simp)
    simp only [Act.put, List.getElem_toArray, List.getElem_cons_succ, List.getElem_cons_zero, List.setIfInBounds_toArray, List.set_cons_zero, List.set_cons_succ]
    refine wpAnyH_takeS HNS (i := 8) (v := .pointer (some ⟨w.heap.size, 2, none⟩)) rfl (by kernel_rfl) (by kernel_rfl) (fun _ _ _ h => h) (Or.inl ⟨by kernel_rfl, fun W hW => ?_⟩) hS ?_
    · go_simp
    simp only [Act.put, List.getElem_toArray, List.getElem_cons_succ, List.getElem_cons_zero, List.setIfInBounds_toArray, List.set_cons_zero, List.set_cons_succ]
    refine wpAnyH_takeS HNS (i := 9) (v := .int .i64 p.most) rfl (by kernel_rfl) (by kernel_rfl) (fun _ _ _ h => h) (Or.inl ⟨by kernel_rfl, fun W hW => ?_⟩) hS ?_
    · (have hz := Held.below v3.x hW; have z0 := hz.cell 2; simp at z0; go_simp)
    simp only [Act.put, List.getElem_toArray, List.getElem_cons_succ, List.getElem_cons_zero, List.setIfInBounds_toArray, List.set_cons_zero, List.set_cons_succ]
    refine wpAnyH_ready (rs := [0, 4, 11]) (by kernel_rfl) (by simp) ?_
    refine (AllReadyH.cons rfl (fun K hK => ?_) (AllReadyH.cons rfl (fun K hK => ?_) (AllReadyH.cons rfl (fun K hK => ?_) AllReadyH.nil)))
    · rw [if_pos (by kernel_rfl)]
      refine wp_build0C rfl ?_
      have hbA := ((Below.refl _ _).alloc (Nat.le_refl _) _ : Below Wq.heap.size Wq (Wq.alloc (.cells #[] 62)))
      have bc := row_mono ((fun W => (World.ownsRow_made W #[] 0 (Nat.le_refl _) (by decide) rfl : (W.alloc (.cells #[] 62)).ownsRow W.heap.size 62 18 (.slice (some ⟨W.heap.size, 0, none⟩) 0 0) 0 [])) Wq) hS.size
      replace hS := Below.step hS hbA
      clear hbA
      generalize Wq.alloc (.cells #[] 62) = Wd1 at *
      refine hK.out _ _ hS (fun _ => ?_)
      clear hK K
      (try simp only [Act.put, List.getElem_toArray, List.getElem_cons_succ, List.getElem_cons_zero, List.setIfInBounds_toArray, List.set_cons_zero, List.set_cons_succ])
      refine wpAnyH_ready (rs := [3, 4, 11]) (by kernel_rfl) (by simp) ?_
      refine (AllReadyH.cons rfl (fun K hK => ?_) (AllReadyH.cons rfl (fun K hK => ?_) (AllReadyH.cons rfl (fun K hK => ?_) AllReadyH.nil)))
      · rw [if_pos (by kernel_rfl)]
        refine wp_append_c0 (.tmp 31) (.tmp 33) rfl Wq.heap.size rfl bc rfl rfl (v3.p.cells.below hS (Nat.le_refl _)) (Nat.le_refl _) hS.size hcl ?_
        intro Arc crc Wd2 rc hkA hbA
        replace hS := Below.trans hS hbA
        clear hbA hkA bc
        refine hK.out _ _ hS (fun _ => ?_)
        clear hK K
        (try simp only [Act.put, List.getElem_toArray, List.getElem_cons_succ, List.getElem_cons_zero, List.setIfInBounds_toArray, List.set_cons_zero, List.set_cons_succ])
        refine wpAnyH_ready (rs := [4, 11]) (by kernel_rfl) (by simp) ?_
        refine (AllReadyH.cons rfl (fun K hK => ?_) (AllReadyH.cons rfl (fun K hK => ?_) AllReadyH.nil))
        · rw [if_pos (by kernel_rfl)]
          refine wp_build0I rfl ?_
          have hbA := ((Below.refl _ _).alloc (Nat.le_refl _) _ : Below Wd2.heap.size Wd2 (Wd2.alloc (.cells #[] 3)))
          replace rc := rc.below hbA hS.size
          have bi := row_mono (OwnI.made Wd2) hS.size
          replace hS := Below.step hS hbA
          clear hbA
          generalize Wd2.alloc (.cells #[] 3) = Wd3 at *
          refine hK.out _ _ hS (fun _ => ?_)
          clear hK K
          (try simp only [Act.put, List.getElem_toArray, List.getElem_cons_succ, List.getElem_cons_zero, List.setIfInBounds_toArray, List.set_cons_zero, List.set_cons_succ])
          refine wpAnyH_ready (rs := [7, 11]) (by kernel_rfl) (by simp) ?_
          refine (AllReadyH.cons rfl (fun K hK => ?_) (AllReadyH.cons rfl (fun K hK => ?_) AllReadyH.nil))
          · rw [if_pos (by kernel_rfl)]
            refine wp_append_i0 (.tmp 35) (.tmp 37) rfl Wq.heap.size rfl bi rfl rfl (v3.p.free.below hS (Nat.le_refl _)) hS.size hfl ?_
            intro Ari cri Wd4 ri hkA hbA
            replace rc := rc.turn hkA (by decide) hbA (Nat.le_refl _)
            replace hS := Below.trans hS hbA
            clear hbA hkA bi
            refine hK.out _ _ hS (fun _ => ?_)
            clear hK K
            (try simp only [Act.put, List.getElem_toArray, List.getElem_cons_succ, List.getElem_cons_zero, List.setIfInBounds_toArray, List.set_cons_zero, List.set_cons_succ])
            refine wpAnyH_takeS HNS (i := 10) (v := .agg (pc Arc p.cells.length crc Ari p.free.length cri p.most)) rfl (by kernel_rfl) (by kernel_rfl) (fun _ _ _ h => h) (Or.inl ⟨by kernel_rfl, fun W hW => ?_⟩) hS ?_
            · go_simp
            simp only [Act.put, List.getElem_toArray, List.getElem_cons_succ, List.getElem_cons_zero, List.setIfInBounds_toArray, List.set_cons_zero, List.set_cons_succ]
            refine wpAnyH_ready (rs := [11]) (by kernel_rfl) (by simp) ?_
            refine (AllReadyH.cons rfl (fun K hK => ?_) AllReadyH.nil)
            · rw [if_pos (by kernel_rfl)]
              refine wp_alloc_R 25 rfl pz0 (by kernel_rfl) ?_
              have hbA := ((Below.refl _ _).alloc (Nat.le_refl _) _ : Below Wd4.heap.size Wd4 (Wd4.alloc (.cells pz0 25)))
              replace rc := rc.below hbA hS.size
              replace ri := r_later ri hbA
              have h7 := Held.new Wd4 25 pz0
              have l7 := hS.size
              replace hS := Below.step hS hbA
              clear hbA
              generalize Wd4.alloc (.cells pz0 25) = Wd5 at *
              refine hK.out _ _ hS (fun _ => ?_)
              clear hK K
              (try simp only [Act.put, List.getElem_toArray, List.getElem_cons_succ, List.getElem_cons_zero, List.setIfInBounds_toArray, List.set_cons_zero, List.set_cons_succ])
              refine wpAnyH_ready (rs := [12]) (by kernel_rfl) (by simp) ?_
              refine (AllReadyH.cons rfl (fun K hK => ?_) AllReadyH.nil)
              · rw [if_pos (by kernel_rfl)]
                refine wp_store_row 25 _ _ rfl _ (pc Arc p.cells.length crc Ari p.free.length cri p.most) (by rfl) (by rfl) _ _ h7 (by kernel_rfl) rfl (by simp [Value.oneCell']) ?_
                have hk7 := kt_row h7 (pc Arc p.cells.length crc Ari p.free.length cri p.most)
                have hf7 := held_rowSelf h7 (pc Arc p.cells.length crc Ari p.free.length cri p.most)
                have rc7 := rc.turn hk7 (by decide) (below_setRow (Below.refl _ _) l7 (pc Arc p.cells.length crc Ari p.free.length cri p.most)) (Nat.le_refl _)
                have ri7 := row_kt ri hk7 (by decide)
                replace hS := below_setRow hS l7 (pc Arc p.cells.length crc Ari p.free.length cri p.most)
                clear rc ri h7 hk7
                generalize World.setRow _ _ (pc Arc p.cells.length crc Ari p.free.length cri p.most) = Wst at *
                refine hK.out _ _ hS (fun _ => ?_)
                clear hK K
                (try simp only [Act.put, List.getElem_toArray, List.getElem_cons_succ, List.getElem_cons_zero, List.setIfInBounds_toArray, List.set_cons_zero, List.set_cons_succ])
                refine wpAnyH_done (by kernel_rfl) ?_ _
                go_wp2_with fail
                go_meet
                case rel => exact ⟨_, _, _, _, _, rfl, ⟨hf7, ⟨rc7.at rfl hS.size, (OwnI.at ri7)⟩⟩, Below.step HDR.out hS⟩
          · rw [if_pos (by kernel_rfl)]
            refine wp_alloc_R 25 rfl pz0 (by kernel_rfl) ?_
            have hbA := ((Below.refl _ _).alloc (Nat.le_refl _) _ : Below Wd3.heap.size Wd3 (Wd3.alloc (.cells pz0 25)))
            replace rc := rc.below hbA hS.size
            replace bi := r_later bi hbA
            have h7 := Held.new Wd3 25 pz0
            have l7 := hS.size
            replace hS := Below.step hS hbA
            clear hbA
            generalize Wd3.alloc (.cells pz0 25) = Wd6 at *
            refine hK.out _ _ hS (fun _ => ?_)
            clear hK K
            (try simp only [Act.put, List.getElem_toArray, List.getElem_cons_succ, List.getElem_cons_zero, List.setIfInBounds_toArray, List.set_cons_zero, List.set_cons_succ])
            refine wpAnyH_ready (rs := [7]) (by kernel_rfl) (by simp) ?_
            refine (AllReadyH.cons rfl (fun K hK => ?_) AllReadyH.nil)
            · rw [if_pos (by kernel_rfl)]
              refine wp_append_i0 (.tmp 35) (.tmp 37) rfl Wq.heap.size rfl bi rfl rfl (v3.p.free.below hS (Nat.le_refl _)) hS.size hfl ?_
              intro Ari cri Wd7 ri hkA hbA
              replace rc := rc.turn hkA (by decide) hbA (Nat.le_refl _)
              replace h7 := held_kt h7 hkA (by decide)
              replace hS := Below.trans hS hbA
              clear hbA hkA bi
              refine hK.out _ _ hS (fun _ => ?_)
              clear hK K
              (try simp only [Act.put, List.getElem_toArray, List.getElem_cons_succ, List.getElem_cons_zero, List.setIfInBounds_toArray, List.set_cons_zero, List.set_cons_succ])
              refine wpAnyH_takeS HNS (i := 10) (v := .agg (pc Arc p.cells.length crc Ari p.free.length cri p.most)) rfl (by kernel_rfl) (by kernel_rfl) (fun _ _ _ h => h) (Or.inl ⟨by kernel_rfl, fun W hW => ?_⟩) hS ?_
              · go_simp
              simp only [Act.put, List.getElem_toArray, List.getElem_cons_succ, List.getElem_cons_zero, List.setIfInBounds_toArray, List.set_cons_zero, List.set_cons_succ]
              refine wpAnyH_ready (rs := [12]) (by kernel_rfl) (by simp) ?_
              refine (AllReadyH.cons rfl (fun K hK => ?_) AllReadyH.nil)
              · rw [if_pos (by kernel_rfl)]
                refine wp_store_row 25 _ _ rfl _ (pc Arc p.cells.length crc Ari p.free.length cri p.most) (by rfl) (by rfl) _ _ h7 (by kernel_rfl) rfl (by simp [Value.oneCell']) ?_
                have hk7 := kt_row h7 (pc Arc p.cells.length crc Ari p.free.length cri p.most)
                have hf7 := held_rowSelf h7 (pc Arc p.cells.length crc Ari p.free.length cri p.most)
                have rc7 := rc.turn hk7 (by decide) (below_setRow (Below.refl _ _) l7 (pc Arc p.cells.length crc Ari p.free.length cri p.most)) (Nat.le_refl _)
                have ri7 := row_kt ri hk7 (by decide)
                replace hS := below_setRow hS l7 (pc Arc p.cells.length crc Ari p.free.length cri p.most)
                clear rc ri h7 hk7
                generalize World.setRow _ _ (pc Arc p.cells.length crc Ari p.free.length cri p.most) = Wst at *
                refine hK.out _ _ hS (fun _ => ?_)
                clear hK K
                (try simp only [Act.put, List.getElem_toArray, List.getElem_cons_succ, List.getElem_cons_zero, List.setIfInBounds_toArray, List.set_cons_zero, List.set_cons_succ])
                refine wpAnyH_done (by kernel_rfl) ?_ _
                go_wp2_with fail
                go_meet
                case rel => exact ⟨_, _, _, _, _, rfl, ⟨hf7, ⟨rc7.at rfl hS.size, (OwnI.at ri7)⟩⟩, Below.step HDR.out hS⟩
        · rw [if_pos (by kernel_rfl)]
          refine wp_alloc_R 25 rfl pz0 (by kernel_rfl) ?_
          have hbA := ((Below.refl _ _).alloc (Nat.le_refl _) _ : Below Wd2.heap.size Wd2 (Wd2.alloc (.cells pz0 25)))
          replace rc := rc.below hbA hS.size
          have h7 := Held.new Wd2 25 pz0
          have l7 := hS.size
          replace hS := Below.step hS hbA
          clear hbA
          generalize Wd2.alloc (.cells pz0 25) = Wd8 at *
          refine hK.out _ _ hS (fun _ => ?_)
          clear hK K
          (try simp only [Act.put, List.getElem_toArray, List.getElem_cons_succ, List.getElem_cons_zero, List.setIfInBounds_toArray, List.set_cons_zero, List.set_cons_succ])
          refine wpAnyH_ready (rs := [4]) (by kernel_rfl) (by simp) ?_
          refine (AllReadyH.cons rfl (fun K hK => ?_) AllReadyH.nil)
          · rw [if_pos (by kernel_rfl)]
            refine wp_build0I rfl ?_
            have hbA := ((Below.refl _ _).alloc (Nat.le_refl _) _ : Below Wd8.heap.size Wd8 (Wd8.alloc (.cells #[] 3)))
            replace rc := rc.below hbA hS.size
            replace h7 := Held.below h7 hbA
            have bi := row_mono (OwnI.made Wd8) hS.size
            replace hS := Below.step hS hbA
            clear hbA
            generalize Wd8.alloc (.cells #[] 3) = Wd9 at *
            refine hK.out _ _ hS (fun _ => ?_)
            clear hK K
            (try simp only [Act.put, List.getElem_toArray, List.getElem_cons_succ, List.getElem_cons_zero, List.setIfInBounds_toArray, List.set_cons_zero, List.set_cons_succ])
            refine wpAnyH_ready (rs := [7]) (by kernel_rfl) (by simp) ?_
            refine (AllReadyH.cons rfl (fun K hK => ?_) AllReadyH.nil)
            · rw [if_pos (by kernel_rfl)]
              refine wp_append_i0 (.tmp 35) (.tmp 37) rfl Wq.heap.size rfl bi rfl rfl (v3.p.free.below hS (Nat.le_refl _)) hS.size hfl ?_
              intro Ari cri Wd10 ri hkA hbA
              replace rc := rc.turn hkA (by decide) hbA (Nat.le_refl _)
              replace h7 := held_kt h7 hkA (by decide)
              replace hS := Below.trans hS hbA
              clear hbA hkA bi
              refine hK.out _ _ hS (fun _ => ?_)
              clear hK K
              (try simp only [Act.put, List.getElem_toArray, List.getElem_cons_succ, List.getElem_cons_zero, List.setIfInBounds_toArray, List.set_cons_zero, List.set_cons_succ])
              refine wpAnyH_takeS HNS (i := 10) (v := .agg (pc Arc p.cells.length crc Ari p.free.length cri p.most)) rfl (by kernel_rfl) (by kernel_rfl) (fun _ _ _ h => h) (Or.inl ⟨by kernel_rfl, fun W hW => ?_⟩) hS ?_
              · go_simp
              simp only [Act.put, List.getElem_toArray, List.getElem_cons_succ, List.getElem_cons_zero, List.setIfInBounds_toArray, List.set_cons_zero, List.set_cons_succ]
              refine wpAnyH_ready (rs := [12]) (by kernel_rfl) (by simp) ?_
              refine (AllReadyH.cons rfl (fun K hK => ?_) AllReadyH.nil)
              · rw [if_pos (by kernel_rfl)]
                refine wp_store_row 25 _ _ rfl _ (pc Arc p.cells.length crc Ari p.free.length cri p.most) (by rfl) (by rfl) _ _ h7 (by kernel_rfl) rfl (by simp [Value.oneCell']) ?_
                have hk7 := kt_row h7 (pc Arc p.cells.length crc Ari p.free.length cri p.most)
                have hf7 := held_rowSelf h7 (pc Arc p.cells.length crc Ari p.free.length cri p.most)
                have rc7 := rc.turn hk7 (by decide) (below_setRow (Below.refl _ _) l7 (pc Arc p.cells.length crc Ari p.free.length cri p.most)) (Nat.le_refl _)
                have ri7 := row_kt ri hk7 (by decide)
                replace hS := below_setRow hS l7 (pc Arc p.cells.length crc Ari p.free.length cri p.most)
                clear rc ri h7 hk7
                generalize World.setRow _ _ (pc Arc p.cells.length crc Ari p.free.length cri p.most) = Wst at *
                refine hK.out _ _ hS (fun _ => ?_)
                clear hK K
                (try simp only [Act.put, List.getElem_toArray, List.getElem_cons_succ, List.getElem_cons_zero, List.setIfInBounds_toArray, List.set_cons_zero, List.set_cons_succ])
                refine wpAnyH_done (by kernel_rfl) ?_ _
                go_wp2_with fail
                go_meet
                case rel => exact ⟨_, _, _, _, _, rfl, ⟨hf7, ⟨rc7.at rfl hS.size, (OwnI.at ri7)⟩⟩, Below.step HDR.out hS⟩
      · rw [if_pos (by kernel_rfl)]
        refine wp_build0I rfl ?_
        have hbA := ((Below.refl _ _).alloc (Nat.le_refl _) _ : Below Wd1.heap.size Wd1 (Wd1.alloc (.cells #[] 3)))
        replace bc := r_later bc hbA
        have bi := row_mono (OwnI.made Wd1) hS.size
        replace hS := Below.step hS hbA
        clear hbA
        generalize Wd1.alloc (.cells #[] 3) = Wd11 at *
        refine hK.out _ _ hS (fun _ => ?_)
        clear hK K
        (try simp only [Act.put, List.getElem_toArray, List.getElem_cons_succ, List.getElem_cons_zero, List.setIfInBounds_toArray, List.set_cons_zero, List.set_cons_succ])
        refine wpAnyH_ready (rs := [3, 11]) (by kernel_rfl) (by simp) ?_
        refine (AllReadyH.cons rfl (fun K hK => ?_) (AllReadyH.cons rfl (fun K hK => ?_) AllReadyH.nil))
        · rw [if_pos (by kernel_rfl)]
          refine wp_append_c0 (.tmp 31) (.tmp 33) rfl Wq.heap.size rfl bc rfl rfl (v3.p.cells.below hS (Nat.le_refl _)) (Nat.le_refl _) hS.size hcl ?_
          intro Arc crc Wd12 rc hkA hbA
          replace bi := row_kt bi hkA (by decide)
          replace hS := Below.trans hS hbA
          clear hbA hkA bc
          refine hK.out _ _ hS (fun _ => ?_)
          clear hK K
          (try simp only [Act.put, List.getElem_toArray, List.getElem_cons_succ, List.getElem_cons_zero, List.setIfInBounds_toArray, List.set_cons_zero, List.set_cons_succ])
          refine wpAnyH_ready (rs := [7, 11]) (by kernel_rfl) (by simp) ?_
          refine (AllReadyH.cons rfl (fun K hK => ?_) (AllReadyH.cons rfl (fun K hK => ?_) AllReadyH.nil))
          · rw [if_pos (by kernel_rfl)]
            refine wp_append_i0 (.tmp 35) (.tmp 37) rfl Wq.heap.size rfl bi rfl rfl (v3.p.free.below hS (Nat.le_refl _)) hS.size hfl ?_
            intro Ari cri Wd13 ri hkA hbA
            replace rc := rc.turn hkA (by decide) hbA (Nat.le_refl _)
            replace hS := Below.trans hS hbA
            clear hbA hkA bi
            refine hK.out _ _ hS (fun _ => ?_)
            clear hK K
            (try simp only [Act.put, List.getElem_toArray, List.getElem_cons_succ, List.getElem_cons_zero, List.setIfInBounds_toArray, List.set_cons_zero, List.set_cons_succ])
            refine wpAnyH_takeS HNS (i := 10) (v := .agg (pc Arc p.cells.length crc Ari p.free.length cri p.most)) rfl (by kernel_rfl) (by kernel_rfl) (fun _ _ _ h => h) (Or.inl ⟨by kernel_rfl, fun W hW => ?_⟩) hS ?_
            · go_simp
            simp only [Act.put, List.getElem_toArray, List.getElem_cons_succ, List.getElem_cons_zero, List.setIfInBounds_toArray, List.set_cons_zero, List.set_cons_succ]
            refine wpAnyH_ready (rs := [11]) (by kernel_rfl) (by simp) ?_
            refine (AllReadyH.cons rfl (fun K hK => ?_) AllReadyH.nil)
            · rw [if_pos (by kernel_rfl)]
              refine wp_alloc_R 25 rfl pz0 (by kernel_rfl) ?_
              have hbA := ((Below.refl _ _).alloc (Nat.le_refl _) _ : Below Wd13.heap.size Wd13 (Wd13.alloc (.cells pz0 25)))
              replace rc := rc.below hbA hS.size
              replace ri := r_later ri hbA
              have h7 := Held.new Wd13 25 pz0
              have l7 := hS.size
              replace hS := Below.step hS hbA
              clear hbA
              generalize Wd13.alloc (.cells pz0 25) = Wd14 at *
              refine hK.out _ _ hS (fun _ => ?_)
              clear hK K
              (try simp only [Act.put, List.getElem_toArray, List.getElem_cons_succ, List.getElem_cons_zero, List.setIfInBounds_toArray, List.set_cons_zero, List.set_cons_succ])
              refine wpAnyH_ready (rs := [12]) (by kernel_rfl) (by simp) ?_
              refine (AllReadyH.cons rfl (fun K hK => ?_) AllReadyH.nil)
              · rw [if_pos (by kernel_rfl)]
                refine wp_store_row 25 _ _ rfl _ (pc Arc p.cells.length crc Ari p.free.length cri p.most) (by rfl) (by rfl) _ _ h7 (by kernel_rfl) rfl (by simp [Value.oneCell']) ?_
                have hk7 := kt_row h7 (pc Arc p.cells.length crc Ari p.free.length cri p.most)
                have hf7 := held_rowSelf h7 (pc Arc p.cells.length crc Ari p.free.length cri p.most)
                have rc7 := rc.turn hk7 (by decide) (below_setRow (Below.refl _ _) l7 (pc Arc p.cells.length crc Ari p.free.length cri p.most)) (Nat.le_refl _)
                have ri7 := row_kt ri hk7 (by decide)
                replace hS := below_setRow hS l7 (pc Arc p.cells.length crc Ari p.free.length cri p.most)
                clear rc ri h7 hk7
                generalize World.setRow _ _ (pc Arc p.cells.length crc Ari p.free.length cri p.most) = Wst at *
                refine hK.out _ _ hS (fun _ => ?_)
                clear hK K
                (try simp only [Act.put, List.getElem_toArray, List.getElem_cons_succ, List.getElem_cons_zero, List.setIfInBounds_toArray, List.set_cons_zero, List.set_cons_succ])
                refine wpAnyH_done (by kernel_rfl) ?_ _
                go_wp2_with fail
                go_meet
                case rel => exact ⟨_, _, _, _, _, rfl, ⟨hf7, ⟨rc7.at rfl hS.size, (OwnI.at ri7)⟩⟩, Below.step HDR.out hS⟩
          · rw [if_pos (by kernel_rfl)]
            refine wp_alloc_R 25 rfl pz0 (by kernel_rfl) ?_
            have hbA := ((Below.refl _ _).alloc (Nat.le_refl _) _ : Below Wd12.heap.size Wd12 (Wd12.alloc (.cells pz0 25)))
            replace bi := r_later bi hbA
            replace rc := rc.below hbA hS.size
            have h7 := Held.new Wd12 25 pz0
            have l7 := hS.size
            replace hS := Below.step hS hbA
            clear hbA
            generalize Wd12.alloc (.cells pz0 25) = Wd15 at *
            refine hK.out _ _ hS (fun _ => ?_)
            clear hK K
            (try simp only [Act.put, List.getElem_toArray, List.getElem_cons_succ, List.getElem_cons_zero, List.setIfInBounds_toArray, List.set_cons_zero, List.set_cons_succ])
            refine wpAnyH_ready (rs := [7]) (by kernel_rfl) (by simp) ?_
            refine (AllReadyH.cons rfl (fun K hK => ?_) AllReadyH.nil)
            · rw [if_pos (by kernel_rfl)]
              refine wp_append_i0 (.tmp 35) (.tmp 37) rfl Wq.heap.size rfl bi rfl rfl (v3.p.free.below hS (Nat.le_refl _)) hS.size hfl ?_
              intro Ari cri Wd16 ri hkA hbA
              replace rc := rc.turn hkA (by decide) hbA (Nat.le_refl _)
              replace h7 := held_kt h7 hkA (by decide)
              replace hS := Below.trans hS hbA
              clear hbA hkA bi
              refine hK.out _ _ hS (fun _ => ?_)
              clear hK K
              (try simp only [Act.put, List.getElem_toArray, List.getElem_cons_succ, List.getElem_cons_zero, List.setIfInBounds_toArray, List.set_cons_zero, List.set_cons_succ])
              refine wpAnyH_takeS HNS (i := 10) (v := .agg (pc Arc p.cells.length crc Ari p.free.length cri p.most)) rfl (by kernel_rfl) (by kernel_rfl) (fun _ _ _ h => h) (Or.inl ⟨by kernel_rfl, fun W hW => ?_⟩) hS ?_
              · go_simp
              simp only [Act.put, List.getElem_toArray, List.getElem_cons_succ, List.getElem_cons_zero, List.setIfInBounds_toArray, List.set_cons_zero, List.set_cons_succ]
              refine wpAnyH_ready (rs := [12]) (by kernel_rfl) (by simp) ?_
              refine (AllReadyH.cons rfl (fun K hK => ?_) AllReadyH.nil)
              · rw [if_pos (by kernel_rfl)]
                refine wp_store_row 25 _ _ rfl _ (pc Arc p.cells.length crc Ari p.free.length cri p.most) (by rfl) (by rfl) _ _ h7 (by kernel_rfl) rfl (by simp [Value.oneCell']) ?_
                have hk7 := kt_row h7 (pc Arc p.cells.length crc Ari p.free.length cri p.most)
                have hf7 := held_rowSelf h7 (pc Arc p.cells.length crc Ari p.free.length cri p.most)
                have rc7 := rc.turn hk7 (by decide) (below_setRow (Below.refl _ _) l7 (pc Arc p.cells.length crc Ari p.free.length cri p.most)) (Nat.le_refl _)
                have ri7 := row_kt ri hk7 (by decide)
                replace hS := below_setRow hS l7 (pc Arc p.cells.length crc Ari p.free.length cri p.most)
                clear rc ri h7 hk7
                generalize World.setRow _ _ (pc Arc p.cells.length crc Ari p.free.length cri p.most) = Wst at *
                refine hK.out _ _ hS (fun _ => ?_)
                clear hK K
                (try simp only [Act.put, List.getElem_toArray, List.getElem_cons_succ, List.getElem_cons_zero, List.setIfInBounds_toArray, List.set_cons_zero, List.set_cons_succ])
                refine wpAnyH_done (by kernel_rfl) ?_ _
                go_wp2_with fail
                go_meet
                case rel => exact ⟨_, _, _, _, _, rfl, ⟨hf7, ⟨rc7.at rfl hS.size, (OwnI.at ri7)⟩⟩, Below.step HDR.out hS⟩
        · rw [if_pos (by kernel_rfl)]
          refine wp_alloc_R 25 rfl pz0 (by kernel_rfl) ?_
          have hbA := ((Below.refl _ _).alloc (Nat.le_refl _) _ : Below Wd11.heap.size Wd11 (Wd11.alloc (.cells pz0 25)))
          replace bc := r_later bc hbA
          replace bi := r_later bi hbA
          have h7 := Held.new Wd11 25 pz0
          have l7 := hS.size
          replace hS := Below.step hS hbA
          clear hbA
          generalize Wd11.alloc (.cells pz0 25) = Wd17 at *
          refine hK.out _ _ hS (fun _ => ?_)
          clear hK K
          (try simp only [Act.put, List.getElem_toArray, List.getElem_cons_succ, List.getElem_cons_zero, List.setIfInBounds_toArray, List.set_cons_zero, List.set_cons_succ])
          refine wpAnyH_ready (rs := [3]) (by kernel_rfl) (by simp) ?_
          refine (AllReadyH.cons rfl (fun K hK => ?_) AllReadyH.nil)
          · rw [if_pos (by kernel_rfl)]
            refine wp_append_c0 (.tmp 31) (.tmp 33) rfl Wq.heap.size rfl bc rfl rfl (v3.p.cells.below hS (Nat.le_refl _)) (Nat.le_refl _) hS.size hcl ?_
            intro Arc crc Wd18 rc hkA hbA
            replace bi := row_kt bi hkA (by decide)
            replace h7 := held_kt h7 hkA (by decide)
            replace hS := Below.trans hS hbA
            clear hbA hkA bc
            refine hK.out _ _ hS (fun _ => ?_)
            clear hK K
            (try simp only [Act.put, List.getElem_toArray, List.getElem_cons_succ, List.getElem_cons_zero, List.setIfInBounds_toArray, List.set_cons_zero, List.set_cons_succ])
            refine wpAnyH_ready (rs := [7]) (by kernel_rfl) (by simp) ?_
            refine (AllReadyH.cons rfl (fun K hK => ?_) AllReadyH.nil)
            · rw [if_pos (by kernel_rfl)]
              refine wp_append_i0 (.tmp 35) (.tmp 37) rfl Wq.heap.size rfl bi rfl rfl (v3.p.free.below hS (Nat.le_refl _)) hS.size hfl ?_
              intro Ari cri Wd19 ri hkA hbA
              replace h7 := held_kt h7 hkA (by decide)
              replace rc := rc.turn hkA (by decide) hbA (Nat.le_refl _)
              replace hS := Below.trans hS hbA
              clear hbA hkA bi
              refine hK.out _ _ hS (fun _ => ?_)
              clear hK K
              (try simp only [Act.put, List.getElem_toArray, List.getElem_cons_succ, List.getElem_cons_zero, List.setIfInBounds_toArray, List.set_cons_zero, List.set_cons_succ])
              refine wpAnyH_takeS HNS (i := 10) (v := .agg (pc Arc p.cells.length crc Ari p.free.length cri p.most)) rfl (by kernel_rfl) (by kernel_rfl) (fun _ _ _ h => h) (Or.inl ⟨by kernel_rfl, fun W hW => ?_⟩) hS ?_
              · go_simp
              simp only [Act.put, List.getElem_toArray, List.getElem_cons_succ, List.getElem_cons_zero, List.setIfInBounds_toArray, List.set_cons_zero, List.set_cons_succ]
              refine wpAnyH_ready (rs := [12]) (by kernel_rfl) (by simp) ?_
              refine (AllReadyH.cons rfl (fun K hK => ?_) AllReadyH.nil)
              · rw [if_pos (by kernel_rfl)]
                refine wp_store_row 25 _ _ rfl _ (pc Arc p.cells.length crc Ari p.free.length cri p.most) (by rfl) (by rfl) _ _ h7 (by kernel_rfl) rfl (by simp [Value.oneCell']) ?_
                have hk7 := kt_row h7 (pc Arc p.cells.length crc Ari p.free.length cri p.most)
                have hf7 := held_rowSelf h7 (pc Arc p.cells.length crc Ari p.free.length cri p.most)
                have rc7 := rc.turn hk7 (by decide) (below_setRow (Below.refl _ _) l7 (pc Arc p.cells.length crc Ari p.free.length cri p.most)) (Nat.le_refl _)
                have ri7 := row_kt ri hk7 (by decide)
                replace hS := below_setRow hS l7 (pc Arc p.cells.length crc Ari p.free.length cri p.most)
                clear rc ri h7 hk7
                generalize World.setRow _ _ (pc Arc p.cells.length crc Ari p.free.length cri p.most) = Wst at *
                refine hK.out _ _ hS (fun _ => ?_)
                clear hK K
                (try simp only [Act.put, List.getElem_toArray, List.getElem_cons_succ, List.getElem_cons_zero, List.setIfInBounds_toArray, List.set_cons_zero, List.set_cons_succ])
                refine wpAnyH_done (by kernel_rfl) ?_ _
                go_wp2_with fail
                go_meet
                case rel => exact ⟨_, _, _, _, _, rfl, ⟨hf7, ⟨rc7.at rfl hS.size, (OwnI.at ri7)⟩⟩, Below.step HDR.out hS⟩
      · rw [if_pos (by kernel_rfl)]
        refine wp_alloc_R 25 rfl pz0 (by kernel_rfl) ?_
        have hbA := ((Below.refl _ _).alloc (Nat.le_refl _) _ : Below Wd1.heap.size Wd1 (Wd1.alloc (.cells pz0 25)))
        replace bc := r_later bc hbA
        have h7 := Held.new Wd1 25 pz0
        have l7 := hS.size
        replace hS := Below.step hS hbA
        clear hbA
        generalize Wd1.alloc (.cells pz0 25) = Wd20 at *
        refine hK.out _ _ hS (fun _ => ?_)
        clear hK K
        (try simp only [Act.put, List.getElem_toArray, List.getElem_cons_succ, List.getElem_cons_zero, List.setIfInBounds_toArray, List.set_cons_zero, List.set_cons_succ])
        refine wpAnyH_ready (rs := [3, 4]) (by kernel_rfl) (by simp) ?_
        refine (AllReadyH.cons rfl (fun K hK => ?_) (AllReadyH.cons rfl (fun K hK => ?_) AllReadyH.nil))
        · rw [if_pos (by kernel_rfl)]
          refine wp_append_c0 (.tmp 31) (.tmp 33) rfl Wq.heap.size rfl bc rfl rfl (v3.p.cells.below hS (Nat.le_refl _)) (Nat.le_refl _) hS.size hcl ?_
          intro Arc crc Wd21 rc hkA hbA
          replace h7 := held_kt h7 hkA (by decide)
          replace hS := Below.trans hS hbA
          clear hbA hkA bc
          refine hK.out _ _ hS (fun _ => ?_)
          clear hK K
          (try simp only [Act.put, List.getElem_toArray, List.getElem_cons_succ, List.getElem_cons_zero, List.setIfInBounds_toArray, List.set_cons_zero, List.set_cons_succ])
          refine wpAnyH_ready (rs := [4]) (by kernel_rfl) (by simp) ?_
          refine (AllReadyH.cons rfl (fun K hK => ?_) AllReadyH.nil)
          · rw [if_pos (by kernel_rfl)]
            refine wp_build0I rfl ?_
            have hbA := ((Below.refl _ _).alloc (Nat.le_refl _) _ : Below Wd21.heap.size Wd21 (Wd21.alloc (.cells #[] 3)))
            replace h7 := Held.below h7 hbA
            replace rc := rc.below hbA hS.size
            have bi := row_mono (OwnI.made Wd21) hS.size
            replace hS := Below.step hS hbA
            clear hbA
            generalize Wd21.alloc (.cells #[] 3) = Wd22 at *
            refine hK.out _ _ hS (fun _ => ?_)
            clear hK K
            (try simp only [Act.put, List.getElem_toArray, List.getElem_cons_succ, List.getElem_cons_zero, List.setIfInBounds_toArray, List.set_cons_zero, List.set_cons_succ])
            refine wpAnyH_ready (rs := [7]) (by kernel_rfl) (by simp) ?_
            refine (AllReadyH.cons rfl (fun K hK => ?_) AllReadyH.nil)
            · rw [if_pos (by kernel_rfl)]
              refine wp_append_i0 (.tmp 35) (.tmp 37) rfl Wq.heap.size rfl bi rfl rfl (v3.p.free.below hS (Nat.le_refl _)) hS.size hfl ?_
              intro Ari cri Wd23 ri hkA hbA
              replace h7 := held_kt h7 hkA (by decide)
              replace rc := rc.turn hkA (by decide) hbA (Nat.le_refl _)
              replace hS := Below.trans hS hbA
              clear hbA hkA bi
              refine hK.out _ _ hS (fun _ => ?_)
              clear hK K
              (try simp only [Act.put, List.getElem_toArray, List.getElem_cons_succ, List.getElem_cons_zero, List.setIfInBounds_toArray, List.set_cons_zero, List.set_cons_succ])
              refine wpAnyH_takeS HNS (i := 10) (v := .agg (pc Arc p.cells.length crc Ari p.free.length cri p.most)) rfl (by kernel_rfl) (by kernel_rfl) (fun _ _ _ h => h) (Or.inl ⟨by kernel_rfl, fun W hW => ?_⟩) hS ?_
              · go_simp
              simp only [Act.put, List.getElem_toArray, List.getElem_cons_succ, List.getElem_cons_zero, List.setIfInBounds_toArray, List.set_cons_zero, List.set_cons_succ]
              refine wpAnyH_ready (rs := [12]) (by kernel_rfl) (by simp) ?_
              refine (AllReadyH.cons rfl (fun K hK => ?_) AllReadyH.nil)
              · rw [if_pos (by kernel_rfl)]
                refine wp_store_row 25 _ _ rfl _ (pc Arc p.cells.length crc Ari p.free.length cri p.most) (by rfl) (by rfl) _ _ h7 (by kernel_rfl) rfl (by simp [Value.oneCell']) ?_
                have hk7 := kt_row h7 (pc Arc p.cells.length crc Ari p.free.length cri p.most)
                have hf7 := held_rowSelf h7 (pc Arc p.cells.length crc Ari p.free.length cri p.most)
                have rc7 := rc.turn hk7 (by decide) (below_setRow (Below.refl _ _) l7 (pc Arc p.cells.length crc Ari p.free.length cri p.most)) (Nat.le_refl _)
                have ri7 := row_kt ri hk7 (by decide)
                replace hS := below_setRow hS l7 (pc Arc p.cells.length crc Ari p.free.length cri p.most)
                clear rc ri h7 hk7
                generalize World.setRow _ _ (pc Arc p.cells.length crc Ari p.free.length cri p.most) = Wst at *
                refine hK.out _ _ hS (fun _ => ?_)
                clear hK K
                (try simp only [Act.put, List.getElem_toArray, List.getElem_cons_succ, List.getElem_cons_zero, List.setIfInBounds_toArray, List.set_cons_zero, List.set_cons_succ])
                refine wpAnyH_done (by kernel_rfl) ?_ _
                go_wp2_with fail
                go_meet
                case rel => exact ⟨_, _, _, _, _, rfl, ⟨hf7, ⟨rc7.at rfl hS.size, (OwnI.at ri7)⟩⟩, Below.step HDR.out hS⟩
        · rw [if_pos (by kernel_rfl)]
          refine wp_build0I rfl ?_
          have hbA := ((Below.refl _ _).alloc (Nat.le_refl _) _ : Below Wd20.heap.size Wd20 (Wd20.alloc (.cells #[] 3)))
          replace bc := r_later bc hbA
          replace h7 := Held.below h7 hbA
          have bi := row_mono (OwnI.made Wd20) hS.size
          replace hS := Below.step hS hbA
          clear hbA
          generalize Wd20.alloc (.cells #[] 3) = Wd24 at *
          refine hK.out _ _ hS (fun _ => ?_)
          clear hK K
          (try simp only [Act.put, List.getElem_toArray, List.getElem_cons_succ, List.getElem_cons_zero, List.setIfInBounds_toArray, List.set_cons_zero, List.set_cons_succ])
          refine wpAnyH_ready (rs := [3]) (by kernel_rfl) (by simp) ?_
          refine (AllReadyH.cons rfl (fun K hK => ?_) AllReadyH.nil)
          · rw [if_pos (by kernel_rfl)]
            refine wp_append_c0 (.tmp 31) (.tmp 33) rfl Wq.heap.size rfl bc rfl rfl (v3.p.cells.below hS (Nat.le_refl _)) (Nat.le_refl _) hS.size hcl ?_
            intro Arc crc Wd25 rc hkA hbA
            replace h7 := held_kt h7 hkA (by decide)
            replace bi := row_kt bi hkA (by decide)
            replace hS := Below.trans hS hbA
            clear hbA hkA bc
            refine hK.out _ _ hS (fun _ => ?_)
            clear hK K
            (try simp only [Act.put, List.getElem_toArray, List.getElem_cons_succ, List.getElem_cons_zero, List.setIfInBounds_toArray, List.set_cons_zero, List.set_cons_succ])
            refine wpAnyH_ready (rs := [7]) (by kernel_rfl) (by simp) ?_
            refine (AllReadyH.cons rfl (fun K hK => ?_) AllReadyH.nil)
            · rw [if_pos (by kernel_rfl)]
              refine wp_append_i0 (.tmp 35) (.tmp 37) rfl Wq.heap.size rfl bi rfl rfl (v3.p.free.below hS (Nat.le_refl _)) hS.size hfl ?_
              intro Ari cri Wd26 ri hkA hbA
              replace h7 := held_kt h7 hkA (by decide)
              replace rc := rc.turn hkA (by decide) hbA (Nat.le_refl _)
              replace hS := Below.trans hS hbA
              clear hbA hkA bi
              refine hK.out _ _ hS (fun _ => ?_)
              clear hK K
              (try simp only [Act.put, List.getElem_toArray, List.getElem_cons_succ, List.getElem_cons_zero, List.setIfInBounds_toArray, List.set_cons_zero, List.set_cons_succ])
              refine wpAnyH_takeS HNS (i := 10) (v := .agg (pc Arc p.cells.length crc Ari p.free.length cri p.most)) rfl (by kernel_rfl) (by kernel_rfl) (fun _ _ _ h => h) (Or.inl ⟨by kernel_rfl, fun W hW => ?_⟩) hS ?_
              · go_simp
              simp only [Act.put, List.getElem_toArray, List.getElem_cons_succ, List.getElem_cons_zero, List.setIfInBounds_toArray, List.set_cons_zero, List.set_cons_succ]
              refine wpAnyH_ready (rs := [12]) (by kernel_rfl) (by simp) ?_
              refine (AllReadyH.cons rfl (fun K hK => ?_) AllReadyH.nil)
              · rw [if_pos (by kernel_rfl)]
                refine wp_store_row 25 _ _ rfl _ (pc Arc p.cells.length crc Ari p.free.length cri p.most) (by rfl) (by rfl) _ _ h7 (by kernel_rfl) rfl (by simp [Value.oneCell']) ?_
                have hk7 := kt_row h7 (pc Arc p.cells.length crc Ari p.free.length cri p.most)
                have hf7 := held_rowSelf h7 (pc Arc p.cells.length crc Ari p.free.length cri p.most)
                have rc7 := rc.turn hk7 (by decide) (below_setRow (Below.refl _ _) l7 (pc Arc p.cells.length crc Ari p.free.length cri p.most)) (Nat.le_refl _)
                have ri7 := row_kt ri hk7 (by decide)
                replace hS := below_setRow hS l7 (pc Arc p.cells.length crc Ari p.free.length cri p.most)
                clear rc ri h7 hk7
                generalize World.setRow _ _ (pc Arc p.cells.length crc Ari p.free.length cri p.most) = Wst at *
                refine hK.out _ _ hS (fun _ => ?_)
                clear hK K
                (try simp only [Act.put, List.getElem_toArray, List.getElem_cons_succ, List.getElem_cons_zero, List.setIfInBounds_toArray, List.set_cons_zero, List.set_cons_succ])
                refine wpAnyH_done (by kernel_rfl) ?_ _
                go_wp2_with fail
                go_meet
                case rel => exact ⟨_, _, _, _, _, rfl, ⟨hf7, ⟨rc7.at rfl hS.size, (OwnI.at ri7)⟩⟩, Below.step HDR.out hS⟩
    · rw [if_pos (by kernel_rfl)]
      refine wp_build0I rfl ?_
      have hbA := ((Below.refl _ _).alloc (Nat.le_refl _) _ : Below Wq.heap.size Wq (Wq.alloc (.cells #[] 3)))
      have bi := row_mono (OwnI.made Wq) hS.size
      replace hS := Below.step hS hbA
      clear hbA
      generalize Wq.alloc (.cells #[] 3) = Wd27 at *
      refine hK.out _ _ hS (fun _ => ?_)
      clear hK K
      (try simp only [Act.put, List.getElem_toArray, List.getElem_cons_succ, List.getElem_cons_zero, List.setIfInBounds_toArray, List.set_cons_zero, List.set_cons_succ])
      refine wpAnyH_ready (rs := [0, 11]) (by kernel_rfl) (by simp) ?_
      refine (AllReadyH.cons rfl (fun K hK => ?_) (AllReadyH.cons rfl (fun K hK => ?_) AllReadyH.nil))
      · rw [if_pos (by kernel_rfl)]
        refine wp_build0C rfl ?_
        have hbA := ((Below.refl _ _).alloc (Nat.le_refl _) _ : Below Wd27.heap.size Wd27 (Wd27.alloc (.cells #[] 62)))
        replace bi := r_later bi hbA
        have bc := row_mono ((fun W => (World.ownsRow_made W #[] 0 (Nat.le_refl _) (by decide) rfl : (W.alloc (.cells #[] 62)).ownsRow W.heap.size 62 18 (.slice (some ⟨W.heap.size, 0, none⟩) 0 0) 0 [])) Wd27) hS.size
        replace hS := Below.step hS hbA
        clear hbA
        generalize Wd27.alloc (.cells #[] 62) = Wd28 at *
        refine hK.out _ _ hS (fun _ => ?_)
        clear hK K
        (try simp only [Act.put, List.getElem_toArray, List.getElem_cons_succ, List.getElem_cons_zero, List.setIfInBounds_toArray, List.set_cons_zero, List.set_cons_succ])
        refine wpAnyH_ready (rs := [3, 11]) (by kernel_rfl) (by simp) ?_
        refine (AllReadyH.cons rfl (fun K hK => ?_) (AllReadyH.cons rfl (fun K hK => ?_) AllReadyH.nil))
        · rw [if_pos (by kernel_rfl)]
          refine wp_append_c0 (.tmp 31) (.tmp 33) rfl Wq.heap.size rfl bc rfl rfl (v3.p.cells.below hS (Nat.le_refl _)) (Nat.le_refl _) hS.size hcl ?_
          intro Arc crc Wd29 rc hkA hbA
          replace bi := row_kt bi hkA (by decide)
          replace hS := Below.trans hS hbA
          clear hbA hkA bc
          refine hK.out _ _ hS (fun _ => ?_)
          clear hK K
          (try simp only [Act.put, List.getElem_toArray, List.getElem_cons_succ, List.getElem_cons_zero, List.setIfInBounds_toArray, List.set_cons_zero, List.set_cons_succ])
          refine wpAnyH_ready (rs := [7, 11]) (by kernel_rfl) (by simp) ?_
          refine (AllReadyH.cons rfl (fun K hK => ?_) (AllReadyH.cons rfl (fun K hK => ?_) AllReadyH.nil))
          · rw [if_pos (by kernel_rfl)]
            refine wp_append_i0 (.tmp 35) (.tmp 37) rfl Wq.heap.size rfl bi rfl rfl (v3.p.free.below hS (Nat.le_refl _)) hS.size hfl ?_
            intro Ari cri Wd30 ri hkA hbA
            replace rc := rc.turn hkA (by decide) hbA (Nat.le_refl _)
            replace hS := Below.trans hS hbA
            clear hbA hkA bi
            refine hK.out _ _ hS (fun _ => ?_)
            clear hK K
            (try simp only [Act.put, List.getElem_toArray, List.getElem_cons_succ, List.getElem_cons_zero, List.setIfInBounds_toArray, List.set_cons_zero, List.set_cons_succ])
            refine wpAnyH_takeS HNS (i := 10) (v := .agg (pc Arc p.cells.length crc Ari p.free.length cri p.most)) rfl (by kernel_rfl) (by kernel_rfl) (fun _ _ _ h => h) (Or.inl ⟨by kernel_rfl, fun W hW => ?_⟩) hS ?_
            · go_simp
            simp only [Act.put, List.getElem_toArray, List.getElem_cons_succ, List.getElem_cons_zero, List.setIfInBounds_toArray, List.set_cons_zero, List.set_cons_succ]
            refine wpAnyH_ready (rs := [11]) (by kernel_rfl) (by simp) ?_
            refine (AllReadyH.cons rfl (fun K hK => ?_) AllReadyH.nil)
            · rw [if_pos (by kernel_rfl)]
              refine wp_alloc_R 25 rfl pz0 (by kernel_rfl) ?_
              have hbA := ((Below.refl _ _).alloc (Nat.le_refl _) _ : Below Wd30.heap.size Wd30 (Wd30.alloc (.cells pz0 25)))
              replace rc := rc.below hbA hS.size
              replace ri := r_later ri hbA
              have h7 := Held.new Wd30 25 pz0
              have l7 := hS.size
              replace hS := Below.step hS hbA
              clear hbA
              generalize Wd30.alloc (.cells pz0 25) = Wd31 at *
              refine hK.out _ _ hS (fun _ => ?_)
              clear hK K
              (try simp only [Act.put, List.getElem_toArray, List.getElem_cons_succ, List.getElem_cons_zero, List.setIfInBounds_toArray, List.set_cons_zero, List.set_cons_succ])
              refine wpAnyH_ready (rs := [12]) (by kernel_rfl) (by simp) ?_
              refine (AllReadyH.cons rfl (fun K hK => ?_) AllReadyH.nil)
              · rw [if_pos (by kernel_rfl)]
                refine wp_store_row 25 _ _ rfl _ (pc Arc p.cells.length crc Ari p.free.length cri p.most) (by rfl) (by rfl) _ _ h7 (by kernel_rfl) rfl (by simp [Value.oneCell']) ?_
                have hk7 := kt_row h7 (pc Arc p.cells.length crc Ari p.free.length cri p.most)
                have hf7 := held_rowSelf h7 (pc Arc p.cells.length crc Ari p.free.length cri p.most)
                have rc7 := rc.turn hk7 (by decide) (below_setRow (Below.refl _ _) l7 (pc Arc p.cells.length crc Ari p.free.length cri p.most)) (Nat.le_refl _)
                have ri7 := row_kt ri hk7 (by decide)
                replace hS := below_setRow hS l7 (pc Arc p.cells.length crc Ari p.free.length cri p.most)
                clear rc ri h7 hk7
                generalize World.setRow _ _ (pc Arc p.cells.length crc Ari p.free.length cri p.most) = Wst at *
                refine hK.out _ _ hS (fun _ => ?_)
                clear hK K
                (try simp only [Act.put, List.getElem_toArray, List.getElem_cons_succ, List.getElem_cons_zero, List.setIfInBounds_toArray, List.set_cons_zero, List.set_cons_succ])
                refine wpAnyH_done (by kernel_rfl) ?_ _
                go_wp2_with fail
                go_meet
                case rel => exact ⟨_, _, _, _, _, rfl, ⟨hf7, ⟨rc7.at rfl hS.size, (OwnI.at ri7)⟩⟩, Below.step HDR.out hS⟩
          · rw [if_pos (by kernel_rfl)]
            refine wp_alloc_R 25 rfl pz0 (by kernel_rfl) ?_
            have hbA := ((Below.refl _ _).alloc (Nat.le_refl _) _ : Below Wd29.heap.size Wd29 (Wd29.alloc (.cells pz0 25)))
            replace bi := r_later bi hbA
            replace rc := rc.below hbA hS.size
            have h7 := Held.new Wd29 25 pz0
            have l7 := hS.size
            replace hS := Below.step hS hbA
            clear hbA
            generalize Wd29.alloc (.cells pz0 25) = Wd32 at *
            refine hK.out _ _ hS (fun _ => ?_)
            clear hK K
            (try simp only [Act.put, List.getElem_toArray, List.getElem_cons_succ, List.getElem_cons_zero, List.setIfInBounds_toArray, List.set_cons_zero, List.set_cons_succ])
            refine wpAnyH_ready (rs := [7]) (by kernel_rfl) (by simp) ?_
            refine (AllReadyH.cons rfl (fun K hK => ?_) AllReadyH.nil)
            · rw [if_pos (by kernel_rfl)]
              refine wp_append_i0 (.tmp 35) (.tmp 37) rfl Wq.heap.size rfl bi rfl rfl (v3.p.free.below hS (Nat.le_refl _)) hS.size hfl ?_
              intro Ari cri Wd33 ri hkA hbA
              replace rc := rc.turn hkA (by decide) hbA (Nat.le_refl _)
              replace h7 := held_kt h7 hkA (by decide)
              replace hS := Below.trans hS hbA
              clear hbA hkA bi
              refine hK.out _ _ hS (fun _ => ?_)
              clear hK K
              (try simp only [Act.put, List.getElem_toArray, List.getElem_cons_succ, List.getElem_cons_zero, List.setIfInBounds_toArray, List.set_cons_zero, List.set_cons_succ])
              refine wpAnyH_takeS HNS (i := 10) (v := .agg (pc Arc p.cells.length crc Ari p.free.length cri p.most)) rfl (by kernel_rfl) (by kernel_rfl) (fun _ _ _ h => h) (Or.inl ⟨by kernel_rfl, fun W hW => ?_⟩) hS ?_
              · go_simp
              simp only [Act.put, List.getElem_toArray, List.getElem_cons_succ, List.getElem_cons_zero, List.setIfInBounds_toArray, List.set_cons_zero, List.set_cons_succ]
              refine wpAnyH_ready (rs := [12]) (by kernel_rfl) (by simp) ?_
              refine (AllReadyH.cons rfl (fun K hK => ?_) AllReadyH.nil)
              · rw [if_pos (by kernel_rfl)]
                refine wp_store_row 25 _ _ rfl _ (pc Arc p.cells.length crc Ari p.free.length cri p.most) (by rfl) (by rfl) _ _ h7 (by kernel_rfl) rfl (by simp [Value.oneCell']) ?_
                have hk7 := kt_row h7 (pc Arc p.cells.length crc Ari p.free.length cri p.most)
                have hf7 := held_rowSelf h7 (pc Arc p.cells.length crc Ari p.free.length cri p.most)
                have rc7 := rc.turn hk7 (by decide) (below_setRow (Below.refl _ _) l7 (pc Arc p.cells.length crc Ari p.free.length cri p.most)) (Nat.le_refl _)
                have ri7 := row_kt ri hk7 (by decide)
                replace hS := below_setRow hS l7 (pc Arc p.cells.length crc Ari p.free.length cri p.most)
                clear rc ri h7 hk7
                generalize World.setRow _ _ (pc Arc p.cells.length crc Ari p.free.length cri p.most) = Wst at *
                refine hK.out _ _ hS (fun _ => ?_)
                clear hK K
                (try simp only [Act.put, List.getElem_toArray, List.getElem_cons_succ, List.getElem_cons_zero, List.setIfInBounds_toArray, List.set_cons_zero, List.set_cons_succ])
                refine wpAnyH_done (by kernel_rfl) ?_ _
                go_wp2_with fail
                go_meet
                case rel => exact ⟨_, _, _, _, _, rfl, ⟨hf7, ⟨rc7.at rfl hS.size, (OwnI.at ri7)⟩⟩, Below.step HDR.out hS⟩
        · rw [if_pos (by kernel_rfl)]
          refine wp_alloc_R 25 rfl pz0 (by kernel_rfl) ?_
          have hbA := ((Below.refl _ _).alloc (Nat.le_refl _) _ : Below Wd28.heap.size Wd28 (Wd28.alloc (.cells pz0 25)))
          replace bi := r_later bi hbA
          replace bc := r_later bc hbA
          have h7 := Held.new Wd28 25 pz0
          have l7 := hS.size
          replace hS := Below.step hS hbA
          clear hbA
          generalize Wd28.alloc (.cells pz0 25) = Wd34 at *
          refine hK.out _ _ hS (fun _ => ?_)
          clear hK K
          (try simp only [Act.put, List.getElem_toArray, List.getElem_cons_succ, List.getElem_cons_zero, List.setIfInBounds_toArray, List.set_cons_zero, List.set_cons_succ])
          refine wpAnyH_ready (rs := [3]) (by kernel_rfl) (by simp) ?_
          refine (AllReadyH.cons rfl (fun K hK => ?_) AllReadyH.nil)
          · rw [if_pos (by kernel_rfl)]
            refine wp_append_c0 (.tmp 31) (.tmp 33) rfl Wq.heap.size rfl bc rfl rfl (v3.p.cells.below hS (Nat.le_refl _)) (Nat.le_refl _) hS.size hcl ?_
            intro Arc crc Wd35 rc hkA hbA
            replace bi := row_kt bi hkA (by decide)
            replace h7 := held_kt h7 hkA (by decide)
            replace hS := Below.trans hS hbA
            clear hbA hkA bc
            refine hK.out _ _ hS (fun _ => ?_)
            clear hK K
            (try simp only [Act.put, List.getElem_toArray, List.getElem_cons_succ, List.getElem_cons_zero, List.setIfInBounds_toArray, List.set_cons_zero, List.set_cons_succ])
            refine wpAnyH_ready (rs := [7]) (by kernel_rfl) (by simp) ?_
            refine (AllReadyH.cons rfl (fun K hK => ?_) AllReadyH.nil)
            · rw [if_pos (by kernel_rfl)]
              refine wp_append_i0 (.tmp 35) (.tmp 37) rfl Wq.heap.size rfl bi rfl rfl (v3.p.free.below hS (Nat.le_refl _)) hS.size hfl ?_
              intro Ari cri Wd36 ri hkA hbA
              replace h7 := held_kt h7 hkA (by decide)
              replace rc := rc.turn hkA (by decide) hbA (Nat.le_refl _)
              replace hS := Below.trans hS hbA
              clear hbA hkA bi
              refine hK.out _ _ hS (fun _ => ?_)
              clear hK K
              (try simp only [Act.put, List.getElem_toArray, List.getElem_cons_succ, List.getElem_cons_zero, List.setIfInBounds_toArray, List.set_cons_zero, List.set_cons_succ])
              refine wpAnyH_takeS HNS (i := 10) (v := .agg (pc Arc p.cells.length crc Ari p.free.length cri p.most)) rfl (by kernel_rfl) (by kernel_rfl) (fun _ _ _ h => h) (Or.inl ⟨by kernel_rfl, fun W hW => ?_⟩) hS ?_
              · go_simp
              simp only [Act.put, List.getElem_toArray, List.getElem_cons_succ, List.getElem_cons_zero, List.setIfInBounds_toArray, List.set_cons_zero, List.set_cons_succ]
              refine wpAnyH_ready (rs := [12]) (by kernel_rfl) (by simp) ?_
              refine (AllReadyH.cons rfl (fun K hK => ?_) AllReadyH.nil)
              · rw [if_pos (by kernel_rfl)]
                refine wp_store_row 25 _ _ rfl _ (pc Arc p.cells.length crc Ari p.free.length cri p.most) (by rfl) (by rfl) _ _ h7 (by kernel_rfl) rfl (by simp [Value.oneCell']) ?_
                have hk7 := kt_row h7 (pc Arc p.cells.length crc Ari p.free.length cri p.most)
                have hf7 := held_rowSelf h7 (pc Arc p.cells.length crc Ari p.free.length cri p.most)
                have rc7 := rc.turn hk7 (by decide) (below_setRow (Below.refl _ _) l7 (pc Arc p.cells.length crc Ari p.free.length cri p.most)) (Nat.le_refl _)
                have ri7 := row_kt ri hk7 (by decide)
                replace hS := below_setRow hS l7 (pc Arc p.cells.length crc Ari p.free.length cri p.most)
                clear rc ri h7 hk7
                generalize World.setRow _ _ (pc Arc p.cells.length crc Ari p.free.length cri p.most) = Wst at *
                refine hK.out _ _ hS (fun _ => ?_)
                clear hK K
                (try simp only [Act.put, List.getElem_toArray, List.getElem_cons_succ, List.getElem_cons_zero, List.setIfInBounds_toArray, List.set_cons_zero, List.set_cons_succ])
                refine wpAnyH_done (by kernel_rfl) ?_ _
                go_wp2_with fail
                go_meet
                case rel => exact ⟨_, _, _, _, _, rfl, ⟨hf7, ⟨rc7.at rfl hS.size, (OwnI.at ri7)⟩⟩, Below.step HDR.out hS⟩
      · rw [if_pos (by kernel_rfl)]
        refine wp_alloc_R 25 rfl pz0 (by kernel_rfl) ?_
        have hbA := ((Below.refl _ _).alloc (Nat.le_refl _) _ : Below Wd27.heap.size Wd27 (Wd27.alloc (.cells pz0 25)))
        replace bi := r_later bi hbA
        have h7 := Held.new Wd27 25 pz0
        have l7 := hS.size
        replace hS := Below.step hS hbA
        clear hbA
        generalize Wd27.alloc (.cells pz0 25) = Wd37 at *
        refine hK.out _ _ hS (fun _ => ?_)
        clear hK K
        (try simp only [Act.put, List.getElem_toArray, List.getElem_cons_succ, List.getElem_cons_zero, List.setIfInBounds_toArray, List.set_cons_zero, List.set_cons_succ])
        refine wpAnyH_ready (rs := [0]) (by kernel_rfl) (by simp) ?_
        refine (AllReadyH.cons rfl (fun K hK => ?_) AllReadyH.nil)
        · rw [if_pos (by kernel_rfl)]
          refine wp_build0C rfl ?_
          have hbA := ((Below.refl _ _).alloc (Nat.le_refl _) _ : Below Wd37.heap.size Wd37 (Wd37.alloc (.cells #[] 62)))
          replace bi := r_later bi hbA
          replace h7 := Held.below h7 hbA
          have bc := row_mono ((fun W => (World.ownsRow_made W #[] 0 (Nat.le_refl _) (by decide) rfl : (W.alloc (.cells #[] 62)).ownsRow W.heap.size 62 18 (.slice (some ⟨W.heap.size, 0, none⟩) 0 0) 0 [])) Wd37) hS.size
          replace hS := Below.step hS hbA
          clear hbA
          generalize Wd37.alloc (.cells #[] 62) = Wd38 at *
          refine hK.out _ _ hS (fun _ => ?_)
          clear hK K
          (try simp only [Act.put, List.getElem_toArray, List.getElem_cons_succ, List.getElem_cons_zero, List.setIfInBounds_toArray, List.set_cons_zero, List.set_cons_succ])
          refine wpAnyH_ready (rs := [3]) (by kernel_rfl) (by simp) ?_
          refine (AllReadyH.cons rfl (fun K hK => ?_) AllReadyH.nil)
          · rw [if_pos (by kernel_rfl)]
            refine wp_append_c0 (.tmp 31) (.tmp 33) rfl Wq.heap.size rfl bc rfl rfl (v3.p.cells.below hS (Nat.le_refl _)) (Nat.le_refl _) hS.size hcl ?_
            intro Arc crc Wd39 rc hkA hbA
            replace bi := row_kt bi hkA (by decide)
            replace h7 := held_kt h7 hkA (by decide)
            replace hS := Below.trans hS hbA
            clear hbA hkA bc
            refine hK.out _ _ hS (fun _ => ?_)
            clear hK K
            (try simp only [Act.put, List.getElem_toArray, List.getElem_cons_succ, List.getElem_cons_zero, List.setIfInBounds_toArray, List.set_cons_zero, List.set_cons_succ])
            refine wpAnyH_ready (rs := [7]) (by kernel_rfl) (by simp) ?_
            refine (AllReadyH.cons rfl (fun K hK => ?_) AllReadyH.nil)
            · rw [if_pos (by kernel_rfl)]
              refine wp_append_i0 (.tmp 35) (.tmp 37) rfl Wq.heap.size rfl bi rfl rfl (v3.p.free.below hS (Nat.le_refl _)) hS.size hfl ?_
              intro Ari cri Wd40 ri hkA hbA
              replace h7 := held_kt h7 hkA (by decide)
              replace rc := rc.turn hkA (by decide) hbA (Nat.le_refl _)
              replace hS := Below.trans hS hbA
              clear hbA hkA bi
              refine hK.out _ _ hS (fun _ => ?_)
              clear hK K
              (try simp only [Act.put, List.getElem_toArray, List.getElem_cons_succ, List.getElem_cons_zero, List.setIfInBounds_toArray, List.set_cons_zero, List.set_cons_succ])
              refine wpAnyH_takeS HNS (i := 10) (v := .agg (pc Arc p.cells.length crc Ari p.free.length cri p.most)) rfl (by kernel_rfl) (by kernel_rfl) (fun _ _ _ h => h) (Or.inl ⟨by kernel_rfl, fun W hW => ?_⟩) hS ?_
              · go_simp
              simp only [Act.put, List.getElem_toArray, List.getElem_cons_succ, List.getElem_cons_zero, List.setIfInBounds_toArray, List.set_cons_zero, List.set_cons_succ]
              refine wpAnyH_ready (rs := [12]) (by kernel_rfl) (by simp) ?_
              refine (AllReadyH.cons rfl (fun K hK => ?_) AllReadyH.nil)
              · rw [if_pos (by kernel_rfl)]
                refine wp_store_row 25 _ _ rfl _ (pc Arc p.cells.length crc Ari p.free.length cri p.most) (by rfl) (by rfl) _ _ h7 (by kernel_rfl) rfl (by simp [Value.oneCell']) ?_
                have hk7 := kt_row h7 (pc Arc p.cells.length crc Ari p.free.length cri p.most)
                have hf7 := held_rowSelf h7 (pc Arc p.cells.length crc Ari p.free.length cri p.most)
                have rc7 := rc.turn hk7 (by decide) (below_setRow (Below.refl _ _) l7 (pc Arc p.cells.length crc Ari p.free.length cri p.most)) (Nat.le_refl _)
                have ri7 := row_kt ri hk7 (by decide)
                replace hS := below_setRow hS l7 (pc Arc p.cells.length crc Ari p.free.length cri p.most)
                clear rc ri h7 hk7
                generalize World.setRow _ _ (pc Arc p.cells.length crc Ari p.free.length cri p.most) = Wst at *
                refine hK.out _ _ hS (fun _ => ?_)
                clear hK K
                (try simp only [Act.put, List.getElem_toArray, List.getElem_cons_succ, List.getElem_cons_zero, List.setIfInBounds_toArray, List.set_cons_zero, List.set_cons_succ])
                refine wpAnyH_done (by kernel_rfl) ?_ _
                go_wp2_with fail
                go_meet
                case rel => exact ⟨_, _, _, _, _, rfl, ⟨hf7, ⟨rc7.at rfl hS.size, (OwnI.at ri7)⟩⟩, Below.step HDR.out hS⟩
    · rw [if_pos (by kernel_rfl)]
      refine wp_alloc_R 25 rfl pz0 (by kernel_rfl) ?_
      have hbA := ((Below.refl _ _).alloc (Nat.le_refl _) _ : Below Wq.heap.size Wq (Wq.alloc (.cells pz0 25)))
      have h7 := Held.new Wq 25 pz0
      have l7 := hS.size
      replace hS := Below.step hS hbA
      clear hbA
      generalize Wq.alloc (.cells pz0 25) = Wd41 at *
      refine hK.out _ _ hS (fun _ => ?_)
      clear hK K
      (try simp only [Act.put, List.getElem_toArray, List.getElem_cons_succ, List.getElem_cons_zero, List.setIfInBounds_toArray, List.set_cons_zero, List.set_cons_succ])
      refine wpAnyH_ready (rs := [0, 4]) (by kernel_rfl) (by simp) ?_
      refine (AllReadyH.cons rfl (fun K hK => ?_) (AllReadyH.cons rfl (fun K hK => ?_) AllReadyH.nil))
      · rw [if_pos (by kernel_rfl)]
        refine wp_build0C rfl ?_
        have hbA := ((Below.refl _ _).alloc (Nat.le_refl _) _ : Below Wd41.heap.size Wd41 (Wd41.alloc (.cells #[] 62)))
        replace h7 := Held.below h7 hbA
        have bc := row_mono ((fun W => (World.ownsRow_made W #[] 0 (Nat.le_refl _) (by decide) rfl : (W.alloc (.cells #[] 62)).ownsRow W.heap.size 62 18 (.slice (some ⟨W.heap.size, 0, none⟩) 0 0) 0 [])) Wd41) hS.size
        replace hS := Below.step hS hbA
        clear hbA
        generalize Wd41.alloc (.cells #[] 62) = Wd42 at *
        refine hK.out _ _ hS (fun _ => ?_)
        clear hK K
        (try simp only [Act.put, List.getElem_toArray, List.getElem_cons_succ, List.getElem_cons_zero, List.setIfInBounds_toArray, List.set_cons_zero, List.set_cons_succ])
        refine wpAnyH_ready (rs := [3, 4]) (by kernel_rfl) (by simp) ?_
        refine (AllReadyH.cons rfl (fun K hK => ?_) (AllReadyH.cons rfl (fun K hK => ?_) AllReadyH.nil))
        · rw [if_pos (by kernel_rfl)]
          refine wp_append_c0 (.tmp 31) (.tmp 33) rfl Wq.heap.size rfl bc rfl rfl (v3.p.cells.below hS (Nat.le_refl _)) (Nat.le_refl _) hS.size hcl ?_
          intro Arc crc Wd43 rc hkA hbA
          replace h7 := held_kt h7 hkA (by decide)
          replace hS := Below.trans hS hbA
          clear hbA hkA bc
          refine hK.out _ _ hS (fun _ => ?_)
          clear hK K
          (try simp only [Act.put, List.getElem_toArray, List.getElem_cons_succ, List.getElem_cons_zero, List.setIfInBounds_toArray, List.set_cons_zero, List.set_cons_succ])
          refine wpAnyH_ready (rs := [4]) (by kernel_rfl) (by simp) ?_
          refine (AllReadyH.cons rfl (fun K hK => ?_) AllReadyH.nil)
          · rw [if_pos (by kernel_rfl)]
            refine wp_build0I rfl ?_
            have hbA := ((Below.refl _ _).alloc (Nat.le_refl _) _ : Below Wd43.heap.size Wd43 (Wd43.alloc (.cells #[] 3)))
            replace h7 := Held.below h7 hbA
            replace rc := rc.below hbA hS.size
            have bi := row_mono (OwnI.made Wd43) hS.size
            replace hS := Below.step hS hbA
            clear hbA
            generalize Wd43.alloc (.cells #[] 3) = Wd44 at *
            refine hK.out _ _ hS (fun _ => ?_)
            clear hK K
            (try simp only [Act.put, List.getElem_toArray, List.getElem_cons_succ, List.getElem_cons_zero, List.setIfInBounds_toArray, List.set_cons_zero, List.set_cons_succ])
            refine wpAnyH_ready (rs := [7]) (by kernel_rfl) (by simp) ?_
            refine (AllReadyH.cons rfl (fun K hK => ?_) AllReadyH.nil)
            · rw [if_pos (by kernel_rfl)]
              refine wp_append_i0 (.tmp 35) (.tmp 37) rfl Wq.heap.size rfl bi rfl rfl (v3.p.free.below hS (Nat.le_refl _)) hS.size hfl ?_
              intro Ari cri Wd45 ri hkA hbA
              replace h7 := held_kt h7 hkA (by decide)
              replace rc := rc.turn hkA (by decide) hbA (Nat.le_refl _)
              replace hS := Below.trans hS hbA
              clear hbA hkA bi
              refine hK.out _ _ hS (fun _ => ?_)
              clear hK K
              (try simp only [Act.put, List.getElem_toArray, List.getElem_cons_succ, List.getElem_cons_zero, List.setIfInBounds_toArray, List.set_cons_zero, List.set_cons_succ])
              refine wpAnyH_takeS HNS (i := 10) (v := .agg (pc Arc p.cells.length crc Ari p.free.length cri p.most)) rfl (by kernel_rfl) (by kernel_rfl) (fun _ _ _ h => h) (Or.inl ⟨by kernel_rfl, fun W hW => ?_⟩) hS ?_
              · go_simp
              simp only [Act.put, List.getElem_toArray, List.getElem_cons_succ, List.getElem_cons_zero, List.setIfInBounds_toArray, List.set_cons_zero, List.set_cons_succ]
              refine wpAnyH_ready (rs := [12]) (by kernel_rfl) (by simp) ?_
              refine (AllReadyH.cons rfl (fun K hK => ?_) AllReadyH.nil)
              · rw [if_pos (by kernel_rfl)]
                refine wp_store_row 25 _ _ rfl _ (pc Arc p.cells.length crc Ari p.free.length cri p.most) (by rfl) (by rfl) _ _ h7 (by kernel_rfl) rfl (by simp [Value.oneCell']) ?_
                have hk7 := kt_row h7 (pc Arc p.cells.length crc Ari p.free.length cri p.most)
                have hf7 := held_rowSelf h7 (pc Arc p.cells.length crc Ari p.free.length cri p.most)
                have rc7 := rc.turn hk7 (by decide) (below_setRow (Below.refl _ _) l7 (pc Arc p.cells.length crc Ari p.free.length cri p.most)) (Nat.le_refl _)
                have ri7 := row_kt ri hk7 (by decide)
                replace hS := below_setRow hS l7 (pc Arc p.cells.length crc Ari p.free.length cri p.most)
                clear rc ri h7 hk7
                generalize World.setRow _ _ (pc Arc p.cells.length crc Ari p.free.length cri p.most) = Wst at *
                refine hK.out _ _ hS (fun _ => ?_)
                clear hK K
                (try simp only [Act.put, List.getElem_toArray, List.getElem_cons_succ, List.getElem_cons_zero, List.setIfInBounds_toArray, List.set_cons_zero, List.set_cons_succ])
                refine wpAnyH_done (by kernel_rfl) ?_ _
                go_wp2_with fail
                go_meet
                case rel => exact ⟨_, _, _, _, _, rfl, ⟨hf7, ⟨rc7.at rfl hS.size, (OwnI.at ri7)⟩⟩, Below.step HDR.out hS⟩
        · rw [if_pos (by kernel_rfl)]
          refine wp_build0I rfl ?_
          have hbA := ((Below.refl _ _).alloc (Nat.le_refl _) _ : Below Wd42.heap.size Wd42 (Wd42.alloc (.cells #[] 3)))
          replace h7 := Held.below h7 hbA
          replace bc := r_later bc hbA
          have bi := row_mono (OwnI.made Wd42) hS.size
          replace hS := Below.step hS hbA
          clear hbA
          generalize Wd42.alloc (.cells #[] 3) = Wd46 at *
          refine hK.out _ _ hS (fun _ => ?_)
          clear hK K
          (try simp only [Act.put, List.getElem_toArray, List.getElem_cons_succ, List.getElem_cons_zero, List.setIfInBounds_toArray, List.set_cons_zero, List.set_cons_succ])
          refine wpAnyH_ready (rs := [3]) (by kernel_rfl) (by simp) ?_
          refine (AllReadyH.cons rfl (fun K hK => ?_) AllReadyH.nil)
          · rw [if_pos (by kernel_rfl)]
            refine wp_append_c0 (.tmp 31) (.tmp 33) rfl Wq.heap.size rfl bc rfl rfl (v3.p.cells.below hS (Nat.le_refl _)) (Nat.le_refl _) hS.size hcl ?_
            intro Arc crc Wd47 rc hkA hbA
            replace h7 := held_kt h7 hkA (by decide)
            replace bi := row_kt bi hkA (by decide)
            replace hS := Below.trans hS hbA
            clear hbA hkA bc
            refine hK.out _ _ hS (fun _ => ?_)
            clear hK K
            (try simp only [Act.put, List.getElem_toArray, List.getElem_cons_succ, List.getElem_cons_zero, List.setIfInBounds_toArray, List.set_cons_zero, List.set_cons_succ])
            refine wpAnyH_ready (rs := [7]) (by kernel_rfl) (by simp) ?_
            refine (AllReadyH.cons rfl (fun K hK => ?_) AllReadyH.nil)
            · rw [if_pos (by kernel_rfl)]
              refine wp_append_i0 (.tmp 35) (.tmp 37) rfl Wq.heap.size rfl bi rfl rfl (v3.p.free.below hS (Nat.le_refl _)) hS.size hfl ?_
              intro Ari cri Wd48 ri hkA hbA
              replace h7 := held_kt h7 hkA (by decide)
              replace rc := rc.turn hkA (by decide) hbA (Nat.le_refl _)
              replace hS := Below.trans hS hbA
              clear hbA hkA bi
              refine hK.out _ _ hS (fun _ => ?_)
              clear hK K
              (try simp only [Act.put, List.getElem_toArray, List.getElem_cons_succ, List.getElem_cons_zero, List.setIfInBounds_toArray, List.set_cons_zero, List.set_cons_succ])
              refine wpAnyH_takeS HNS (i := 10) (v := .agg (pc Arc p.cells.length crc Ari p.free.length cri p.most)) rfl (by kernel_rfl) (by kernel_rfl) (fun _ _ _ h => h) (Or.inl ⟨by kernel_rfl, fun W hW => ?_⟩) hS ?_
              · go_simp
              simp only [Act.put, List.getElem_toArray, List.getElem_cons_succ, List.getElem_cons_zero, List.setIfInBounds_toArray, List.set_cons_zero, List.set_cons_succ]
              refine wpAnyH_ready (rs := [12]) (by kernel_rfl) (by simp) ?_
              refine (AllReadyH.cons rfl (fun K hK => ?_) AllReadyH.nil)
              · rw [if_pos (by kernel_rfl)]
                refine wp_store_row 25 _ _ rfl _ (pc Arc p.cells.length crc Ari p.free.length cri p.most) (by rfl) (by rfl) _ _ h7 (by kernel_rfl) rfl (by simp [Value.oneCell']) ?_
                have hk7 := kt_row h7 (pc Arc p.cells.length crc Ari p.free.length cri p.most)
                have hf7 := held_rowSelf h7 (pc Arc p.cells.length crc Ari p.free.length cri p.most)
                have rc7 := rc.turn hk7 (by decide) (below_setRow (Below.refl _ _) l7 (pc Arc p.cells.length crc Ari p.free.length cri p.most)) (Nat.le_refl _)
                have ri7 := row_kt ri hk7 (by decide)
                replace hS := below_setRow hS l7 (pc Arc p.cells.length crc Ari p.free.length cri p.most)
                clear rc ri h7 hk7
                generalize World.setRow _ _ (pc Arc p.cells.length crc Ari p.free.length cri p.most) = Wst at *
                refine hK.out _ _ hS (fun _ => ?_)
                clear hK K
                (try simp only [Act.put, List.getElem_toArray, List.getElem_cons_succ, List.getElem_cons_zero, List.setIfInBounds_toArray, List.set_cons_zero, List.set_cons_succ])
                refine wpAnyH_done (by kernel_rfl) ?_ _
                go_wp2_with fail
                go_meet
                case rel => exact ⟨_, _, _, _, _, rfl, ⟨hf7, ⟨rc7.at rfl hS.size, (OwnI.at ri7)⟩⟩, Below.step HDR.out hS⟩
      · rw [if_pos (by kernel_rfl)]
        refine wp_build0I rfl ?_
        have hbA := ((Below.refl _ _).alloc (Nat.le_refl _) _ : Below Wd41.heap.size Wd41 (Wd41.alloc (.cells #[] 3)))
        replace h7 := Held.below h7 hbA
        have bi := row_mono (OwnI.made Wd41) hS.size
        replace hS := Below.step hS hbA
        clear hbA
        generalize Wd41.alloc (.cells #[] 3) = Wd49 at *
        refine hK.out _ _ hS (fun _ => ?_)
        clear hK K
        (try simp only [Act.put, List.getElem_toArray, List.getElem_cons_succ, List.getElem_cons_zero, List.setIfInBounds_toArray, List.set_cons_zero, List.set_cons_succ])
        refine wpAnyH_ready (rs := [0]) (by kernel_rfl) (by simp) ?_
        refine (AllReadyH.cons rfl (fun K hK => ?_) AllReadyH.nil)
        · rw [if_pos (by kernel_rfl)]
          refine wp_build0C rfl ?_
          have hbA := ((Below.refl _ _).alloc (Nat.le_refl _) _ : Below Wd49.heap.size Wd49 (Wd49.alloc (.cells #[] 62)))
          replace h7 := Held.below h7 hbA
          replace bi := r_later bi hbA
          have bc := row_mono ((fun W => (World.ownsRow_made W #[] 0 (Nat.le_refl _) (by decide) rfl : (W.alloc (.cells #[] 62)).ownsRow W.heap.size 62 18 (.slice (some ⟨W.heap.size, 0, none⟩) 0 0) 0 [])) Wd49) hS.size
          replace hS := Below.step hS hbA
          clear hbA
          generalize Wd49.alloc (.cells #[] 62) = Wd50 at *
          refine hK.out _ _ hS (fun _ => ?_)
          clear hK K
          (try simp only [Act.put, List.getElem_toArray, List.getElem_cons_succ, List.getElem_cons_zero, List.setIfInBounds_toArray, List.set_cons_zero, List.set_cons_succ])
          refine wpAnyH_ready (rs := [3]) (by kernel_rfl) (by simp) ?_
          refine (AllReadyH.cons rfl (fun K hK => ?_) AllReadyH.nil)
          · rw [if_pos (by kernel_rfl)]
            refine wp_append_c0 (.tmp 31) (.tmp 33) rfl Wq.heap.size rfl bc rfl rfl (v3.p.cells.below hS (Nat.le_refl _)) (Nat.le_refl _) hS.size hcl ?_
            intro Arc crc Wd51 rc hkA hbA
            replace h7 := held_kt h7 hkA (by decide)
            replace bi := row_kt bi hkA (by decide)
            replace hS := Below.trans hS hbA
            clear hbA hkA bc
            refine hK.out _ _ hS (fun _ => ?_)
            clear hK K
            (try simp only [Act.put, List.getElem_toArray, List.getElem_cons_succ, List.getElem_cons_zero, List.setIfInBounds_toArray, List.set_cons_zero, List.set_cons_succ])
            refine wpAnyH_ready (rs := [7]) (by kernel_rfl) (by simp) ?_
            refine (AllReadyH.cons rfl (fun K hK => ?_) AllReadyH.nil)
            · rw [if_pos (by kernel_rfl)]
              refine wp_append_i0 (.tmp 35) (.tmp 37) rfl Wq.heap.size rfl bi rfl rfl (v3.p.free.below hS (Nat.le_refl _)) hS.size hfl ?_
              intro Ari cri Wd52 ri hkA hbA
              replace h7 := held_kt h7 hkA (by decide)
              replace rc := rc.turn hkA (by decide) hbA (Nat.le_refl _)
              replace hS := Below.trans hS hbA
              clear hbA hkA bi
              refine hK.out _ _ hS (fun _ => ?_)
              clear hK K
              (try simp only [Act.put, List.getElem_toArray, List.getElem_cons_succ, List.getElem_cons_zero, List.setIfInBounds_toArray, List.set_cons_zero, List.set_cons_succ])
              refine wpAnyH_takeS HNS (i := 10) (v := .agg (pc Arc p.cells.length crc Ari p.free.length cri p.most)) rfl (by kernel_rfl) (by kernel_rfl) (fun _ _ _ h => h) (Or.inl ⟨by kernel_rfl, fun W hW => ?_⟩) hS ?_
              · go_simp
              simp only [Act.put, List.getElem_toArray, List.getElem_cons_succ, List.getElem_cons_zero, List.setIfInBounds_toArray, List.set_cons_zero, List.set_cons_succ]
              refine wpAnyH_ready (rs := [12]) (by kernel_rfl) (by simp) ?_
              refine (AllReadyH.cons rfl (fun K hK => ?_) AllReadyH.nil)
              · rw [if_pos (by kernel_rfl)]
                refine wp_store_row 25 _ _ rfl _ (pc Arc p.cells.length crc Ari p.free.length cri p.most) (by rfl) (by rfl) _ _ h7 (by kernel_rfl) rfl (by simp [Value.oneCell']) ?_
                have hk7 := kt_row h7 (pc Arc p.cells.length crc Ari p.free.length cri p.most)
                have hf7 := held_rowSelf h7 (pc Arc p.cells.length crc Ari p.free.length cri p.most)
                have rc7 := rc.turn hk7 (by decide) (below_setRow (Below.refl _ _) l7 (pc Arc p.cells.length crc Ari p.free.length cri p.most)) (Nat.le_refl _)
                have ri7 := row_kt ri hk7 (by decide)
                replace hS := below_setRow hS l7 (pc Arc p.cells.length crc Ari p.free.length cri p.most)
                clear rc ri h7 hk7
                generalize World.setRow _ _ (pc Arc p.cells.length crc Ari p.free.length cri p.most) = Wst at *
                refine hK.out _ _ hS (fun _ => ?_)
                clear hK K
                (try simp only [Act.put, List.getElem_toArray, List.getElem_cons_succ, List.getElem_cons_zero, List.setIfInBounds_toArray, List.set_cons_zero, List.set_cons_succ])
                refine wpAnyH_done (by kernel_rfl) ?_ _
                go_wp2_with fail
                go_meet
                case rel => exact ⟨_, _, _, _, _, rfl, ⟨hf7, ⟨rc7.at rfl hS.size, (OwnI.at ri7)⟩⟩, Below.step HDR.out hS⟩
  case rest =>
    obtain ⟨k7, A7, c7, B7, d7, rfl, v7, hwc⟩ := hcut
    replace v3 := v3.below hwc
    replace v4 := Held.below v4 hwc
    replace v5 := v5.below hwc
    replace hW := Below.step hW hwc
    clear hwc
    go_upto_region 5 with (first
      | (guard_target = wpList _ _ _ (Oper.mk (some 43) _ _ _ _ none :: _) _ _; refine wpList_load_row rfl 25 _ rfl w.heap.size rfl _ _ _ _ v3.x Try.underlying25 rfl (by kernel_rfl) ?_)
      | (guard_target = wpList _ _ _ (Oper.mk (some 44) _ _ _ _ none :: _) _ _; refine wpList_load_row rfl 27 _ rfl (w.heap.size + 1) rfl _ _ _ _ v4 Try.underlying27 rfl (by kernel_rfl) ?_)
      | (go_at_call 18; (with_reducible refine (get_c EG.out LP c c2 _ v3.p).mono ?_); rintro _ u ⟨ds8, rfl, d1, d2, ho, hb⟩; have hn := Held.new u 35 fzc)
      | (guard_target = wpList _ _ _ (Oper.mk _ (Op.store 35 (.tmp 8) _) _ _ _ none :: _) _ _; refine wpList_store_row rfl 35 _ _ rfl u.heap.size ds8 rfl rfl _ _ hn (by rw [d1]; kernel_rfl) (by rw [d1]; rfl) d2 ?_))
    obtain ⟨v8, hbW⟩ := new_f1 hb d1 d2 ho
    clear hb ho hn d1 d2
    replace v3 := v3.below hbW
    replace v4 := Held.below v4 hbW
    replace v5 := v5.below hbW
    replace v7 := v7.below hbW
    replace hW := Below.step hW hbW
    clear hbW
    generalize World.setRow _ u.heap.size _ = W4 at *
    generalize u.heap.size = g8 at *
    clear v8
    go_upto_region 6 with (first
      | (guard_target = wpList _ _ _ (Oper.mk (some 49) _ _ _ _ none :: _) _ _; refine wpList_load_row rfl 25 _ rfl w.heap.size rfl _ _ _ _ v3.x Try.underlying25 rfl (by kernel_rfl) ?_)
      | (guard_target = wpList _ _ _ (Oper.mk (some 50) _ _ _ _ none :: _) _ _; refine wpList_load_row rfl 27 _ rfl (w.heap.size + 1) rfl _ _ _ _ v4 Try.underlying27 rfl (by kernel_rfl) ?_)
      | (guard_target = wpList _ _ _ (Oper.mk (some 51) _ _ _ _ none :: _) _ _; refine wpList_load_row rfl 35 _ rfl (w.heap.size + 1 + 1) rfl _ _ _ _ v5.x Try.underlying35 rfl (by rw [v5.s]; kernel_rfl) ?_)
      | (go_at_call 14; (with_reducible refine (set_c ES.out LP LF c c2 _ v3.p v5.s v5.p).mono ?_); rintro _ u ⟨A10, c10, B10, d10, rfl, ho, hb⟩; have hn := Held.new u 25 pz0)
      | (guard_target = wpList _ _ _ (Oper.mk _ (Op.store 25 (.tmp 10) _) _ _ _ none :: _) _ _; refine wpList_store_row rfl 25 _ _ rfl u.heap.size (pc A10 SA.cells.length c10 B10 SA.free.length d10 SA.most) rfl rfl _ _ hn (by kernel_rfl) rfl (by simp [Value.oneCell']) ?_))
    obtain ⟨v10, hbW⟩ := new_p1 (c := c10) (c2 := d10) (P := SA) hb ho
    clear hb ho hn
    replace v3 := v3.below hbW
    replace v4 := Held.below v4 hbW
    replace v5 := v5.below hbW
    replace v7 := v7.below hbW
    replace hW := Below.step hW hbW
    clear hbW
    generalize World.setRow _ u.heap.size _ = W5 at *
    generalize u.heap.size = g10 at *
    go_upto_region 7 with (first
      | (guard_target = wpList _ _ _ (Oper.mk (some 56) _ _ _ _ none :: _) _ _; refine wpList_load_row rfl 25 _ rfl w.heap.size rfl _ _ _ _ v3.x Try.underlying25 rfl (by kernel_rfl) ?_)
      | (guard_target = wpList _ _ _ (Oper.mk (some 57) _ _ _ _ none :: _) _ _; refine wpList_load_row rfl 27 _ rfl (w.heap.size + 1) rfl _ _ _ _ v4 Try.underlying27 rfl (by kernel_rfl) ?_)
      | (go_at_call 16; (with_reducible refine (drop_c ED.out LP c c2 _ v3.p).mono ?_); rintro _ u ⟨A12, c12, B12, d12, rfl, ho, hb⟩; have hn := Held.new u 25 pz0)
      | (guard_target = wpList _ _ _ (Oper.mk _ (Op.store 25 (.tmp 12) _) _ _ _ none :: _) _ _; refine wpList_store_row rfl 25 _ _ rfl u.heap.size (pc A12 SB.cells.length c12 B12 SB.free.length d12 SB.most) rfl rfl _ _ hn (by kernel_rfl) rfl (by simp [Value.oneCell']) ?_))
    obtain ⟨v12, hbW⟩ := new_p1 (c := c12) (c2 := d12) (P := SB) hb ho
    clear hb ho hn
    replace v3 := v3.below hbW
    replace v4 := Held.below v4 hbW
    replace v5 := v5.below hbW
    replace v7 := v7.below hbW
    replace v10 := v10.below hbW
    replace hW := Below.step hW hbW
    clear hbW
    generalize World.setRow _ u.heap.size _ = W6 at *
    generalize u.heap.size = g12 at *
    have HE0 := HXY.out
    rcases HE0 with ⟨rfl, rfl, rfl⟩ | ⟨rfl, ⟨hx, hy⟩, hSA, hSB⟩
    · go_upto_region 11 with (first
        | (guard_target = wpList _ _ _ (Oper.mk (some 87) _ _ _ _ none :: _) _ _; refine wpList_load_row rfl 25 _ rfl w.heap.size rfl _ _ _ _ v3.x Try.underlying25 rfl (by kernel_rfl) ?_)
        | (go_at_call 25; (with_reducible refine (refs_c HLR.out LP c c2 _ v3.p).mono ?_); rintro _ ur ⟨A14, c14, rfl, w14, hbr⟩; replace v3 := v3.below hbr; replace v4 := Held.below v4 hbr; replace v5 := v5.below hbr; replace v7 := v7.below hbr; replace v10 := v10.below hbr; replace v12 := v12.below hbr; replace hW := Below.step hW hbr))
      have HV := Lib.hid (And.intro v3 (And.intro v7 (And.intro (own2_at w14) hW)))
      clear v3 v4 v5 v7 v10 v12 w14 hW
      obtain ⟨W17, hW17⟩ : ∃ W, W = ur := ⟨_, rfl⟩
      rw [← hW17] at HV ⊢
      clear hW17
      go_loopw [15] (fun iv W => ∃ j : Nat, iv = .int .i64 j ∧ j ≤ L.length ∧ Below W17.heap.size W17 W) (fun iv _ => L.length - (intOf iv).toNat)
      case atStart => exact ⟨0, rfl, by omega, Below.refl _ _⟩
      case round =>
        obtain ⟨k, rfl, hk, hw⟩ := hrel
        have HWR := Lib.hid hw
        have hk0 : (0 : Int) ≤ k := by omega
        have hLI : ((L.length : Nat) : Int) ≤ 30 := by omega
        by_cases hlt : k < L.length
        · have hlt2 : (k : Int) < (L.length : Nat) := by omega
          obtain ⟨v3, -, h14, -⟩ := HV.out
          replace v3 := v3.below hw
          replace h14 := pat_later h14 hw
          obtain ⟨⟨u9, gu⟩, gs⟩ := each p k (by rw [HLR.out]; exact hlt)
          have hLk : (refsZ p)[k]'(by rw [HLR.out]; exact hlt) = L[k] := by simp only [HLR.out]
          have gs2 : ∀ i (h : i < k), (L[i]'(by omega)).1 < (L[k]).1 := fun i hi => by
            have := gs i hi
            simp only [HLR.out] at this
            exact this
          rw [hLk] at gu
          obtain ⟨b, off, rfl, -, hc7⟩ := h14 (by omega)
          obtain ⟨y0, y1⟩ := hc7 k hlt
          have hbl : b < wr.heap.size := block_lt_of_cell y0
          have HC7 := Lib.hid hc7
          have GS := Lib.hid gs2
          have GU := Lib.hid gu
          clear hw hc7 gu hLk gs gs2
          have HLK := Lib.hid (rfl : L[k] = L[k])
          obtain ⟨rk, hrk⟩ : ∃ q, L[k] = q := ⟨_, rfl⟩
          rw [hrk] at y0 y1 GU GS
          have Y9 := Lib.hid (And.intro y0 (And.intro y1 hbl))
          clear HLK
          go_upto_region 13 with (fail)
          go_cut [16, 17] from 89 to 123 (fun vf vb wx => ∃ k ds, vf = .pointer (some ⟨k, 0, none⟩) ∧ vb = .bool true ∧ FV wx k ds u9 ∧ Below wr.heap.size wr wx)
          case first =>
            have hdr := (Below.refl wr.heap.size wr).drew
            have HDR := Lib.hid hdr
            replace v3 := v3.below hdr
            replace y0 := (hdr.cell (p := ⟨b, _, none⟩) hbl).trans y0
            replace y1 := (hdr.cell (p := ⟨b, _, none⟩) hbl).trans y1
            replace hbl : b < wr.drew.heap.size := hbl
            clear hdr
            refine wp_region_held_drew (S := fun W => Below wr.drew.heap.size wr.drew W) (by kernel_rfl) (Below.refl _ _) (fun hS => ?_)
            generalize wr.drew = Wq at *
            show wpAnyH _ _ _ _ _ 12 #[false, false, false, false, false, false, false, false, false, false, false, false] _ _
            refine wpAnyH_begin (by kernel_rfl) (fun HNS => ?_)
            refine wpAnyH_takeS HNS (i := 0) (v := .agg (pc A p.cells.length c A2 p.free.length c2 p.most)) rfl (by kernel_rfl) (by kernel_rfl) (fun _ _ _ h => h) (Or.inl ⟨by kernel_rfl, fun W hW => ?_⟩) hS ?_
            · (have hz := Held.below v3.x hW; have z0 := hz.cell 0; have z1 := hz.cell 1; have z2 := hz.cell 2; simp at z0 z1 z2; go_simp)
            simp only [Act.put, List.getElem_toArray, List.getElem_cons_succ, List.getElem_cons_zero, List.setIfInBounds_toArray, List.set_cons_zero, List.set_cons_succ]
            refine wpAnyH_takeS HNS (i := 1) (v := .slice (some ⟨b, off, none⟩) L.length c14) rfl (by kernel_rfl) (by kernel_rfl) (fun _ _ _ h => h) (Or.inl ⟨by kernel_rfl, fun W hW => ?_⟩) hS ?_
            · go_simp
            simp only [Act.put, List.getElem_toArray, List.getElem_cons_succ, List.getElem_cons_zero, List.setIfInBounds_toArray, List.set_cons_zero, List.set_cons_succ]
            refine wpAnyH_takeS HNS (i := 2) (v := .int .i64 k) rfl (by kernel_rfl) (by kernel_rfl) (fun _ _ _ h => h) (Or.inl ⟨by kernel_rfl, fun W hW => ?_⟩) hS ?_
            · go_simp
            simp only [Act.put, List.getElem_toArray, List.getElem_cons_succ, List.getElem_cons_zero, List.setIfInBounds_toArray, List.set_cons_zero, List.set_cons_succ]
            refine wpAnyH_takeS HNS (i := 3) (v := .pointer (some ⟨b, off + k * 2, none⟩)) rfl (by kernel_rfl) (by kernel_rfl) (fun _ _ _ h => h) (Or.inl ⟨by kernel_rfl, fun W hW => ?_⟩) hS ?_
            · go_simp
            simp only [Act.put, List.getElem_toArray, List.getElem_cons_succ, List.getElem_cons_zero, List.setIfInBounds_toArray, List.set_cons_zero, List.set_cons_succ]
            refine wpAnyH_takeS HNS (i := 4) (v := .agg #[.int .i64 rk.1, .int .i64 rk.2]) rfl (by kernel_rfl) (by kernel_rfl) (fun _ _ _ h => h) (Or.inl ⟨by kernel_rfl, fun W hW => ?_⟩) hS ?_
            · (have z0 := (hW.cell (p := ⟨b, _, none⟩) hbl).trans y0; have z1 := (hW.cell (p := ⟨b, _, none⟩) hbl).trans y1; go_simp)
            simp only [Act.put, List.getElem_toArray, List.getElem_cons_succ, List.getElem_cons_zero, List.setIfInBounds_toArray, List.set_cons_zero, List.set_cons_succ]
            refine wpAnyH_ready (rs := [5, 9]) (by kernel_rfl) (by simp) ?_
            refine (AllReadyH.cons rfl (fun K hK => ?_) (AllReadyH.cons rfl (fun K hK => ?_) AllReadyH.nil))
            · rw [if_pos (by kernel_rfl)]
              go_simp
              go_at_call 18
              (with_reducible refine (get_o GU.out LP c c2 _ (v3.below hS).p).mono ?_)
              rintro _ u53 ⟨ds53, rfl, d153, d253, ho53, hb53⟩
              replace hS := Below.step hS hb53
              have hof := ho53
              have hd1 := d153
              have hd2 := d253
              (repeat (first | go_skip | go_guarded | go_step | go_upon))
              refine hK.out _ _ hS (fun _ => ?_)
              clear hK K
              (try simp only [Act.put, List.getElem_toArray, List.getElem_cons_succ, List.getElem_cons_zero, List.setIfInBounds_toArray, List.set_cons_zero, List.set_cons_succ])
              refine wpAnyH_takeS HNS (i := 6) (v := .tuple #[.agg ds53, .bool true]) rfl (by kernel_rfl) (by kernel_rfl) (fun _ _ _ h => h) (Or.inl ⟨by kernel_rfl, fun W hW => ?_⟩) hS ?_
              · go_simp
              simp only [Act.put, List.getElem_toArray, List.getElem_cons_succ, List.getElem_cons_zero, List.setIfInBounds_toArray, List.set_cons_zero, List.set_cons_succ]
              refine wpAnyH_takeS HNS (i := 7) (v := .agg ds53) rfl (by kernel_rfl) (by kernel_rfl) (fun _ _ _ h => h) (Or.inl ⟨by kernel_rfl, fun W hW => ?_⟩) hS ?_
              · go_simp
              simp only [Act.put, List.getElem_toArray, List.getElem_cons_succ, List.getElem_cons_zero, List.setIfInBounds_toArray, List.set_cons_zero, List.set_cons_succ]
              refine wpAnyH_takeS HNS (i := 8) (v := .bool true) rfl (by kernel_rfl) (by kernel_rfl) (fun _ _ _ h => h) (Or.inl ⟨by kernel_rfl, fun W hW => ?_⟩) hS ?_
              · go_simp
              simp only [Act.put, List.getElem_toArray, List.getElem_cons_succ, List.getElem_cons_zero, List.setIfInBounds_toArray, List.set_cons_zero, List.set_cons_succ]
              refine wpAnyH_ready (rs := [9]) (by kernel_rfl) (by simp) ?_
              refine (AllReadyH.cons rfl (fun K hK => ?_) AllReadyH.nil)
              · rw [if_pos (by kernel_rfl)]
                refine wp_alloc_R 35 rfl fzc (by kernel_rfl) ?_
                have hbA := ((Below.refl _ _).alloc (Nat.le_refl _) _ : Below u53.heap.size u53 (u53.alloc (.cells fzc 35)))
                replace hof := OwnF.below hof hbA
                have hfr := Held.new u53 35 fzc
                have lhfr := hS.size
                replace hS := Below.step hS hbA
                clear hbA
                generalize u53.alloc (.cells fzc 35) = Wd54 at *
                refine hK.out _ _ hS (fun _ => ?_)
                clear hK K
                (try simp only [Act.put, List.getElem_toArray, List.getElem_cons_succ, List.getElem_cons_zero, List.setIfInBounds_toArray, List.set_cons_zero, List.set_cons_succ])
                refine wpAnyH_ready (rs := [10]) (by kernel_rfl) (by simp) ?_
                refine (AllReadyH.cons rfl (fun K hK => ?_) AllReadyH.nil)
                · rw [if_pos (by kernel_rfl)]
                  refine wp_store_row 35 _ _ rfl _ ds53 (by rfl) (by rfl) _ _ hfr (by rw [hd1]; kernel_rfl) (by rw [hd1]; rfl) hd2 ?_
                  have hff := (hof.kt (kt_row hfr ds53) (by decide) (by decide)).at
                  have hfv := held_rowSelf hfr ds53
                  replace hS := below_setRow hS lhfr ds53
                  clear hof hfr
                  generalize World.setRow _ _ ds53 = Wst at *
                  refine hK.out _ _ hS (fun _ => ?_)
                  clear hK K
                  (try simp only [Act.put, List.getElem_toArray, List.getElem_cons_succ, List.getElem_cons_zero, List.setIfInBounds_toArray, List.set_cons_zero, List.set_cons_succ])
                  refine wpAnyH_takeS HNS (i := 11) (v := .bool true) rfl (by kernel_rfl) (by kernel_rfl) (fun _ _ _ h => h) (Or.inl ⟨by kernel_rfl, fun W hW => ?_⟩) hS ?_
                  · go_simp
                  simp only [Act.put, List.getElem_toArray, List.getElem_cons_succ, List.getElem_cons_zero, List.setIfInBounds_toArray, List.set_cons_zero, List.set_cons_succ]
                  refine wpAnyH_done (by kernel_rfl) ?_ _
                  go_wp2_with fail
                  go_meet
                  case rel => exact ⟨_, _, rfl, rfl, ⟨hfv, hd1, hd2, hff⟩, Below.step HDR.out hS⟩
            · rw [if_pos (by kernel_rfl)]
              refine wp_alloc_R 35 rfl fzc (by kernel_rfl) ?_
              have hbA := ((Below.refl _ _).alloc (Nat.le_refl _) _ : Below Wq.heap.size Wq (Wq.alloc (.cells fzc 35)))
              have hfr := Held.new Wq 35 fzc
              have lhfr := hS.size
              replace hS := Below.step hS hbA
              clear hbA
              generalize Wq.alloc (.cells fzc 35) = Wd55 at *
              refine hK.out _ _ hS (fun _ => ?_)
              clear hK K
              (try simp only [Act.put, List.getElem_toArray, List.getElem_cons_succ, List.getElem_cons_zero, List.setIfInBounds_toArray, List.set_cons_zero, List.set_cons_succ])
              refine wpAnyH_ready (rs := [5]) (by kernel_rfl) (by simp) ?_
              refine (AllReadyH.cons rfl (fun K hK => ?_) AllReadyH.nil)
              · rw [if_pos (by kernel_rfl)]
                go_simp
                go_at_call 18
                (with_reducible refine (get_o GU.out LP c c2 _ (v3.below hS).p).mono ?_)
                rintro _ u56 ⟨ds56, rfl, d156, d256, ho56, hb56⟩
                replace hfr := Held.below hfr hb56
                replace hS := Below.step hS hb56
                have hof := ho56
                have hd1 := d156
                have hd2 := d256
                (repeat (first | go_skip | go_guarded | go_step | go_upon))
                refine hK.out _ _ hS (fun _ => ?_)
                clear hK K
                (try simp only [Act.put, List.getElem_toArray, List.getElem_cons_succ, List.getElem_cons_zero, List.setIfInBounds_toArray, List.set_cons_zero, List.set_cons_succ])
                refine wpAnyH_takeS HNS (i := 6) (v := .tuple #[.agg ds56, .bool true]) rfl (by kernel_rfl) (by kernel_rfl) (fun _ _ _ h => h) (Or.inl ⟨by kernel_rfl, fun W hW => ?_⟩) hS ?_
                · go_simp
                simp only [Act.put, List.getElem_toArray, List.getElem_cons_succ, List.getElem_cons_zero, List.setIfInBounds_toArray, List.set_cons_zero, List.set_cons_succ]
                refine wpAnyH_takeS HNS (i := 7) (v := .agg ds56) rfl (by kernel_rfl) (by kernel_rfl) (fun _ _ _ h => h) (Or.inl ⟨by kernel_rfl, fun W hW => ?_⟩) hS ?_
                · go_simp
                simp only [Act.put, List.getElem_toArray, List.getElem_cons_succ, List.getElem_cons_zero, List.setIfInBounds_toArray, List.set_cons_zero, List.set_cons_succ]
                refine wpAnyH_takeS HNS (i := 8) (v := .bool true) rfl (by kernel_rfl) (by kernel_rfl) (fun _ _ _ h => h) (Or.inl ⟨by kernel_rfl, fun W hW => ?_⟩) hS ?_
                · go_simp
                simp only [Act.put, List.getElem_toArray, List.getElem_cons_succ, List.getElem_cons_zero, List.setIfInBounds_toArray, List.set_cons_zero, List.set_cons_succ]
                refine wpAnyH_ready (rs := [10]) (by kernel_rfl) (by simp) ?_
                refine (AllReadyH.cons rfl (fun K hK => ?_) AllReadyH.nil)
                · rw [if_pos (by kernel_rfl)]
                  refine wp_store_row 35 _ _ rfl _ ds56 (by rfl) (by rfl) _ _ hfr (by rw [hd1]; kernel_rfl) (by rw [hd1]; rfl) hd2 ?_
                  have hff := (hof.kt (kt_row hfr ds56) (by decide) (by decide)).at
                  have hfv := held_rowSelf hfr ds56
                  replace hS := below_setRow hS lhfr ds56
                  clear hof hfr
                  generalize World.setRow _ _ ds56 = Wst at *
                  refine hK.out _ _ hS (fun _ => ?_)
                  clear hK K
                  (try simp only [Act.put, List.getElem_toArray, List.getElem_cons_succ, List.getElem_cons_zero, List.setIfInBounds_toArray, List.set_cons_zero, List.set_cons_succ])
                  refine wpAnyH_takeS HNS (i := 11) (v := .bool true) rfl (by kernel_rfl) (by kernel_rfl) (fun _ _ _ h => h) (Or.inl ⟨by kernel_rfl, fun W hW => ?_⟩) hS ?_
                  · go_simp
                  simp only [Act.put, List.getElem_toArray, List.getElem_cons_succ, List.getElem_cons_zero, List.setIfInBounds_toArray, List.set_cons_zero, List.set_cons_succ]
                  refine wpAnyH_done (by kernel_rfl) ?_ _
                  go_wp2_with fail
                  go_meet
                  case rel => exact ⟨_, _, rfl, rfl, ⟨hfv, hd1, hd2, hff⟩, Below.step HDR.out hS⟩
          case rest =>
            obtain ⟨k16, ds16, rfl, rfl, -, hwc⟩ := hcut
            obtain ⟨y0, y1, hbl⟩ := Y9.out
            replace y0 := (hwc.cell (p := ⟨b, _, none⟩) hbl).trans y0
            have HWC := Lib.hid (Below.step HWR.out hwc)
            clear v3 y1
            rcases Nat.eq_zero_or_pos k with hkz | hkp
            · subst hkz
              go_wp2_with fail
              go_quiet (fail)
              go_wp2_with fail
              go_roundw
              case rel => exact ⟨1, rfl, by omega, below_drewN HWC.out _⟩
              case measure => simp [intOf]; omega
            · obtain ⟨k', rfl⟩ : ∃ k', k = k' + 1 := ⟨k - 1, by omega⟩
              have x0 := (hwc.cell (p := ⟨b, _, none⟩) hbl).trans (HC7.out k' (by omega)).1
              have hlt9 := GS.out k' (by omega)
              generalize (L[k']'(by omega)).1 = q1 at *
              generalize rk.1 = q2 at *
              have dge : decide (q2 ≤ q1) = false := decide_eq_false (by omega)
              have hk1 : (0 : Int) ≤ k' := by omega
              have hk2 : ((k' + 1 : Nat) : Int) = (k' : Int) + 1 := by omega
              have hk3 : (k' : Int) < (L.length : Nat) := by omega
              have hk4 : decide ((0 : Int) < ((k' + 1 : Nat) : Int)) = true := decide_eq_true (by omega)
              clear hwc
              go_wp2_with fail
              go_quiet (fail)
              go_wp2_with fail
              go_roundw
              case rel => exact ⟨k' + 1 + 1, by go_num, by omega, below_drewN HWC.out _⟩
              case measure => simp [intOf]; omega
        · obtain rfl : k = L.length := by omega
          obtain ⟨v3, v7, -, hW⟩ := HV.out
          replace v3 := v3.below hw
          replace v7 := v7.below hw
          replace hW := Below.step hW hw
          clear hw hlt HV
          go_wp2_with (first
            | (guard_target = wpList _ _ _ (Oper.mk (some 124) _ _ _ _ none :: _) _ _; refine wpList_load_row rfl 25 _ rfl w.heap.size rfl _ _ _ _ v3.x Try.underlying25 rfl (by kernel_rfl) ?_)
            | (guard_target = wpList _ _ _ (Oper.mk (some 125) _ _ _ _ none :: _) _ _; refine wpList_load_row rfl 25 _ rfl k7 rfl _ _ _ _ v7.x Try.underlying25 rfl (by kernel_rfl) ?_)
            | (go_at_call 22; (with_reducible refine (rsame_c (decide_eq_true (rfl : p = p)) LP LP c c2 c7 d7 _ v3.p v7.p).mono ?_); rintro _ us9 ⟨rfl, hbs9⟩; replace hW := Below.step hW hbs9))
          go_ret
          exact ⟨rfl, hW⟩
    · have hSA' := hSA.symm
      have hSB' := hSB.symm
      clear hSA hSB
      subst hSA' hSB'
      have ex : (x == 0) = false := by simpa using hx
      have ey : (y == 0) = false := by simpa using hy
      have SAM : ∀ (W : World) {A3 A4 A5 A6 : Option Addr} {c3 c4 c5 c6 : Nat}, PAtZ W W.heap.size A3 A4 p → PAtZ W W.heap.size A5 A6 p → Calls Try.prog 22 #[pv A3 p.cells.length c3 A4 p.free.length c4 p.most, pv A5 p.cells.length c5 A6 p.free.length c6 p.most] W fun e w' => e = .returned (.bool true) ∧ Below W.heap.size W w' := fun W _ _ _ _ _ _ _ _ h h' => rsame_c (decide_eq_true rfl) LP LP _ _ _ _ W h h'
      have SAM2 := @SAM
      clear hx hy
      go_upto_region 11 with (first
        | (guard_target = wpList _ _ _ (Oper.mk (some 75) _ _ _ _ _ :: _) _ _; refine wpList_done rfl ?_; refine wpList_load_row rfl 25 _ rfl g10 rfl _ _ _ _ v10.x Try.underlying25 rfl (by kernel_rfl) ?_)
        | (guard_target = wpList _ _ _ (Oper.mk (some 76) _ _ _ _ _ :: _) _ _; refine wpList_done rfl ?_; refine wpList_load_row rfl 25 _ rfl w.heap.size rfl _ _ _ _ v3.x Try.underlying25 rfl (by kernel_rfl) ?_)
        | (guard_target = wpList _ _ _ (Oper.mk (some 80) _ _ _ _ _ :: _) _ _; refine wpList_done rfl ?_; refine wpList_load_row rfl 25 _ rfl g12 rfl _ _ _ _ v12.x Try.underlying25 rfl (by kernel_rfl) ?_)
        | (guard_target = wpList _ _ _ (Oper.mk (some 81) _ _ _ _ _ :: _) _ _; refine wpList_done rfl ?_; refine wpList_load_row rfl 25 _ rfl w.heap.size rfl _ _ _ _ v3.x Try.underlying25 rfl (by kernel_rfl) ?_)
        | (go_at_call 22; (with_reducible refine (SAM _ v10.p v3.p).mono ?_); rintro _ un1 ⟨rfl, hbn1⟩; replace v3 := v3.below hbn1; replace v4 := Held.below v4 hbn1; replace v5 := v5.below hbn1; replace v7 := v7.below hbn1; replace v10 := v10.below hbn1; replace v12 := v12.below hbn1; replace hW := Below.step hW hbn1)
        | (go_at_call 22; (with_reducible refine (SAM2 _ v12.p v3.p).mono ?_); rintro _ un2 ⟨rfl, hbn2⟩; replace v3 := v3.below hbn2; replace v4 := Held.below v4 hbn2; replace v5 := v5.below hbn2; replace v7 := v7.below hbn2; replace v10 := v10.below hbn2; replace v12 := v12.below hbn2; replace hW := Below.step hW hbn2)
        | (guard_target = wpList _ _ _ (Oper.mk (some 87) _ _ _ _ none :: _) _ _; refine wpList_load_row rfl 25 _ rfl w.heap.size rfl _ _ _ _ v3.x Try.underlying25 rfl (by kernel_rfl) ?_)
        | (go_at_call 25; (with_reducible refine (refs_c HLR.out LP c c2 _ v3.p).mono ?_); rintro _ ur ⟨A14, c14, rfl, w14, hbr⟩; replace v3 := v3.below hbr; replace v4 := Held.below v4 hbr; replace v5 := v5.below hbr; replace v7 := v7.below hbr; replace v10 := v10.below hbr; replace v12 := v12.below hbr; replace hW := Below.step hW hbr))
      have HV := Lib.hid (And.intro v3 (And.intro v7 (And.intro (own2_at w14) hW)))
      clear v3 v4 v5 v7 v10 v12 w14 hW
      obtain ⟨W17, hW17⟩ : ∃ W, W = ur := ⟨_, rfl⟩
      rw [← hW17] at HV ⊢
      clear hW17
      go_loopw [15] (fun iv W => ∃ j : Nat, iv = .int .i64 j ∧ j ≤ L.length ∧ Below W17.heap.size W17 W) (fun iv _ => L.length - (intOf iv).toNat)
      case atStart => exact ⟨0, rfl, by omega, Below.refl _ _⟩
      case round =>
        obtain ⟨k, rfl, hk, hw⟩ := hrel
        have HWR := Lib.hid hw
        have hk0 : (0 : Int) ≤ k := by omega
        have hLI : ((L.length : Nat) : Int) ≤ 30 := by omega
        by_cases hlt : k < L.length
        · have hlt2 : (k : Int) < (L.length : Nat) := by omega
          obtain ⟨v3, -, h14, -⟩ := HV.out
          replace v3 := v3.below hw
          replace h14 := pat_later h14 hw
          obtain ⟨⟨u9, gu⟩, gs⟩ := each p k (by rw [HLR.out]; exact hlt)
          have hLk : (refsZ p)[k]'(by rw [HLR.out]; exact hlt) = L[k] := by simp only [HLR.out]
          have gs2 : ∀ i (h : i < k), (L[i]'(by omega)).1 < (L[k]).1 := fun i hi => by
            have := gs i hi
            simp only [HLR.out] at this
            exact this
          rw [hLk] at gu
          obtain ⟨b, off, rfl, -, hc7⟩ := h14 (by omega)
          obtain ⟨y0, y1⟩ := hc7 k hlt
          have hbl : b < wr.heap.size := block_lt_of_cell y0
          have HC7 := Lib.hid hc7
          have GS := Lib.hid gs2
          have GU := Lib.hid gu
          clear hw hc7 gu hLk gs gs2
          have HLK := Lib.hid (rfl : L[k] = L[k])
          obtain ⟨rk, hrk⟩ : ∃ q, L[k] = q := ⟨_, rfl⟩
          rw [hrk] at y0 y1 GU GS
          have Y9 := Lib.hid (And.intro y0 (And.intro y1 hbl))
          clear HLK
          go_upto_region 13 with (fail)
          go_cut [16, 17] from 89 to 123 (fun vf vb wx => ∃ k ds, vf = .pointer (some ⟨k, 0, none⟩) ∧ vb = .bool true ∧ FV wx k ds u9 ∧ Below wr.heap.size wr wx)
          case first =>
            have hdr := (Below.refl wr.heap.size wr).drew
            have HDR := Lib.hid hdr
            replace v3 := v3.below hdr
            replace y0 := (hdr.cell (p := ⟨b, _, none⟩) hbl).trans y0
            replace y1 := (hdr.cell (p := ⟨b, _, none⟩) hbl).trans y1
            replace hbl : b < wr.drew.heap.size := hbl
            clear hdr
            refine wp_region_held_drew (S := fun W => Below wr.drew.heap.size wr.drew W) (by kernel_rfl) (Below.refl _ _) (fun hS => ?_)
            generalize wr.drew = Wq at *
            show wpAnyH _ _ _ _ _ 12 #[false, false, false, false, false, false, false, false, false, false, false, false] _ _
            refine wpAnyH_begin (by kernel_rfl) (fun HNS => ?_)
            refine wpAnyH_takeS HNS (i := 0) (v := .agg (pc A p.cells.length c A2 p.free.length c2 p.most)) rfl (by kernel_rfl) (by kernel_rfl) (fun _ _ _ h => h) (Or.inl ⟨by kernel_rfl, fun W hW => ?_⟩) hS ?_
            · (have hz := Held.below v3.x hW; have z0 := hz.cell 0; have z1 := hz.cell 1; have z2 := hz.cell 2; simp at z0 z1 z2; go_simp)
            simp only [Act.put, List.getElem_toArray, List.getElem_cons_succ, List.getElem_cons_zero, List.setIfInBounds_toArray, List.set_cons_zero, List.set_cons_succ]
            refine wpAnyH_takeS HNS (i := 1) (v := .slice (some ⟨b, off, none⟩) L.length c14) rfl (by kernel_rfl) (by kernel_rfl) (fun _ _ _ h => h) (Or.inl ⟨by kernel_rfl, fun W hW => ?_⟩) hS ?_
            · go_simp
            simp only [Act.put, List.getElem_toArray, List.getElem_cons_succ, List.getElem_cons_zero, List.setIfInBounds_toArray, List.set_cons_zero, List.set_cons_succ]
            refine wpAnyH_takeS HNS (i := 2) (v := .int .i64 k) rfl (by kernel_rfl) (by kernel_rfl) (fun _ _ _ h => h) (Or.inl ⟨by kernel_rfl, fun W hW => ?_⟩) hS ?_
            · go_simp
            simp only [Act.put, List.getElem_toArray, List.getElem_cons_succ, List.getElem_cons_zero, List.setIfInBounds_toArray, List.set_cons_zero, List.set_cons_succ]
            refine wpAnyH_takeS HNS (i := 3) (v := .pointer (some ⟨b, off + k * 2, none⟩)) rfl (by kernel_rfl) (by kernel_rfl) (fun _ _ _ h => h) (Or.inl ⟨by kernel_rfl, fun W hW => ?_⟩) hS ?_
            · go_simp
            simp only [Act.put, List.getElem_toArray, List.getElem_cons_succ, List.getElem_cons_zero, List.setIfInBounds_toArray, List.set_cons_zero, List.set_cons_succ]
            refine wpAnyH_takeS HNS (i := 4) (v := .agg #[.int .i64 rk.1, .int .i64 rk.2]) rfl (by kernel_rfl) (by kernel_rfl) (fun _ _ _ h => h) (Or.inl ⟨by kernel_rfl, fun W hW => ?_⟩) hS ?_
            · (have z0 := (hW.cell (p := ⟨b, _, none⟩) hbl).trans y0; have z1 := (hW.cell (p := ⟨b, _, none⟩) hbl).trans y1; go_simp)
            simp only [Act.put, List.getElem_toArray, List.getElem_cons_succ, List.getElem_cons_zero, List.setIfInBounds_toArray, List.set_cons_zero, List.set_cons_succ]
            refine wpAnyH_ready (rs := [5, 9]) (by kernel_rfl) (by simp) ?_
            refine (AllReadyH.cons rfl (fun K hK => ?_) (AllReadyH.cons rfl (fun K hK => ?_) AllReadyH.nil))
            · rw [if_pos (by kernel_rfl)]
              go_simp
              go_at_call 18
              (with_reducible refine (get_o GU.out LP c c2 _ (v3.below hS).p).mono ?_)
              rintro _ u57 ⟨ds57, rfl, d157, d257, ho57, hb57⟩
              replace hS := Below.step hS hb57
              have hof := ho57
              have hd1 := d157
              have hd2 := d257
              (repeat (first | go_skip | go_guarded | go_step | go_upon))
              refine hK.out _ _ hS (fun _ => ?_)
              clear hK K
              (try simp only [Act.put, List.getElem_toArray, List.getElem_cons_succ, List.getElem_cons_zero, List.setIfInBounds_toArray, List.set_cons_zero, List.set_cons_succ])
              refine wpAnyH_takeS HNS (i := 6) (v := .tuple #[.agg ds57, .bool true]) rfl (by kernel_rfl) (by kernel_rfl) (fun _ _ _ h => h) (Or.inl ⟨by kernel_rfl, fun W hW => ?_⟩) hS ?_
              · go_simp
              simp only [Act.put, List.getElem_toArray, List.getElem_cons_succ, List.getElem_cons_zero, List.setIfInBounds_toArray, List.set_cons_zero, List.set_cons_succ]
              refine wpAnyH_takeS HNS (i := 7) (v := .agg ds57) rfl (by kernel_rfl) (by kernel_rfl) (fun _ _ _ h => h) (Or.inl ⟨by kernel_rfl, fun W hW => ?_⟩) hS ?_
              · go_simp
              simp only [Act.put, List.getElem_toArray, List.getElem_cons_succ, List.getElem_cons_zero, List.setIfInBounds_toArray, List.set_cons_zero, List.set_cons_succ]
              refine wpAnyH_takeS HNS (i := 8) (v := .bool true) rfl (by kernel_rfl) (by kernel_rfl) (fun _ _ _ h => h) (Or.inl ⟨by kernel_rfl, fun W hW => ?_⟩) hS ?_
              · go_simp
              simp only [Act.put, List.getElem_toArray, List.getElem_cons_succ, List.getElem_cons_zero, List.setIfInBounds_toArray, List.set_cons_zero, List.set_cons_succ]
              refine wpAnyH_ready (rs := [9]) (by kernel_rfl) (by simp) ?_
              refine (AllReadyH.cons rfl (fun K hK => ?_) AllReadyH.nil)
              · rw [if_pos (by kernel_rfl)]
                refine wp_alloc_R 35 rfl fzc (by kernel_rfl) ?_
                have hbA := ((Below.refl _ _).alloc (Nat.le_refl _) _ : Below u57.heap.size u57 (u57.alloc (.cells fzc 35)))
                replace hof := OwnF.below hof hbA
                have hfr := Held.new u57 35 fzc
                have lhfr := hS.size
                replace hS := Below.step hS hbA
                clear hbA
                generalize u57.alloc (.cells fzc 35) = Wd58 at *
                refine hK.out _ _ hS (fun _ => ?_)
                clear hK K
                (try simp only [Act.put, List.getElem_toArray, List.getElem_cons_succ, List.getElem_cons_zero, List.setIfInBounds_toArray, List.set_cons_zero, List.set_cons_succ])
                refine wpAnyH_ready (rs := [10]) (by kernel_rfl) (by simp) ?_
                refine (AllReadyH.cons rfl (fun K hK => ?_) AllReadyH.nil)
                · rw [if_pos (by kernel_rfl)]
                  refine wp_store_row 35 _ _ rfl _ ds57 (by rfl) (by rfl) _ _ hfr (by rw [hd1]; kernel_rfl) (by rw [hd1]; rfl) hd2 ?_
                  have hff := (hof.kt (kt_row hfr ds57) (by decide) (by decide)).at
                  have hfv := held_rowSelf hfr ds57
                  replace hS := below_setRow hS lhfr ds57
                  clear hof hfr
                  generalize World.setRow _ _ ds57 = Wst at *
                  refine hK.out _ _ hS (fun _ => ?_)
                  clear hK K
                  (try simp only [Act.put, List.getElem_toArray, List.getElem_cons_succ, List.getElem_cons_zero, List.setIfInBounds_toArray, List.set_cons_zero, List.set_cons_succ])
                  refine wpAnyH_takeS HNS (i := 11) (v := .bool true) rfl (by kernel_rfl) (by kernel_rfl) (fun _ _ _ h => h) (Or.inl ⟨by kernel_rfl, fun W hW => ?_⟩) hS ?_
                  · go_simp
                  simp only [Act.put, List.getElem_toArray, List.getElem_cons_succ, List.getElem_cons_zero, List.setIfInBounds_toArray, List.set_cons_zero, List.set_cons_succ]
                  refine wpAnyH_done (by kernel_rfl) ?_ _
                  go_wp2_with fail
                  go_meet
                  case rel => exact ⟨_, _, rfl, rfl, ⟨hfv, hd1, hd2, hff⟩, Below.step HDR.out hS⟩
            · rw [if_pos (by kernel_rfl)]
              refine wp_alloc_R 35 rfl fzc (by kernel_rfl) ?_
              have hbA := ((Below.refl _ _).alloc (Nat.le_refl _) _ : Below Wq.heap.size Wq (Wq.alloc (.cells fzc 35)))
              have hfr := Held.new Wq 35 fzc
              have lhfr := hS.size
              replace hS := Below.step hS hbA
              clear hbA
              generalize Wq.alloc (.cells fzc 35) = Wd59 at *
              refine hK.out _ _ hS (fun _ => ?_)
              clear hK K
              (try simp only [Act.put, List.getElem_toArray, List.getElem_cons_succ, List.getElem_cons_zero, List.setIfInBounds_toArray, List.set_cons_zero, List.set_cons_succ])
              refine wpAnyH_ready (rs := [5]) (by kernel_rfl) (by simp) ?_
              refine (AllReadyH.cons rfl (fun K hK => ?_) AllReadyH.nil)
              · rw [if_pos (by kernel_rfl)]
                go_simp
                go_at_call 18
                (with_reducible refine (get_o GU.out LP c c2 _ (v3.below hS).p).mono ?_)
                rintro _ u60 ⟨ds60, rfl, d160, d260, ho60, hb60⟩
                replace hfr := Held.below hfr hb60
                replace hS := Below.step hS hb60
                have hof := ho60
                have hd1 := d160
                have hd2 := d260
                (repeat (first | go_skip | go_guarded | go_step | go_upon))
                refine hK.out _ _ hS (fun _ => ?_)
                clear hK K
                (try simp only [Act.put, List.getElem_toArray, List.getElem_cons_succ, List.getElem_cons_zero, List.setIfInBounds_toArray, List.set_cons_zero, List.set_cons_succ])
                refine wpAnyH_takeS HNS (i := 6) (v := .tuple #[.agg ds60, .bool true]) rfl (by kernel_rfl) (by kernel_rfl) (fun _ _ _ h => h) (Or.inl ⟨by kernel_rfl, fun W hW => ?_⟩) hS ?_
                · go_simp
                simp only [Act.put, List.getElem_toArray, List.getElem_cons_succ, List.getElem_cons_zero, List.setIfInBounds_toArray, List.set_cons_zero, List.set_cons_succ]
                refine wpAnyH_takeS HNS (i := 7) (v := .agg ds60) rfl (by kernel_rfl) (by kernel_rfl) (fun _ _ _ h => h) (Or.inl ⟨by kernel_rfl, fun W hW => ?_⟩) hS ?_
                · go_simp
                simp only [Act.put, List.getElem_toArray, List.getElem_cons_succ, List.getElem_cons_zero, List.setIfInBounds_toArray, List.set_cons_zero, List.set_cons_succ]
                refine wpAnyH_takeS HNS (i := 8) (v := .bool true) rfl (by kernel_rfl) (by kernel_rfl) (fun _ _ _ h => h) (Or.inl ⟨by kernel_rfl, fun W hW => ?_⟩) hS ?_
                · go_simp
                simp only [Act.put, List.getElem_toArray, List.getElem_cons_succ, List.getElem_cons_zero, List.setIfInBounds_toArray, List.set_cons_zero, List.set_cons_succ]
                refine wpAnyH_ready (rs := [10]) (by kernel_rfl) (by simp) ?_
                refine (AllReadyH.cons rfl (fun K hK => ?_) AllReadyH.nil)
                · rw [if_pos (by kernel_rfl)]
                  refine wp_store_row 35 _ _ rfl _ ds60 (by rfl) (by rfl) _ _ hfr (by rw [hd1]; kernel_rfl) (by rw [hd1]; rfl) hd2 ?_
                  have hff := (hof.kt (kt_row hfr ds60) (by decide) (by decide)).at
                  have hfv := held_rowSelf hfr ds60
                  replace hS := below_setRow hS lhfr ds60
                  clear hof hfr
                  generalize World.setRow _ _ ds60 = Wst at *
                  refine hK.out _ _ hS (fun _ => ?_)
                  clear hK K
                  (try simp only [Act.put, List.getElem_toArray, List.getElem_cons_succ, List.getElem_cons_zero, List.setIfInBounds_toArray, List.set_cons_zero, List.set_cons_succ])
                  refine wpAnyH_takeS HNS (i := 11) (v := .bool true) rfl (by kernel_rfl) (by kernel_rfl) (fun _ _ _ h => h) (Or.inl ⟨by kernel_rfl, fun W hW => ?_⟩) hS ?_
                  · go_simp
                  simp only [Act.put, List.getElem_toArray, List.getElem_cons_succ, List.getElem_cons_zero, List.setIfInBounds_toArray, List.set_cons_zero, List.set_cons_succ]
                  refine wpAnyH_done (by kernel_rfl) ?_ _
                  go_wp2_with fail
                  go_meet
                  case rel => exact ⟨_, _, rfl, rfl, ⟨hfv, hd1, hd2, hff⟩, Below.step HDR.out hS⟩
          case rest =>
            obtain ⟨k16, ds16, rfl, rfl, -, hwc⟩ := hcut
            obtain ⟨y0, y1, hbl⟩ := Y9.out
            replace y0 := (hwc.cell (p := ⟨b, _, none⟩) hbl).trans y0
            have HWC := Lib.hid (Below.step HWR.out hwc)
            clear v3 y1
            rcases Nat.eq_zero_or_pos k with hkz | hkp
            · subst hkz
              go_wp2_with fail
              go_quiet (fail)
              go_wp2_with fail
              go_roundw
              case rel => exact ⟨1, rfl, by omega, below_drewN HWC.out _⟩
              case measure => simp [intOf]; omega
            · obtain ⟨k', rfl⟩ : ∃ k', k = k' + 1 := ⟨k - 1, by omega⟩
              have x0 := (hwc.cell (p := ⟨b, _, none⟩) hbl).trans (HC7.out k' (by omega)).1
              have hlt9 := GS.out k' (by omega)
              generalize (L[k']'(by omega)).1 = q1 at *
              generalize rk.1 = q2 at *
              have dge : decide (q2 ≤ q1) = false := decide_eq_false (by omega)
              have hk1 : (0 : Int) ≤ k' := by omega
              have hk2 : ((k' + 1 : Nat) : Int) = (k' : Int) + 1 := by omega
              have hk3 : (k' : Int) < (L.length : Nat) := by omega
              have hk4 : decide ((0 : Int) < ((k' + 1 : Nat) : Int)) = true := decide_eq_true (by omega)
              clear hwc
              go_wp2_with fail
              go_quiet (fail)
              go_wp2_with fail
              go_roundw
              case rel => exact ⟨k' + 1 + 1, by go_num, by omega, below_drewN HWC.out _⟩
              case measure => simp [intOf]; omega
        · obtain rfl : k = L.length := by omega
          obtain ⟨v3, v7, -, hW⟩ := HV.out
          replace v3 := v3.below hw
          replace v7 := v7.below hw
          replace hW := Below.step hW hw
          clear hw hlt HV
          go_wp2_with (first
            | (guard_target = wpList _ _ _ (Oper.mk (some 124) _ _ _ _ none :: _) _ _; refine wpList_load_row rfl 25 _ rfl w.heap.size rfl _ _ _ _ v3.x Try.underlying25 rfl (by kernel_rfl) ?_)
            | (guard_target = wpList _ _ _ (Oper.mk (some 125) _ _ _ _ none :: _) _ _; refine wpList_load_row rfl 25 _ rfl k7 rfl _ _ _ _ v7.x Try.underlying25 rfl (by kernel_rfl) ?_)
            | (go_at_call 22; (with_reducible refine (rsame_c (decide_eq_true (rfl : p = p)) LP LP c c2 c7 d7 _ v3.p v7.p).mono ?_); rintro _ us9 ⟨rfl, hbs9⟩; replace hW := Below.step hW hbs9))
          go_ret
          exact ⟨rfl, hW⟩
end Go.Proofs.Ytkpjlobpaippdaa.penStale
