/- WorldSame. -/
import Derived.Test.YtjibkgildfjjoaaDoorzZw
namespace Go.Proofs.YtjibkgildfjjoaaDoor.worldSame
set_option linter.unusedVariables false
set_option linter.unusedSimpArgs false
open Go.RowKit Go.ChangeShapes Go.WideShapes Go.ChangeAt Go.Sort Go.Proofs.YtjibkgildfjjoaaDoor

set_option maxHeartbeats 8000000 in
set_option maxRecDepth 100000 in
theorem walk {T : World → Prop} (C : WC T) (CF : ∀ w, T w → Calls Tryd.prog 6 #[] w fun e w' => e = .returned (.bool true) ∧ Below w.heap.size w w') {a : WA} {U : Wld} {B : Nat} (at0 : Int) (w : World) (hT : T w)
    (hu : WAt w B a U) (hzu : SzW U) (hB : B ≤ w.heap.size) :
    Calls Tryd.prog 4 #[.agg (wcs a U), .int .i64 at0] w fun e w' => e = .returned (.bool true) ∧ Below w.heap.size w w' := by
  have hW : Below w.heap.size w (w.alloc (.cells (wcs a U) 40)) := (Below.refl _ _).alloc (Nat.le_refl _) _
  have k2 := Held.new w 40 (wcs a U)
  have HT := Lib.hid hT
  have HU := Lib.hid (hu.more hB)
  have HU0 := Lib.hid (hu.more hB)
  have HZU := Lib.hid hzu
  obtain ⟨b2, hb2⟩ : ∃ x, smW U = x := ⟨_, rfl⟩
  have H2 := Lib.hid hb2
  have PU := Lib.hid (fun (W : World) (h : Below w.heap.size w W) => (HU.out.below h (Nat.le_refl _)).more h.size : ∀ W, Below w.heap.size w W → WAt W W.heap.size a U)
  clear hT hu hzu hB hb2 HU
  go_enter Tryd.func4, Tryd.ntmps4
  go_upto_region 1 with (fail)
  generalize w.alloc (.cells (wcs a U) 40) = W0 at *
  cases b2
  case false =>
    go_wp2_with (first
      | (go_at_call 6; (with_reducible refine (CF _ (C.kept HT.out hW)).mono ?_); rintro _ uf ⟨rfl, hbf⟩; replace k2 := Held.below k2 hbf; replace hW := Below.step hW hbf; clear hbf)
      | (guard_target = wpList _ _ _ (Oper.mk (some 15) _ _ _ _ _ :: _) _ _; refine wpList_done rfl ?_; refine wpList_load_row rfl 40 _ rfl w.heap.size rfl _ _ _ _ k2 Tryd.underlying40 rfl (by kernel_rfl) ?_)
      | (go_at_call 7; (with_reducible refine (smallW_c H2.out HZU.out _ (PU.out _ hW)).mono ?_); rintro _ us ⟨rfl, hbs⟩; replace k2 := Held.below k2 hbs; replace hW := Below.step hW hbs; clear hbs))
    go_ret
    exact ⟨rfl, hW⟩
  case true =>
  go_upto_region 3 with (first
  | (go_at_call 6; (with_reducible refine (CF _ (C.kept HT.out hW)).mono ?_); rintro _ uf ⟨rfl, hbf⟩; replace k2 := Held.below k2 hbf; replace hW := Below.step hW hbf; clear hbf)
  | (guard_target = wpList _ _ _ (Oper.mk (some 15) _ _ _ _ _ :: _) _ _; refine wpList_done rfl ?_; refine wpList_load_row rfl 40 _ rfl w.heap.size rfl _ _ _ _ k2 Tryd.underlying40 rfl (by kernel_rfl) ?_)
  | (go_at_call 7; (with_reducible refine (smallW_c H2.out HZU.out _ (PU.out _ hW)).mono ?_); rintro _ us ⟨rfl, hbs⟩; replace k2 := Held.below k2 hbs; replace hW := Below.step hW hbs; clear hbs))
  obtain ⟨W3, hW3⟩ : ∃ W, W = us := ⟨_, rfl⟩
  rw [← hW3] at k2 hW ⊢
  clear hW3
  go_cut [5, 6, 7, 8] from 20 to 23 (fun v5 v6 v7 v8 W => ∃ g5 g6 g7 g8, v5 = .pointer (some ⟨g5, 0, none⟩) ∧ v6 = .pointer (some ⟨g6, 0, none⟩) ∧ v7 = .pointer (some ⟨g7, 0, none⟩) ∧ v8 = .pointer (some ⟨g8, 0, none⟩) ∧ FourW W W3.heap.size (wcs a U) g5 g6 g7 g8 ∧ Below W3.heap.size W3 W)
  case first =>
    clear CF C HT PU HZU H2 hW
    have HDR := Lib.hid (Below.refl W3.heap.size W3).drew
    replace k2 := Held.below k2 HDR.out
    have hlo : W3.heap.size ≤ W3.drew.heap.size := HDR.out.size
    refine wp_region_held_drew (S := fun W => Below W3.drew.heap.size W3.drew W) (by kernel_rfl) (Below.refl _ _) (fun hS => ?_)
    generalize W3.drew = Wq at *
    show wpAnyH _ _ _ _ _ 12 #[false, false, false, false, false, false, false, false, false, false, false, false] _ _
    refine wpAnyH_begin (by kernel_rfl) (fun HNS => ?_)
    refine wpAnyH_takeS HNS (i := 0) (v := .agg (wcs a U)) rfl (by kernel_rfl) (by kernel_rfl) (fun _ _ _ h => h) (yieldsIf_load_midA (by kernel_rfl) 40 _ rfl (w.heap.size) 0 (by rfl) (wcs a U) _ (fun W hW => rng_held (Held.below k2 hW)) Tryd.underlying40 rfl (by kernel_rfl)) hS ?_
    simp only [Act.put, List.getElem_toArray, List.getElem_cons_succ, List.getElem_cons_zero, List.setIfInBounds_toArray, List.set_cons_zero, List.set_cons_succ]
    refine wpAnyH_takeS HNS (i := 1) (v := .agg (wcs a U)) rfl (by kernel_rfl) (by kernel_rfl) (fun _ _ _ h => h) (yieldsIf_load_midA (by kernel_rfl) 40 _ rfl (w.heap.size) 0 (by rfl) (wcs a U) _ (fun W hW => rng_held (Held.below k2 hW)) Tryd.underlying40 rfl (by kernel_rfl)) hS ?_
    simp only [Act.put, List.getElem_toArray, List.getElem_cons_succ, List.getElem_cons_zero, List.setIfInBounds_toArray, List.set_cons_zero, List.set_cons_succ]
    refine wpAnyH_takeS HNS (i := 2) (v := .agg (wcs a U)) rfl (by kernel_rfl) (by kernel_rfl) (fun _ _ _ h => h) (yieldsIf_load_midA (by kernel_rfl) 40 _ rfl (w.heap.size) 0 (by rfl) (wcs a U) _ (fun W hW => rng_held (Held.below k2 hW)) Tryd.underlying40 rfl (by kernel_rfl)) hS ?_
    simp only [Act.put, List.getElem_toArray, List.getElem_cons_succ, List.getElem_cons_zero, List.setIfInBounds_toArray, List.set_cons_zero, List.set_cons_succ]
    refine wpAnyH_takeS HNS (i := 3) (v := .agg (wcs a U)) rfl (by kernel_rfl) (by kernel_rfl) (fun _ _ _ h => h) (yieldsIf_load_midA (by kernel_rfl) 40 _ rfl (w.heap.size) 0 (by rfl) (wcs a U) _ (fun W hW => rng_held (Held.below k2 hW)) Tryd.underlying40 rfl (by kernel_rfl)) hS ?_
    simp only [Act.put, List.getElem_toArray, List.getElem_cons_succ, List.getElem_cons_zero, List.setIfInBounds_toArray, List.set_cons_zero, List.set_cons_succ]
    refine wpAnyH_ready (rs := [4, 5, 6, 7]) (by kernel_rfl) (by simp) ?_
    refine (AllReadyH.cons rfl (fun K hK => ?_) (AllReadyH.cons rfl (fun K hK => ?_) (AllReadyH.cons rfl (fun K hK => ?_) (AllReadyH.cons rfl (fun K hK => ?_) AllReadyH.nil))))
    · rw [if_pos (by kernel_rfl)]
      refine wp_alloc_R 40 rfl wz0 (by kernel_rfl) ?_
      have hbA := ((Below.refl _ _).alloc (Nat.le_refl _) _ : Below Wq.heap.size Wq (Wq.alloc (.cells wz0 40)))
      have h5 := Held.new Wq 40 wz0
      have lh5 := hS.size
      replace hS := Below.step hS hbA
      clear hbA
      generalize Wq.alloc (.cells wz0 40) = Wd1 at *
      refine hK.out _ _ hS (fun _ => ?_)
      clear hK K
      (try simp only [Act.put, List.getElem_toArray, List.getElem_cons_succ, List.getElem_cons_zero, List.setIfInBounds_toArray, List.set_cons_zero, List.set_cons_succ])
      refine wpAnyH_ready (rs := [5, 6, 7]) (by kernel_rfl) (by simp) ?_
      refine (AllReadyH.cons rfl (fun K hK => ?_) (AllReadyH.cons rfl (fun K hK => ?_) (AllReadyH.cons rfl (fun K hK => ?_) AllReadyH.nil)))
      · rw [if_pos (by kernel_rfl)]
        refine wp_alloc_R 40 rfl wz0 (by kernel_rfl) ?_
        have nh5h6 : Wq.heap.size ≠ Wd1.heap.size := Nat.ne_of_lt (Held.lt h5)
        have hbA := ((Below.refl _ _).alloc (Nat.le_refl _) _ : Below Wd1.heap.size Wd1 (Wd1.alloc (.cells wz0 40)))
        replace h5 := Held.below h5 hbA
        have h6 := Held.new Wd1 40 wz0
        have lh6 := hS.size
        replace hS := Below.step hS hbA
        clear hbA
        generalize Wd1.alloc (.cells wz0 40) = Wd2 at *
        refine hK.out _ _ hS (fun _ => ?_)
        clear hK K
        (try simp only [Act.put, List.getElem_toArray, List.getElem_cons_succ, List.getElem_cons_zero, List.setIfInBounds_toArray, List.set_cons_zero, List.set_cons_succ])
        refine wpAnyH_ready (rs := [6, 7]) (by kernel_rfl) (by simp) ?_
        refine (AllReadyH.cons rfl (fun K hK => ?_) (AllReadyH.cons rfl (fun K hK => ?_) AllReadyH.nil))
        · rw [if_pos (by kernel_rfl)]
          refine wp_alloc_R 40 rfl wz0 (by kernel_rfl) ?_
          have nh5h7 : Wq.heap.size ≠ Wd2.heap.size := Nat.ne_of_lt (Held.lt h5)
          have nh6h7 : Wd1.heap.size ≠ Wd2.heap.size := Nat.ne_of_lt (Held.lt h6)
          have hbA := ((Below.refl _ _).alloc (Nat.le_refl _) _ : Below Wd2.heap.size Wd2 (Wd2.alloc (.cells wz0 40)))
          replace h5 := Held.below h5 hbA
          replace h6 := Held.below h6 hbA
          have h7 := Held.new Wd2 40 wz0
          have lh7 := hS.size
          replace hS := Below.step hS hbA
          clear hbA
          generalize Wd2.alloc (.cells wz0 40) = Wd3 at *
          refine hK.out _ _ hS (fun _ => ?_)
          clear hK K
          (try simp only [Act.put, List.getElem_toArray, List.getElem_cons_succ, List.getElem_cons_zero, List.setIfInBounds_toArray, List.set_cons_zero, List.set_cons_succ])
          refine wpAnyH_ready (rs := [7]) (by kernel_rfl) (by simp) ?_
          refine (AllReadyH.cons rfl (fun K hK => ?_) AllReadyH.nil)
          · rw [if_pos (by kernel_rfl)]
            refine wp_alloc_R 40 rfl wz0 (by kernel_rfl) ?_
            have nh5h8 : Wq.heap.size ≠ Wd3.heap.size := Nat.ne_of_lt (Held.lt h5)
            have nh6h8 : Wd1.heap.size ≠ Wd3.heap.size := Nat.ne_of_lt (Held.lt h6)
            have nh7h8 : Wd2.heap.size ≠ Wd3.heap.size := Nat.ne_of_lt (Held.lt h7)
            have hbA := ((Below.refl _ _).alloc (Nat.le_refl _) _ : Below Wd3.heap.size Wd3 (Wd3.alloc (.cells wz0 40)))
            replace h5 := Held.below h5 hbA
            replace h6 := Held.below h6 hbA
            replace h7 := Held.below h7 hbA
            have h8 := Held.new Wd3 40 wz0
            have lh8 := hS.size
            replace hS := Below.step hS hbA
            clear hbA
            generalize Wd3.alloc (.cells wz0 40) = Wd4 at *
            refine hK.out _ _ hS (fun _ => ?_)
            clear hK K
            (try simp only [Act.put, List.getElem_toArray, List.getElem_cons_succ, List.getElem_cons_zero, List.setIfInBounds_toArray, List.set_cons_zero, List.set_cons_succ])
            refine wpAnyH_ready (rs := [8]) (by kernel_rfl) (by simp) ?_
            refine (AllReadyH.cons rfl (fun K hK => ?_) AllReadyH.nil)
            · rw [if_pos (by kernel_rfl)]
              refine wp_store_row 40 _ _ rfl _ (wcs a U) (by rfl) (by rfl) _ _ h5 (by kernel_rfl) rfl (by simp [Value.oneCell']) ?_
              replace h6 := held_row h6 (Ne.symm nh5h6) (wcs a U)
              replace h7 := held_row h7 (Ne.symm nh5h7) (wcs a U)
              replace h8 := held_row h8 (Ne.symm nh5h8) (wcs a U)
              replace hS := below_setRow hS lh5 (wcs a U)
              replace h5 := held_rowSelf h5 (wcs a U)
              generalize World.setRow _ _ (wcs a U) = Wd5 at *
              refine hK.out _ _ hS (fun _ => ?_)
              clear hK K
              (try simp only [Act.put, List.getElem_toArray, List.getElem_cons_succ, List.getElem_cons_zero, List.setIfInBounds_toArray, List.set_cons_zero, List.set_cons_succ])
              refine wpAnyH_ready (rs := [9]) (by kernel_rfl) (by simp) ?_
              refine (AllReadyH.cons rfl (fun K hK => ?_) AllReadyH.nil)
              · rw [if_pos (by kernel_rfl)]
                refine wp_store_row 40 _ _ rfl _ (wcs a U) (by rfl) (by rfl) _ _ h6 (by kernel_rfl) rfl (by simp [Value.oneCell']) ?_
                replace h5 := held_row h5 nh5h6 (wcs a U)
                replace h7 := held_row h7 (Ne.symm nh6h7) (wcs a U)
                replace h8 := held_row h8 (Ne.symm nh6h8) (wcs a U)
                replace hS := below_setRow hS lh6 (wcs a U)
                replace h6 := held_rowSelf h6 (wcs a U)
                generalize World.setRow _ _ (wcs a U) = Wd6 at *
                refine hK.out _ _ hS (fun _ => ?_)
                clear hK K
                (try simp only [Act.put, List.getElem_toArray, List.getElem_cons_succ, List.getElem_cons_zero, List.setIfInBounds_toArray, List.set_cons_zero, List.set_cons_succ])
                refine wpAnyH_ready (rs := [10]) (by kernel_rfl) (by simp) ?_
                refine (AllReadyH.cons rfl (fun K hK => ?_) AllReadyH.nil)
                · rw [if_pos (by kernel_rfl)]
                  refine wp_store_row 40 _ _ rfl _ (wcs a U) (by rfl) (by rfl) _ _ h7 (by kernel_rfl) rfl (by simp [Value.oneCell']) ?_
                  replace h5 := held_row h5 nh5h7 (wcs a U)
                  replace h6 := held_row h6 nh6h7 (wcs a U)
                  replace h8 := held_row h8 (Ne.symm nh7h8) (wcs a U)
                  replace hS := below_setRow hS lh7 (wcs a U)
                  replace h7 := held_rowSelf h7 (wcs a U)
                  generalize World.setRow _ _ (wcs a U) = Wd7 at *
                  refine hK.out _ _ hS (fun _ => ?_)
                  clear hK K
                  (try simp only [Act.put, List.getElem_toArray, List.getElem_cons_succ, List.getElem_cons_zero, List.setIfInBounds_toArray, List.set_cons_zero, List.set_cons_succ])
                  refine wpAnyH_ready (rs := [11]) (by kernel_rfl) (by simp) ?_
                  refine (AllReadyH.cons rfl (fun K hK => ?_) AllReadyH.nil)
                  · rw [if_pos (by kernel_rfl)]
                    refine wp_store_row 40 _ _ rfl _ (wcs a U) (by rfl) (by rfl) _ _ h8 (by kernel_rfl) rfl (by simp [Value.oneCell']) ?_
                    replace h5 := held_row h5 nh5h8 (wcs a U)
                    replace h6 := held_row h6 nh6h8 (wcs a U)
                    replace h7 := held_row h7 nh7h8 (wcs a U)
                    replace hS := below_setRow hS lh8 (wcs a U)
                    replace h8 := held_rowSelf h8 (wcs a U)
                    generalize World.setRow _ _ (wcs a U) = Wd8 at *
                    refine hK.out _ _ hS (fun _ => ?_)
                    clear hK K
                    (try simp only [Act.put, List.getElem_toArray, List.getElem_cons_succ, List.getElem_cons_zero, List.setIfInBounds_toArray, List.set_cons_zero, List.set_cons_succ])
                    refine wpAnyH_done (by kernel_rfl) ?_ _
                    (repeat (first | go_skip | go_guarded | go_step | go_upon))
                    go_meet
                    case rel => exact ⟨_, _, _, _, rfl, rfl, rfl, rfl, ⟨h5, h6, h7, h8, nh5h6, nh5h7, nh5h8, nh6h7, nh6h8, nh7h8, Nat.le_trans hlo lh5, Nat.le_trans hlo lh6, Nat.le_trans hlo lh7, Nat.le_trans hlo lh8⟩, Below.step HDR.out hS⟩
        · rw [if_pos (by kernel_rfl)]
          refine wp_alloc_R 40 rfl wz0 (by kernel_rfl) ?_
          have nh5h8 : Wq.heap.size ≠ Wd2.heap.size := Nat.ne_of_lt (Held.lt h5)
          have nh6h8 : Wd1.heap.size ≠ Wd2.heap.size := Nat.ne_of_lt (Held.lt h6)
          have hbA := ((Below.refl _ _).alloc (Nat.le_refl _) _ : Below Wd2.heap.size Wd2 (Wd2.alloc (.cells wz0 40)))
          replace h5 := Held.below h5 hbA
          replace h6 := Held.below h6 hbA
          have h8 := Held.new Wd2 40 wz0
          have lh8 := hS.size
          replace hS := Below.step hS hbA
          clear hbA
          generalize Wd2.alloc (.cells wz0 40) = Wd9 at *
          refine hK.out _ _ hS (fun _ => ?_)
          clear hK K
          (try simp only [Act.put, List.getElem_toArray, List.getElem_cons_succ, List.getElem_cons_zero, List.setIfInBounds_toArray, List.set_cons_zero, List.set_cons_succ])
          refine wpAnyH_ready (rs := [6]) (by kernel_rfl) (by simp) ?_
          refine (AllReadyH.cons rfl (fun K hK => ?_) AllReadyH.nil)
          · rw [if_pos (by kernel_rfl)]
            refine wp_alloc_R 40 rfl wz0 (by kernel_rfl) ?_
            have nh5h7 : Wq.heap.size ≠ Wd9.heap.size := Nat.ne_of_lt (Held.lt h5)
            have nh6h7 : Wd1.heap.size ≠ Wd9.heap.size := Nat.ne_of_lt (Held.lt h6)
            have nh8h7 : Wd2.heap.size ≠ Wd9.heap.size := Nat.ne_of_lt (Held.lt h8)
            have hbA := ((Below.refl _ _).alloc (Nat.le_refl _) _ : Below Wd9.heap.size Wd9 (Wd9.alloc (.cells wz0 40)))
            replace h5 := Held.below h5 hbA
            replace h6 := Held.below h6 hbA
            replace h8 := Held.below h8 hbA
            have h7 := Held.new Wd9 40 wz0
            have lh7 := hS.size
            replace hS := Below.step hS hbA
            clear hbA
            generalize Wd9.alloc (.cells wz0 40) = Wd10 at *
            refine hK.out _ _ hS (fun _ => ?_)
            clear hK K
            (try simp only [Act.put, List.getElem_toArray, List.getElem_cons_succ, List.getElem_cons_zero, List.setIfInBounds_toArray, List.set_cons_zero, List.set_cons_succ])
            refine wpAnyH_ready (rs := [8]) (by kernel_rfl) (by simp) ?_
            refine (AllReadyH.cons rfl (fun K hK => ?_) AllReadyH.nil)
            · rw [if_pos (by kernel_rfl)]
              refine wp_store_row 40 _ _ rfl _ (wcs a U) (by rfl) (by rfl) _ _ h5 (by kernel_rfl) rfl (by simp [Value.oneCell']) ?_
              replace h6 := held_row h6 (Ne.symm nh5h6) (wcs a U)
              replace h8 := held_row h8 (Ne.symm nh5h8) (wcs a U)
              replace h7 := held_row h7 (Ne.symm nh5h7) (wcs a U)
              replace hS := below_setRow hS lh5 (wcs a U)
              replace h5 := held_rowSelf h5 (wcs a U)
              generalize World.setRow _ _ (wcs a U) = Wd11 at *
              refine hK.out _ _ hS (fun _ => ?_)
              clear hK K
              (try simp only [Act.put, List.getElem_toArray, List.getElem_cons_succ, List.getElem_cons_zero, List.setIfInBounds_toArray, List.set_cons_zero, List.set_cons_succ])
              refine wpAnyH_ready (rs := [9]) (by kernel_rfl) (by simp) ?_
              refine (AllReadyH.cons rfl (fun K hK => ?_) AllReadyH.nil)
              · rw [if_pos (by kernel_rfl)]
                refine wp_store_row 40 _ _ rfl _ (wcs a U) (by rfl) (by rfl) _ _ h6 (by kernel_rfl) rfl (by simp [Value.oneCell']) ?_
                replace h5 := held_row h5 nh5h6 (wcs a U)
                replace h8 := held_row h8 (Ne.symm nh6h8) (wcs a U)
                replace h7 := held_row h7 (Ne.symm nh6h7) (wcs a U)
                replace hS := below_setRow hS lh6 (wcs a U)
                replace h6 := held_rowSelf h6 (wcs a U)
                generalize World.setRow _ _ (wcs a U) = Wd12 at *
                refine hK.out _ _ hS (fun _ => ?_)
                clear hK K
                (try simp only [Act.put, List.getElem_toArray, List.getElem_cons_succ, List.getElem_cons_zero, List.setIfInBounds_toArray, List.set_cons_zero, List.set_cons_succ])
                refine wpAnyH_ready (rs := [10]) (by kernel_rfl) (by simp) ?_
                refine (AllReadyH.cons rfl (fun K hK => ?_) AllReadyH.nil)
                · rw [if_pos (by kernel_rfl)]
                  refine wp_store_row 40 _ _ rfl _ (wcs a U) (by rfl) (by rfl) _ _ h7 (by kernel_rfl) rfl (by simp [Value.oneCell']) ?_
                  replace h5 := held_row h5 nh5h7 (wcs a U)
                  replace h6 := held_row h6 nh6h7 (wcs a U)
                  replace h8 := held_row h8 nh8h7 (wcs a U)
                  replace hS := below_setRow hS lh7 (wcs a U)
                  replace h7 := held_rowSelf h7 (wcs a U)
                  generalize World.setRow _ _ (wcs a U) = Wd13 at *
                  refine hK.out _ _ hS (fun _ => ?_)
                  clear hK K
                  (try simp only [Act.put, List.getElem_toArray, List.getElem_cons_succ, List.getElem_cons_zero, List.setIfInBounds_toArray, List.set_cons_zero, List.set_cons_succ])
                  refine wpAnyH_ready (rs := [11]) (by kernel_rfl) (by simp) ?_
                  refine (AllReadyH.cons rfl (fun K hK => ?_) AllReadyH.nil)
                  · rw [if_pos (by kernel_rfl)]
                    refine wp_store_row 40 _ _ rfl _ (wcs a U) (by rfl) (by rfl) _ _ h8 (by kernel_rfl) rfl (by simp [Value.oneCell']) ?_
                    replace h5 := held_row h5 nh5h8 (wcs a U)
                    replace h6 := held_row h6 nh6h8 (wcs a U)
                    replace h7 := held_row h7 (Ne.symm nh8h7) (wcs a U)
                    replace hS := below_setRow hS lh8 (wcs a U)
                    replace h8 := held_rowSelf h8 (wcs a U)
                    generalize World.setRow _ _ (wcs a U) = Wd14 at *
                    refine hK.out _ _ hS (fun _ => ?_)
                    clear hK K
                    (try simp only [Act.put, List.getElem_toArray, List.getElem_cons_succ, List.getElem_cons_zero, List.setIfInBounds_toArray, List.set_cons_zero, List.set_cons_succ])
                    refine wpAnyH_done (by kernel_rfl) ?_ _
                    (repeat (first | go_skip | go_guarded | go_step | go_upon))
                    go_meet
                    case rel => exact ⟨_, _, _, _, rfl, rfl, rfl, rfl, ⟨h5, h6, h7, h8, nh5h6, nh5h7, nh5h8, nh6h7, nh6h8, (Ne.symm nh8h7), Nat.le_trans hlo lh5, Nat.le_trans hlo lh6, Nat.le_trans hlo lh7, Nat.le_trans hlo lh8⟩, Below.step HDR.out hS⟩
      · rw [if_pos (by kernel_rfl)]
        refine wp_alloc_R 40 rfl wz0 (by kernel_rfl) ?_
        have nh5h7 : Wq.heap.size ≠ Wd1.heap.size := Nat.ne_of_lt (Held.lt h5)
        have hbA := ((Below.refl _ _).alloc (Nat.le_refl _) _ : Below Wd1.heap.size Wd1 (Wd1.alloc (.cells wz0 40)))
        replace h5 := Held.below h5 hbA
        have h7 := Held.new Wd1 40 wz0
        have lh7 := hS.size
        replace hS := Below.step hS hbA
        clear hbA
        generalize Wd1.alloc (.cells wz0 40) = Wd15 at *
        refine hK.out _ _ hS (fun _ => ?_)
        clear hK K
        (try simp only [Act.put, List.getElem_toArray, List.getElem_cons_succ, List.getElem_cons_zero, List.setIfInBounds_toArray, List.set_cons_zero, List.set_cons_succ])
        refine wpAnyH_ready (rs := [5, 7]) (by kernel_rfl) (by simp) ?_
        refine (AllReadyH.cons rfl (fun K hK => ?_) (AllReadyH.cons rfl (fun K hK => ?_) AllReadyH.nil))
        · rw [if_pos (by kernel_rfl)]
          refine wp_alloc_R 40 rfl wz0 (by kernel_rfl) ?_
          have nh5h6 : Wq.heap.size ≠ Wd15.heap.size := Nat.ne_of_lt (Held.lt h5)
          have nh7h6 : Wd1.heap.size ≠ Wd15.heap.size := Nat.ne_of_lt (Held.lt h7)
          have hbA := ((Below.refl _ _).alloc (Nat.le_refl _) _ : Below Wd15.heap.size Wd15 (Wd15.alloc (.cells wz0 40)))
          replace h5 := Held.below h5 hbA
          replace h7 := Held.below h7 hbA
          have h6 := Held.new Wd15 40 wz0
          have lh6 := hS.size
          replace hS := Below.step hS hbA
          clear hbA
          generalize Wd15.alloc (.cells wz0 40) = Wd16 at *
          refine hK.out _ _ hS (fun _ => ?_)
          clear hK K
          (try simp only [Act.put, List.getElem_toArray, List.getElem_cons_succ, List.getElem_cons_zero, List.setIfInBounds_toArray, List.set_cons_zero, List.set_cons_succ])
          refine wpAnyH_ready (rs := [7]) (by kernel_rfl) (by simp) ?_
          refine (AllReadyH.cons rfl (fun K hK => ?_) AllReadyH.nil)
          · rw [if_pos (by kernel_rfl)]
            refine wp_alloc_R 40 rfl wz0 (by kernel_rfl) ?_
            have nh5h8 : Wq.heap.size ≠ Wd16.heap.size := Nat.ne_of_lt (Held.lt h5)
            have nh7h8 : Wd1.heap.size ≠ Wd16.heap.size := Nat.ne_of_lt (Held.lt h7)
            have nh6h8 : Wd15.heap.size ≠ Wd16.heap.size := Nat.ne_of_lt (Held.lt h6)
            have hbA := ((Below.refl _ _).alloc (Nat.le_refl _) _ : Below Wd16.heap.size Wd16 (Wd16.alloc (.cells wz0 40)))
            replace h5 := Held.below h5 hbA
            replace h7 := Held.below h7 hbA
            replace h6 := Held.below h6 hbA
            have h8 := Held.new Wd16 40 wz0
            have lh8 := hS.size
            replace hS := Below.step hS hbA
            clear hbA
            generalize Wd16.alloc (.cells wz0 40) = Wd17 at *
            refine hK.out _ _ hS (fun _ => ?_)
            clear hK K
            (try simp only [Act.put, List.getElem_toArray, List.getElem_cons_succ, List.getElem_cons_zero, List.setIfInBounds_toArray, List.set_cons_zero, List.set_cons_succ])
            refine wpAnyH_ready (rs := [8]) (by kernel_rfl) (by simp) ?_
            refine (AllReadyH.cons rfl (fun K hK => ?_) AllReadyH.nil)
            · rw [if_pos (by kernel_rfl)]
              refine wp_store_row 40 _ _ rfl _ (wcs a U) (by rfl) (by rfl) _ _ h5 (by kernel_rfl) rfl (by simp [Value.oneCell']) ?_
              replace h7 := held_row h7 (Ne.symm nh5h7) (wcs a U)
              replace h6 := held_row h6 (Ne.symm nh5h6) (wcs a U)
              replace h8 := held_row h8 (Ne.symm nh5h8) (wcs a U)
              replace hS := below_setRow hS lh5 (wcs a U)
              replace h5 := held_rowSelf h5 (wcs a U)
              generalize World.setRow _ _ (wcs a U) = Wd18 at *
              refine hK.out _ _ hS (fun _ => ?_)
              clear hK K
              (try simp only [Act.put, List.getElem_toArray, List.getElem_cons_succ, List.getElem_cons_zero, List.setIfInBounds_toArray, List.set_cons_zero, List.set_cons_succ])
              refine wpAnyH_ready (rs := [9]) (by kernel_rfl) (by simp) ?_
              refine (AllReadyH.cons rfl (fun K hK => ?_) AllReadyH.nil)
              · rw [if_pos (by kernel_rfl)]
                refine wp_store_row 40 _ _ rfl _ (wcs a U) (by rfl) (by rfl) _ _ h6 (by kernel_rfl) rfl (by simp [Value.oneCell']) ?_
                replace h5 := held_row h5 nh5h6 (wcs a U)
                replace h7 := held_row h7 nh7h6 (wcs a U)
                replace h8 := held_row h8 (Ne.symm nh6h8) (wcs a U)
                replace hS := below_setRow hS lh6 (wcs a U)
                replace h6 := held_rowSelf h6 (wcs a U)
                generalize World.setRow _ _ (wcs a U) = Wd19 at *
                refine hK.out _ _ hS (fun _ => ?_)
                clear hK K
                (try simp only [Act.put, List.getElem_toArray, List.getElem_cons_succ, List.getElem_cons_zero, List.setIfInBounds_toArray, List.set_cons_zero, List.set_cons_succ])
                refine wpAnyH_ready (rs := [10]) (by kernel_rfl) (by simp) ?_
                refine (AllReadyH.cons rfl (fun K hK => ?_) AllReadyH.nil)
                · rw [if_pos (by kernel_rfl)]
                  refine wp_store_row 40 _ _ rfl _ (wcs a U) (by rfl) (by rfl) _ _ h7 (by kernel_rfl) rfl (by simp [Value.oneCell']) ?_
                  replace h5 := held_row h5 nh5h7 (wcs a U)
                  replace h6 := held_row h6 (Ne.symm nh7h6) (wcs a U)
                  replace h8 := held_row h8 (Ne.symm nh7h8) (wcs a U)
                  replace hS := below_setRow hS lh7 (wcs a U)
                  replace h7 := held_rowSelf h7 (wcs a U)
                  generalize World.setRow _ _ (wcs a U) = Wd20 at *
                  refine hK.out _ _ hS (fun _ => ?_)
                  clear hK K
                  (try simp only [Act.put, List.getElem_toArray, List.getElem_cons_succ, List.getElem_cons_zero, List.setIfInBounds_toArray, List.set_cons_zero, List.set_cons_succ])
                  refine wpAnyH_ready (rs := [11]) (by kernel_rfl) (by simp) ?_
                  refine (AllReadyH.cons rfl (fun K hK => ?_) AllReadyH.nil)
                  · rw [if_pos (by kernel_rfl)]
                    refine wp_store_row 40 _ _ rfl _ (wcs a U) (by rfl) (by rfl) _ _ h8 (by kernel_rfl) rfl (by simp [Value.oneCell']) ?_
                    replace h5 := held_row h5 nh5h8 (wcs a U)
                    replace h7 := held_row h7 nh7h8 (wcs a U)
                    replace h6 := held_row h6 nh6h8 (wcs a U)
                    replace hS := below_setRow hS lh8 (wcs a U)
                    replace h8 := held_rowSelf h8 (wcs a U)
                    generalize World.setRow _ _ (wcs a U) = Wd21 at *
                    refine hK.out _ _ hS (fun _ => ?_)
                    clear hK K
                    (try simp only [Act.put, List.getElem_toArray, List.getElem_cons_succ, List.getElem_cons_zero, List.setIfInBounds_toArray, List.set_cons_zero, List.set_cons_succ])
                    refine wpAnyH_done (by kernel_rfl) ?_ _
                    (repeat (first | go_skip | go_guarded | go_step | go_upon))
                    go_meet
                    case rel => exact ⟨_, _, _, _, rfl, rfl, rfl, rfl, ⟨h5, h6, h7, h8, nh5h6, nh5h7, nh5h8, (Ne.symm nh7h6), nh6h8, nh7h8, Nat.le_trans hlo lh5, Nat.le_trans hlo lh6, Nat.le_trans hlo lh7, Nat.le_trans hlo lh8⟩, Below.step HDR.out hS⟩
        · rw [if_pos (by kernel_rfl)]
          refine wp_alloc_R 40 rfl wz0 (by kernel_rfl) ?_
          have nh5h8 : Wq.heap.size ≠ Wd15.heap.size := Nat.ne_of_lt (Held.lt h5)
          have nh7h8 : Wd1.heap.size ≠ Wd15.heap.size := Nat.ne_of_lt (Held.lt h7)
          have hbA := ((Below.refl _ _).alloc (Nat.le_refl _) _ : Below Wd15.heap.size Wd15 (Wd15.alloc (.cells wz0 40)))
          replace h5 := Held.below h5 hbA
          replace h7 := Held.below h7 hbA
          have h8 := Held.new Wd15 40 wz0
          have lh8 := hS.size
          replace hS := Below.step hS hbA
          clear hbA
          generalize Wd15.alloc (.cells wz0 40) = Wd22 at *
          refine hK.out _ _ hS (fun _ => ?_)
          clear hK K
          (try simp only [Act.put, List.getElem_toArray, List.getElem_cons_succ, List.getElem_cons_zero, List.setIfInBounds_toArray, List.set_cons_zero, List.set_cons_succ])
          refine wpAnyH_ready (rs := [5]) (by kernel_rfl) (by simp) ?_
          refine (AllReadyH.cons rfl (fun K hK => ?_) AllReadyH.nil)
          · rw [if_pos (by kernel_rfl)]
            refine wp_alloc_R 40 rfl wz0 (by kernel_rfl) ?_
            have nh5h6 : Wq.heap.size ≠ Wd22.heap.size := Nat.ne_of_lt (Held.lt h5)
            have nh7h6 : Wd1.heap.size ≠ Wd22.heap.size := Nat.ne_of_lt (Held.lt h7)
            have nh8h6 : Wd15.heap.size ≠ Wd22.heap.size := Nat.ne_of_lt (Held.lt h8)
            have hbA := ((Below.refl _ _).alloc (Nat.le_refl _) _ : Below Wd22.heap.size Wd22 (Wd22.alloc (.cells wz0 40)))
            replace h5 := Held.below h5 hbA
            replace h7 := Held.below h7 hbA
            replace h8 := Held.below h8 hbA
            have h6 := Held.new Wd22 40 wz0
            have lh6 := hS.size
            replace hS := Below.step hS hbA
            clear hbA
            generalize Wd22.alloc (.cells wz0 40) = Wd23 at *
            refine hK.out _ _ hS (fun _ => ?_)
            clear hK K
            (try simp only [Act.put, List.getElem_toArray, List.getElem_cons_succ, List.getElem_cons_zero, List.setIfInBounds_toArray, List.set_cons_zero, List.set_cons_succ])
            refine wpAnyH_ready (rs := [8]) (by kernel_rfl) (by simp) ?_
            refine (AllReadyH.cons rfl (fun K hK => ?_) AllReadyH.nil)
            · rw [if_pos (by kernel_rfl)]
              refine wp_store_row 40 _ _ rfl _ (wcs a U) (by rfl) (by rfl) _ _ h5 (by kernel_rfl) rfl (by simp [Value.oneCell']) ?_
              replace h7 := held_row h7 (Ne.symm nh5h7) (wcs a U)
              replace h8 := held_row h8 (Ne.symm nh5h8) (wcs a U)
              replace h6 := held_row h6 (Ne.symm nh5h6) (wcs a U)
              replace hS := below_setRow hS lh5 (wcs a U)
              replace h5 := held_rowSelf h5 (wcs a U)
              generalize World.setRow _ _ (wcs a U) = Wd24 at *
              refine hK.out _ _ hS (fun _ => ?_)
              clear hK K
              (try simp only [Act.put, List.getElem_toArray, List.getElem_cons_succ, List.getElem_cons_zero, List.setIfInBounds_toArray, List.set_cons_zero, List.set_cons_succ])
              refine wpAnyH_ready (rs := [9]) (by kernel_rfl) (by simp) ?_
              refine (AllReadyH.cons rfl (fun K hK => ?_) AllReadyH.nil)
              · rw [if_pos (by kernel_rfl)]
                refine wp_store_row 40 _ _ rfl _ (wcs a U) (by rfl) (by rfl) _ _ h6 (by kernel_rfl) rfl (by simp [Value.oneCell']) ?_
                replace h5 := held_row h5 nh5h6 (wcs a U)
                replace h7 := held_row h7 nh7h6 (wcs a U)
                replace h8 := held_row h8 nh8h6 (wcs a U)
                replace hS := below_setRow hS lh6 (wcs a U)
                replace h6 := held_rowSelf h6 (wcs a U)
                generalize World.setRow _ _ (wcs a U) = Wd25 at *
                refine hK.out _ _ hS (fun _ => ?_)
                clear hK K
                (try simp only [Act.put, List.getElem_toArray, List.getElem_cons_succ, List.getElem_cons_zero, List.setIfInBounds_toArray, List.set_cons_zero, List.set_cons_succ])
                refine wpAnyH_ready (rs := [10]) (by kernel_rfl) (by simp) ?_
                refine (AllReadyH.cons rfl (fun K hK => ?_) AllReadyH.nil)
                · rw [if_pos (by kernel_rfl)]
                  refine wp_store_row 40 _ _ rfl _ (wcs a U) (by rfl) (by rfl) _ _ h7 (by kernel_rfl) rfl (by simp [Value.oneCell']) ?_
                  replace h5 := held_row h5 nh5h7 (wcs a U)
                  replace h8 := held_row h8 (Ne.symm nh7h8) (wcs a U)
                  replace h6 := held_row h6 (Ne.symm nh7h6) (wcs a U)
                  replace hS := below_setRow hS lh7 (wcs a U)
                  replace h7 := held_rowSelf h7 (wcs a U)
                  generalize World.setRow _ _ (wcs a U) = Wd26 at *
                  refine hK.out _ _ hS (fun _ => ?_)
                  clear hK K
                  (try simp only [Act.put, List.getElem_toArray, List.getElem_cons_succ, List.getElem_cons_zero, List.setIfInBounds_toArray, List.set_cons_zero, List.set_cons_succ])
                  refine wpAnyH_ready (rs := [11]) (by kernel_rfl) (by simp) ?_
                  refine (AllReadyH.cons rfl (fun K hK => ?_) AllReadyH.nil)
                  · rw [if_pos (by kernel_rfl)]
                    refine wp_store_row 40 _ _ rfl _ (wcs a U) (by rfl) (by rfl) _ _ h8 (by kernel_rfl) rfl (by simp [Value.oneCell']) ?_
                    replace h5 := held_row h5 nh5h8 (wcs a U)
                    replace h7 := held_row h7 nh7h8 (wcs a U)
                    replace h6 := held_row h6 (Ne.symm nh8h6) (wcs a U)
                    replace hS := below_setRow hS lh8 (wcs a U)
                    replace h8 := held_rowSelf h8 (wcs a U)
                    generalize World.setRow _ _ (wcs a U) = Wd27 at *
                    refine hK.out _ _ hS (fun _ => ?_)
                    clear hK K
                    (try simp only [Act.put, List.getElem_toArray, List.getElem_cons_succ, List.getElem_cons_zero, List.setIfInBounds_toArray, List.set_cons_zero, List.set_cons_succ])
                    refine wpAnyH_done (by kernel_rfl) ?_ _
                    (repeat (first | go_skip | go_guarded | go_step | go_upon))
                    go_meet
                    case rel => exact ⟨_, _, _, _, rfl, rfl, rfl, rfl, ⟨h5, h6, h7, h8, nh5h6, nh5h7, nh5h8, (Ne.symm nh7h6), (Ne.symm nh8h6), nh7h8, Nat.le_trans hlo lh5, Nat.le_trans hlo lh6, Nat.le_trans hlo lh7, Nat.le_trans hlo lh8⟩, Below.step HDR.out hS⟩
      · rw [if_pos (by kernel_rfl)]
        refine wp_alloc_R 40 rfl wz0 (by kernel_rfl) ?_
        have nh5h8 : Wq.heap.size ≠ Wd1.heap.size := Nat.ne_of_lt (Held.lt h5)
        have hbA := ((Below.refl _ _).alloc (Nat.le_refl _) _ : Below Wd1.heap.size Wd1 (Wd1.alloc (.cells wz0 40)))
        replace h5 := Held.below h5 hbA
        have h8 := Held.new Wd1 40 wz0
        have lh8 := hS.size
        replace hS := Below.step hS hbA
        clear hbA
        generalize Wd1.alloc (.cells wz0 40) = Wd28 at *
        refine hK.out _ _ hS (fun _ => ?_)
        clear hK K
        (try simp only [Act.put, List.getElem_toArray, List.getElem_cons_succ, List.getElem_cons_zero, List.setIfInBounds_toArray, List.set_cons_zero, List.set_cons_succ])
        refine wpAnyH_ready (rs := [5, 6]) (by kernel_rfl) (by simp) ?_
        refine (AllReadyH.cons rfl (fun K hK => ?_) (AllReadyH.cons rfl (fun K hK => ?_) AllReadyH.nil))
        · rw [if_pos (by kernel_rfl)]
          refine wp_alloc_R 40 rfl wz0 (by kernel_rfl) ?_
          have nh5h6 : Wq.heap.size ≠ Wd28.heap.size := Nat.ne_of_lt (Held.lt h5)
          have nh8h6 : Wd1.heap.size ≠ Wd28.heap.size := Nat.ne_of_lt (Held.lt h8)
          have hbA := ((Below.refl _ _).alloc (Nat.le_refl _) _ : Below Wd28.heap.size Wd28 (Wd28.alloc (.cells wz0 40)))
          replace h5 := Held.below h5 hbA
          replace h8 := Held.below h8 hbA
          have h6 := Held.new Wd28 40 wz0
          have lh6 := hS.size
          replace hS := Below.step hS hbA
          clear hbA
          generalize Wd28.alloc (.cells wz0 40) = Wd29 at *
          refine hK.out _ _ hS (fun _ => ?_)
          clear hK K
          (try simp only [Act.put, List.getElem_toArray, List.getElem_cons_succ, List.getElem_cons_zero, List.setIfInBounds_toArray, List.set_cons_zero, List.set_cons_succ])
          refine wpAnyH_ready (rs := [6]) (by kernel_rfl) (by simp) ?_
          refine (AllReadyH.cons rfl (fun K hK => ?_) AllReadyH.nil)
          · rw [if_pos (by kernel_rfl)]
            refine wp_alloc_R 40 rfl wz0 (by kernel_rfl) ?_
            have nh5h7 : Wq.heap.size ≠ Wd29.heap.size := Nat.ne_of_lt (Held.lt h5)
            have nh8h7 : Wd1.heap.size ≠ Wd29.heap.size := Nat.ne_of_lt (Held.lt h8)
            have nh6h7 : Wd28.heap.size ≠ Wd29.heap.size := Nat.ne_of_lt (Held.lt h6)
            have hbA := ((Below.refl _ _).alloc (Nat.le_refl _) _ : Below Wd29.heap.size Wd29 (Wd29.alloc (.cells wz0 40)))
            replace h5 := Held.below h5 hbA
            replace h8 := Held.below h8 hbA
            replace h6 := Held.below h6 hbA
            have h7 := Held.new Wd29 40 wz0
            have lh7 := hS.size
            replace hS := Below.step hS hbA
            clear hbA
            generalize Wd29.alloc (.cells wz0 40) = Wd30 at *
            refine hK.out _ _ hS (fun _ => ?_)
            clear hK K
            (try simp only [Act.put, List.getElem_toArray, List.getElem_cons_succ, List.getElem_cons_zero, List.setIfInBounds_toArray, List.set_cons_zero, List.set_cons_succ])
            refine wpAnyH_ready (rs := [8]) (by kernel_rfl) (by simp) ?_
            refine (AllReadyH.cons rfl (fun K hK => ?_) AllReadyH.nil)
            · rw [if_pos (by kernel_rfl)]
              refine wp_store_row 40 _ _ rfl _ (wcs a U) (by rfl) (by rfl) _ _ h5 (by kernel_rfl) rfl (by simp [Value.oneCell']) ?_
              replace h8 := held_row h8 (Ne.symm nh5h8) (wcs a U)
              replace h6 := held_row h6 (Ne.symm nh5h6) (wcs a U)
              replace h7 := held_row h7 (Ne.symm nh5h7) (wcs a U)
              replace hS := below_setRow hS lh5 (wcs a U)
              replace h5 := held_rowSelf h5 (wcs a U)
              generalize World.setRow _ _ (wcs a U) = Wd31 at *
              refine hK.out _ _ hS (fun _ => ?_)
              clear hK K
              (try simp only [Act.put, List.getElem_toArray, List.getElem_cons_succ, List.getElem_cons_zero, List.setIfInBounds_toArray, List.set_cons_zero, List.set_cons_succ])
              refine wpAnyH_ready (rs := [9]) (by kernel_rfl) (by simp) ?_
              refine (AllReadyH.cons rfl (fun K hK => ?_) AllReadyH.nil)
              · rw [if_pos (by kernel_rfl)]
                refine wp_store_row 40 _ _ rfl _ (wcs a U) (by rfl) (by rfl) _ _ h6 (by kernel_rfl) rfl (by simp [Value.oneCell']) ?_
                replace h5 := held_row h5 nh5h6 (wcs a U)
                replace h8 := held_row h8 nh8h6 (wcs a U)
                replace h7 := held_row h7 (Ne.symm nh6h7) (wcs a U)
                replace hS := below_setRow hS lh6 (wcs a U)
                replace h6 := held_rowSelf h6 (wcs a U)
                generalize World.setRow _ _ (wcs a U) = Wd32 at *
                refine hK.out _ _ hS (fun _ => ?_)
                clear hK K
                (try simp only [Act.put, List.getElem_toArray, List.getElem_cons_succ, List.getElem_cons_zero, List.setIfInBounds_toArray, List.set_cons_zero, List.set_cons_succ])
                refine wpAnyH_ready (rs := [10]) (by kernel_rfl) (by simp) ?_
                refine (AllReadyH.cons rfl (fun K hK => ?_) AllReadyH.nil)
                · rw [if_pos (by kernel_rfl)]
                  refine wp_store_row 40 _ _ rfl _ (wcs a U) (by rfl) (by rfl) _ _ h7 (by kernel_rfl) rfl (by simp [Value.oneCell']) ?_
                  replace h5 := held_row h5 nh5h7 (wcs a U)
                  replace h8 := held_row h8 nh8h7 (wcs a U)
                  replace h6 := held_row h6 nh6h7 (wcs a U)
                  replace hS := below_setRow hS lh7 (wcs a U)
                  replace h7 := held_rowSelf h7 (wcs a U)
                  generalize World.setRow _ _ (wcs a U) = Wd33 at *
                  refine hK.out _ _ hS (fun _ => ?_)
                  clear hK K
                  (try simp only [Act.put, List.getElem_toArray, List.getElem_cons_succ, List.getElem_cons_zero, List.setIfInBounds_toArray, List.set_cons_zero, List.set_cons_succ])
                  refine wpAnyH_ready (rs := [11]) (by kernel_rfl) (by simp) ?_
                  refine (AllReadyH.cons rfl (fun K hK => ?_) AllReadyH.nil)
                  · rw [if_pos (by kernel_rfl)]
                    refine wp_store_row 40 _ _ rfl _ (wcs a U) (by rfl) (by rfl) _ _ h8 (by kernel_rfl) rfl (by simp [Value.oneCell']) ?_
                    replace h5 := held_row h5 nh5h8 (wcs a U)
                    replace h6 := held_row h6 (Ne.symm nh8h6) (wcs a U)
                    replace h7 := held_row h7 (Ne.symm nh8h7) (wcs a U)
                    replace hS := below_setRow hS lh8 (wcs a U)
                    replace h8 := held_rowSelf h8 (wcs a U)
                    generalize World.setRow _ _ (wcs a U) = Wd34 at *
                    refine hK.out _ _ hS (fun _ => ?_)
                    clear hK K
                    (try simp only [Act.put, List.getElem_toArray, List.getElem_cons_succ, List.getElem_cons_zero, List.setIfInBounds_toArray, List.set_cons_zero, List.set_cons_succ])
                    refine wpAnyH_done (by kernel_rfl) ?_ _
                    (repeat (first | go_skip | go_guarded | go_step | go_upon))
                    go_meet
                    case rel => exact ⟨_, _, _, _, rfl, rfl, rfl, rfl, ⟨h5, h6, h7, h8, nh5h6, nh5h7, nh5h8, nh6h7, (Ne.symm nh8h6), (Ne.symm nh8h7), Nat.le_trans hlo lh5, Nat.le_trans hlo lh6, Nat.le_trans hlo lh7, Nat.le_trans hlo lh8⟩, Below.step HDR.out hS⟩
        · rw [if_pos (by kernel_rfl)]
          refine wp_alloc_R 40 rfl wz0 (by kernel_rfl) ?_
          have nh5h7 : Wq.heap.size ≠ Wd28.heap.size := Nat.ne_of_lt (Held.lt h5)
          have nh8h7 : Wd1.heap.size ≠ Wd28.heap.size := Nat.ne_of_lt (Held.lt h8)
          have hbA := ((Below.refl _ _).alloc (Nat.le_refl _) _ : Below Wd28.heap.size Wd28 (Wd28.alloc (.cells wz0 40)))
          replace h5 := Held.below h5 hbA
          replace h8 := Held.below h8 hbA
          have h7 := Held.new Wd28 40 wz0
          have lh7 := hS.size
          replace hS := Below.step hS hbA
          clear hbA
          generalize Wd28.alloc (.cells wz0 40) = Wd35 at *
          refine hK.out _ _ hS (fun _ => ?_)
          clear hK K
          (try simp only [Act.put, List.getElem_toArray, List.getElem_cons_succ, List.getElem_cons_zero, List.setIfInBounds_toArray, List.set_cons_zero, List.set_cons_succ])
          refine wpAnyH_ready (rs := [5]) (by kernel_rfl) (by simp) ?_
          refine (AllReadyH.cons rfl (fun K hK => ?_) AllReadyH.nil)
          · rw [if_pos (by kernel_rfl)]
            refine wp_alloc_R 40 rfl wz0 (by kernel_rfl) ?_
            have nh5h6 : Wq.heap.size ≠ Wd35.heap.size := Nat.ne_of_lt (Held.lt h5)
            have nh8h6 : Wd1.heap.size ≠ Wd35.heap.size := Nat.ne_of_lt (Held.lt h8)
            have nh7h6 : Wd28.heap.size ≠ Wd35.heap.size := Nat.ne_of_lt (Held.lt h7)
            have hbA := ((Below.refl _ _).alloc (Nat.le_refl _) _ : Below Wd35.heap.size Wd35 (Wd35.alloc (.cells wz0 40)))
            replace h5 := Held.below h5 hbA
            replace h8 := Held.below h8 hbA
            replace h7 := Held.below h7 hbA
            have h6 := Held.new Wd35 40 wz0
            have lh6 := hS.size
            replace hS := Below.step hS hbA
            clear hbA
            generalize Wd35.alloc (.cells wz0 40) = Wd36 at *
            refine hK.out _ _ hS (fun _ => ?_)
            clear hK K
            (try simp only [Act.put, List.getElem_toArray, List.getElem_cons_succ, List.getElem_cons_zero, List.setIfInBounds_toArray, List.set_cons_zero, List.set_cons_succ])
            refine wpAnyH_ready (rs := [8]) (by kernel_rfl) (by simp) ?_
            refine (AllReadyH.cons rfl (fun K hK => ?_) AllReadyH.nil)
            · rw [if_pos (by kernel_rfl)]
              refine wp_store_row 40 _ _ rfl _ (wcs a U) (by rfl) (by rfl) _ _ h5 (by kernel_rfl) rfl (by simp [Value.oneCell']) ?_
              replace h8 := held_row h8 (Ne.symm nh5h8) (wcs a U)
              replace h7 := held_row h7 (Ne.symm nh5h7) (wcs a U)
              replace h6 := held_row h6 (Ne.symm nh5h6) (wcs a U)
              replace hS := below_setRow hS lh5 (wcs a U)
              replace h5 := held_rowSelf h5 (wcs a U)
              generalize World.setRow _ _ (wcs a U) = Wd37 at *
              refine hK.out _ _ hS (fun _ => ?_)
              clear hK K
              (try simp only [Act.put, List.getElem_toArray, List.getElem_cons_succ, List.getElem_cons_zero, List.setIfInBounds_toArray, List.set_cons_zero, List.set_cons_succ])
              refine wpAnyH_ready (rs := [9]) (by kernel_rfl) (by simp) ?_
              refine (AllReadyH.cons rfl (fun K hK => ?_) AllReadyH.nil)
              · rw [if_pos (by kernel_rfl)]
                refine wp_store_row 40 _ _ rfl _ (wcs a U) (by rfl) (by rfl) _ _ h6 (by kernel_rfl) rfl (by simp [Value.oneCell']) ?_
                replace h5 := held_row h5 nh5h6 (wcs a U)
                replace h8 := held_row h8 nh8h6 (wcs a U)
                replace h7 := held_row h7 nh7h6 (wcs a U)
                replace hS := below_setRow hS lh6 (wcs a U)
                replace h6 := held_rowSelf h6 (wcs a U)
                generalize World.setRow _ _ (wcs a U) = Wd38 at *
                refine hK.out _ _ hS (fun _ => ?_)
                clear hK K
                (try simp only [Act.put, List.getElem_toArray, List.getElem_cons_succ, List.getElem_cons_zero, List.setIfInBounds_toArray, List.set_cons_zero, List.set_cons_succ])
                refine wpAnyH_ready (rs := [10]) (by kernel_rfl) (by simp) ?_
                refine (AllReadyH.cons rfl (fun K hK => ?_) AllReadyH.nil)
                · rw [if_pos (by kernel_rfl)]
                  refine wp_store_row 40 _ _ rfl _ (wcs a U) (by rfl) (by rfl) _ _ h7 (by kernel_rfl) rfl (by simp [Value.oneCell']) ?_
                  replace h5 := held_row h5 nh5h7 (wcs a U)
                  replace h8 := held_row h8 nh8h7 (wcs a U)
                  replace h6 := held_row h6 (Ne.symm nh7h6) (wcs a U)
                  replace hS := below_setRow hS lh7 (wcs a U)
                  replace h7 := held_rowSelf h7 (wcs a U)
                  generalize World.setRow _ _ (wcs a U) = Wd39 at *
                  refine hK.out _ _ hS (fun _ => ?_)
                  clear hK K
                  (try simp only [Act.put, List.getElem_toArray, List.getElem_cons_succ, List.getElem_cons_zero, List.setIfInBounds_toArray, List.set_cons_zero, List.set_cons_succ])
                  refine wpAnyH_ready (rs := [11]) (by kernel_rfl) (by simp) ?_
                  refine (AllReadyH.cons rfl (fun K hK => ?_) AllReadyH.nil)
                  · rw [if_pos (by kernel_rfl)]
                    refine wp_store_row 40 _ _ rfl _ (wcs a U) (by rfl) (by rfl) _ _ h8 (by kernel_rfl) rfl (by simp [Value.oneCell']) ?_
                    replace h5 := held_row h5 nh5h8 (wcs a U)
                    replace h7 := held_row h7 (Ne.symm nh8h7) (wcs a U)
                    replace h6 := held_row h6 (Ne.symm nh8h6) (wcs a U)
                    replace hS := below_setRow hS lh8 (wcs a U)
                    replace h8 := held_rowSelf h8 (wcs a U)
                    generalize World.setRow _ _ (wcs a U) = Wd40 at *
                    refine hK.out _ _ hS (fun _ => ?_)
                    clear hK K
                    (try simp only [Act.put, List.getElem_toArray, List.getElem_cons_succ, List.getElem_cons_zero, List.setIfInBounds_toArray, List.set_cons_zero, List.set_cons_succ])
                    refine wpAnyH_done (by kernel_rfl) ?_ _
                    (repeat (first | go_skip | go_guarded | go_step | go_upon))
                    go_meet
                    case rel => exact ⟨_, _, _, _, rfl, rfl, rfl, rfl, ⟨h5, h6, h7, h8, nh5h6, nh5h7, nh5h8, (Ne.symm nh7h6), (Ne.symm nh8h6), (Ne.symm nh8h7), Nat.le_trans hlo lh5, Nat.le_trans hlo lh6, Nat.le_trans hlo lh7, Nat.le_trans hlo lh8⟩, Below.step HDR.out hS⟩
    · rw [if_pos (by kernel_rfl)]
      refine wp_alloc_R 40 rfl wz0 (by kernel_rfl) ?_
      have hbA := ((Below.refl _ _).alloc (Nat.le_refl _) _ : Below Wq.heap.size Wq (Wq.alloc (.cells wz0 40)))
      have h6 := Held.new Wq 40 wz0
      have lh6 := hS.size
      replace hS := Below.step hS hbA
      clear hbA
      generalize Wq.alloc (.cells wz0 40) = Wd41 at *
      refine hK.out _ _ hS (fun _ => ?_)
      clear hK K
      (try simp only [Act.put, List.getElem_toArray, List.getElem_cons_succ, List.getElem_cons_zero, List.setIfInBounds_toArray, List.set_cons_zero, List.set_cons_succ])
      refine wpAnyH_ready (rs := [4, 6, 7]) (by kernel_rfl) (by simp) ?_
      refine (AllReadyH.cons rfl (fun K hK => ?_) (AllReadyH.cons rfl (fun K hK => ?_) (AllReadyH.cons rfl (fun K hK => ?_) AllReadyH.nil)))
      · rw [if_pos (by kernel_rfl)]
        refine wp_alloc_R 40 rfl wz0 (by kernel_rfl) ?_
        have nh6h5 : Wq.heap.size ≠ Wd41.heap.size := Nat.ne_of_lt (Held.lt h6)
        have hbA := ((Below.refl _ _).alloc (Nat.le_refl _) _ : Below Wd41.heap.size Wd41 (Wd41.alloc (.cells wz0 40)))
        replace h6 := Held.below h6 hbA
        have h5 := Held.new Wd41 40 wz0
        have lh5 := hS.size
        replace hS := Below.step hS hbA
        clear hbA
        generalize Wd41.alloc (.cells wz0 40) = Wd42 at *
        refine hK.out _ _ hS (fun _ => ?_)
        clear hK K
        (try simp only [Act.put, List.getElem_toArray, List.getElem_cons_succ, List.getElem_cons_zero, List.setIfInBounds_toArray, List.set_cons_zero, List.set_cons_succ])
        refine wpAnyH_ready (rs := [6, 7]) (by kernel_rfl) (by simp) ?_
        refine (AllReadyH.cons rfl (fun K hK => ?_) (AllReadyH.cons rfl (fun K hK => ?_) AllReadyH.nil))
        · rw [if_pos (by kernel_rfl)]
          refine wp_alloc_R 40 rfl wz0 (by kernel_rfl) ?_
          have nh6h7 : Wq.heap.size ≠ Wd42.heap.size := Nat.ne_of_lt (Held.lt h6)
          have nh5h7 : Wd41.heap.size ≠ Wd42.heap.size := Nat.ne_of_lt (Held.lt h5)
          have hbA := ((Below.refl _ _).alloc (Nat.le_refl _) _ : Below Wd42.heap.size Wd42 (Wd42.alloc (.cells wz0 40)))
          replace h6 := Held.below h6 hbA
          replace h5 := Held.below h5 hbA
          have h7 := Held.new Wd42 40 wz0
          have lh7 := hS.size
          replace hS := Below.step hS hbA
          clear hbA
          generalize Wd42.alloc (.cells wz0 40) = Wd43 at *
          refine hK.out _ _ hS (fun _ => ?_)
          clear hK K
          (try simp only [Act.put, List.getElem_toArray, List.getElem_cons_succ, List.getElem_cons_zero, List.setIfInBounds_toArray, List.set_cons_zero, List.set_cons_succ])
          refine wpAnyH_ready (rs := [7]) (by kernel_rfl) (by simp) ?_
          refine (AllReadyH.cons rfl (fun K hK => ?_) AllReadyH.nil)
          · rw [if_pos (by kernel_rfl)]
            refine wp_alloc_R 40 rfl wz0 (by kernel_rfl) ?_
            have nh6h8 : Wq.heap.size ≠ Wd43.heap.size := Nat.ne_of_lt (Held.lt h6)
            have nh5h8 : Wd41.heap.size ≠ Wd43.heap.size := Nat.ne_of_lt (Held.lt h5)
            have nh7h8 : Wd42.heap.size ≠ Wd43.heap.size := Nat.ne_of_lt (Held.lt h7)
            have hbA := ((Below.refl _ _).alloc (Nat.le_refl _) _ : Below Wd43.heap.size Wd43 (Wd43.alloc (.cells wz0 40)))
            replace h6 := Held.below h6 hbA
            replace h5 := Held.below h5 hbA
            replace h7 := Held.below h7 hbA
            have h8 := Held.new Wd43 40 wz0
            have lh8 := hS.size
            replace hS := Below.step hS hbA
            clear hbA
            generalize Wd43.alloc (.cells wz0 40) = Wd44 at *
            refine hK.out _ _ hS (fun _ => ?_)
            clear hK K
            (try simp only [Act.put, List.getElem_toArray, List.getElem_cons_succ, List.getElem_cons_zero, List.setIfInBounds_toArray, List.set_cons_zero, List.set_cons_succ])
            refine wpAnyH_ready (rs := [8]) (by kernel_rfl) (by simp) ?_
            refine (AllReadyH.cons rfl (fun K hK => ?_) AllReadyH.nil)
            · rw [if_pos (by kernel_rfl)]
              refine wp_store_row 40 _ _ rfl _ (wcs a U) (by rfl) (by rfl) _ _ h5 (by kernel_rfl) rfl (by simp [Value.oneCell']) ?_
              replace h6 := held_row h6 nh6h5 (wcs a U)
              replace h7 := held_row h7 (Ne.symm nh5h7) (wcs a U)
              replace h8 := held_row h8 (Ne.symm nh5h8) (wcs a U)
              replace hS := below_setRow hS lh5 (wcs a U)
              replace h5 := held_rowSelf h5 (wcs a U)
              generalize World.setRow _ _ (wcs a U) = Wd45 at *
              refine hK.out _ _ hS (fun _ => ?_)
              clear hK K
              (try simp only [Act.put, List.getElem_toArray, List.getElem_cons_succ, List.getElem_cons_zero, List.setIfInBounds_toArray, List.set_cons_zero, List.set_cons_succ])
              refine wpAnyH_ready (rs := [9]) (by kernel_rfl) (by simp) ?_
              refine (AllReadyH.cons rfl (fun K hK => ?_) AllReadyH.nil)
              · rw [if_pos (by kernel_rfl)]
                refine wp_store_row 40 _ _ rfl _ (wcs a U) (by rfl) (by rfl) _ _ h6 (by kernel_rfl) rfl (by simp [Value.oneCell']) ?_
                replace h5 := held_row h5 (Ne.symm nh6h5) (wcs a U)
                replace h7 := held_row h7 (Ne.symm nh6h7) (wcs a U)
                replace h8 := held_row h8 (Ne.symm nh6h8) (wcs a U)
                replace hS := below_setRow hS lh6 (wcs a U)
                replace h6 := held_rowSelf h6 (wcs a U)
                generalize World.setRow _ _ (wcs a U) = Wd46 at *
                refine hK.out _ _ hS (fun _ => ?_)
                clear hK K
                (try simp only [Act.put, List.getElem_toArray, List.getElem_cons_succ, List.getElem_cons_zero, List.setIfInBounds_toArray, List.set_cons_zero, List.set_cons_succ])
                refine wpAnyH_ready (rs := [10]) (by kernel_rfl) (by simp) ?_
                refine (AllReadyH.cons rfl (fun K hK => ?_) AllReadyH.nil)
                · rw [if_pos (by kernel_rfl)]
                  refine wp_store_row 40 _ _ rfl _ (wcs a U) (by rfl) (by rfl) _ _ h7 (by kernel_rfl) rfl (by simp [Value.oneCell']) ?_
                  replace h6 := held_row h6 nh6h7 (wcs a U)
                  replace h5 := held_row h5 nh5h7 (wcs a U)
                  replace h8 := held_row h8 (Ne.symm nh7h8) (wcs a U)
                  replace hS := below_setRow hS lh7 (wcs a U)
                  replace h7 := held_rowSelf h7 (wcs a U)
                  generalize World.setRow _ _ (wcs a U) = Wd47 at *
                  refine hK.out _ _ hS (fun _ => ?_)
                  clear hK K
                  (try simp only [Act.put, List.getElem_toArray, List.getElem_cons_succ, List.getElem_cons_zero, List.setIfInBounds_toArray, List.set_cons_zero, List.set_cons_succ])
                  refine wpAnyH_ready (rs := [11]) (by kernel_rfl) (by simp) ?_
                  refine (AllReadyH.cons rfl (fun K hK => ?_) AllReadyH.nil)
                  · rw [if_pos (by kernel_rfl)]
                    refine wp_store_row 40 _ _ rfl _ (wcs a U) (by rfl) (by rfl) _ _ h8 (by kernel_rfl) rfl (by simp [Value.oneCell']) ?_
                    replace h6 := held_row h6 nh6h8 (wcs a U)
                    replace h5 := held_row h5 nh5h8 (wcs a U)
                    replace h7 := held_row h7 nh7h8 (wcs a U)
                    replace hS := below_setRow hS lh8 (wcs a U)
                    replace h8 := held_rowSelf h8 (wcs a U)
                    generalize World.setRow _ _ (wcs a U) = Wd48 at *
                    refine hK.out _ _ hS (fun _ => ?_)
                    clear hK K
                    (try simp only [Act.put, List.getElem_toArray, List.getElem_cons_succ, List.getElem_cons_zero, List.setIfInBounds_toArray, List.set_cons_zero, List.set_cons_succ])
                    refine wpAnyH_done (by kernel_rfl) ?_ _
                    (repeat (first | go_skip | go_guarded | go_step | go_upon))
                    go_meet
                    case rel => exact ⟨_, _, _, _, rfl, rfl, rfl, rfl, ⟨h5, h6, h7, h8, (Ne.symm nh6h5), nh5h7, nh5h8, nh6h7, nh6h8, nh7h8, Nat.le_trans hlo lh5, Nat.le_trans hlo lh6, Nat.le_trans hlo lh7, Nat.le_trans hlo lh8⟩, Below.step HDR.out hS⟩
        · rw [if_pos (by kernel_rfl)]
          refine wp_alloc_R 40 rfl wz0 (by kernel_rfl) ?_
          have nh6h8 : Wq.heap.size ≠ Wd42.heap.size := Nat.ne_of_lt (Held.lt h6)
          have nh5h8 : Wd41.heap.size ≠ Wd42.heap.size := Nat.ne_of_lt (Held.lt h5)
          have hbA := ((Below.refl _ _).alloc (Nat.le_refl _) _ : Below Wd42.heap.size Wd42 (Wd42.alloc (.cells wz0 40)))
          replace h6 := Held.below h6 hbA
          replace h5 := Held.below h5 hbA
          have h8 := Held.new Wd42 40 wz0
          have lh8 := hS.size
          replace hS := Below.step hS hbA
          clear hbA
          generalize Wd42.alloc (.cells wz0 40) = Wd49 at *
          refine hK.out _ _ hS (fun _ => ?_)
          clear hK K
          (try simp only [Act.put, List.getElem_toArray, List.getElem_cons_succ, List.getElem_cons_zero, List.setIfInBounds_toArray, List.set_cons_zero, List.set_cons_succ])
          refine wpAnyH_ready (rs := [6]) (by kernel_rfl) (by simp) ?_
          refine (AllReadyH.cons rfl (fun K hK => ?_) AllReadyH.nil)
          · rw [if_pos (by kernel_rfl)]
            refine wp_alloc_R 40 rfl wz0 (by kernel_rfl) ?_
            have nh6h7 : Wq.heap.size ≠ Wd49.heap.size := Nat.ne_of_lt (Held.lt h6)
            have nh5h7 : Wd41.heap.size ≠ Wd49.heap.size := Nat.ne_of_lt (Held.lt h5)
            have nh8h7 : Wd42.heap.size ≠ Wd49.heap.size := Nat.ne_of_lt (Held.lt h8)
            have hbA := ((Below.refl _ _).alloc (Nat.le_refl _) _ : Below Wd49.heap.size Wd49 (Wd49.alloc (.cells wz0 40)))
            replace h6 := Held.below h6 hbA
            replace h5 := Held.below h5 hbA
            replace h8 := Held.below h8 hbA
            have h7 := Held.new Wd49 40 wz0
            have lh7 := hS.size
            replace hS := Below.step hS hbA
            clear hbA
            generalize Wd49.alloc (.cells wz0 40) = Wd50 at *
            refine hK.out _ _ hS (fun _ => ?_)
            clear hK K
            (try simp only [Act.put, List.getElem_toArray, List.getElem_cons_succ, List.getElem_cons_zero, List.setIfInBounds_toArray, List.set_cons_zero, List.set_cons_succ])
            refine wpAnyH_ready (rs := [8]) (by kernel_rfl) (by simp) ?_
            refine (AllReadyH.cons rfl (fun K hK => ?_) AllReadyH.nil)
            · rw [if_pos (by kernel_rfl)]
              refine wp_store_row 40 _ _ rfl _ (wcs a U) (by rfl) (by rfl) _ _ h5 (by kernel_rfl) rfl (by simp [Value.oneCell']) ?_
              replace h6 := held_row h6 nh6h5 (wcs a U)
              replace h8 := held_row h8 (Ne.symm nh5h8) (wcs a U)
              replace h7 := held_row h7 (Ne.symm nh5h7) (wcs a U)
              replace hS := below_setRow hS lh5 (wcs a U)
              replace h5 := held_rowSelf h5 (wcs a U)
              generalize World.setRow _ _ (wcs a U) = Wd51 at *
              refine hK.out _ _ hS (fun _ => ?_)
              clear hK K
              (try simp only [Act.put, List.getElem_toArray, List.getElem_cons_succ, List.getElem_cons_zero, List.setIfInBounds_toArray, List.set_cons_zero, List.set_cons_succ])
              refine wpAnyH_ready (rs := [9]) (by kernel_rfl) (by simp) ?_
              refine (AllReadyH.cons rfl (fun K hK => ?_) AllReadyH.nil)
              · rw [if_pos (by kernel_rfl)]
                refine wp_store_row 40 _ _ rfl _ (wcs a U) (by rfl) (by rfl) _ _ h6 (by kernel_rfl) rfl (by simp [Value.oneCell']) ?_
                replace h5 := held_row h5 (Ne.symm nh6h5) (wcs a U)
                replace h8 := held_row h8 (Ne.symm nh6h8) (wcs a U)
                replace h7 := held_row h7 (Ne.symm nh6h7) (wcs a U)
                replace hS := below_setRow hS lh6 (wcs a U)
                replace h6 := held_rowSelf h6 (wcs a U)
                generalize World.setRow _ _ (wcs a U) = Wd52 at *
                refine hK.out _ _ hS (fun _ => ?_)
                clear hK K
                (try simp only [Act.put, List.getElem_toArray, List.getElem_cons_succ, List.getElem_cons_zero, List.setIfInBounds_toArray, List.set_cons_zero, List.set_cons_succ])
                refine wpAnyH_ready (rs := [10]) (by kernel_rfl) (by simp) ?_
                refine (AllReadyH.cons rfl (fun K hK => ?_) AllReadyH.nil)
                · rw [if_pos (by kernel_rfl)]
                  refine wp_store_row 40 _ _ rfl _ (wcs a U) (by rfl) (by rfl) _ _ h7 (by kernel_rfl) rfl (by simp [Value.oneCell']) ?_
                  replace h6 := held_row h6 nh6h7 (wcs a U)
                  replace h5 := held_row h5 nh5h7 (wcs a U)
                  replace h8 := held_row h8 nh8h7 (wcs a U)
                  replace hS := below_setRow hS lh7 (wcs a U)
                  replace h7 := held_rowSelf h7 (wcs a U)
                  generalize World.setRow _ _ (wcs a U) = Wd53 at *
                  refine hK.out _ _ hS (fun _ => ?_)
                  clear hK K
                  (try simp only [Act.put, List.getElem_toArray, List.getElem_cons_succ, List.getElem_cons_zero, List.setIfInBounds_toArray, List.set_cons_zero, List.set_cons_succ])
                  refine wpAnyH_ready (rs := [11]) (by kernel_rfl) (by simp) ?_
                  refine (AllReadyH.cons rfl (fun K hK => ?_) AllReadyH.nil)
                  · rw [if_pos (by kernel_rfl)]
                    refine wp_store_row 40 _ _ rfl _ (wcs a U) (by rfl) (by rfl) _ _ h8 (by kernel_rfl) rfl (by simp [Value.oneCell']) ?_
                    replace h6 := held_row h6 nh6h8 (wcs a U)
                    replace h5 := held_row h5 nh5h8 (wcs a U)
                    replace h7 := held_row h7 (Ne.symm nh8h7) (wcs a U)
                    replace hS := below_setRow hS lh8 (wcs a U)
                    replace h8 := held_rowSelf h8 (wcs a U)
                    generalize World.setRow _ _ (wcs a U) = Wd54 at *
                    refine hK.out _ _ hS (fun _ => ?_)
                    clear hK K
                    (try simp only [Act.put, List.getElem_toArray, List.getElem_cons_succ, List.getElem_cons_zero, List.setIfInBounds_toArray, List.set_cons_zero, List.set_cons_succ])
                    refine wpAnyH_done (by kernel_rfl) ?_ _
                    (repeat (first | go_skip | go_guarded | go_step | go_upon))
                    go_meet
                    case rel => exact ⟨_, _, _, _, rfl, rfl, rfl, rfl, ⟨h5, h6, h7, h8, (Ne.symm nh6h5), nh5h7, nh5h8, nh6h7, nh6h8, (Ne.symm nh8h7), Nat.le_trans hlo lh5, Nat.le_trans hlo lh6, Nat.le_trans hlo lh7, Nat.le_trans hlo lh8⟩, Below.step HDR.out hS⟩
      · rw [if_pos (by kernel_rfl)]
        refine wp_alloc_R 40 rfl wz0 (by kernel_rfl) ?_
        have nh6h7 : Wq.heap.size ≠ Wd41.heap.size := Nat.ne_of_lt (Held.lt h6)
        have hbA := ((Below.refl _ _).alloc (Nat.le_refl _) _ : Below Wd41.heap.size Wd41 (Wd41.alloc (.cells wz0 40)))
        replace h6 := Held.below h6 hbA
        have h7 := Held.new Wd41 40 wz0
        have lh7 := hS.size
        replace hS := Below.step hS hbA
        clear hbA
        generalize Wd41.alloc (.cells wz0 40) = Wd55 at *
        refine hK.out _ _ hS (fun _ => ?_)
        clear hK K
        (try simp only [Act.put, List.getElem_toArray, List.getElem_cons_succ, List.getElem_cons_zero, List.setIfInBounds_toArray, List.set_cons_zero, List.set_cons_succ])
        refine wpAnyH_ready (rs := [4, 7]) (by kernel_rfl) (by simp) ?_
        refine (AllReadyH.cons rfl (fun K hK => ?_) (AllReadyH.cons rfl (fun K hK => ?_) AllReadyH.nil))
        · rw [if_pos (by kernel_rfl)]
          refine wp_alloc_R 40 rfl wz0 (by kernel_rfl) ?_
          have nh6h5 : Wq.heap.size ≠ Wd55.heap.size := Nat.ne_of_lt (Held.lt h6)
          have nh7h5 : Wd41.heap.size ≠ Wd55.heap.size := Nat.ne_of_lt (Held.lt h7)
          have hbA := ((Below.refl _ _).alloc (Nat.le_refl _) _ : Below Wd55.heap.size Wd55 (Wd55.alloc (.cells wz0 40)))
          replace h6 := Held.below h6 hbA
          replace h7 := Held.below h7 hbA
          have h5 := Held.new Wd55 40 wz0
          have lh5 := hS.size
          replace hS := Below.step hS hbA
          clear hbA
          generalize Wd55.alloc (.cells wz0 40) = Wd56 at *
          refine hK.out _ _ hS (fun _ => ?_)
          clear hK K
          (try simp only [Act.put, List.getElem_toArray, List.getElem_cons_succ, List.getElem_cons_zero, List.setIfInBounds_toArray, List.set_cons_zero, List.set_cons_succ])
          refine wpAnyH_ready (rs := [7]) (by kernel_rfl) (by simp) ?_
          refine (AllReadyH.cons rfl (fun K hK => ?_) AllReadyH.nil)
          · rw [if_pos (by kernel_rfl)]
            refine wp_alloc_R 40 rfl wz0 (by kernel_rfl) ?_
            have nh6h8 : Wq.heap.size ≠ Wd56.heap.size := Nat.ne_of_lt (Held.lt h6)
            have nh7h8 : Wd41.heap.size ≠ Wd56.heap.size := Nat.ne_of_lt (Held.lt h7)
            have nh5h8 : Wd55.heap.size ≠ Wd56.heap.size := Nat.ne_of_lt (Held.lt h5)
            have hbA := ((Below.refl _ _).alloc (Nat.le_refl _) _ : Below Wd56.heap.size Wd56 (Wd56.alloc (.cells wz0 40)))
            replace h6 := Held.below h6 hbA
            replace h7 := Held.below h7 hbA
            replace h5 := Held.below h5 hbA
            have h8 := Held.new Wd56 40 wz0
            have lh8 := hS.size
            replace hS := Below.step hS hbA
            clear hbA
            generalize Wd56.alloc (.cells wz0 40) = Wd57 at *
            refine hK.out _ _ hS (fun _ => ?_)
            clear hK K
            (try simp only [Act.put, List.getElem_toArray, List.getElem_cons_succ, List.getElem_cons_zero, List.setIfInBounds_toArray, List.set_cons_zero, List.set_cons_succ])
            refine wpAnyH_ready (rs := [8]) (by kernel_rfl) (by simp) ?_
            refine (AllReadyH.cons rfl (fun K hK => ?_) AllReadyH.nil)
            · rw [if_pos (by kernel_rfl)]
              refine wp_store_row 40 _ _ rfl _ (wcs a U) (by rfl) (by rfl) _ _ h5 (by kernel_rfl) rfl (by simp [Value.oneCell']) ?_
              replace h6 := held_row h6 nh6h5 (wcs a U)
              replace h7 := held_row h7 nh7h5 (wcs a U)
              replace h8 := held_row h8 (Ne.symm nh5h8) (wcs a U)
              replace hS := below_setRow hS lh5 (wcs a U)
              replace h5 := held_rowSelf h5 (wcs a U)
              generalize World.setRow _ _ (wcs a U) = Wd58 at *
              refine hK.out _ _ hS (fun _ => ?_)
              clear hK K
              (try simp only [Act.put, List.getElem_toArray, List.getElem_cons_succ, List.getElem_cons_zero, List.setIfInBounds_toArray, List.set_cons_zero, List.set_cons_succ])
              refine wpAnyH_ready (rs := [9]) (by kernel_rfl) (by simp) ?_
              refine (AllReadyH.cons rfl (fun K hK => ?_) AllReadyH.nil)
              · rw [if_pos (by kernel_rfl)]
                refine wp_store_row 40 _ _ rfl _ (wcs a U) (by rfl) (by rfl) _ _ h6 (by kernel_rfl) rfl (by simp [Value.oneCell']) ?_
                replace h7 := held_row h7 (Ne.symm nh6h7) (wcs a U)
                replace h5 := held_row h5 (Ne.symm nh6h5) (wcs a U)
                replace h8 := held_row h8 (Ne.symm nh6h8) (wcs a U)
                replace hS := below_setRow hS lh6 (wcs a U)
                replace h6 := held_rowSelf h6 (wcs a U)
                generalize World.setRow _ _ (wcs a U) = Wd59 at *
                refine hK.out _ _ hS (fun _ => ?_)
                clear hK K
                (try simp only [Act.put, List.getElem_toArray, List.getElem_cons_succ, List.getElem_cons_zero, List.setIfInBounds_toArray, List.set_cons_zero, List.set_cons_succ])
                refine wpAnyH_ready (rs := [10]) (by kernel_rfl) (by simp) ?_
                refine (AllReadyH.cons rfl (fun K hK => ?_) AllReadyH.nil)
                · rw [if_pos (by kernel_rfl)]
                  refine wp_store_row 40 _ _ rfl _ (wcs a U) (by rfl) (by rfl) _ _ h7 (by kernel_rfl) rfl (by simp [Value.oneCell']) ?_
                  replace h6 := held_row h6 nh6h7 (wcs a U)
                  replace h5 := held_row h5 (Ne.symm nh7h5) (wcs a U)
                  replace h8 := held_row h8 (Ne.symm nh7h8) (wcs a U)
                  replace hS := below_setRow hS lh7 (wcs a U)
                  replace h7 := held_rowSelf h7 (wcs a U)
                  generalize World.setRow _ _ (wcs a U) = Wd60 at *
                  refine hK.out _ _ hS (fun _ => ?_)
                  clear hK K
                  (try simp only [Act.put, List.getElem_toArray, List.getElem_cons_succ, List.getElem_cons_zero, List.setIfInBounds_toArray, List.set_cons_zero, List.set_cons_succ])
                  refine wpAnyH_ready (rs := [11]) (by kernel_rfl) (by simp) ?_
                  refine (AllReadyH.cons rfl (fun K hK => ?_) AllReadyH.nil)
                  · rw [if_pos (by kernel_rfl)]
                    refine wp_store_row 40 _ _ rfl _ (wcs a U) (by rfl) (by rfl) _ _ h8 (by kernel_rfl) rfl (by simp [Value.oneCell']) ?_
                    replace h6 := held_row h6 nh6h8 (wcs a U)
                    replace h7 := held_row h7 nh7h8 (wcs a U)
                    replace h5 := held_row h5 nh5h8 (wcs a U)
                    replace hS := below_setRow hS lh8 (wcs a U)
                    replace h8 := held_rowSelf h8 (wcs a U)
                    generalize World.setRow _ _ (wcs a U) = Wd61 at *
                    refine hK.out _ _ hS (fun _ => ?_)
                    clear hK K
                    (try simp only [Act.put, List.getElem_toArray, List.getElem_cons_succ, List.getElem_cons_zero, List.setIfInBounds_toArray, List.set_cons_zero, List.set_cons_succ])
                    refine wpAnyH_done (by kernel_rfl) ?_ _
                    (repeat (first | go_skip | go_guarded | go_step | go_upon))
                    go_meet
                    case rel => exact ⟨_, _, _, _, rfl, rfl, rfl, rfl, ⟨h5, h6, h7, h8, (Ne.symm nh6h5), (Ne.symm nh7h5), nh5h8, nh6h7, nh6h8, nh7h8, Nat.le_trans hlo lh5, Nat.le_trans hlo lh6, Nat.le_trans hlo lh7, Nat.le_trans hlo lh8⟩, Below.step HDR.out hS⟩
        · rw [if_pos (by kernel_rfl)]
          refine wp_alloc_R 40 rfl wz0 (by kernel_rfl) ?_
          have nh6h8 : Wq.heap.size ≠ Wd55.heap.size := Nat.ne_of_lt (Held.lt h6)
          have nh7h8 : Wd41.heap.size ≠ Wd55.heap.size := Nat.ne_of_lt (Held.lt h7)
          have hbA := ((Below.refl _ _).alloc (Nat.le_refl _) _ : Below Wd55.heap.size Wd55 (Wd55.alloc (.cells wz0 40)))
          replace h6 := Held.below h6 hbA
          replace h7 := Held.below h7 hbA
          have h8 := Held.new Wd55 40 wz0
          have lh8 := hS.size
          replace hS := Below.step hS hbA
          clear hbA
          generalize Wd55.alloc (.cells wz0 40) = Wd62 at *
          refine hK.out _ _ hS (fun _ => ?_)
          clear hK K
          (try simp only [Act.put, List.getElem_toArray, List.getElem_cons_succ, List.getElem_cons_zero, List.setIfInBounds_toArray, List.set_cons_zero, List.set_cons_succ])
          refine wpAnyH_ready (rs := [4]) (by kernel_rfl) (by simp) ?_
          refine (AllReadyH.cons rfl (fun K hK => ?_) AllReadyH.nil)
          · rw [if_pos (by kernel_rfl)]
            refine wp_alloc_R 40 rfl wz0 (by kernel_rfl) ?_
            have nh6h5 : Wq.heap.size ≠ Wd62.heap.size := Nat.ne_of_lt (Held.lt h6)
            have nh7h5 : Wd41.heap.size ≠ Wd62.heap.size := Nat.ne_of_lt (Held.lt h7)
            have nh8h5 : Wd55.heap.size ≠ Wd62.heap.size := Nat.ne_of_lt (Held.lt h8)
            have hbA := ((Below.refl _ _).alloc (Nat.le_refl _) _ : Below Wd62.heap.size Wd62 (Wd62.alloc (.cells wz0 40)))
            replace h6 := Held.below h6 hbA
            replace h7 := Held.below h7 hbA
            replace h8 := Held.below h8 hbA
            have h5 := Held.new Wd62 40 wz0
            have lh5 := hS.size
            replace hS := Below.step hS hbA
            clear hbA
            generalize Wd62.alloc (.cells wz0 40) = Wd63 at *
            refine hK.out _ _ hS (fun _ => ?_)
            clear hK K
            (try simp only [Act.put, List.getElem_toArray, List.getElem_cons_succ, List.getElem_cons_zero, List.setIfInBounds_toArray, List.set_cons_zero, List.set_cons_succ])
            refine wpAnyH_ready (rs := [8]) (by kernel_rfl) (by simp) ?_
            refine (AllReadyH.cons rfl (fun K hK => ?_) AllReadyH.nil)
            · rw [if_pos (by kernel_rfl)]
              refine wp_store_row 40 _ _ rfl _ (wcs a U) (by rfl) (by rfl) _ _ h5 (by kernel_rfl) rfl (by simp [Value.oneCell']) ?_
              replace h6 := held_row h6 nh6h5 (wcs a U)
              replace h7 := held_row h7 nh7h5 (wcs a U)
              replace h8 := held_row h8 nh8h5 (wcs a U)
              replace hS := below_setRow hS lh5 (wcs a U)
              replace h5 := held_rowSelf h5 (wcs a U)
              generalize World.setRow _ _ (wcs a U) = Wd64 at *
              refine hK.out _ _ hS (fun _ => ?_)
              clear hK K
              (try simp only [Act.put, List.getElem_toArray, List.getElem_cons_succ, List.getElem_cons_zero, List.setIfInBounds_toArray, List.set_cons_zero, List.set_cons_succ])
              refine wpAnyH_ready (rs := [9]) (by kernel_rfl) (by simp) ?_
              refine (AllReadyH.cons rfl (fun K hK => ?_) AllReadyH.nil)
              · rw [if_pos (by kernel_rfl)]
                refine wp_store_row 40 _ _ rfl _ (wcs a U) (by rfl) (by rfl) _ _ h6 (by kernel_rfl) rfl (by simp [Value.oneCell']) ?_
                replace h7 := held_row h7 (Ne.symm nh6h7) (wcs a U)
                replace h8 := held_row h8 (Ne.symm nh6h8) (wcs a U)
                replace h5 := held_row h5 (Ne.symm nh6h5) (wcs a U)
                replace hS := below_setRow hS lh6 (wcs a U)
                replace h6 := held_rowSelf h6 (wcs a U)
                generalize World.setRow _ _ (wcs a U) = Wd65 at *
                refine hK.out _ _ hS (fun _ => ?_)
                clear hK K
                (try simp only [Act.put, List.getElem_toArray, List.getElem_cons_succ, List.getElem_cons_zero, List.setIfInBounds_toArray, List.set_cons_zero, List.set_cons_succ])
                refine wpAnyH_ready (rs := [10]) (by kernel_rfl) (by simp) ?_
                refine (AllReadyH.cons rfl (fun K hK => ?_) AllReadyH.nil)
                · rw [if_pos (by kernel_rfl)]
                  refine wp_store_row 40 _ _ rfl _ (wcs a U) (by rfl) (by rfl) _ _ h7 (by kernel_rfl) rfl (by simp [Value.oneCell']) ?_
                  replace h6 := held_row h6 nh6h7 (wcs a U)
                  replace h8 := held_row h8 (Ne.symm nh7h8) (wcs a U)
                  replace h5 := held_row h5 (Ne.symm nh7h5) (wcs a U)
                  replace hS := below_setRow hS lh7 (wcs a U)
                  replace h7 := held_rowSelf h7 (wcs a U)
                  generalize World.setRow _ _ (wcs a U) = Wd66 at *
                  refine hK.out _ _ hS (fun _ => ?_)
                  clear hK K
                  (try simp only [Act.put, List.getElem_toArray, List.getElem_cons_succ, List.getElem_cons_zero, List.setIfInBounds_toArray, List.set_cons_zero, List.set_cons_succ])
                  refine wpAnyH_ready (rs := [11]) (by kernel_rfl) (by simp) ?_
                  refine (AllReadyH.cons rfl (fun K hK => ?_) AllReadyH.nil)
                  · rw [if_pos (by kernel_rfl)]
                    refine wp_store_row 40 _ _ rfl _ (wcs a U) (by rfl) (by rfl) _ _ h8 (by kernel_rfl) rfl (by simp [Value.oneCell']) ?_
                    replace h6 := held_row h6 nh6h8 (wcs a U)
                    replace h7 := held_row h7 nh7h8 (wcs a U)
                    replace h5 := held_row h5 (Ne.symm nh8h5) (wcs a U)
                    replace hS := below_setRow hS lh8 (wcs a U)
                    replace h8 := held_rowSelf h8 (wcs a U)
                    generalize World.setRow _ _ (wcs a U) = Wd67 at *
                    refine hK.out _ _ hS (fun _ => ?_)
                    clear hK K
                    (try simp only [Act.put, List.getElem_toArray, List.getElem_cons_succ, List.getElem_cons_zero, List.setIfInBounds_toArray, List.set_cons_zero, List.set_cons_succ])
                    refine wpAnyH_done (by kernel_rfl) ?_ _
                    (repeat (first | go_skip | go_guarded | go_step | go_upon))
                    go_meet
                    case rel => exact ⟨_, _, _, _, rfl, rfl, rfl, rfl, ⟨h5, h6, h7, h8, (Ne.symm nh6h5), (Ne.symm nh7h5), (Ne.symm nh8h5), nh6h7, nh6h8, nh7h8, Nat.le_trans hlo lh5, Nat.le_trans hlo lh6, Nat.le_trans hlo lh7, Nat.le_trans hlo lh8⟩, Below.step HDR.out hS⟩
      · rw [if_pos (by kernel_rfl)]
        refine wp_alloc_R 40 rfl wz0 (by kernel_rfl) ?_
        have nh6h8 : Wq.heap.size ≠ Wd41.heap.size := Nat.ne_of_lt (Held.lt h6)
        have hbA := ((Below.refl _ _).alloc (Nat.le_refl _) _ : Below Wd41.heap.size Wd41 (Wd41.alloc (.cells wz0 40)))
        replace h6 := Held.below h6 hbA
        have h8 := Held.new Wd41 40 wz0
        have lh8 := hS.size
        replace hS := Below.step hS hbA
        clear hbA
        generalize Wd41.alloc (.cells wz0 40) = Wd68 at *
        refine hK.out _ _ hS (fun _ => ?_)
        clear hK K
        (try simp only [Act.put, List.getElem_toArray, List.getElem_cons_succ, List.getElem_cons_zero, List.setIfInBounds_toArray, List.set_cons_zero, List.set_cons_succ])
        refine wpAnyH_ready (rs := [4, 6]) (by kernel_rfl) (by simp) ?_
        refine (AllReadyH.cons rfl (fun K hK => ?_) (AllReadyH.cons rfl (fun K hK => ?_) AllReadyH.nil))
        · rw [if_pos (by kernel_rfl)]
          refine wp_alloc_R 40 rfl wz0 (by kernel_rfl) ?_
          have nh6h5 : Wq.heap.size ≠ Wd68.heap.size := Nat.ne_of_lt (Held.lt h6)
          have nh8h5 : Wd41.heap.size ≠ Wd68.heap.size := Nat.ne_of_lt (Held.lt h8)
          have hbA := ((Below.refl _ _).alloc (Nat.le_refl _) _ : Below Wd68.heap.size Wd68 (Wd68.alloc (.cells wz0 40)))
          replace h6 := Held.below h6 hbA
          replace h8 := Held.below h8 hbA
          have h5 := Held.new Wd68 40 wz0
          have lh5 := hS.size
          replace hS := Below.step hS hbA
          clear hbA
          generalize Wd68.alloc (.cells wz0 40) = Wd69 at *
          refine hK.out _ _ hS (fun _ => ?_)
          clear hK K
          (try simp only [Act.put, List.getElem_toArray, List.getElem_cons_succ, List.getElem_cons_zero, List.setIfInBounds_toArray, List.set_cons_zero, List.set_cons_succ])
          refine wpAnyH_ready (rs := [6]) (by kernel_rfl) (by simp) ?_
          refine (AllReadyH.cons rfl (fun K hK => ?_) AllReadyH.nil)
          · rw [if_pos (by kernel_rfl)]
            refine wp_alloc_R 40 rfl wz0 (by kernel_rfl) ?_
            have nh6h7 : Wq.heap.size ≠ Wd69.heap.size := Nat.ne_of_lt (Held.lt h6)
            have nh8h7 : Wd41.heap.size ≠ Wd69.heap.size := Nat.ne_of_lt (Held.lt h8)
            have nh5h7 : Wd68.heap.size ≠ Wd69.heap.size := Nat.ne_of_lt (Held.lt h5)
            have hbA := ((Below.refl _ _).alloc (Nat.le_refl _) _ : Below Wd69.heap.size Wd69 (Wd69.alloc (.cells wz0 40)))
            replace h6 := Held.below h6 hbA
            replace h8 := Held.below h8 hbA
            replace h5 := Held.below h5 hbA
            have h7 := Held.new Wd69 40 wz0
            have lh7 := hS.size
            replace hS := Below.step hS hbA
            clear hbA
            generalize Wd69.alloc (.cells wz0 40) = Wd70 at *
            refine hK.out _ _ hS (fun _ => ?_)
            clear hK K
            (try simp only [Act.put, List.getElem_toArray, List.getElem_cons_succ, List.getElem_cons_zero, List.setIfInBounds_toArray, List.set_cons_zero, List.set_cons_succ])
            refine wpAnyH_ready (rs := [8]) (by kernel_rfl) (by simp) ?_
            refine (AllReadyH.cons rfl (fun K hK => ?_) AllReadyH.nil)
            · rw [if_pos (by kernel_rfl)]
              refine wp_store_row 40 _ _ rfl _ (wcs a U) (by rfl) (by rfl) _ _ h5 (by kernel_rfl) rfl (by simp [Value.oneCell']) ?_
              replace h6 := held_row h6 nh6h5 (wcs a U)
              replace h8 := held_row h8 nh8h5 (wcs a U)
              replace h7 := held_row h7 (Ne.symm nh5h7) (wcs a U)
              replace hS := below_setRow hS lh5 (wcs a U)
              replace h5 := held_rowSelf h5 (wcs a U)
              generalize World.setRow _ _ (wcs a U) = Wd71 at *
              refine hK.out _ _ hS (fun _ => ?_)
              clear hK K
              (try simp only [Act.put, List.getElem_toArray, List.getElem_cons_succ, List.getElem_cons_zero, List.setIfInBounds_toArray, List.set_cons_zero, List.set_cons_succ])
              refine wpAnyH_ready (rs := [9]) (by kernel_rfl) (by simp) ?_
              refine (AllReadyH.cons rfl (fun K hK => ?_) AllReadyH.nil)
              · rw [if_pos (by kernel_rfl)]
                refine wp_store_row 40 _ _ rfl _ (wcs a U) (by rfl) (by rfl) _ _ h6 (by kernel_rfl) rfl (by simp [Value.oneCell']) ?_
                replace h8 := held_row h8 (Ne.symm nh6h8) (wcs a U)
                replace h5 := held_row h5 (Ne.symm nh6h5) (wcs a U)
                replace h7 := held_row h7 (Ne.symm nh6h7) (wcs a U)
                replace hS := below_setRow hS lh6 (wcs a U)
                replace h6 := held_rowSelf h6 (wcs a U)
                generalize World.setRow _ _ (wcs a U) = Wd72 at *
                refine hK.out _ _ hS (fun _ => ?_)
                clear hK K
                (try simp only [Act.put, List.getElem_toArray, List.getElem_cons_succ, List.getElem_cons_zero, List.setIfInBounds_toArray, List.set_cons_zero, List.set_cons_succ])
                refine wpAnyH_ready (rs := [10]) (by kernel_rfl) (by simp) ?_
                refine (AllReadyH.cons rfl (fun K hK => ?_) AllReadyH.nil)
                · rw [if_pos (by kernel_rfl)]
                  refine wp_store_row 40 _ _ rfl _ (wcs a U) (by rfl) (by rfl) _ _ h7 (by kernel_rfl) rfl (by simp [Value.oneCell']) ?_
                  replace h6 := held_row h6 nh6h7 (wcs a U)
                  replace h8 := held_row h8 nh8h7 (wcs a U)
                  replace h5 := held_row h5 nh5h7 (wcs a U)
                  replace hS := below_setRow hS lh7 (wcs a U)
                  replace h7 := held_rowSelf h7 (wcs a U)
                  generalize World.setRow _ _ (wcs a U) = Wd73 at *
                  refine hK.out _ _ hS (fun _ => ?_)
                  clear hK K
                  (try simp only [Act.put, List.getElem_toArray, List.getElem_cons_succ, List.getElem_cons_zero, List.setIfInBounds_toArray, List.set_cons_zero, List.set_cons_succ])
                  refine wpAnyH_ready (rs := [11]) (by kernel_rfl) (by simp) ?_
                  refine (AllReadyH.cons rfl (fun K hK => ?_) AllReadyH.nil)
                  · rw [if_pos (by kernel_rfl)]
                    refine wp_store_row 40 _ _ rfl _ (wcs a U) (by rfl) (by rfl) _ _ h8 (by kernel_rfl) rfl (by simp [Value.oneCell']) ?_
                    replace h6 := held_row h6 nh6h8 (wcs a U)
                    replace h5 := held_row h5 (Ne.symm nh8h5) (wcs a U)
                    replace h7 := held_row h7 (Ne.symm nh8h7) (wcs a U)
                    replace hS := below_setRow hS lh8 (wcs a U)
                    replace h8 := held_rowSelf h8 (wcs a U)
                    generalize World.setRow _ _ (wcs a U) = Wd74 at *
                    refine hK.out _ _ hS (fun _ => ?_)
                    clear hK K
                    (try simp only [Act.put, List.getElem_toArray, List.getElem_cons_succ, List.getElem_cons_zero, List.setIfInBounds_toArray, List.set_cons_zero, List.set_cons_succ])
                    refine wpAnyH_done (by kernel_rfl) ?_ _
                    (repeat (first | go_skip | go_guarded | go_step | go_upon))
                    go_meet
                    case rel => exact ⟨_, _, _, _, rfl, rfl, rfl, rfl, ⟨h5, h6, h7, h8, (Ne.symm nh6h5), nh5h7, (Ne.symm nh8h5), nh6h7, nh6h8, (Ne.symm nh8h7), Nat.le_trans hlo lh5, Nat.le_trans hlo lh6, Nat.le_trans hlo lh7, Nat.le_trans hlo lh8⟩, Below.step HDR.out hS⟩
        · rw [if_pos (by kernel_rfl)]
          refine wp_alloc_R 40 rfl wz0 (by kernel_rfl) ?_
          have nh6h7 : Wq.heap.size ≠ Wd68.heap.size := Nat.ne_of_lt (Held.lt h6)
          have nh8h7 : Wd41.heap.size ≠ Wd68.heap.size := Nat.ne_of_lt (Held.lt h8)
          have hbA := ((Below.refl _ _).alloc (Nat.le_refl _) _ : Below Wd68.heap.size Wd68 (Wd68.alloc (.cells wz0 40)))
          replace h6 := Held.below h6 hbA
          replace h8 := Held.below h8 hbA
          have h7 := Held.new Wd68 40 wz0
          have lh7 := hS.size
          replace hS := Below.step hS hbA
          clear hbA
          generalize Wd68.alloc (.cells wz0 40) = Wd75 at *
          refine hK.out _ _ hS (fun _ => ?_)
          clear hK K
          (try simp only [Act.put, List.getElem_toArray, List.getElem_cons_succ, List.getElem_cons_zero, List.setIfInBounds_toArray, List.set_cons_zero, List.set_cons_succ])
          refine wpAnyH_ready (rs := [4]) (by kernel_rfl) (by simp) ?_
          refine (AllReadyH.cons rfl (fun K hK => ?_) AllReadyH.nil)
          · rw [if_pos (by kernel_rfl)]
            refine wp_alloc_R 40 rfl wz0 (by kernel_rfl) ?_
            have nh6h5 : Wq.heap.size ≠ Wd75.heap.size := Nat.ne_of_lt (Held.lt h6)
            have nh8h5 : Wd41.heap.size ≠ Wd75.heap.size := Nat.ne_of_lt (Held.lt h8)
            have nh7h5 : Wd68.heap.size ≠ Wd75.heap.size := Nat.ne_of_lt (Held.lt h7)
            have hbA := ((Below.refl _ _).alloc (Nat.le_refl _) _ : Below Wd75.heap.size Wd75 (Wd75.alloc (.cells wz0 40)))
            replace h6 := Held.below h6 hbA
            replace h8 := Held.below h8 hbA
            replace h7 := Held.below h7 hbA
            have h5 := Held.new Wd75 40 wz0
            have lh5 := hS.size
            replace hS := Below.step hS hbA
            clear hbA
            generalize Wd75.alloc (.cells wz0 40) = Wd76 at *
            refine hK.out _ _ hS (fun _ => ?_)
            clear hK K
            (try simp only [Act.put, List.getElem_toArray, List.getElem_cons_succ, List.getElem_cons_zero, List.setIfInBounds_toArray, List.set_cons_zero, List.set_cons_succ])
            refine wpAnyH_ready (rs := [8]) (by kernel_rfl) (by simp) ?_
            refine (AllReadyH.cons rfl (fun K hK => ?_) AllReadyH.nil)
            · rw [if_pos (by kernel_rfl)]
              refine wp_store_row 40 _ _ rfl _ (wcs a U) (by rfl) (by rfl) _ _ h5 (by kernel_rfl) rfl (by simp [Value.oneCell']) ?_
              replace h6 := held_row h6 nh6h5 (wcs a U)
              replace h8 := held_row h8 nh8h5 (wcs a U)
              replace h7 := held_row h7 nh7h5 (wcs a U)
              replace hS := below_setRow hS lh5 (wcs a U)
              replace h5 := held_rowSelf h5 (wcs a U)
              generalize World.setRow _ _ (wcs a U) = Wd77 at *
              refine hK.out _ _ hS (fun _ => ?_)
              clear hK K
              (try simp only [Act.put, List.getElem_toArray, List.getElem_cons_succ, List.getElem_cons_zero, List.setIfInBounds_toArray, List.set_cons_zero, List.set_cons_succ])
              refine wpAnyH_ready (rs := [9]) (by kernel_rfl) (by simp) ?_
              refine (AllReadyH.cons rfl (fun K hK => ?_) AllReadyH.nil)
              · rw [if_pos (by kernel_rfl)]
                refine wp_store_row 40 _ _ rfl _ (wcs a U) (by rfl) (by rfl) _ _ h6 (by kernel_rfl) rfl (by simp [Value.oneCell']) ?_
                replace h8 := held_row h8 (Ne.symm nh6h8) (wcs a U)
                replace h7 := held_row h7 (Ne.symm nh6h7) (wcs a U)
                replace h5 := held_row h5 (Ne.symm nh6h5) (wcs a U)
                replace hS := below_setRow hS lh6 (wcs a U)
                replace h6 := held_rowSelf h6 (wcs a U)
                generalize World.setRow _ _ (wcs a U) = Wd78 at *
                refine hK.out _ _ hS (fun _ => ?_)
                clear hK K
                (try simp only [Act.put, List.getElem_toArray, List.getElem_cons_succ, List.getElem_cons_zero, List.setIfInBounds_toArray, List.set_cons_zero, List.set_cons_succ])
                refine wpAnyH_ready (rs := [10]) (by kernel_rfl) (by simp) ?_
                refine (AllReadyH.cons rfl (fun K hK => ?_) AllReadyH.nil)
                · rw [if_pos (by kernel_rfl)]
                  refine wp_store_row 40 _ _ rfl _ (wcs a U) (by rfl) (by rfl) _ _ h7 (by kernel_rfl) rfl (by simp [Value.oneCell']) ?_
                  replace h6 := held_row h6 nh6h7 (wcs a U)
                  replace h8 := held_row h8 nh8h7 (wcs a U)
                  replace h5 := held_row h5 (Ne.symm nh7h5) (wcs a U)
                  replace hS := below_setRow hS lh7 (wcs a U)
                  replace h7 := held_rowSelf h7 (wcs a U)
                  generalize World.setRow _ _ (wcs a U) = Wd79 at *
                  refine hK.out _ _ hS (fun _ => ?_)
                  clear hK K
                  (try simp only [Act.put, List.getElem_toArray, List.getElem_cons_succ, List.getElem_cons_zero, List.setIfInBounds_toArray, List.set_cons_zero, List.set_cons_succ])
                  refine wpAnyH_ready (rs := [11]) (by kernel_rfl) (by simp) ?_
                  refine (AllReadyH.cons rfl (fun K hK => ?_) AllReadyH.nil)
                  · rw [if_pos (by kernel_rfl)]
                    refine wp_store_row 40 _ _ rfl _ (wcs a U) (by rfl) (by rfl) _ _ h8 (by kernel_rfl) rfl (by simp [Value.oneCell']) ?_
                    replace h6 := held_row h6 nh6h8 (wcs a U)
                    replace h7 := held_row h7 (Ne.symm nh8h7) (wcs a U)
                    replace h5 := held_row h5 (Ne.symm nh8h5) (wcs a U)
                    replace hS := below_setRow hS lh8 (wcs a U)
                    replace h8 := held_rowSelf h8 (wcs a U)
                    generalize World.setRow _ _ (wcs a U) = Wd80 at *
                    refine hK.out _ _ hS (fun _ => ?_)
                    clear hK K
                    (try simp only [Act.put, List.getElem_toArray, List.getElem_cons_succ, List.getElem_cons_zero, List.setIfInBounds_toArray, List.set_cons_zero, List.set_cons_succ])
                    refine wpAnyH_done (by kernel_rfl) ?_ _
                    (repeat (first | go_skip | go_guarded | go_step | go_upon))
                    go_meet
                    case rel => exact ⟨_, _, _, _, rfl, rfl, rfl, rfl, ⟨h5, h6, h7, h8, (Ne.symm nh6h5), (Ne.symm nh7h5), (Ne.symm nh8h5), nh6h7, nh6h8, (Ne.symm nh8h7), Nat.le_trans hlo lh5, Nat.le_trans hlo lh6, Nat.le_trans hlo lh7, Nat.le_trans hlo lh8⟩, Below.step HDR.out hS⟩
    · rw [if_pos (by kernel_rfl)]
      refine wp_alloc_R 40 rfl wz0 (by kernel_rfl) ?_
      have hbA := ((Below.refl _ _).alloc (Nat.le_refl _) _ : Below Wq.heap.size Wq (Wq.alloc (.cells wz0 40)))
      have h7 := Held.new Wq 40 wz0
      have lh7 := hS.size
      replace hS := Below.step hS hbA
      clear hbA
      generalize Wq.alloc (.cells wz0 40) = Wd81 at *
      refine hK.out _ _ hS (fun _ => ?_)
      clear hK K
      (try simp only [Act.put, List.getElem_toArray, List.getElem_cons_succ, List.getElem_cons_zero, List.setIfInBounds_toArray, List.set_cons_zero, List.set_cons_succ])
      refine wpAnyH_ready (rs := [4, 5, 7]) (by kernel_rfl) (by simp) ?_
      refine (AllReadyH.cons rfl (fun K hK => ?_) (AllReadyH.cons rfl (fun K hK => ?_) (AllReadyH.cons rfl (fun K hK => ?_) AllReadyH.nil)))
      · rw [if_pos (by kernel_rfl)]
        refine wp_alloc_R 40 rfl wz0 (by kernel_rfl) ?_
        have nh7h5 : Wq.heap.size ≠ Wd81.heap.size := Nat.ne_of_lt (Held.lt h7)
        have hbA := ((Below.refl _ _).alloc (Nat.le_refl _) _ : Below Wd81.heap.size Wd81 (Wd81.alloc (.cells wz0 40)))
        replace h7 := Held.below h7 hbA
        have h5 := Held.new Wd81 40 wz0
        have lh5 := hS.size
        replace hS := Below.step hS hbA
        clear hbA
        generalize Wd81.alloc (.cells wz0 40) = Wd82 at *
        refine hK.out _ _ hS (fun _ => ?_)
        clear hK K
        (try simp only [Act.put, List.getElem_toArray, List.getElem_cons_succ, List.getElem_cons_zero, List.setIfInBounds_toArray, List.set_cons_zero, List.set_cons_succ])
        refine wpAnyH_ready (rs := [5, 7]) (by kernel_rfl) (by simp) ?_
        refine (AllReadyH.cons rfl (fun K hK => ?_) (AllReadyH.cons rfl (fun K hK => ?_) AllReadyH.nil))
        · rw [if_pos (by kernel_rfl)]
          refine wp_alloc_R 40 rfl wz0 (by kernel_rfl) ?_
          have nh7h6 : Wq.heap.size ≠ Wd82.heap.size := Nat.ne_of_lt (Held.lt h7)
          have nh5h6 : Wd81.heap.size ≠ Wd82.heap.size := Nat.ne_of_lt (Held.lt h5)
          have hbA := ((Below.refl _ _).alloc (Nat.le_refl _) _ : Below Wd82.heap.size Wd82 (Wd82.alloc (.cells wz0 40)))
          replace h7 := Held.below h7 hbA
          replace h5 := Held.below h5 hbA
          have h6 := Held.new Wd82 40 wz0
          have lh6 := hS.size
          replace hS := Below.step hS hbA
          clear hbA
          generalize Wd82.alloc (.cells wz0 40) = Wd83 at *
          refine hK.out _ _ hS (fun _ => ?_)
          clear hK K
          (try simp only [Act.put, List.getElem_toArray, List.getElem_cons_succ, List.getElem_cons_zero, List.setIfInBounds_toArray, List.set_cons_zero, List.set_cons_succ])
          refine wpAnyH_ready (rs := [7]) (by kernel_rfl) (by simp) ?_
          refine (AllReadyH.cons rfl (fun K hK => ?_) AllReadyH.nil)
          · rw [if_pos (by kernel_rfl)]
            refine wp_alloc_R 40 rfl wz0 (by kernel_rfl) ?_
            have nh7h8 : Wq.heap.size ≠ Wd83.heap.size := Nat.ne_of_lt (Held.lt h7)
            have nh5h8 : Wd81.heap.size ≠ Wd83.heap.size := Nat.ne_of_lt (Held.lt h5)
            have nh6h8 : Wd82.heap.size ≠ Wd83.heap.size := Nat.ne_of_lt (Held.lt h6)
            have hbA := ((Below.refl _ _).alloc (Nat.le_refl _) _ : Below Wd83.heap.size Wd83 (Wd83.alloc (.cells wz0 40)))
            replace h7 := Held.below h7 hbA
            replace h5 := Held.below h5 hbA
            replace h6 := Held.below h6 hbA
            have h8 := Held.new Wd83 40 wz0
            have lh8 := hS.size
            replace hS := Below.step hS hbA
            clear hbA
            generalize Wd83.alloc (.cells wz0 40) = Wd84 at *
            refine hK.out _ _ hS (fun _ => ?_)
            clear hK K
            (try simp only [Act.put, List.getElem_toArray, List.getElem_cons_succ, List.getElem_cons_zero, List.setIfInBounds_toArray, List.set_cons_zero, List.set_cons_succ])
            refine wpAnyH_ready (rs := [8]) (by kernel_rfl) (by simp) ?_
            refine (AllReadyH.cons rfl (fun K hK => ?_) AllReadyH.nil)
            · rw [if_pos (by kernel_rfl)]
              refine wp_store_row 40 _ _ rfl _ (wcs a U) (by rfl) (by rfl) _ _ h5 (by kernel_rfl) rfl (by simp [Value.oneCell']) ?_
              replace h7 := held_row h7 nh7h5 (wcs a U)
              replace h6 := held_row h6 (Ne.symm nh5h6) (wcs a U)
              replace h8 := held_row h8 (Ne.symm nh5h8) (wcs a U)
              replace hS := below_setRow hS lh5 (wcs a U)
              replace h5 := held_rowSelf h5 (wcs a U)
              generalize World.setRow _ _ (wcs a U) = Wd85 at *
              refine hK.out _ _ hS (fun _ => ?_)
              clear hK K
              (try simp only [Act.put, List.getElem_toArray, List.getElem_cons_succ, List.getElem_cons_zero, List.setIfInBounds_toArray, List.set_cons_zero, List.set_cons_succ])
              refine wpAnyH_ready (rs := [9]) (by kernel_rfl) (by simp) ?_
              refine (AllReadyH.cons rfl (fun K hK => ?_) AllReadyH.nil)
              · rw [if_pos (by kernel_rfl)]
                refine wp_store_row 40 _ _ rfl _ (wcs a U) (by rfl) (by rfl) _ _ h6 (by kernel_rfl) rfl (by simp [Value.oneCell']) ?_
                replace h7 := held_row h7 nh7h6 (wcs a U)
                replace h5 := held_row h5 nh5h6 (wcs a U)
                replace h8 := held_row h8 (Ne.symm nh6h8) (wcs a U)
                replace hS := below_setRow hS lh6 (wcs a U)
                replace h6 := held_rowSelf h6 (wcs a U)
                generalize World.setRow _ _ (wcs a U) = Wd86 at *
                refine hK.out _ _ hS (fun _ => ?_)
                clear hK K
                (try simp only [Act.put, List.getElem_toArray, List.getElem_cons_succ, List.getElem_cons_zero, List.setIfInBounds_toArray, List.set_cons_zero, List.set_cons_succ])
                refine wpAnyH_ready (rs := [10]) (by kernel_rfl) (by simp) ?_
                refine (AllReadyH.cons rfl (fun K hK => ?_) AllReadyH.nil)
                · rw [if_pos (by kernel_rfl)]
                  refine wp_store_row 40 _ _ rfl _ (wcs a U) (by rfl) (by rfl) _ _ h7 (by kernel_rfl) rfl (by simp [Value.oneCell']) ?_
                  replace h5 := held_row h5 (Ne.symm nh7h5) (wcs a U)
                  replace h6 := held_row h6 (Ne.symm nh7h6) (wcs a U)
                  replace h8 := held_row h8 (Ne.symm nh7h8) (wcs a U)
                  replace hS := below_setRow hS lh7 (wcs a U)
                  replace h7 := held_rowSelf h7 (wcs a U)
                  generalize World.setRow _ _ (wcs a U) = Wd87 at *
                  refine hK.out _ _ hS (fun _ => ?_)
                  clear hK K
                  (try simp only [Act.put, List.getElem_toArray, List.getElem_cons_succ, List.getElem_cons_zero, List.setIfInBounds_toArray, List.set_cons_zero, List.set_cons_succ])
                  refine wpAnyH_ready (rs := [11]) (by kernel_rfl) (by simp) ?_
                  refine (AllReadyH.cons rfl (fun K hK => ?_) AllReadyH.nil)
                  · rw [if_pos (by kernel_rfl)]
                    refine wp_store_row 40 _ _ rfl _ (wcs a U) (by rfl) (by rfl) _ _ h8 (by kernel_rfl) rfl (by simp [Value.oneCell']) ?_
                    replace h7 := held_row h7 nh7h8 (wcs a U)
                    replace h5 := held_row h5 nh5h8 (wcs a U)
                    replace h6 := held_row h6 nh6h8 (wcs a U)
                    replace hS := below_setRow hS lh8 (wcs a U)
                    replace h8 := held_rowSelf h8 (wcs a U)
                    generalize World.setRow _ _ (wcs a U) = Wd88 at *
                    refine hK.out _ _ hS (fun _ => ?_)
                    clear hK K
                    (try simp only [Act.put, List.getElem_toArray, List.getElem_cons_succ, List.getElem_cons_zero, List.setIfInBounds_toArray, List.set_cons_zero, List.set_cons_succ])
                    refine wpAnyH_done (by kernel_rfl) ?_ _
                    (repeat (first | go_skip | go_guarded | go_step | go_upon))
                    go_meet
                    case rel => exact ⟨_, _, _, _, rfl, rfl, rfl, rfl, ⟨h5, h6, h7, h8, nh5h6, (Ne.symm nh7h5), nh5h8, (Ne.symm nh7h6), nh6h8, nh7h8, Nat.le_trans hlo lh5, Nat.le_trans hlo lh6, Nat.le_trans hlo lh7, Nat.le_trans hlo lh8⟩, Below.step HDR.out hS⟩
        · rw [if_pos (by kernel_rfl)]
          refine wp_alloc_R 40 rfl wz0 (by kernel_rfl) ?_
          have nh7h8 : Wq.heap.size ≠ Wd82.heap.size := Nat.ne_of_lt (Held.lt h7)
          have nh5h8 : Wd81.heap.size ≠ Wd82.heap.size := Nat.ne_of_lt (Held.lt h5)
          have hbA := ((Below.refl _ _).alloc (Nat.le_refl _) _ : Below Wd82.heap.size Wd82 (Wd82.alloc (.cells wz0 40)))
          replace h7 := Held.below h7 hbA
          replace h5 := Held.below h5 hbA
          have h8 := Held.new Wd82 40 wz0
          have lh8 := hS.size
          replace hS := Below.step hS hbA
          clear hbA
          generalize Wd82.alloc (.cells wz0 40) = Wd89 at *
          refine hK.out _ _ hS (fun _ => ?_)
          clear hK K
          (try simp only [Act.put, List.getElem_toArray, List.getElem_cons_succ, List.getElem_cons_zero, List.setIfInBounds_toArray, List.set_cons_zero, List.set_cons_succ])
          refine wpAnyH_ready (rs := [5]) (by kernel_rfl) (by simp) ?_
          refine (AllReadyH.cons rfl (fun K hK => ?_) AllReadyH.nil)
          · rw [if_pos (by kernel_rfl)]
            refine wp_alloc_R 40 rfl wz0 (by kernel_rfl) ?_
            have nh7h6 : Wq.heap.size ≠ Wd89.heap.size := Nat.ne_of_lt (Held.lt h7)
            have nh5h6 : Wd81.heap.size ≠ Wd89.heap.size := Nat.ne_of_lt (Held.lt h5)
            have nh8h6 : Wd82.heap.size ≠ Wd89.heap.size := Nat.ne_of_lt (Held.lt h8)
            have hbA := ((Below.refl _ _).alloc (Nat.le_refl _) _ : Below Wd89.heap.size Wd89 (Wd89.alloc (.cells wz0 40)))
            replace h7 := Held.below h7 hbA
            replace h5 := Held.below h5 hbA
            replace h8 := Held.below h8 hbA
            have h6 := Held.new Wd89 40 wz0
            have lh6 := hS.size
            replace hS := Below.step hS hbA
            clear hbA
            generalize Wd89.alloc (.cells wz0 40) = Wd90 at *
            refine hK.out _ _ hS (fun _ => ?_)
            clear hK K
            (try simp only [Act.put, List.getElem_toArray, List.getElem_cons_succ, List.getElem_cons_zero, List.setIfInBounds_toArray, List.set_cons_zero, List.set_cons_succ])
            refine wpAnyH_ready (rs := [8]) (by kernel_rfl) (by simp) ?_
            refine (AllReadyH.cons rfl (fun K hK => ?_) AllReadyH.nil)
            · rw [if_pos (by kernel_rfl)]
              refine wp_store_row 40 _ _ rfl _ (wcs a U) (by rfl) (by rfl) _ _ h5 (by kernel_rfl) rfl (by simp [Value.oneCell']) ?_
              replace h7 := held_row h7 nh7h5 (wcs a U)
              replace h8 := held_row h8 (Ne.symm nh5h8) (wcs a U)
              replace h6 := held_row h6 (Ne.symm nh5h6) (wcs a U)
              replace hS := below_setRow hS lh5 (wcs a U)
              replace h5 := held_rowSelf h5 (wcs a U)
              generalize World.setRow _ _ (wcs a U) = Wd91 at *
              refine hK.out _ _ hS (fun _ => ?_)
              clear hK K
              (try simp only [Act.put, List.getElem_toArray, List.getElem_cons_succ, List.getElem_cons_zero, List.setIfInBounds_toArray, List.set_cons_zero, List.set_cons_succ])
              refine wpAnyH_ready (rs := [9]) (by kernel_rfl) (by simp) ?_
              refine (AllReadyH.cons rfl (fun K hK => ?_) AllReadyH.nil)
              · rw [if_pos (by kernel_rfl)]
                refine wp_store_row 40 _ _ rfl _ (wcs a U) (by rfl) (by rfl) _ _ h6 (by kernel_rfl) rfl (by simp [Value.oneCell']) ?_
                replace h7 := held_row h7 nh7h6 (wcs a U)
                replace h5 := held_row h5 nh5h6 (wcs a U)
                replace h8 := held_row h8 nh8h6 (wcs a U)
                replace hS := below_setRow hS lh6 (wcs a U)
                replace h6 := held_rowSelf h6 (wcs a U)
                generalize World.setRow _ _ (wcs a U) = Wd92 at *
                refine hK.out _ _ hS (fun _ => ?_)
                clear hK K
                (try simp only [Act.put, List.getElem_toArray, List.getElem_cons_succ, List.getElem_cons_zero, List.setIfInBounds_toArray, List.set_cons_zero, List.set_cons_succ])
                refine wpAnyH_ready (rs := [10]) (by kernel_rfl) (by simp) ?_
                refine (AllReadyH.cons rfl (fun K hK => ?_) AllReadyH.nil)
                · rw [if_pos (by kernel_rfl)]
                  refine wp_store_row 40 _ _ rfl _ (wcs a U) (by rfl) (by rfl) _ _ h7 (by kernel_rfl) rfl (by simp [Value.oneCell']) ?_
                  replace h5 := held_row h5 (Ne.symm nh7h5) (wcs a U)
                  replace h8 := held_row h8 (Ne.symm nh7h8) (wcs a U)
                  replace h6 := held_row h6 (Ne.symm nh7h6) (wcs a U)
                  replace hS := below_setRow hS lh7 (wcs a U)
                  replace h7 := held_rowSelf h7 (wcs a U)
                  generalize World.setRow _ _ (wcs a U) = Wd93 at *
                  refine hK.out _ _ hS (fun _ => ?_)
                  clear hK K
                  (try simp only [Act.put, List.getElem_toArray, List.getElem_cons_succ, List.getElem_cons_zero, List.setIfInBounds_toArray, List.set_cons_zero, List.set_cons_succ])
                  refine wpAnyH_ready (rs := [11]) (by kernel_rfl) (by simp) ?_
                  refine (AllReadyH.cons rfl (fun K hK => ?_) AllReadyH.nil)
                  · rw [if_pos (by kernel_rfl)]
                    refine wp_store_row 40 _ _ rfl _ (wcs a U) (by rfl) (by rfl) _ _ h8 (by kernel_rfl) rfl (by simp [Value.oneCell']) ?_
                    replace h7 := held_row h7 nh7h8 (wcs a U)
                    replace h5 := held_row h5 nh5h8 (wcs a U)
                    replace h6 := held_row h6 (Ne.symm nh8h6) (wcs a U)
                    replace hS := below_setRow hS lh8 (wcs a U)
                    replace h8 := held_rowSelf h8 (wcs a U)
                    generalize World.setRow _ _ (wcs a U) = Wd94 at *
                    refine hK.out _ _ hS (fun _ => ?_)
                    clear hK K
                    (try simp only [Act.put, List.getElem_toArray, List.getElem_cons_succ, List.getElem_cons_zero, List.setIfInBounds_toArray, List.set_cons_zero, List.set_cons_succ])
                    refine wpAnyH_done (by kernel_rfl) ?_ _
                    (repeat (first | go_skip | go_guarded | go_step | go_upon))
                    go_meet
                    case rel => exact ⟨_, _, _, _, rfl, rfl, rfl, rfl, ⟨h5, h6, h7, h8, nh5h6, (Ne.symm nh7h5), nh5h8, (Ne.symm nh7h6), (Ne.symm nh8h6), nh7h8, Nat.le_trans hlo lh5, Nat.le_trans hlo lh6, Nat.le_trans hlo lh7, Nat.le_trans hlo lh8⟩, Below.step HDR.out hS⟩
      · rw [if_pos (by kernel_rfl)]
        refine wp_alloc_R 40 rfl wz0 (by kernel_rfl) ?_
        have nh7h6 : Wq.heap.size ≠ Wd81.heap.size := Nat.ne_of_lt (Held.lt h7)
        have hbA := ((Below.refl _ _).alloc (Nat.le_refl _) _ : Below Wd81.heap.size Wd81 (Wd81.alloc (.cells wz0 40)))
        replace h7 := Held.below h7 hbA
        have h6 := Held.new Wd81 40 wz0
        have lh6 := hS.size
        replace hS := Below.step hS hbA
        clear hbA
        generalize Wd81.alloc (.cells wz0 40) = Wd95 at *
        refine hK.out _ _ hS (fun _ => ?_)
        clear hK K
        (try simp only [Act.put, List.getElem_toArray, List.getElem_cons_succ, List.getElem_cons_zero, List.setIfInBounds_toArray, List.set_cons_zero, List.set_cons_succ])
        refine wpAnyH_ready (rs := [4, 7]) (by kernel_rfl) (by simp) ?_
        refine (AllReadyH.cons rfl (fun K hK => ?_) (AllReadyH.cons rfl (fun K hK => ?_) AllReadyH.nil))
        · rw [if_pos (by kernel_rfl)]
          refine wp_alloc_R 40 rfl wz0 (by kernel_rfl) ?_
          have nh7h5 : Wq.heap.size ≠ Wd95.heap.size := Nat.ne_of_lt (Held.lt h7)
          have nh6h5 : Wd81.heap.size ≠ Wd95.heap.size := Nat.ne_of_lt (Held.lt h6)
          have hbA := ((Below.refl _ _).alloc (Nat.le_refl _) _ : Below Wd95.heap.size Wd95 (Wd95.alloc (.cells wz0 40)))
          replace h7 := Held.below h7 hbA
          replace h6 := Held.below h6 hbA
          have h5 := Held.new Wd95 40 wz0
          have lh5 := hS.size
          replace hS := Below.step hS hbA
          clear hbA
          generalize Wd95.alloc (.cells wz0 40) = Wd96 at *
          refine hK.out _ _ hS (fun _ => ?_)
          clear hK K
          (try simp only [Act.put, List.getElem_toArray, List.getElem_cons_succ, List.getElem_cons_zero, List.setIfInBounds_toArray, List.set_cons_zero, List.set_cons_succ])
          refine wpAnyH_ready (rs := [7]) (by kernel_rfl) (by simp) ?_
          refine (AllReadyH.cons rfl (fun K hK => ?_) AllReadyH.nil)
          · rw [if_pos (by kernel_rfl)]
            refine wp_alloc_R 40 rfl wz0 (by kernel_rfl) ?_
            have nh7h8 : Wq.heap.size ≠ Wd96.heap.size := Nat.ne_of_lt (Held.lt h7)
            have nh6h8 : Wd81.heap.size ≠ Wd96.heap.size := Nat.ne_of_lt (Held.lt h6)
            have nh5h8 : Wd95.heap.size ≠ Wd96.heap.size := Nat.ne_of_lt (Held.lt h5)
            have hbA := ((Below.refl _ _).alloc (Nat.le_refl _) _ : Below Wd96.heap.size Wd96 (Wd96.alloc (.cells wz0 40)))
            replace h7 := Held.below h7 hbA
            replace h6 := Held.below h6 hbA
            replace h5 := Held.below h5 hbA
            have h8 := Held.new Wd96 40 wz0
            have lh8 := hS.size
            replace hS := Below.step hS hbA
            clear hbA
            generalize Wd96.alloc (.cells wz0 40) = Wd97 at *
            refine hK.out _ _ hS (fun _ => ?_)
            clear hK K
            (try simp only [Act.put, List.getElem_toArray, List.getElem_cons_succ, List.getElem_cons_zero, List.setIfInBounds_toArray, List.set_cons_zero, List.set_cons_succ])
            refine wpAnyH_ready (rs := [8]) (by kernel_rfl) (by simp) ?_
            refine (AllReadyH.cons rfl (fun K hK => ?_) AllReadyH.nil)
            · rw [if_pos (by kernel_rfl)]
              refine wp_store_row 40 _ _ rfl _ (wcs a U) (by rfl) (by rfl) _ _ h5 (by kernel_rfl) rfl (by simp [Value.oneCell']) ?_
              replace h7 := held_row h7 nh7h5 (wcs a U)
              replace h6 := held_row h6 nh6h5 (wcs a U)
              replace h8 := held_row h8 (Ne.symm nh5h8) (wcs a U)
              replace hS := below_setRow hS lh5 (wcs a U)
              replace h5 := held_rowSelf h5 (wcs a U)
              generalize World.setRow _ _ (wcs a U) = Wd98 at *
              refine hK.out _ _ hS (fun _ => ?_)
              clear hK K
              (try simp only [Act.put, List.getElem_toArray, List.getElem_cons_succ, List.getElem_cons_zero, List.setIfInBounds_toArray, List.set_cons_zero, List.set_cons_succ])
              refine wpAnyH_ready (rs := [9]) (by kernel_rfl) (by simp) ?_
              refine (AllReadyH.cons rfl (fun K hK => ?_) AllReadyH.nil)
              · rw [if_pos (by kernel_rfl)]
                refine wp_store_row 40 _ _ rfl _ (wcs a U) (by rfl) (by rfl) _ _ h6 (by kernel_rfl) rfl (by simp [Value.oneCell']) ?_
                replace h7 := held_row h7 nh7h6 (wcs a U)
                replace h5 := held_row h5 (Ne.symm nh6h5) (wcs a U)
                replace h8 := held_row h8 (Ne.symm nh6h8) (wcs a U)
                replace hS := below_setRow hS lh6 (wcs a U)
                replace h6 := held_rowSelf h6 (wcs a U)
                generalize World.setRow _ _ (wcs a U) = Wd99 at *
                refine hK.out _ _ hS (fun _ => ?_)
                clear hK K
                (try simp only [Act.put, List.getElem_toArray, List.getElem_cons_succ, List.getElem_cons_zero, List.setIfInBounds_toArray, List.set_cons_zero, List.set_cons_succ])
                refine wpAnyH_ready (rs := [10]) (by kernel_rfl) (by simp) ?_
                refine (AllReadyH.cons rfl (fun K hK => ?_) AllReadyH.nil)
                · rw [if_pos (by kernel_rfl)]
                  refine wp_store_row 40 _ _ rfl _ (wcs a U) (by rfl) (by rfl) _ _ h7 (by kernel_rfl) rfl (by simp [Value.oneCell']) ?_
                  replace h6 := held_row h6 (Ne.symm nh7h6) (wcs a U)
                  replace h5 := held_row h5 (Ne.symm nh7h5) (wcs a U)
                  replace h8 := held_row h8 (Ne.symm nh7h8) (wcs a U)
                  replace hS := below_setRow hS lh7 (wcs a U)
                  replace h7 := held_rowSelf h7 (wcs a U)
                  generalize World.setRow _ _ (wcs a U) = Wd100 at *
                  refine hK.out _ _ hS (fun _ => ?_)
                  clear hK K
                  (try simp only [Act.put, List.getElem_toArray, List.getElem_cons_succ, List.getElem_cons_zero, List.setIfInBounds_toArray, List.set_cons_zero, List.set_cons_succ])
                  refine wpAnyH_ready (rs := [11]) (by kernel_rfl) (by simp) ?_
                  refine (AllReadyH.cons rfl (fun K hK => ?_) AllReadyH.nil)
                  · rw [if_pos (by kernel_rfl)]
                    refine wp_store_row 40 _ _ rfl _ (wcs a U) (by rfl) (by rfl) _ _ h8 (by kernel_rfl) rfl (by simp [Value.oneCell']) ?_
                    replace h7 := held_row h7 nh7h8 (wcs a U)
                    replace h6 := held_row h6 nh6h8 (wcs a U)
                    replace h5 := held_row h5 nh5h8 (wcs a U)
                    replace hS := below_setRow hS lh8 (wcs a U)
                    replace h8 := held_rowSelf h8 (wcs a U)
                    generalize World.setRow _ _ (wcs a U) = Wd101 at *
                    refine hK.out _ _ hS (fun _ => ?_)
                    clear hK K
                    (try simp only [Act.put, List.getElem_toArray, List.getElem_cons_succ, List.getElem_cons_zero, List.setIfInBounds_toArray, List.set_cons_zero, List.set_cons_succ])
                    refine wpAnyH_done (by kernel_rfl) ?_ _
                    (repeat (first | go_skip | go_guarded | go_step | go_upon))
                    go_meet
                    case rel => exact ⟨_, _, _, _, rfl, rfl, rfl, rfl, ⟨h5, h6, h7, h8, (Ne.symm nh6h5), (Ne.symm nh7h5), nh5h8, (Ne.symm nh7h6), nh6h8, nh7h8, Nat.le_trans hlo lh5, Nat.le_trans hlo lh6, Nat.le_trans hlo lh7, Nat.le_trans hlo lh8⟩, Below.step HDR.out hS⟩
        · rw [if_pos (by kernel_rfl)]
          refine wp_alloc_R 40 rfl wz0 (by kernel_rfl) ?_
          have nh7h8 : Wq.heap.size ≠ Wd95.heap.size := Nat.ne_of_lt (Held.lt h7)
          have nh6h8 : Wd81.heap.size ≠ Wd95.heap.size := Nat.ne_of_lt (Held.lt h6)
          have hbA := ((Below.refl _ _).alloc (Nat.le_refl _) _ : Below Wd95.heap.size Wd95 (Wd95.alloc (.cells wz0 40)))
          replace h7 := Held.below h7 hbA
          replace h6 := Held.below h6 hbA
          have h8 := Held.new Wd95 40 wz0
          have lh8 := hS.size
          replace hS := Below.step hS hbA
          clear hbA
          generalize Wd95.alloc (.cells wz0 40) = Wd102 at *
          refine hK.out _ _ hS (fun _ => ?_)
          clear hK K
          (try simp only [Act.put, List.getElem_toArray, List.getElem_cons_succ, List.getElem_cons_zero, List.setIfInBounds_toArray, List.set_cons_zero, List.set_cons_succ])
          refine wpAnyH_ready (rs := [4]) (by kernel_rfl) (by simp) ?_
          refine (AllReadyH.cons rfl (fun K hK => ?_) AllReadyH.nil)
          · rw [if_pos (by kernel_rfl)]
            refine wp_alloc_R 40 rfl wz0 (by kernel_rfl) ?_
            have nh7h5 : Wq.heap.size ≠ Wd102.heap.size := Nat.ne_of_lt (Held.lt h7)
            have nh6h5 : Wd81.heap.size ≠ Wd102.heap.size := Nat.ne_of_lt (Held.lt h6)
            have nh8h5 : Wd95.heap.size ≠ Wd102.heap.size := Nat.ne_of_lt (Held.lt h8)
            have hbA := ((Below.refl _ _).alloc (Nat.le_refl _) _ : Below Wd102.heap.size Wd102 (Wd102.alloc (.cells wz0 40)))
            replace h7 := Held.below h7 hbA
            replace h6 := Held.below h6 hbA
            replace h8 := Held.below h8 hbA
            have h5 := Held.new Wd102 40 wz0
            have lh5 := hS.size
            replace hS := Below.step hS hbA
            clear hbA
            generalize Wd102.alloc (.cells wz0 40) = Wd103 at *
            refine hK.out _ _ hS (fun _ => ?_)
            clear hK K
            (try simp only [Act.put, List.getElem_toArray, List.getElem_cons_succ, List.getElem_cons_zero, List.setIfInBounds_toArray, List.set_cons_zero, List.set_cons_succ])
            refine wpAnyH_ready (rs := [8]) (by kernel_rfl) (by simp) ?_
            refine (AllReadyH.cons rfl (fun K hK => ?_) AllReadyH.nil)
            · rw [if_pos (by kernel_rfl)]
              refine wp_store_row 40 _ _ rfl _ (wcs a U) (by rfl) (by rfl) _ _ h5 (by kernel_rfl) rfl (by simp [Value.oneCell']) ?_
              replace h7 := held_row h7 nh7h5 (wcs a U)
              replace h6 := held_row h6 nh6h5 (wcs a U)
              replace h8 := held_row h8 nh8h5 (wcs a U)
              replace hS := below_setRow hS lh5 (wcs a U)
              replace h5 := held_rowSelf h5 (wcs a U)
              generalize World.setRow _ _ (wcs a U) = Wd104 at *
              refine hK.out _ _ hS (fun _ => ?_)
              clear hK K
              (try simp only [Act.put, List.getElem_toArray, List.getElem_cons_succ, List.getElem_cons_zero, List.setIfInBounds_toArray, List.set_cons_zero, List.set_cons_succ])
              refine wpAnyH_ready (rs := [9]) (by kernel_rfl) (by simp) ?_
              refine (AllReadyH.cons rfl (fun K hK => ?_) AllReadyH.nil)
              · rw [if_pos (by kernel_rfl)]
                refine wp_store_row 40 _ _ rfl _ (wcs a U) (by rfl) (by rfl) _ _ h6 (by kernel_rfl) rfl (by simp [Value.oneCell']) ?_
                replace h7 := held_row h7 nh7h6 (wcs a U)
                replace h8 := held_row h8 (Ne.symm nh6h8) (wcs a U)
                replace h5 := held_row h5 (Ne.symm nh6h5) (wcs a U)
                replace hS := below_setRow hS lh6 (wcs a U)
                replace h6 := held_rowSelf h6 (wcs a U)
                generalize World.setRow _ _ (wcs a U) = Wd105 at *
                refine hK.out _ _ hS (fun _ => ?_)
                clear hK K
                (try simp only [Act.put, List.getElem_toArray, List.getElem_cons_succ, List.getElem_cons_zero, List.setIfInBounds_toArray, List.set_cons_zero, List.set_cons_succ])
                refine wpAnyH_ready (rs := [10]) (by kernel_rfl) (by simp) ?_
                refine (AllReadyH.cons rfl (fun K hK => ?_) AllReadyH.nil)
                · rw [if_pos (by kernel_rfl)]
                  refine wp_store_row 40 _ _ rfl _ (wcs a U) (by rfl) (by rfl) _ _ h7 (by kernel_rfl) rfl (by simp [Value.oneCell']) ?_
                  replace h6 := held_row h6 (Ne.symm nh7h6) (wcs a U)
                  replace h8 := held_row h8 (Ne.symm nh7h8) (wcs a U)
                  replace h5 := held_row h5 (Ne.symm nh7h5) (wcs a U)
                  replace hS := below_setRow hS lh7 (wcs a U)
                  replace h7 := held_rowSelf h7 (wcs a U)
                  generalize World.setRow _ _ (wcs a U) = Wd106 at *
                  refine hK.out _ _ hS (fun _ => ?_)
                  clear hK K
                  (try simp only [Act.put, List.getElem_toArray, List.getElem_cons_succ, List.getElem_cons_zero, List.setIfInBounds_toArray, List.set_cons_zero, List.set_cons_succ])
                  refine wpAnyH_ready (rs := [11]) (by kernel_rfl) (by simp) ?_
                  refine (AllReadyH.cons rfl (fun K hK => ?_) AllReadyH.nil)
                  · rw [if_pos (by kernel_rfl)]
                    refine wp_store_row 40 _ _ rfl _ (wcs a U) (by rfl) (by rfl) _ _ h8 (by kernel_rfl) rfl (by simp [Value.oneCell']) ?_
                    replace h7 := held_row h7 nh7h8 (wcs a U)
                    replace h6 := held_row h6 nh6h8 (wcs a U)
                    replace h5 := held_row h5 (Ne.symm nh8h5) (wcs a U)
                    replace hS := below_setRow hS lh8 (wcs a U)
                    replace h8 := held_rowSelf h8 (wcs a U)
                    generalize World.setRow _ _ (wcs a U) = Wd107 at *
                    refine hK.out _ _ hS (fun _ => ?_)
                    clear hK K
                    (try simp only [Act.put, List.getElem_toArray, List.getElem_cons_succ, List.getElem_cons_zero, List.setIfInBounds_toArray, List.set_cons_zero, List.set_cons_succ])
                    refine wpAnyH_done (by kernel_rfl) ?_ _
                    (repeat (first | go_skip | go_guarded | go_step | go_upon))
                    go_meet
                    case rel => exact ⟨_, _, _, _, rfl, rfl, rfl, rfl, ⟨h5, h6, h7, h8, (Ne.symm nh6h5), (Ne.symm nh7h5), (Ne.symm nh8h5), (Ne.symm nh7h6), nh6h8, nh7h8, Nat.le_trans hlo lh5, Nat.le_trans hlo lh6, Nat.le_trans hlo lh7, Nat.le_trans hlo lh8⟩, Below.step HDR.out hS⟩
      · rw [if_pos (by kernel_rfl)]
        refine wp_alloc_R 40 rfl wz0 (by kernel_rfl) ?_
        have nh7h8 : Wq.heap.size ≠ Wd81.heap.size := Nat.ne_of_lt (Held.lt h7)
        have hbA := ((Below.refl _ _).alloc (Nat.le_refl _) _ : Below Wd81.heap.size Wd81 (Wd81.alloc (.cells wz0 40)))
        replace h7 := Held.below h7 hbA
        have h8 := Held.new Wd81 40 wz0
        have lh8 := hS.size
        replace hS := Below.step hS hbA
        clear hbA
        generalize Wd81.alloc (.cells wz0 40) = Wd108 at *
        refine hK.out _ _ hS (fun _ => ?_)
        clear hK K
        (try simp only [Act.put, List.getElem_toArray, List.getElem_cons_succ, List.getElem_cons_zero, List.setIfInBounds_toArray, List.set_cons_zero, List.set_cons_succ])
        refine wpAnyH_ready (rs := [4, 5]) (by kernel_rfl) (by simp) ?_
        refine (AllReadyH.cons rfl (fun K hK => ?_) (AllReadyH.cons rfl (fun K hK => ?_) AllReadyH.nil))
        · rw [if_pos (by kernel_rfl)]
          refine wp_alloc_R 40 rfl wz0 (by kernel_rfl) ?_
          have nh7h5 : Wq.heap.size ≠ Wd108.heap.size := Nat.ne_of_lt (Held.lt h7)
          have nh8h5 : Wd81.heap.size ≠ Wd108.heap.size := Nat.ne_of_lt (Held.lt h8)
          have hbA := ((Below.refl _ _).alloc (Nat.le_refl _) _ : Below Wd108.heap.size Wd108 (Wd108.alloc (.cells wz0 40)))
          replace h7 := Held.below h7 hbA
          replace h8 := Held.below h8 hbA
          have h5 := Held.new Wd108 40 wz0
          have lh5 := hS.size
          replace hS := Below.step hS hbA
          clear hbA
          generalize Wd108.alloc (.cells wz0 40) = Wd109 at *
          refine hK.out _ _ hS (fun _ => ?_)
          clear hK K
          (try simp only [Act.put, List.getElem_toArray, List.getElem_cons_succ, List.getElem_cons_zero, List.setIfInBounds_toArray, List.set_cons_zero, List.set_cons_succ])
          refine wpAnyH_ready (rs := [5]) (by kernel_rfl) (by simp) ?_
          refine (AllReadyH.cons rfl (fun K hK => ?_) AllReadyH.nil)
          · rw [if_pos (by kernel_rfl)]
            refine wp_alloc_R 40 rfl wz0 (by kernel_rfl) ?_
            have nh7h6 : Wq.heap.size ≠ Wd109.heap.size := Nat.ne_of_lt (Held.lt h7)
            have nh8h6 : Wd81.heap.size ≠ Wd109.heap.size := Nat.ne_of_lt (Held.lt h8)
            have nh5h6 : Wd108.heap.size ≠ Wd109.heap.size := Nat.ne_of_lt (Held.lt h5)
            have hbA := ((Below.refl _ _).alloc (Nat.le_refl _) _ : Below Wd109.heap.size Wd109 (Wd109.alloc (.cells wz0 40)))
            replace h7 := Held.below h7 hbA
            replace h8 := Held.below h8 hbA
            replace h5 := Held.below h5 hbA
            have h6 := Held.new Wd109 40 wz0
            have lh6 := hS.size
            replace hS := Below.step hS hbA
            clear hbA
            generalize Wd109.alloc (.cells wz0 40) = Wd110 at *
            refine hK.out _ _ hS (fun _ => ?_)
            clear hK K
            (try simp only [Act.put, List.getElem_toArray, List.getElem_cons_succ, List.getElem_cons_zero, List.setIfInBounds_toArray, List.set_cons_zero, List.set_cons_succ])
            refine wpAnyH_ready (rs := [8]) (by kernel_rfl) (by simp) ?_
            refine (AllReadyH.cons rfl (fun K hK => ?_) AllReadyH.nil)
            · rw [if_pos (by kernel_rfl)]
              refine wp_store_row 40 _ _ rfl _ (wcs a U) (by rfl) (by rfl) _ _ h5 (by kernel_rfl) rfl (by simp [Value.oneCell']) ?_
              replace h7 := held_row h7 nh7h5 (wcs a U)
              replace h8 := held_row h8 nh8h5 (wcs a U)
              replace h6 := held_row h6 (Ne.symm nh5h6) (wcs a U)
              replace hS := below_setRow hS lh5 (wcs a U)
              replace h5 := held_rowSelf h5 (wcs a U)
              generalize World.setRow _ _ (wcs a U) = Wd111 at *
              refine hK.out _ _ hS (fun _ => ?_)
              clear hK K
              (try simp only [Act.put, List.getElem_toArray, List.getElem_cons_succ, List.getElem_cons_zero, List.setIfInBounds_toArray, List.set_cons_zero, List.set_cons_succ])
              refine wpAnyH_ready (rs := [9]) (by kernel_rfl) (by simp) ?_
              refine (AllReadyH.cons rfl (fun K hK => ?_) AllReadyH.nil)
              · rw [if_pos (by kernel_rfl)]
                refine wp_store_row 40 _ _ rfl _ (wcs a U) (by rfl) (by rfl) _ _ h6 (by kernel_rfl) rfl (by simp [Value.oneCell']) ?_
                replace h7 := held_row h7 nh7h6 (wcs a U)
                replace h8 := held_row h8 nh8h6 (wcs a U)
                replace h5 := held_row h5 nh5h6 (wcs a U)
                replace hS := below_setRow hS lh6 (wcs a U)
                replace h6 := held_rowSelf h6 (wcs a U)
                generalize World.setRow _ _ (wcs a U) = Wd112 at *
                refine hK.out _ _ hS (fun _ => ?_)
                clear hK K
                (try simp only [Act.put, List.getElem_toArray, List.getElem_cons_succ, List.getElem_cons_zero, List.setIfInBounds_toArray, List.set_cons_zero, List.set_cons_succ])
                refine wpAnyH_ready (rs := [10]) (by kernel_rfl) (by simp) ?_
                refine (AllReadyH.cons rfl (fun K hK => ?_) AllReadyH.nil)
                · rw [if_pos (by kernel_rfl)]
                  refine wp_store_row 40 _ _ rfl _ (wcs a U) (by rfl) (by rfl) _ _ h7 (by kernel_rfl) rfl (by simp [Value.oneCell']) ?_
                  replace h8 := held_row h8 (Ne.symm nh7h8) (wcs a U)
                  replace h5 := held_row h5 (Ne.symm nh7h5) (wcs a U)
                  replace h6 := held_row h6 (Ne.symm nh7h6) (wcs a U)
                  replace hS := below_setRow hS lh7 (wcs a U)
                  replace h7 := held_rowSelf h7 (wcs a U)
                  generalize World.setRow _ _ (wcs a U) = Wd113 at *
                  refine hK.out _ _ hS (fun _ => ?_)
                  clear hK K
                  (try simp only [Act.put, List.getElem_toArray, List.getElem_cons_succ, List.getElem_cons_zero, List.setIfInBounds_toArray, List.set_cons_zero, List.set_cons_succ])
                  refine wpAnyH_ready (rs := [11]) (by kernel_rfl) (by simp) ?_
                  refine (AllReadyH.cons rfl (fun K hK => ?_) AllReadyH.nil)
                  · rw [if_pos (by kernel_rfl)]
                    refine wp_store_row 40 _ _ rfl _ (wcs a U) (by rfl) (by rfl) _ _ h8 (by kernel_rfl) rfl (by simp [Value.oneCell']) ?_
                    replace h7 := held_row h7 nh7h8 (wcs a U)
                    replace h5 := held_row h5 (Ne.symm nh8h5) (wcs a U)
                    replace h6 := held_row h6 (Ne.symm nh8h6) (wcs a U)
                    replace hS := below_setRow hS lh8 (wcs a U)
                    replace h8 := held_rowSelf h8 (wcs a U)
                    generalize World.setRow _ _ (wcs a U) = Wd114 at *
                    refine hK.out _ _ hS (fun _ => ?_)
                    clear hK K
                    (try simp only [Act.put, List.getElem_toArray, List.getElem_cons_succ, List.getElem_cons_zero, List.setIfInBounds_toArray, List.set_cons_zero, List.set_cons_succ])
                    refine wpAnyH_done (by kernel_rfl) ?_ _
                    (repeat (first | go_skip | go_guarded | go_step | go_upon))
                    go_meet
                    case rel => exact ⟨_, _, _, _, rfl, rfl, rfl, rfl, ⟨h5, h6, h7, h8, nh5h6, (Ne.symm nh7h5), (Ne.symm nh8h5), (Ne.symm nh7h6), (Ne.symm nh8h6), nh7h8, Nat.le_trans hlo lh5, Nat.le_trans hlo lh6, Nat.le_trans hlo lh7, Nat.le_trans hlo lh8⟩, Below.step HDR.out hS⟩
        · rw [if_pos (by kernel_rfl)]
          refine wp_alloc_R 40 rfl wz0 (by kernel_rfl) ?_
          have nh7h6 : Wq.heap.size ≠ Wd108.heap.size := Nat.ne_of_lt (Held.lt h7)
          have nh8h6 : Wd81.heap.size ≠ Wd108.heap.size := Nat.ne_of_lt (Held.lt h8)
          have hbA := ((Below.refl _ _).alloc (Nat.le_refl _) _ : Below Wd108.heap.size Wd108 (Wd108.alloc (.cells wz0 40)))
          replace h7 := Held.below h7 hbA
          replace h8 := Held.below h8 hbA
          have h6 := Held.new Wd108 40 wz0
          have lh6 := hS.size
          replace hS := Below.step hS hbA
          clear hbA
          generalize Wd108.alloc (.cells wz0 40) = Wd115 at *
          refine hK.out _ _ hS (fun _ => ?_)
          clear hK K
          (try simp only [Act.put, List.getElem_toArray, List.getElem_cons_succ, List.getElem_cons_zero, List.setIfInBounds_toArray, List.set_cons_zero, List.set_cons_succ])
          refine wpAnyH_ready (rs := [4]) (by kernel_rfl) (by simp) ?_
          refine (AllReadyH.cons rfl (fun K hK => ?_) AllReadyH.nil)
          · rw [if_pos (by kernel_rfl)]
            refine wp_alloc_R 40 rfl wz0 (by kernel_rfl) ?_
            have nh7h5 : Wq.heap.size ≠ Wd115.heap.size := Nat.ne_of_lt (Held.lt h7)
            have nh8h5 : Wd81.heap.size ≠ Wd115.heap.size := Nat.ne_of_lt (Held.lt h8)
            have nh6h5 : Wd108.heap.size ≠ Wd115.heap.size := Nat.ne_of_lt (Held.lt h6)
            have hbA := ((Below.refl _ _).alloc (Nat.le_refl _) _ : Below Wd115.heap.size Wd115 (Wd115.alloc (.cells wz0 40)))
            replace h7 := Held.below h7 hbA
            replace h8 := Held.below h8 hbA
            replace h6 := Held.below h6 hbA
            have h5 := Held.new Wd115 40 wz0
            have lh5 := hS.size
            replace hS := Below.step hS hbA
            clear hbA
            generalize Wd115.alloc (.cells wz0 40) = Wd116 at *
            refine hK.out _ _ hS (fun _ => ?_)
            clear hK K
            (try simp only [Act.put, List.getElem_toArray, List.getElem_cons_succ, List.getElem_cons_zero, List.setIfInBounds_toArray, List.set_cons_zero, List.set_cons_succ])
            refine wpAnyH_ready (rs := [8]) (by kernel_rfl) (by simp) ?_
            refine (AllReadyH.cons rfl (fun K hK => ?_) AllReadyH.nil)
            · rw [if_pos (by kernel_rfl)]
              refine wp_store_row 40 _ _ rfl _ (wcs a U) (by rfl) (by rfl) _ _ h5 (by kernel_rfl) rfl (by simp [Value.oneCell']) ?_
              replace h7 := held_row h7 nh7h5 (wcs a U)
              replace h8 := held_row h8 nh8h5 (wcs a U)
              replace h6 := held_row h6 nh6h5 (wcs a U)
              replace hS := below_setRow hS lh5 (wcs a U)
              replace h5 := held_rowSelf h5 (wcs a U)
              generalize World.setRow _ _ (wcs a U) = Wd117 at *
              refine hK.out _ _ hS (fun _ => ?_)
              clear hK K
              (try simp only [Act.put, List.getElem_toArray, List.getElem_cons_succ, List.getElem_cons_zero, List.setIfInBounds_toArray, List.set_cons_zero, List.set_cons_succ])
              refine wpAnyH_ready (rs := [9]) (by kernel_rfl) (by simp) ?_
              refine (AllReadyH.cons rfl (fun K hK => ?_) AllReadyH.nil)
              · rw [if_pos (by kernel_rfl)]
                refine wp_store_row 40 _ _ rfl _ (wcs a U) (by rfl) (by rfl) _ _ h6 (by kernel_rfl) rfl (by simp [Value.oneCell']) ?_
                replace h7 := held_row h7 nh7h6 (wcs a U)
                replace h8 := held_row h8 nh8h6 (wcs a U)
                replace h5 := held_row h5 (Ne.symm nh6h5) (wcs a U)
                replace hS := below_setRow hS lh6 (wcs a U)
                replace h6 := held_rowSelf h6 (wcs a U)
                generalize World.setRow _ _ (wcs a U) = Wd118 at *
                refine hK.out _ _ hS (fun _ => ?_)
                clear hK K
                (try simp only [Act.put, List.getElem_toArray, List.getElem_cons_succ, List.getElem_cons_zero, List.setIfInBounds_toArray, List.set_cons_zero, List.set_cons_succ])
                refine wpAnyH_ready (rs := [10]) (by kernel_rfl) (by simp) ?_
                refine (AllReadyH.cons rfl (fun K hK => ?_) AllReadyH.nil)
                · rw [if_pos (by kernel_rfl)]
                  refine wp_store_row 40 _ _ rfl _ (wcs a U) (by rfl) (by rfl) _ _ h7 (by kernel_rfl) rfl (by simp [Value.oneCell']) ?_
                  replace h8 := held_row h8 (Ne.symm nh7h8) (wcs a U)
                  replace h6 := held_row h6 (Ne.symm nh7h6) (wcs a U)
                  replace h5 := held_row h5 (Ne.symm nh7h5) (wcs a U)
                  replace hS := below_setRow hS lh7 (wcs a U)
                  replace h7 := held_rowSelf h7 (wcs a U)
                  generalize World.setRow _ _ (wcs a U) = Wd119 at *
                  refine hK.out _ _ hS (fun _ => ?_)
                  clear hK K
                  (try simp only [Act.put, List.getElem_toArray, List.getElem_cons_succ, List.getElem_cons_zero, List.setIfInBounds_toArray, List.set_cons_zero, List.set_cons_succ])
                  refine wpAnyH_ready (rs := [11]) (by kernel_rfl) (by simp) ?_
                  refine (AllReadyH.cons rfl (fun K hK => ?_) AllReadyH.nil)
                  · rw [if_pos (by kernel_rfl)]
                    refine wp_store_row 40 _ _ rfl _ (wcs a U) (by rfl) (by rfl) _ _ h8 (by kernel_rfl) rfl (by simp [Value.oneCell']) ?_
                    replace h7 := held_row h7 nh7h8 (wcs a U)
                    replace h6 := held_row h6 (Ne.symm nh8h6) (wcs a U)
                    replace h5 := held_row h5 (Ne.symm nh8h5) (wcs a U)
                    replace hS := below_setRow hS lh8 (wcs a U)
                    replace h8 := held_rowSelf h8 (wcs a U)
                    generalize World.setRow _ _ (wcs a U) = Wd120 at *
                    refine hK.out _ _ hS (fun _ => ?_)
                    clear hK K
                    (try simp only [Act.put, List.getElem_toArray, List.getElem_cons_succ, List.getElem_cons_zero, List.setIfInBounds_toArray, List.set_cons_zero, List.set_cons_succ])
                    refine wpAnyH_done (by kernel_rfl) ?_ _
                    (repeat (first | go_skip | go_guarded | go_step | go_upon))
                    go_meet
                    case rel => exact ⟨_, _, _, _, rfl, rfl, rfl, rfl, ⟨h5, h6, h7, h8, (Ne.symm nh6h5), (Ne.symm nh7h5), (Ne.symm nh8h5), (Ne.symm nh7h6), (Ne.symm nh8h6), nh7h8, Nat.le_trans hlo lh5, Nat.le_trans hlo lh6, Nat.le_trans hlo lh7, Nat.le_trans hlo lh8⟩, Below.step HDR.out hS⟩
    · rw [if_pos (by kernel_rfl)]
      refine wp_alloc_R 40 rfl wz0 (by kernel_rfl) ?_
      have hbA := ((Below.refl _ _).alloc (Nat.le_refl _) _ : Below Wq.heap.size Wq (Wq.alloc (.cells wz0 40)))
      have h8 := Held.new Wq 40 wz0
      have lh8 := hS.size
      replace hS := Below.step hS hbA
      clear hbA
      generalize Wq.alloc (.cells wz0 40) = Wd121 at *
      refine hK.out _ _ hS (fun _ => ?_)
      clear hK K
      (try simp only [Act.put, List.getElem_toArray, List.getElem_cons_succ, List.getElem_cons_zero, List.setIfInBounds_toArray, List.set_cons_zero, List.set_cons_succ])
      refine wpAnyH_ready (rs := [4, 5, 6]) (by kernel_rfl) (by simp) ?_
      refine (AllReadyH.cons rfl (fun K hK => ?_) (AllReadyH.cons rfl (fun K hK => ?_) (AllReadyH.cons rfl (fun K hK => ?_) AllReadyH.nil)))
      · rw [if_pos (by kernel_rfl)]
        refine wp_alloc_R 40 rfl wz0 (by kernel_rfl) ?_
        have nh8h5 : Wq.heap.size ≠ Wd121.heap.size := Nat.ne_of_lt (Held.lt h8)
        have hbA := ((Below.refl _ _).alloc (Nat.le_refl _) _ : Below Wd121.heap.size Wd121 (Wd121.alloc (.cells wz0 40)))
        replace h8 := Held.below h8 hbA
        have h5 := Held.new Wd121 40 wz0
        have lh5 := hS.size
        replace hS := Below.step hS hbA
        clear hbA
        generalize Wd121.alloc (.cells wz0 40) = Wd122 at *
        refine hK.out _ _ hS (fun _ => ?_)
        clear hK K
        (try simp only [Act.put, List.getElem_toArray, List.getElem_cons_succ, List.getElem_cons_zero, List.setIfInBounds_toArray, List.set_cons_zero, List.set_cons_succ])
        refine wpAnyH_ready (rs := [5, 6]) (by kernel_rfl) (by simp) ?_
        refine (AllReadyH.cons rfl (fun K hK => ?_) (AllReadyH.cons rfl (fun K hK => ?_) AllReadyH.nil))
        · rw [if_pos (by kernel_rfl)]
          refine wp_alloc_R 40 rfl wz0 (by kernel_rfl) ?_
          have nh8h6 : Wq.heap.size ≠ Wd122.heap.size := Nat.ne_of_lt (Held.lt h8)
          have nh5h6 : Wd121.heap.size ≠ Wd122.heap.size := Nat.ne_of_lt (Held.lt h5)
          have hbA := ((Below.refl _ _).alloc (Nat.le_refl _) _ : Below Wd122.heap.size Wd122 (Wd122.alloc (.cells wz0 40)))
          replace h8 := Held.below h8 hbA
          replace h5 := Held.below h5 hbA
          have h6 := Held.new Wd122 40 wz0
          have lh6 := hS.size
          replace hS := Below.step hS hbA
          clear hbA
          generalize Wd122.alloc (.cells wz0 40) = Wd123 at *
          refine hK.out _ _ hS (fun _ => ?_)
          clear hK K
          (try simp only [Act.put, List.getElem_toArray, List.getElem_cons_succ, List.getElem_cons_zero, List.setIfInBounds_toArray, List.set_cons_zero, List.set_cons_succ])
          refine wpAnyH_ready (rs := [6]) (by kernel_rfl) (by simp) ?_
          refine (AllReadyH.cons rfl (fun K hK => ?_) AllReadyH.nil)
          · rw [if_pos (by kernel_rfl)]
            refine wp_alloc_R 40 rfl wz0 (by kernel_rfl) ?_
            have nh8h7 : Wq.heap.size ≠ Wd123.heap.size := Nat.ne_of_lt (Held.lt h8)
            have nh5h7 : Wd121.heap.size ≠ Wd123.heap.size := Nat.ne_of_lt (Held.lt h5)
            have nh6h7 : Wd122.heap.size ≠ Wd123.heap.size := Nat.ne_of_lt (Held.lt h6)
            have hbA := ((Below.refl _ _).alloc (Nat.le_refl _) _ : Below Wd123.heap.size Wd123 (Wd123.alloc (.cells wz0 40)))
            replace h8 := Held.below h8 hbA
            replace h5 := Held.below h5 hbA
            replace h6 := Held.below h6 hbA
            have h7 := Held.new Wd123 40 wz0
            have lh7 := hS.size
            replace hS := Below.step hS hbA
            clear hbA
            generalize Wd123.alloc (.cells wz0 40) = Wd124 at *
            refine hK.out _ _ hS (fun _ => ?_)
            clear hK K
            (try simp only [Act.put, List.getElem_toArray, List.getElem_cons_succ, List.getElem_cons_zero, List.setIfInBounds_toArray, List.set_cons_zero, List.set_cons_succ])
            refine wpAnyH_ready (rs := [8]) (by kernel_rfl) (by simp) ?_
            refine (AllReadyH.cons rfl (fun K hK => ?_) AllReadyH.nil)
            · rw [if_pos (by kernel_rfl)]
              refine wp_store_row 40 _ _ rfl _ (wcs a U) (by rfl) (by rfl) _ _ h5 (by kernel_rfl) rfl (by simp [Value.oneCell']) ?_
              replace h8 := held_row h8 nh8h5 (wcs a U)
              replace h6 := held_row h6 (Ne.symm nh5h6) (wcs a U)
              replace h7 := held_row h7 (Ne.symm nh5h7) (wcs a U)
              replace hS := below_setRow hS lh5 (wcs a U)
              replace h5 := held_rowSelf h5 (wcs a U)
              generalize World.setRow _ _ (wcs a U) = Wd125 at *
              refine hK.out _ _ hS (fun _ => ?_)
              clear hK K
              (try simp only [Act.put, List.getElem_toArray, List.getElem_cons_succ, List.getElem_cons_zero, List.setIfInBounds_toArray, List.set_cons_zero, List.set_cons_succ])
              refine wpAnyH_ready (rs := [9]) (by kernel_rfl) (by simp) ?_
              refine (AllReadyH.cons rfl (fun K hK => ?_) AllReadyH.nil)
              · rw [if_pos (by kernel_rfl)]
                refine wp_store_row 40 _ _ rfl _ (wcs a U) (by rfl) (by rfl) _ _ h6 (by kernel_rfl) rfl (by simp [Value.oneCell']) ?_
                replace h8 := held_row h8 nh8h6 (wcs a U)
                replace h5 := held_row h5 nh5h6 (wcs a U)
                replace h7 := held_row h7 (Ne.symm nh6h7) (wcs a U)
                replace hS := below_setRow hS lh6 (wcs a U)
                replace h6 := held_rowSelf h6 (wcs a U)
                generalize World.setRow _ _ (wcs a U) = Wd126 at *
                refine hK.out _ _ hS (fun _ => ?_)
                clear hK K
                (try simp only [Act.put, List.getElem_toArray, List.getElem_cons_succ, List.getElem_cons_zero, List.setIfInBounds_toArray, List.set_cons_zero, List.set_cons_succ])
                refine wpAnyH_ready (rs := [10]) (by kernel_rfl) (by simp) ?_
                refine (AllReadyH.cons rfl (fun K hK => ?_) AllReadyH.nil)
                · rw [if_pos (by kernel_rfl)]
                  refine wp_store_row 40 _ _ rfl _ (wcs a U) (by rfl) (by rfl) _ _ h7 (by kernel_rfl) rfl (by simp [Value.oneCell']) ?_
                  replace h8 := held_row h8 nh8h7 (wcs a U)
                  replace h5 := held_row h5 nh5h7 (wcs a U)
                  replace h6 := held_row h6 nh6h7 (wcs a U)
                  replace hS := below_setRow hS lh7 (wcs a U)
                  replace h7 := held_rowSelf h7 (wcs a U)
                  generalize World.setRow _ _ (wcs a U) = Wd127 at *
                  refine hK.out _ _ hS (fun _ => ?_)
                  clear hK K
                  (try simp only [Act.put, List.getElem_toArray, List.getElem_cons_succ, List.getElem_cons_zero, List.setIfInBounds_toArray, List.set_cons_zero, List.set_cons_succ])
                  refine wpAnyH_ready (rs := [11]) (by kernel_rfl) (by simp) ?_
                  refine (AllReadyH.cons rfl (fun K hK => ?_) AllReadyH.nil)
                  · rw [if_pos (by kernel_rfl)]
                    refine wp_store_row 40 _ _ rfl _ (wcs a U) (by rfl) (by rfl) _ _ h8 (by kernel_rfl) rfl (by simp [Value.oneCell']) ?_
                    replace h5 := held_row h5 (Ne.symm nh8h5) (wcs a U)
                    replace h6 := held_row h6 (Ne.symm nh8h6) (wcs a U)
                    replace h7 := held_row h7 (Ne.symm nh8h7) (wcs a U)
                    replace hS := below_setRow hS lh8 (wcs a U)
                    replace h8 := held_rowSelf h8 (wcs a U)
                    generalize World.setRow _ _ (wcs a U) = Wd128 at *
                    refine hK.out _ _ hS (fun _ => ?_)
                    clear hK K
                    (try simp only [Act.put, List.getElem_toArray, List.getElem_cons_succ, List.getElem_cons_zero, List.setIfInBounds_toArray, List.set_cons_zero, List.set_cons_succ])
                    refine wpAnyH_done (by kernel_rfl) ?_ _
                    (repeat (first | go_skip | go_guarded | go_step | go_upon))
                    go_meet
                    case rel => exact ⟨_, _, _, _, rfl, rfl, rfl, rfl, ⟨h5, h6, h7, h8, nh5h6, nh5h7, (Ne.symm nh8h5), nh6h7, (Ne.symm nh8h6), (Ne.symm nh8h7), Nat.le_trans hlo lh5, Nat.le_trans hlo lh6, Nat.le_trans hlo lh7, Nat.le_trans hlo lh8⟩, Below.step HDR.out hS⟩
        · rw [if_pos (by kernel_rfl)]
          refine wp_alloc_R 40 rfl wz0 (by kernel_rfl) ?_
          have nh8h7 : Wq.heap.size ≠ Wd122.heap.size := Nat.ne_of_lt (Held.lt h8)
          have nh5h7 : Wd121.heap.size ≠ Wd122.heap.size := Nat.ne_of_lt (Held.lt h5)
          have hbA := ((Below.refl _ _).alloc (Nat.le_refl _) _ : Below Wd122.heap.size Wd122 (Wd122.alloc (.cells wz0 40)))
          replace h8 := Held.below h8 hbA
          replace h5 := Held.below h5 hbA
          have h7 := Held.new Wd122 40 wz0
          have lh7 := hS.size
          replace hS := Below.step hS hbA
          clear hbA
          generalize Wd122.alloc (.cells wz0 40) = Wd129 at *
          refine hK.out _ _ hS (fun _ => ?_)
          clear hK K
          (try simp only [Act.put, List.getElem_toArray, List.getElem_cons_succ, List.getElem_cons_zero, List.setIfInBounds_toArray, List.set_cons_zero, List.set_cons_succ])
          refine wpAnyH_ready (rs := [5]) (by kernel_rfl) (by simp) ?_
          refine (AllReadyH.cons rfl (fun K hK => ?_) AllReadyH.nil)
          · rw [if_pos (by kernel_rfl)]
            refine wp_alloc_R 40 rfl wz0 (by kernel_rfl) ?_
            have nh8h6 : Wq.heap.size ≠ Wd129.heap.size := Nat.ne_of_lt (Held.lt h8)
            have nh5h6 : Wd121.heap.size ≠ Wd129.heap.size := Nat.ne_of_lt (Held.lt h5)
            have nh7h6 : Wd122.heap.size ≠ Wd129.heap.size := Nat.ne_of_lt (Held.lt h7)
            have hbA := ((Below.refl _ _).alloc (Nat.le_refl _) _ : Below Wd129.heap.size Wd129 (Wd129.alloc (.cells wz0 40)))
            replace h8 := Held.below h8 hbA
            replace h5 := Held.below h5 hbA
            replace h7 := Held.below h7 hbA
            have h6 := Held.new Wd129 40 wz0
            have lh6 := hS.size
            replace hS := Below.step hS hbA
            clear hbA
            generalize Wd129.alloc (.cells wz0 40) = Wd130 at *
            refine hK.out _ _ hS (fun _ => ?_)
            clear hK K
            (try simp only [Act.put, List.getElem_toArray, List.getElem_cons_succ, List.getElem_cons_zero, List.setIfInBounds_toArray, List.set_cons_zero, List.set_cons_succ])
            refine wpAnyH_ready (rs := [8]) (by kernel_rfl) (by simp) ?_
            refine (AllReadyH.cons rfl (fun K hK => ?_) AllReadyH.nil)
            · rw [if_pos (by kernel_rfl)]
              refine wp_store_row 40 _ _ rfl _ (wcs a U) (by rfl) (by rfl) _ _ h5 (by kernel_rfl) rfl (by simp [Value.oneCell']) ?_
              replace h8 := held_row h8 nh8h5 (wcs a U)
              replace h7 := held_row h7 (Ne.symm nh5h7) (wcs a U)
              replace h6 := held_row h6 (Ne.symm nh5h6) (wcs a U)
              replace hS := below_setRow hS lh5 (wcs a U)
              replace h5 := held_rowSelf h5 (wcs a U)
              generalize World.setRow _ _ (wcs a U) = Wd131 at *
              refine hK.out _ _ hS (fun _ => ?_)
              clear hK K
              (try simp only [Act.put, List.getElem_toArray, List.getElem_cons_succ, List.getElem_cons_zero, List.setIfInBounds_toArray, List.set_cons_zero, List.set_cons_succ])
              refine wpAnyH_ready (rs := [9]) (by kernel_rfl) (by simp) ?_
              refine (AllReadyH.cons rfl (fun K hK => ?_) AllReadyH.nil)
              · rw [if_pos (by kernel_rfl)]
                refine wp_store_row 40 _ _ rfl _ (wcs a U) (by rfl) (by rfl) _ _ h6 (by kernel_rfl) rfl (by simp [Value.oneCell']) ?_
                replace h8 := held_row h8 nh8h6 (wcs a U)
                replace h5 := held_row h5 nh5h6 (wcs a U)
                replace h7 := held_row h7 nh7h6 (wcs a U)
                replace hS := below_setRow hS lh6 (wcs a U)
                replace h6 := held_rowSelf h6 (wcs a U)
                generalize World.setRow _ _ (wcs a U) = Wd132 at *
                refine hK.out _ _ hS (fun _ => ?_)
                clear hK K
                (try simp only [Act.put, List.getElem_toArray, List.getElem_cons_succ, List.getElem_cons_zero, List.setIfInBounds_toArray, List.set_cons_zero, List.set_cons_succ])
                refine wpAnyH_ready (rs := [10]) (by kernel_rfl) (by simp) ?_
                refine (AllReadyH.cons rfl (fun K hK => ?_) AllReadyH.nil)
                · rw [if_pos (by kernel_rfl)]
                  refine wp_store_row 40 _ _ rfl _ (wcs a U) (by rfl) (by rfl) _ _ h7 (by kernel_rfl) rfl (by simp [Value.oneCell']) ?_
                  replace h8 := held_row h8 nh8h7 (wcs a U)
                  replace h5 := held_row h5 nh5h7 (wcs a U)
                  replace h6 := held_row h6 (Ne.symm nh7h6) (wcs a U)
                  replace hS := below_setRow hS lh7 (wcs a U)
                  replace h7 := held_rowSelf h7 (wcs a U)
                  generalize World.setRow _ _ (wcs a U) = Wd133 at *
                  refine hK.out _ _ hS (fun _ => ?_)
                  clear hK K
                  (try simp only [Act.put, List.getElem_toArray, List.getElem_cons_succ, List.getElem_cons_zero, List.setIfInBounds_toArray, List.set_cons_zero, List.set_cons_succ])
                  refine wpAnyH_ready (rs := [11]) (by kernel_rfl) (by simp) ?_
                  refine (AllReadyH.cons rfl (fun K hK => ?_) AllReadyH.nil)
                  · rw [if_pos (by kernel_rfl)]
                    refine wp_store_row 40 _ _ rfl _ (wcs a U) (by rfl) (by rfl) _ _ h8 (by kernel_rfl) rfl (by simp [Value.oneCell']) ?_
                    replace h5 := held_row h5 (Ne.symm nh8h5) (wcs a U)
                    replace h7 := held_row h7 (Ne.symm nh8h7) (wcs a U)
                    replace h6 := held_row h6 (Ne.symm nh8h6) (wcs a U)
                    replace hS := below_setRow hS lh8 (wcs a U)
                    replace h8 := held_rowSelf h8 (wcs a U)
                    generalize World.setRow _ _ (wcs a U) = Wd134 at *
                    refine hK.out _ _ hS (fun _ => ?_)
                    clear hK K
                    (try simp only [Act.put, List.getElem_toArray, List.getElem_cons_succ, List.getElem_cons_zero, List.setIfInBounds_toArray, List.set_cons_zero, List.set_cons_succ])
                    refine wpAnyH_done (by kernel_rfl) ?_ _
                    (repeat (first | go_skip | go_guarded | go_step | go_upon))
                    go_meet
                    case rel => exact ⟨_, _, _, _, rfl, rfl, rfl, rfl, ⟨h5, h6, h7, h8, nh5h6, nh5h7, (Ne.symm nh8h5), (Ne.symm nh7h6), (Ne.symm nh8h6), (Ne.symm nh8h7), Nat.le_trans hlo lh5, Nat.le_trans hlo lh6, Nat.le_trans hlo lh7, Nat.le_trans hlo lh8⟩, Below.step HDR.out hS⟩
      · rw [if_pos (by kernel_rfl)]
        refine wp_alloc_R 40 rfl wz0 (by kernel_rfl) ?_
        have nh8h6 : Wq.heap.size ≠ Wd121.heap.size := Nat.ne_of_lt (Held.lt h8)
        have hbA := ((Below.refl _ _).alloc (Nat.le_refl _) _ : Below Wd121.heap.size Wd121 (Wd121.alloc (.cells wz0 40)))
        replace h8 := Held.below h8 hbA
        have h6 := Held.new Wd121 40 wz0
        have lh6 := hS.size
        replace hS := Below.step hS hbA
        clear hbA
        generalize Wd121.alloc (.cells wz0 40) = Wd135 at *
        refine hK.out _ _ hS (fun _ => ?_)
        clear hK K
        (try simp only [Act.put, List.getElem_toArray, List.getElem_cons_succ, List.getElem_cons_zero, List.setIfInBounds_toArray, List.set_cons_zero, List.set_cons_succ])
        refine wpAnyH_ready (rs := [4, 6]) (by kernel_rfl) (by simp) ?_
        refine (AllReadyH.cons rfl (fun K hK => ?_) (AllReadyH.cons rfl (fun K hK => ?_) AllReadyH.nil))
        · rw [if_pos (by kernel_rfl)]
          refine wp_alloc_R 40 rfl wz0 (by kernel_rfl) ?_
          have nh8h5 : Wq.heap.size ≠ Wd135.heap.size := Nat.ne_of_lt (Held.lt h8)
          have nh6h5 : Wd121.heap.size ≠ Wd135.heap.size := Nat.ne_of_lt (Held.lt h6)
          have hbA := ((Below.refl _ _).alloc (Nat.le_refl _) _ : Below Wd135.heap.size Wd135 (Wd135.alloc (.cells wz0 40)))
          replace h8 := Held.below h8 hbA
          replace h6 := Held.below h6 hbA
          have h5 := Held.new Wd135 40 wz0
          have lh5 := hS.size
          replace hS := Below.step hS hbA
          clear hbA
          generalize Wd135.alloc (.cells wz0 40) = Wd136 at *
          refine hK.out _ _ hS (fun _ => ?_)
          clear hK K
          (try simp only [Act.put, List.getElem_toArray, List.getElem_cons_succ, List.getElem_cons_zero, List.setIfInBounds_toArray, List.set_cons_zero, List.set_cons_succ])
          refine wpAnyH_ready (rs := [6]) (by kernel_rfl) (by simp) ?_
          refine (AllReadyH.cons rfl (fun K hK => ?_) AllReadyH.nil)
          · rw [if_pos (by kernel_rfl)]
            refine wp_alloc_R 40 rfl wz0 (by kernel_rfl) ?_
            have nh8h7 : Wq.heap.size ≠ Wd136.heap.size := Nat.ne_of_lt (Held.lt h8)
            have nh6h7 : Wd121.heap.size ≠ Wd136.heap.size := Nat.ne_of_lt (Held.lt h6)
            have nh5h7 : Wd135.heap.size ≠ Wd136.heap.size := Nat.ne_of_lt (Held.lt h5)
            have hbA := ((Below.refl _ _).alloc (Nat.le_refl _) _ : Below Wd136.heap.size Wd136 (Wd136.alloc (.cells wz0 40)))
            replace h8 := Held.below h8 hbA
            replace h6 := Held.below h6 hbA
            replace h5 := Held.below h5 hbA
            have h7 := Held.new Wd136 40 wz0
            have lh7 := hS.size
            replace hS := Below.step hS hbA
            clear hbA
            generalize Wd136.alloc (.cells wz0 40) = Wd137 at *
            refine hK.out _ _ hS (fun _ => ?_)
            clear hK K
            (try simp only [Act.put, List.getElem_toArray, List.getElem_cons_succ, List.getElem_cons_zero, List.setIfInBounds_toArray, List.set_cons_zero, List.set_cons_succ])
            refine wpAnyH_ready (rs := [8]) (by kernel_rfl) (by simp) ?_
            refine (AllReadyH.cons rfl (fun K hK => ?_) AllReadyH.nil)
            · rw [if_pos (by kernel_rfl)]
              refine wp_store_row 40 _ _ rfl _ (wcs a U) (by rfl) (by rfl) _ _ h5 (by kernel_rfl) rfl (by simp [Value.oneCell']) ?_
              replace h8 := held_row h8 nh8h5 (wcs a U)
              replace h6 := held_row h6 nh6h5 (wcs a U)
              replace h7 := held_row h7 (Ne.symm nh5h7) (wcs a U)
              replace hS := below_setRow hS lh5 (wcs a U)
              replace h5 := held_rowSelf h5 (wcs a U)
              generalize World.setRow _ _ (wcs a U) = Wd138 at *
              refine hK.out _ _ hS (fun _ => ?_)
              clear hK K
              (try simp only [Act.put, List.getElem_toArray, List.getElem_cons_succ, List.getElem_cons_zero, List.setIfInBounds_toArray, List.set_cons_zero, List.set_cons_succ])
              refine wpAnyH_ready (rs := [9]) (by kernel_rfl) (by simp) ?_
              refine (AllReadyH.cons rfl (fun K hK => ?_) AllReadyH.nil)
              · rw [if_pos (by kernel_rfl)]
                refine wp_store_row 40 _ _ rfl _ (wcs a U) (by rfl) (by rfl) _ _ h6 (by kernel_rfl) rfl (by simp [Value.oneCell']) ?_
                replace h8 := held_row h8 nh8h6 (wcs a U)
                replace h5 := held_row h5 (Ne.symm nh6h5) (wcs a U)
                replace h7 := held_row h7 (Ne.symm nh6h7) (wcs a U)
                replace hS := below_setRow hS lh6 (wcs a U)
                replace h6 := held_rowSelf h6 (wcs a U)
                generalize World.setRow _ _ (wcs a U) = Wd139 at *
                refine hK.out _ _ hS (fun _ => ?_)
                clear hK K
                (try simp only [Act.put, List.getElem_toArray, List.getElem_cons_succ, List.getElem_cons_zero, List.setIfInBounds_toArray, List.set_cons_zero, List.set_cons_succ])
                refine wpAnyH_ready (rs := [10]) (by kernel_rfl) (by simp) ?_
                refine (AllReadyH.cons rfl (fun K hK => ?_) AllReadyH.nil)
                · rw [if_pos (by kernel_rfl)]
                  refine wp_store_row 40 _ _ rfl _ (wcs a U) (by rfl) (by rfl) _ _ h7 (by kernel_rfl) rfl (by simp [Value.oneCell']) ?_
                  replace h8 := held_row h8 nh8h7 (wcs a U)
                  replace h6 := held_row h6 nh6h7 (wcs a U)
                  replace h5 := held_row h5 nh5h7 (wcs a U)
                  replace hS := below_setRow hS lh7 (wcs a U)
                  replace h7 := held_rowSelf h7 (wcs a U)
                  generalize World.setRow _ _ (wcs a U) = Wd140 at *
                  refine hK.out _ _ hS (fun _ => ?_)
                  clear hK K
                  (try simp only [Act.put, List.getElem_toArray, List.getElem_cons_succ, List.getElem_cons_zero, List.setIfInBounds_toArray, List.set_cons_zero, List.set_cons_succ])
                  refine wpAnyH_ready (rs := [11]) (by kernel_rfl) (by simp) ?_
                  refine (AllReadyH.cons rfl (fun K hK => ?_) AllReadyH.nil)
                  · rw [if_pos (by kernel_rfl)]
                    refine wp_store_row 40 _ _ rfl _ (wcs a U) (by rfl) (by rfl) _ _ h8 (by kernel_rfl) rfl (by simp [Value.oneCell']) ?_
                    replace h6 := held_row h6 (Ne.symm nh8h6) (wcs a U)
                    replace h5 := held_row h5 (Ne.symm nh8h5) (wcs a U)
                    replace h7 := held_row h7 (Ne.symm nh8h7) (wcs a U)
                    replace hS := below_setRow hS lh8 (wcs a U)
                    replace h8 := held_rowSelf h8 (wcs a U)
                    generalize World.setRow _ _ (wcs a U) = Wd141 at *
                    refine hK.out _ _ hS (fun _ => ?_)
                    clear hK K
                    (try simp only [Act.put, List.getElem_toArray, List.getElem_cons_succ, List.getElem_cons_zero, List.setIfInBounds_toArray, List.set_cons_zero, List.set_cons_succ])
                    refine wpAnyH_done (by kernel_rfl) ?_ _
                    (repeat (first | go_skip | go_guarded | go_step | go_upon))
                    go_meet
                    case rel => exact ⟨_, _, _, _, rfl, rfl, rfl, rfl, ⟨h5, h6, h7, h8, (Ne.symm nh6h5), nh5h7, (Ne.symm nh8h5), nh6h7, (Ne.symm nh8h6), (Ne.symm nh8h7), Nat.le_trans hlo lh5, Nat.le_trans hlo lh6, Nat.le_trans hlo lh7, Nat.le_trans hlo lh8⟩, Below.step HDR.out hS⟩
        · rw [if_pos (by kernel_rfl)]
          refine wp_alloc_R 40 rfl wz0 (by kernel_rfl) ?_
          have nh8h7 : Wq.heap.size ≠ Wd135.heap.size := Nat.ne_of_lt (Held.lt h8)
          have nh6h7 : Wd121.heap.size ≠ Wd135.heap.size := Nat.ne_of_lt (Held.lt h6)
          have hbA := ((Below.refl _ _).alloc (Nat.le_refl _) _ : Below Wd135.heap.size Wd135 (Wd135.alloc (.cells wz0 40)))
          replace h8 := Held.below h8 hbA
          replace h6 := Held.below h6 hbA
          have h7 := Held.new Wd135 40 wz0
          have lh7 := hS.size
          replace hS := Below.step hS hbA
          clear hbA
          generalize Wd135.alloc (.cells wz0 40) = Wd142 at *
          refine hK.out _ _ hS (fun _ => ?_)
          clear hK K
          (try simp only [Act.put, List.getElem_toArray, List.getElem_cons_succ, List.getElem_cons_zero, List.setIfInBounds_toArray, List.set_cons_zero, List.set_cons_succ])
          refine wpAnyH_ready (rs := [4]) (by kernel_rfl) (by simp) ?_
          refine (AllReadyH.cons rfl (fun K hK => ?_) AllReadyH.nil)
          · rw [if_pos (by kernel_rfl)]
            refine wp_alloc_R 40 rfl wz0 (by kernel_rfl) ?_
            have nh8h5 : Wq.heap.size ≠ Wd142.heap.size := Nat.ne_of_lt (Held.lt h8)
            have nh6h5 : Wd121.heap.size ≠ Wd142.heap.size := Nat.ne_of_lt (Held.lt h6)
            have nh7h5 : Wd135.heap.size ≠ Wd142.heap.size := Nat.ne_of_lt (Held.lt h7)
            have hbA := ((Below.refl _ _).alloc (Nat.le_refl _) _ : Below Wd142.heap.size Wd142 (Wd142.alloc (.cells wz0 40)))
            replace h8 := Held.below h8 hbA
            replace h6 := Held.below h6 hbA
            replace h7 := Held.below h7 hbA
            have h5 := Held.new Wd142 40 wz0
            have lh5 := hS.size
            replace hS := Below.step hS hbA
            clear hbA
            generalize Wd142.alloc (.cells wz0 40) = Wd143 at *
            refine hK.out _ _ hS (fun _ => ?_)
            clear hK K
            (try simp only [Act.put, List.getElem_toArray, List.getElem_cons_succ, List.getElem_cons_zero, List.setIfInBounds_toArray, List.set_cons_zero, List.set_cons_succ])
            refine wpAnyH_ready (rs := [8]) (by kernel_rfl) (by simp) ?_
            refine (AllReadyH.cons rfl (fun K hK => ?_) AllReadyH.nil)
            · rw [if_pos (by kernel_rfl)]
              refine wp_store_row 40 _ _ rfl _ (wcs a U) (by rfl) (by rfl) _ _ h5 (by kernel_rfl) rfl (by simp [Value.oneCell']) ?_
              replace h8 := held_row h8 nh8h5 (wcs a U)
              replace h6 := held_row h6 nh6h5 (wcs a U)
              replace h7 := held_row h7 nh7h5 (wcs a U)
              replace hS := below_setRow hS lh5 (wcs a U)
              replace h5 := held_rowSelf h5 (wcs a U)
              generalize World.setRow _ _ (wcs a U) = Wd144 at *
              refine hK.out _ _ hS (fun _ => ?_)
              clear hK K
              (try simp only [Act.put, List.getElem_toArray, List.getElem_cons_succ, List.getElem_cons_zero, List.setIfInBounds_toArray, List.set_cons_zero, List.set_cons_succ])
              refine wpAnyH_ready (rs := [9]) (by kernel_rfl) (by simp) ?_
              refine (AllReadyH.cons rfl (fun K hK => ?_) AllReadyH.nil)
              · rw [if_pos (by kernel_rfl)]
                refine wp_store_row 40 _ _ rfl _ (wcs a U) (by rfl) (by rfl) _ _ h6 (by kernel_rfl) rfl (by simp [Value.oneCell']) ?_
                replace h8 := held_row h8 nh8h6 (wcs a U)
                replace h7 := held_row h7 (Ne.symm nh6h7) (wcs a U)
                replace h5 := held_row h5 (Ne.symm nh6h5) (wcs a U)
                replace hS := below_setRow hS lh6 (wcs a U)
                replace h6 := held_rowSelf h6 (wcs a U)
                generalize World.setRow _ _ (wcs a U) = Wd145 at *
                refine hK.out _ _ hS (fun _ => ?_)
                clear hK K
                (try simp only [Act.put, List.getElem_toArray, List.getElem_cons_succ, List.getElem_cons_zero, List.setIfInBounds_toArray, List.set_cons_zero, List.set_cons_succ])
                refine wpAnyH_ready (rs := [10]) (by kernel_rfl) (by simp) ?_
                refine (AllReadyH.cons rfl (fun K hK => ?_) AllReadyH.nil)
                · rw [if_pos (by kernel_rfl)]
                  refine wp_store_row 40 _ _ rfl _ (wcs a U) (by rfl) (by rfl) _ _ h7 (by kernel_rfl) rfl (by simp [Value.oneCell']) ?_
                  replace h8 := held_row h8 nh8h7 (wcs a U)
                  replace h6 := held_row h6 nh6h7 (wcs a U)
                  replace h5 := held_row h5 (Ne.symm nh7h5) (wcs a U)
                  replace hS := below_setRow hS lh7 (wcs a U)
                  replace h7 := held_rowSelf h7 (wcs a U)
                  generalize World.setRow _ _ (wcs a U) = Wd146 at *
                  refine hK.out _ _ hS (fun _ => ?_)
                  clear hK K
                  (try simp only [Act.put, List.getElem_toArray, List.getElem_cons_succ, List.getElem_cons_zero, List.setIfInBounds_toArray, List.set_cons_zero, List.set_cons_succ])
                  refine wpAnyH_ready (rs := [11]) (by kernel_rfl) (by simp) ?_
                  refine (AllReadyH.cons rfl (fun K hK => ?_) AllReadyH.nil)
                  · rw [if_pos (by kernel_rfl)]
                    refine wp_store_row 40 _ _ rfl _ (wcs a U) (by rfl) (by rfl) _ _ h8 (by kernel_rfl) rfl (by simp [Value.oneCell']) ?_
                    replace h6 := held_row h6 (Ne.symm nh8h6) (wcs a U)
                    replace h7 := held_row h7 (Ne.symm nh8h7) (wcs a U)
                    replace h5 := held_row h5 (Ne.symm nh8h5) (wcs a U)
                    replace hS := below_setRow hS lh8 (wcs a U)
                    replace h8 := held_rowSelf h8 (wcs a U)
                    generalize World.setRow _ _ (wcs a U) = Wd147 at *
                    refine hK.out _ _ hS (fun _ => ?_)
                    clear hK K
                    (try simp only [Act.put, List.getElem_toArray, List.getElem_cons_succ, List.getElem_cons_zero, List.setIfInBounds_toArray, List.set_cons_zero, List.set_cons_succ])
                    refine wpAnyH_done (by kernel_rfl) ?_ _
                    (repeat (first | go_skip | go_guarded | go_step | go_upon))
                    go_meet
                    case rel => exact ⟨_, _, _, _, rfl, rfl, rfl, rfl, ⟨h5, h6, h7, h8, (Ne.symm nh6h5), (Ne.symm nh7h5), (Ne.symm nh8h5), nh6h7, (Ne.symm nh8h6), (Ne.symm nh8h7), Nat.le_trans hlo lh5, Nat.le_trans hlo lh6, Nat.le_trans hlo lh7, Nat.le_trans hlo lh8⟩, Below.step HDR.out hS⟩
      · rw [if_pos (by kernel_rfl)]
        refine wp_alloc_R 40 rfl wz0 (by kernel_rfl) ?_
        have nh8h7 : Wq.heap.size ≠ Wd121.heap.size := Nat.ne_of_lt (Held.lt h8)
        have hbA := ((Below.refl _ _).alloc (Nat.le_refl _) _ : Below Wd121.heap.size Wd121 (Wd121.alloc (.cells wz0 40)))
        replace h8 := Held.below h8 hbA
        have h7 := Held.new Wd121 40 wz0
        have lh7 := hS.size
        replace hS := Below.step hS hbA
        clear hbA
        generalize Wd121.alloc (.cells wz0 40) = Wd148 at *
        refine hK.out _ _ hS (fun _ => ?_)
        clear hK K
        (try simp only [Act.put, List.getElem_toArray, List.getElem_cons_succ, List.getElem_cons_zero, List.setIfInBounds_toArray, List.set_cons_zero, List.set_cons_succ])
        refine wpAnyH_ready (rs := [4, 5]) (by kernel_rfl) (by simp) ?_
        refine (AllReadyH.cons rfl (fun K hK => ?_) (AllReadyH.cons rfl (fun K hK => ?_) AllReadyH.nil))
        · rw [if_pos (by kernel_rfl)]
          refine wp_alloc_R 40 rfl wz0 (by kernel_rfl) ?_
          have nh8h5 : Wq.heap.size ≠ Wd148.heap.size := Nat.ne_of_lt (Held.lt h8)
          have nh7h5 : Wd121.heap.size ≠ Wd148.heap.size := Nat.ne_of_lt (Held.lt h7)
          have hbA := ((Below.refl _ _).alloc (Nat.le_refl _) _ : Below Wd148.heap.size Wd148 (Wd148.alloc (.cells wz0 40)))
          replace h8 := Held.below h8 hbA
          replace h7 := Held.below h7 hbA
          have h5 := Held.new Wd148 40 wz0
          have lh5 := hS.size
          replace hS := Below.step hS hbA
          clear hbA
          generalize Wd148.alloc (.cells wz0 40) = Wd149 at *
          refine hK.out _ _ hS (fun _ => ?_)
          clear hK K
          (try simp only [Act.put, List.getElem_toArray, List.getElem_cons_succ, List.getElem_cons_zero, List.setIfInBounds_toArray, List.set_cons_zero, List.set_cons_succ])
          refine wpAnyH_ready (rs := [5]) (by kernel_rfl) (by simp) ?_
          refine (AllReadyH.cons rfl (fun K hK => ?_) AllReadyH.nil)
          · rw [if_pos (by kernel_rfl)]
            refine wp_alloc_R 40 rfl wz0 (by kernel_rfl) ?_
            have nh8h6 : Wq.heap.size ≠ Wd149.heap.size := Nat.ne_of_lt (Held.lt h8)
            have nh7h6 : Wd121.heap.size ≠ Wd149.heap.size := Nat.ne_of_lt (Held.lt h7)
            have nh5h6 : Wd148.heap.size ≠ Wd149.heap.size := Nat.ne_of_lt (Held.lt h5)
            have hbA := ((Below.refl _ _).alloc (Nat.le_refl _) _ : Below Wd149.heap.size Wd149 (Wd149.alloc (.cells wz0 40)))
            replace h8 := Held.below h8 hbA
            replace h7 := Held.below h7 hbA
            replace h5 := Held.below h5 hbA
            have h6 := Held.new Wd149 40 wz0
            have lh6 := hS.size
            replace hS := Below.step hS hbA
            clear hbA
            generalize Wd149.alloc (.cells wz0 40) = Wd150 at *
            refine hK.out _ _ hS (fun _ => ?_)
            clear hK K
            (try simp only [Act.put, List.getElem_toArray, List.getElem_cons_succ, List.getElem_cons_zero, List.setIfInBounds_toArray, List.set_cons_zero, List.set_cons_succ])
            refine wpAnyH_ready (rs := [8]) (by kernel_rfl) (by simp) ?_
            refine (AllReadyH.cons rfl (fun K hK => ?_) AllReadyH.nil)
            · rw [if_pos (by kernel_rfl)]
              refine wp_store_row 40 _ _ rfl _ (wcs a U) (by rfl) (by rfl) _ _ h5 (by kernel_rfl) rfl (by simp [Value.oneCell']) ?_
              replace h8 := held_row h8 nh8h5 (wcs a U)
              replace h7 := held_row h7 nh7h5 (wcs a U)
              replace h6 := held_row h6 (Ne.symm nh5h6) (wcs a U)
              replace hS := below_setRow hS lh5 (wcs a U)
              replace h5 := held_rowSelf h5 (wcs a U)
              generalize World.setRow _ _ (wcs a U) = Wd151 at *
              refine hK.out _ _ hS (fun _ => ?_)
              clear hK K
              (try simp only [Act.put, List.getElem_toArray, List.getElem_cons_succ, List.getElem_cons_zero, List.setIfInBounds_toArray, List.set_cons_zero, List.set_cons_succ])
              refine wpAnyH_ready (rs := [9]) (by kernel_rfl) (by simp) ?_
              refine (AllReadyH.cons rfl (fun K hK => ?_) AllReadyH.nil)
              · rw [if_pos (by kernel_rfl)]
                refine wp_store_row 40 _ _ rfl _ (wcs a U) (by rfl) (by rfl) _ _ h6 (by kernel_rfl) rfl (by simp [Value.oneCell']) ?_
                replace h8 := held_row h8 nh8h6 (wcs a U)
                replace h7 := held_row h7 nh7h6 (wcs a U)
                replace h5 := held_row h5 nh5h6 (wcs a U)
                replace hS := below_setRow hS lh6 (wcs a U)
                replace h6 := held_rowSelf h6 (wcs a U)
                generalize World.setRow _ _ (wcs a U) = Wd152 at *
                refine hK.out _ _ hS (fun _ => ?_)
                clear hK K
                (try simp only [Act.put, List.getElem_toArray, List.getElem_cons_succ, List.getElem_cons_zero, List.setIfInBounds_toArray, List.set_cons_zero, List.set_cons_succ])
                refine wpAnyH_ready (rs := [10]) (by kernel_rfl) (by simp) ?_
                refine (AllReadyH.cons rfl (fun K hK => ?_) AllReadyH.nil)
                · rw [if_pos (by kernel_rfl)]
                  refine wp_store_row 40 _ _ rfl _ (wcs a U) (by rfl) (by rfl) _ _ h7 (by kernel_rfl) rfl (by simp [Value.oneCell']) ?_
                  replace h8 := held_row h8 nh8h7 (wcs a U)
                  replace h5 := held_row h5 (Ne.symm nh7h5) (wcs a U)
                  replace h6 := held_row h6 (Ne.symm nh7h6) (wcs a U)
                  replace hS := below_setRow hS lh7 (wcs a U)
                  replace h7 := held_rowSelf h7 (wcs a U)
                  generalize World.setRow _ _ (wcs a U) = Wd153 at *
                  refine hK.out _ _ hS (fun _ => ?_)
                  clear hK K
                  (try simp only [Act.put, List.getElem_toArray, List.getElem_cons_succ, List.getElem_cons_zero, List.setIfInBounds_toArray, List.set_cons_zero, List.set_cons_succ])
                  refine wpAnyH_ready (rs := [11]) (by kernel_rfl) (by simp) ?_
                  refine (AllReadyH.cons rfl (fun K hK => ?_) AllReadyH.nil)
                  · rw [if_pos (by kernel_rfl)]
                    refine wp_store_row 40 _ _ rfl _ (wcs a U) (by rfl) (by rfl) _ _ h8 (by kernel_rfl) rfl (by simp [Value.oneCell']) ?_
                    replace h7 := held_row h7 (Ne.symm nh8h7) (wcs a U)
                    replace h5 := held_row h5 (Ne.symm nh8h5) (wcs a U)
                    replace h6 := held_row h6 (Ne.symm nh8h6) (wcs a U)
                    replace hS := below_setRow hS lh8 (wcs a U)
                    replace h8 := held_rowSelf h8 (wcs a U)
                    generalize World.setRow _ _ (wcs a U) = Wd154 at *
                    refine hK.out _ _ hS (fun _ => ?_)
                    clear hK K
                    (try simp only [Act.put, List.getElem_toArray, List.getElem_cons_succ, List.getElem_cons_zero, List.setIfInBounds_toArray, List.set_cons_zero, List.set_cons_succ])
                    refine wpAnyH_done (by kernel_rfl) ?_ _
                    (repeat (first | go_skip | go_guarded | go_step | go_upon))
                    go_meet
                    case rel => exact ⟨_, _, _, _, rfl, rfl, rfl, rfl, ⟨h5, h6, h7, h8, nh5h6, (Ne.symm nh7h5), (Ne.symm nh8h5), (Ne.symm nh7h6), (Ne.symm nh8h6), (Ne.symm nh8h7), Nat.le_trans hlo lh5, Nat.le_trans hlo lh6, Nat.le_trans hlo lh7, Nat.le_trans hlo lh8⟩, Below.step HDR.out hS⟩
        · rw [if_pos (by kernel_rfl)]
          refine wp_alloc_R 40 rfl wz0 (by kernel_rfl) ?_
          have nh8h6 : Wq.heap.size ≠ Wd148.heap.size := Nat.ne_of_lt (Held.lt h8)
          have nh7h6 : Wd121.heap.size ≠ Wd148.heap.size := Nat.ne_of_lt (Held.lt h7)
          have hbA := ((Below.refl _ _).alloc (Nat.le_refl _) _ : Below Wd148.heap.size Wd148 (Wd148.alloc (.cells wz0 40)))
          replace h8 := Held.below h8 hbA
          replace h7 := Held.below h7 hbA
          have h6 := Held.new Wd148 40 wz0
          have lh6 := hS.size
          replace hS := Below.step hS hbA
          clear hbA
          generalize Wd148.alloc (.cells wz0 40) = Wd155 at *
          refine hK.out _ _ hS (fun _ => ?_)
          clear hK K
          (try simp only [Act.put, List.getElem_toArray, List.getElem_cons_succ, List.getElem_cons_zero, List.setIfInBounds_toArray, List.set_cons_zero, List.set_cons_succ])
          refine wpAnyH_ready (rs := [4]) (by kernel_rfl) (by simp) ?_
          refine (AllReadyH.cons rfl (fun K hK => ?_) AllReadyH.nil)
          · rw [if_pos (by kernel_rfl)]
            refine wp_alloc_R 40 rfl wz0 (by kernel_rfl) ?_
            have nh8h5 : Wq.heap.size ≠ Wd155.heap.size := Nat.ne_of_lt (Held.lt h8)
            have nh7h5 : Wd121.heap.size ≠ Wd155.heap.size := Nat.ne_of_lt (Held.lt h7)
            have nh6h5 : Wd148.heap.size ≠ Wd155.heap.size := Nat.ne_of_lt (Held.lt h6)
            have hbA := ((Below.refl _ _).alloc (Nat.le_refl _) _ : Below Wd155.heap.size Wd155 (Wd155.alloc (.cells wz0 40)))
            replace h8 := Held.below h8 hbA
            replace h7 := Held.below h7 hbA
            replace h6 := Held.below h6 hbA
            have h5 := Held.new Wd155 40 wz0
            have lh5 := hS.size
            replace hS := Below.step hS hbA
            clear hbA
            generalize Wd155.alloc (.cells wz0 40) = Wd156 at *
            refine hK.out _ _ hS (fun _ => ?_)
            clear hK K
            (try simp only [Act.put, List.getElem_toArray, List.getElem_cons_succ, List.getElem_cons_zero, List.setIfInBounds_toArray, List.set_cons_zero, List.set_cons_succ])
            refine wpAnyH_ready (rs := [8]) (by kernel_rfl) (by simp) ?_
            refine (AllReadyH.cons rfl (fun K hK => ?_) AllReadyH.nil)
            · rw [if_pos (by kernel_rfl)]
              refine wp_store_row 40 _ _ rfl _ (wcs a U) (by rfl) (by rfl) _ _ h5 (by kernel_rfl) rfl (by simp [Value.oneCell']) ?_
              replace h8 := held_row h8 nh8h5 (wcs a U)
              replace h7 := held_row h7 nh7h5 (wcs a U)
              replace h6 := held_row h6 nh6h5 (wcs a U)
              replace hS := below_setRow hS lh5 (wcs a U)
              replace h5 := held_rowSelf h5 (wcs a U)
              generalize World.setRow _ _ (wcs a U) = Wd157 at *
              refine hK.out _ _ hS (fun _ => ?_)
              clear hK K
              (try simp only [Act.put, List.getElem_toArray, List.getElem_cons_succ, List.getElem_cons_zero, List.setIfInBounds_toArray, List.set_cons_zero, List.set_cons_succ])
              refine wpAnyH_ready (rs := [9]) (by kernel_rfl) (by simp) ?_
              refine (AllReadyH.cons rfl (fun K hK => ?_) AllReadyH.nil)
              · rw [if_pos (by kernel_rfl)]
                refine wp_store_row 40 _ _ rfl _ (wcs a U) (by rfl) (by rfl) _ _ h6 (by kernel_rfl) rfl (by simp [Value.oneCell']) ?_
                replace h8 := held_row h8 nh8h6 (wcs a U)
                replace h7 := held_row h7 nh7h6 (wcs a U)
                replace h5 := held_row h5 (Ne.symm nh6h5) (wcs a U)
                replace hS := below_setRow hS lh6 (wcs a U)
                replace h6 := held_rowSelf h6 (wcs a U)
                generalize World.setRow _ _ (wcs a U) = Wd158 at *
                refine hK.out _ _ hS (fun _ => ?_)
                clear hK K
                (try simp only [Act.put, List.getElem_toArray, List.getElem_cons_succ, List.getElem_cons_zero, List.setIfInBounds_toArray, List.set_cons_zero, List.set_cons_succ])
                refine wpAnyH_ready (rs := [10]) (by kernel_rfl) (by simp) ?_
                refine (AllReadyH.cons rfl (fun K hK => ?_) AllReadyH.nil)
                · rw [if_pos (by kernel_rfl)]
                  refine wp_store_row 40 _ _ rfl _ (wcs a U) (by rfl) (by rfl) _ _ h7 (by kernel_rfl) rfl (by simp [Value.oneCell']) ?_
                  replace h8 := held_row h8 nh8h7 (wcs a U)
                  replace h6 := held_row h6 (Ne.symm nh7h6) (wcs a U)
                  replace h5 := held_row h5 (Ne.symm nh7h5) (wcs a U)
                  replace hS := below_setRow hS lh7 (wcs a U)
                  replace h7 := held_rowSelf h7 (wcs a U)
                  generalize World.setRow _ _ (wcs a U) = Wd159 at *
                  refine hK.out _ _ hS (fun _ => ?_)
                  clear hK K
                  (try simp only [Act.put, List.getElem_toArray, List.getElem_cons_succ, List.getElem_cons_zero, List.setIfInBounds_toArray, List.set_cons_zero, List.set_cons_succ])
                  refine wpAnyH_ready (rs := [11]) (by kernel_rfl) (by simp) ?_
                  refine (AllReadyH.cons rfl (fun K hK => ?_) AllReadyH.nil)
                  · rw [if_pos (by kernel_rfl)]
                    refine wp_store_row 40 _ _ rfl _ (wcs a U) (by rfl) (by rfl) _ _ h8 (by kernel_rfl) rfl (by simp [Value.oneCell']) ?_
                    replace h7 := held_row h7 (Ne.symm nh8h7) (wcs a U)
                    replace h6 := held_row h6 (Ne.symm nh8h6) (wcs a U)
                    replace h5 := held_row h5 (Ne.symm nh8h5) (wcs a U)
                    replace hS := below_setRow hS lh8 (wcs a U)
                    replace h8 := held_rowSelf h8 (wcs a U)
                    generalize World.setRow _ _ (wcs a U) = Wd160 at *
                    refine hK.out _ _ hS (fun _ => ?_)
                    clear hK K
                    (try simp only [Act.put, List.getElem_toArray, List.getElem_cons_succ, List.getElem_cons_zero, List.setIfInBounds_toArray, List.set_cons_zero, List.set_cons_succ])
                    refine wpAnyH_done (by kernel_rfl) ?_ _
                    (repeat (first | go_skip | go_guarded | go_step | go_upon))
                    go_meet
                    case rel => exact ⟨_, _, _, _, rfl, rfl, rfl, rfl, ⟨h5, h6, h7, h8, (Ne.symm nh6h5), (Ne.symm nh7h5), (Ne.symm nh8h5), (Ne.symm nh7h6), (Ne.symm nh8h6), (Ne.symm nh8h7), Nat.le_trans hlo lh5, Nat.le_trans hlo lh6, Nat.le_trans hlo lh7, Nat.le_trans hlo lh8⟩, Below.step HDR.out hS⟩
  case rest =>
    obtain ⟨g5, g6, g7, g8, rfl, rfl, rfl, rfl, f4, hb4⟩ := hcut
    obtain ⟨k5, k6, k7, k8, n56, n57, n58, n67, n68, n78, l5, l6, l7, l8⟩ := f4
    have l2 := k2.lt
    have n25 : w.heap.size ≠ g5 := by omega
    have n26 : w.heap.size ≠ g6 := by omega
    have n27 : w.heap.size ≠ g7 := by omega
    have n28 : w.heap.size ≠ g8 := by omega
    have w5 : w.heap.size ≤ g5 := by omega
    have w6 : w.heap.size ≤ g6 := by omega
    have w7 : w.heap.size ≤ g7 := by omega
    have w8 : w.heap.size ≤ g8 := by omega
    replace k2 := k2.below hb4
    replace hW := Below.step hW hb4
    clear hb4 l2 l5 l6 l7 l8
    have LU := sm_lenW H2.out HZU.out.prog
    have H70 : U.rings.length ≤ 70 ∧ U.cur.length ≤ 70 := by
      have h8 := H2.out
      unfold smW at h8
      simp only [Bool.and_eq_true, decide_eq_true_eq] at h8
      exact ⟨h8.1.1.1.2, h8.1.1.2⟩
    have HLU := Lib.hid (And.intro LU H70)
    clear LU H70
    obtain ⟨UA, hUA⟩ : ∃ X : Wld, X = { U with used := wrap64 (U.used + 1) } := ⟨_, rfl⟩
    obtain ⟨UB, hUB⟩ : ∃ X : Wld, X = { U with lr := wrap64 (U.lr + 1) } := ⟨_, rfl⟩
    have HUA := Lib.hid hUA
    have HUB := Lib.hid hUB
    clear hUA hUB
    have x11 := k2.cell 11
    have y11 := k5.cell 11
    have z11 := k5.fz 11
    simp at x11 y11
    go_upto_region 5 with (fail)
    replace hW := hW.setCell (p := ⟨g5, 11, none⟩) w5 (.int .i64 (wrap64 (U.used + 1)))
    replace k2 := k2.far n25 11 (.int .i64 (wrap64 (U.used + 1)))
    replace k5 : Held (wc.setCell ⟨g5, 11, none⟩ (.int .i64 (wrap64 (U.used + 1)))) g5 40 (wcs a UA) := by rw [HUA.out]; exact k5.set_at 11 (.int .i64 (wrap64 (U.used + 1)))
    replace k6 := k6.far (Ne.symm n56) 11 (.int .i64 (wrap64 (U.used + 1)))
    replace k7 := k7.far (Ne.symm n57) 11 (.int .i64 (wrap64 (U.used + 1)))
    replace k8 := k8.far (Ne.symm n58) 11 (.int .i64 (wrap64 (U.used + 1)))
    clear x11 y11 z11
    generalize World.setCell _ _ _ = W4 at *
    have x3 := k2.cell 3
    have y3 := k6.cell 3
    have z3 := k6.fz 3
    simp at x3 y3
    go_upto_region 6 with (fail)
    replace hW := hW.setCell (p := ⟨g6, 3, none⟩) w6 (.int .i64 (wrap64 (U.lr + 1)))
    replace k2 := k2.far n26 3 (.int .i64 (wrap64 (U.lr + 1)))
    replace k6 : Held (W4.setCell ⟨g6, 3, none⟩ (.int .i64 (wrap64 (U.lr + 1)))) g6 40 (wcs a UB) := by rw [HUB.out]; exact k6.set_at 3 (.int .i64 (wrap64 (U.lr + 1)))
    replace k5 := k5.far n56 3 (.int .i64 (wrap64 (U.lr + 1)))
    replace k7 := k7.far (Ne.symm n67) 3 (.int .i64 (wrap64 (U.lr + 1)))
    replace k8 := k8.far (Ne.symm n68) 3 (.int .i64 (wrap64 (U.lr + 1)))
    clear x3 y3 z3
    generalize World.setCell _ _ _ = W5 at *
    have x8 := k2.cell 8
    have x8a := (k2.alloc (.cells #[] 33)).cell 8
    simp at x8 x8a
    have l27 := k2.lt
    have HWW := Lib.hid hW
    have HC6 := Lib.hid ((PU.out W5 hW).cur)
    have HW5 := Lib.hid (show w.heap.size ≤ W5.heap.size from hW.size)
    go_upto_region 7 with (first
      | (guard_target = wpList _ _ _ (Oper.mk (some 37) _ _ _ _ _ :: _) _ _; at_builtin; refine wpList_append_rs0 rfl _ _ rfl W5 rfl rfl (A := a.aq) (c := a.cq) (k := U.cur) (n := U.cur.length) (C := W5.heap.size) rfl rfl (HC6.out.below ((Below.refl _ _).alloc (Nat.le_refl _) _) (Nat.le_refl _)) (by have := HLU.out.2.2; omega) ?_; intro A6 c6 u6 o6 b6; replace k2 := Held.below k2 b6; replace k5 := Held.below k5 b6; replace k6 := Held.below k6 b6; replace k7 := Held.below k7 b6; replace k8 := Held.below k8 b6; replace hW := Below.step hW b6)
      | (go_at_call 10; (with_reducible refine (none_z _).mono ?_); rintro _ u7 ⟨rfl, b7⟩; replace k2 := Held.below k2 b7; replace k5 := Held.below k5 b7; replace k6 := Held.below k6 b7; replace k7 := Held.below k7 b7; replace k8 := Held.below k8 b7; replace hW := Below.step hW b7; have ba7 : Below u7.heap.size u7 (u7.alloc (.cells #[.int .i64 (-1), .int .i64 0] 33)) := (Below.refl _ _).alloc (Nat.le_refl _) _; have O7 := Lib.hid (show OwnR (u7.alloc (.cells #[.int .i64 (-1), .int .i64 0] 33)) W5.heap.size (.slice A6 U.cur.length c6) U.cur from r_later (r_later o6 b7) ba7); have HS7 := Lib.hid (show W5.heap.size ≤ (u7.alloc (.cells #[.int .i64 (-1), .int .i64 0] 33)).heap.size from Nat.le_trans (Nat.le_trans b6.size b7.size) ba7.size); have HB7 := Lib.hid (show Below w.heap.size w (u7.alloc (.cells #[.int .i64 (-1), .int .i64 0] 33)) from Below.step hW ba7); clear ba7 o6)
      | (guard_target = wpList _ _ _ (Oper.mk (some 40) _ _ _ _ _ :: _) _ _; at_builtin; refine wpList_append_rs rfl _ _ rfl W5.heap.size _ U.cur rfl O7.out (k := [noV]) (n := 1) rfl rfl (one2_at (-1) 0) (Nat.le_refl _) (by have := HLU.out.2.2; omega) HS7.out ?_; intro v8 u8 r1 r2 r3; obtain ⟨A8, c8, rfl, -⟩ := Own2.lies r1; obtain ⟨n8, hn8⟩ : ∃ n, (U.cur ++ [noV]).length = n := ⟨_, rfl⟩; rw [hn8]; have HN8 := Lib.hid hn8; have kt8 := kt_own O7.out r2; have bl8 := below_grow r2 (fun q e => (World.ownsRow.lt O7.out q e).1) HS7.out; replace k2 := held_kt (k2.alloc _) kt8 (by decide); replace k5 := held_kt (k5.alloc _) kt8 (by decide); replace k6 := held_kt (k6.alloc _) kt8 (by decide); replace k7 := held_kt (k7.alloc _) kt8 (by decide); replace k8 := held_kt (k8.alloc _) kt8 (by decide); have R1 := Lib.hid r1; replace hW := HB7.out.trans (bl8.mono HW5.out); have y8 := k7.cell 8; have z8 := k7.fz 8; simp at y8; clear hn8 r1 r2 r3 kt8 bl8))
    have R1 := R1
    have kw8 := ktc k7 8 (.slice A8 n8 c8)
    replace hW := hW.setCell (p := ⟨g7, 8, none⟩) w7 (.slice A8 n8 c8)
    replace k2 := k2.far n27 8 (.slice A8 n8 c8)
    replace k5 := k5.far n57 8 (.slice A8 n8 c8)
    replace k6 := k6.far n67 8 (.slice A8 n8 c8)
    replace k8 := k8.far (Ne.symm n78) 8 (.slice A8 n8 c8)
    obtain ⟨UC, hUC⟩ : ∃ X : Wld, X = { U with cur := U.cur ++ [noV] } := ⟨_, rfl⟩
    obtain ⟨aC, haC⟩ : ∃ X : WA, X = { a with aq := A8, cq := c8 } := ⟨_, rfl⟩
    have HUC := Lib.hid (And.intro hUC haC)
    replace k7 : Held (u8.setCell ⟨g7, 8, none⟩ (.slice A8 n8 c8)) g7 40 (wcs aC UC) := by
      have h9 := k7.set_at 8 (.slice A8 n8 c8)
      rw [hUC, haC]
      simp only [wcs, HN8.out]
      exact h9
    have oC : OwnR (u8.setCell ⟨g7, 8, none⟩ (.slice A8 n8 c8)) W5.heap.size (.slice A8 n8 c8) (U.cur ++ [noV]) := by
      have h9 := R1.out
      rw [HN8.out] at h9
      exact row_kt h9 kw8 (by decide)
    clear R1 kw8 y8 z8 O7 HS7 HB7 hUC haC x8 x8a l27 HWW HC6 b6 b7
    generalize World.setCell _ _ _ = W6 at *
    have HW6 := Lib.hid (show w.heap.size ≤ W6.heap.size from hW.size)
    have x7 := k2.cell 7
    have x7a := (k2.alloc (.cells #[] 46)).cell 7
    simp at x7 x7a
    have l26 := k2.lt
    have GR := Lib.hid ((HU0.out.below hW (Nat.le_refl _)).rings)
    have HHW := Lib.hid hW
    have OC6 := Lib.hid oC
    clear oC
    go_upto_region 8 with (first
      | (guard_target = wpList _ _ _ (Oper.mk (some 45) _ _ _ _ _ :: _) _ _; at_builtin; refine wpList_of_wp rfl (fun K hK => wp_append_g0 _ _ rfl W6.heap.size rfl (World.ownsRow_made W6 #[] 0 (Nat.le_refl _) (by decide) rfl) (A := a.ar) (c := a.cr) (C := w.heap.size) (l := U.rings) rfl rfl (GR.out.below ((Below.refl _ _).alloc (Nat.le_refl _) _) HW6.out) HW6.out (by simp) (by have := HLU.out.2.1; omega) (fun A9 c9 u9 q1 q2 q3 q4 => hK _ _ ?_)); replace k2 := held_kt (k2.alloc _) q3 (by decide); replace k5 := held_kt (k5.alloc _) q3 (by decide); replace k6 := held_kt (k6.alloc _) q3 (by decide); replace k7 := held_kt (k7.alloc _) q3 (by decide); replace k8 := held_kt (k8.alloc _) q3 (by decide); have ba6 : Below W6.heap.size W6 (W6.alloc (.cells #[] 46)) := (Below.refl _ _).alloc (Nat.le_refl _) _; have bb9 := ba6.trans q4; replace hW := HHW.out.trans (bb9.mono HW6.out); have ba9 : Below u9.heap.size u9 (u9.alloc (.cells (rgc none 0 0 0 0 0) 46)) := (Below.refl _ _).alloc (Nat.le_refl _) _; have RG9 := Lib.hid (q1.below ba9 hW.size); have HB9 := Lib.hid (Below.step hW ba9); have HS9 := Lib.hid (Nat.le_trans bb9.size ba9.size); have OC9 := Lib.hid (show OwnR u9 W5.heap.size (.slice A8 n8 c8) (U.cur ++ [noV]) from row_kt (r_later OC6.out ba6) q3 (by decide)); have hn9 := Held.new u9 46 (rgc none 0 0 0 0 0); have HN9 := Lib.hid hn9; clear hn9 q1 q2 q3 q4 ba6 bb9 ba9)
      | (guard_target = wpList _ _ _ (Oper.mk (some 48) _ _ _ _ _ :: _) _ _; at_builtin; refine wpList_of_wp rfl (fun K hK => wp_append_g1 _ _ rfl rfl RG9.out (r := rg00) (A1 := none) (c1 := 0) rfl HN9.out (Own2.nil _ _ _) HW6.out HS9.out (by have := HLU.out.2.1; omega) (fun A10 c10 u10 q1 q2 q3 => hK _ _ ?_)); replace k2 := held_kt (k2.alloc _) q2 (by decide); replace k5 := held_kt (k5.alloc _) q2 (by decide); replace k6 := held_kt (k6.alloc _) q2 (by decide); replace k7 := held_kt (k7.alloc _) q2 (by decide); replace k8 := held_kt (k8.alloc _) q2 (by decide); replace hW := HB9.out.trans (q3.mono HW6.out); have RG10 := Lib.hid q1; have OC10 := Lib.hid (show OwnR u10 W5.heap.size (.slice A8 n8 c8) (U.cur ++ [noV]) from row_kt (r_later OC9.out ((Below.refl _ _).alloc (Nat.le_refl _) _)) q2 (by decide)); obtain ⟨n10, hn10⟩ : ∃ n, U.rings.length + 1 = n := ⟨_, rfl⟩; rw [hn10]; have HN10 := Lib.hid hn10; have y7 := k8.cell 7; have z7 := k8.fz 7; simp at y7; clear hn10 q1 q2 q3))
    have kw7 := ktc k8 7 (.slice A10 n10 c10)
    have hb8w := hW.setCell (p := ⟨g8, 7, none⟩) w8 (.slice A10 n10 c10)
    have bst : Below w.heap.size u10 (u10.setCell ⟨g8, 7, none⟩ (.slice A10 n10 c10)) := (Below.refl _ _).setCell (p := ⟨g8, 7, none⟩) w8 _
    replace k2 := k2.far n28 7 (.slice A10 n10 c10)
    replace k5 := k5.far n58 7 (.slice A10 n10 c10)
    replace k6 := k6.far n68 7 (.slice A10 n10 c10)
    replace k7 := k7.far n78 7 (.slice A10 n10 c10)
    obtain ⟨UD, hUD⟩ : ∃ X : Wld, X = { U with rings := U.rings ++ [rg00] } := ⟨_, rfl⟩
    obtain ⟨aD, haD⟩ : ∃ X : WA, X = { a with ar := A10, cr := c10 } := ⟨_, rfl⟩
    have HUD := Lib.hid (And.intro hUD haD)
    replace k8 : Held (u10.setCell ⟨g8, 7, none⟩ (.slice A10 n10 c10)) g8 40 (wcs aD UD) := by
      have h9 := k8.set_at 7 (.slice A10 n10 c10)
      rw [hUD, haD]
      simp only [wcs, List.length_append, List.length_cons, List.length_nil, Nat.zero_add, HN10.out]
      exact h9
    have oC : OwnR (u10.setCell ⟨g8, 7, none⟩ (.slice A10 n10 c10)) W5.heap.size (.slice A8 n8 c8) (U.cur ++ [noV]) := row_kt OC10.out kw7 (by decide)
    have gD : RowG (u10.setCell ⟨g8, 7, none⟩ (.slice A10 n10 c10)) W6.heap.size w.heap.size A10 n10 c10 (U.rings ++ [rg00]) := by
      have h9 := RG10.out
      rw [HN10.out] at h9
      exact h9.kt kw7 (by decide) (by decide) bst
    replace hW := hb8w
    clear kw7 hb8w bst y7 z7 RG9 HB9 HS9 OC9 HN9 RG10 OC10 OC6 x7 x7a l26 GR HHW hUD haD
    generalize World.setCell _ _ _ = W7 at *
    have pu := PU.out W7 hW
    have pa : WAt W7 W7.heap.size a UA := by rw [HUA.out]; exact ⟨pu.prog, pu.pen, pu.rings, pu.cur⟩
    have pb : WAt W7 W7.heap.size a UB := by rw [HUB.out]; exact ⟨pu.prog, pu.pen, pu.rings, pu.cur⟩
    have pc : WAt W7 W7.heap.size aC UC := by rw [HUC.out.1, HUC.out.2]; exact ⟨pu.prog, pu.pen, pu.rings, own2_at oC⟩
    have pd : WAt W7 W7.heap.size aD UD := by rw [HUD.out.1, HUD.out.2]; exact ⟨pu.prog, pu.pen, gD.at hW.size, pu.cur⟩
    have HPS := Lib.hid (And.intro pu (And.intro pa (And.intro pb (And.intro pc pd))))
    have LU := HLU.out.1
    have LA := Lib.hid (show LenW UA by rw [HUA.out]; exact ⟨LU.prog, LU.pen, LU.rings, LU.buf, LU.cur⟩)
    have LB := Lib.hid (show LenW UB by rw [HUB.out]; exact ⟨LU.prog, LU.pen, LU.rings, LU.buf, LU.cur⟩)
    have LCc := Lib.hid (show LenW UC by rw [HUC.out.1]; exact ⟨LU.prog, LU.pen, LU.rings, LU.buf, by have := HLU.out.2.2; simp; omega⟩)
    have LD := Lib.hid (show LenW UD by
      rw [HUD.out.1]
      refine ⟨LU.prog, LU.pen, by have := HLU.out.2.1; simp; omega, fun r hr => ?_, LU.cur⟩
      rcases List.mem_append.1 hr with h | h
      · exact LU.buf r h
      · rw [List.mem_singleton.1 h]; simp)
    have E1 := Lib.hid (show sameW U UA = false by rw [HUA.out]; exact not_used (wrap_next_ne _))
    have E2 := Lib.hid (show sameW UB U = false by rw [HUB.out]; exact not_lr (wrap_next_ne _))
    have E3 := Lib.hid (show sameW U UC = false by rw [HUC.out.1]; exact not_cur)
    have E4 := Lib.hid (show sameW UD U = false by rw [HUD.out.1]; exact not_rings)
    have E5 := Lib.hid (sameW_refl U)
    have HLW := Lib.hid LU
    clear pu pa pb pc pd oC gD LU
    have hb9 := Below.refl W7.heap.size W7
    have HHW := Lib.hid hW
    clear hW
    go_upto_region 10 with (first
      | (guard_target = wpList _ _ _ (Oper.mk (some 50) _ _ _ _ none :: _) _ _; refine wpList_load_row rfl 40 _ rfl w.heap.size rfl _ _ _ _ k2 Tryd.underlying40 rfl (by kernel_rfl) ?_)
      | (guard_target = wpList _ _ _ (Oper.mk (some 51) _ _ _ _ none :: _) _ _; refine wpList_load_row rfl 40 _ rfl g5 rfl _ _ _ _ k5 Tryd.underlying40 rfl (by kernel_rfl) ?_)
      | (guard_target = wpList _ _ _ (Oper.mk (some 54) _ _ _ _ _ :: _) _ _; refine wpList_done rfl ?_; refine wpList_load_row rfl 40 _ rfl g6 rfl _ _ _ _ k6 Tryd.underlying40 rfl (by kernel_rfl) ?_)
      | (guard_target = wpList _ _ _ (Oper.mk (some 55) _ _ _ _ _ :: _) _ _; refine wpList_done rfl ?_; refine wpList_load_row rfl 40 _ rfl w.heap.size rfl _ _ _ _ k2 Tryd.underlying40 rfl (by kernel_rfl) ?_)
      | (guard_target = wpList _ _ _ (Oper.mk (some 59) _ _ _ _ _ :: _) _ _; refine wpList_done rfl ?_; refine wpList_load_row rfl 40 _ rfl w.heap.size rfl _ _ _ _ k2 Tryd.underlying40 rfl (by kernel_rfl) ?_)
      | (guard_target = wpList _ _ _ (Oper.mk (some 60) _ _ _ _ _ :: _) _ _; refine wpList_done rfl ?_; refine wpList_load_row rfl 40 _ rfl g7 rfl _ _ _ _ k7 Tryd.underlying40 rfl (by kernel_rfl) ?_)
      | (guard_target = wpList _ _ _ (Oper.mk (some 64) _ _ _ _ _ :: _) _ _; refine wpList_done rfl ?_; refine wpList_load_row rfl 40 _ rfl g8 rfl _ _ _ _ k8 Tryd.underlying40 rfl (by kernel_rfl) ?_)
      | (guard_target = wpList _ _ _ (Oper.mk (some 65) _ _ _ _ _ :: _) _ _; refine wpList_done rfl ?_; refine wpList_load_row rfl 40 _ rfl w.heap.size rfl _ _ _ _ k2 Tryd.underlying40 rfl (by kernel_rfl) ?_)
      | (guard_target = wpList _ _ _ (Oper.mk (some 69) _ _ _ _ _ :: _) _ _; refine wpList_done rfl ?_; refine wpList_load_row rfl 40 _ rfl w.heap.size rfl _ _ _ _ k2 Tryd.underlying40 rfl (by kernel_rfl) ?_)
      | (guard_target = wpList _ _ _ (Oper.mk (some 70) _ _ _ _ _ :: _) _ _; refine wpList_done rfl ?_; refine wpList_load_row rfl 40 _ rfl w.heap.size rfl _ _ _ _ k2 Tryd.underlying40 rfl (by kernel_rfl) ?_)
      | (go_at_call 12; (with_reducible refine (sameW_c C E1.out HLW.out LA.out _ (C.kept HT.out (Below.step HHW.out hb9)) (HPS.out.1.later hb9) (HPS.out.2.1.later hb9)).mono ?_); rintro _ uA ⟨rfl, bS⟩; replace k2 := Held.below k2 bS; replace k5 := Held.below k5 bS; replace k6 := Held.below k6 bS; replace k7 := Held.below k7 bS; replace k8 := Held.below k8 bS; replace hb9 := Below.step hb9 bS; clear bS)
      | (go_at_call 12; (with_reducible refine (sameW_c C E2.out LB.out HLW.out _ (C.kept HT.out (Below.step HHW.out hb9)) (HPS.out.2.2.1.later hb9) (HPS.out.1.later hb9)).mono ?_); rintro _ uB ⟨rfl, bS⟩; replace k2 := Held.below k2 bS; replace k5 := Held.below k5 bS; replace k6 := Held.below k6 bS; replace k7 := Held.below k7 bS; replace k8 := Held.below k8 bS; replace hb9 := Below.step hb9 bS; clear bS)
      | (go_at_call 12; (with_reducible refine (sameW_c C E3.out HLW.out LCc.out _ (C.kept HT.out (Below.step HHW.out hb9)) (HPS.out.1.later hb9) (HPS.out.2.2.2.1.later hb9)).mono ?_); rintro _ uC ⟨rfl, bS⟩; replace k2 := Held.below k2 bS; replace k5 := Held.below k5 bS; replace k6 := Held.below k6 bS; replace k7 := Held.below k7 bS; replace k8 := Held.below k8 bS; replace hb9 := Below.step hb9 bS; clear bS)
      | (go_at_call 12; (with_reducible refine (sameW_c C E4.out LD.out HLW.out _ (C.kept HT.out (Below.step HHW.out hb9)) (HPS.out.2.2.2.2.later hb9) (HPS.out.1.later hb9)).mono ?_); rintro _ uD ⟨rfl, bS⟩; replace k2 := Held.below k2 bS; replace k5 := Held.below k5 bS; replace k6 := Held.below k6 bS; replace k7 := Held.below k7 bS; replace k8 := Held.below k8 bS; replace hb9 := Below.step hb9 bS; clear bS)
      | (go_at_call 12; (with_reducible refine (sameW_c C E5.out HLW.out HLW.out _ (C.kept HT.out (Below.step HHW.out hb9)) (HPS.out.1.later hb9) (HPS.out.1.later hb9)).mono ?_); rintro _ uE ⟨rfl, bS⟩; replace k2 := Held.below k2 bS; replace k5 := Held.below k5 bS; replace k6 := Held.below k6 bS; replace k7 := Held.below k7 bS; replace k8 := Held.below k8 bS; replace hb9 := Below.step hb9 bS; clear bS))
    have hW := Below.step HHW.out hb9
    clear k5 k6 k7 k8 HPS LA LB LCc LD E1 E2 E3 E4 HUA HUB HUC HUD hb9 HHW HN8 HN10 n56 n57 n58 n67 n68 n78 n25 n26 n27 n28 w5 w6 w7 w8 HW5 HW6
    obtain ⟨np, hnp⟩ : ∃ n, U.pen.cells.length = n := ⟨_, rfl⟩
    have x4 := k2.cell 4
    simp at x4
    rw [hnp] at x4
    have npI : (np : Int) ≤ 2000 := by have := HLW.out.pen.cells; omega
    have HNP := Lib.hid hnp
    clear hnp
    by_cases hm1 : at0 < 0
    case pos =>
      go_wp2_with fail
      go_ret
      exact ⟨rfl, hW⟩
    case neg =>
    by_cases hm2 : (np : Int) ≤ at0
    case pos =>
      go_wp2_with fail
      go_ret
      exact ⟨rfl, hW⟩
    case neg =>
    obtain ⟨k, rfl⟩ : ∃ k : Nat, at0 = k := ⟨at0.toNat, by omega⟩
    have hkn : k < np := by omega
    have hkI : (k : Int) < (np : Int) := by omega
    have hk0 : (0 : Int) ≤ (k : Int) := by omega
    clear hm1
    go_upto_region 12 with (fail)
    clear x4
    have hn9 := Held.new uE 40 wz0
    go_upto_region 13 with (first
      | (guard_target = wpList _ _ _ (Oper.mk (some 84) _ _ _ _ none :: _) _ _; refine wpList_load_row rfl 40 _ rfl w.heap.size rfl _ _ _ _ k2 Tryd.underlying40 rfl (by kernel_rfl) ?_)
      | (guard_target = wpList _ _ _ (Oper.mk _ (Op.store 40 (.tmp 9) _) _ _ _ none :: _) _ _; refine wpList_store_row rfl 40 _ _ rfl uE.heap.size (wcs a U) rfl rfl _ _ hn9 (by kernel_rfl) rfl (by simp [Value.oneCell']) ?_))
    have bst : Below uE.heap.size uE ((uE.alloc (.cells wz0 40)).setRow uE.heap.size (wcs a U)) := below_setRow ((Below.refl _ _).alloc (Nat.le_refl _) _) (Nat.le_refl _) _
    have k9 := held_rowSelf hn9 (wcs a U)
    have n29 : w.heap.size ≠ uE.heap.size := Nat.ne_of_lt k2.lt
    have w9 : w.heap.size ≤ uE.heap.size := hW.size
    replace k2 := k2.below bst
    replace hW := Below.step hW bst
    clear hn9 bst
    generalize World.setRow _ uE.heap.size _ = W9 at *
    generalize uE.heap.size = g9 at *
    have x4 := k2.cell 4
    have x4a := (k2.alloc (.cells #[] 56)).cell 4
    simp at x4 x4a
    rw [HNP.out] at x4 x4a
    have GC := Lib.hid ((HU0.out.below hW (Nat.le_refl _)).pen.cells)
    have HS9 := Lib.hid hW.size
    have HL9 := Lib.hid (And.intro k2.lt k9.lt)
    have l29 := k2.lt
    go_upto_region 14 with (guard_target = wpList _ _ _ (Oper.mk (some 89) _ _ _ _ _ :: _) _ _; at_builtin; refine wpList_append_cs0 rfl _ _ rfl W9 rfl rfl (A := a.ac) (c := a.cc) (C := w.heap.size) (l := U.pen.cells) (n := np) HNP.out rfl GC.out HS9.out (by have := HLW.out.pen.cells; have := HNP.out; omega) ?_; intro Ac cc uc ys q1 q2 q3; have RC := Lib.hid (show RowC uc W9.heap.size w.heap.size Ac np cc U.pen.cells from ⟨ys, q1, q2⟩); replace k2 := Held.below k2 q3; replace k9 := Held.below k9 q3; replace hW := Below.step hW q3; clear q1 q2 q3)
    clear x4 x4a l29 GC
    obtain ⟨gc, A1, c1, A2, c2, A3, c3, rfl, hgc, hgcs, hrng, hfr, hth⟩ := RC.out.elem (j := k) (by rw [HNP.out]; exact hkn)
    obtain ⟨ck, hck⟩ : ∃ x, U.pen.cells[k]'(by rw [HNP.out]; exact hkn) = x := ⟨_, rfl⟩
    rw [hck] at hrng hfr
    obtain ⟨ls, hls⟩ : ∃ n, ck.frm.stk.length = n := ⟨_, rfl⟩
    obtain ⟨ll, hll⟩ : ∃ n, ck.frm.loc.length = n := ⟨_, rfl⟩
    obtain ⟨lt, hlt⟩ : ∃ n, ck.frm.slt.length = n := ⟨_, rfl⟩
    simp only [hls, hll, hlt] at hrng hfr
    have HCK := Lib.hid (And.intro hck (And.intro hls (And.intro hll hlt)))
    have HFR := Lib.hid hfr
    have HRN := Lib.hid hrng
    have HGC := Lib.hid (And.intro hgc hgcs)
    clear hck hls hll hlt hfr hrng hth hgc hgcs
    have hn11 := Held.new uc 56 cz0
    go_upto_region 15 with (first
      | (guard_target = wpList _ _ _ (Oper.mk (some 93) _ _ _ _ _ :: _) _ _; refine wpList_load_midA rfl 56 _ rfl gc (k * 18) rfl #[.int .i64 ck.gen, .bool ck.used, .int .i64 ck.frm.fn, .int .i64 ck.frm.pc, .slice A1 ls c1, .slice A2 ll c2, .slice A3 lt c3, .int .i64 ck.frm.seed, .int .i64 ck.frm.spn, .int .i64 ck.frm.drw, .int .i64 ck.frm.st, .int .i64 ck.frm.wt, .int .i64 ck.frm.otr, .int .i64 ck.frm.ore, .int .i64 ck.frm.oim, .int .i64 ck.frm.uat, .int .i64 ck.frm.ugn, .int .i64 ck.frm.usl] _ HRN.out Tryd.underlying56 rfl (by kernel_rfl) ?_)
      | (guard_target = wpList _ _ _ (Oper.mk _ (Op.store 56 (.tmp 11) _) _ _ _ none :: _) _ _; refine wpList_store_row rfl 56 _ _ rfl uc.heap.size #[.int .i64 ck.gen, .bool ck.used, .int .i64 ck.frm.fn, .int .i64 ck.frm.pc, .slice A1 ls c1, .slice A2 ll c2, .slice A3 lt c3, .int .i64 ck.frm.seed, .int .i64 ck.frm.spn, .int .i64 ck.frm.drw, .int .i64 ck.frm.st, .int .i64 ck.frm.wt, .int .i64 ck.frm.otr, .int .i64 ck.frm.ore, .int .i64 ck.frm.oim, .int .i64 ck.frm.uat, .int .i64 ck.frm.ugn, .int .i64 ck.frm.usl] rfl rfl _ _ hn11 (by kernel_rfl) rfl (by simp [Value.oneCell']) ?_))
    have bst : Below uc.heap.size uc ((uc.alloc (.cells cz0 56)).setRow uc.heap.size #[.int .i64 ck.gen, .bool ck.used, .int .i64 ck.frm.fn, .int .i64 ck.frm.pc, .slice A1 ls c1, .slice A2 ll c2, .slice A3 lt c3, .int .i64 ck.frm.seed, .int .i64 ck.frm.spn, .int .i64 ck.frm.drw, .int .i64 ck.frm.st, .int .i64 ck.frm.wt, .int .i64 ck.frm.otr, .int .i64 ck.frm.ore, .int .i64 ck.frm.oim, .int .i64 ck.frm.uat, .int .i64 ck.frm.ugn, .int .i64 ck.frm.usl]) := below_setRow ((Below.refl _ _).alloc (Nat.le_refl _) _) (Nat.le_refl _) _
    have k11 := held_rowSelf hn11 #[.int .i64 ck.gen, .bool ck.used, .int .i64 ck.frm.fn, .int .i64 ck.frm.pc, .slice A1 ls c1, .slice A2 ll c2, .slice A3 lt c3, .int .i64 ck.frm.seed, .int .i64 ck.frm.spn, .int .i64 ck.frm.drw, .int .i64 ck.frm.st, .int .i64 ck.frm.wt, .int .i64 ck.frm.otr, .int .i64 ck.frm.ore, .int .i64 ck.frm.oim, .int .i64 ck.frm.uat, .int .i64 ck.frm.ugn, .int .i64 ck.frm.usl]
    have n11 : gc ≠ uc.heap.size := Nat.ne_of_lt HGC.out.2
    have n911 : g9 ≠ uc.heap.size := Nat.ne_of_lt k9.lt
    have n211 : w.heap.size ≠ uc.heap.size := Nat.ne_of_lt k2.lt
    have w11 : w.heap.size ≤ uc.heap.size := hW.size
    replace k2 := k2.below bst
    replace k9 := k9.below bst
    have RC2 := RC.out.below bst hW.size
    have HFR11 := Lib.hid (HFR.out.below bst hW.size)
    replace hW := Below.step hW bst
    clear hn11 bst HRN
    generalize World.setRow _ uc.heap.size _ = W11 at *
    have HGC2 := HGC.out.2
    generalize uc.heap.size = g11 at *
    have y3 := k11.cell 3
    have z3 := k11.fz 3
    simp at y3
    go_upto_region 16 with (fail)
    obtain ⟨F9, hF9⟩ : ∃ F : Frm, F = { ck.frm with pc := wrap64 (ck.frm.pc + 1) } := ⟨_, rfl⟩
    obtain ⟨C9, hC9⟩ : ∃ x : Cel, x = ⟨ck.gen, ck.used, F9⟩ := ⟨_, rfl⟩
    have HF9 := Lib.hid (And.intro hF9 hC9)
    replace k2 := k2.far n211 3 (.int .i64 (wrap64 (ck.frm.pc + 1)))
    replace k9 := k9.far n911 3 (.int .i64 (wrap64 (ck.frm.pc + 1)))
    have hb11 : Below w.heap.size W11 (W11.setCell ⟨g11, 3, none⟩ (.int .i64 (wrap64 (ck.frm.pc + 1)))) := (Below.refl _ _).setCell (p := ⟨g11, 3, none⟩) w11 _
    have RC3 : RowC (W11.setCell ⟨g11, 3, none⟩ (.int .i64 (wrap64 (ck.frm.pc + 1)))) W9.heap.size w.heap.size (some ⟨gc, 0, none⟩) np cc U.pen.cells := by
      obtain ⟨ys, q1, q2⟩ := RC2
      exact ⟨ys, r_same q1 fun q e => (by
        simp only [Value.ownBlock, Option.some.injEq] at e
        subst e
        exact Below.heap_setCell _ ⟨g11, 3, none⟩ _ _ n11), q2.mono fun _ _ _ r => r.below hb11 (Nat.le_refl _)⟩
    replace hW := hW.setCell (p := ⟨g11, 3, none⟩) w11 (.int .i64 (wrap64 (ck.frm.pc + 1)))
    replace k11 : Held (W11.setCell ⟨g11, 3, none⟩ (.int .i64 (wrap64 (ck.frm.pc + 1)))) g11 56 #[.int .i64 ck.gen, .bool ck.used, .int .i64 ck.frm.fn, .int .i64 (wrap64 (ck.frm.pc + 1)), .slice A1 ls c1, .slice A2 ll c2, .slice A3 lt c3, .int .i64 ck.frm.seed, .int .i64 ck.frm.spn, .int .i64 ck.frm.drw, .int .i64 ck.frm.st, .int .i64 ck.frm.wt, .int .i64 ck.frm.otr, .int .i64 ck.frm.ore, .int .i64 ck.frm.oim, .int .i64 ck.frm.uat, .int .i64 ck.frm.ugn, .int .i64 ck.frm.usl] := k11.set_at 3 (.int .i64 (wrap64 (ck.frm.pc + 1)))
    have HFR9 : FrmAt (W11.setCell ⟨g11, 3, none⟩ (.int .i64 (wrap64 (ck.frm.pc + 1)))) w.heap.size (.agg (fcA F9 (.slice A1 ls c1) (.slice A2 ll c2) (.slice A3 lt c3))) F9 := by
      have h9 := (HFR11.out.below hb11 (Nat.le_refl _))
      obtain ⟨B1, d1, B2, d2, B3, d3, e, v1, v2, v3⟩ := h9
      simp only [fv, Value.agg.injEq, Array.mk.injEq, List.cons.injEq, Value.slice.injEq, true_and, and_true] at e
      obtain ⟨⟨rfl, rfl, rfl⟩, ⟨rfl, rfl, rfl⟩, ⟨rfl, rfl, rfl⟩⟩ := e
      rw [hF9]
      exact ⟨_, _, _, _, _, _, rfl, v1, v2, v3⟩
    clear y3 z3 hb11 RC2 hF9 hC9
    generalize World.setCell _ _ _ = W12 at *
    have HTH := Lib.hid (RC3.elem (j := k) (by rw [HNP.out]; exact hkn))
    have HRC3 := Lib.hid RC3
    have hth : W12.there gc (k * 18) 18 := by
      obtain ⟨g', B1, d1, B2, d2, B3, d3, e, -, -, -, -, h9⟩ := HTH.out
      simp only [Option.some.injEq, Addr.mk.injEq, and_true] at e
      subst e
      exact h9
    have HFF := Lib.hid HFR9
    clear RC3 HTH HFR9
    go_upto_region 17 with (first
      | (guard_target = wpList _ _ _ (Oper.mk (some 102) _ _ _ _ _ :: _) _ _; refine wpList_load_row rfl 56 _ rfl g11 rfl _ _ _ _ k11 Tryd.underlying56 rfl (by kernel_rfl) ?_)
      | (guard_target = wpList _ _ _ (Oper.mk none (Op.store 56 (.tmp 103) _) _ _ _ none :: _) _ _; refine wpList_store_mid rfl 56 _ _ rfl gc (k * 18) #[.int .i64 ck.gen, .bool ck.used, .int .i64 ck.frm.fn, .int .i64 (wrap64 (ck.frm.pc + 1)), .slice A1 ls c1, .slice A2 ll c2, .slice A3 lt c3, .int .i64 ck.frm.seed, .int .i64 ck.frm.spn, .int .i64 ck.frm.drw, .int .i64 ck.frm.st, .int .i64 ck.frm.wt, .int .i64 ck.frm.otr, .int .i64 ck.frm.ore, .int .i64 ck.frm.oim, .int .i64 ck.frm.uat, .int .i64 ck.frm.ugn, .int .i64 ck.frm.usl] rfl rfl hth (by kernel_rfl) (by simp [Value.oneCell']) ?_))
    have hjn : k < U.pen.cells.length := by rw [HNP.out]; exact hkn
    have RC4 : RowC (W12.setCells gc (k * 18) [.int .i64 ck.gen, .bool ck.used, .int .i64 ck.frm.fn, .int .i64 (wrap64 (ck.frm.pc + 1)), .slice A1 ls c1, .slice A2 ll c2, .slice A3 lt c3, .int .i64 ck.frm.seed, .int .i64 ck.frm.spn, .int .i64 ck.frm.drw, .int .i64 ck.frm.st, .int .i64 ck.frm.wt, .int .i64 ck.frm.otr, .int .i64 ck.frm.ore, .int .i64 ck.frm.oim, .int .i64 ck.frm.uat, .int .i64 ck.frm.ugn, .int .i64 ck.frm.usl]) W9.heap.size w.heap.size (some ⟨gc, 0, none⟩) np cc (U.pen.cells.set k C9) := by
      have h9 := HRC3.out.set hjn (x := C9) (cs := fcA F9 (.slice A1 ls c1) (.slice A2 ll c2) (.slice A3 lt c3)) rfl (by simp [Value.oneCell']) (by rw [HF9.out.2]; exact HFF.out) HS9.out
      rw [HF9.out.2, HF9.out.1] at h9 ⊢
      exact h9
    have hgr := grown_setCells W12 gc (k * 18) [.int .i64 ck.gen, .bool ck.used, .int .i64 ck.frm.fn, .int .i64 (wrap64 (ck.frm.pc + 1)), .slice A1 ls c1, .slice A2 ll c2, .slice A3 lt c3, .int .i64 ck.frm.seed, .int .i64 ck.frm.spn, .int .i64 ck.frm.drw, .int .i64 ck.frm.st, .int .i64 ck.frm.wt, .int .i64 ck.frm.otr, .int .i64 ck.frm.ore, .int .i64 ck.frm.oim, .int .i64 ck.frm.uat, .int .i64 ck.frm.ugn, .int .i64 ck.frm.usl]
    have ngc2 : w.heap.size ≠ gc := by have := HGC.out.1; have := HL9.out.1; omega
    have ngc9 : g9 ≠ gc := by have := HGC.out.1; have := HL9.out.2; omega
    have wgc : w.heap.size ≤ gc := Nat.le_trans HS9.out HGC.out.1
    replace hW := below_setCells hW wgc (k * 18) [.int .i64 ck.gen, .bool ck.used, .int .i64 ck.frm.fn, .int .i64 (wrap64 (ck.frm.pc + 1)), .slice A1 ls c1, .slice A2 ll c2, .slice A3 lt c3, .int .i64 ck.frm.seed, .int .i64 ck.frm.spn, .int .i64 ck.frm.drw, .int .i64 ck.frm.st, .int .i64 ck.frm.wt, .int .i64 ck.frm.otr, .int .i64 ck.frm.ore, .int .i64 ck.frm.oim, .int .i64 ck.frm.uat, .int .i64 ck.frm.ugn, .int .i64 ck.frm.usl]
    replace k2 : Held (W12.setCells gc (k * 18) [.int .i64 ck.gen, .bool ck.used, .int .i64 ck.frm.fn, .int .i64 (wrap64 (ck.frm.pc + 1)), .slice A1 ls c1, .slice A2 ll c2, .slice A3 lt c3, .int .i64 ck.frm.seed, .int .i64 ck.frm.spn, .int .i64 ck.frm.drw, .int .i64 ck.frm.st, .int .i64 ck.frm.wt, .int .i64 ck.frm.otr, .int .i64 ck.frm.ore, .int .i64 ck.frm.oim, .int .i64 ck.frm.uat, .int .i64 ck.frm.ugn, .int .i64 ck.frm.usl]) w.heap.size 40 (wcs a U) := (setCells_far _ _ _ _ _ ngc2).trans k2
    replace k9 : Held (W12.setCells gc (k * 18) [.int .i64 ck.gen, .bool ck.used, .int .i64 ck.frm.fn, .int .i64 (wrap64 (ck.frm.pc + 1)), .slice A1 ls c1, .slice A2 ll c2, .slice A3 lt c3, .int .i64 ck.frm.seed, .int .i64 ck.frm.spn, .int .i64 ck.frm.drw, .int .i64 ck.frm.st, .int .i64 ck.frm.wt, .int .i64 ck.frm.otr, .int .i64 ck.frm.ore, .int .i64 ck.frm.oim, .int .i64 ck.frm.uat, .int .i64 ck.frm.ugn, .int .i64 ck.frm.usl]) g9 40 (wcs a U) := (setCells_far _ _ _ _ _ ngc9).trans k9
    have RC4H := Lib.hid RC4
    clear RC4 HRC3 HFF hth k11 hgr
    simp only [Act.put]
    generalize World.setCells _ _ _ _ = W13 at *
    have x5 := k2.cell 5
    have x6 := k2.cell 6
    simp at x5 x6
    go_upto_region 18 with (guard_target = wpList _ _ _ (Oper.mk none (Op.store 29 (.tmp 112) _) _ _ _ none :: _) _ _; refine wpList_store_mid rfl 29 _ _ rfl g9 4 ([.slice (some ⟨gc, 0, none⟩) np cc, .slice a.af U.pen.free.length a.cf, .int .i64 U.pen.most] : List Value).toArray rfl rfl (held_there k9 (by simp)) (by kernel_rfl) (by simp [Value.oneCell']) ?_)
    have kE := ktsc k9 4 [.slice (some ⟨gc, 0, none⟩) np cc, .slice a.af U.pen.free.length a.cf, .int .i64 U.pen.most]
    have hbE : Below w.heap.size W13 (W13.setCells g9 4 [.slice (some ⟨gc, 0, none⟩) np cc, .slice a.af U.pen.free.length a.cf, .int .i64 U.pen.most]) := below_setCells (Below.refl _ _) w9 4 _
    have RC5 := RC4H.out.kt kE (by decide) hbE
    obtain ⟨UE, hUE⟩ : ∃ X : Wld, X = { U with pen := { U.pen with cells := U.pen.cells.set k C9 } } := ⟨_, rfl⟩
    obtain ⟨aE, haE⟩ : ∃ X : WA, X = { a with ac := some ⟨gc, 0, none⟩, cc := cc } := ⟨_, rfl⟩
    replace hW := below_setCells hW w9 4 [.slice (some ⟨gc, 0, none⟩) np cc, .slice a.af U.pen.free.length a.cf, .int .i64 U.pen.most]
    replace k2 : Held (W13.setCells g9 4 [.slice (some ⟨gc, 0, none⟩) np cc, .slice a.af U.pen.free.length a.cf, .int .i64 U.pen.most]) w.heap.size 40 (wcs a U) := (setCells_far _ _ _ _ _ n29).trans k2
    replace k9 : Held (W13.setCells g9 4 [.slice (some ⟨gc, 0, none⟩) np cc, .slice a.af U.pen.free.length a.cf, .int .i64 U.pen.most]) g9 40 (wcs aE UE) := by
      have h9 := ((k9.set_at 4 (.slice (some ⟨gc, 0, none⟩) np cc)).set_at 5 (.slice a.af U.pen.free.length a.cf)).set_at 6 (.int .i64 U.pen.most)
      rw [hUE, haE]
      simp only [wcs, List.length_set, HNP.out]
      exact h9
    have pu := PU.out _ hW
    have pe : WAt (W13.setCells g9 4 [.slice (some ⟨gc, 0, none⟩) np cc, .slice a.af U.pen.free.length a.cf, .int .i64 U.pen.most]) (W13.setCells g9 4 [.slice (some ⟨gc, 0, none⟩) np cc, .slice a.af U.pen.free.length a.cf, .int .i64 U.pen.most]).heap.size aE UE := by
      rw [hUE, haE]
      exact ⟨pu.prog, ⟨RC5.at (by rw [List.length_set]; exact HNP.out) hW.size, pu.pen.free⟩, pu.rings, pu.cur⟩
    have hne : C9 ≠ U.pen.cells[k] := fun e => by
      have h9 := congrArg (fun x : Cel => x.frm.pc) (e.trans HCK.out.1)
      rw [HF9.out.2, HF9.out.1] at h9
      exact wrap_next_ne _ h9
    have LE : LenW UE := by
      have LU := HLW.out
      rw [hUE]
      refine ⟨LU.prog, ⟨by simp only [List.length_set]; exact LU.pen.cells, LU.pen.free, fun i hi => ?_⟩, LU.rings, LU.buf, LU.cur⟩
      simp only [List.getElem_set]
      split
      · have h9 := LU.pen.frm k hjn
        have h8 := HCK.out.1
        rw [h8] at h9
        rw [HF9.out.2, HF9.out.1]
        exact ⟨h9.stk, h9.loc, h9.slt⟩
      · exact LU.pen.frm i (by simpa using hi)
    have HPE := Lib.hid (And.intro pu pe)
    have HLE := Lib.hid LE
    have E6 := Lib.hid (show sameW U UE = false by rw [hUE]; exact not_cell (pen_set_ne hjn hne))
    have E7 := Lib.hid (sameW_refl UE)
    clear kE hbE RC5 RC4H hUE haE pu pe hne LE x5 x6 HFR HFR11 HF9 HCK
    generalize World.setCells _ _ _ _ = W14 at *
    have hb9 := Below.refl W14.heap.size W14
    have HHW := Lib.hid hW
    clear hW
    go_wp2_with (first
      | (guard_target = wpList _ _ _ (Oper.mk (some 113) _ _ _ _ none :: _) _ _; refine wpList_load_row rfl 40 _ rfl w.heap.size rfl _ _ _ _ k2 Tryd.underlying40 rfl (by kernel_rfl) ?_)
      | (guard_target = wpList _ _ _ (Oper.mk (some 114) _ _ _ _ none :: _) _ _; refine wpList_load_row rfl 40 _ rfl g9 rfl _ _ _ _ k9 Tryd.underlying40 rfl (by kernel_rfl) ?_)
      | (guard_target = wpList _ _ _ (Oper.mk (some 118) _ _ _ _ _ :: _) _ _; refine wpList_done rfl ?_; refine wpList_load_row rfl 40 _ rfl g9 rfl _ _ _ _ k9 Tryd.underlying40 rfl (by kernel_rfl) ?_)
      | (guard_target = wpList _ _ _ (Oper.mk (some 119) _ _ _ _ _ :: _) _ _; refine wpList_done rfl ?_; refine wpList_load_row rfl 40 _ rfl g9 rfl _ _ _ _ k9 Tryd.underlying40 rfl (by kernel_rfl) ?_)
      | (go_at_call 12; (with_reducible refine (sameW_c C E6.out HLW.out HLE.out _ (C.kept HT.out (Below.step HHW.out hb9)) (HPE.out.1.later hb9) (HPE.out.2.later hb9)).mono ?_); rintro _ uF ⟨rfl, bS⟩; replace k2 := Held.below k2 bS; replace k9 := Held.below k9 bS; replace hb9 := Below.step hb9 bS; clear bS)
      | (go_at_call 12; (with_reducible refine (sameW_c C E7.out HLE.out HLE.out _ (C.kept HT.out (Below.step HHW.out hb9)) (HPE.out.2.later hb9) (HPE.out.2.later hb9)).mono ?_); rintro _ uG ⟨rfl, bS⟩; replace k2 := Held.below k2 bS; replace k9 := Held.below k9 bS; replace hb9 := Below.step hb9 bS; clear bS))
    go_ret
    exact ⟨rfl, Below.step HHW.out hb9⟩
end Go.Proofs.YtjibkgildfjjoaaDoor.worldSame

