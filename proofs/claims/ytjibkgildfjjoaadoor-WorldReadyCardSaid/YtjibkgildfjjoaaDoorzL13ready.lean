/- WorldReady. -/
import Derived.Test.YtjibkgildfjjoaaDoorzZw
namespace Go.Proofs.YtjibkgildfjjoaaDoor.worldReady
set_option linter.unusedVariables false
set_option linter.unusedSimpArgs false
open Go.RowKit Go.ChangeShapes Go.WideShapes Go.ChangeAt Go.Sort Go.Proofs.YtjibkgildfjjoaaDoor

set_option maxHeartbeats 8000000 in
set_option maxRecDepth 100000 in
theorem walk {T : World → Prop} (C : WC T) (CF : ∀ w, T w → Calls Tryd.prog 6 #[] w fun e w' => e = .returned (.bool true) ∧ Below w.heap.size w w') {a : WA} {U : Wld} {B : Nat} (at0 : Int) (w : World) (hT : T w)
    (hu : WAt w B a U) (hzu : SzW U) (hB : B ≤ w.heap.size) :
    Calls Tryd.prog 3 #[.agg (wcs a U), .int .i64 at0] w fun e w' => e = .returned (.bool true) ∧ Below w.heap.size w w' := by
  have hW : Below w.heap.size w (w.alloc (.cells (wcs a U) 40)) := (Below.refl _ _).alloc (Nat.le_refl _) _
  have k2 := Held.new w 40 (wcs a U)
  have HT := Lib.hid hT
  have HU0 := Lib.hid (hu.more hB)
  have HZU := Lib.hid hzu
  obtain ⟨b2, hb2⟩ : ∃ x, smW U = x := ⟨_, rfl⟩
  have H2 := Lib.hid hb2
  have PU := Lib.hid (fun (W : World) (h : Below w.heap.size w W) => (HU0.out.below h (Nat.le_refl _)).more h.size : ∀ W, Below w.heap.size w W → WAt W W.heap.size a U)
  obtain ⟨n, hn⟩ : ∃ n, U.rings.length = n := ⟨_, rfl⟩
  obtain ⟨m, hm⟩ : ∃ n, U.cur.length = n := ⟨_, rfl⟩
  have HN := Lib.hid (And.intro hn hm)
  have hnI : (n : Int) ≤ 9223372036854775807 := by have := hzu.rings; unfold maxLen at this; omega
  have hmI : (m : Int) ≤ 9223372036854775807 := by have := hzu.cur; unfold maxLen at this; omega
  clear hT hu hzu hB hb2 hn hm
  go_enter Tryd.func3, Tryd.ntmps3
  go_upto_region 1 with (fail)
  generalize w.alloc (.cells (wcs a U) 40) = W0 at *
  cases b2
  case false =>
    go_wp2_with (first
      | (go_at_call 6; (with_reducible refine (CF _ (C.kept HT.out hW)).mono ?_); rintro _ uf ⟨rfl, hbf⟩; replace k2 := Held.below k2 hbf; replace hW := Below.step hW hbf; clear hbf)
      | (guard_target = wpList _ _ _ (Oper.mk (some 16) _ _ _ _ _ :: _) _ _; refine wpList_done rfl ?_; refine wpList_load_row rfl 40 _ rfl w.heap.size rfl _ _ _ _ k2 Tryd.underlying40 rfl (by kernel_rfl) ?_)
      | (go_at_call 7; (with_reducible refine (smallW_c H2.out HZU.out _ (PU.out _ hW)).mono ?_); rintro _ us ⟨rfl, hbs⟩; replace k2 := Held.below k2 hbs; replace hW := Below.step hW hbs; clear hbs; have x7 := k2.cell 7; have x8 := k2.cell 8; simp at x7 x8; rw [HN.out.1] at x7; rw [HN.out.2] at x8))
    go_ret
    exact ⟨rfl, hW⟩
  case true =>
  by_cases h60 : n ≤ 60
  case neg =>
    have h61 : (60 : Int) < (n : Int) := by omega
    clear h60
    go_wp2_with (first
      | (go_at_call 6; (with_reducible refine (CF _ (C.kept HT.out hW)).mono ?_); rintro _ uf ⟨rfl, hbf⟩; replace k2 := Held.below k2 hbf; replace hW := Below.step hW hbf; clear hbf)
      | (guard_target = wpList _ _ _ (Oper.mk (some 16) _ _ _ _ _ :: _) _ _; refine wpList_done rfl ?_; refine wpList_load_row rfl 40 _ rfl w.heap.size rfl _ _ _ _ k2 Tryd.underlying40 rfl (by kernel_rfl) ?_)
      | (go_at_call 7; (with_reducible refine (smallW_c H2.out HZU.out _ (PU.out _ hW)).mono ?_); rintro _ us ⟨rfl, hbs⟩; replace k2 := Held.below k2 hbs; replace hW := Below.step hW hbs; clear hbs; have x7 := k2.cell 7; have x8 := k2.cell 8; simp at x7 x8; rw [HN.out.1] at x7; rw [HN.out.2] at x8))
    go_ret
    exact ⟨rfl, hW⟩
  case pos =>
  have h61 : decide ((60 : Int) < (n : Int)) = false := decide_eq_false (by omega)
  by_cases hmn : m = n
  case neg =>
    have h62 : ((m : Int) != (n : Int)) = true := by simpa using fun e : (m : Int) = n => hmn (by omega)
    clear hmn
    go_wp2_with (first
      | (go_at_call 6; (with_reducible refine (CF _ (C.kept HT.out hW)).mono ?_); rintro _ uf ⟨rfl, hbf⟩; replace k2 := Held.below k2 hbf; replace hW := Below.step hW hbf; clear hbf)
      | (guard_target = wpList _ _ _ (Oper.mk (some 16) _ _ _ _ _ :: _) _ _; refine wpList_done rfl ?_; refine wpList_load_row rfl 40 _ rfl w.heap.size rfl _ _ _ _ k2 Tryd.underlying40 rfl (by kernel_rfl) ?_)
      | (go_at_call 7; (with_reducible refine (smallW_c H2.out HZU.out _ (PU.out _ hW)).mono ?_); rintro _ us ⟨rfl, hbs⟩; replace k2 := Held.below k2 hbs; replace hW := Below.step hW hbs; clear hbs; have x7 := k2.cell 7; have x8 := k2.cell 8; simp at x7 x8; rw [HN.out.1] at x7; rw [HN.out.2] at x8))
    go_ret
    exact ⟨rfl, hW⟩
  case pos =>
  subst hmn
  have h62 : ((m : Int) != (m : Int)) = false := by simp
  go_upto_region 3 with (first
    | (go_at_call 6; (with_reducible refine (CF _ (C.kept HT.out hW)).mono ?_); rintro _ uf ⟨rfl, hbf⟩; replace k2 := Held.below k2 hbf; replace hW := Below.step hW hbf; clear hbf)
    | (guard_target = wpList _ _ _ (Oper.mk (some 16) _ _ _ _ _ :: _) _ _; refine wpList_done rfl ?_; refine wpList_load_row rfl 40 _ rfl w.heap.size rfl _ _ _ _ k2 Tryd.underlying40 rfl (by kernel_rfl) ?_)
    | (go_at_call 7; (with_reducible refine (smallW_c H2.out HZU.out _ (PU.out _ hW)).mono ?_); rintro _ us ⟨rfl, hbs⟩; replace k2 := Held.below k2 hbs; replace hW := Below.step hW hbs; clear hbs; have x7 := k2.cell 7; have x8 := k2.cell 8; simp at x7 x8; rw [HN.out.1] at x7; rw [HN.out.2] at x8))
  clear x7 x8 h61 h62
  have LU := sm_lenW H2.out HZU.out.prog
  have mI : (m : Int) ≤ 60 := by omega
  obtain ⟨L, hL⟩ : ∃ l, readyW U = l := ⟨_, rfl⟩
  obtain ⟨ln, hln⟩ : ∃ k, L.length = k := ⟨_, rfl⟩
  have hlI : (ln : Int) ≤ 100000 := by
    have h9 := readyN_le U.rings U.cur U.rings.length
    have h8 : (readyN U.rings U.cur U.rings.length).length = ln := by rw [← hln, ← hL]; rfl
    have := HN.out.1
    rw [h8] at h9
    omega
  have HL := Lib.hid (And.intro hL hln)
  have HLU := Lib.hid LU
  clear hL LU h60 hnI hmI
  have RC := Lib.hid (by have h9 := C.ready us (C.kept HT.out hW) (PU.out us hW) HLU.out (Nat.le_refl _); rw [HL.out.1] at h9; exact h9 : Calls Tryd.prog 8 #[.agg (wcs a U)] us (ListQ us L))
  go_upto_region 4 with (first
    | (guard_target = wpList _ _ _ (Oper.mk (some 36) _ _ _ _ none :: _) _ _; refine wpList_load_row rfl 40 _ rfl w.heap.size rfl _ _ _ _ k2 Tryd.underlying40 rfl (by kernel_rfl) ?_)
    | (go_at_call 8; (with_reducible refine RC.out.mono ?_); rintro _ u3 ⟨A5, c5, rfl, hl5, hb3⟩; replace k2 := Held.below k2 hb3; replace hW := Below.step hW hb3; simp only [hln]; have Q5 := Lib.hid (own2_at hl5); clear hl5 hb3))
  clear hln RC
  have K2 := Lib.hid k2
  have BW := Lib.hid hW
  have HT3 := Lib.hid (C.kept HT.out hW)
  have P3 := Lib.hid (PU.out _ hW)
  have l23 := k2.lt
  clear k2 hW PU HT HU0
  obtain ⟨W3, hW3⟩ : ∃ W, W = u3 := ⟨_, rfl⟩
  rw [← hW3] at K2 BW HT3 P3 Q5 l23 ⊢
  clear hW3
  go_upto_region 6 with (fail)
  go_loopw [7, 6] (fun iv sv W => ∃ j k : Nat, iv = .int .i64 j ∧ sv = .int .i64 k ∧ j ≤ m ∧ (readyN U.rings U.cur j).length = k ∧ Below W3.heap.size W3 W) (fun iv _ _ => m - (intOf iv).toNat)
  case atStart => exact ⟨0, 0, rfl, rfl, by omega, rfl, Below.refl _ _⟩
  case round =>
    obtain ⟨j, k, rfl, rfl, hj, hk, hb⟩ := hrel
    have hj0 : (0 : Int) ≤ j := by omega
    have hk0 : (0 : Int) ≤ k := by omega
    have hkI : (k : Int) ≤ 100000 := by
      have := readyN_le U.rings U.cur j
      omega
    by_cases hlt : j < m
    · have hlt2 : (j : Int) < (m : Int) := by omega
      have hr1 : j < U.rings.length := by rw [HN.out.1]; exact hlt
      have hr2 : j < U.cur.length := by rw [HN.out.2]; exact hlt
      have k2 := K2.out.below hb
      have pp := P3.out.later hb
      have HST := Lib.hid (readyN_len (rs := U.rings) (cs := U.cur) hr1 hr2)
      obtain ⟨b, off, e1, hbl, Ab, cb, hab, p0, p1, p2, p3⟩ := pp.rings.rng hr1
      obtain ⟨bq, oq, e2, hbq, q0, q1⟩ := pat_cell pp.cur hr2
      obtain ⟨rj, hrj⟩ : ∃ r, U.rings[j] = r := ⟨_, rfl⟩
      obtain ⟨cj, hcj⟩ : ∃ r, U.cur[j] = r := ⟨_, rfl⟩
      rw [hrj] at p0 p1 p2 p3 hab HST
      rw [hcj] at q0 q1 HST
      have lb := HLU.out.buf _ (List.getElem_mem hr1)
      obtain ⟨IL, hIL⟩ : ∃ l, itemsR rj = l := ⟨_, rfl⟩
      have hIl : IL.length ≤ 1024 := by rw [← hIL]; exact itemsR_le rj
      rw [hIL] at HST
      obtain ⟨il, hil⟩ : ∃ k, IL.length = k := ⟨_, rfl⟩
      rw [hil] at HST hIl
      have hilI : (il : Int) ≤ 1024 := by omega
      have IC := Lib.hid (by have h9 := ritems_any (r := rj) cb wr hab (Nat.le_refl _); rw [hIL] at h9; exact h9 : Calls Tryd.prog 9 #[rgv Ab rj.buf.length cb rj.head rj.many rj.most] wr (ListQ wr IL))
      obtain ⟨nb, hnb⟩ : ∃ n, rj.buf.length = n := ⟨_, rfl⟩
      rw [hnb] at p0 IC
      have x7 := k2.cell 7
      simp at x7
      rw [HN.out.1, e1] at x7
      have E2 := Lib.hid e2
      have HK := Lib.hid (And.intro hk hb)
      clear hk hb pp hab e1 e2 hrj hcj hIL hnb lb
      go_upto_region 9 with (go_at_call 9; (with_reducible refine IC.out.mono ?_); rintro _ u8 ⟨A8, c8, rfl, -, hb8⟩; simp only [hil])
      clear hil
      replace k2 := k2.below hb8
      have hbl2 : bq < u8.heap.size := Nat.lt_of_lt_of_le hbq hb8.size
      replace q0 := (hb8.cell (p := ⟨bq, oq + j * 2, none⟩) hbq).trans q0
      replace q1 := (hb8.cell (p := ⟨bq, oq + j * 2 + 1, none⟩) hbq).trans q1
      have HB8 := Lib.hid (Below.step HK.out.2 hb8)
      clear x7 p0 p1 p2 p3 hbl hbq hb8 IC
      go_cut [60] from 54 to 60 (fun v wx => v = .bool (decide (cj ≠ noV)) ∧ Below u8.heap.size u8 wx)
      case first =>
        have NE9 : ∀ w9, (binOp .neq 33 (gv cj.1 cj.2) (gv (-1) 0)).run Tryd.prog w9 = .ok (.bool (decide (cj ≠ noV))) w9 := fun w9 => neqr_run cj.1 cj.2 (-1) 0 w9
        clear HST HK HB8
        have hdr := (Below.refl u8.heap.size u8).drew
        have HDR := Lib.hid hdr
        replace k2 := Held.below k2 hdr
        replace q0 := (hdr.cell (p := ⟨bq, _, none⟩) hbl2).trans q0
        replace q1 := (hdr.cell (p := ⟨bq, _, none⟩) hbl2).trans q1
        replace hbl2 : bq < u8.drew.heap.size := hbl2
        clear hdr
        refine wp_region_held_drew (S := fun W => Below u8.drew.heap.size u8.drew W) (by kernel_rfl) (Below.refl _ _) (fun hS => ?_)
        generalize u8.drew = Wq at *
        show wpAnyH _ _ _ _ _ 7 #[false, false, false, false, false, false, false] _ _
        refine wpAnyH_begin (by kernel_rfl) (fun HNS => ?_)
        refine wpAnyH_takeS HNS (i := 0) (v := .pointer (some ⟨w.heap.size, 8, none⟩)) rfl (by kernel_rfl) (by kernel_rfl) (fun _ _ _ h => h) (Or.inl ⟨by kernel_rfl, fun W hW => ?_⟩) hS ?_
        · go_simp
        simp only [Act.put, List.getElem_toArray, List.getElem_cons_succ, List.getElem_cons_zero, List.setIfInBounds_toArray, List.set_cons_zero, List.set_cons_succ]
        refine wpAnyH_takeS HNS (i := 1) (v := .slice (some ⟨bq, oq, none⟩) m a.cq) rfl (by kernel_rfl) (by kernel_rfl) (fun _ _ _ h => h) (Or.inl ⟨by kernel_rfl, fun W hW => ?_⟩) hS ?_
        · (have hz := Held.below k2 hW; have z0 := hz.cell 8; simp at z0; rw [HN.out.2, E2.out] at z0; go_simp)
        simp only [Act.put, List.getElem_toArray, List.getElem_cons_succ, List.getElem_cons_zero, List.setIfInBounds_toArray, List.set_cons_zero, List.set_cons_succ]
        refine wpAnyH_takeS HNS (i := 2) (v := .int .i64 j) rfl (by kernel_rfl) (by kernel_rfl) (fun _ _ _ h => h) (Or.inl ⟨by kernel_rfl, fun W hW => ?_⟩) hS ?_
        · go_simp
        simp only [Act.put, List.getElem_toArray, List.getElem_cons_succ, List.getElem_cons_zero, List.setIfInBounds_toArray, List.set_cons_zero, List.set_cons_succ]
        refine wpAnyH_takeS HNS (i := 3) (v := .pointer (some ⟨bq, oq + j * 2, none⟩)) rfl (by kernel_rfl) (by kernel_rfl) (fun _ _ _ h => h) (Or.inl ⟨by kernel_rfl, fun W hW => ?_⟩) hS ?_
        · go_simp
        simp only [Act.put, List.getElem_toArray, List.getElem_cons_succ, List.getElem_cons_zero, List.setIfInBounds_toArray, List.set_cons_zero, List.set_cons_succ]
        refine wpAnyH_takeS HNS (i := 4) (v := .agg #[.int .i64 cj.1, .int .i64 cj.2]) rfl (by kernel_rfl) (by kernel_rfl) (fun _ _ _ h => h) (Or.inl ⟨by kernel_rfl, fun W hW => ?_⟩) hS ?_
        · (have z0 := (hW.cell (p := ⟨bq, _, none⟩) hbl2).trans q0; have z1 := (hW.cell (p := ⟨bq, _, none⟩) hbl2).trans q1; go_simp)
        simp only [Act.put, List.getElem_toArray, List.getElem_cons_succ, List.getElem_cons_zero, List.setIfInBounds_toArray, List.set_cons_zero, List.set_cons_succ]
        refine wpAnyH_ready (rs := [5]) (by kernel_rfl) (by simp) ?_
        refine (AllReadyH.cons rfl (fun K hK => ?_) AllReadyH.nil)
        · rw [if_pos (by kernel_rfl)]
          go_simp
          go_at_call 10
          (with_reducible refine (none_z _).mono ?_)
          rintro _ u1 ⟨rfl, hb1⟩
          replace hS := Below.step hS hb1
          (repeat (first | go_skip | go_guarded | go_step | go_upon))
          refine hK.out _ _ hS (fun _ => ?_)
          clear hK K
          (try simp only [Act.put, List.getElem_toArray, List.getElem_cons_succ, List.getElem_cons_zero, List.setIfInBounds_toArray, List.set_cons_zero, List.set_cons_succ])
          refine wpAnyH_takeS HNS (i := 6) (v := .bool (decide (cj ≠ noV))) rfl (by kernel_rfl) (by kernel_rfl) (fun _ _ _ h => h) (Or.inl ⟨by kernel_rfl, fun W hW => ?_⟩) hS ?_
          · (have e9 := NE9 W; go_simp; try exact e9)
          simp only [Act.put, List.getElem_toArray, List.getElem_cons_succ, List.getElem_cons_zero, List.setIfInBounds_toArray, List.set_cons_zero, List.set_cons_succ]
          refine wpAnyH_done (by kernel_rfl) ?_ _
          (repeat (first | go_skip | go_guarded | go_step | go_upon))
          go_meet
          case rel => exact ⟨rfl, Below.step HDR.out hS⟩
      case rest =>
        obtain ⟨rfl, hwc⟩ := hcut
        have hb9 := Below.step HB8.out hwc
        have HF := Lib.hid (And.intro HK.out.1 hb9)
        clear HB8 HK hwc q0 q1 k2 hbl2 hb9 E2
        by_cases hcn : cj = noV
        · have hdn : decide (cj ≠ noV) = false := by simp [hcn]
          have HST2 : Hid ((readyN U.rings U.cur (j + 1)).length = k + il) := Lib.hid (by rw [HST.out, if_pos hcn, HF.out.1]; rfl)
          rw [hdn]
          clear HST hcn hdn
          go_wp2_with fail
          go_roundw
          case rel => exact ⟨j + 1, k + il, by go_num, by go_num, by omega, HST2.out, HF.out.2⟩
          case measure => simp [intOf]; omega
        · have hdn : decide (cj ≠ noV) = true := decide_eq_true hcn
          have HST2 : Hid ((readyN U.rings U.cur (j + 1)).length = k + il + 1) := Lib.hid (by rw [HST.out, if_neg hcn, HF.out.1])
          rw [hdn]
          clear HST hcn hdn
          go_wp2_with fail
          go_roundw
          case rel => exact ⟨j + 1, k + il + 1, by go_num, by go_num, by omega, HST2.out, HF.out.2⟩
          case measure => simp [intOf]; omega
    · obtain rfl : m = j := by omega
      obtain rfl : ln = k := by
        have h9 := HL.out.2
        rw [← HL.out.1] at h9
        unfold readyW at h9
        rw [HN.out.1] at h9
        omega
      have HB := Lib.hid hb
      have k2 := K2.out.below hb
      have x7 := k2.cell 7
      simp at x7
      rw [HN.out.1] at x7
      clear hb hk hk0 hkI hj hlt
      go_upto_region 11 with (fail)
      clear x7
      have hn8 := Held.new wr 40 wz0
      go_upto_region 12 with (first
        | (guard_target = wpList _ _ _ (Oper.mk (some 63) _ _ _ _ none :: _) _ _; refine wpList_load_row rfl 40 _ rfl w.heap.size rfl _ _ _ _ k2 Tryd.underlying40 rfl (by kernel_rfl) ?_)
        | (guard_target = wpList _ _ _ (Oper.mk _ (Op.store 40 (.tmp 8) _) _ _ _ none :: _) _ _; refine wpList_store_row rfl 40 _ _ rfl wr.heap.size (wcs a U) rfl rfl _ _ hn8 (by kernel_rfl) rfl (by simp [Value.oneCell']) ?_))
      have bst : Below wr.heap.size wr ((wr.alloc (.cells wz0 40)).setRow wr.heap.size (wcs a U)) := below_setRow ((Below.refl _ _).alloc (Nat.le_refl _) _) (Nat.le_refl _) _
      have h8 := held_rowSelf hn8 (wcs a U)
      have lo8 : W3.heap.size ≤ wr.heap.size := HB.out.size
      have hB := Below.step HB.out bst
      clear hn8 bst HB k2
      generalize World.setRow _ wr.heap.size _ = W8 at *
      generalize wr.heap.size = g8 at *
      obtain ⟨UM, hUM⟩ : ∃ X : Wld, X = { U with rings := U.rings ++ [rng1 1] } := ⟨_, rfl⟩
      have HUM := Lib.hid hUM
      clear hUM
      (try simp only [Act.put])
      go_cut [] from 64 to 72 (fun wx => ∃ A c, Held wx g8 40 (wcs { a with ar := A, cr := c } UM) ∧ RowG wx W8.heap.size W3.heap.size A (m + 1) c (U.rings ++ [rng1 1]) ∧ Below W3.heap.size W8 wx)
      case first =>
        have l8 := h8.lt
        have x7 := (K2.out.below hB).cell 7
        simp at x7
        rw [HN.out.1] at x7
        have HDR := Lib.hid (Below.refl W8.heap.size W8).drew
        replace h8 := h8.below HDR.out
        have l2q : w.heap.size < W8.heap.size := Nat.lt_of_lt_of_le l23 hB.size
        replace x7 := (HDR.out.cell (p := ⟨w.heap.size, 7, none⟩) l2q).trans x7
        have GR := Lib.hid ((P3.out.rings.below hB (Nat.le_refl _)).below HDR.out hB.size)
        have hD : W8.heap.size ≤ W8.drew.heap.size := HDR.out.size
        have H38 := Lib.hid (show W3.heap.size ≤ W8.heap.size from hB.size)
        refine wp_region_held_drew (S := fun W => Below W3.heap.size W8.drew W) (by kernel_rfl) (Below.refl _ _) (fun hS => ?_)
        generalize W8.drew = Wq at *
        show wpAnyH _ _ _ _ _ 10 #[false, false, false, false, false, false, false, false, false, false] _ _
        refine wpAnyH_begin (by kernel_rfl) (fun HNS => ?_)
        refine wpAnyH_takeS HNS (i := 1) (v := .pointer (some ⟨w.heap.size, 7, none⟩)) rfl (by kernel_rfl) (by kernel_rfl) (fun _ _ _ h => h) (Or.inl ⟨by kernel_rfl, fun W hW => ?_⟩) hS ?_
        · go_simp
        simp only [Act.put, List.getElem_toArray, List.getElem_cons_succ, List.getElem_cons_zero, List.setIfInBounds_toArray, List.set_cons_zero, List.set_cons_succ]
        refine wpAnyH_takeS HNS (i := 2) (v := .slice a.ar m a.cr) rfl (by kernel_rfl) (by kernel_rfl) (fun _ _ _ h => h) (Or.inl ⟨by kernel_rfl, fun W hW => ?_⟩) hS ?_
        · (have z0 := (hW.cell (p := ⟨w.heap.size, 7, none⟩) l23).trans x7; go_simp)
        simp only [Act.put, List.getElem_toArray, List.getElem_cons_succ, List.getElem_cons_zero, List.setIfInBounds_toArray, List.set_cons_zero, List.set_cons_succ]
        refine wpAnyH_ready (rs := [0, 4]) (by kernel_rfl) (by simp) ?_
        refine (AllReadyH.cons rfl (fun K hK => ?_) (AllReadyH.cons rfl (fun K hK => ?_) AllReadyH.nil))
        · rw [if_pos (by kernel_rfl)]
          refine wp_build0G rfl ?_
          have own0 : (Wq.alloc (.cells #[] 46)).ownsRow W8.heap.size 46 4 (.slice (some ⟨Wq.heap.size, 0, none⟩) 0 0) 0 [] := World.ownsRow_made Wq #[] 0 hD (by decide) rfl
          replace h8 := Held.alloc h8 (.cells #[] 46)
          replace hS := hS.alloc (Nat.le_trans H38.out hD) (.cells #[] 46)
          replace hD : W8.heap.size ≤ (Wq.alloc (.cells #[] 46)).heap.size := Nat.le_trans hD (by simp)
          generalize Wq.alloc (.cells #[] 46) = Wd1 at *
          refine hK.out _ _ hS (fun _ => ?_)
          clear hK K
          (try simp only [Act.put, List.getElem_toArray, List.getElem_cons_succ, List.getElem_cons_zero, List.setIfInBounds_toArray, List.set_cons_zero, List.set_cons_succ])
          refine wpAnyH_ready (rs := [3, 4]) (by kernel_rfl) (by simp) ?_
          refine (AllReadyH.cons rfl (fun K hK => ?_) (AllReadyH.cons rfl (fun K hK => ?_) AllReadyH.nil))
          · rw [if_pos (by kernel_rfl)]
            refine wp_append_g0 _ _ rfl W8.heap.size rfl own0 (A := a.ar) (c := a.cr) (C := W3.heap.size) HN.out.1 rfl (GR.out.below hS (Nat.le_refl _)) H38.out hD (by omega) (fun A9 c9 Wd2 rowg q2 q3 q4 => ?_)
            replace h8 := held_kt h8 q3 (by decide)
            replace hS := hS.trans (q4.mono H38.out)
            replace hD : W8.heap.size ≤ Wd2.heap.size := Nat.le_trans hD q2.size
            clear own0 q2 q3 q4
            refine hK.out _ _ hS (fun _ => ?_)
            clear hK K
            (try simp only [Act.put, List.getElem_toArray, List.getElem_cons_succ, List.getElem_cons_zero, List.setIfInBounds_toArray, List.set_cons_zero, List.set_cons_succ])
            refine wpAnyH_ready (rs := [4]) (by kernel_rfl) (by simp) ?_
            refine (AllReadyH.cons rfl (fun K hK => ?_) AllReadyH.nil)
            · rw [if_pos (by kernel_rfl)]
              refine wp_make1R rfl rfl rfl ?_
              have hm := Held.new Wd2 33 (zeroR 1)
              have lm : W8.heap.size ≤ Wd2.heap.size := hD
              replace h8 := Held.alloc h8 (.cells (zeroR 1) 33)
              replace rowg := rowg.below ((Below.refl _ _).alloc (Nat.le_refl _) (.cells (zeroR 1) 33)) (Nat.le_trans H38.out hD)
              replace hS := hS.alloc (Nat.le_trans H38.out hD) (.cells (zeroR 1) 33)
              replace hD : W8.heap.size ≤ (Wd2.alloc (.cells (zeroR 1) 33)).heap.size := Nat.le_trans hD (by simp)
              generalize Wd2.alloc (.cells (zeroR 1) 33) = Wd3 at *
              refine hK.out _ _ hS (fun _ => ?_)
              clear hK K
              (try simp only [Act.put, List.getElem_toArray, List.getElem_cons_succ, List.getElem_cons_zero, List.setIfInBounds_toArray, List.set_cons_zero, List.set_cons_succ])
              refine wpAnyH_takeS HNS (i := 5) (v := .agg (rgc (some ⟨Wd2.heap.size, 0, none⟩) 1 1 0 0 1)) rfl (by kernel_rfl) (by kernel_rfl) (fun _ _ _ h => h) (Or.inl ⟨by kernel_rfl, fun W hW => ?_⟩) hS ?_
              · go_simp
              simp only [Act.put, List.getElem_toArray, List.getElem_cons_succ, List.getElem_cons_zero, List.setIfInBounds_toArray, List.set_cons_zero, List.set_cons_succ]
              refine wpAnyH_ready (rs := [6]) (by kernel_rfl) (by simp) ?_
              refine (AllReadyH.cons rfl (fun K hK => ?_) AllReadyH.nil)
              · rw [if_pos (by kernel_rfl)]
                refine wp_build1G (A := some ⟨Wd2.heap.size, 0, none⟩) (k := 1) (c := 1) (p := 0) (q := 0) (r := 1) rfl rfl ?_
                have h6 := Held.new Wd3 46 (rgc (some ⟨Wd2.heap.size, 0, none⟩) 1 1 0 0 1)
                replace h8 := Held.alloc h8 (.cells (rgc (some ⟨Wd2.heap.size, 0, none⟩) 1 1 0 0 1) 46)
                replace hm := Held.alloc hm (.cells (rgc (some ⟨Wd2.heap.size, 0, none⟩) 1 1 0 0 1) 46)
                replace rowg := rowg.below ((Below.refl _ _).alloc (Nat.le_refl _) (.cells (rgc (some ⟨Wd2.heap.size, 0, none⟩) 1 1 0 0 1) 46)) (Nat.le_trans H38.out hD)
                replace hS := hS.alloc (Nat.le_trans H38.out hD) (.cells (rgc (some ⟨Wd2.heap.size, 0, none⟩) 1 1 0 0 1) 46)
                replace hD : W8.heap.size ≤ (Wd3.alloc (.cells (rgc (some ⟨Wd2.heap.size, 0, none⟩) 1 1 0 0 1) 46)).heap.size := Nat.le_trans hD (by simp)
                generalize Wd3.alloc (.cells (rgc (some ⟨Wd2.heap.size, 0, none⟩) 1 1 0 0 1) 46) = Wd4 at *
                refine hK.out _ _ hS (fun _ => ?_)
                clear hK K
                (try simp only [Act.put, List.getElem_toArray, List.getElem_cons_succ, List.getElem_cons_zero, List.setIfInBounds_toArray, List.set_cons_zero, List.set_cons_succ])
                refine wpAnyH_ready (rs := [7]) (by kernel_rfl) (by simp) ?_
                refine (AllReadyH.cons rfl (fun K hK => ?_) AllReadyH.nil)
                · rw [if_pos (by kernel_rfl)]
                  refine wp_append_g1 _ _ rfl rfl rowg (r := rng1 1) (A1 := some ⟨Wd2.heap.size, 0, none⟩) (c1 := 1) rfl h6 (zeroR_own hm lm (by decide)) H38.out hD (by omega) (fun A10 c10 Wd5 rowz q2 q3 => ?_)
                  replace h8 := held_kt h8 q2 (by decide)
                  replace hS := hS.trans (q3.mono H38.out)
                  have y7 := h8.cell 7
                  have z7 := h8.fz 7
                  simp at y7
                  clear q2 q3 rowg h6 hm
                  refine hK.out _ _ hS (fun _ => ?_)
                  clear hK K
                  (try simp only [Act.put, List.getElem_toArray, List.getElem_cons_succ, List.getElem_cons_zero, List.setIfInBounds_toArray, List.set_cons_zero, List.set_cons_succ])
                  refine wpAnyH_takeS HNS (i := 8) (v := .pointer (some ⟨g8, 7, none⟩)) rfl (by kernel_rfl) (by kernel_rfl) (fun _ _ _ h => h) (Or.inl ⟨by kernel_rfl, fun W hW => ?_⟩) hS ?_
                  · go_simp
                  simp only [Act.put, List.getElem_toArray, List.getElem_cons_succ, List.getElem_cons_zero, List.setIfInBounds_toArray, List.set_cons_zero, List.set_cons_succ]
                  refine wpAnyH_ready (rs := [9]) (by kernel_rfl) (by simp) ?_
                  refine (AllReadyH.cons rfl (fun K hK => ?_) AllReadyH.nil)
                  · rw [if_pos (by kernel_rfl)]
                    refine wp_store_sl (g := g8) (i := 7) rfl rfl rfl y7 z7 ?_
                    have kw := ktc h8 7 (.slice A10 (m + 1) c10)
                    have bs : Below W3.heap.size Wd5 (Wd5.setCell ⟨g8, 7, none⟩ (.slice A10 (m + 1) c10)) := (Below.refl _ _).setCell (p := ⟨g8, 7, none⟩) lo8 _
                    have rowy := rowz.kt kw (by decide) (by decide) bs
                    have h9 := h8.set_at 7 (.slice A10 (m + 1) c10)
                    replace hS := hS.trans bs
                    refine hK.out _ _ hS (fun _ => ?_)
                    clear hK K
                    (try simp only [Act.put, List.getElem_toArray, List.getElem_cons_succ, List.getElem_cons_zero, List.setIfInBounds_toArray, List.set_cons_zero, List.set_cons_succ])
                    refine wpAnyH_done (by kernel_rfl) ?_ _
                    (repeat (first | go_skip | go_guarded | go_step | go_upon))
                    go_meet
                    case rel => exact ⟨A10, c10, by rw [HUM.out]; simp only [wcs, List.length_append, List.length_cons, List.length_nil, Nat.zero_add, HN.out.1]; exact h9, rowy, (HDR.out.mono H38.out).trans hS⟩
          · rw [if_pos (by kernel_rfl)]
            refine wp_make1R rfl rfl rfl ?_
            have hm := Held.new Wd1 33 (zeroR 1)
            have lm : W8.heap.size ≤ Wd1.heap.size := hD
            replace h8 := Held.alloc h8 (.cells (zeroR 1) 33)
            replace own0 := r_later own0 ((Below.refl _ _).alloc (Nat.le_refl _) (.cells (zeroR 1) 33))
            replace hS := hS.alloc (Nat.le_trans H38.out hD) (.cells (zeroR 1) 33)
            replace hD : W8.heap.size ≤ (Wd1.alloc (.cells (zeroR 1) 33)).heap.size := Nat.le_trans hD (by simp)
            generalize Wd1.alloc (.cells (zeroR 1) 33) = Wd7 at *
            refine hK.out _ _ hS (fun _ => ?_)
            clear hK K
            (try simp only [Act.put, List.getElem_toArray, List.getElem_cons_succ, List.getElem_cons_zero, List.setIfInBounds_toArray, List.set_cons_zero, List.set_cons_succ])
            refine wpAnyH_takeS HNS (i := 5) (v := .agg (rgc (some ⟨Wd1.heap.size, 0, none⟩) 1 1 0 0 1)) rfl (by kernel_rfl) (by kernel_rfl) (fun _ _ _ h => h) (Or.inl ⟨by kernel_rfl, fun W hW => ?_⟩) hS ?_
            · go_simp
            simp only [Act.put, List.getElem_toArray, List.getElem_cons_succ, List.getElem_cons_zero, List.setIfInBounds_toArray, List.set_cons_zero, List.set_cons_succ]
            refine wpAnyH_ready (rs := [3, 6]) (by kernel_rfl) (by simp) ?_
            refine (AllReadyH.cons rfl (fun K hK => ?_) (AllReadyH.cons rfl (fun K hK => ?_) AllReadyH.nil))
            · rw [if_pos (by kernel_rfl)]
              refine wp_append_g0 _ _ rfl W8.heap.size rfl own0 (A := a.ar) (c := a.cr) (C := W3.heap.size) HN.out.1 rfl (GR.out.below hS (Nat.le_refl _)) H38.out hD (by omega) (fun A9 c9 Wd8 rowg q2 q3 q4 => ?_)
              replace h8 := held_kt h8 q3 (by decide)
              replace hm := held_kt hm q3 (by decide)
              replace hS := hS.trans (q4.mono H38.out)
              replace hD : W8.heap.size ≤ Wd8.heap.size := Nat.le_trans hD q2.size
              clear own0 q2 q3 q4
              refine hK.out _ _ hS (fun _ => ?_)
              clear hK K
              (try simp only [Act.put, List.getElem_toArray, List.getElem_cons_succ, List.getElem_cons_zero, List.setIfInBounds_toArray, List.set_cons_zero, List.set_cons_succ])
              refine wpAnyH_ready (rs := [6]) (by kernel_rfl) (by simp) ?_
              refine (AllReadyH.cons rfl (fun K hK => ?_) AllReadyH.nil)
              · rw [if_pos (by kernel_rfl)]
                refine wp_build1G (A := some ⟨Wd1.heap.size, 0, none⟩) (k := 1) (c := 1) (p := 0) (q := 0) (r := 1) rfl rfl ?_
                have h6 := Held.new Wd8 46 (rgc (some ⟨Wd1.heap.size, 0, none⟩) 1 1 0 0 1)
                replace h8 := Held.alloc h8 (.cells (rgc (some ⟨Wd1.heap.size, 0, none⟩) 1 1 0 0 1) 46)
                replace hm := Held.alloc hm (.cells (rgc (some ⟨Wd1.heap.size, 0, none⟩) 1 1 0 0 1) 46)
                replace rowg := rowg.below ((Below.refl _ _).alloc (Nat.le_refl _) (.cells (rgc (some ⟨Wd1.heap.size, 0, none⟩) 1 1 0 0 1) 46)) (Nat.le_trans H38.out hD)
                replace hS := hS.alloc (Nat.le_trans H38.out hD) (.cells (rgc (some ⟨Wd1.heap.size, 0, none⟩) 1 1 0 0 1) 46)
                replace hD : W8.heap.size ≤ (Wd8.alloc (.cells (rgc (some ⟨Wd1.heap.size, 0, none⟩) 1 1 0 0 1) 46)).heap.size := Nat.le_trans hD (by simp)
                generalize Wd8.alloc (.cells (rgc (some ⟨Wd1.heap.size, 0, none⟩) 1 1 0 0 1) 46) = Wd9 at *
                refine hK.out _ _ hS (fun _ => ?_)
                clear hK K
                (try simp only [Act.put, List.getElem_toArray, List.getElem_cons_succ, List.getElem_cons_zero, List.setIfInBounds_toArray, List.set_cons_zero, List.set_cons_succ])
                refine wpAnyH_ready (rs := [7]) (by kernel_rfl) (by simp) ?_
                refine (AllReadyH.cons rfl (fun K hK => ?_) AllReadyH.nil)
                · rw [if_pos (by kernel_rfl)]
                  refine wp_append_g1 _ _ rfl rfl rowg (r := rng1 1) (A1 := some ⟨Wd1.heap.size, 0, none⟩) (c1 := 1) rfl h6 (zeroR_own hm lm (by decide)) H38.out hD (by omega) (fun A10 c10 Wd10 rowz q2 q3 => ?_)
                  replace h8 := held_kt h8 q2 (by decide)
                  replace hS := hS.trans (q3.mono H38.out)
                  have y7 := h8.cell 7
                  have z7 := h8.fz 7
                  simp at y7
                  clear q2 q3 rowg h6 hm
                  refine hK.out _ _ hS (fun _ => ?_)
                  clear hK K
                  (try simp only [Act.put, List.getElem_toArray, List.getElem_cons_succ, List.getElem_cons_zero, List.setIfInBounds_toArray, List.set_cons_zero, List.set_cons_succ])
                  refine wpAnyH_takeS HNS (i := 8) (v := .pointer (some ⟨g8, 7, none⟩)) rfl (by kernel_rfl) (by kernel_rfl) (fun _ _ _ h => h) (Or.inl ⟨by kernel_rfl, fun W hW => ?_⟩) hS ?_
                  · go_simp
                  simp only [Act.put, List.getElem_toArray, List.getElem_cons_succ, List.getElem_cons_zero, List.setIfInBounds_toArray, List.set_cons_zero, List.set_cons_succ]
                  refine wpAnyH_ready (rs := [9]) (by kernel_rfl) (by simp) ?_
                  refine (AllReadyH.cons rfl (fun K hK => ?_) AllReadyH.nil)
                  · rw [if_pos (by kernel_rfl)]
                    refine wp_store_sl (g := g8) (i := 7) rfl rfl rfl y7 z7 ?_
                    have kw := ktc h8 7 (.slice A10 (m + 1) c10)
                    have bs : Below W3.heap.size Wd10 (Wd10.setCell ⟨g8, 7, none⟩ (.slice A10 (m + 1) c10)) := (Below.refl _ _).setCell (p := ⟨g8, 7, none⟩) lo8 _
                    have rowy := rowz.kt kw (by decide) (by decide) bs
                    have h9 := h8.set_at 7 (.slice A10 (m + 1) c10)
                    replace hS := hS.trans bs
                    refine hK.out _ _ hS (fun _ => ?_)
                    clear hK K
                    (try simp only [Act.put, List.getElem_toArray, List.getElem_cons_succ, List.getElem_cons_zero, List.setIfInBounds_toArray, List.set_cons_zero, List.set_cons_succ])
                    refine wpAnyH_done (by kernel_rfl) ?_ _
                    (repeat (first | go_skip | go_guarded | go_step | go_upon))
                    go_meet
                    case rel => exact ⟨A10, c10, by rw [HUM.out]; simp only [wcs, List.length_append, List.length_cons, List.length_nil, Nat.zero_add, HN.out.1]; exact h9, rowy, (HDR.out.mono H38.out).trans hS⟩
            · rw [if_pos (by kernel_rfl)]
              refine wp_build1G (A := some ⟨Wd1.heap.size, 0, none⟩) (k := 1) (c := 1) (p := 0) (q := 0) (r := 1) rfl rfl ?_
              have h6 := Held.new Wd7 46 (rgc (some ⟨Wd1.heap.size, 0, none⟩) 1 1 0 0 1)
              have n6A : Wd7.heap.size ≠ Wq.heap.size := Nat.ne_of_gt (World.ownsRow.lt own0 _ rfl).2
              replace h8 := Held.alloc h8 (.cells (rgc (some ⟨Wd1.heap.size, 0, none⟩) 1 1 0 0 1) 46)
              replace hm := Held.alloc hm (.cells (rgc (some ⟨Wd1.heap.size, 0, none⟩) 1 1 0 0 1) 46)
              replace own0 := r_later own0 ((Below.refl _ _).alloc (Nat.le_refl _) (.cells (rgc (some ⟨Wd1.heap.size, 0, none⟩) 1 1 0 0 1) 46))
              replace hS := hS.alloc (Nat.le_trans H38.out hD) (.cells (rgc (some ⟨Wd1.heap.size, 0, none⟩) 1 1 0 0 1) 46)
              replace hD : W8.heap.size ≤ (Wd7.alloc (.cells (rgc (some ⟨Wd1.heap.size, 0, none⟩) 1 1 0 0 1) 46)).heap.size := Nat.le_trans hD (by simp)
              generalize Wd7.alloc (.cells (rgc (some ⟨Wd1.heap.size, 0, none⟩) 1 1 0 0 1) 46) = Wd12 at *
              refine hK.out _ _ hS (fun _ => ?_)
              clear hK K
              (try simp only [Act.put, List.getElem_toArray, List.getElem_cons_succ, List.getElem_cons_zero, List.setIfInBounds_toArray, List.set_cons_zero, List.set_cons_succ])
              refine wpAnyH_ready (rs := [3]) (by kernel_rfl) (by simp) ?_
              refine (AllReadyH.cons rfl (fun K hK => ?_) AllReadyH.nil)
              · rw [if_pos (by kernel_rfl)]
                refine wp_append_g0 _ _ rfl W8.heap.size rfl own0 (A := a.ar) (c := a.cr) (C := W3.heap.size) HN.out.1 rfl (GR.out.below hS (Nat.le_refl _)) H38.out hD (by omega) (fun A9 c9 Wd13 rowg q2 q3 q4 => ?_)
                replace h8 := held_kt h8 q3 (by decide)
                replace hm := held_kt hm q3 (by decide)
                replace h6 := Held.grown h6 q2 (fun e => n6A (Option.some.inj e).symm)
                replace hS := hS.trans (q4.mono H38.out)
                replace hD : W8.heap.size ≤ Wd13.heap.size := Nat.le_trans hD q2.size
                clear own0 q2 q3 q4
                refine hK.out _ _ hS (fun _ => ?_)
                clear hK K
                (try simp only [Act.put, List.getElem_toArray, List.getElem_cons_succ, List.getElem_cons_zero, List.setIfInBounds_toArray, List.set_cons_zero, List.set_cons_succ])
                refine wpAnyH_ready (rs := [7]) (by kernel_rfl) (by simp) ?_
                refine (AllReadyH.cons rfl (fun K hK => ?_) AllReadyH.nil)
                · rw [if_pos (by kernel_rfl)]
                  refine wp_append_g1 _ _ rfl rfl rowg (r := rng1 1) (A1 := some ⟨Wd1.heap.size, 0, none⟩) (c1 := 1) rfl h6 (zeroR_own hm lm (by decide)) H38.out hD (by omega) (fun A10 c10 Wd14 rowz q2 q3 => ?_)
                  replace h8 := held_kt h8 q2 (by decide)
                  replace hS := hS.trans (q3.mono H38.out)
                  have y7 := h8.cell 7
                  have z7 := h8.fz 7
                  simp at y7
                  clear q2 q3 rowg h6 hm
                  refine hK.out _ _ hS (fun _ => ?_)
                  clear hK K
                  (try simp only [Act.put, List.getElem_toArray, List.getElem_cons_succ, List.getElem_cons_zero, List.setIfInBounds_toArray, List.set_cons_zero, List.set_cons_succ])
                  refine wpAnyH_takeS HNS (i := 8) (v := .pointer (some ⟨g8, 7, none⟩)) rfl (by kernel_rfl) (by kernel_rfl) (fun _ _ _ h => h) (Or.inl ⟨by kernel_rfl, fun W hW => ?_⟩) hS ?_
                  · go_simp
                  simp only [Act.put, List.getElem_toArray, List.getElem_cons_succ, List.getElem_cons_zero, List.setIfInBounds_toArray, List.set_cons_zero, List.set_cons_succ]
                  refine wpAnyH_ready (rs := [9]) (by kernel_rfl) (by simp) ?_
                  refine (AllReadyH.cons rfl (fun K hK => ?_) AllReadyH.nil)
                  · rw [if_pos (by kernel_rfl)]
                    refine wp_store_sl (g := g8) (i := 7) rfl rfl rfl y7 z7 ?_
                    have kw := ktc h8 7 (.slice A10 (m + 1) c10)
                    have bs : Below W3.heap.size Wd14 (Wd14.setCell ⟨g8, 7, none⟩ (.slice A10 (m + 1) c10)) := (Below.refl _ _).setCell (p := ⟨g8, 7, none⟩) lo8 _
                    have rowy := rowz.kt kw (by decide) (by decide) bs
                    have h9 := h8.set_at 7 (.slice A10 (m + 1) c10)
                    replace hS := hS.trans bs
                    refine hK.out _ _ hS (fun _ => ?_)
                    clear hK K
                    (try simp only [Act.put, List.getElem_toArray, List.getElem_cons_succ, List.getElem_cons_zero, List.setIfInBounds_toArray, List.set_cons_zero, List.set_cons_succ])
                    refine wpAnyH_done (by kernel_rfl) ?_ _
                    (repeat (first | go_skip | go_guarded | go_step | go_upon))
                    go_meet
                    case rel => exact ⟨A10, c10, by rw [HUM.out]; simp only [wcs, List.length_append, List.length_cons, List.length_nil, Nat.zero_add, HN.out.1]; exact h9, rowy, (HDR.out.mono H38.out).trans hS⟩
        · rw [if_pos (by kernel_rfl)]
          refine wp_make1R rfl rfl rfl ?_
          have hm := Held.new Wq 33 (zeroR 1)
          have lm : W8.heap.size ≤ Wq.heap.size := hD
          replace h8 := Held.alloc h8 (.cells (zeroR 1) 33)
          replace hS := hS.alloc (Nat.le_trans H38.out hD) (.cells (zeroR 1) 33)
          replace hD : W8.heap.size ≤ (Wq.alloc (.cells (zeroR 1) 33)).heap.size := Nat.le_trans hD (by simp)
          generalize Wq.alloc (.cells (zeroR 1) 33) = Wd16 at *
          refine hK.out _ _ hS (fun _ => ?_)
          clear hK K
          (try simp only [Act.put, List.getElem_toArray, List.getElem_cons_succ, List.getElem_cons_zero, List.setIfInBounds_toArray, List.set_cons_zero, List.set_cons_succ])
          refine wpAnyH_takeS HNS (i := 5) (v := .agg (rgc (some ⟨Wq.heap.size, 0, none⟩) 1 1 0 0 1)) rfl (by kernel_rfl) (by kernel_rfl) (fun _ _ _ h => h) (Or.inl ⟨by kernel_rfl, fun W hW => ?_⟩) hS ?_
          · go_simp
          simp only [Act.put, List.getElem_toArray, List.getElem_cons_succ, List.getElem_cons_zero, List.setIfInBounds_toArray, List.set_cons_zero, List.set_cons_succ]
          refine wpAnyH_ready (rs := [0, 6]) (by kernel_rfl) (by simp) ?_
          refine (AllReadyH.cons rfl (fun K hK => ?_) (AllReadyH.cons rfl (fun K hK => ?_) AllReadyH.nil))
          · rw [if_pos (by kernel_rfl)]
            refine wp_build0G rfl ?_
            have own0 : (Wd16.alloc (.cells #[] 46)).ownsRow W8.heap.size 46 4 (.slice (some ⟨Wd16.heap.size, 0, none⟩) 0 0) 0 [] := World.ownsRow_made Wd16 #[] 0 hD (by decide) rfl
            replace h8 := Held.alloc h8 (.cells #[] 46)
            replace hm := Held.alloc hm (.cells #[] 46)
            replace hS := hS.alloc (Nat.le_trans H38.out hD) (.cells #[] 46)
            replace hD : W8.heap.size ≤ (Wd16.alloc (.cells #[] 46)).heap.size := Nat.le_trans hD (by simp)
            generalize Wd16.alloc (.cells #[] 46) = Wd17 at *
            refine hK.out _ _ hS (fun _ => ?_)
            clear hK K
            (try simp only [Act.put, List.getElem_toArray, List.getElem_cons_succ, List.getElem_cons_zero, List.setIfInBounds_toArray, List.set_cons_zero, List.set_cons_succ])
            refine wpAnyH_ready (rs := [3, 6]) (by kernel_rfl) (by simp) ?_
            refine (AllReadyH.cons rfl (fun K hK => ?_) (AllReadyH.cons rfl (fun K hK => ?_) AllReadyH.nil))
            · rw [if_pos (by kernel_rfl)]
              refine wp_append_g0 _ _ rfl W8.heap.size rfl own0 (A := a.ar) (c := a.cr) (C := W3.heap.size) HN.out.1 rfl (GR.out.below hS (Nat.le_refl _)) H38.out hD (by omega) (fun A9 c9 Wd18 rowg q2 q3 q4 => ?_)
              replace h8 := held_kt h8 q3 (by decide)
              replace hm := held_kt hm q3 (by decide)
              replace hS := hS.trans (q4.mono H38.out)
              replace hD : W8.heap.size ≤ Wd18.heap.size := Nat.le_trans hD q2.size
              clear own0 q2 q3 q4
              refine hK.out _ _ hS (fun _ => ?_)
              clear hK K
              (try simp only [Act.put, List.getElem_toArray, List.getElem_cons_succ, List.getElem_cons_zero, List.setIfInBounds_toArray, List.set_cons_zero, List.set_cons_succ])
              refine wpAnyH_ready (rs := [6]) (by kernel_rfl) (by simp) ?_
              refine (AllReadyH.cons rfl (fun K hK => ?_) AllReadyH.nil)
              · rw [if_pos (by kernel_rfl)]
                refine wp_build1G (A := some ⟨Wq.heap.size, 0, none⟩) (k := 1) (c := 1) (p := 0) (q := 0) (r := 1) rfl rfl ?_
                have h6 := Held.new Wd18 46 (rgc (some ⟨Wq.heap.size, 0, none⟩) 1 1 0 0 1)
                replace h8 := Held.alloc h8 (.cells (rgc (some ⟨Wq.heap.size, 0, none⟩) 1 1 0 0 1) 46)
                replace hm := Held.alloc hm (.cells (rgc (some ⟨Wq.heap.size, 0, none⟩) 1 1 0 0 1) 46)
                replace rowg := rowg.below ((Below.refl _ _).alloc (Nat.le_refl _) (.cells (rgc (some ⟨Wq.heap.size, 0, none⟩) 1 1 0 0 1) 46)) (Nat.le_trans H38.out hD)
                replace hS := hS.alloc (Nat.le_trans H38.out hD) (.cells (rgc (some ⟨Wq.heap.size, 0, none⟩) 1 1 0 0 1) 46)
                replace hD : W8.heap.size ≤ (Wd18.alloc (.cells (rgc (some ⟨Wq.heap.size, 0, none⟩) 1 1 0 0 1) 46)).heap.size := Nat.le_trans hD (by simp)
                generalize Wd18.alloc (.cells (rgc (some ⟨Wq.heap.size, 0, none⟩) 1 1 0 0 1) 46) = Wd19 at *
                refine hK.out _ _ hS (fun _ => ?_)
                clear hK K
                (try simp only [Act.put, List.getElem_toArray, List.getElem_cons_succ, List.getElem_cons_zero, List.setIfInBounds_toArray, List.set_cons_zero, List.set_cons_succ])
                refine wpAnyH_ready (rs := [7]) (by kernel_rfl) (by simp) ?_
                refine (AllReadyH.cons rfl (fun K hK => ?_) AllReadyH.nil)
                · rw [if_pos (by kernel_rfl)]
                  refine wp_append_g1 _ _ rfl rfl rowg (r := rng1 1) (A1 := some ⟨Wq.heap.size, 0, none⟩) (c1 := 1) rfl h6 (zeroR_own hm lm (by decide)) H38.out hD (by omega) (fun A10 c10 Wd20 rowz q2 q3 => ?_)
                  replace h8 := held_kt h8 q2 (by decide)
                  replace hS := hS.trans (q3.mono H38.out)
                  have y7 := h8.cell 7
                  have z7 := h8.fz 7
                  simp at y7
                  clear q2 q3 rowg h6 hm
                  refine hK.out _ _ hS (fun _ => ?_)
                  clear hK K
                  (try simp only [Act.put, List.getElem_toArray, List.getElem_cons_succ, List.getElem_cons_zero, List.setIfInBounds_toArray, List.set_cons_zero, List.set_cons_succ])
                  refine wpAnyH_takeS HNS (i := 8) (v := .pointer (some ⟨g8, 7, none⟩)) rfl (by kernel_rfl) (by kernel_rfl) (fun _ _ _ h => h) (Or.inl ⟨by kernel_rfl, fun W hW => ?_⟩) hS ?_
                  · go_simp
                  simp only [Act.put, List.getElem_toArray, List.getElem_cons_succ, List.getElem_cons_zero, List.setIfInBounds_toArray, List.set_cons_zero, List.set_cons_succ]
                  refine wpAnyH_ready (rs := [9]) (by kernel_rfl) (by simp) ?_
                  refine (AllReadyH.cons rfl (fun K hK => ?_) AllReadyH.nil)
                  · rw [if_pos (by kernel_rfl)]
                    refine wp_store_sl (g := g8) (i := 7) rfl rfl rfl y7 z7 ?_
                    have kw := ktc h8 7 (.slice A10 (m + 1) c10)
                    have bs : Below W3.heap.size Wd20 (Wd20.setCell ⟨g8, 7, none⟩ (.slice A10 (m + 1) c10)) := (Below.refl _ _).setCell (p := ⟨g8, 7, none⟩) lo8 _
                    have rowy := rowz.kt kw (by decide) (by decide) bs
                    have h9 := h8.set_at 7 (.slice A10 (m + 1) c10)
                    replace hS := hS.trans bs
                    refine hK.out _ _ hS (fun _ => ?_)
                    clear hK K
                    (try simp only [Act.put, List.getElem_toArray, List.getElem_cons_succ, List.getElem_cons_zero, List.setIfInBounds_toArray, List.set_cons_zero, List.set_cons_succ])
                    refine wpAnyH_done (by kernel_rfl) ?_ _
                    (repeat (first | go_skip | go_guarded | go_step | go_upon))
                    go_meet
                    case rel => exact ⟨A10, c10, by rw [HUM.out]; simp only [wcs, List.length_append, List.length_cons, List.length_nil, Nat.zero_add, HN.out.1]; exact h9, rowy, (HDR.out.mono H38.out).trans hS⟩
            · rw [if_pos (by kernel_rfl)]
              refine wp_build1G (A := some ⟨Wq.heap.size, 0, none⟩) (k := 1) (c := 1) (p := 0) (q := 0) (r := 1) rfl rfl ?_
              have h6 := Held.new Wd17 46 (rgc (some ⟨Wq.heap.size, 0, none⟩) 1 1 0 0 1)
              have n6A : Wd17.heap.size ≠ Wd16.heap.size := Nat.ne_of_gt (World.ownsRow.lt own0 _ rfl).2
              replace h8 := Held.alloc h8 (.cells (rgc (some ⟨Wq.heap.size, 0, none⟩) 1 1 0 0 1) 46)
              replace hm := Held.alloc hm (.cells (rgc (some ⟨Wq.heap.size, 0, none⟩) 1 1 0 0 1) 46)
              replace own0 := r_later own0 ((Below.refl _ _).alloc (Nat.le_refl _) (.cells (rgc (some ⟨Wq.heap.size, 0, none⟩) 1 1 0 0 1) 46))
              replace hS := hS.alloc (Nat.le_trans H38.out hD) (.cells (rgc (some ⟨Wq.heap.size, 0, none⟩) 1 1 0 0 1) 46)
              replace hD : W8.heap.size ≤ (Wd17.alloc (.cells (rgc (some ⟨Wq.heap.size, 0, none⟩) 1 1 0 0 1) 46)).heap.size := Nat.le_trans hD (by simp)
              generalize Wd17.alloc (.cells (rgc (some ⟨Wq.heap.size, 0, none⟩) 1 1 0 0 1) 46) = Wd22 at *
              refine hK.out _ _ hS (fun _ => ?_)
              clear hK K
              (try simp only [Act.put, List.getElem_toArray, List.getElem_cons_succ, List.getElem_cons_zero, List.setIfInBounds_toArray, List.set_cons_zero, List.set_cons_succ])
              refine wpAnyH_ready (rs := [3]) (by kernel_rfl) (by simp) ?_
              refine (AllReadyH.cons rfl (fun K hK => ?_) AllReadyH.nil)
              · rw [if_pos (by kernel_rfl)]
                refine wp_append_g0 _ _ rfl W8.heap.size rfl own0 (A := a.ar) (c := a.cr) (C := W3.heap.size) HN.out.1 rfl (GR.out.below hS (Nat.le_refl _)) H38.out hD (by omega) (fun A9 c9 Wd23 rowg q2 q3 q4 => ?_)
                replace h8 := held_kt h8 q3 (by decide)
                replace hm := held_kt hm q3 (by decide)
                replace h6 := Held.grown h6 q2 (fun e => n6A (Option.some.inj e).symm)
                replace hS := hS.trans (q4.mono H38.out)
                replace hD : W8.heap.size ≤ Wd23.heap.size := Nat.le_trans hD q2.size
                clear own0 q2 q3 q4
                refine hK.out _ _ hS (fun _ => ?_)
                clear hK K
                (try simp only [Act.put, List.getElem_toArray, List.getElem_cons_succ, List.getElem_cons_zero, List.setIfInBounds_toArray, List.set_cons_zero, List.set_cons_succ])
                refine wpAnyH_ready (rs := [7]) (by kernel_rfl) (by simp) ?_
                refine (AllReadyH.cons rfl (fun K hK => ?_) AllReadyH.nil)
                · rw [if_pos (by kernel_rfl)]
                  refine wp_append_g1 _ _ rfl rfl rowg (r := rng1 1) (A1 := some ⟨Wq.heap.size, 0, none⟩) (c1 := 1) rfl h6 (zeroR_own hm lm (by decide)) H38.out hD (by omega) (fun A10 c10 Wd24 rowz q2 q3 => ?_)
                  replace h8 := held_kt h8 q2 (by decide)
                  replace hS := hS.trans (q3.mono H38.out)
                  have y7 := h8.cell 7
                  have z7 := h8.fz 7
                  simp at y7
                  clear q2 q3 rowg h6 hm
                  refine hK.out _ _ hS (fun _ => ?_)
                  clear hK K
                  (try simp only [Act.put, List.getElem_toArray, List.getElem_cons_succ, List.getElem_cons_zero, List.setIfInBounds_toArray, List.set_cons_zero, List.set_cons_succ])
                  refine wpAnyH_takeS HNS (i := 8) (v := .pointer (some ⟨g8, 7, none⟩)) rfl (by kernel_rfl) (by kernel_rfl) (fun _ _ _ h => h) (Or.inl ⟨by kernel_rfl, fun W hW => ?_⟩) hS ?_
                  · go_simp
                  simp only [Act.put, List.getElem_toArray, List.getElem_cons_succ, List.getElem_cons_zero, List.setIfInBounds_toArray, List.set_cons_zero, List.set_cons_succ]
                  refine wpAnyH_ready (rs := [9]) (by kernel_rfl) (by simp) ?_
                  refine (AllReadyH.cons rfl (fun K hK => ?_) AllReadyH.nil)
                  · rw [if_pos (by kernel_rfl)]
                    refine wp_store_sl (g := g8) (i := 7) rfl rfl rfl y7 z7 ?_
                    have kw := ktc h8 7 (.slice A10 (m + 1) c10)
                    have bs : Below W3.heap.size Wd24 (Wd24.setCell ⟨g8, 7, none⟩ (.slice A10 (m + 1) c10)) := (Below.refl _ _).setCell (p := ⟨g8, 7, none⟩) lo8 _
                    have rowy := rowz.kt kw (by decide) (by decide) bs
                    have h9 := h8.set_at 7 (.slice A10 (m + 1) c10)
                    replace hS := hS.trans bs
                    refine hK.out _ _ hS (fun _ => ?_)
                    clear hK K
                    (try simp only [Act.put, List.getElem_toArray, List.getElem_cons_succ, List.getElem_cons_zero, List.setIfInBounds_toArray, List.set_cons_zero, List.set_cons_succ])
                    refine wpAnyH_done (by kernel_rfl) ?_ _
                    (repeat (first | go_skip | go_guarded | go_step | go_upon))
                    go_meet
                    case rel => exact ⟨A10, c10, by rw [HUM.out]; simp only [wcs, List.length_append, List.length_cons, List.length_nil, Nat.zero_add, HN.out.1]; exact h9, rowy, (HDR.out.mono H38.out).trans hS⟩
          · rw [if_pos (by kernel_rfl)]
            refine wp_build1G (A := some ⟨Wq.heap.size, 0, none⟩) (k := 1) (c := 1) (p := 0) (q := 0) (r := 1) rfl rfl ?_
            have h6 := Held.new Wd16 46 (rgc (some ⟨Wq.heap.size, 0, none⟩) 1 1 0 0 1)
            replace h8 := Held.alloc h8 (.cells (rgc (some ⟨Wq.heap.size, 0, none⟩) 1 1 0 0 1) 46)
            replace hm := Held.alloc hm (.cells (rgc (some ⟨Wq.heap.size, 0, none⟩) 1 1 0 0 1) 46)
            replace hS := hS.alloc (Nat.le_trans H38.out hD) (.cells (rgc (some ⟨Wq.heap.size, 0, none⟩) 1 1 0 0 1) 46)
            replace hD : W8.heap.size ≤ (Wd16.alloc (.cells (rgc (some ⟨Wq.heap.size, 0, none⟩) 1 1 0 0 1) 46)).heap.size := Nat.le_trans hD (by simp)
            generalize Wd16.alloc (.cells (rgc (some ⟨Wq.heap.size, 0, none⟩) 1 1 0 0 1) 46) = Wd26 at *
            refine hK.out _ _ hS (fun _ => ?_)
            clear hK K
            (try simp only [Act.put, List.getElem_toArray, List.getElem_cons_succ, List.getElem_cons_zero, List.setIfInBounds_toArray, List.set_cons_zero, List.set_cons_succ])
            refine wpAnyH_ready (rs := [0]) (by kernel_rfl) (by simp) ?_
            refine (AllReadyH.cons rfl (fun K hK => ?_) AllReadyH.nil)
            · rw [if_pos (by kernel_rfl)]
              refine wp_build0G rfl ?_
              have own0 : (Wd26.alloc (.cells #[] 46)).ownsRow W8.heap.size 46 4 (.slice (some ⟨Wd26.heap.size, 0, none⟩) 0 0) 0 [] := World.ownsRow_made Wd26 #[] 0 hD (by decide) rfl
              have n6A : Wd16.heap.size ≠ Wd26.heap.size := Nat.ne_of_lt (Held.lt h6)
              replace h8 := Held.alloc h8 (.cells #[] 46)
              replace hm := Held.alloc hm (.cells #[] 46)
              replace h6 := Held.alloc h6 (.cells #[] 46)
              replace hS := hS.alloc (Nat.le_trans H38.out hD) (.cells #[] 46)
              replace hD : W8.heap.size ≤ (Wd26.alloc (.cells #[] 46)).heap.size := Nat.le_trans hD (by simp)
              generalize Wd26.alloc (.cells #[] 46) = Wd27 at *
              refine hK.out _ _ hS (fun _ => ?_)
              clear hK K
              (try simp only [Act.put, List.getElem_toArray, List.getElem_cons_succ, List.getElem_cons_zero, List.setIfInBounds_toArray, List.set_cons_zero, List.set_cons_succ])
              refine wpAnyH_ready (rs := [3]) (by kernel_rfl) (by simp) ?_
              refine (AllReadyH.cons rfl (fun K hK => ?_) AllReadyH.nil)
              · rw [if_pos (by kernel_rfl)]
                refine wp_append_g0 _ _ rfl W8.heap.size rfl own0 (A := a.ar) (c := a.cr) (C := W3.heap.size) HN.out.1 rfl (GR.out.below hS (Nat.le_refl _)) H38.out hD (by omega) (fun A9 c9 Wd28 rowg q2 q3 q4 => ?_)
                replace h8 := held_kt h8 q3 (by decide)
                replace hm := held_kt hm q3 (by decide)
                replace h6 := Held.grown h6 q2 (fun e => n6A (Option.some.inj e).symm)
                replace hS := hS.trans (q4.mono H38.out)
                replace hD : W8.heap.size ≤ Wd28.heap.size := Nat.le_trans hD q2.size
                clear own0 q2 q3 q4
                refine hK.out _ _ hS (fun _ => ?_)
                clear hK K
                (try simp only [Act.put, List.getElem_toArray, List.getElem_cons_succ, List.getElem_cons_zero, List.setIfInBounds_toArray, List.set_cons_zero, List.set_cons_succ])
                refine wpAnyH_ready (rs := [7]) (by kernel_rfl) (by simp) ?_
                refine (AllReadyH.cons rfl (fun K hK => ?_) AllReadyH.nil)
                · rw [if_pos (by kernel_rfl)]
                  refine wp_append_g1 _ _ rfl rfl rowg (r := rng1 1) (A1 := some ⟨Wq.heap.size, 0, none⟩) (c1 := 1) rfl h6 (zeroR_own hm lm (by decide)) H38.out hD (by omega) (fun A10 c10 Wd29 rowz q2 q3 => ?_)
                  replace h8 := held_kt h8 q2 (by decide)
                  replace hS := hS.trans (q3.mono H38.out)
                  have y7 := h8.cell 7
                  have z7 := h8.fz 7
                  simp at y7
                  clear q2 q3 rowg h6 hm
                  refine hK.out _ _ hS (fun _ => ?_)
                  clear hK K
                  (try simp only [Act.put, List.getElem_toArray, List.getElem_cons_succ, List.getElem_cons_zero, List.setIfInBounds_toArray, List.set_cons_zero, List.set_cons_succ])
                  refine wpAnyH_takeS HNS (i := 8) (v := .pointer (some ⟨g8, 7, none⟩)) rfl (by kernel_rfl) (by kernel_rfl) (fun _ _ _ h => h) (Or.inl ⟨by kernel_rfl, fun W hW => ?_⟩) hS ?_
                  · go_simp
                  simp only [Act.put, List.getElem_toArray, List.getElem_cons_succ, List.getElem_cons_zero, List.setIfInBounds_toArray, List.set_cons_zero, List.set_cons_succ]
                  refine wpAnyH_ready (rs := [9]) (by kernel_rfl) (by simp) ?_
                  refine (AllReadyH.cons rfl (fun K hK => ?_) AllReadyH.nil)
                  · rw [if_pos (by kernel_rfl)]
                    refine wp_store_sl (g := g8) (i := 7) rfl rfl rfl y7 z7 ?_
                    have kw := ktc h8 7 (.slice A10 (m + 1) c10)
                    have bs : Below W3.heap.size Wd29 (Wd29.setCell ⟨g8, 7, none⟩ (.slice A10 (m + 1) c10)) := (Below.refl _ _).setCell (p := ⟨g8, 7, none⟩) lo8 _
                    have rowy := rowz.kt kw (by decide) (by decide) bs
                    have h9 := h8.set_at 7 (.slice A10 (m + 1) c10)
                    replace hS := hS.trans bs
                    refine hK.out _ _ hS (fun _ => ?_)
                    clear hK K
                    (try simp only [Act.put, List.getElem_toArray, List.getElem_cons_succ, List.getElem_cons_zero, List.setIfInBounds_toArray, List.set_cons_zero, List.set_cons_succ])
                    refine wpAnyH_done (by kernel_rfl) ?_ _
                    (repeat (first | go_skip | go_guarded | go_step | go_upon))
                    go_meet
                    case rel => exact ⟨A10, c10, by rw [HUM.out]; simp only [wcs, List.length_append, List.length_cons, List.length_nil, Nat.zero_add, HN.out.1]; exact h9, rowy, (HDR.out.mono H38.out).trans hS⟩
      case rest =>
        obtain ⟨A12, c12, h8, rg8, hb12⟩ := hcut
        have R8 := Lib.hid rg8
        replace hB := hB.trans hb12
        obtain ⟨W9, hW9⟩ : ∃ W, W = wc := ⟨_, rfl⟩
        rw [← hW9] at h8 R8 hB ⊢
        clear hW9 rg8 hb12
        have x8 := (K2.out.below hB).cell 8
        have x8a := ((K2.out.below hB).alloc (.cells #[] 33)).cell 8
        simp at x8 x8a
        rw [HN.out.2] at x8 x8a
        have l29 := (K2.out.below hB).lt
        have HC9 := Lib.hid (P3.out.later hB).cur
        have H39 := Lib.hid (show W3.heap.size ≤ W9.heap.size from hB.size)
        have H89 := Lib.hid h8
        go_upto_region 14 with (first
          | (guard_target = wpList _ _ _ (Oper.mk (some 76) _ _ _ _ _ :: _) _ _; at_builtin; refine wpList_append_rs0 rfl _ _ rfl W9 rfl rfl (A := a.aq) (c := a.cq) (k := U.cur) (n := m) (C := W9.heap.size) HN.out.2 rfl (HC9.out.below ((Below.refl _ _).alloc (Nat.le_refl _) _) (Nat.le_refl _)) (by omega) ?_; intro A6 c6 u6 o6 b6)
          | (go_at_call 10; (with_reducible refine (none_z _).mono ?_); rintro _ u7 ⟨rfl, b7⟩; have ba7 : Below u7.heap.size u7 (u7.alloc (.cells #[.int .i64 (-1), .int .i64 0] 33)) := (Below.refl _ _).alloc (Nat.le_refl _) _; have O7 := Lib.hid (show OwnR (u7.alloc (.cells #[.int .i64 (-1), .int .i64 0] 33)) W9.heap.size (.slice A6 m c6) U.cur from r_later (r_later o6 b7) ba7); have HB7 := Lib.hid (show Below W9.heap.size W9 (u7.alloc (.cells #[.int .i64 (-1), .int .i64 0] 33)) from Below.step (Below.step b6 b7) ba7); clear ba7 o6 b6 b7)
          | (guard_target = wpList _ _ _ (Oper.mk (some 79) _ _ _ _ _ :: _) _ _; at_builtin; refine wpList_append_rs rfl _ _ rfl W9.heap.size _ U.cur rfl O7.out (k := [noV]) (n := 1) rfl rfl (one2_at (-1) 0) (Nat.le_refl _) (by have := HN.out.2; omega) HB7.out.size ?_; intro v8 u13 r1 r2 r3; obtain ⟨A13, c13, rfl, -⟩ := Own2.lies r1; obtain ⟨n13, hn13⟩ : ∃ n, (U.cur ++ [noV]).length = n := ⟨_, rfl⟩; rw [hn13]; have HN13 := Lib.hid hn13; have bl8 := below_grow r2 (fun q e => (World.ownsRow.lt O7.out q e).1) HB7.out.size; have R13 := Lib.hid r1; have hb9 := HB7.out.trans bl8; have h8u := H89.out.below hb9; have y8 := h8u.cell 8; have z8 := h8u.fz 8; simp at y8; clear hn13 r1 r2 r3 bl8 O7 HB7 h8))
        have kt := ktc h8u 8 (.slice A13 n13 c13)
        have bs : Below W3.heap.size u13 (u13.setCell ⟨g8, 8, none⟩ (.slice A13 n13 c13)) := (Below.refl _ _).setCell (p := ⟨g8, 8, none⟩) lo8 _
        obtain ⟨UM2, hUM2⟩ : ∃ X : Wld, X = { UM with cur := U.cur ++ [noV] } := ⟨_, rfl⟩
        obtain ⟨aM, haM⟩ : ∃ X : WA, X = { a with ar := A12, cr := c12, aq := A13, cq := c13 } := ⟨_, rfl⟩
        have h8w : Held (u13.setCell ⟨g8, 8, none⟩ (.slice A13 n13 c13)) g8 40 (wcs aM UM2) := by
          have h9 := h8u.set_at 8 (.slice A13 n13 c13)
          rw [hUM2, haM]
          simp only [wcs, HN13.out]
          exact h9
        have oC : OwnR (u13.setCell ⟨g8, 8, none⟩ (.slice A13 n13 c13)) W9.heap.size (.slice A13 n13 c13) (U.cur ++ [noV]) := by
          have h9 := R13.out
          rw [HN13.out] at h9
          exact row_kt h9 kt (by decide)
        have gM := (R8.out.below hb9 H39.out).kt kt (by decide) (by decide) bs
        replace hB : Below W3.heap.size W3 (u13.setCell ⟨g8, 8, none⟩ (.slice A13 n13 c13)) := (hB.trans (hb9.mono H39.out)).trans bs
        clear R8 R13 kt bs h8u y8 z8 hb9 H89 x8 x8a l29 HC9
        generalize World.setCell _ _ _ = W10 at *
        have pu := P3.out.later hB
        have LU := HLU.out
        have RM := Lib.hid (fun (W : World) (hb : Below W10.heap.size W10 W) => by
          have pm : WAt W10 W10.heap.size aM UM2 := by
            rw [hUM2, haM, HUM.out]
            exact ⟨pu.prog, pu.pen, gM.at hB.size, own2_at oC⟩
          have LM : LenW UM2 := by
            rw [hUM2, HUM.out]
            refine ⟨LU.prog, LU.pen, by have := HN.out.1; simp; omega, fun r hr => ?_, by have := HN.out.2; simp; omega⟩
            rcases List.mem_append.1 hr with h | h
            · exact LU.buf r h
            · rw [List.mem_singleton.1 h]; simp [rng1]
          have eR : readyW UM2 = L := by
            rw [hUM2, HUM.out, ← HL.out.1]
            exact ready_more (by rw [HN.out.1, HN.out.2])
          have h9 := readyW_c C eR LM W (C.kept HT3.out (Below.step hB hb)) (pm.later hb)
          rw [HL.out.2] at h9
          exact h9 : ∀ W, Below W10.heap.size W10 W → Calls Tryd.prog 8 #[.agg (wcs aM UM2)] W fun e w' => ∃ A c, e = .returned (.slice A ln c) ∧ PAt w' w'.heap.size A L ∧ Below W.heap.size W w')
        have RF := Lib.hid (fun (W : World) (hb : Below W3.heap.size W3 W) (c c2 : Nat) (A : Option Addr) (hp : PAt W W.heap.size A L) => rrefs_n (decide_eq_true rfl) HL.out.2 HL.out.2 (by omega) (by omega) c c2 W hp (Q5.out.later hb) : ∀ W, Below W3.heap.size W3 W → ∀ (c c2 : Nat) (A : Option Addr), PAt W W.heap.size A L → Calls Tryd.prog 11 #[.slice A ln c, .slice A5 ln c2] W fun e w' => e = .returned (.bool true) ∧ Below W.heap.size W w')
        have hne : ((ln : Int) != (ln : Int)) = false := by simp
        clear pu LU gM oC hUM2 haM
        go_upto_region 16 with (first
          | (guard_target = wpList _ _ _ (Oper.mk (some 86) _ _ _ _ _ :: _) _ _; refine wpList_done rfl ?_; refine wpList_load_row rfl 40 _ rfl g8 rfl _ _ _ _ h8w Tryd.underlying40 rfl (by kernel_rfl) ?_)
          | (go_at_call 8; (with_reducible refine (RM.out _ (Below.refl _ _)).mono ?_); rintro _ u14 ⟨A14, c14, rfl, q14, b14⟩; have hB14 := hB.trans (b14.mono hB.size))
          | (go_at_call 11; (with_reducible refine (RF.out _ hB14 _ _ _ q14).mono ?_); rintro _ u15 ⟨rfl, b15⟩; replace hB := hB14.trans (b15.mono hB14.size); clear hB14 q14 b14 b15))
        clear hne RM RF h8w
        obtain ⟨W11, hW11⟩ : ∃ W, W = u15 := ⟨_, rfl⟩
        rw [← hW11] at hB ⊢
        clear hW11
        have k2 := K2.out.below hB
        have HB11 := Lib.hid hB
        by_cases m1 : at0 < 0
        case pos =>
          clear hB
          have hdr := (Below.refl W11.heap.size W11).drew
          have HDR := Lib.hid hdr
          replace k2 := Held.below k2 hdr
          clear hdr
          refine wp_region_held_drew (S := fun W => Below W11.drew.heap.size W11.drew W) (by kernel_rfl) (Below.refl _ _) (fun hS => ?_)
          generalize W11.drew = Wq at *
          show wpAnyH _ _ _ _ _ 18 #[false, false, false, false, false, false, false, false, false, false, false, false, false, false, false, false, false, false] _ _
          refine wpAnyH_begin (by kernel_rfl) (fun HNS => ?_)
          refine wpAnyH_takeS HNS (i := 0) (v := .int .i64 at0) rfl (by kernel_rfl) (by kernel_rfl) (fun _ _ _ h => h) (Or.inl ⟨by kernel_rfl, fun W hW => ?_⟩) hS ?_
          · go_simp
          simp only [Act.put, List.getElem_toArray, List.getElem_cons_succ, List.getElem_cons_zero, List.setIfInBounds_toArray, List.set_cons_zero, List.set_cons_succ]
          refine wpAnyH_takeS HNS (i := 1) (v := .bool true) rfl (by kernel_rfl) (by kernel_rfl) (fun _ _ _ h => h) (Or.inl ⟨by kernel_rfl, fun W hW => ?_⟩) hS ?_
          · go_simp
          simp only [Act.put, List.getElem_toArray, List.getElem_cons_succ, List.getElem_cons_zero, List.setIfInBounds_toArray, List.set_cons_zero, List.set_cons_succ]
          refine wpAnyH_takeS HNS (i := 2) (v := .bool true) rfl (by kernel_rfl) (by kernel_rfl) (fun _ _ _ h => h) (Or.inl ⟨by kernel_rfl, fun W hW => ?_⟩) hS ?_
          · go_simp
          simp only [Act.put, List.getElem_toArray, List.getElem_cons_succ, List.getElem_cons_zero, List.setIfInBounds_toArray, List.set_cons_zero, List.set_cons_succ]
          refine wpAnyH_takeS HNS (i := 3) (v := undef) rfl (by kernel_rfl) (by kernel_rfl) (fun _ _ _ h => h) (Or.inr ⟨by kernel_rfl, rfl⟩) hS ?_
          simp only [Act.put, List.getElem_toArray, List.getElem_cons_succ, List.getElem_cons_zero, List.setIfInBounds_toArray, List.set_cons_zero, List.set_cons_succ]
          refine wpAnyH_takeS HNS (i := 4) (v := undef) rfl (by kernel_rfl) (by kernel_rfl) (fun _ _ _ h => h) (Or.inr ⟨by kernel_rfl, rfl⟩) hS ?_
          simp only [Act.put, List.getElem_toArray, List.getElem_cons_succ, List.getElem_cons_zero, List.setIfInBounds_toArray, List.set_cons_zero, List.set_cons_succ]
          refine wpAnyH_takeS HNS (i := 5) (v := undef) rfl (by kernel_rfl) (by kernel_rfl) (fun _ _ _ h => h) (Or.inr ⟨by kernel_rfl, rfl⟩) hS ?_
          simp only [Act.put, List.getElem_toArray, List.getElem_cons_succ, List.getElem_cons_zero, List.setIfInBounds_toArray, List.set_cons_zero, List.set_cons_succ]
          refine wpAnyH_takeS HNS (i := 6) (v := undef) rfl (by kernel_rfl) (by kernel_rfl) (fun _ _ _ h => h) (Or.inr ⟨by kernel_rfl, rfl⟩) hS ?_
          simp only [Act.put, List.getElem_toArray, List.getElem_cons_succ, List.getElem_cons_zero, List.setIfInBounds_toArray, List.set_cons_zero, List.set_cons_succ]
          refine wpAnyH_takeS HNS (i := 7) (v := undef) rfl (by kernel_rfl) (by kernel_rfl) (fun _ _ _ h => h) (Or.inr ⟨by kernel_rfl, rfl⟩) hS ?_
          simp only [Act.put, List.getElem_toArray, List.getElem_cons_succ, List.getElem_cons_zero, List.setIfInBounds_toArray, List.set_cons_zero, List.set_cons_succ]
          refine wpAnyH_takeS HNS (i := 8) (v := .bool true) rfl (by kernel_rfl) (by kernel_rfl) (fun _ _ _ h => h) (Or.inl ⟨by kernel_rfl, fun W hW => ?_⟩) hS ?_
          · go_simp
          simp only [Act.put, List.getElem_toArray, List.getElem_cons_succ, List.getElem_cons_zero, List.setIfInBounds_toArray, List.set_cons_zero, List.set_cons_succ]
          refine wpAnyH_takeS HNS (i := 9) (v := .bool true) rfl (by kernel_rfl) (by kernel_rfl) (fun _ _ _ h => h) (Or.inl ⟨by kernel_rfl, fun W hW => ?_⟩) hS ?_
          · go_simp
          simp only [Act.put, List.getElem_toArray, List.getElem_cons_succ, List.getElem_cons_zero, List.setIfInBounds_toArray, List.set_cons_zero, List.set_cons_succ]
          refine wpAnyH_takeS HNS (i := 10) (v := undef) rfl (by kernel_rfl) (by kernel_rfl) (fun _ _ _ h => h) (Or.inr ⟨by kernel_rfl, rfl⟩) hS ?_
          simp only [Act.put, List.getElem_toArray, List.getElem_cons_succ, List.getElem_cons_zero, List.setIfInBounds_toArray, List.set_cons_zero, List.set_cons_succ]
          refine wpAnyH_takeS HNS (i := 11) (v := undef) rfl (by kernel_rfl) (by kernel_rfl) (fun _ _ _ h => h) (Or.inr ⟨by kernel_rfl, rfl⟩) hS ?_
          simp only [Act.put, List.getElem_toArray, List.getElem_cons_succ, List.getElem_cons_zero, List.setIfInBounds_toArray, List.set_cons_zero, List.set_cons_succ]
          refine wpAnyH_takeS HNS (i := 12) (v := undef) rfl (by kernel_rfl) (by kernel_rfl) (fun _ _ _ h => h) (Or.inr ⟨by kernel_rfl, rfl⟩) hS ?_
          simp only [Act.put, List.getElem_toArray, List.getElem_cons_succ, List.getElem_cons_zero, List.setIfInBounds_toArray, List.set_cons_zero, List.set_cons_succ]
          refine wpAnyH_takeS HNS (i := 13) (v := undef) rfl (by kernel_rfl) (by kernel_rfl) (fun _ _ _ h => h) (Or.inr ⟨by kernel_rfl, rfl⟩) hS ?_
          simp only [Act.put, List.getElem_toArray, List.getElem_cons_succ, List.getElem_cons_zero, List.setIfInBounds_toArray, List.set_cons_zero, List.set_cons_succ]
          refine wpAnyH_takeS HNS (i := 14) (v := undef) rfl (by kernel_rfl) (by kernel_rfl) (fun _ _ _ h => h) (Or.inr ⟨by kernel_rfl, rfl⟩) hS ?_
          simp only [Act.put, List.getElem_toArray, List.getElem_cons_succ, List.getElem_cons_zero, List.setIfInBounds_toArray, List.set_cons_zero, List.set_cons_succ]
          refine wpAnyH_takeS HNS (i := 15) (v := undef) rfl (by kernel_rfl) (by kernel_rfl) (fun _ _ _ h => h) (Or.inr ⟨by kernel_rfl, rfl⟩) hS ?_
          simp only [Act.put, List.getElem_toArray, List.getElem_cons_succ, List.getElem_cons_zero, List.setIfInBounds_toArray, List.set_cons_zero, List.set_cons_succ]
          refine wpAnyH_takeS HNS (i := 16) (v := undef) rfl (by kernel_rfl) (by kernel_rfl) (fun _ _ _ h => h) (Or.inr ⟨by kernel_rfl, rfl⟩) hS ?_
          simp only [Act.put, List.getElem_toArray, List.getElem_cons_succ, List.getElem_cons_zero, List.setIfInBounds_toArray, List.set_cons_zero, List.set_cons_succ]
          refine wpAnyH_takeS HNS (i := 17) (v := .bool true) rfl (by kernel_rfl) (by kernel_rfl) (fun _ _ _ h => h) (Or.inl ⟨by kernel_rfl, fun W hW => ?_⟩) hS ?_
          · go_simp
          simp only [Act.put, List.getElem_toArray, List.getElem_cons_succ, List.getElem_cons_zero, List.setIfInBounds_toArray, List.set_cons_zero, List.set_cons_succ]
          refine wpAnyH_done (by kernel_rfl) ?_ _
          (repeat (first | go_skip | go_guarded | go_step | go_upon))
          go_wp2_with fail
          go_ret
          exact ⟨rfl, Below.step BW.out (Below.step HB11.out (Below.step HDR.out hS))⟩
        case neg =>
        by_cases m2 : (m : Int) ≤ at0
        case pos =>
          clear hB
          have hdr := (Below.refl W11.heap.size W11).drew
          have HDR := Lib.hid hdr
          replace k2 := Held.below k2 hdr
          clear hdr
          refine wp_region_held_drew (S := fun W => Below W11.drew.heap.size W11.drew W) (by kernel_rfl) (Below.refl _ _) (fun hS => ?_)
          generalize W11.drew = Wq at *
          show wpAnyH _ _ _ _ _ 18 #[false, false, false, false, false, false, false, false, false, false, false, false, false, false, false, false, false, false] _ _
          refine wpAnyH_begin (by kernel_rfl) (fun HNS => ?_)
          refine wpAnyH_takeS HNS (i := 0) (v := .int .i64 at0) rfl (by kernel_rfl) (by kernel_rfl) (fun _ _ _ h => h) (Or.inl ⟨by kernel_rfl, fun W hW => ?_⟩) hS ?_
          · go_simp
          simp only [Act.put, List.getElem_toArray, List.getElem_cons_succ, List.getElem_cons_zero, List.setIfInBounds_toArray, List.set_cons_zero, List.set_cons_succ]
          refine wpAnyH_takeS HNS (i := 1) (v := .bool false) rfl (by kernel_rfl) (by kernel_rfl) (fun _ _ _ h => h) (Or.inl ⟨by kernel_rfl, fun W hW => ?_⟩) hS ?_
          · go_simp
          simp only [Act.put, List.getElem_toArray, List.getElem_cons_succ, List.getElem_cons_zero, List.setIfInBounds_toArray, List.set_cons_zero, List.set_cons_succ]
          refine wpAnyH_takeS HNS (i := 2) (v := .bool false) rfl (by kernel_rfl) (by kernel_rfl) (fun _ _ _ h => h) (Or.inl ⟨by kernel_rfl, fun W hW => ?_⟩) hS ?_
          · go_simp
          simp only [Act.put, List.getElem_toArray, List.getElem_cons_succ, List.getElem_cons_zero, List.setIfInBounds_toArray, List.set_cons_zero, List.set_cons_succ]
          refine wpAnyH_takeS HNS (i := 3) (v := .int .i64 at0) rfl (by kernel_rfl) (by kernel_rfl) (fun _ _ _ h => h) (Or.inl ⟨by kernel_rfl, fun W hW => ?_⟩) hS ?_
          · go_simp
          simp only [Act.put, List.getElem_toArray, List.getElem_cons_succ, List.getElem_cons_zero, List.setIfInBounds_toArray, List.set_cons_zero, List.set_cons_succ]
          refine wpAnyH_takeS HNS (i := 4) (v := .pointer (some ⟨w.heap.size, 8, none⟩)) rfl (by kernel_rfl) (by kernel_rfl) (fun _ _ _ h => h) (Or.inl ⟨by kernel_rfl, fun W hW => ?_⟩) hS ?_
          · go_simp
          simp only [Act.put, List.getElem_toArray, List.getElem_cons_succ, List.getElem_cons_zero, List.setIfInBounds_toArray, List.set_cons_zero, List.set_cons_succ]
          refine wpAnyH_takeS HNS (i := 5) (v := .slice a.aq m a.cq) rfl (by kernel_rfl) (by kernel_rfl) (fun _ _ _ h => h) (Or.inl ⟨by kernel_rfl, fun W hW => ?_⟩) hS ?_
          · (have hz := Held.below k2 hW; have z0 := hz.cell 8; simp at z0; rw [HN.out.2] at z0; go_simp)
          simp only [Act.put, List.getElem_toArray, List.getElem_cons_succ, List.getElem_cons_zero, List.setIfInBounds_toArray, List.set_cons_zero, List.set_cons_succ]
          refine wpAnyH_takeS HNS (i := 6) (v := .int .i64 (m : Nat)) rfl (by kernel_rfl) (by kernel_rfl) (fun _ _ _ h => h) (Or.inl ⟨by kernel_rfl, fun W hW => ?_⟩) hS ?_
          · go_simp
          simp only [Act.put, List.getElem_toArray, List.getElem_cons_succ, List.getElem_cons_zero, List.setIfInBounds_toArray, List.set_cons_zero, List.set_cons_succ]
          refine wpAnyH_takeS HNS (i := 7) (v := .bool true) rfl (by kernel_rfl) (by kernel_rfl) (fun _ _ _ h => h) (Or.inl ⟨by kernel_rfl, fun W hW => ?_⟩) hS ?_
          · go_simp
          simp only [Act.put, List.getElem_toArray, List.getElem_cons_succ, List.getElem_cons_zero, List.setIfInBounds_toArray, List.set_cons_zero, List.set_cons_succ]
          refine wpAnyH_takeS HNS (i := 8) (v := .bool true) rfl (by kernel_rfl) (by kernel_rfl) (fun _ _ _ h => h) (Or.inl ⟨by kernel_rfl, fun W hW => ?_⟩) hS ?_
          · go_simp
          simp only [Act.put, List.getElem_toArray, List.getElem_cons_succ, List.getElem_cons_zero, List.setIfInBounds_toArray, List.set_cons_zero, List.set_cons_succ]
          refine wpAnyH_takeS HNS (i := 9) (v := .bool true) rfl (by kernel_rfl) (by kernel_rfl) (fun _ _ _ h => h) (Or.inl ⟨by kernel_rfl, fun W hW => ?_⟩) hS ?_
          · go_simp
          simp only [Act.put, List.getElem_toArray, List.getElem_cons_succ, List.getElem_cons_zero, List.setIfInBounds_toArray, List.set_cons_zero, List.set_cons_succ]
          refine wpAnyH_takeS HNS (i := 10) (v := undef) rfl (by kernel_rfl) (by kernel_rfl) (fun _ _ _ h => h) (Or.inr ⟨by kernel_rfl, rfl⟩) hS ?_
          simp only [Act.put, List.getElem_toArray, List.getElem_cons_succ, List.getElem_cons_zero, List.setIfInBounds_toArray, List.set_cons_zero, List.set_cons_succ]
          refine wpAnyH_takeS HNS (i := 11) (v := undef) rfl (by kernel_rfl) (by kernel_rfl) (fun _ _ _ h => h) (Or.inr ⟨by kernel_rfl, rfl⟩) hS ?_
          simp only [Act.put, List.getElem_toArray, List.getElem_cons_succ, List.getElem_cons_zero, List.setIfInBounds_toArray, List.set_cons_zero, List.set_cons_succ]
          refine wpAnyH_takeS HNS (i := 12) (v := undef) rfl (by kernel_rfl) (by kernel_rfl) (fun _ _ _ h => h) (Or.inr ⟨by kernel_rfl, rfl⟩) hS ?_
          simp only [Act.put, List.getElem_toArray, List.getElem_cons_succ, List.getElem_cons_zero, List.setIfInBounds_toArray, List.set_cons_zero, List.set_cons_succ]
          refine wpAnyH_takeS HNS (i := 13) (v := undef) rfl (by kernel_rfl) (by kernel_rfl) (fun _ _ _ h => h) (Or.inr ⟨by kernel_rfl, rfl⟩) hS ?_
          simp only [Act.put, List.getElem_toArray, List.getElem_cons_succ, List.getElem_cons_zero, List.setIfInBounds_toArray, List.set_cons_zero, List.set_cons_succ]
          refine wpAnyH_takeS HNS (i := 14) (v := undef) rfl (by kernel_rfl) (by kernel_rfl) (fun _ _ _ h => h) (Or.inr ⟨by kernel_rfl, rfl⟩) hS ?_
          simp only [Act.put, List.getElem_toArray, List.getElem_cons_succ, List.getElem_cons_zero, List.setIfInBounds_toArray, List.set_cons_zero, List.set_cons_succ]
          refine wpAnyH_takeS HNS (i := 15) (v := undef) rfl (by kernel_rfl) (by kernel_rfl) (fun _ _ _ h => h) (Or.inr ⟨by kernel_rfl, rfl⟩) hS ?_
          simp only [Act.put, List.getElem_toArray, List.getElem_cons_succ, List.getElem_cons_zero, List.setIfInBounds_toArray, List.set_cons_zero, List.set_cons_succ]
          refine wpAnyH_takeS HNS (i := 16) (v := undef) rfl (by kernel_rfl) (by kernel_rfl) (fun _ _ _ h => h) (Or.inr ⟨by kernel_rfl, rfl⟩) hS ?_
          simp only [Act.put, List.getElem_toArray, List.getElem_cons_succ, List.getElem_cons_zero, List.setIfInBounds_toArray, List.set_cons_zero, List.set_cons_succ]
          refine wpAnyH_takeS HNS (i := 17) (v := .bool true) rfl (by kernel_rfl) (by kernel_rfl) (fun _ _ _ h => h) (Or.inl ⟨by kernel_rfl, fun W hW => ?_⟩) hS ?_
          · go_simp
          simp only [Act.put, List.getElem_toArray, List.getElem_cons_succ, List.getElem_cons_zero, List.setIfInBounds_toArray, List.set_cons_zero, List.set_cons_succ]
          refine wpAnyH_done (by kernel_rfl) ?_ _
          (repeat (first | go_skip | go_guarded | go_step | go_upon))
          go_wp2_with fail
          go_ret
          exact ⟨rfl, Below.step BW.out (Below.step HB11.out (Below.step HDR.out hS))⟩
        case neg =>
        obtain ⟨k, rfl⟩ : ∃ k : Nat, at0 = k := ⟨at0.toNat, by omega⟩
        have hkm : k < m := by omega
        have hk0 : (0 : Int) ≤ (k : Int) := by omega
        have hkI : (k : Int) < (m : Int) := by omega
        have hkc : k < U.cur.length := by rw [HN.out.2]; exact hkm
        obtain ⟨bq, oq, e2, hbq, q0, q1⟩ := pat_cell (P3.out.later hB).cur hkc
        obtain ⟨ck, hck⟩ : ∃ r, U.cur[k] = r := ⟨_, rfl⟩
        rw [hck] at q0 q1
        have HCK := Lib.hid hck
        have E2 := Lib.hid e2
        clear hck e2 m1 hB
        go_cut [109] from 92 to 109 (fun v wx => v = .bool (decide (ck = noV)) ∧ Below W11.heap.size W11 wx)
        case first =>
          have EQ9 : ∀ w9, (binOp .eql 33 (gv ck.1 ck.2) (gv (-1) 0)).run Tryd.prog w9 = .ok (.bool (decide (ck = noV))) w9 := fun w9 => eqr_run ck.1 ck.2 (-1) 0 w9
          have hdr := (Below.refl W11.heap.size W11).drew
          have HDR := Lib.hid hdr
          replace k2 := Held.below k2 hdr
          replace q0 := (hdr.cell (p := ⟨bq, _, none⟩) hbq).trans q0
          replace q1 := (hdr.cell (p := ⟨bq, _, none⟩) hbq).trans q1
          replace hbq : bq < W11.drew.heap.size := hbq
          clear hdr
          refine wp_region_held_drew (S := fun W => Below W11.drew.heap.size W11.drew W) (by kernel_rfl) (Below.refl _ _) (fun hS => ?_)
          generalize W11.drew = Wq at *
          show wpAnyH _ _ _ _ _ 18 #[false, false, false, false, false, false, false, false, false, false, false, false, false, false, false, false, false, false] _ _
          refine wpAnyH_begin (by kernel_rfl) (fun HNS => ?_)
          refine wpAnyH_takeS HNS (i := 0) (v := .int .i64 (k : Nat)) rfl (by kernel_rfl) (by kernel_rfl) (fun _ _ _ h => h) (Or.inl ⟨by kernel_rfl, fun W hW => ?_⟩) hS ?_
          · go_simp
          simp only [Act.put, List.getElem_toArray, List.getElem_cons_succ, List.getElem_cons_zero, List.setIfInBounds_toArray, List.set_cons_zero, List.set_cons_succ]
          refine wpAnyH_takeS HNS (i := 1) (v := .bool false) rfl (by kernel_rfl) (by kernel_rfl) (fun _ _ _ h => h) (Or.inl ⟨by kernel_rfl, fun W hW => ?_⟩) hS ?_
          · go_simp
          simp only [Act.put, List.getElem_toArray, List.getElem_cons_succ, List.getElem_cons_zero, List.setIfInBounds_toArray, List.set_cons_zero, List.set_cons_succ]
          refine wpAnyH_takeS HNS (i := 2) (v := .bool false) rfl (by kernel_rfl) (by kernel_rfl) (fun _ _ _ h => h) (Or.inl ⟨by kernel_rfl, fun W hW => ?_⟩) hS ?_
          · go_simp
          simp only [Act.put, List.getElem_toArray, List.getElem_cons_succ, List.getElem_cons_zero, List.setIfInBounds_toArray, List.set_cons_zero, List.set_cons_succ]
          refine wpAnyH_takeS HNS (i := 3) (v := .int .i64 (k : Nat)) rfl (by kernel_rfl) (by kernel_rfl) (fun _ _ _ h => h) (Or.inl ⟨by kernel_rfl, fun W hW => ?_⟩) hS ?_
          · go_simp
          simp only [Act.put, List.getElem_toArray, List.getElem_cons_succ, List.getElem_cons_zero, List.setIfInBounds_toArray, List.set_cons_zero, List.set_cons_succ]
          refine wpAnyH_takeS HNS (i := 4) (v := .pointer (some ⟨w.heap.size, 8, none⟩)) rfl (by kernel_rfl) (by kernel_rfl) (fun _ _ _ h => h) (Or.inl ⟨by kernel_rfl, fun W hW => ?_⟩) hS ?_
          · go_simp
          simp only [Act.put, List.getElem_toArray, List.getElem_cons_succ, List.getElem_cons_zero, List.setIfInBounds_toArray, List.set_cons_zero, List.set_cons_succ]
          refine wpAnyH_takeS HNS (i := 5) (v := .slice a.aq m a.cq) rfl (by kernel_rfl) (by kernel_rfl) (fun _ _ _ h => h) (Or.inl ⟨by kernel_rfl, fun W hW => ?_⟩) hS ?_
          · (have hz := Held.below k2 hW; have z0 := hz.cell 8; simp at z0; rw [HN.out.2] at z0; go_simp)
          simp only [Act.put, List.getElem_toArray, List.getElem_cons_succ, List.getElem_cons_zero, List.setIfInBounds_toArray, List.set_cons_zero, List.set_cons_succ]
          refine wpAnyH_takeS HNS (i := 6) (v := .int .i64 (m : Nat)) rfl (by kernel_rfl) (by kernel_rfl) (fun _ _ _ h => h) (Or.inl ⟨by kernel_rfl, fun W hW => ?_⟩) hS ?_
          · go_simp
          simp only [Act.put, List.getElem_toArray, List.getElem_cons_succ, List.getElem_cons_zero, List.setIfInBounds_toArray, List.set_cons_zero, List.set_cons_succ]
          refine wpAnyH_takeS HNS (i := 7) (v := .bool false) rfl (by kernel_rfl) (by kernel_rfl) (fun _ _ _ h => h) (Or.inl ⟨by kernel_rfl, fun W hW => ?_⟩) hS ?_
          · go_simp
          simp only [Act.put, List.getElem_toArray, List.getElem_cons_succ, List.getElem_cons_zero, List.setIfInBounds_toArray, List.set_cons_zero, List.set_cons_succ]
          refine wpAnyH_takeS HNS (i := 8) (v := .bool false) rfl (by kernel_rfl) (by kernel_rfl) (fun _ _ _ h => h) (Or.inl ⟨by kernel_rfl, fun W hW => ?_⟩) hS ?_
          · go_simp
          simp only [Act.put, List.getElem_toArray, List.getElem_cons_succ, List.getElem_cons_zero, List.setIfInBounds_toArray, List.set_cons_zero, List.set_cons_succ]
          refine wpAnyH_takeS HNS (i := 9) (v := .bool false) rfl (by kernel_rfl) (by kernel_rfl) (fun _ _ _ h => h) (Or.inl ⟨by kernel_rfl, fun W hW => ?_⟩) hS ?_
          · go_simp
          simp only [Act.put, List.getElem_toArray, List.getElem_cons_succ, List.getElem_cons_zero, List.setIfInBounds_toArray, List.set_cons_zero, List.set_cons_succ]
          refine wpAnyH_takeS HNS (i := 10) (v := .pointer (some ⟨w.heap.size, 8, none⟩)) rfl (by kernel_rfl) (by kernel_rfl) (fun _ _ _ h => h) (Or.inl ⟨by kernel_rfl, fun W hW => ?_⟩) hS ?_
          · go_simp
          simp only [Act.put, List.getElem_toArray, List.getElem_cons_succ, List.getElem_cons_zero, List.setIfInBounds_toArray, List.set_cons_zero, List.set_cons_succ]
          refine wpAnyH_takeS HNS (i := 11) (v := .slice (some ⟨bq, oq, none⟩) m a.cq) rfl (by kernel_rfl) (by kernel_rfl) (fun _ _ _ h => h) (Or.inl ⟨by kernel_rfl, fun W hW => ?_⟩) hS ?_
          · (have hz := Held.below k2 hW; have z0 := hz.cell 8; simp at z0; rw [HN.out.2, E2.out] at z0; go_simp)
          simp only [Act.put, List.getElem_toArray, List.getElem_cons_succ, List.getElem_cons_zero, List.setIfInBounds_toArray, List.set_cons_zero, List.set_cons_succ]
          refine wpAnyH_takeS HNS (i := 12) (v := .int .i64 (k : Nat)) rfl (by kernel_rfl) (by kernel_rfl) (fun _ _ _ h => h) (Or.inl ⟨by kernel_rfl, fun W hW => ?_⟩) hS ?_
          · go_simp
          simp only [Act.put, List.getElem_toArray, List.getElem_cons_succ, List.getElem_cons_zero, List.setIfInBounds_toArray, List.set_cons_zero, List.set_cons_succ]
          refine wpAnyH_takeS HNS (i := 13) (v := .pointer (some ⟨bq, oq + k * 2, none⟩)) rfl (by kernel_rfl) (by kernel_rfl) (fun _ _ _ h => h) (Or.inl ⟨by kernel_rfl, fun W hW => ?_⟩) hS ?_
          · go_simp
          simp only [Act.put, List.getElem_toArray, List.getElem_cons_succ, List.getElem_cons_zero, List.setIfInBounds_toArray, List.set_cons_zero, List.set_cons_succ]
          refine wpAnyH_takeS HNS (i := 14) (v := .agg #[.int .i64 ck.1, .int .i64 ck.2]) rfl (by kernel_rfl) (by kernel_rfl) (fun _ _ _ h => h) (Or.inl ⟨by kernel_rfl, fun W hW => ?_⟩) hS ?_
          · (have z0 := (hW.cell (p := ⟨bq, _, none⟩) hbq).trans q0; have z1 := (hW.cell (p := ⟨bq, _, none⟩) hbq).trans q1; go_simp)
          simp only [Act.put, List.getElem_toArray, List.getElem_cons_succ, List.getElem_cons_zero, List.setIfInBounds_toArray, List.set_cons_zero, List.set_cons_succ]
          refine wpAnyH_ready (rs := [15]) (by kernel_rfl) (by simp) ?_
          refine (AllReadyH.cons rfl (fun K hK => ?_) AllReadyH.nil)
          · rw [if_pos (by kernel_rfl)]
            go_simp
            go_at_call 10
            (with_reducible refine (none_z _).mono ?_)
            rintro _ u2 ⟨rfl, hb2⟩
            replace hS := Below.step hS hb2
            (repeat (first | go_skip | go_guarded | go_step | go_upon))
            refine hK.out _ _ hS (fun _ => ?_)
            clear hK K
            (try simp only [Act.put, List.getElem_toArray, List.getElem_cons_succ, List.getElem_cons_zero, List.setIfInBounds_toArray, List.set_cons_zero, List.set_cons_succ])
            refine wpAnyH_takeS HNS (i := 16) (v := .bool (decide (ck = noV))) rfl (by kernel_rfl) (by kernel_rfl) (fun _ _ _ h => h) (Or.inl ⟨by kernel_rfl, fun W hW => ?_⟩) hS ?_
            · (have e9 := EQ9 W; go_simp; try exact e9)
            simp only [Act.put, List.getElem_toArray, List.getElem_cons_succ, List.getElem_cons_zero, List.setIfInBounds_toArray, List.set_cons_zero, List.set_cons_succ]
            refine wpAnyH_takeS HNS (i := 17) (v := .bool (decide (ck = noV))) rfl (by kernel_rfl) (by kernel_rfl) (fun _ _ _ h => h) (Or.inl ⟨by kernel_rfl, fun W hW => ?_⟩) hS ?_
            · go_simp
            simp only [Act.put, List.getElem_toArray, List.getElem_cons_succ, List.getElem_cons_zero, List.setIfInBounds_toArray, List.set_cons_zero, List.set_cons_succ]
            refine wpAnyH_done (by kernel_rfl) ?_ _
            (repeat (first | go_skip | go_guarded | go_step | go_upon))
            go_meet
            case rel => exact ⟨rfl, Below.step HDR.out hS⟩
        case rest =>
          obtain ⟨rfl, hwc⟩ := hcut
          have hB := Below.step HB11.out hwc
          clear hwc k2 q0 q1 hbq E2
          by_cases hcn : ck = noV
          case pos =>
            rw [decide_eq_true hcn]
            clear hcn
            go_wp2_with fail
            go_ret
            exact ⟨rfl, Below.step BW.out hB⟩
          case neg =>
          rw [decide_eq_false hcn]
          obtain ⟨W12, hW12⟩ : ∃ W, W = wc := ⟨_, rfl⟩
          rw [← hW12] at hB ⊢
          clear hW12 HB11 m2
          have k2 := K2.out.below hB
          have hn9 := Held.new W12 40 wz0
          go_upto_region 19 with (first
            | (guard_target = wpList _ _ _ (Oper.mk (some 110) _ _ _ _ none :: _) _ _; refine wpList_load_row rfl 40 _ rfl w.heap.size rfl _ _ _ _ k2 Tryd.underlying40 rfl (by kernel_rfl) ?_)
            | (guard_target = wpList _ _ _ (Oper.mk _ (Op.store 40 (.tmp 9) _) _ _ _ none :: _) _ _; refine wpList_store_row rfl 40 _ _ rfl W12.heap.size (wcs a U) rfl rfl _ _ hn9 (by kernel_rfl) rfl (by simp [Value.oneCell']) ?_))
          have bst : Below W12.heap.size W12 ((W12.alloc (.cells wz0 40)).setRow W12.heap.size (wcs a U)) := below_setRow ((Below.refl _ _).alloc (Nat.le_refl _) _) (Nat.le_refl _) _
          have h9v := held_rowSelf hn9 (wcs a U)
          have lo9 : W3.heap.size ≤ W12.heap.size := hB.size
          replace hB := hB.trans (bst.mono hB.size)
          clear hn9 bst k2
          (try simp only [Act.put])
          generalize World.setRow _ W12.heap.size _ = W13 at *
          generalize W12.heap.size = g9 at *
          have x8 := (K2.out.below hB).cell 8
          have x8a := ((K2.out.below hB).alloc (.cells #[] 33)).cell 8
          simp at x8 x8a
          rw [HN.out.2] at x8 x8a
          have l213 := (K2.out.below hB).lt
          have HC13 := Lib.hid (P3.out.later hB).cur
          have l913 := h9v.lt
          go_upto_region 20 with (guard_target = wpList _ _ _ (Oper.mk (some 114) _ _ _ _ _ :: _) _ _; at_builtin; refine wpList_append_rs0 rfl _ _ rfl W13 rfl rfl (A := a.aq) (c := a.cq) (k := U.cur) (n := m) (C := W13.heap.size) HN.out.2 rfl (HC13.out.below ((Below.refl _ _).alloc (Nat.le_refl _) _) (Nat.le_refl _)) (by omega) ?_; intro A6 c6 u6 o6 b6; have h9u := h9v.below b6; have y8 := h9u.cell 8; have z8 := h9u.fz 8; simp at y8)
          have kt := ktc h9u 8 (.slice A6 m c6)
          have bs : Below W3.heap.size u6 (u6.setCell ⟨g9, 8, none⟩ (.slice A6 m c6)) := (Below.refl _ _).setCell (p := ⟨g9, 8, none⟩) lo9 _
          have oL : OwnR (u6.setCell ⟨g9, 8, none⟩ (.slice A6 m c6)) W13.heap.size (.slice A6 m c6) U.cur := row_kt o6 kt (by decide)
          obtain ⟨gL, cL, eL⟩ := r_form oL (by rw [HN.out.2]; omega)
          rw [HN.out.2] at eL
          simp only [Value.slice.injEq] at eL
          obtain ⟨rfl, -, -⟩ := eL
          have h9w : Held (u6.setCell ⟨g9, 8, none⟩ (.slice (some ⟨gL, 0, none⟩) m c6)) g9 40 (wcs { a with aq := some ⟨gL, 0, none⟩, cq := c6 } U) := by
            have h9 := h9u.set_at 8 (.slice (some ⟨gL, 0, none⟩) m c6)
            simp only [wcs, HN.out.2] at h9 ⊢
            exact h9
          have hgL := (World.ownsRow.lt oL gL rfl).1
          have n9L : (some gL : Option Nat) ≠ some g9 := by simp; omega
          have n9L2 : g9 ≠ gL := by omega
          have wgL : W3.heap.size ≤ gL := Nat.le_trans hB.size hgL
          replace hB := (hB.trans (b6.mono hB.size)).trans bs
          clear kt bs h9u y8 z8 b6 o6 h9v x8 x8a l213 HC13 l913
          (try simp only [Act.put])
          generalize World.setCell _ _ _ = W14 at *
          go_cut [] from 116 to 120 (fun wx => OwnR wx W13.heap.size (.slice (some ⟨gL, 0, none⟩) m c6) (U.cur.set k noV) ∧ Held wx g9 40 (wcs { a with aq := some ⟨gL, 0, none⟩, cq := c6 } U) ∧ Below W3.heap.size W14 wx)
          case first =>
            have HDR := Lib.hid (Below.refl W14.heap.size W14).drew
            have H314 := Lib.hid (show W3.heap.size ≤ W14.heap.size from hB.size)
            replace h9w := h9w.below HDR.out
            replace oL : OwnR W14.drew W13.heap.size (.slice (some ⟨gL, 0, none⟩) m c6) U.cur := r_later oL HDR.out
            refine wp_region_held_drew (S := fun W => World.grownBy W14.drew W (some gL)) (by kernel_rfl) ⟨rfl, rfl, rfl, Nat.le_refl _, fun _ _ _ => rfl⟩ (fun hS => ?_)
            generalize W14.drew = Wq at *
            show wpAnyH _ _ _ _ _ 6 #[false, false, false, false, false, false] _ _
            refine wpAnyH_begin (by kernel_rfl) (fun HNS => ?_)
            refine wpAnyH_takeS HNS (i := 0) (v := .pointer (some ⟨g9, 8, none⟩)) rfl (by kernel_rfl) (by kernel_rfl) (fun _ _ _ h => h) (Or.inl ⟨by kernel_rfl, fun W hW => ?_⟩) hS ?_
            · go_simp
            simp only [Act.put, List.getElem_toArray, List.getElem_cons_succ, List.getElem_cons_zero, List.setIfInBounds_toArray, List.set_cons_zero, List.set_cons_succ]
            refine wpAnyH_takeS HNS (i := 1) (v := .slice (some ⟨gL, 0, none⟩) m c6) rfl (by kernel_rfl) (by kernel_rfl) (fun _ _ _ h => h) (Or.inl ⟨by kernel_rfl, fun W hW => ?_⟩) hS ?_
            · (have hz := Held.grown h9w hW n9L; have z0 := hz.cell 8; simp at z0; rw [HN.out.2] at z0; go_simp)
            simp only [Act.put, List.getElem_toArray, List.getElem_cons_succ, List.getElem_cons_zero, List.setIfInBounds_toArray, List.set_cons_zero, List.set_cons_succ]
            refine wpAnyH_takeS HNS (i := 2) (v := .int .i64 (k : Nat)) rfl (by kernel_rfl) (by kernel_rfl) (fun _ _ _ h => h) (Or.inl ⟨by kernel_rfl, fun W hW => ?_⟩) hS ?_
            · go_simp
            simp only [Act.put, List.getElem_toArray, List.getElem_cons_succ, List.getElem_cons_zero, List.setIfInBounds_toArray, List.set_cons_zero, List.set_cons_succ]
            refine wpAnyH_ready (rs := [3]) (by kernel_rfl) (by simp) ?_
            refine (AllReadyH.cons rfl (fun K hK => ?_) AllReadyH.nil)
            · rw [if_pos (by kernel_rfl)]
              go_simp
              go_at_call 10
              (with_reducible refine (none_z _).mono ?_)
              rintro _ u20 ⟨rfl, b20⟩
              replace oL : OwnR u20 W13.heap.size (.slice (some ⟨gL, 0, none⟩) m c6) U.cur := r_later oL b20
              replace h9w := Held.below h9w b20
              replace hS := gb_step hS b20
              have HTH := row_there (o := k * 2) (k := 2) (show World.ownsRow u20 W13.heap.size 33 2 (.slice (some ⟨gL, 0, none⟩) m c6) m (flatP U.cur) by have h9 := oL; unfold OwnR Own2 at h9; rw [HN.out.2] at h9; exact h9) (by omega)
              (repeat (first | go_skip | go_guarded | go_step | go_upon))
              refine hK.out _ _ hS (fun _ => ?_)
              clear hK K
              (try simp only [Act.put, List.getElem_toArray, List.getElem_cons_succ, List.getElem_cons_zero, List.setIfInBounds_toArray, List.set_cons_zero, List.set_cons_succ])
              refine wpAnyH_takeS HNS (i := 4) (v := .pointer (some ⟨gL, k * 2, none⟩)) rfl (by kernel_rfl) (by kernel_rfl) (fun _ _ _ h => h) (Or.inl ⟨by kernel_rfl, fun W hW => ?_⟩) hS ?_
              · go_simp
              simp only [Act.put, List.getElem_toArray, List.getElem_cons_succ, List.getElem_cons_zero, List.setIfInBounds_toArray, List.set_cons_zero, List.set_cons_succ]
              refine wpAnyH_ready (rs := [5]) (by kernel_rfl) (by simp) ?_
              refine (AllReadyH.cons rfl (fun K hK => ?_) AllReadyH.nil)
              · rw [if_pos (by kernel_rfl)]
                refine wp_store_mid 33 _ _ rfl gL (k * 2) ([.int .i64 (-1), .int .i64 0] : List Value).toArray (by rfl) (by rfl) HTH (by kernel_rfl) (by simp [Value.oneCell']) ?_
                replace hS := gb_cells hS (k * 2) [.int .i64 (-1), .int .i64 0]
                have oS : OwnR (u20.setCells gL (k * 2) [.int .i64 (-1), .int .i64 0]) W13.heap.size (.slice (some ⟨gL, 0, none⟩) m c6) (U.cur.set k noV) := by
                  have h9 := Own2.set oL k noV hkc
                  exact h9
                have h9s : Held (u20.setCells gL (k * 2) [.int .i64 (-1), .int .i64 0]) g9 40 (wcs { a with aq := some ⟨gL, 0, none⟩, cq := c6 } U) := (setCells_far _ _ _ _ _ n9L2).trans h9w
                refine hK.out _ _ hS (fun _ => ?_)
                clear hK K
                (try simp only [Act.put, List.getElem_toArray, List.getElem_cons_succ, List.getElem_cons_zero, List.setIfInBounds_toArray, List.set_cons_zero, List.set_cons_succ])
                refine wpAnyH_done (by kernel_rfl) ?_ _
                (repeat (first | go_skip | go_guarded | go_step | go_upon))
                go_meet
                case rel => exact ⟨oS, h9s, (HDR.out.mono H314.out).trans (gb_below hS wgL (Nat.le_trans H314.out HDR.out.size))⟩
          case rest =>
            obtain ⟨oc, h9x, hbc⟩ := hcut
            replace hB := hB.trans hbc
            obtain ⟨W15, hW15⟩ : ∃ W, W = wc := ⟨_, rfl⟩
            rw [← hW15] at hB oc h9x ⊢
            clear hW15 hbc oL h9w
            obtain ⟨UL, hUL⟩ : ∃ X : Wld, X = { U with cur := U.cur.set k noV } := ⟨_, rfl⟩
            have h9y : Held W15 g9 40 (wcs { a with aq := some ⟨gL, 0, none⟩, cq := c6 } UL) := by
              rw [hUL]
              simp only [wcs, List.length_set]
              exact h9x
            obtain ⟨X, Y, eX, eY⟩ := ready_less (w := U) (a := k) (by rw [HN.out.1, HN.out.2]) hkc (by rw [HCK.out]; exact hcn)
            rw [HCK.out, HL.out.1] at eX
            rw [← hUL] at eY
            obtain ⟨K, hK⟩ : ∃ K, X ++ Y = K := ⟨_, rfl⟩
            obtain ⟨kn, hkn⟩ : ∃ n, K.length = n := ⟨_, rfl⟩
            have eln : ln = kn + 1 := by rw [← HL.out.2, eX, ← hkn, ← hK]; simp; omega
            have hXk : X.length ≤ kn := by rw [← hkn, ← hK]; simp
            have LUL : LenW UL := by
              have LU := HLU.out
              rw [hUL]
              exact ⟨LU.prog, LU.pen, LU.rings, LU.buf, by simp only [List.length_set]; exact LU.cur⟩
            have pu := P3.out.later hB
            have pl : WAt W15 W15.heap.size { a with aq := some ⟨gL, 0, none⟩, cq := c6 } UL := by
              rw [hUL]
              exact ⟨pu.prog, pu.pen, pu.rings, own2_at oc⟩
            have RL := Lib.hid (by have h9 := readyW_c C (eY.trans hK) LUL W15 (C.kept HT3.out hB) pl; rw [hkn] at h9; exact h9 : Calls Tryd.prog 8 #[.agg (wcs { a with aq := some ⟨gL, 0, none⟩, cq := c6 } UL)] W15 fun e w' => ∃ A c, e = .returned (.slice A kn c) ∧ PAt w' w'.heap.size A K ∧ Below W15.heap.size W15 w')
            have HX := Lib.hid (And.intro eX (And.intro hK (And.intro hkn hXk)))
            have HEL := Lib.hid eln
            have hneL : ((kn : Int) != (ln : Int) - 1) = false := by simp; omega
            have ln1 : (1 : Int) ≤ (ln : Int) := by omega
            have knI : (kn : Int) ≤ 100000 := by omega
            clear hUL h9x eX eY hK hkn hXk eln LUL pu pl oc
            go_upto_region 22 with (first
              | (guard_target = wpList _ _ _ (Oper.mk (some 121) _ _ _ _ none :: _) _ _; refine wpList_load_row rfl 40 _ rfl g9 rfl _ _ _ _ h9y Tryd.underlying40 rfl (by kernel_rfl) ?_)
              | (go_at_call 8; (with_reducible refine RL.out.mono ?_); rintro _ u21 ⟨AK, cK, rfl, qK, b21⟩; have QK := Lib.hid qK; replace hB := hB.trans (b21.mono hB.size); clear qK b21))
            clear h9y RL
            obtain ⟨W21, hW21⟩ : ∃ W, W = u21 := ⟨_, rfl⟩
            rw [← hW21] at hB QK ⊢
            clear hW21
            go_upto_region 26 with (fail)
            clear hneL
            have HB21 := Lib.hid hB
            clear hB n9L n9L2 wgL hgL lo9 lo8
            go_loopw [12, 11] (fun iv gv W => ∃ j g : Nat, iv = .int .i64 j ∧ gv = .int .i64 g ∧ j ≤ ln ∧ (g = 0 ∨ (g = 1 ∧ X.length < j)) ∧ Below W21.heap.size W21 W) (fun iv _ _ => ln - (intOf iv).toNat)
            case atStart => exact ⟨0, 0, rfl, rfl, by omega, .inl rfl, Below.refl _ _⟩
            case round =>
              obtain ⟨j, g, rfl, rfl, hj, hg, hb⟩ := hrel
              have hj0 : (0 : Int) ≤ j := by omega
              by_cases hlt : j < ln
              · have hlt2 : (j : Int) < (ln : Int) := by omega
                have hLj : j < L.length := by rw [HL.out.2]; exact hlt
                obtain ⟨b5, o5, rfl, lb5, a0, a1⟩ := pat_cell Q5.out hLj
                have lb5w : b5 < wr.heap.size := Nat.lt_of_lt_of_le lb5 (Nat.le_trans HB21.out.size hb.size)
                replace a0 := ((HB21.out.trans (hb.mono HB21.out.size)).cell (p := ⟨b5, o5 + j * 2, none⟩) lb5).trans a0
                replace a1 := ((HB21.out.trans (hb.mono HB21.out.size)).cell (p := ⟨b5, o5 + j * 2 + 1, none⟩) lb5).trans a1
                have GL := Lib.hid (List.getElem?_eq_getElem hLj)
                obtain ⟨v, hv⟩ : ∃ x, L[j] = x := ⟨_, rfl⟩
                rw [hv] at a0 a1 GL
                have HB := Lib.hid hb
                clear hv hb lb5
                rcases hg with rfl | ⟨rfl, hX⟩
                · by_cases hjk : j < kn
                  · have hjkI : (j : Int) < (kn : Int) := by omega
                    have hKj : j < K.length := by rw [HX.out.2.2.1]; exact hjk
                    obtain ⟨bk, ok, rfl, lbk, d0, d1⟩ := pat_cell QK.out hKj
                    have lbkw : bk < wr.heap.size := Nat.lt_of_lt_of_le lbk HB.out.size
                    replace d0 := (HB.out.cell (p := ⟨bk, ok + j * 2, none⟩) lbk).trans d0
                    replace d1 := (HB.out.cell (p := ⟨bk, ok + j * 2 + 1, none⟩) lbk).trans d1
                    have GK := Lib.hid (List.getElem?_eq_getElem hKj)
                    obtain ⟨u, hu⟩ : ∃ x, K[j] = x := ⟨_, rfl⟩
                    rw [hu] at d0 d1 GK
                    clear hu lbk hKj hLj
                    by_cases hvu : v = u
                    · subst hvu
                      have NE : ∀ W, (binOp .neq 33 (gv v.1 v.2) (gv v.1 v.2)).run Tryd.prog W = .ok (.bool false) W := fun W => by rw [neqr_run]; simp
                      go_wp2_with fail
                      go_quiet (fail)
                      go_wp2_with fail
                      go_quiet (fail)
                      go_wp2_with fail
                      go_roundw
                      case rel => exact ⟨j + 1, 0, by go_num, rfl, by omega, .inl rfl, below_drewN HB.out _⟩
                      case measure => simp [intOf]; omega
                    · have NE : ∀ W, (binOp .neq 33 (gv v.1 v.2) (gv u.1 u.2)).run Tryd.prog W = .ok (.bool true) W := fun W => by rw [neqr_run, decide_eq_true (show (v.1, v.2) ≠ (u.1, u.2) from hvu)]
                      have HXJ : Hid (X.length < j + 1) := Lib.hid (by
                        refine Nat.lt_succ_of_le (Nat.le_of_not_lt fun h => hvu ?_)
                        have h9 := (one_more (X := X) (Y := Y) (c := ck) (i := j)).1 h
                        rw [← HX.out.1, HX.out.2.1, GL.out, GK.out] at h9
                        exact Option.some.inj h9)
                      go_wp2_with fail
                      go_quiet (fail)
                      go_wp2_with fail
                      go_roundw
                      case rel => exact ⟨j + 1, 1, by go_num, rfl, by omega, .inr ⟨rfl, HXJ.out⟩, below_drewN HB.out _⟩
                      case measure => simp [intOf]; omega
                  · have hge : (kn : Int) ≤ (j : Int) := by omega
                    have HXJ : Hid (X.length < j + 1) := Lib.hid (by have := HX.out.2.2.2; omega)
                    clear hjk hLj
                    go_wp2_with fail
                    go_quiet (fail)
                    go_wp2_with fail
                    go_roundw
                    case rel => exact ⟨j + 1, 1, by go_num, rfl, by omega, .inr ⟨rfl, HXJ.out⟩, below_drewN HB.out _⟩
                    case measure => simp [intOf]; omega
                · obtain ⟨i, rfl⟩ : ∃ i, j = i + 1 := ⟨j - 1, by omega⟩
                  have hKi : i < K.length := by rw [HX.out.2.2.1]; have := HEL.out; omega
                  have hKiI : (i : Int) < (kn : Int) := by have := HEL.out; omega
                  have hi0 : (0 : Int) ≤ (i : Int) := by omega
                  obtain ⟨bk, ok, rfl, lbk, d0, d1⟩ := pat_cell QK.out hKi
                  have lbkw : bk < wr.heap.size := Nat.lt_of_lt_of_le lbk HB.out.size
                  replace d0 := (HB.out.cell (p := ⟨bk, ok + i * 2, none⟩) lbk).trans d0
                  replace d1 := (HB.out.cell (p := ⟨bk, ok + i * 2 + 1, none⟩) lbk).trans d1
                  have GK := List.getElem?_eq_getElem hKi
                  obtain ⟨u, hu⟩ : ∃ x, K[i] = x := ⟨_, rfl⟩
                  rw [hu] at d0 d1 GK
                  obtain rfl : v = u := by
                    have h9 := (one_more (X := X) (Y := Y) (c := ck) (i := i + 1)).2 hX
                    rw [← HX.out.1, HX.out.2.1, GL.out, Nat.add_sub_cancel, GK] at h9
                    exact Option.some.inj h9
                  have NE : ∀ W, (binOp .neq 33 (gv v.1 v.2) (gv v.1 v.2)).run Tryd.prog W = .ok (.bool false) W := fun W => by rw [neqr_run]; simp
                  have HXJ := Lib.hid hX
                  clear hu GK lbk hKi hLj hX
                  go_wp2_with fail
                  go_quiet (fail)
                  go_wp2_with fail
                  go_quiet (fail)
                  go_wp2_with fail
                  go_roundw
                  case rel => exact ⟨i + 1 + 1, 1, by go_num, rfl, by omega, .inr ⟨rfl, Nat.lt_succ_of_lt HXJ.out⟩, below_drewN HB.out _⟩
                  case measure => simp [intOf]; omega
              · obtain rfl : ln = j := by omega
                have HB := Lib.hid hb
                clear hb hg hj hlt
                go_wp2_with fail
                go_ret
                exact ⟨rfl, Below.step BW.out (HB21.out.trans (HB.out.mono HB21.out.size))⟩
          
        
      
end Go.Proofs.YtjibkgildfjjoaaDoor.worldReady

