/- Layer 13: the fixed calls. -/
import Derived.Test.YtjibkgildfjjoaaGreatDoorzZl
import Derived.Deep.DeepCutAuto
import Derived.Deep.CutBlock
namespace Go.Proofs.YtjibkgildfjjoaaGreatDoor
set_option linter.unusedVariables false
set_option linter.unusedSimpArgs false
open Go.RowKit Go.ChangeShapes Go.WideShapes Go.ChangeAt Go.Sort

theorem vat13 (U : World) (a b : Int) : VAt (U.alloc (.cells #[.int .i64 a, .int .i64 b] 38)) (U.alloc (.cells #[.int .i64 a, .int .i64 b] 38)).heap.size (some ⟨U.heap.size, 0, none⟩) [(a, b)] := fun _ => by
  have h := Held.new U 38 #[.int .i64 a, .int .i64 b]
  refine ⟨_, _, rfl, h.lt, fun j hj => ?_⟩
  obtain rfl : j = 0 := by simpa using hj
  exact ⟨h.cell 0, h.cell 1⟩
theorem rrefs_1 {l k : List V} {n m : Nat} {R : Bool} (hn : l.length = n) (hm : k.length = m) (hR : decide (l = k) = R) (h1 : n ≤ 100000) (h2 : m ≤ 100000) (c c2 : Nat) (W : World) {A A2 : Option Addr} (hp : PAt W W.heap.size A l) (hq : PAt W W.heap.size A2 k) :
    Calls Tryz.prog 12 #[.slice A n c, .slice A2 m c2] W fun e w' => e = .returned (.bool R) ∧ Below W.heap.size W w' := by
  subst hn hm hR
  exact rrefs_any c c2 W hp hq h1 h2
theorem ready13 {T : World → Prop} (C : WC T) (W : World) (hT : T W) {a : WA} (h : WAt W W.heap.size a wl13) :
    Calls Tryz.prog 15 #[.agg (wcs a wl13)] W fun e w' => ∃ A c, e = .returned (.slice A 1 c) ∧ PAt w' w'.heap.size A [(0, 0)] ∧ Below W.heap.size W w' := readyW_c C rd13 wl13_len W hT h
theorem same13 {T : World → Prop} (C : WC T) (W : World) (hT : T W) {a : WA} (h : WAt W W.heap.size a wl13) :
    Calls Tryz.prog 17 #[.agg (wcs a wl13), .agg wz0] W fun e w' => e = .returned (.bool false) ∧ Below W.heap.size W w' := sameW_c (b := wa0) C sm13b wl13_len wld0_len W hT h (wat0 _ _ _)
set_option maxHeartbeats 8000000 in
set_option maxRecDepth 100000 in
theorem fixed13 {T : World → Prop} (C : WC T) (w : World) (hT : T w) : Calls Tryz.prog 7 #[] w fun e w' => e = .returned (.bool true) ∧ Below w.heap.size w w' := by
  have hW := Below.refl w.heap.size w
  obtain ⟨pa, hpa⟩ : ∃ p, pa13 = p := ⟨_, rfl⟩
  have hz := pa13_sized
  have E1 := nw13
  have E2 := nw13b
  have E3 := nw13c
  have O1 := of13
  have hpl : pa.length = 1 := by rw [← hpa]; rfl
  rw [hpa] at hz
  simp only [hpa] at E1 E2 E3 O1
  have HN1 := Lib.hid E1
  have HN2 := Lib.hid E2
  have HN3 := Lib.hid E3
  have HO := Lib.hid O1
  have HZ := Lib.hid hz
  have NEWC : ∀ (args : List V) (k : Int) (U : Wld) (x : Int) (n : Nat), newW pa args 7 k 5 3 2 = (U, x) → args.length = n → n ≤ 1000 → ∀ (c c2 : Nat) (W : World), T W → ∀ {Ap A2 : Option Addr}, ProgAt W W.heap.size Ap pa → VAt W W.heap.size A2 args → Calls Tryz.prog 8 #[.slice Ap 1 c, .slice A2 n c2, .int .i64 7, .int .i64 k, .agg (lmc 5 3 2)] W fun e w' => ∃ a, e = .returned (.tuple #[.agg (wcs a U), .int .i64 x]) ∧ WAt w' w'.heap.size a U ∧ Below W.heap.size W w' := by
    intro args k U x n hR hn hl c c2 W hT Ap A2 hp ha
    subst hn
    have h9 := newW_c C hR HZ.out hl c c2 W hT hp ha
    rw [hpl] at h9
    exact h9
  have NEW := Lib.hid NEWC
  clear E1 E2 E3 O1 hz hpa NEWC hpl
  go_enter Tryz.func7, Tryz.ntmps7
  go_upto_region 2 with (first
    | (go_at_call 28; (with_reducible refine (HO.out _).mono ?_); rintro _ u1 ⟨Ap, cp, rfl, hp, hb⟩; replace hT := C.kept hT hb; replace hW := Below.step hW hb; clear hb))
  go_upto_region 3 with (first
    | (guard_target = wpList _ _ _ (Oper.mk _ (Op.store 26 (.tmp 2) _) _ _ _ none :: _) _ _; refine wpList_store_row rfl 26 _ _ rfl u1.heap.size (lmc 5 3 2) rfl rfl _ _ (Held.new u1 26 (lmc 0 0 0)) (by kernel_rfl) rfl (by simp [Value.oneCell']) ?_))
  have vl := held_rowSelf (Held.new u1 26 (lmc 0 0 0)) (lmc 5 3 2)
  have hbW : Below u1.heap.size u1 ((u1.alloc (.cells (lmc 0 0 0) 26)).setRow u1.heap.size (lmc 5 3 2)) := below_setRow ((Below.refl _ _).alloc (Nat.le_refl _) _) (Nat.le_refl _) _
  replace hp := hp.later hbW
  replace hT := C.kept hT hbW
  replace hW := Below.step hW hbW
  clear hbW
  generalize World.setRow _ u1.heap.size _ = W1 at *
  generalize u1.heap.size = gl at *
  have hba : Below W1.heap.size W1 (W1.alloc (.cells #[.int .i64 4, .int .i64 0] 38)) := (Below.refl _ _).alloc (Nat.le_refl _) _
  have va := vat13 W1 4 0
  replace hp := hp.later hba
  replace hT := C.kept hT hba
  replace vl := Held.below vl hba
  replace hW := Below.step hW hba
  clear hba
  go_upto_region 4 with (first
    | (guard_target = wpList _ _ _ (Oper.mk (some 19) _ _ _ _ none :: _) _ _; refine wpList_load_row rfl 26 _ rfl gl rfl _ _ _ _ vl Tryz.underlying26 rfl (by kernel_rfl) ?_)
    | (go_at_call 8; (with_reducible refine (NEW.out [(4, 0)] 3 wl13 0 1 HN1.out rfl (by decide) cp 1 _ hT hp va).mono ?_); rintro _ u ⟨a3, rfl, ho, hb⟩; have hn := Held.new u 43 wz0)
    | (guard_target = wpList _ _ _ (Oper.mk _ (Op.store 43 (.tmp 3) _) _ _ _ none :: _) _ _; refine wpList_store_row rfl 43 _ _ rfl u.heap.size (wcs a3 wl13) rfl rfl _ _ hn (by kernel_rfl) rfl (by simp [Value.oneCell']) ?_))
  obtain ⟨v3, hbW⟩ := new_w1 hb ho
  clear hb ho hn
  replace hp := hp.later hbW
  replace hT := C.kept hT hbW
  replace vl := Held.below vl hbW
  replace hW := Below.step hW hbW
  clear hbW
  generalize World.setRow _ u.heap.size _ = W2 at *
  generalize u.heap.size = g3 at *
  clear va
  go_upto_region 5 with (first
    | (guard_target = wpList _ _ _ (Oper.mk (some 25) _ _ _ _ none :: _) _ _; refine wpList_load_row rfl 26 _ rfl gl rfl _ _ _ _ vl Tryz.underlying26 rfl (by kernel_rfl) ?_)
    | (go_at_call 8; (with_reducible refine (NEW.out [] 3 wld0 1 0 HN2.out rfl (by decide) cp 0 _ hT hp (VAt.nil _ _ _)).mono ?_); rintro _ u ⟨a5, rfl, ho, hb⟩; have hn := Held.new u 43 wz0)
    | (guard_target = wpList _ _ _ (Oper.mk _ (Op.store 43 (.tmp 5) _) _ _ _ none :: _) _ _; refine wpList_store_row rfl 43 _ _ rfl u.heap.size (wcs a5 wld0) rfl rfl _ _ hn (by kernel_rfl) rfl (by simp [Value.oneCell']) ?_))
  obtain ⟨v5, hbW⟩ := new_w1 hb ho
  clear hb ho hn
  replace hp := hp.later hbW
  replace hT := C.kept hT hbW
  replace vl := Held.below vl hbW
  replace v3 := v3.below hbW
  replace hW := Below.step hW hbW
  clear hbW
  generalize World.setRow _ u.heap.size _ = W3 at *
  generalize u.heap.size = g5 at *
  clear v5
  have hba : Below W3.heap.size W3 (W3.alloc (.cells #[.int .i64 4, .int .i64 0] 38)) := (Below.refl _ _).alloc (Nat.le_refl _) _
  have va := vat13 W3 4 0
  replace hp := hp.later hba
  replace hT := C.kept hT hba
  replace vl := Held.below vl hba
  replace v3 := v3.below hba
  replace hW := Below.step hW hba
  clear hba
  go_upto_region 6 with (first
    | (guard_target = wpList _ _ _ (Oper.mk (some 33) _ _ _ _ none :: _) _ _; refine wpList_load_row rfl 26 _ rfl gl rfl _ _ _ _ vl Tryz.underlying26 rfl (by kernel_rfl) ?_)
    | (go_at_call 8; (with_reducible refine (NEW.out [(4, 0)] 65 wld0 1 1 HN3.out rfl (by decide) cp 1 _ hT hp va).mono ?_); rintro _ u ⟨a7, rfl, ho, hb⟩; have hn := Held.new u 43 wz0)
    | (guard_target = wpList _ _ _ (Oper.mk _ (Op.store 43 (.tmp 7) _) _ _ _ none :: _) _ _; refine wpList_store_row rfl 43 _ _ rfl u.heap.size (wcs a7 wld0) rfl rfl _ _ hn (by kernel_rfl) rfl (by simp [Value.oneCell']) ?_))
  obtain ⟨v7, hbW⟩ := new_w1 hb ho
  clear hb ho hn
  replace hp := hp.later hbW
  replace hT := C.kept hT hbW
  replace vl := Held.below vl hbW
  replace v3 := v3.below hbW
  replace hW := Below.step hW hbW
  clear hbW
  generalize World.setRow _ u.heap.size _ = W4 at *
  generalize u.heap.size = g7 at *
  clear va v7
  clear hp
  go_upto_region 7 with (first
    | (guard_target = wpList _ _ _ (Oper.mk (some 38) _ _ _ _ none :: _) _ _; refine wpList_load_row rfl 26 _ rfl gl rfl _ _ _ _ vl Tryz.underlying26 rfl (by kernel_rfl) ?_)
    | (go_at_call 10; (with_reducible refine (freshW_c C fh13 5 3 _ hT).mono ?_); rintro _ W5 ⟨A9, k9, A10, k10, rfl, g9, c10, hb⟩; replace hT := C.kept hT hb; replace vl := Held.below vl hb; replace v3 := v3.below hb; replace hW := Below.step hW hb))
  clear hb
  go_upto_region 8 with (first
    | (guard_target = wpList _ _ _ (Oper.mk (some 43) _ _ _ _ none :: _) _ _; refine wpList_load_row rfl 26 _ rfl gl rfl _ _ _ _ vl Tryz.underlying26 rfl (by kernel_rfl) ?_)
    | (go_at_call 10; (with_reducible refine (freshW_c C fh13b 5 3 _ hT).mono ?_); rintro _ W6 ⟨A11, k11, A12, k12, rfl, g11, c12, hb⟩; replace c10 := c10.later hb; replace g9 := g9.later hb; replace hT := C.kept hT hb; replace vl := Held.below vl hb; replace v3 := v3.below hb; replace hW := Below.step hW hb))
  clear hb
  clear g11 c12 vl
  have x7 := v3.x.cell 7
  have x8 := v3.x.cell 8
  simp [wl13] at x7 x8
  go_upto_region 10 with (fail)
  clear x7 x8
  obtain ⟨bc, oc, ec, hbc0, q0, q1⟩ := pat_cell v3.p.cur (j := 0) (by decide)
  obtain ⟨bc2, oc2, ec2, -, q2, q3⟩ := pat_cell v3.p.cur (j := 1) (by decide)
  obtain ⟨rfl, rfl⟩ : bc = bc2 ∧ oc = oc2 := by
    rw [ec] at ec2
    simpa using ec2
  have hbc : bc < W6.heap.size := hbc0
  obtain ⟨bp, op, ep, hbp0, csp, -, -, hfp, -, -, hrp, -⟩ := v3.p.pen.cells.cel (j := 0) (by decide)
  have hbp : bp < W6.heap.size := hbp0
  have s7 : W6.cell? ⟨bp, op + 7, none⟩ = some (.int .i64 7) := by
    obtain ⟨A1, c1, A2, c2, A3, c3, e9, -⟩ := hfp
    obtain rfl : csp = _ := by simpa [fv] using e9
    exact hrp 5 _ rfl
  obtain ⟨bg, og, rfl, hbg0, Abg, cbg, -, -, -, -, g7⟩ := g9.rng (j := 1) (by decide)
  have hbg : bg < W6.heap.size := hbg0
  obtain ⟨bd, od, rfl, hbd0, d0, d1⟩ := pat_cell c10 (j := 1) (by decide)
  have hbd : bd < W6.heap.size := hbd0
  replace q0 : W6.cell? ⟨bc, oc, none⟩ = some (.int .i64 0) := q0
  replace q1 : W6.cell? ⟨bc, oc + 1, none⟩ = some (.int .i64 0) := q1
  replace q2 : W6.cell? ⟨bc, oc + 2, none⟩ = some (.int .i64 (-1)) := q2
  replace q3 : W6.cell? ⟨bc, oc + 2 + 1, none⟩ = some (.int .i64 0) := q3
  replace g7 : W6.cell? ⟨bg, og + 4 + 3, none⟩ = some (.int .i64 2) := g7
  replace d0 : W6.cell? ⟨bd, od + 2, none⟩ = some (.int .i64 (-1)) := d0
  replace d1 : W6.cell? ⟨bd, od + 2 + 1, none⟩ = some (.int .i64 0) := d1
  have hg3 : g3 < W6.heap.size := v3.x.lt
  have w4 : W6.cell? ⟨g3, 4, none⟩ = some (.slice (some ⟨bp, op, none⟩) 1 a3.cc) := by rw [← ep]; exact v3.x.cell 4
  have w8 : W6.cell? ⟨g3, 8, none⟩ = some (.slice (some ⟨bc, oc, none⟩) 3 a3.cq) := by rw [← ec]; exact v3.x.cell 8
  have w9 : W6.cell? ⟨g3, 9, none⟩ = some (.int .i64 0) := v3.x.cell 9
  have w10 : W6.cell? ⟨g3, 9 + 1, none⟩ = some (.int .i64 0) := v3.x.cell 10
  have HWB := Lib.hid hW
  clear ec2 hbc0 hbp0 hfp hrp g9 c10 hbg0 hbd0 hW HN1 HN2 HN3 HO NEW HZ
  clear ec ep
  simp only [List.append_eq, List.cons_append, List.nil_append]
  have hdr := (Below.refl W6.heap.size W6).drew
  have HTQ := Lib.hid (C.kept hT hdr)
  replace v3 := v3.below hdr
  replace q0 := (hdr.cell (p := ⟨bc, _, none⟩) hbc).trans q0
  replace q1 := (hdr.cell (p := ⟨bc, _, none⟩) hbc).trans q1
  replace q2 := (hdr.cell (p := ⟨bc, _, none⟩) hbc).trans q2
  replace q3 := (hdr.cell (p := ⟨bc, _, none⟩) hbc).trans q3
  replace w4 := (hdr.cell (p := ⟨g3, _, none⟩) hg3).trans w4
  replace w8 := (hdr.cell (p := ⟨g3, _, none⟩) hg3).trans w8
  replace w9 := (hdr.cell (p := ⟨g3, _, none⟩) hg3).trans w9
  replace w10 := (hdr.cell (p := ⟨g3, _, none⟩) hg3).trans w10
  replace s7 := (hdr.cell (p := ⟨bp, _, none⟩) hbp).trans s7
  replace g7 := (hdr.cell (p := ⟨bg, _, none⟩) hbg).trans g7
  replace d0 := (hdr.cell (p := ⟨bd, _, none⟩) hbd).trans d0
  replace d1 := (hdr.cell (p := ⟨bd, _, none⟩) hbd).trans d1
  replace hbc : bc < W6.drew.heap.size := hbc
  replace hg3 : g3 < W6.drew.heap.size := hg3
  replace hbp : bp < W6.drew.heap.size := hbp
  replace hbg : bg < W6.drew.heap.size := hbg
  replace hbd : bd < W6.drew.heap.size := hbd
  have HBD := Lib.hid (Below.step HWB.out hdr)
  clear hT HWB
  clear hdr
  refine wp_region_held_drew (S := fun W => Below W6.drew.heap.size W6.drew W) (by kernel_rfl) (Below.refl _ _) (fun hS => ?_)
  generalize W6.drew = Wq at *
  show wpAnyH _ _ _ _ _ 84 #[false, false, false, false, false, false, false, false, false, false, false, false, false, false, false, false, false, false, false, false, false, false, false, false, false, false, false, false, false, false, false, false, false, false, false, false, false, false, false, false, false, false, false, false, false, false, false, false, false, false, false, false, false, false, false, false, false, false, false, false, false, false, false, false, false, false, false, false, false, false, false, false, false, false, false, false, false, false, false, false, false, false, false, false] _ _
  refine wpAnyH_begin (by kernel_rfl) (fun HNS => ?_)
  refine wpAnyH_takeS HNS (i := 0) (v := .int .i64 1) rfl (by kernel_rfl) (by kernel_rfl) (fun _ _ _ h => h) (Or.inl ⟨by kernel_rfl, fun W hW => ?_⟩) hS ?_
  · go_simp
  simp only [Act.put, List.getElem_toArray, List.getElem_cons_succ, List.getElem_cons_zero, List.setIfInBounds_toArray, List.set_cons_zero, List.set_cons_succ]
  refine wpAnyH_takeS HNS (i := 1) (v := .bool true) rfl (by kernel_rfl) (by kernel_rfl) (fun _ _ _ h => h) (Or.inl ⟨by kernel_rfl, fun W hW => ?_⟩) hS ?_
  · go_simp
  simp only [Act.put, List.getElem_toArray, List.getElem_cons_succ, List.getElem_cons_zero, List.setIfInBounds_toArray, List.set_cons_zero, List.set_cons_succ]
  refine wpAnyH_takeS HNS (i := 2) (v := .bool true) rfl (by kernel_rfl) (by kernel_rfl) (fun _ _ _ h => h) (Or.inl ⟨by kernel_rfl, fun W hW => ?_⟩) hS ?_
  · go_simp
  simp only [Act.put, List.getElem_toArray, List.getElem_cons_succ, List.getElem_cons_zero, List.setIfInBounds_toArray, List.set_cons_zero, List.set_cons_succ]
  refine wpAnyH_takeS HNS (i := 3) (v := .int .i64 1) rfl (by kernel_rfl) (by kernel_rfl) (fun _ _ _ h => h) (Or.inl ⟨by kernel_rfl, fun W hW => ?_⟩) hS ?_
  · go_simp
  simp only [Act.put, List.getElem_toArray, List.getElem_cons_succ, List.getElem_cons_zero, List.setIfInBounds_toArray, List.set_cons_zero, List.set_cons_succ]
  refine wpAnyH_takeS HNS (i := 4) (v := .bool true) rfl (by kernel_rfl) (by kernel_rfl) (fun _ _ _ h => h) (Or.inl ⟨by kernel_rfl, fun W hW => ?_⟩) hS ?_
  · go_simp
  simp only [Act.put, List.getElem_toArray, List.getElem_cons_succ, List.getElem_cons_zero, List.setIfInBounds_toArray, List.set_cons_zero, List.set_cons_succ]
  refine wpAnyH_takeS HNS (i := 5) (v := .bool true) rfl (by kernel_rfl) (by kernel_rfl) (fun _ _ _ h => h) (Or.inl ⟨by kernel_rfl, fun W hW => ?_⟩) hS ?_
  · go_simp
  simp only [Act.put, List.getElem_toArray, List.getElem_cons_succ, List.getElem_cons_zero, List.setIfInBounds_toArray, List.set_cons_zero, List.set_cons_succ]
  refine wpAnyH_takeS HNS (i := 6) (v := .bool true) rfl (by kernel_rfl) (by kernel_rfl) (fun _ _ _ h => h) (Or.inl ⟨by kernel_rfl, fun W hW => ?_⟩) hS ?_
  · go_simp
  simp only [Act.put, List.getElem_toArray, List.getElem_cons_succ, List.getElem_cons_zero, List.setIfInBounds_toArray, List.set_cons_zero, List.set_cons_succ]
  refine wpAnyH_takeS HNS (i := 7) (v := .pointer (some ⟨g3, 8, none⟩)) rfl (by kernel_rfl) (by kernel_rfl) (fun _ _ _ h => h) (Or.inl ⟨by kernel_rfl, fun W hW => ?_⟩) hS ?_
  · go_simp
  simp only [Act.put, List.getElem_toArray, List.getElem_cons_succ, List.getElem_cons_zero, List.setIfInBounds_toArray, List.set_cons_zero, List.set_cons_succ]
  refine wpAnyH_takeS HNS (i := 8) (v := .slice (some ⟨bc, oc, none⟩) 3 a3.cq) rfl (by kernel_rfl) (by kernel_rfl) (fun _ _ _ h => h) (Or.inl ⟨by kernel_rfl, fun W hW => ?_⟩) hS ?_
  · (have z0 := (hW.cell (p := ⟨g3, _, none⟩) hg3).trans w8; go_simp)
  simp only [Act.put, List.getElem_toArray, List.getElem_cons_succ, List.getElem_cons_zero, List.setIfInBounds_toArray, List.set_cons_zero, List.set_cons_succ]
  refine wpAnyH_takeS HNS (i := 9) (v := .pointer (some ⟨bc, oc, none⟩)) rfl (by kernel_rfl) (by kernel_rfl) (fun _ _ _ h => h) (Or.inl ⟨by kernel_rfl, fun W hW => ?_⟩) hS ?_
  · go_simp
  simp only [Act.put, List.getElem_toArray, List.getElem_cons_succ, List.getElem_cons_zero, List.setIfInBounds_toArray, List.set_cons_zero, List.set_cons_succ]
  as_aux_lemma =>
    refine wpAnyH_takeS HNS (i := 10) (v := .agg #[.int .i64 0, .int .i64 0]) rfl (by kernel_rfl) (by kernel_rfl) (fun _ _ _ h => h) (Or.inl ⟨by kernel_rfl, fun W hW => ?_⟩) hS ?_
    · (have z0 := (hW.cell (p := ⟨bc, _, none⟩) hbc).trans q0; have z1 := (hW.cell (p := ⟨bc, _, none⟩) hbc).trans q1; go_simp)
    simp only [Act.put, List.getElem_toArray, List.getElem_cons_succ, List.getElem_cons_zero, List.setIfInBounds_toArray, List.set_cons_zero, List.set_cons_succ]
    refine wpAnyH_takeS HNS (i := 11) (v := .pointer (some ⟨g3, 9, none⟩)) rfl (by kernel_rfl) (by kernel_rfl) (fun _ _ _ h => h) (Or.inl ⟨by kernel_rfl, fun W hW => ?_⟩) hS ?_
    · go_simp
    simp only [Act.put, List.getElem_toArray, List.getElem_cons_succ, List.getElem_cons_zero, List.setIfInBounds_toArray, List.set_cons_zero, List.set_cons_succ]
    refine wpAnyH_takeS HNS (i := 12) (v := .agg #[.int .i64 0, .int .i64 0]) rfl (by kernel_rfl) (by kernel_rfl) (fun _ _ _ h => h) (Or.inl ⟨by kernel_rfl, fun W hW => ?_⟩) hS ?_
    · (have z0 := (hW.cell (p := ⟨g3, _, none⟩) hg3).trans w9; have z1 := (hW.cell (p := ⟨g3, _, none⟩) hg3).trans w10; go_simp)
    simp only [Act.put, List.getElem_toArray, List.getElem_cons_succ, List.getElem_cons_zero, List.setIfInBounds_toArray, List.set_cons_zero, List.set_cons_succ]
    refine wpAnyH_takeS HNS (i := 13) (v := .bool true) rfl (by kernel_rfl) (by kernel_rfl) (fun _ _ _ h => h) (Or.inl ⟨by kernel_rfl, fun W hW => ?_⟩) hS ?_
    · go_simp
    simp only [Act.put, List.getElem_toArray, List.getElem_cons_succ, List.getElem_cons_zero, List.setIfInBounds_toArray, List.set_cons_zero, List.set_cons_succ]
    refine wpAnyH_takeS HNS (i := 14) (v := .bool true) rfl (by kernel_rfl) (by kernel_rfl) (fun _ _ _ h => h) (Or.inl ⟨by kernel_rfl, fun W hW => ?_⟩) hS ?_
    · go_simp
    simp only [Act.put, List.getElem_toArray, List.getElem_cons_succ, List.getElem_cons_zero, List.setIfInBounds_toArray, List.set_cons_zero, List.set_cons_succ]
    refine wpAnyH_takeS HNS (i := 15) (v := .bool true) rfl (by kernel_rfl) (by kernel_rfl) (fun _ _ _ h => h) (Or.inl ⟨by kernel_rfl, fun W hW => ?_⟩) hS ?_
    · go_simp
    simp only [Act.put, List.getElem_toArray, List.getElem_cons_succ, List.getElem_cons_zero, List.setIfInBounds_toArray, List.set_cons_zero, List.set_cons_succ]
    refine wpAnyH_takeS HNS (i := 16) (v := .pointer (some ⟨g3, 8, none⟩)) rfl (by kernel_rfl) (by kernel_rfl) (fun _ _ _ h => h) (Or.inl ⟨by kernel_rfl, fun W hW => ?_⟩) hS ?_
    · go_simp
    simp only [Act.put, List.getElem_toArray, List.getElem_cons_succ, List.getElem_cons_zero, List.setIfInBounds_toArray, List.set_cons_zero, List.set_cons_succ]
    refine wpAnyH_takeS HNS (i := 17) (v := .slice (some ⟨bc, oc, none⟩) 3 a3.cq) rfl (by kernel_rfl) (by kernel_rfl) (fun _ _ _ h => h) (Or.inl ⟨by kernel_rfl, fun W hW => ?_⟩) hS ?_
    · (have z0 := (hW.cell (p := ⟨g3, _, none⟩) hg3).trans w8; go_simp)
    simp only [Act.put, List.getElem_toArray, List.getElem_cons_succ, List.getElem_cons_zero, List.setIfInBounds_toArray, List.set_cons_zero, List.set_cons_succ]
    refine wpAnyH_takeS HNS (i := 18) (v := .pointer (some ⟨bc, oc + 2, none⟩)) rfl (by kernel_rfl) (by kernel_rfl) (fun _ _ _ h => h) (Or.inl ⟨by kernel_rfl, fun W hW => ?_⟩) hS ?_
    · go_simp
    simp only [Act.put, List.getElem_toArray, List.getElem_cons_succ, List.getElem_cons_zero, List.setIfInBounds_toArray, List.set_cons_zero, List.set_cons_succ]
    refine wpAnyH_takeS HNS (i := 19) (v := .agg #[.int .i64 (-1), .int .i64 0]) rfl (by kernel_rfl) (by kernel_rfl) (fun _ _ _ h => h) (Or.inl ⟨by kernel_rfl, fun W hW => ?_⟩) hS ?_
    · (have z0 := (hW.cell (p := ⟨bc, _, none⟩) hbc).trans q2; have z1 := (hW.cell (p := ⟨bc, _, none⟩) hbc).trans q3; go_simp)
    simp only [Act.put, List.getElem_toArray, List.getElem_cons_succ, List.getElem_cons_zero, List.setIfInBounds_toArray, List.set_cons_zero, List.set_cons_succ]
    as_aux_lemma =>
      refine wpAnyH_ready (rs := [20]) (by kernel_rfl) (by simp) ?_
      refine (AllReadyH.cons rfl (fun K hK => ?_) AllReadyH.nil)
      · rw [if_pos (by kernel_rfl)]
        go_simp
        go_at_call 22
        (with_reducible refine (none_z _).mono ?_)
        rintro _ u1 ⟨rfl, hb1⟩
        replace hS := Below.step hS hb1
        (repeat (first | go_skip | go_guarded | go_step | go_upon))
        refine hK.out _ _ hS (fun _ => ?_)
        clear hK K
        (try simp only [Act.put, List.getElem_toArray, List.getElem_cons_succ, List.getElem_cons_zero, List.setIfInBounds_toArray, List.set_cons_zero, List.set_cons_succ])
        refine wpAnyH_takeS HNS (i := 21) (v := .bool true) rfl (by kernel_rfl) (by kernel_rfl) (fun _ _ _ h => h) (Or.inl ⟨by kernel_rfl, fun W hW => ?_⟩) hS ?_
        · go_simp
        simp only [Act.put, List.getElem_toArray, List.getElem_cons_succ, List.getElem_cons_zero, List.setIfInBounds_toArray, List.set_cons_zero, List.set_cons_succ]
        refine wpAnyH_takeS HNS (i := 22) (v := .bool true) rfl (by kernel_rfl) (by kernel_rfl) (fun _ _ _ h => h) (Or.inl ⟨by kernel_rfl, fun W hW => ?_⟩) hS ?_
        · go_simp
        simp only [Act.put, List.getElem_toArray, List.getElem_cons_succ, List.getElem_cons_zero, List.setIfInBounds_toArray, List.set_cons_zero, List.set_cons_succ]
        refine wpAnyH_takeS HNS (i := 23) (v := .bool true) rfl (by kernel_rfl) (by kernel_rfl) (fun _ _ _ h => h) (Or.inl ⟨by kernel_rfl, fun W hW => ?_⟩) hS ?_
        · go_simp
        simp only [Act.put, List.getElem_toArray, List.getElem_cons_succ, List.getElem_cons_zero, List.setIfInBounds_toArray, List.set_cons_zero, List.set_cons_succ]
        refine wpAnyH_takeS HNS (i := 24) (v := .agg (wcs a3 wl13)) rfl (by kernel_rfl) (by kernel_rfl) (fun _ _ _ h => h) (yieldsIf_load_midA (by kernel_rfl) 43 _ rfl g3 0 (by rfl) (wcs a3 wl13) _ (fun W hW => rng_held (Held.below v3.x hW)) Tryz.underlying43 rfl (by kernel_rfl)) hS ?_
        simp only [Act.put, List.getElem_toArray, List.getElem_cons_succ, List.getElem_cons_zero, List.setIfInBounds_toArray, List.set_cons_zero, List.set_cons_succ]
        refine wpAnyH_takeS HNS (i := 26) (v := .pointer (some ⟨g3, 9, none⟩)) rfl (by kernel_rfl) (by kernel_rfl) (fun _ _ _ h => h) (Or.inl ⟨by kernel_rfl, fun W hW => ?_⟩) hS ?_
        · go_simp
        simp only [Act.put, List.getElem_toArray, List.getElem_cons_succ, List.getElem_cons_zero, List.setIfInBounds_toArray, List.set_cons_zero, List.set_cons_succ]
        refine wpAnyH_takeS HNS (i := 27) (v := .agg #[.int .i64 0, .int .i64 0]) rfl (by kernel_rfl) (by kernel_rfl) (fun _ _ _ h => h) (Or.inl ⟨by kernel_rfl, fun W hW => ?_⟩) hS ?_
        · (have z0 := (hW.cell (p := ⟨g3, _, none⟩) hg3).trans w9; have z1 := (hW.cell (p := ⟨g3, _, none⟩) hg3).trans w10; go_simp)
        simp only [Act.put, List.getElem_toArray, List.getElem_cons_succ, List.getElem_cons_zero, List.setIfInBounds_toArray, List.set_cons_zero, List.set_cons_succ]
        refine' join2 (S := _) (H := fun Wj1 x1y0 x1y1 => Below Wq.heap.size Wq Wj1 ∧ (∃ A c, x1y0 = .slice A 1 c ∧ PAt Wj1 Wj1.heap.size A [(0, 0)]) ∧ (∃ A c, x1y1 = .slice A 1 c ∧ PAt Wj1 Wj1.heap.size A [(0, 0)])) ?both ?key
        case both =>
          intro key
          refine wpAnyH_ready (rs := [25, 28]) (by kernel_rfl) (by simp) ?_
          refine (AllReadyH.cons rfl (fun K hK => ?_) (AllReadyH.cons rfl (fun K hK => ?_) AllReadyH.nil))
          · rw [if_pos (by kernel_rfl)]
            go_simp
            go_at_call 15
            (with_reducible refine (ready13 C _ (C.kept HTQ.out hS) (v3.below hS).p).mono ?_)
            rintro _ u2 ⟨Ar2, cr2, rfl, wr2, hb2⟩
            have hpR := wr2
            replace hS := Below.step hS hb2
            (repeat (first | go_skip | go_guarded | go_step | go_upon))
            refine hK.out _ _ hS (fun _ => ?_)
            clear hK K
            (try simp only [Act.put, List.getElem_toArray, List.getElem_cons_succ, List.getElem_cons_zero, List.setIfInBounds_toArray, List.set_cons_zero, List.set_cons_succ])
            refine wpAnyH_ready (rs := [28]) (by kernel_rfl) (by simp) ?_
            refine (AllReadyH.cons rfl (fun K hK => ?_) AllReadyH.nil)
            · rw [if_pos (by kernel_rfl)]
              refine wp_build1R rfl rfl ?_
              have hbA := ((Below.refl _ _).alloc (Nat.le_refl _) _ : Below u2.heap.size u2 (u2.alloc (.cells #[.int .i64 0, .int .i64 0] 36)))
              replace hpR := PAt.later hpR hbA
              have hpT := one2_at (t := 36) (w := u2) 0 0
              replace hS := Below.step hS hbA
              clear hbA
              generalize u2.alloc (.cells #[.int .i64 0, .int .i64 0] 36) = u3 at *
              refine hK.out _ _ hS (fun _ => ?_)
              clear hK K
              (try simp only [Act.put, List.getElem_toArray, List.getElem_cons_succ, List.getElem_cons_zero, List.setIfInBounds_toArray, List.set_cons_zero, List.set_cons_succ])
              have hH : Below Wq.heap.size Wq u3 ∧ (∃ A c, (.slice Ar2 1 cr2 : Value) = .slice A 1 c ∧ PAt u3 u3.heap.size A [(0, 0)]) ∧ (∃ A c, (.slice (some ⟨u2.heap.size, 0, none⟩) 1 1 : Value) = .slice A 1 c ∧ PAt u3 u3.heap.size A [(0, 0)]) := And.intro hS (And.intro ⟨_, _, rfl, hpR⟩ ⟨_, _, rfl, hpT⟩)
              generalize (.slice Ar2 1 cr2 : Value) = x1y0 at hH ⊢
              generalize (.slice (some ⟨u2.heap.size, 0, none⟩) 1 1 : Value) = x1y1 at hH ⊢
              exact key u3 x1y0 x1y1 hH
          · rw [if_pos (by kernel_rfl)]
            refine wp_build1R rfl rfl ?_
            have hbA := ((Below.refl _ _).alloc (Nat.le_refl _) _ : Below u1.heap.size u1 (u1.alloc (.cells #[.int .i64 0, .int .i64 0] 36)))
            have hpT := one2_at (t := 36) (w := u1) 0 0
            replace hS := Below.step hS hbA
            clear hbA
            generalize u1.alloc (.cells #[.int .i64 0, .int .i64 0] 36) = u4 at *
            refine hK.out _ _ hS (fun _ => ?_)
            clear hK K
            (try simp only [Act.put, List.getElem_toArray, List.getElem_cons_succ, List.getElem_cons_zero, List.setIfInBounds_toArray, List.set_cons_zero, List.set_cons_succ])
            refine wpAnyH_ready (rs := [25]) (by kernel_rfl) (by simp) ?_
            refine (AllReadyH.cons rfl (fun K hK => ?_) AllReadyH.nil)
            · rw [if_pos (by kernel_rfl)]
              go_simp
              go_at_call 15
              (with_reducible refine (ready13 C _ (C.kept HTQ.out hS) (v3.below hS).p).mono ?_)
              rintro _ u5 ⟨Ar5, cr5, rfl, wr5, hb5⟩
              replace hpT := PAt.later hpT hb5
              have hpR := wr5
              replace hS := Below.step hS hb5
              (repeat (first | go_skip | go_guarded | go_step | go_upon))
              refine hK.out _ _ hS (fun _ => ?_)
              clear hK K
              (try simp only [Act.put, List.getElem_toArray, List.getElem_cons_succ, List.getElem_cons_zero, List.setIfInBounds_toArray, List.set_cons_zero, List.set_cons_succ])
              have hH : Below Wq.heap.size Wq u5 ∧ (∃ A c, (.slice Ar5 1 cr5 : Value) = .slice A 1 c ∧ PAt u5 u5.heap.size A [(0, 0)]) ∧ (∃ A c, (.slice (some ⟨u1.heap.size, 0, none⟩) 1 1 : Value) = .slice A 1 c ∧ PAt u5 u5.heap.size A [(0, 0)]) := And.intro hS (And.intro ⟨_, _, rfl, hpR⟩ ⟨_, _, rfl, hpT⟩)
              generalize (.slice Ar5 1 cr5 : Value) = x1y0 at hH ⊢
              generalize (.slice (some ⟨u1.heap.size, 0, none⟩) 1 1 : Value) = x1y1 at hH ⊢
              exact key u5 x1y0 x1y1 hH
        case key =>
          intro Wj1 x1y0 x1y1 hH
          obtain ⟨hS, ⟨Ar, cr, rfl, hpR⟩, ⟨At, ct, rfl, hpT⟩⟩ := hH
          as_aux_lemma =>
            refine wpAnyH_ready (rs := [29]) (by kernel_rfl) (by simp) ?_
            refine (AllReadyH.cons rfl (fun K hK => ?_) AllReadyH.nil)
            · rw [if_pos (by kernel_rfl)]
              go_simp
              go_at_call 12
              (with_reducible refine (rrefs_1 (n := 1) (m := 1) (l := [(0, 0)]) (k := [(0, 0)]) (R := true) rfl rfl (by simp) (by decide) (by decide) _ _ _ hpR hpT).mono ?_)
              rintro _ u6 ⟨rfl, hb6⟩
              replace hpR := PAt.later hpR hb6
              replace hpT := PAt.later hpT hb6
              clear hpR
              clear hpT
              replace hS := Below.step hS hb6
              (repeat (first | go_skip | go_guarded | go_step | go_upon))
              refine hK.out _ _ hS (fun _ => ?_)
              clear hK K
              (try simp only [Act.put, List.getElem_toArray, List.getElem_cons_succ, List.getElem_cons_zero, List.setIfInBounds_toArray, List.set_cons_zero, List.set_cons_succ])
              refine wpAnyH_takeS HNS (i := 30) (v := .bool true) rfl (by kernel_rfl) (by kernel_rfl) (fun _ _ _ h => h) (Or.inl ⟨by kernel_rfl, fun W hW => ?_⟩) hS ?_
              · go_simp
              simp only [Act.put, List.getElem_toArray, List.getElem_cons_succ, List.getElem_cons_zero, List.setIfInBounds_toArray, List.set_cons_zero, List.set_cons_succ]
              refine wpAnyH_takeS HNS (i := 31) (v := .bool true) rfl (by kernel_rfl) (by kernel_rfl) (fun _ _ _ h => h) (Or.inl ⟨by kernel_rfl, fun W hW => ?_⟩) hS ?_
              · go_simp
              simp only [Act.put, List.getElem_toArray, List.getElem_cons_succ, List.getElem_cons_zero, List.setIfInBounds_toArray, List.set_cons_zero, List.set_cons_succ]
              refine wpAnyH_takeS HNS (i := 32) (v := .pointer (some ⟨g3, 4, none⟩)) rfl (by kernel_rfl) (by kernel_rfl) (fun _ _ _ h => h) (Or.inl ⟨by kernel_rfl, fun W hW => ?_⟩) hS ?_
              · go_simp
              simp only [Act.put, List.getElem_toArray, List.getElem_cons_succ, List.getElem_cons_zero, List.setIfInBounds_toArray, List.set_cons_zero, List.set_cons_succ]
              refine wpAnyH_takeS HNS (i := 33) (v := .pointer (some ⟨g3, 4, none⟩)) rfl (by kernel_rfl) (by kernel_rfl) (fun _ _ _ h => h) (Or.inl ⟨by kernel_rfl, fun W hW => ?_⟩) hS ?_
              · go_simp
              simp only [Act.put, List.getElem_toArray, List.getElem_cons_succ, List.getElem_cons_zero, List.setIfInBounds_toArray, List.set_cons_zero, List.set_cons_succ]
              refine wpAnyH_takeS HNS (i := 34) (v := .slice (some ⟨bp, op, none⟩) 1 a3.cc) rfl (by kernel_rfl) (by kernel_rfl) (fun _ _ _ h => h) (Or.inl ⟨by kernel_rfl, fun W hW => ?_⟩) hS ?_
              · (have z0 := (hW.cell (p := ⟨g3, _, none⟩) hg3).trans w4; go_simp)
              simp only [Act.put, List.getElem_toArray, List.getElem_cons_succ, List.getElem_cons_zero, List.setIfInBounds_toArray, List.set_cons_zero, List.set_cons_succ]
              refine wpAnyH_takeS HNS (i := 35) (v := .int .i64 1) rfl (by kernel_rfl) (by kernel_rfl) (fun _ _ _ h => h) (Or.inl ⟨by kernel_rfl, fun W hW => ?_⟩) hS ?_
              · go_simp
              simp only [Act.put, List.getElem_toArray, List.getElem_cons_succ, List.getElem_cons_zero, List.setIfInBounds_toArray, List.set_cons_zero, List.set_cons_succ]
              refine wpAnyH_takeS HNS (i := 36) (v := .bool true) rfl (by kernel_rfl) (by kernel_rfl) (fun _ _ _ h => h) (Or.inl ⟨by kernel_rfl, fun W hW => ?_⟩) hS ?_
              · go_simp
              simp only [Act.put, List.getElem_toArray, List.getElem_cons_succ, List.getElem_cons_zero, List.setIfInBounds_toArray, List.set_cons_zero, List.set_cons_succ]
              refine wpAnyH_takeS HNS (i := 37) (v := .bool true) rfl (by kernel_rfl) (by kernel_rfl) (fun _ _ _ h => h) (Or.inl ⟨by kernel_rfl, fun W hW => ?_⟩) hS ?_
              · go_simp
              simp only [Act.put, List.getElem_toArray, List.getElem_cons_succ, List.getElem_cons_zero, List.setIfInBounds_toArray, List.set_cons_zero, List.set_cons_succ]
              refine wpAnyH_takeS HNS (i := 38) (v := .bool true) rfl (by kernel_rfl) (by kernel_rfl) (fun _ _ _ h => h) (Or.inl ⟨by kernel_rfl, fun W hW => ?_⟩) hS ?_
              · go_simp
              simp only [Act.put, List.getElem_toArray, List.getElem_cons_succ, List.getElem_cons_zero, List.setIfInBounds_toArray, List.set_cons_zero, List.set_cons_succ]
              refine wpAnyH_takeS HNS (i := 39) (v := .pointer (some ⟨g3, 4, none⟩)) rfl (by kernel_rfl) (by kernel_rfl) (fun _ _ _ h => h) (Or.inl ⟨by kernel_rfl, fun W hW => ?_⟩) hS ?_
              · go_simp
              simp only [Act.put, List.getElem_toArray, List.getElem_cons_succ, List.getElem_cons_zero, List.setIfInBounds_toArray, List.set_cons_zero, List.set_cons_succ]
              as_aux_lemma =>
                refine wpAnyH_takeS HNS (i := 40) (v := .pointer (some ⟨g3, 4, none⟩)) rfl (by kernel_rfl) (by kernel_rfl) (fun _ _ _ h => h) (Or.inl ⟨by kernel_rfl, fun W hW => ?_⟩) hS ?_
                · go_simp
                simp only [Act.put, List.getElem_toArray, List.getElem_cons_succ, List.getElem_cons_zero, List.setIfInBounds_toArray, List.set_cons_zero, List.set_cons_succ]
                refine wpAnyH_takeS HNS (i := 41) (v := .slice (some ⟨bp, op, none⟩) 1 a3.cc) rfl (by kernel_rfl) (by kernel_rfl) (fun _ _ _ h => h) (Or.inl ⟨by kernel_rfl, fun W hW => ?_⟩) hS ?_
                · (have z0 := (hW.cell (p := ⟨g3, _, none⟩) hg3).trans w4; go_simp)
                simp only [Act.put, List.getElem_toArray, List.getElem_cons_succ, List.getElem_cons_zero, List.setIfInBounds_toArray, List.set_cons_zero, List.set_cons_succ]
                refine wpAnyH_takeS HNS (i := 42) (v := .pointer (some ⟨bp, op, none⟩)) rfl (by kernel_rfl) (by kernel_rfl) (fun _ _ _ h => h) (Or.inl ⟨by kernel_rfl, fun W hW => ?_⟩) hS ?_
                · go_simp
                simp only [Act.put, List.getElem_toArray, List.getElem_cons_succ, List.getElem_cons_zero, List.setIfInBounds_toArray, List.set_cons_zero, List.set_cons_succ]
                refine wpAnyH_takeS HNS (i := 43) (v := .pointer (some ⟨bp, op + 2, none⟩)) rfl (by kernel_rfl) (by kernel_rfl) (fun _ _ _ h => h) (Or.inl ⟨by kernel_rfl, fun W hW => ?_⟩) hS ?_
                · go_simp
                simp only [Act.put, List.getElem_toArray, List.getElem_cons_succ, List.getElem_cons_zero, List.setIfInBounds_toArray, List.set_cons_zero, List.set_cons_succ]
                refine wpAnyH_takeS HNS (i := 44) (v := .pointer (some ⟨bp, op + 7, none⟩)) rfl (by kernel_rfl) (by kernel_rfl) (fun _ _ _ h => h) (Or.inl ⟨by kernel_rfl, fun W hW => ?_⟩) hS ?_
                · go_simp
                simp only [Act.put, List.getElem_toArray, List.getElem_cons_succ, List.getElem_cons_zero, List.setIfInBounds_toArray, List.set_cons_zero, List.set_cons_succ]
                refine wpAnyH_takeS HNS (i := 45) (v := .int .i64 7) rfl (by kernel_rfl) (by kernel_rfl) (fun _ _ _ h => h) (Or.inl ⟨by kernel_rfl, fun W hW => ?_⟩) hS ?_
                · (have z0 := (hW.cell (p := ⟨bp, _, none⟩) hbp).trans s7; go_simp)
                simp only [Act.put, List.getElem_toArray, List.getElem_cons_succ, List.getElem_cons_zero, List.setIfInBounds_toArray, List.set_cons_zero, List.set_cons_succ]
                refine wpAnyH_takeS HNS (i := 46) (v := .bool true) rfl (by kernel_rfl) (by kernel_rfl) (fun _ _ _ h => h) (Or.inl ⟨by kernel_rfl, fun W hW => ?_⟩) hS ?_
                · go_simp
                simp only [Act.put, List.getElem_toArray, List.getElem_cons_succ, List.getElem_cons_zero, List.setIfInBounds_toArray, List.set_cons_zero, List.set_cons_succ]
                refine wpAnyH_takeS HNS (i := 47) (v := .bool true) rfl (by kernel_rfl) (by kernel_rfl) (fun _ _ _ h => h) (Or.inl ⟨by kernel_rfl, fun W hW => ?_⟩) hS ?_
                · go_simp
                simp only [Act.put, List.getElem_toArray, List.getElem_cons_succ, List.getElem_cons_zero, List.setIfInBounds_toArray, List.set_cons_zero, List.set_cons_succ]
                refine wpAnyH_takeS HNS (i := 48) (v := .bool true) rfl (by kernel_rfl) (by kernel_rfl) (fun _ _ _ h => h) (Or.inl ⟨by kernel_rfl, fun W hW => ?_⟩) hS ?_
                · go_simp
                simp only [Act.put, List.getElem_toArray, List.getElem_cons_succ, List.getElem_cons_zero, List.setIfInBounds_toArray, List.set_cons_zero, List.set_cons_succ]
                refine wpAnyH_takeS HNS (i := 49) (v := .slice (some ⟨bg, og, none⟩) 2 k9) rfl (by kernel_rfl) (by kernel_rfl) (fun _ _ _ h => h) (Or.inl ⟨by kernel_rfl, fun W hW => ?_⟩) hS ?_
                · go_simp
                simp only [Act.put, List.getElem_toArray, List.getElem_cons_succ, List.getElem_cons_zero, List.setIfInBounds_toArray, List.set_cons_zero, List.set_cons_succ]
                as_aux_lemma =>
                  refine wpAnyH_takeS HNS (i := 50) (v := .pointer (some ⟨bg, og + 4, none⟩)) rfl (by kernel_rfl) (by kernel_rfl) (fun _ _ _ h => h) (Or.inl ⟨by kernel_rfl, fun W hW => ?_⟩) hS ?_
                  · go_simp
                  simp only [Act.put, List.getElem_toArray, List.getElem_cons_succ, List.getElem_cons_zero, List.setIfInBounds_toArray, List.set_cons_zero, List.set_cons_succ]
                  refine wpAnyH_takeS HNS (i := 51) (v := .pointer (some ⟨bg, og + 4 + 3, none⟩)) rfl (by kernel_rfl) (by kernel_rfl) (fun _ _ _ h => h) (Or.inl ⟨by kernel_rfl, fun W hW => ?_⟩) hS ?_
                  · go_simp
                  simp only [Act.put, List.getElem_toArray, List.getElem_cons_succ, List.getElem_cons_zero, List.setIfInBounds_toArray, List.set_cons_zero, List.set_cons_succ]
                  refine wpAnyH_takeS HNS (i := 52) (v := .int .i64 2) rfl (by kernel_rfl) (by kernel_rfl) (fun _ _ _ h => h) (Or.inl ⟨by kernel_rfl, fun W hW => ?_⟩) hS ?_
                  · (have z0 := (hW.cell (p := ⟨bg, _, none⟩) hbg).trans g7; go_simp)
                  simp only [Act.put, List.getElem_toArray, List.getElem_cons_succ, List.getElem_cons_zero, List.setIfInBounds_toArray, List.set_cons_zero, List.set_cons_succ]
                  refine wpAnyH_takeS HNS (i := 53) (v := .bool true) rfl (by kernel_rfl) (by kernel_rfl) (fun _ _ _ h => h) (Or.inl ⟨by kernel_rfl, fun W hW => ?_⟩) hS ?_
                  · go_simp
                  simp only [Act.put, List.getElem_toArray, List.getElem_cons_succ, List.getElem_cons_zero, List.setIfInBounds_toArray, List.set_cons_zero, List.set_cons_succ]
                  refine wpAnyH_takeS HNS (i := 54) (v := .bool true) rfl (by kernel_rfl) (by kernel_rfl) (fun _ _ _ h => h) (Or.inl ⟨by kernel_rfl, fun W hW => ?_⟩) hS ?_
                  · go_simp
                  simp only [Act.put, List.getElem_toArray, List.getElem_cons_succ, List.getElem_cons_zero, List.setIfInBounds_toArray, List.set_cons_zero, List.set_cons_succ]
                  refine wpAnyH_takeS HNS (i := 55) (v := .bool true) rfl (by kernel_rfl) (by kernel_rfl) (fun _ _ _ h => h) (Or.inl ⟨by kernel_rfl, fun W hW => ?_⟩) hS ?_
                  · go_simp
                  simp only [Act.put, List.getElem_toArray, List.getElem_cons_succ, List.getElem_cons_zero, List.setIfInBounds_toArray, List.set_cons_zero, List.set_cons_succ]
                  refine wpAnyH_takeS HNS (i := 56) (v := .slice (some ⟨bd, od, none⟩) 2 k10) rfl (by kernel_rfl) (by kernel_rfl) (fun _ _ _ h => h) (Or.inl ⟨by kernel_rfl, fun W hW => ?_⟩) hS ?_
                  · go_simp
                  simp only [Act.put, List.getElem_toArray, List.getElem_cons_succ, List.getElem_cons_zero, List.setIfInBounds_toArray, List.set_cons_zero, List.set_cons_succ]
                  refine wpAnyH_takeS HNS (i := 57) (v := .pointer (some ⟨bd, od + 2, none⟩)) rfl (by kernel_rfl) (by kernel_rfl) (fun _ _ _ h => h) (Or.inl ⟨by kernel_rfl, fun W hW => ?_⟩) hS ?_
                  · go_simp
                  simp only [Act.put, List.getElem_toArray, List.getElem_cons_succ, List.getElem_cons_zero, List.setIfInBounds_toArray, List.set_cons_zero, List.set_cons_succ]
                  refine wpAnyH_takeS HNS (i := 58) (v := .agg #[.int .i64 (-1), .int .i64 0]) rfl (by kernel_rfl) (by kernel_rfl) (fun _ _ _ h => h) (Or.inl ⟨by kernel_rfl, fun W hW => ?_⟩) hS ?_
                  · (have z0 := (hW.cell (p := ⟨bd, _, none⟩) hbd).trans d0; have z1 := (hW.cell (p := ⟨bd, _, none⟩) hbd).trans d1; go_simp)
                  simp only [Act.put, List.getElem_toArray, List.getElem_cons_succ, List.getElem_cons_zero, List.setIfInBounds_toArray, List.set_cons_zero, List.set_cons_succ]
                  refine wpAnyH_ready (rs := [59]) (by kernel_rfl) (by simp) ?_
                  refine (AllReadyH.cons rfl (fun K hK => ?_) AllReadyH.nil)
                  · rw [if_pos (by kernel_rfl)]
                    go_simp
                    go_at_call 22
                    (with_reducible refine (none_z _).mono ?_)
                    rintro _ u7 ⟨rfl, hb7⟩
                    replace hS := Below.step hS hb7
                    (repeat (first | go_skip | go_guarded | go_step | go_upon))
                    refine hK.out _ _ hS (fun _ => ?_)
                    clear hK K
                    (try simp only [Act.put, List.getElem_toArray, List.getElem_cons_succ, List.getElem_cons_zero, List.setIfInBounds_toArray, List.set_cons_zero, List.set_cons_succ])
                    refine wpAnyH_takeS HNS (i := 60) (v := .bool true) rfl (by kernel_rfl) (by kernel_rfl) (fun _ _ _ h => h) (Or.inl ⟨by kernel_rfl, fun W hW => ?_⟩) hS ?_
                    · go_simp
                    simp only [Act.put, List.getElem_toArray, List.getElem_cons_succ, List.getElem_cons_zero, List.setIfInBounds_toArray, List.set_cons_zero, List.set_cons_succ]
                    refine wpAnyH_takeS HNS (i := 61) (v := .bool true) rfl (by kernel_rfl) (by kernel_rfl) (fun _ _ _ h => h) (Or.inl ⟨by kernel_rfl, fun W hW => ?_⟩) hS ?_
                    · go_simp
                    simp only [Act.put, List.getElem_toArray, List.getElem_cons_succ, List.getElem_cons_zero, List.setIfInBounds_toArray, List.set_cons_zero, List.set_cons_succ]
                    refine wpAnyH_takeS HNS (i := 62) (v := .bool true) rfl (by kernel_rfl) (by kernel_rfl) (fun _ _ _ h => h) (Or.inl ⟨by kernel_rfl, fun W hW => ?_⟩) hS ?_
                    · go_simp
                    simp only [Act.put, List.getElem_toArray, List.getElem_cons_succ, List.getElem_cons_zero, List.setIfInBounds_toArray, List.set_cons_zero, List.set_cons_succ]
                    refine wpAnyH_takeS HNS (i := 63) (v := .slice A11 0 k11) rfl (by kernel_rfl) (by kernel_rfl) (fun _ _ _ h => h) (Or.inl ⟨by kernel_rfl, fun W hW => ?_⟩) hS ?_
                    · go_simp
                    simp only [Act.put, List.getElem_toArray, List.getElem_cons_succ, List.getElem_cons_zero, List.setIfInBounds_toArray, List.set_cons_zero, List.set_cons_succ]
                    refine wpAnyH_takeS HNS (i := 64) (v := .int .i64 0) rfl (by kernel_rfl) (by kernel_rfl) (fun _ _ _ h => h) (Or.inl ⟨by kernel_rfl, fun W hW => ?_⟩) hS ?_
                    · go_simp
                    simp only [Act.put, List.getElem_toArray, List.getElem_cons_succ, List.getElem_cons_zero, List.setIfInBounds_toArray, List.set_cons_zero, List.set_cons_succ]
                    refine wpAnyH_takeS HNS (i := 65) (v := .bool true) rfl (by kernel_rfl) (by kernel_rfl) (fun _ _ _ h => h) (Or.inl ⟨by kernel_rfl, fun W hW => ?_⟩) hS ?_
                    · go_simp
                    simp only [Act.put, List.getElem_toArray, List.getElem_cons_succ, List.getElem_cons_zero, List.setIfInBounds_toArray, List.set_cons_zero, List.set_cons_succ]
                    refine wpAnyH_takeS HNS (i := 66) (v := .bool true) rfl (by kernel_rfl) (by kernel_rfl) (fun _ _ _ h => h) (Or.inl ⟨by kernel_rfl, fun W hW => ?_⟩) hS ?_
                    · go_simp
                    simp only [Act.put, List.getElem_toArray, List.getElem_cons_succ, List.getElem_cons_zero, List.setIfInBounds_toArray, List.set_cons_zero, List.set_cons_succ]
                    refine wpAnyH_takeS HNS (i := 67) (v := .bool true) rfl (by kernel_rfl) (by kernel_rfl) (fun _ _ _ h => h) (Or.inl ⟨by kernel_rfl, fun W hW => ?_⟩) hS ?_
                    · go_simp
                    simp only [Act.put, List.getElem_toArray, List.getElem_cons_succ, List.getElem_cons_zero, List.setIfInBounds_toArray, List.set_cons_zero, List.set_cons_succ]
                    refine wpAnyH_takeS HNS (i := 68) (v := .slice A12 0 k12) rfl (by kernel_rfl) (by kernel_rfl) (fun _ _ _ h => h) (Or.inl ⟨by kernel_rfl, fun W hW => ?_⟩) hS ?_
                    · go_simp
                    simp only [Act.put, List.getElem_toArray, List.getElem_cons_succ, List.getElem_cons_zero, List.setIfInBounds_toArray, List.set_cons_zero, List.set_cons_succ]
                    refine wpAnyH_takeS HNS (i := 69) (v := .int .i64 0) rfl (by kernel_rfl) (by kernel_rfl) (fun _ _ _ h => h) (Or.inl ⟨by kernel_rfl, fun W hW => ?_⟩) hS ?_
                    · go_simp
                    simp only [Act.put, List.getElem_toArray, List.getElem_cons_succ, List.getElem_cons_zero, List.setIfInBounds_toArray, List.set_cons_zero, List.set_cons_succ]
                    as_aux_lemma =>
                      refine wpAnyH_takeS HNS (i := 70) (v := .bool true) rfl (by kernel_rfl) (by kernel_rfl) (fun _ _ _ h => h) (Or.inl ⟨by kernel_rfl, fun W hW => ?_⟩) hS ?_
                      · go_simp
                      simp only [Act.put, List.getElem_toArray, List.getElem_cons_succ, List.getElem_cons_zero, List.setIfInBounds_toArray, List.set_cons_zero, List.set_cons_succ]
                      refine wpAnyH_takeS HNS (i := 71) (v := .bool true) rfl (by kernel_rfl) (by kernel_rfl) (fun _ _ _ h => h) (Or.inl ⟨by kernel_rfl, fun W hW => ?_⟩) hS ?_
                      · go_simp
                      simp only [Act.put, List.getElem_toArray, List.getElem_cons_succ, List.getElem_cons_zero, List.setIfInBounds_toArray, List.set_cons_zero, List.set_cons_succ]
                      refine wpAnyH_takeS HNS (i := 72) (v := .bool true) rfl (by kernel_rfl) (by kernel_rfl) (fun _ _ _ h => h) (Or.inl ⟨by kernel_rfl, fun W hW => ?_⟩) hS ?_
                      · go_simp
                      simp only [Act.put, List.getElem_toArray, List.getElem_cons_succ, List.getElem_cons_zero, List.setIfInBounds_toArray, List.set_cons_zero, List.set_cons_succ]
                      refine wpAnyH_takeS HNS (i := 73) (v := .agg (wcs a3 wl13)) rfl (by kernel_rfl) (by kernel_rfl) (fun _ _ _ h => h) (yieldsIf_load_midA (by kernel_rfl) 43 _ rfl g3 0 (by rfl) (wcs a3 wl13) _ (fun W hW => rng_held (Held.below v3.x hW)) Tryz.underlying43 rfl (by kernel_rfl)) hS ?_
                      simp only [Act.put, List.getElem_toArray, List.getElem_cons_succ, List.getElem_cons_zero, List.setIfInBounds_toArray, List.set_cons_zero, List.set_cons_succ]
                      refine wpAnyH_takeS HNS (i := 74) (v := .agg (wcs a3 wl13)) rfl (by kernel_rfl) (by kernel_rfl) (fun _ _ _ h => h) (yieldsIf_load_midA (by kernel_rfl) 43 _ rfl g3 0 (by rfl) (wcs a3 wl13) _ (fun W hW => rng_held (Held.below v3.x hW)) Tryz.underlying43 rfl (by kernel_rfl)) hS ?_
                      simp only [Act.put, List.getElem_toArray, List.getElem_cons_succ, List.getElem_cons_zero, List.setIfInBounds_toArray, List.set_cons_zero, List.set_cons_succ]
                      refine wpAnyH_ready (rs := [75]) (by kernel_rfl) (by simp) ?_
                      refine (AllReadyH.cons rfl (fun K hK => ?_) AllReadyH.nil)
                      · rw [if_pos (by kernel_rfl)]
                        go_simp
                        go_at_call 17
                        (with_reducible refine (sameW_c C sm13 wl13_len wl13_len _ (C.kept HTQ.out hS) (v3.below hS).p (v3.below hS).p).mono ?_)
                        rintro _ u8 ⟨rfl, hb8⟩
                        replace hS := Below.step hS hb8
                        (repeat (first | go_skip | go_guarded | go_step | go_upon))
                        refine hK.out _ _ hS (fun _ => ?_)
                        clear hK K
                        (try simp only [Act.put, List.getElem_toArray, List.getElem_cons_succ, List.getElem_cons_zero, List.setIfInBounds_toArray, List.set_cons_zero, List.set_cons_succ])
                        refine wpAnyH_takeS HNS (i := 76) (v := .bool true) rfl (by kernel_rfl) (by kernel_rfl) (fun _ _ _ h => h) (Or.inl ⟨by kernel_rfl, fun W hW => ?_⟩) hS ?_
                        · go_simp
                        simp only [Act.put, List.getElem_toArray, List.getElem_cons_succ, List.getElem_cons_zero, List.setIfInBounds_toArray, List.set_cons_zero, List.set_cons_succ]
                        refine wpAnyH_takeS HNS (i := 77) (v := .bool true) rfl (by kernel_rfl) (by kernel_rfl) (fun _ _ _ h => h) (Or.inl ⟨by kernel_rfl, fun W hW => ?_⟩) hS ?_
                        · go_simp
                        simp only [Act.put, List.getElem_toArray, List.getElem_cons_succ, List.getElem_cons_zero, List.setIfInBounds_toArray, List.set_cons_zero, List.set_cons_succ]
                        refine wpAnyH_takeS HNS (i := 78) (v := .agg (wcs a3 wl13)) rfl (by kernel_rfl) (by kernel_rfl) (fun _ _ _ h => h) (yieldsIf_load_midA (by kernel_rfl) 43 _ rfl g3 0 (by rfl) (wcs a3 wl13) _ (fun W hW => rng_held (Held.below v3.x hW)) Tryz.underlying43 rfl (by kernel_rfl)) hS ?_
                        simp only [Act.put, List.getElem_toArray, List.getElem_cons_succ, List.getElem_cons_zero, List.setIfInBounds_toArray, List.set_cons_zero, List.set_cons_succ]
                        refine wpAnyH_takeS HNS (i := 79) (v := .agg wz0) rfl (by kernel_rfl) (by kernel_rfl) (fun _ _ _ h => h) (Or.inl ⟨by kernel_rfl, fun W hW => ?_⟩) hS ?_
                        · go_simp
                        simp only [Act.put, List.getElem_toArray, List.getElem_cons_succ, List.getElem_cons_zero, List.setIfInBounds_toArray, List.set_cons_zero, List.set_cons_succ]
                        refine wpAnyH_ready (rs := [80]) (by kernel_rfl) (by simp) ?_
                        refine (AllReadyH.cons rfl (fun K hK => ?_) AllReadyH.nil)
                        · rw [if_pos (by kernel_rfl)]
                          go_simp
                          go_at_call 17
                          (with_reducible refine (same13 C _ (C.kept HTQ.out hS) (v3.below hS).p).mono ?_)
                          rintro _ u9 ⟨rfl, hb9⟩
                          replace hS := Below.step hS hb9
                          (repeat (first | go_skip | go_guarded | go_step | go_upon))
                          refine hK.out _ _ hS (fun _ => ?_)
                          clear hK K
                          (try simp only [Act.put, List.getElem_toArray, List.getElem_cons_succ, List.getElem_cons_zero, List.setIfInBounds_toArray, List.set_cons_zero, List.set_cons_succ])
                          refine wpAnyH_takeS HNS (i := 81) (v := .bool true) rfl (by kernel_rfl) (by kernel_rfl) (fun _ _ _ h => h) (Or.inl ⟨by kernel_rfl, fun W hW => ?_⟩) hS ?_
                          · go_simp
                          simp only [Act.put, List.getElem_toArray, List.getElem_cons_succ, List.getElem_cons_zero, List.setIfInBounds_toArray, List.set_cons_zero, List.set_cons_succ]
                          refine wpAnyH_takeS HNS (i := 82) (v := .bool true) rfl (by kernel_rfl) (by kernel_rfl) (fun _ _ _ h => h) (Or.inl ⟨by kernel_rfl, fun W hW => ?_⟩) hS ?_
                          · go_simp
                          simp only [Act.put, List.getElem_toArray, List.getElem_cons_succ, List.getElem_cons_zero, List.setIfInBounds_toArray, List.set_cons_zero, List.set_cons_succ]
                          refine wpAnyH_takeS HNS (i := 83) (v := .bool true) rfl (by kernel_rfl) (by kernel_rfl) (fun _ _ _ h => h) (Or.inl ⟨by kernel_rfl, fun W hW => ?_⟩) hS ?_
                          · go_simp
                          simp only [Act.put, List.getElem_toArray, List.getElem_cons_succ, List.getElem_cons_zero, List.setIfInBounds_toArray, List.set_cons_zero, List.set_cons_succ]
                          refine wpAnyH_done (by kernel_rfl) ?_ _
                          (repeat (first | go_skip | go_guarded | go_step | go_upon))
                          go_ret
                          exact ⟨rfl, Below.step HBD.out hS⟩
end Go.Proofs.YtjibkgildfjjoaaGreatDoor

