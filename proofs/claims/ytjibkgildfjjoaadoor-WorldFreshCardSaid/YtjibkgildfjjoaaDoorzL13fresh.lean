/- WorldFresh. -/
import Derived.Test.YtjibkgildfjjoaaDoorzZo
import Derived.Test.YtjibkgildfjjoaaDoorzPr1
import Derived.Deep.DeepCutAuto
import Derived.Deep.CutBlock
namespace Go.Proofs.YtjibkgildfjjoaaDoor.worldFresh
set_option linter.unusedVariables false
set_option linter.unusedSimpArgs false
open Go.RowKit Go.ChangeShapes Go.WideShapes Go.ChangeAt Go.Sort Go.Proofs.YtjibkgildfjjoaaDoor

theorem freshN_c {T : World → Prop} (C : WC T) {k lr : Int} {RL : List Rng} {CL : List V} {n : Nat} (hR : freshR k lr = (RL, CL)) (h1 : RL.length = n) (h2 : CL.length = n) (lf lm : Int) (W : World) (hT : T W) :
    Calls Tryd.prog 13 #[.int .i64 k, .agg (lmc lf lm lr)] W fun e w' => ∃ A c A2 c2, e = .returned (.tuple #[.slice A n c, .slice A2 n c2]) ∧ GAt w' w'.heap.size A RL ∧ PAt w' w'.heap.size A2 CL ∧ Below W.heap.size W w' := by
  have h := freshW_c C hR lf lm W hT
  rw [h1, h2] at h
  exact h
theorem same1_c (lr : Int) (c c2 : Nat) (W : World) {A A2 : Option Addr} (hp : PAt W W.heap.size A (rng1 lr).buf) (hq : PAt W W.heap.size A2 (rng1 lr).buf) :
    Calls Tryd.prog 15 #[rgv A 1 c 0 0 lr, rgv A2 1 c2 0 0 lr] W fun e w' => e = .returned (.bool true) ∧ Below W.heap.size W w' :=
  rsameg_c (r := rng1 lr) (by simp [rng1]) c c2 W hp hq
set_option maxHeartbeats 8000000 in
set_option maxRecDepth 100000 in
theorem walk {T : World → Prop} (C : WC T) (CF : ∀ w, T w → Calls Tryd.prog 6 #[] w fun e w' => e = .returned (.bool true) ∧ Below w.heap.size w w') (k lf lm lr : Int) (w : World) (hT : T w) :
    Calls Tryd.prog 5 #[.int .i64 k, .agg (lmc lf lm lr)] w fun e w' => e = .returned (.bool true) ∧ Below w.heap.size w w' := by
  have hW : Below w.heap.size w (w.alloc (.cells (lmc lf lm lr) 25)) := (Below.refl _ _).alloc (Nat.le_refl _) _
  have vL : Held (w.alloc (.cells (lmc lf lm lr) 25)) w.heap.size 25 (lmc lf lm lr) := Held.new w 25 (lmc lf lm lr)
  replace hT := C.kept hT hW
  go_enter Tryd.func5, Tryd.ntmps5
  go_upto_region 1 with (fail)
  generalize (w.alloc (.cells (lmc lf lm lr) 25)) = W0 at *
  go_upto_region 3 with (first
    | (go_at_call 6; (with_reducible refine (CF _ hT).mono ?_); rintro _ uf ⟨rfl, hbf⟩; replace hT := C.kept hT hbf; replace vL := Held.below vL hbf; replace hW := Below.step hW hbf))
  by_cases m1 : 1 ≤ k
  case neg =>
    have ef : freshR k lr = ([], []) := freshR_no (by rw [← Bool.not_eq_true, mayFr_iff]; omega)
    have EF := Lib.hid ef
    clear ef
    have y0 := vL.cell 0
    have y1 := vL.cell 1
    have y2 := vL.cell 2
    simp at y0 y1 y2
    go_upto_region 4 with (first
      | (go_at_call 13; (with_reducible refine (freshN_c C EF.out (n := 0) rfl rfl lf lm _ hT).mono ?_); rintro _ Wn ⟨An, kn, An2, kn2, rfl, gn, cn, hb⟩; replace hT := C.kept hT hb; replace vL := Held.below vL hb; replace hW := Below.step hW hb))
    clear hb
    clear y0 y1 y2
    have y2 := vL.cell 2
    simp at y2
    go_wp2_with fail
    go_ret
    exact ⟨rfl, hW⟩
  case pos =>
  by_cases m2 : k ≤ 64
  case neg =>
    have ef : freshR k lr = ([], []) := freshR_no (by rw [← Bool.not_eq_true, mayFr_iff]; omega)
    have EF := Lib.hid ef
    clear ef
    have y0 := vL.cell 0
    have y1 := vL.cell 1
    have y2 := vL.cell 2
    simp at y0 y1 y2
    go_upto_region 4 with (first
      | (go_at_call 13; (with_reducible refine (freshN_c C EF.out (n := 0) rfl rfl lf lm _ hT).mono ?_); rintro _ Wn ⟨An, kn, An2, kn2, rfl, gn, cn, hb⟩; replace hT := C.kept hT hb; replace vL := Held.below vL hb; replace hW := Below.step hW hb))
    clear hb
    clear y0 y1 y2
    have y2 := vL.cell 2
    simp at y2
    go_wp2_with fail
    go_ret
    exact ⟨rfl, hW⟩
  case pos =>
  by_cases m3 : 1 ≤ lr
  case neg =>
    have ef : freshR k lr = ([], []) := freshR_no (by rw [← Bool.not_eq_true, mayFr_iff]; omega)
    have EF := Lib.hid ef
    clear ef
    have y0 := vL.cell 0
    have y1 := vL.cell 1
    have y2 := vL.cell 2
    simp at y0 y1 y2
    go_upto_region 4 with (first
      | (go_at_call 13; (with_reducible refine (freshN_c C EF.out (n := 0) rfl rfl lf lm _ hT).mono ?_); rintro _ Wn ⟨An, kn, An2, kn2, rfl, gn, cn, hb⟩; replace hT := C.kept hT hb; replace vL := Held.below vL hb; replace hW := Below.step hW hb))
    clear hb
    clear y0 y1 y2
    have y2 := vL.cell 2
    simp at y2
    go_wp2_with fail
    go_ret
    exact ⟨rfl, hW⟩
  case pos =>
  by_cases m4 : lr ≤ 1024
  case neg =>
    have ef : freshR k lr = ([], []) := freshR_no (by rw [← Bool.not_eq_true, mayFr_iff]; omega)
    have EF := Lib.hid ef
    clear ef
    replace m4 : decide (lr ≤ 1024) = false := decide_eq_false m4
    have y0 := vL.cell 0
    have y1 := vL.cell 1
    have y2 := vL.cell 2
    simp at y0 y1 y2
    go_upto_region 4 with (first
      | (go_at_call 13; (with_reducible refine (freshN_c C EF.out (n := 0) rfl rfl lf lm _ hT).mono ?_); rintro _ Wn ⟨An, kn, An2, kn2, rfl, gn, cn, hb⟩; replace hT := C.kept hT hb; replace vL := Held.below vL hb; replace hW := Below.step hW hb))
    clear hb
    clear y0 y1 y2
    have y2 := vL.cell 2
    simp at y2
    go_wp2_with fail
    go_ret
    exact ⟨rfl, hW⟩
  case pos =>
  obtain ⟨n, rfl⟩ : ∃ n : Nat, k = n := ⟨k.toNat, by omega⟩
  have hm : mayFr n lr = true := (mayFr_iff _ _).2 ⟨⟨m1, m2⟩, m3, m4⟩
  have hm2 : mayFr (64 : Nat) lr = true := (mayFr_iff _ _).2 ⟨by decide, m3, m4⟩
  have EF := Lib.hid (freshR_yes hm)
  have E64 := Lib.hid (freshR_yes hm2)
  clear hm hm2
  have y0 := vL.cell 0
  have y1 := vL.cell 1
  have y2 := vL.cell 2
  simp at y0 y1 y2
  go_upto_region 4 with (first
    | (go_at_call 13; (with_reducible refine (freshN_c C EF.out List.length_replicate List.length_replicate lf lm _ hT).mono ?_); rintro _ W3 ⟨A1, k1, A2, k2, rfl, g5, q6, hb⟩; replace hT := C.kept hT hb; replace vL := Held.below vL hb; replace hW := Below.step hW hb))
  clear hb
  clear y0 y1 y2
  have y2 := vL.cell 2
  simp at y2
  go_upto_region 5 with (fail)
  go_upto_region 7 with (fail)
  clear y2
  have y0 := vL.cell 0
  have y1 := vL.cell 1
  have y2 := vL.cell 2
  simp at y0 y1 y2
  go_upto_region 8 with (first
    | (go_at_call 13; (with_reducible refine (freshN_c C (k := 64) E64.out List.length_replicate List.length_replicate lf lm _ hT).mono ?_); rintro _ W7 ⟨A3, k3, A4, k4, rfl, g8, q9, hb⟩; replace q6 := q6.later hb; replace g5 := g5.later hb; replace hT := C.kept hT hb; replace vL := Held.below vL hb; replace hW := Below.step hW hb))
  clear hb
  clear y0 y1 y2
  go_upto_region 11 with (fail)
  have HV := Lib.hid (And.intro g5 (And.intro q6 (And.intro g8 (And.intro q9 (And.intro vL (And.intro hT hW))))))
  clear g5 q6 g8 q9 vL hT hW EF E64
  obtain ⟨W17, hW17⟩ : ∃ W, W = W7 := ⟨_, rfl⟩
  rw [← hW17] at HV ⊢
  clear hW17
  go_loopw [10] (fun iv W => ∃ j : Nat, iv = .int .i64 j ∧ j ≤ n ∧ Below W17.heap.size W17 W) (fun iv _ => n - (intOf iv).toNat)
  case atStart => exact ⟨0, rfl, by omega, Below.refl _ _⟩
  case round =>
    obtain ⟨j, rfl, hj, hw⟩ := hrel
    have hj0 : (0 : Int) ≤ j := by omega
    have HWR := Lib.hid hw
    by_cases hlt : j < n
    · have hlt2 : (j : Int) < (n : Int) := by omega
      obtain ⟨g5, q6, g8, q9, vL, -, -⟩ := HV.out
      have h64 : j < 64 := by omega
      obtain ⟨b1, off1, rfl, hlb1, Ab, cb, hab, p0, p1, p2, p3⟩ := (g5.later hw).rng (j := j) (by rw [List.length_replicate]; exact hlt)
      obtain ⟨b2, off2, rfl, hlb2, q0, q1⟩ := pat_cell (q6.later hw) (j := j) (by rw [List.length_replicate]; exact hlt)
      obtain ⟨b3, off3, rfl, hlb3, Ac, cc, hac, r0, r1, r2, r3⟩ := (g8.later hw).rng (j := j) (by rw [List.length_replicate]; exact h64)
      obtain ⟨b4, off4, rfl, hlb4, s0, s1⟩ := pat_cell (q9.later hw) (j := j) (by rw [List.length_replicate]; exact h64)
      have vL := Held.below vL hw
      have y2 : wr.cell? ⟨w.heap.size, 2, none⟩ = some (.int .i64 lr) := vL.cell 2
      have hls : w.heap.size < wr.heap.size := vL.lt
      rw [List.getElem_replicate] at p0 p1 p2 p3 hab q0 q1 r0 r1 r2 r3 hac s0 s1
      replace p0 : wr.cell? ⟨b1, off1 + j * 4, none⟩ = some (.slice Ab 1 cb) := p0
      replace p1 : wr.cell? ⟨b1, off1 + j * 4 + 1, none⟩ = some (.int .i64 0) := p1
      replace p2 : wr.cell? ⟨b1, off1 + j * 4 + 2, none⟩ = some (.int .i64 0) := p2
      replace p3 : wr.cell? ⟨b1, off1 + j * 4 + 3, none⟩ = some (.int .i64 lr) := p3
      replace r0 : wr.cell? ⟨b3, off3 + j * 4, none⟩ = some (.slice Ac 1 cc) := r0
      replace r1 : wr.cell? ⟨b3, off3 + j * 4 + 1, none⟩ = some (.int .i64 0) := r1
      replace r2 : wr.cell? ⟨b3, off3 + j * 4 + 2, none⟩ = some (.int .i64 0) := r2
      replace r3 : wr.cell? ⟨b3, off3 + j * 4 + 3, none⟩ = some (.int .i64 lr) := r3
      replace q0 : wr.cell? ⟨b2, off2 + j * 2, none⟩ = some (.int .i64 (-1)) := q0
      replace q1 : wr.cell? ⟨b2, off2 + j * 2 + 1, none⟩ = some (.int .i64 0) := q1
      replace s0 : wr.cell? ⟨b4, off4 + j * 2, none⟩ = some (.int .i64 (-1)) := s0
      replace s1 : wr.cell? ⟨b4, off4 + j * 2 + 1, none⟩ = some (.int .i64 0) := s1
      clear hw vL g5 q6 g8 q9
      have h64I : (j : Int) < 64 := by omega
      go_upto_region 13 with (fail)
      go_cut [129] from 75 to 129 (fun v wx => v = .bool false ∧ Below wr.heap.size wr wx)
      case first =>
        have hdr := (Below.refl wr.heap.size wr).drew
        have HDR := Lib.hid hdr
        replace hab := hab.later hdr
        replace hac := hac.later hdr
        replace p0 := (hdr.cell (p := ⟨b1, _, none⟩) hlb1).trans p0
        replace p1 := (hdr.cell (p := ⟨b1, _, none⟩) hlb1).trans p1
        replace p2 := (hdr.cell (p := ⟨b1, _, none⟩) hlb1).trans p2
        replace p3 := (hdr.cell (p := ⟨b1, _, none⟩) hlb1).trans p3
        replace q0 := (hdr.cell (p := ⟨b2, _, none⟩) hlb2).trans q0
        replace q1 := (hdr.cell (p := ⟨b2, _, none⟩) hlb2).trans q1
        replace r0 := (hdr.cell (p := ⟨b3, _, none⟩) hlb3).trans r0
        replace r1 := (hdr.cell (p := ⟨b3, _, none⟩) hlb3).trans r1
        replace r2 := (hdr.cell (p := ⟨b3, _, none⟩) hlb3).trans r2
        replace r3 := (hdr.cell (p := ⟨b3, _, none⟩) hlb3).trans r3
        replace s0 := (hdr.cell (p := ⟨b4, _, none⟩) hlb4).trans s0
        replace s1 := (hdr.cell (p := ⟨b4, _, none⟩) hlb4).trans s1
        replace y2 := (hdr.cell (p := ⟨w.heap.size, _, none⟩) hls).trans y2
        replace hlb1 : b1 < wr.drew.heap.size := hlb1
        replace hlb2 : b2 < wr.drew.heap.size := hlb2
        replace hlb3 : b3 < wr.drew.heap.size := hlb3
        replace hlb4 : b4 < wr.drew.heap.size := hlb4
        replace hls : w.heap.size < wr.drew.heap.size := hls
        clear hdr
        refine wp_region_held_drew (S := fun W => Below wr.drew.heap.size wr.drew W) (by kernel_rfl) (Below.refl _ _) (fun hS => ?_)
        generalize wr.drew = Wq at *
        show wpAnyH _ _ _ _ _ 55 #[false, false, false, false, false, false, false, false, false, false, false, false, false, false, false, false, false, false, false, false, false, false, false, false, false, false, false, false, false, false, false, false, false, false, false, false, false, false, false, false, false, false, false, false, false, false, false, false, false, false, false, false, false, false, false] _ _
        refine wpAnyH_begin (by kernel_rfl) (fun HNS => ?_)
        refine wpAnyH_takeS HNS (i := 0) (v := .slice (some ⟨b1, off1, none⟩) n k1) rfl (by kernel_rfl) (by kernel_rfl) (fun _ _ _ h => h) (Or.inl ⟨by kernel_rfl, fun W hW => ?_⟩) hS ?_
        · go_simp
        simp only [Act.put, List.getElem_toArray, List.getElem_cons_succ, List.getElem_cons_zero, List.setIfInBounds_toArray, List.set_cons_zero, List.set_cons_succ]
        refine wpAnyH_takeS HNS (i := 1) (v := .int .i64 j) rfl (by kernel_rfl) (by kernel_rfl) (fun _ _ _ h => h) (Or.inl ⟨by kernel_rfl, fun W hW => ?_⟩) hS ?_
        · go_simp
        simp only [Act.put, List.getElem_toArray, List.getElem_cons_succ, List.getElem_cons_zero, List.setIfInBounds_toArray, List.set_cons_zero, List.set_cons_succ]
        refine wpAnyH_takeS HNS (i := 2) (v := .pointer (some ⟨b1, off1 + j * 4, none⟩)) rfl (by kernel_rfl) (by kernel_rfl) (fun _ _ _ h => h) (Or.inl ⟨by kernel_rfl, fun W hW => ?_⟩) hS ?_
        · go_simp
        simp only [Act.put, List.getElem_toArray, List.getElem_cons_succ, List.getElem_cons_zero, List.setIfInBounds_toArray, List.set_cons_zero, List.set_cons_succ]
        refine wpAnyH_takeS HNS (i := 3) (v := .agg (rgc Ab 1 cb 0 0 lr)) rfl (by kernel_rfl) (by kernel_rfl) (fun _ _ _ h => h) (Or.inl ⟨by kernel_rfl, fun W hW => ?_⟩) hS ?_
        · (have z0 := (hW.cell (p := ⟨b1, _, none⟩) hlb1).trans p0; have z1 := (hW.cell (p := ⟨b1, _, none⟩) hlb1).trans p1; have z2 := (hW.cell (p := ⟨b1, _, none⟩) hlb1).trans p2; have z3 := (hW.cell (p := ⟨b1, _, none⟩) hlb1).trans p3; go_simp)
        simp only [Act.put, List.getElem_toArray, List.getElem_cons_succ, List.getElem_cons_zero, List.setIfInBounds_toArray, List.set_cons_zero, List.set_cons_succ]
        refine wpAnyH_ready (rs := [4]) (by kernel_rfl) (by simp) ?_
        refine (AllReadyH.cons rfl (fun K hK => ?_) AllReadyH.nil)
        · rw [if_pos (by kernel_rfl)]
          go_simp
          go_at_call 14
          (with_reducible refine (may1_c m3 m4 Ab cb _).mono ?_)
          rintro _ u1 ⟨rfl, hb1⟩
          replace hS := Below.step hS hb1
          (repeat (first | go_skip | go_guarded | go_step | go_upon))
          refine hK.out _ _ hS (fun _ => ?_)
          clear hK K
          (try simp only [Act.put, List.getElem_toArray, List.getElem_cons_succ, List.getElem_cons_zero, List.setIfInBounds_toArray, List.set_cons_zero, List.set_cons_succ])
          refine wpAnyH_takeS HNS (i := 5) (v := .bool false) rfl (by kernel_rfl) (by kernel_rfl) (fun _ _ _ h => h) (Or.inl ⟨by kernel_rfl, fun W hW => ?_⟩) hS ?_
          · go_simp
          simp only [Act.put, List.getElem_toArray, List.getElem_cons_succ, List.getElem_cons_zero, List.setIfInBounds_toArray, List.set_cons_zero, List.set_cons_succ]
          refine wpAnyH_takeS HNS (i := 6) (v := .bool false) rfl (by kernel_rfl) (by kernel_rfl) (fun _ _ _ h => h) (Or.inl ⟨by kernel_rfl, fun W hW => ?_⟩) hS ?_
          · go_simp
          simp only [Act.put, List.getElem_toArray, List.getElem_cons_succ, List.getElem_cons_zero, List.setIfInBounds_toArray, List.set_cons_zero, List.set_cons_succ]
          refine wpAnyH_takeS HNS (i := 7) (v := .slice (some ⟨b1, off1, none⟩) n k1) rfl (by kernel_rfl) (by kernel_rfl) (fun _ _ _ h => h) (Or.inl ⟨by kernel_rfl, fun W hW => ?_⟩) hS ?_
          · go_simp
          simp only [Act.put, List.getElem_toArray, List.getElem_cons_succ, List.getElem_cons_zero, List.setIfInBounds_toArray, List.set_cons_zero, List.set_cons_succ]
          refine wpAnyH_takeS HNS (i := 8) (v := .int .i64 j) rfl (by kernel_rfl) (by kernel_rfl) (fun _ _ _ h => h) (Or.inl ⟨by kernel_rfl, fun W hW => ?_⟩) hS ?_
          · go_simp
          simp only [Act.put, List.getElem_toArray, List.getElem_cons_succ, List.getElem_cons_zero, List.setIfInBounds_toArray, List.set_cons_zero, List.set_cons_succ]
          refine wpAnyH_takeS HNS (i := 9) (v := .pointer (some ⟨b1, off1 + j * 4, none⟩)) rfl (by kernel_rfl) (by kernel_rfl) (fun _ _ _ h => h) (Or.inl ⟨by kernel_rfl, fun W hW => ?_⟩) hS ?_
          · go_simp
          simp only [Act.put, List.getElem_toArray, List.getElem_cons_succ, List.getElem_cons_zero, List.setIfInBounds_toArray, List.set_cons_zero, List.set_cons_succ]
          refine wpAnyH_takeS HNS (i := 10) (v := .pointer (some ⟨b1, off1 + j * 4 + 2, none⟩)) rfl (by kernel_rfl) (by kernel_rfl) (fun _ _ _ h => h) (Or.inl ⟨by kernel_rfl, fun W hW => ?_⟩) hS ?_
          · go_simp
          simp only [Act.put, List.getElem_toArray, List.getElem_cons_succ, List.getElem_cons_zero, List.setIfInBounds_toArray, List.set_cons_zero, List.set_cons_succ]
          refine wpAnyH_takeS HNS (i := 11) (v := .int .i64 0) rfl (by kernel_rfl) (by kernel_rfl) (fun _ _ _ h => h) (Or.inl ⟨by kernel_rfl, fun W hW => ?_⟩) hS ?_
          · (have z0 := (hW.cell (p := ⟨b1, _, none⟩) hlb1).trans p2; go_simp)
          simp only [Act.put, List.getElem_toArray, List.getElem_cons_succ, List.getElem_cons_zero, List.setIfInBounds_toArray, List.set_cons_zero, List.set_cons_succ]
          refine wpAnyH_takeS HNS (i := 12) (v := .bool false) rfl (by kernel_rfl) (by kernel_rfl) (fun _ _ _ h => h) (Or.inl ⟨by kernel_rfl, fun W hW => ?_⟩) hS ?_
          · go_simp
          simp only [Act.put, List.getElem_toArray, List.getElem_cons_succ, List.getElem_cons_zero, List.setIfInBounds_toArray, List.set_cons_zero, List.set_cons_succ]
          refine wpAnyH_takeS HNS (i := 13) (v := .bool false) rfl (by kernel_rfl) (by kernel_rfl) (fun _ _ _ h => h) (Or.inl ⟨by kernel_rfl, fun W hW => ?_⟩) hS ?_
          · go_simp
          simp only [Act.put, List.getElem_toArray, List.getElem_cons_succ, List.getElem_cons_zero, List.setIfInBounds_toArray, List.set_cons_zero, List.set_cons_succ]
          refine wpAnyH_takeS HNS (i := 14) (v := .bool false) rfl (by kernel_rfl) (by kernel_rfl) (fun _ _ _ h => h) (Or.inl ⟨by kernel_rfl, fun W hW => ?_⟩) hS ?_
          · go_simp
          simp only [Act.put, List.getElem_toArray, List.getElem_cons_succ, List.getElem_cons_zero, List.setIfInBounds_toArray, List.set_cons_zero, List.set_cons_succ]
          refine wpAnyH_takeS HNS (i := 15) (v := .slice (some ⟨b1, off1, none⟩) n k1) rfl (by kernel_rfl) (by kernel_rfl) (fun _ _ _ h => h) (Or.inl ⟨by kernel_rfl, fun W hW => ?_⟩) hS ?_
          · go_simp
          simp only [Act.put, List.getElem_toArray, List.getElem_cons_succ, List.getElem_cons_zero, List.setIfInBounds_toArray, List.set_cons_zero, List.set_cons_succ]
          refine wpAnyH_takeS HNS (i := 16) (v := .int .i64 j) rfl (by kernel_rfl) (by kernel_rfl) (fun _ _ _ h => h) (Or.inl ⟨by kernel_rfl, fun W hW => ?_⟩) hS ?_
          · go_simp
          simp only [Act.put, List.getElem_toArray, List.getElem_cons_succ, List.getElem_cons_zero, List.setIfInBounds_toArray, List.set_cons_zero, List.set_cons_succ]
          refine wpAnyH_takeS HNS (i := 17) (v := .pointer (some ⟨b1, off1 + j * 4, none⟩)) rfl (by kernel_rfl) (by kernel_rfl) (fun _ _ _ h => h) (Or.inl ⟨by kernel_rfl, fun W hW => ?_⟩) hS ?_
          · go_simp
          simp only [Act.put, List.getElem_toArray, List.getElem_cons_succ, List.getElem_cons_zero, List.setIfInBounds_toArray, List.set_cons_zero, List.set_cons_succ]
          refine wpAnyH_takeS HNS (i := 18) (v := .pointer (some ⟨b1, off1 + j * 4 + 3, none⟩)) rfl (by kernel_rfl) (by kernel_rfl) (fun _ _ _ h => h) (Or.inl ⟨by kernel_rfl, fun W hW => ?_⟩) hS ?_
          · go_simp
          simp only [Act.put, List.getElem_toArray, List.getElem_cons_succ, List.getElem_cons_zero, List.setIfInBounds_toArray, List.set_cons_zero, List.set_cons_succ]
          refine wpAnyH_takeS HNS (i := 19) (v := .int .i64 lr) rfl (by kernel_rfl) (by kernel_rfl) (fun _ _ _ h => h) (Or.inl ⟨by kernel_rfl, fun W hW => ?_⟩) hS ?_
          · (have z0 := (hW.cell (p := ⟨b1, _, none⟩) hlb1).trans p3; go_simp)
          simp only [Act.put, List.getElem_toArray, List.getElem_cons_succ, List.getElem_cons_zero, List.setIfInBounds_toArray, List.set_cons_zero, List.set_cons_succ]
          refine wpAnyH_takeS HNS (i := 20) (v := .pointer (some ⟨w.heap.size, 2, none⟩)) rfl (by kernel_rfl) (by kernel_rfl) (fun _ _ _ h => h) (Or.inl ⟨by kernel_rfl, fun W hW => ?_⟩) hS ?_
          · go_simp
          simp only [Act.put, List.getElem_toArray, List.getElem_cons_succ, List.getElem_cons_zero, List.setIfInBounds_toArray, List.set_cons_zero, List.set_cons_succ]
          refine wpAnyH_takeS HNS (i := 21) (v := .int .i64 lr) rfl (by kernel_rfl) (by kernel_rfl) (fun _ _ _ h => h) (Or.inl ⟨by kernel_rfl, fun W hW => ?_⟩) hS ?_
          · (have z0 := (hW.cell (p := ⟨w.heap.size, _, none⟩) hls).trans y2; go_simp)
          simp only [Act.put, List.getElem_toArray, List.getElem_cons_succ, List.getElem_cons_zero, List.setIfInBounds_toArray, List.set_cons_zero, List.set_cons_succ]
          refine wpAnyH_takeS HNS (i := 22) (v := .bool false) rfl (by kernel_rfl) (by kernel_rfl) (fun _ _ _ h => h) (Or.inl ⟨by kernel_rfl, fun W hW => ?_⟩) hS ?_
          · go_simp
          simp only [Act.put, List.getElem_toArray, List.getElem_cons_succ, List.getElem_cons_zero, List.setIfInBounds_toArray, List.set_cons_zero, List.set_cons_succ]
          refine wpAnyH_takeS HNS (i := 23) (v := .bool false) rfl (by kernel_rfl) (by kernel_rfl) (fun _ _ _ h => h) (Or.inl ⟨by kernel_rfl, fun W hW => ?_⟩) hS ?_
          · go_simp
          simp only [Act.put, List.getElem_toArray, List.getElem_cons_succ, List.getElem_cons_zero, List.setIfInBounds_toArray, List.set_cons_zero, List.set_cons_succ]
          refine wpAnyH_takeS HNS (i := 24) (v := .bool false) rfl (by kernel_rfl) (by kernel_rfl) (fun _ _ _ h => h) (Or.inl ⟨by kernel_rfl, fun W hW => ?_⟩) hS ?_
          · go_simp
          simp only [Act.put, List.getElem_toArray, List.getElem_cons_succ, List.getElem_cons_zero, List.setIfInBounds_toArray, List.set_cons_zero, List.set_cons_succ]
          refine wpAnyH_takeS HNS (i := 25) (v := .slice (some ⟨b2, off2, none⟩) n k2) rfl (by kernel_rfl) (by kernel_rfl) (fun _ _ _ h => h) (Or.inl ⟨by kernel_rfl, fun W hW => ?_⟩) hS ?_
          · go_simp
          simp only [Act.put, List.getElem_toArray, List.getElem_cons_succ, List.getElem_cons_zero, List.setIfInBounds_toArray, List.set_cons_zero, List.set_cons_succ]
          refine wpAnyH_takeS HNS (i := 26) (v := .int .i64 j) rfl (by kernel_rfl) (by kernel_rfl) (fun _ _ _ h => h) (Or.inl ⟨by kernel_rfl, fun W hW => ?_⟩) hS ?_
          · go_simp
          simp only [Act.put, List.getElem_toArray, List.getElem_cons_succ, List.getElem_cons_zero, List.setIfInBounds_toArray, List.set_cons_zero, List.set_cons_succ]
          refine wpAnyH_takeS HNS (i := 27) (v := .pointer (some ⟨b2, off2 + j * 2, none⟩)) rfl (by kernel_rfl) (by kernel_rfl) (fun _ _ _ h => h) (Or.inl ⟨by kernel_rfl, fun W hW => ?_⟩) hS ?_
          · go_simp
          simp only [Act.put, List.getElem_toArray, List.getElem_cons_succ, List.getElem_cons_zero, List.setIfInBounds_toArray, List.set_cons_zero, List.set_cons_succ]
          refine wpAnyH_takeS HNS (i := 28) (v := .agg #[.int .i64 (-1), .int .i64 0]) rfl (by kernel_rfl) (by kernel_rfl) (fun _ _ _ h => h) (Or.inl ⟨by kernel_rfl, fun W hW => ?_⟩) hS ?_
          · (have z0 := (hW.cell (p := ⟨b2, _, none⟩) hlb2).trans q0; have z1 := (hW.cell (p := ⟨b2, _, none⟩) hlb2).trans q1; go_simp)
          simp only [Act.put, List.getElem_toArray, List.getElem_cons_succ, List.getElem_cons_zero, List.setIfInBounds_toArray, List.set_cons_zero, List.set_cons_succ]
          refine wpAnyH_ready (rs := [29]) (by kernel_rfl) (by simp) ?_
          refine (AllReadyH.cons rfl (fun K hK => ?_) AllReadyH.nil)
          · rw [if_pos (by kernel_rfl)]
            go_simp
            go_at_call 10
            (with_reducible refine (none_z _).mono ?_)
            rintro _ u2 ⟨rfl, hb2⟩
            replace hS := Below.step hS hb2
            (repeat (first | go_skip | go_guarded | go_step | go_upon))
            refine hK.out _ _ hS (fun _ => ?_)
            clear hK K
            (try simp only [Act.put, List.getElem_toArray, List.getElem_cons_succ, List.getElem_cons_zero, List.setIfInBounds_toArray, List.set_cons_zero, List.set_cons_succ])
            refine wpAnyH_takeS HNS (i := 30) (v := .bool false) rfl (by kernel_rfl) (by kernel_rfl) (fun _ _ _ h => h) (Or.inl ⟨by kernel_rfl, fun W hW => ?_⟩) hS ?_
            · go_simp
            simp only [Act.put, List.getElem_toArray, List.getElem_cons_succ, List.getElem_cons_zero, List.setIfInBounds_toArray, List.set_cons_zero, List.set_cons_succ]
            refine wpAnyH_takeS HNS (i := 31) (v := .bool false) rfl (by kernel_rfl) (by kernel_rfl) (fun _ _ _ h => h) (Or.inl ⟨by kernel_rfl, fun W hW => ?_⟩) hS ?_
            · go_simp
            simp only [Act.put, List.getElem_toArray, List.getElem_cons_succ, List.getElem_cons_zero, List.setIfInBounds_toArray, List.set_cons_zero, List.set_cons_succ]
            refine wpAnyH_takeS HNS (i := 32) (v := .bool false) rfl (by kernel_rfl) (by kernel_rfl) (fun _ _ _ h => h) (Or.inl ⟨by kernel_rfl, fun W hW => ?_⟩) hS ?_
            · go_simp
            simp only [Act.put, List.getElem_toArray, List.getElem_cons_succ, List.getElem_cons_zero, List.setIfInBounds_toArray, List.set_cons_zero, List.set_cons_succ]
            refine wpAnyH_takeS HNS (i := 33) (v := .slice (some ⟨b1, off1, none⟩) n k1) rfl (by kernel_rfl) (by kernel_rfl) (fun _ _ _ h => h) (Or.inl ⟨by kernel_rfl, fun W hW => ?_⟩) hS ?_
            · go_simp
            simp only [Act.put, List.getElem_toArray, List.getElem_cons_succ, List.getElem_cons_zero, List.setIfInBounds_toArray, List.set_cons_zero, List.set_cons_succ]
            refine wpAnyH_takeS HNS (i := 34) (v := .int .i64 j) rfl (by kernel_rfl) (by kernel_rfl) (fun _ _ _ h => h) (Or.inl ⟨by kernel_rfl, fun W hW => ?_⟩) hS ?_
            · go_simp
            simp only [Act.put, List.getElem_toArray, List.getElem_cons_succ, List.getElem_cons_zero, List.setIfInBounds_toArray, List.set_cons_zero, List.set_cons_succ]
            refine wpAnyH_takeS HNS (i := 35) (v := .pointer (some ⟨b1, off1 + j * 4, none⟩)) rfl (by kernel_rfl) (by kernel_rfl) (fun _ _ _ h => h) (Or.inl ⟨by kernel_rfl, fun W hW => ?_⟩) hS ?_
            · go_simp
            simp only [Act.put, List.getElem_toArray, List.getElem_cons_succ, List.getElem_cons_zero, List.setIfInBounds_toArray, List.set_cons_zero, List.set_cons_succ]
            refine wpAnyH_takeS HNS (i := 36) (v := .agg (rgc Ab 1 cb 0 0 lr)) rfl (by kernel_rfl) (by kernel_rfl) (fun _ _ _ h => h) (Or.inl ⟨by kernel_rfl, fun W hW => ?_⟩) hS ?_
            · (have z0 := (hW.cell (p := ⟨b1, _, none⟩) hlb1).trans p0; have z1 := (hW.cell (p := ⟨b1, _, none⟩) hlb1).trans p1; have z2 := (hW.cell (p := ⟨b1, _, none⟩) hlb1).trans p2; have z3 := (hW.cell (p := ⟨b1, _, none⟩) hlb1).trans p3; go_simp)
            simp only [Act.put, List.getElem_toArray, List.getElem_cons_succ, List.getElem_cons_zero, List.setIfInBounds_toArray, List.set_cons_zero, List.set_cons_succ]
            refine wpAnyH_takeS HNS (i := 37) (v := .slice (some ⟨b3, off3, none⟩) 64 k3) rfl (by kernel_rfl) (by kernel_rfl) (fun _ _ _ h => h) (Or.inl ⟨by kernel_rfl, fun W hW => ?_⟩) hS ?_
            · go_simp
            simp only [Act.put, List.getElem_toArray, List.getElem_cons_succ, List.getElem_cons_zero, List.setIfInBounds_toArray, List.set_cons_zero, List.set_cons_succ]
            refine wpAnyH_takeS HNS (i := 38) (v := .int .i64 j) rfl (by kernel_rfl) (by kernel_rfl) (fun _ _ _ h => h) (Or.inl ⟨by kernel_rfl, fun W hW => ?_⟩) hS ?_
            · go_simp
            simp only [Act.put, List.getElem_toArray, List.getElem_cons_succ, List.getElem_cons_zero, List.setIfInBounds_toArray, List.set_cons_zero, List.set_cons_succ]
            refine wpAnyH_takeS HNS (i := 39) (v := .pointer (some ⟨b3, off3 + j * 4, none⟩)) rfl (by kernel_rfl) (by kernel_rfl) (fun _ _ _ h => h) (Or.inl ⟨by kernel_rfl, fun W hW => ?_⟩) hS ?_
            · go_simp
            simp only [Act.put, List.getElem_toArray, List.getElem_cons_succ, List.getElem_cons_zero, List.setIfInBounds_toArray, List.set_cons_zero, List.set_cons_succ]
            refine wpAnyH_takeS HNS (i := 40) (v := .agg (rgc Ac 1 cc 0 0 lr)) rfl (by kernel_rfl) (by kernel_rfl) (fun _ _ _ h => h) (Or.inl ⟨by kernel_rfl, fun W hW => ?_⟩) hS ?_
            · (have z0 := (hW.cell (p := ⟨b3, _, none⟩) hlb3).trans r0; have z1 := (hW.cell (p := ⟨b3, _, none⟩) hlb3).trans r1; have z2 := (hW.cell (p := ⟨b3, _, none⟩) hlb3).trans r2; have z3 := (hW.cell (p := ⟨b3, _, none⟩) hlb3).trans r3; go_simp)
            simp only [Act.put, List.getElem_toArray, List.getElem_cons_succ, List.getElem_cons_zero, List.setIfInBounds_toArray, List.set_cons_zero, List.set_cons_succ]
            refine wpAnyH_ready (rs := [41]) (by kernel_rfl) (by simp) ?_
            refine (AllReadyH.cons rfl (fun K hK => ?_) AllReadyH.nil)
            · rw [if_pos (by kernel_rfl)]
              go_simp
              go_at_call 15
              (with_reducible refine (same1_c lr cb cc _ (hab.later hS) (hac.later hS)).mono ?_)
              rintro _ u3 ⟨rfl, hb3⟩
              replace hS := Below.step hS hb3
              (repeat (first | go_skip | go_guarded | go_step | go_upon))
              refine hK.out _ _ hS (fun _ => ?_)
              clear hK K
              (try simp only [Act.put, List.getElem_toArray, List.getElem_cons_succ, List.getElem_cons_zero, List.setIfInBounds_toArray, List.set_cons_zero, List.set_cons_succ])
              refine wpAnyH_takeS HNS (i := 42) (v := .bool false) rfl (by kernel_rfl) (by kernel_rfl) (fun _ _ _ h => h) (Or.inl ⟨by kernel_rfl, fun W hW => ?_⟩) hS ?_
              · go_simp
              simp only [Act.put, List.getElem_toArray, List.getElem_cons_succ, List.getElem_cons_zero, List.setIfInBounds_toArray, List.set_cons_zero, List.set_cons_succ]
              refine wpAnyH_takeS HNS (i := 43) (v := .bool false) rfl (by kernel_rfl) (by kernel_rfl) (fun _ _ _ h => h) (Or.inl ⟨by kernel_rfl, fun W hW => ?_⟩) hS ?_
              · go_simp
              simp only [Act.put, List.getElem_toArray, List.getElem_cons_succ, List.getElem_cons_zero, List.setIfInBounds_toArray, List.set_cons_zero, List.set_cons_succ]
              refine wpAnyH_takeS HNS (i := 44) (v := .bool false) rfl (by kernel_rfl) (by kernel_rfl) (fun _ _ _ h => h) (Or.inl ⟨by kernel_rfl, fun W hW => ?_⟩) hS ?_
              · go_simp
              simp only [Act.put, List.getElem_toArray, List.getElem_cons_succ, List.getElem_cons_zero, List.setIfInBounds_toArray, List.set_cons_zero, List.set_cons_succ]
              refine wpAnyH_takeS HNS (i := 45) (v := .slice (some ⟨b4, off4, none⟩) 64 k4) rfl (by kernel_rfl) (by kernel_rfl) (fun _ _ _ h => h) (Or.inl ⟨by kernel_rfl, fun W hW => ?_⟩) hS ?_
              · go_simp
              simp only [Act.put, List.getElem_toArray, List.getElem_cons_succ, List.getElem_cons_zero, List.setIfInBounds_toArray, List.set_cons_zero, List.set_cons_succ]
              refine wpAnyH_takeS HNS (i := 46) (v := .int .i64 j) rfl (by kernel_rfl) (by kernel_rfl) (fun _ _ _ h => h) (Or.inl ⟨by kernel_rfl, fun W hW => ?_⟩) hS ?_
              · go_simp
              simp only [Act.put, List.getElem_toArray, List.getElem_cons_succ, List.getElem_cons_zero, List.setIfInBounds_toArray, List.set_cons_zero, List.set_cons_succ]
              refine wpAnyH_takeS HNS (i := 47) (v := .pointer (some ⟨b4, off4 + j * 2, none⟩)) rfl (by kernel_rfl) (by kernel_rfl) (fun _ _ _ h => h) (Or.inl ⟨by kernel_rfl, fun W hW => ?_⟩) hS ?_
              · go_simp
              simp only [Act.put, List.getElem_toArray, List.getElem_cons_succ, List.getElem_cons_zero, List.setIfInBounds_toArray, List.set_cons_zero, List.set_cons_succ]
              refine wpAnyH_takeS HNS (i := 48) (v := .agg #[.int .i64 (-1), .int .i64 0]) rfl (by kernel_rfl) (by kernel_rfl) (fun _ _ _ h => h) (Or.inl ⟨by kernel_rfl, fun W hW => ?_⟩) hS ?_
              · (have z0 := (hW.cell (p := ⟨b4, _, none⟩) hlb4).trans s0; have z1 := (hW.cell (p := ⟨b4, _, none⟩) hlb4).trans s1; go_simp)
              simp only [Act.put, List.getElem_toArray, List.getElem_cons_succ, List.getElem_cons_zero, List.setIfInBounds_toArray, List.set_cons_zero, List.set_cons_succ]
              refine wpAnyH_takeS HNS (i := 49) (v := .slice (some ⟨b2, off2, none⟩) n k2) rfl (by kernel_rfl) (by kernel_rfl) (fun _ _ _ h => h) (Or.inl ⟨by kernel_rfl, fun W hW => ?_⟩) hS ?_
              · go_simp
              simp only [Act.put, List.getElem_toArray, List.getElem_cons_succ, List.getElem_cons_zero, List.setIfInBounds_toArray, List.set_cons_zero, List.set_cons_succ]
              refine wpAnyH_takeS HNS (i := 50) (v := .int .i64 j) rfl (by kernel_rfl) (by kernel_rfl) (fun _ _ _ h => h) (Or.inl ⟨by kernel_rfl, fun W hW => ?_⟩) hS ?_
              · go_simp
              simp only [Act.put, List.getElem_toArray, List.getElem_cons_succ, List.getElem_cons_zero, List.setIfInBounds_toArray, List.set_cons_zero, List.set_cons_succ]
              refine wpAnyH_takeS HNS (i := 51) (v := .pointer (some ⟨b2, off2 + j * 2, none⟩)) rfl (by kernel_rfl) (by kernel_rfl) (fun _ _ _ h => h) (Or.inl ⟨by kernel_rfl, fun W hW => ?_⟩) hS ?_
              · go_simp
              simp only [Act.put, List.getElem_toArray, List.getElem_cons_succ, List.getElem_cons_zero, List.setIfInBounds_toArray, List.set_cons_zero, List.set_cons_succ]
              refine wpAnyH_takeS HNS (i := 52) (v := .agg #[.int .i64 (-1), .int .i64 0]) rfl (by kernel_rfl) (by kernel_rfl) (fun _ _ _ h => h) (Or.inl ⟨by kernel_rfl, fun W hW => ?_⟩) hS ?_
              · (have z0 := (hW.cell (p := ⟨b2, _, none⟩) hlb2).trans q0; have z1 := (hW.cell (p := ⟨b2, _, none⟩) hlb2).trans q1; go_simp)
              simp only [Act.put, List.getElem_toArray, List.getElem_cons_succ, List.getElem_cons_zero, List.setIfInBounds_toArray, List.set_cons_zero, List.set_cons_succ]
              refine wpAnyH_takeS HNS (i := 53) (v := .bool false) rfl (by kernel_rfl) (by kernel_rfl) (fun _ _ _ h => h) (Or.inl ⟨by kernel_rfl, fun W hW => ?_⟩) hS ?_
              · go_simp
              simp only [Act.put, List.getElem_toArray, List.getElem_cons_succ, List.getElem_cons_zero, List.setIfInBounds_toArray, List.set_cons_zero, List.set_cons_succ]
              refine wpAnyH_takeS HNS (i := 54) (v := .bool false) rfl (by kernel_rfl) (by kernel_rfl) (fun _ _ _ h => h) (Or.inl ⟨by kernel_rfl, fun W hW => ?_⟩) hS ?_
              · go_simp
              simp only [Act.put, List.getElem_toArray, List.getElem_cons_succ, List.getElem_cons_zero, List.setIfInBounds_toArray, List.set_cons_zero, List.set_cons_succ]
              refine wpAnyH_done (by kernel_rfl) ?_ _
              (repeat (first | go_skip | go_guarded | go_step | go_upon))
              go_meet
              case rel => exact ⟨rfl, Below.step HDR.out hS⟩
      case rest =>
        obtain ⟨rfl, hwc⟩ := hcut
        have HF := Lib.hid (Below.step HWR.out hwc)
        clear hwc HWR p0 p1 p2 p3 r0 r1 r2 r3 q0 q1 s0 s1 hab hac hlb1 hlb2 hlb3 hlb4 y2 hls
        go_wp2_with fail
        go_roundw
        case rel => exact ⟨j + 1, by go_num, by omega, HF.out⟩
        case measure => simp [intOf]; omega
    · obtain rfl : j = n := by omega
      have hW := Below.step HV.out.2.2.2.2.2.2 hw
      clear HV HWR hw
      go_wp2_with fail
      go_ret
      exact ⟨rfl, hW⟩
end Go.Proofs.YtjibkgildfjjoaaDoor.worldFresh

