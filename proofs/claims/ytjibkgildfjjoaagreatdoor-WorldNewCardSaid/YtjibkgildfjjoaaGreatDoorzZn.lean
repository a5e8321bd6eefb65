/- Layer 13: the argument of a start, in a variable; two more calls as the laws meet them. -/
import Derived.Test.YtjibkgildfjjoaaGreatDoorzZl
import Derived.Deep.DeepCutAuto
import Derived.Deep.CutBlock
import Derived.Test.YtjibkgildfjjoaaGreatDoorzPr1
import Derived.Test.YtjibkgildfjjoaaGreatDoorzYn
import Derived.Test.YtjibkgildfjjoaaGreatDoorzRs
namespace Go.Proofs.YtjibkgildfjjoaaGreatDoor
set_option linter.unusedVariables false
set_option linter.unusedSimpArgs false
open Go.RowKit Go.ChangeShapes Go.WideShapes Go.ChangeAt Go.Sort

abbrev stc (Ap : Option Addr) (np cp : Nat) (A2 : Option Addr) (na c2 : Nat) (s k lf lm lr : Int) : Array Value := #[.slice Ap np cp, .slice A2 na c2, .int .i64 s, .int .i64 k, .int .i64 lf, .int .i64 lm, .int .i64 lr]
/-- A variable that holds a start. -/
structure SV (W : World) (g : Nat) (Ap : Option Addr) (cp : Nat) (A2 : Option Addr) (c2 : Nat) (p : List Fun) (args : List V) (s k lf lm lr : Int) : Prop where
  x : Held W g 28 (stc Ap p.length cp A2 args.length c2 s k lf lm lr)
  p : ProgAt W W.heap.size Ap p
  a : VAt W W.heap.size A2 args
theorem SV.below {W W' : World} {g : Nat} {Ap : Option Addr} {cp : Nat} {A2 : Option Addr} {c2 : Nat} {p : List Fun} {args : List V} {s k lf lm lr : Int} (h : SV W g Ap cp A2 c2 p args s k lf lm lr) (hb : Below W.heap.size W W') : SV W' g Ap cp A2 c2 p args s k lf lm lr := ⟨h.x.below hb, h.p.later hb, h.a.later hb⟩
theorem psmall_c {p : List Fun} {R : Bool} (hR : smallP p 300 = R) (c : Nat) (W : World) {A : Option Addr} (hp : ProgAt W W.heap.size A p) :
    Calls Tryz.prog 5 #[.slice A p.length c, .int .i64 300] W fun e w' => e = .returned (.bool R) ∧ W = w' := by
  subst hR
  exact psmall_any c 300 W hp
theorem rrefsl_c {l k : List V} {R : Bool} (hR : decide (l = k) = R) (h1 : l.length ≤ 100000) (h2 : k.length ≤ 100000) (c c2 : Nat) (W : World) {A A2 : Option Addr} (hp : PAt W W.heap.size A l) (hq : PAt W W.heap.size A2 k) :
    Calls Tryz.prog 12 #[.slice A l.length c, .slice A2 k.length c2] W fun e w' => e = .returned (.bool R) ∧ Below W.heap.size W w' := by
  subst hR
  exact rrefs_any c c2 W hp hq h1 h2
theorem eqG_refl (r : Rng) : eqG r r = true := (eqG_iff r r).2 rfl
theorem rsameg_c {r : Rng} (hl : r.buf.length ≤ 100000) (c c2 : Nat) (W : World) {A A2 : Option Addr} (hp : PAt W W.heap.size A r.buf) (hq : PAt W W.heap.size A2 r.buf) :
    Calls Tryz.prog 13 #[rgv A r.buf.length c r.head r.many r.most, rgv A2 r.buf.length c2 r.head r.many r.most] W fun e w' => e = .returned (.bool true) ∧ Below W.heap.size W w' := by
  have h := rsamer_any (r := r) (q := r) c c2 W hp hq (Nat.le_refl _) hl hl
  rw [show (decide (r.buf = r.buf) && (r.head == r.head) && (r.many == r.many) && (r.most == r.most)) = true from eqG_refl r] at h
  exact h
theorem freshR_lens (k lr : Int) : (freshR k lr).1.length ≤ 64 ∧ (freshR k lr).2.length ≤ 64 ∧ ∀ r ∈ (freshR k lr).1, r.buf.length ≤ 100000 := by
  cases h : mayFr k lr with
  | false => rw [freshR_no h]; simp
  | true =>
    have hk := ((mayFr_iff _ _).1 h).1
    unfold freshR
    rw [if_pos h]
    refine ⟨by simp only [List.length_replicate]; omega, by simp only [List.length_replicate]; omega, fun r hr => ?_⟩
    rw [(List.mem_replicate.1 hr).2]
    simp [rng1]
end Go.Proofs.YtjibkgildfjjoaaGreatDoor

/- WorldTells. -/
namespace Go.Proofs.YtjibkgildfjjoaaGreatDoor.worldTells
set_option linter.unusedVariables false
set_option linter.unusedSimpArgs false
open Go.RowKit Go.ChangeShapes Go.WideShapes Go.ChangeAt Go.Sort Go.Proofs.YtjibkgildfjjoaaGreatDoor

set_option maxHeartbeats 8000000 in
set_option maxRecDepth 100000 in
theorem walk {T : World → Prop} (C : WC T) (CF : ∀ w, T w → Calls Tryz.prog 7 #[] w fun e w' => e = .returned (.bool true) ∧ Below w.heap.size w w') {Ap A2 : Option Addr} {p : List Fun} {args : List V} {a b : WA} {U V9 : Wld} {B : Nat} (cp c2 : Nat) (s k lf lm lr : Int) (w : World) (hT : T w)
    (hp : ProgAt w B Ap p) (hz : SizedP p) (ha : VAt w B A2 args) (hal : args.length ≤ maxLen) (hu : WAt w B a U) (hzu : SzW U) (hv : WAt w B b V9) (hzv : SzW V9) (hB : B ≤ w.heap.size) :
    Calls Tryz.prog 3 #[.agg (stc Ap p.length cp A2 args.length c2 s k lf lm lr), .agg (wcs a U), .agg (wcs b V9)] w fun e w' => e = .returned (.bool true) ∧ Below w.heap.size w w' := by
  have hW : Below w.heap.size w (((w.alloc (.cells (stc Ap p.length cp A2 args.length c2 s k lf lm lr) 28)).alloc (.cells (wcs a U) 43)).alloc (.cells (wcs b V9) 43)) := below3 w _ _ _
  have hBs := Nat.le_trans hB hW.size
  have vs : SV (((w.alloc (.cells (stc Ap p.length cp A2 args.length c2 s k lf lm lr) 28)).alloc (.cells (wcs a U) 43)).alloc (.cells (wcs b V9) 43)) w.heap.size Ap cp A2 c2 p args s k lf lm lr := ⟨((Held.new w 28 (stc Ap p.length cp A2 args.length c2 s k lf lm lr)).alloc (.cells (wcs a U) 43)).alloc (.cells (wcs b V9) 43), (hp.below hW hB).more hBs, (ha.below hW hB).more hBs⟩
  have v4 : WV (((w.alloc (.cells (stc Ap p.length cp A2 args.length c2 s k lf lm lr) 28)).alloc (.cells (wcs a U) 43)).alloc (.cells (wcs b V9) 43)) (w.heap.size + 1) a U := ⟨(Held.new1 w (.cells (stc Ap p.length cp A2 args.length c2 s k lf lm lr) 28) 43 (wcs a U)).alloc (.cells (wcs b V9) 43), (hu.below hW hB).more hBs⟩
  have v5 : WV (((w.alloc (.cells (stc Ap p.length cp A2 args.length c2 s k lf lm lr) 28)).alloc (.cells (wcs a U) 43)).alloc (.cells (wcs b V9) 43)) (w.heap.size + 1 + 1) b V9 := ⟨Held.new2 w (.cells (stc Ap p.length cp A2 args.length c2 s k lf lm lr) 28) (.cells (wcs a U) 43) 43 (wcs b V9), (hv.below hW hB).more hBs⟩
  replace hT := C.kept hT hW
  have HZ := Lib.hid hz
  have HZU := Lib.hid hzu
  have HZV := Lib.hid hzv
  have haI : (args.length : Int) ≤ 9223372036854775807 := by unfold maxLen at hal; omega
  obtain ⟨b1, hb1⟩ : ∃ x, smallP p 300 = x := ⟨_, rfl⟩
  obtain ⟨b2, hb2⟩ : ∃ x, smW U = x := ⟨_, rfl⟩
  obtain ⟨b3, hb3⟩ : ∃ x, smW V9 = x := ⟨_, rfl⟩
  have H1 := Lib.hid hb1
  have H2 := Lib.hid hb2
  have H3 := Lib.hid hb3
  clear hp ha hz hu hv hzu hzv hB hBs hb1 hb2 hb3 hal
  go_enter Tryz.func3, Tryz.ntmps3
  go_upto_region 1 with (fail)
  generalize (((w.alloc (.cells (stc Ap p.length cp A2 args.length c2 s k lf lm lr) 28)).alloc (.cells (wcs a U) 43)).alloc (.cells (wcs b V9) 43)) = W0 at *
  have y0 := vs.x.cell 0
  have y1 := vs.x.cell 1
  simp at y0 y1
  cases b1
  case false =>
    go_wp2_with (first
      | (go_at_call 5; (with_reducible refine (psmall_c H1.out cp _ vs.p).mono ?_); rintro _ us ⟨rfl, rfl⟩)
      | (guard_target = wpList _ _ _ (Oper.mk (some 27) _ _ _ _ _ :: _) _ _; refine wpList_done rfl ?_; refine wpList_load_row rfl 43 _ rfl (w.heap.size + 1) rfl _ _ _ _ v4.x Tryz.underlying43 rfl (by kernel_rfl) ?_)
      | (guard_target = wpList _ _ _ (Oper.mk (some 32) _ _ _ _ _ :: _) _ _; refine wpList_done rfl ?_; refine wpList_load_row rfl 43 _ rfl (w.heap.size + 1 + 1) rfl _ _ _ _ v5.x Tryz.underlying43 rfl (by kernel_rfl) ?_)
      | (go_at_call 6; (with_reducible refine (smallW_c H2.out HZU.out _ v4.p).mono ?_); rintro _ ut ⟨rfl, hbt⟩; replace hT := C.kept hT hbt; replace vs := vs.below hbt; replace v4 := v4.below hbt; replace v5 := v5.below hbt; replace hW := Below.step hW hbt)
      | (go_at_call 6; (with_reducible refine (smallW_c H3.out HZV.out _ v5.p).mono ?_); rintro _ uv ⟨rfl, hbv⟩; replace hT := C.kept hT hbv; replace vs := vs.below hbv; replace v4 := v4.below hbv; replace v5 := v5.below hbv; replace hW := Below.step hW hbv)
      | (go_at_call 7; (with_reducible refine (CF _ hT).mono ?_); rintro _ uf ⟨rfl, hbf⟩; replace hT := C.kept hT hbf; replace vs := vs.below hbf; replace v4 := v4.below hbf; replace v5 := v5.below hbf; replace hW := Below.step hW hbf))
    go_ret
    exact ⟨rfl, hW⟩
  case true =>
  by_cases h40 : args.length ≤ 40
  case neg =>
    have h41 : (40 : Int) < (args.length : Int) := by omega
    clear h40
    go_wp2_with (first
      | (go_at_call 5; (with_reducible refine (psmall_c H1.out cp _ vs.p).mono ?_); rintro _ us ⟨rfl, rfl⟩)
      | (guard_target = wpList _ _ _ (Oper.mk (some 27) _ _ _ _ _ :: _) _ _; refine wpList_done rfl ?_; refine wpList_load_row rfl 43 _ rfl (w.heap.size + 1) rfl _ _ _ _ v4.x Tryz.underlying43 rfl (by kernel_rfl) ?_)
      | (guard_target = wpList _ _ _ (Oper.mk (some 32) _ _ _ _ _ :: _) _ _; refine wpList_done rfl ?_; refine wpList_load_row rfl 43 _ rfl (w.heap.size + 1 + 1) rfl _ _ _ _ v5.x Tryz.underlying43 rfl (by kernel_rfl) ?_)
      | (go_at_call 6; (with_reducible refine (smallW_c H2.out HZU.out _ v4.p).mono ?_); rintro _ ut ⟨rfl, hbt⟩; replace hT := C.kept hT hbt; replace vs := vs.below hbt; replace v4 := v4.below hbt; replace v5 := v5.below hbt; replace hW := Below.step hW hbt)
      | (go_at_call 6; (with_reducible refine (smallW_c H3.out HZV.out _ v5.p).mono ?_); rintro _ uv ⟨rfl, hbv⟩; replace hT := C.kept hT hbv; replace vs := vs.below hbv; replace v4 := v4.below hbv; replace v5 := v5.below hbv; replace hW := Below.step hW hbv)
      | (go_at_call 7; (with_reducible refine (CF _ hT).mono ?_); rintro _ uf ⟨rfl, hbf⟩; replace hT := C.kept hT hbf; replace vs := vs.below hbf; replace v4 := v4.below hbf; replace v5 := v5.below hbf; replace hW := Below.step hW hbf))
    go_ret
    exact ⟨rfl, hW⟩
  case pos =>
  have h41 : decide ((40 : Int) < (args.length : Int)) = false := decide_eq_false (by omega)
  cases b2
  case false =>
    go_wp2_with (first
      | (go_at_call 5; (with_reducible refine (psmall_c H1.out cp _ vs.p).mono ?_); rintro _ us ⟨rfl, rfl⟩)
      | (guard_target = wpList _ _ _ (Oper.mk (some 27) _ _ _ _ _ :: _) _ _; refine wpList_done rfl ?_; refine wpList_load_row rfl 43 _ rfl (w.heap.size + 1) rfl _ _ _ _ v4.x Tryz.underlying43 rfl (by kernel_rfl) ?_)
      | (guard_target = wpList _ _ _ (Oper.mk (some 32) _ _ _ _ _ :: _) _ _; refine wpList_done rfl ?_; refine wpList_load_row rfl 43 _ rfl (w.heap.size + 1 + 1) rfl _ _ _ _ v5.x Tryz.underlying43 rfl (by kernel_rfl) ?_)
      | (go_at_call 6; (with_reducible refine (smallW_c H2.out HZU.out _ v4.p).mono ?_); rintro _ ut ⟨rfl, hbt⟩; replace hT := C.kept hT hbt; replace vs := vs.below hbt; replace v4 := v4.below hbt; replace v5 := v5.below hbt; replace hW := Below.step hW hbt)
      | (go_at_call 6; (with_reducible refine (smallW_c H3.out HZV.out _ v5.p).mono ?_); rintro _ uv ⟨rfl, hbv⟩; replace hT := C.kept hT hbv; replace vs := vs.below hbv; replace v4 := v4.below hbv; replace v5 := v5.below hbv; replace hW := Below.step hW hbv)
      | (go_at_call 7; (with_reducible refine (CF _ hT).mono ?_); rintro _ uf ⟨rfl, hbf⟩; replace hT := C.kept hT hbf; replace vs := vs.below hbf; replace v4 := v4.below hbf; replace v5 := v5.below hbf; replace hW := Below.step hW hbf))
    go_ret
    exact ⟨rfl, hW⟩
  case true =>
  cases b3
  case false =>
    go_wp2_with (first
      | (go_at_call 5; (with_reducible refine (psmall_c H1.out cp _ vs.p).mono ?_); rintro _ us ⟨rfl, rfl⟩)
      | (guard_target = wpList _ _ _ (Oper.mk (some 27) _ _ _ _ _ :: _) _ _; refine wpList_done rfl ?_; refine wpList_load_row rfl 43 _ rfl (w.heap.size + 1) rfl _ _ _ _ v4.x Tryz.underlying43 rfl (by kernel_rfl) ?_)
      | (guard_target = wpList _ _ _ (Oper.mk (some 32) _ _ _ _ _ :: _) _ _; refine wpList_done rfl ?_; refine wpList_load_row rfl 43 _ rfl (w.heap.size + 1 + 1) rfl _ _ _ _ v5.x Tryz.underlying43 rfl (by kernel_rfl) ?_)
      | (go_at_call 6; (with_reducible refine (smallW_c H2.out HZU.out _ v4.p).mono ?_); rintro _ ut ⟨rfl, hbt⟩; replace hT := C.kept hT hbt; replace vs := vs.below hbt; replace v4 := v4.below hbt; replace v5 := v5.below hbt; replace hW := Below.step hW hbt)
      | (go_at_call 6; (with_reducible refine (smallW_c H3.out HZV.out _ v5.p).mono ?_); rintro _ uv ⟨rfl, hbv⟩; replace hT := C.kept hT hbv; replace vs := vs.below hbv; replace v4 := v4.below hbv; replace v5 := v5.below hbv; replace hW := Below.step hW hbv)
      | (go_at_call 7; (with_reducible refine (CF _ hT).mono ?_); rintro _ uf ⟨rfl, hbf⟩; replace hT := C.kept hT hbf; replace vs := vs.below hbf; replace v4 := v4.below hbf; replace v5 := v5.below hbf; replace hW := Below.step hW hbf))
    go_ret
    exact ⟨rfl, hW⟩
  case true =>
  have LU := sm_lenW H2.out HZU.out.prog
  have LV := sm_lenW H3.out HZV.out.prog
  have hz := HZ.out
  have hl9 : args.length ≤ 1000 := by omega
  obtain ⟨N, xn, en⟩ : ∃ S x, newW p args s k lf lm lr = (S, x) := ⟨_, _, rfl⟩
  obtain ⟨RL, CL, ef⟩ : ∃ R S, freshR k lr = (R, S) := ⟨_, _, rfl⟩
  obtain ⟨L, hL⟩ : ∃ l, readyW U = l := ⟨_, rfl⟩
  obtain ⟨sm, hsm⟩ : ∃ x, sameW U V9 = x := ⟨_, rfl⟩
  have LN := newW_len en hz
  have hfl := freshR_lens k lr
  rw [ef] at hfl
  have hLl : L.length ≤ 100000 := by
    rw [← hL]
    have h9 := readyN_le U.rings U.cur U.rings.length
    have h8 := H2.out
    unfold smW at h8
    simp only [Bool.and_eq_true, decide_eq_true_eq] at h8
    have := h8.1.1.1.2
    unfold readyW
    omega
  have EN := Lib.hid en
  have EF := Lib.hid ef
  have HLR := Lib.hid hL
  have HSM := Lib.hid hsm
  simp only at hfl
  have HRL := Lib.hid hfl.1
  have HCL := Lib.hid (show CL.length ≤ 100000 by have := hfl.2.1; omega)
  have HRB := Lib.hid hfl.2.2
  clear en ef hL hsm hfl
  go_upto_region 3 with (first
    | (go_at_call 5; (with_reducible refine (psmall_c H1.out cp _ vs.p).mono ?_); rintro _ us ⟨rfl, rfl⟩)
    | (guard_target = wpList _ _ _ (Oper.mk (some 27) _ _ _ _ _ :: _) _ _; refine wpList_done rfl ?_; refine wpList_load_row rfl 43 _ rfl (w.heap.size + 1) rfl _ _ _ _ v4.x Tryz.underlying43 rfl (by kernel_rfl) ?_)
    | (guard_target = wpList _ _ _ (Oper.mk (some 32) _ _ _ _ _ :: _) _ _; refine wpList_done rfl ?_; refine wpList_load_row rfl 43 _ rfl (w.heap.size + 1 + 1) rfl _ _ _ _ v5.x Tryz.underlying43 rfl (by kernel_rfl) ?_)
    | (go_at_call 6; (with_reducible refine (smallW_c H2.out HZU.out _ v4.p).mono ?_); rintro _ ut ⟨rfl, hbt⟩; replace hT := C.kept hT hbt; replace vs := vs.below hbt; replace v4 := v4.below hbt; replace v5 := v5.below hbt; replace hW := Below.step hW hbt)
    | (go_at_call 6; (with_reducible refine (smallW_c H3.out HZV.out _ v5.p).mono ?_); rintro _ uv ⟨rfl, hbv⟩; replace hT := C.kept hT hbv; replace vs := vs.below hbv; replace v4 := v4.below hbv; replace v5 := v5.below hbv; replace hW := Below.step hW hbv)
    | (go_at_call 7; (with_reducible refine (CF _ hT).mono ?_); rintro _ uf ⟨rfl, hbf⟩; replace hT := C.kept hT hbf; replace vs := vs.below hbf; replace v4 := v4.below hbf; replace v5 := v5.below hbf; replace hW := Below.step hW hbf))
  clear y0 y1 h41
  have y0 := vs.x.cell 0
  have y1 := vs.x.cell 1
  have y2 := vs.x.cell 2
  have y3 := vs.x.cell 3
  have y4 := vs.x.cell 4
  have y5 := vs.x.cell 5
  have y6 := vs.x.cell 6
  simp at y0 y1 y2 y3 y4 y5 y6
  go_upto_region 4 with (first
    | (go_at_call 8; (with_reducible refine (newW_c C EN.out hz hl9 cp c2 _ hT vs.p vs.a).mono ?_); rintro _ u ⟨a7, rfl, ho, hb⟩; have hn := Held.new u 43 wz0)
    | (guard_target = wpList _ _ _ (Oper.mk _ (Op.store 43 (.tmp 7) _) _ _ _ none :: _) _ _; refine wpList_store_row rfl 43 _ _ rfl u.heap.size (wcs a7 N) rfl rfl _ _ hn (by kernel_rfl) rfl (by simp [Value.oneCell']) ?_))
  obtain ⟨v7, hbW⟩ := new_w1 hb ho
  clear hb ho hn
  replace hT := C.kept hT hbW
  replace vs := vs.below hbW
  replace v4 := v4.below hbW
  replace v5 := v5.below hbW
  replace hW := Below.step hW hbW
  clear hbW
  generalize World.setRow _ u.heap.size _ = W3 at *
  generalize u.heap.size = g7 at *
  clear y0 y1 y2 y3 y4 y5 y6
  have y0 := vs.x.cell 0
  have y1 := vs.x.cell 1
  have y2 := vs.x.cell 2
  have y3 := vs.x.cell 3
  have y4 := vs.x.cell 4
  have y5 := vs.x.cell 5
  have y6 := vs.x.cell 6
  simp at y0 y1 y2 y3 y4 y5 y6
  go_upto_region 5 with (first
    | (go_at_call 9; (with_reducible refine (rnewW_c EN.out hz hl9 cp c2 _ vs.p vs.a).mono ?_); rintro _ u ⟨a9, rfl, ho, hb⟩; have hn := Held.new u 43 wz0)
    | (guard_target = wpList _ _ _ (Oper.mk _ (Op.store 43 (.tmp 9) _) _ _ _ none :: _) _ _; refine wpList_store_row rfl 43 _ _ rfl u.heap.size (wcs a9 N) rfl rfl _ _ hn (by kernel_rfl) rfl (by simp [Value.oneCell']) ?_))
  obtain ⟨v9, hbW⟩ := new_w1 hb ho
  clear hb ho hn
  replace hT := C.kept hT hbW
  replace vs := vs.below hbW
  replace v4 := v4.below hbW
  replace v5 := v5.below hbW
  replace v7 := v7.below hbW
  replace hW := Below.step hW hbW
  clear hbW
  generalize World.setRow _ u.heap.size _ = W4 at *
  generalize u.heap.size = g9 at *
  clear y0 y1 y2 y3 y4 y5 y6
  have y0 := vs.x.cell 0
  have y1 := vs.x.cell 1
  have y2 := vs.x.cell 2
  have y3 := vs.x.cell 3
  have y4 := vs.x.cell 4
  have y5 := vs.x.cell 5
  have y6 := vs.x.cell 6
  simp at y0 y1 y2 y3 y4 y5 y6
  go_upto_region 6 with (first
    | (go_at_call 10; (with_reducible refine (freshW_c C EF.out lf lm _ hT).mono ?_); rintro _ W5 ⟨A11, k11, A12, k12, rfl, g11, c12, hb⟩; replace hT := C.kept hT hb; replace vs := vs.below hb; replace v4 := v4.below hb; replace v5 := v5.below hb; replace v7 := v7.below hb; replace v9 := v9.below hb; replace hW := Below.step hW hb))
  clear hb
  clear y0 y1 y2 y3 y4 y5 y6
  have y0 := vs.x.cell 0
  have y1 := vs.x.cell 1
  have y2 := vs.x.cell 2
  have y3 := vs.x.cell 3
  have y4 := vs.x.cell 4
  have y5 := vs.x.cell 5
  have y6 := vs.x.cell 6
  simp at y0 y1 y2 y3 y4 y5 y6
  go_upto_region 7 with (first
    | (go_at_call 11; (with_reducible refine (rfreshW_c EF.out lf lm _).mono ?_); rintro _ W6 ⟨A13, k13, A14, k14, rfl, g13, c14, hb⟩; replace c12 := c12.later hb; replace g11 := g11.later hb; replace hT := C.kept hT hb; replace vs := vs.below hb; replace v4 := v4.below hb; replace v5 := v5.below hb; replace v7 := v7.below hb; replace v9 := v9.below hb; replace hW := Below.step hW hb))
  clear hb
  clear y0 y1 y2 y3 y4 y5 y6
  go_upto_region 9 with (first
    | (go_at_call 12; (with_reducible refine (rrefsl_c (decide_eq_true rfl) HCL.out HCL.out _ _ _ c12 c14).mono ?_); rintro _ u7 ⟨rfl, hb7⟩; replace c14 := c14.later hb7; replace g13 := g13.later hb7; replace c12 := c12.later hb7; replace g11 := g11.later hb7; replace hT := C.kept hT hb7; replace vs := vs.below hb7; replace v4 := v4.below hb7; replace v5 := v5.below hb7; replace v7 := v7.below hb7; replace v9 := v9.below hb7; replace hW := Below.step hW hb7; clear hb7))
  clear c12 c14
  go_upto_region 10 with (fail)
  have HV := Lib.hid (And.intro g11 (And.intro g13 (And.intro v4 (And.intro v5 (And.intro v7 (And.intro v9 (And.intro hT hW)))))))
  clear g11 g13 v4 v5 v7 v9 hT hW vs
  obtain ⟨W17, hW17⟩ : ∃ W, W = u7 := ⟨_, rfl⟩
  rw [← hW17] at HV ⊢
  clear hW17
  go_loopw [15] (fun iv W => ∃ j : Nat, iv = .int .i64 j ∧ j ≤ RL.length ∧ Below W17.heap.size W17 W) (fun iv _ => RL.length - (intOf iv).toNat)
  case atStart => exact ⟨0, rfl, by omega, Below.refl _ _⟩
  case round =>
    obtain ⟨j, rfl, hj, hw⟩ := hrel
    have hj0 : (0 : Int) ≤ j := by omega
    have hnI : (RL.length : Int) ≤ 64 := by have := HRL.out; omega
    by_cases hlt : j < RL.length
    · have hlt2 : (j : Int) < (RL.length : Int) := by omega
      obtain ⟨b1, off1, rfl, hb1, Ab, cb, hab, p0, p1, p2, p3⟩ := (HV.out.1.later hw).rng hlt
      obtain ⟨b2, off2, rfl, hb2, Aq, cq, haq, q0, q1, q2, q3⟩ := (HV.out.2.1.later hw).rng hlt
      have hlb := HRB.out _ (List.getElem_mem hlt)
      obtain ⟨rj, hrj⟩ : ∃ r, RL[j] = r := ⟨_, rfl⟩
      rw [hrj] at p0 p1 p2 p3 q0 q1 q2 q3 hab haq hlb
      have HWR := Lib.hid hw
      clear hw hrj
      go_upto_region 12 with (fail)
      go_cut [107] from 98 to 107 (fun v wx => v = .bool false ∧ Below wr.heap.size wr wx)
      case first =>
        have hdr := (Below.refl wr.heap.size wr).drew
        have HDR := Lib.hid hdr
        replace hab := hab.later hdr
        replace haq := haq.later hdr
        replace p0 := (hdr.cell (p := ⟨b1, _, none⟩) hb1).trans p0
        replace p1 := (hdr.cell (p := ⟨b1, _, none⟩) hb1).trans p1
        replace p2 := (hdr.cell (p := ⟨b1, _, none⟩) hb1).trans p2
        replace p3 := (hdr.cell (p := ⟨b1, _, none⟩) hb1).trans p3
        replace q0 := (hdr.cell (p := ⟨b2, _, none⟩) hb2).trans q0
        replace q1 := (hdr.cell (p := ⟨b2, _, none⟩) hb2).trans q1
        replace q2 := (hdr.cell (p := ⟨b2, _, none⟩) hb2).trans q2
        replace q3 := (hdr.cell (p := ⟨b2, _, none⟩) hb2).trans q3
        replace hb1 : b1 < wr.drew.heap.size := hb1
        replace hb2 : b2 < wr.drew.heap.size := hb2
        clear hdr
        refine wp_region_held_drew (S := fun W => Below wr.drew.heap.size wr.drew W) (by kernel_rfl) (Below.refl _ _) (fun hS => ?_)
        generalize wr.drew = Wq at *
        show wpAnyH _ _ _ _ _ 10 #[false, false, false, false, false, false, false, false, false, false] _ _
        refine wpAnyH_begin (by kernel_rfl) (fun HNS => ?_)
        refine wpAnyH_takeS HNS (i := 0) (v := .slice (some ⟨b1, off1, none⟩) RL.length k11) rfl (by kernel_rfl) (by kernel_rfl) (fun _ _ _ h => h) (Or.inl ⟨by kernel_rfl, fun W hW => ?_⟩) hS ?_
        · go_simp
        simp only [Act.put, List.getElem_toArray, List.getElem_cons_succ, List.getElem_cons_zero, List.setIfInBounds_toArray, List.set_cons_zero, List.set_cons_succ]
        refine wpAnyH_takeS HNS (i := 1) (v := .int .i64 j) rfl (by kernel_rfl) (by kernel_rfl) (fun _ _ _ h => h) (Or.inl ⟨by kernel_rfl, fun W hW => ?_⟩) hS ?_
        · go_simp
        simp only [Act.put, List.getElem_toArray, List.getElem_cons_succ, List.getElem_cons_zero, List.setIfInBounds_toArray, List.set_cons_zero, List.set_cons_succ]
        refine wpAnyH_takeS HNS (i := 2) (v := .pointer (some ⟨b1, off1 + j * 4, none⟩)) rfl (by kernel_rfl) (by kernel_rfl) (fun _ _ _ h => h) (Or.inl ⟨by kernel_rfl, fun W hW => ?_⟩) hS ?_
        · go_simp
        simp only [Act.put, List.getElem_toArray, List.getElem_cons_succ, List.getElem_cons_zero, List.setIfInBounds_toArray, List.set_cons_zero, List.set_cons_succ]
        refine wpAnyH_takeS HNS (i := 3) (v := .agg (rgc Ab rj.buf.length cb rj.head rj.many rj.most)) rfl (by kernel_rfl) (by kernel_rfl) (fun _ _ _ h => h) (Or.inl ⟨by kernel_rfl, fun W hW => ?_⟩) hS ?_
        · (have z0 := (hW.cell (p := ⟨b1, _, none⟩) hb1).trans p0; have z1 := (hW.cell (p := ⟨b1, _, none⟩) hb1).trans p1; have z2 := (hW.cell (p := ⟨b1, _, none⟩) hb1).trans p2; have z3 := (hW.cell (p := ⟨b1, _, none⟩) hb1).trans p3; go_simp)
        simp only [Act.put, List.getElem_toArray, List.getElem_cons_succ, List.getElem_cons_zero, List.setIfInBounds_toArray, List.set_cons_zero, List.set_cons_succ]
        refine wpAnyH_takeS HNS (i := 4) (v := .slice (some ⟨b2, off2, none⟩) RL.length k13) rfl (by kernel_rfl) (by kernel_rfl) (fun _ _ _ h => h) (Or.inl ⟨by kernel_rfl, fun W hW => ?_⟩) hS ?_
        · go_simp
        simp only [Act.put, List.getElem_toArray, List.getElem_cons_succ, List.getElem_cons_zero, List.setIfInBounds_toArray, List.set_cons_zero, List.set_cons_succ]
        refine wpAnyH_takeS HNS (i := 5) (v := .int .i64 j) rfl (by kernel_rfl) (by kernel_rfl) (fun _ _ _ h => h) (Or.inl ⟨by kernel_rfl, fun W hW => ?_⟩) hS ?_
        · go_simp
        simp only [Act.put, List.getElem_toArray, List.getElem_cons_succ, List.getElem_cons_zero, List.setIfInBounds_toArray, List.set_cons_zero, List.set_cons_succ]
        refine wpAnyH_takeS HNS (i := 6) (v := .pointer (some ⟨b2, off2 + j * 4, none⟩)) rfl (by kernel_rfl) (by kernel_rfl) (fun _ _ _ h => h) (Or.inl ⟨by kernel_rfl, fun W hW => ?_⟩) hS ?_
        · go_simp
        simp only [Act.put, List.getElem_toArray, List.getElem_cons_succ, List.getElem_cons_zero, List.setIfInBounds_toArray, List.set_cons_zero, List.set_cons_succ]
        refine wpAnyH_takeS HNS (i := 7) (v := .agg (rgc Aq rj.buf.length cq rj.head rj.many rj.most)) rfl (by kernel_rfl) (by kernel_rfl) (fun _ _ _ h => h) (Or.inl ⟨by kernel_rfl, fun W hW => ?_⟩) hS ?_
        · (have z0 := (hW.cell (p := ⟨b2, _, none⟩) hb2).trans q0; have z1 := (hW.cell (p := ⟨b2, _, none⟩) hb2).trans q1; have z2 := (hW.cell (p := ⟨b2, _, none⟩) hb2).trans q2; have z3 := (hW.cell (p := ⟨b2, _, none⟩) hb2).trans q3; go_simp)
        simp only [Act.put, List.getElem_toArray, List.getElem_cons_succ, List.getElem_cons_zero, List.setIfInBounds_toArray, List.set_cons_zero, List.set_cons_succ]
        refine wpAnyH_ready (rs := [8]) (by kernel_rfl) (by simp) ?_
        refine (AllReadyH.cons rfl (fun K hK => ?_) AllReadyH.nil)
        · rw [if_pos (by kernel_rfl)]
          go_simp
          go_at_call 13
          (with_reducible refine (rsameg_c hlb cb cq _ (hab.later hS) (haq.later hS)).mono ?_)
          rintro _ u1 ⟨rfl, hb1⟩
          replace hS := Below.step hS hb1
          (repeat (first | go_skip | go_guarded | go_step | go_upon))
          refine hK.out _ _ hS (fun _ => ?_)
          clear hK K
          (try simp only [Act.put, List.getElem_toArray, List.getElem_cons_succ, List.getElem_cons_zero, List.setIfInBounds_toArray, List.set_cons_zero, List.set_cons_succ])
          refine wpAnyH_takeS HNS (i := 9) (v := .bool false) rfl (by kernel_rfl) (by kernel_rfl) (fun _ _ _ h => h) (Or.inl ⟨by kernel_rfl, fun W hW => ?_⟩) hS ?_
          · go_simp
          simp only [Act.put, List.getElem_toArray, List.getElem_cons_succ, List.getElem_cons_zero, List.setIfInBounds_toArray, List.set_cons_zero, List.set_cons_succ]
          refine wpAnyH_done (by kernel_rfl) ?_ _
          (repeat (first | go_skip | go_guarded | go_step | go_upon))
          go_meet
          case rel => exact ⟨rfl, Below.step HDR.out hS⟩
      case rest =>
        obtain ⟨rfl, hwc⟩ := hcut
        have HF := Lib.hid (Below.step HWR.out hwc)
        clear hwc HWR p0 p1 p2 p3 q0 q1 q2 q3 hab haq hlb hb1 hb2
        go_wp2_with fail
        go_roundw
        case rel => exact ⟨j + 1, by go_num, by omega, HF.out⟩
        case measure => simp [intOf]; omega
    · obtain rfl : j = RL.length := by omega
      obtain ⟨-, -, v4, v5, v7, v9, hT, hW⟩ := HV.out
      replace v4 := v4.below hw
      replace v5 := v5.below hw
      replace v7 := v7.below hw
      replace v9 := v9.below hw
      replace hT := C.kept hT hw
      replace hW := Below.step hW hw
      clear hw hlt HV
      go_upto_region 14 with (fail)
      have LU9 : Hid (U.rings.length ≤ 70 ∧ U.cur.length ≤ 70) := Lib.hid (by
        have h8 := H2.out
        unfold smW at h8
        simp only [Bool.and_eq_true, decide_eq_true_eq] at h8
        exact ⟨h8.1.1.1.2, h8.1.1.2⟩)
      have hdr := (Below.refl wr.heap.size wr).drew
      have HDR := Lib.hid hdr
      have HTQ := Lib.hid (C.kept hT hdr)
      replace v4 := v4.below hdr
      replace v5 := v5.below hdr
      replace v7 := v7.below hdr
      replace v9 := v9.below hdr
      clear hdr
      refine wp_region_held_drew (S := fun W => Below wr.drew.heap.size wr.drew W) (by kernel_rfl) (Below.refl _ _) (fun hS => ?_)
      generalize wr.drew = Wz at *
      show wpAnyH _ _ _ _ _ 33 #[false, false, false, false, false, false, false, false, false, false, false, false, false, false, false, false, false, false, false, false, false, false, false, false, false, false, false, false, false, false, false, false, false] _ _
      refine wpAnyH_begin (by kernel_rfl) (fun HNS => ?_)
      refine wpAnyH_ready (rs := [0]) (by kernel_rfl) (by simp) ?_
      refine (AllReadyH.cons rfl (fun K hK => ?_) AllReadyH.nil)
      · rw [if_pos (by kernel_rfl)]
        go_simp
        go_at_call 7
        (with_reducible refine (CF _ (C.kept HTQ.out hS)).mono ?_)
        rintro _ u2 ⟨rfl, hb2⟩
        replace hS := Below.step hS hb2
        (repeat (first | go_skip | go_guarded | go_step | go_upon))
        refine hK.out _ _ hS (fun _ => ?_)
        clear hK K
        (try simp only [Act.put, List.getElem_toArray, List.getElem_cons_succ, List.getElem_cons_zero, List.setIfInBounds_toArray, List.set_cons_zero, List.set_cons_succ])
        refine wpAnyH_takeS HNS (i := 1) (v := .bool true) rfl (by kernel_rfl) (by kernel_rfl) (fun _ _ _ h => h) (Or.inl ⟨by kernel_rfl, fun W hW => ?_⟩) hS ?_
        · go_simp
        simp only [Act.put, List.getElem_toArray, List.getElem_cons_succ, List.getElem_cons_zero, List.setIfInBounds_toArray, List.set_cons_zero, List.set_cons_succ]
        refine wpAnyH_takeS HNS (i := 2) (v := .agg (wcs a7 N)) rfl (by kernel_rfl) (by kernel_rfl) (fun _ _ _ h => h) (yieldsIf_load_midA (by kernel_rfl) 43 _ rfl g7 0 (by rfl) (wcs a7 N) _ (fun W hW => rng_held (Held.below v7.x hW)) Tryz.underlying43 rfl (by kernel_rfl)) hS ?_
        simp only [Act.put, List.getElem_toArray, List.getElem_cons_succ, List.getElem_cons_zero, List.setIfInBounds_toArray, List.set_cons_zero, List.set_cons_succ]
        refine wpAnyH_takeS HNS (i := 3) (v := .agg (wcs a9 N)) rfl (by kernel_rfl) (by kernel_rfl) (fun _ _ _ h => h) (yieldsIf_load_midA (by kernel_rfl) 43 _ rfl g9 0 (by rfl) (wcs a9 N) _ (fun W hW => rng_held (Held.below v9.x hW)) Tryz.underlying43 rfl (by kernel_rfl)) hS ?_
        simp only [Act.put, List.getElem_toArray, List.getElem_cons_succ, List.getElem_cons_zero, List.setIfInBounds_toArray, List.set_cons_zero, List.set_cons_succ]
        refine wpAnyH_ready (rs := [4]) (by kernel_rfl) (by simp) ?_
        refine (AllReadyH.cons rfl (fun K hK => ?_) AllReadyH.nil)
        · rw [if_pos (by kernel_rfl)]
          go_simp
          go_at_call 14
          (with_reducible refine (rsameW_c (sameW_refl N) LN LN _ (v7.below hS).p (v9.below hS).p).mono ?_)
          rintro _ u3 ⟨rfl, hb3⟩
          replace hS := Below.step hS hb3
          (repeat (first | go_skip | go_guarded | go_step | go_upon))
          refine hK.out _ _ hS (fun _ => ?_)
          clear hK K
          (try simp only [Act.put, List.getElem_toArray, List.getElem_cons_succ, List.getElem_cons_zero, List.setIfInBounds_toArray, List.set_cons_zero, List.set_cons_succ])
          refine wpAnyH_takeS HNS (i := 5) (v := .bool true) rfl (by kernel_rfl) (by kernel_rfl) (fun _ _ _ h => h) (Or.inl ⟨by kernel_rfl, fun W hW => ?_⟩) hS ?_
          · go_simp
          simp only [Act.put, List.getElem_toArray, List.getElem_cons_succ, List.getElem_cons_zero, List.setIfInBounds_toArray, List.set_cons_zero, List.set_cons_succ]
          refine wpAnyH_takeS HNS (i := 6) (v := .bool true) rfl (by kernel_rfl) (by kernel_rfl) (fun _ _ _ h => h) (Or.inl ⟨by kernel_rfl, fun W hW => ?_⟩) hS ?_
          · go_simp
          simp only [Act.put, List.getElem_toArray, List.getElem_cons_succ, List.getElem_cons_zero, List.setIfInBounds_toArray, List.set_cons_zero, List.set_cons_succ]
          refine wpAnyH_takeS HNS (i := 7) (v := .int .i64 xn) rfl (by kernel_rfl) (by kernel_rfl) (fun _ _ _ h => h) (Or.inl ⟨by kernel_rfl, fun W hW => ?_⟩) hS ?_
          · go_simp
          simp only [Act.put, List.getElem_toArray, List.getElem_cons_succ, List.getElem_cons_zero, List.setIfInBounds_toArray, List.set_cons_zero, List.set_cons_succ]
          refine wpAnyH_takeS HNS (i := 8) (v := .int .i64 xn) rfl (by kernel_rfl) (by kernel_rfl) (fun _ _ _ h => h) (Or.inl ⟨by kernel_rfl, fun W hW => ?_⟩) hS ?_
          · go_simp
          simp only [Act.put, List.getElem_toArray, List.getElem_cons_succ, List.getElem_cons_zero, List.setIfInBounds_toArray, List.set_cons_zero, List.set_cons_succ]
          refine wpAnyH_takeS HNS (i := 9) (v := .bool true) rfl (by kernel_rfl) (by kernel_rfl) (fun _ _ _ h => h) (Or.inl ⟨by kernel_rfl, fun W hW => ?_⟩) hS ?_
          · go_simp
          simp only [Act.put, List.getElem_toArray, List.getElem_cons_succ, List.getElem_cons_zero, List.setIfInBounds_toArray, List.set_cons_zero, List.set_cons_succ]
          refine wpAnyH_takeS HNS (i := 10) (v := .bool true) rfl (by kernel_rfl) (by kernel_rfl) (fun _ _ _ h => h) (Or.inl ⟨by kernel_rfl, fun W hW => ?_⟩) hS ?_
          · go_simp
          simp only [Act.put, List.getElem_toArray, List.getElem_cons_succ, List.getElem_cons_zero, List.setIfInBounds_toArray, List.set_cons_zero, List.set_cons_succ]
          refine wpAnyH_takeS HNS (i := 11) (v := .bool true) rfl (by kernel_rfl) (by kernel_rfl) (fun _ _ _ h => h) (Or.inl ⟨by kernel_rfl, fun W hW => ?_⟩) hS ?_
          · go_simp
          simp only [Act.put, List.getElem_toArray, List.getElem_cons_succ, List.getElem_cons_zero, List.setIfInBounds_toArray, List.set_cons_zero, List.set_cons_succ]
          refine wpAnyH_takeS HNS (i := 12) (v := .agg (wcs a U)) rfl (by kernel_rfl) (by kernel_rfl) (fun _ _ _ h => h) (yieldsIf_load_midA (by kernel_rfl) 43 _ rfl (w.heap.size + 1) 0 (by rfl) (wcs a U) _ (fun W hW => rng_held (Held.below v4.x hW)) Tryz.underlying43 rfl (by kernel_rfl)) hS ?_
          simp only [Act.put, List.getElem_toArray, List.getElem_cons_succ, List.getElem_cons_zero, List.setIfInBounds_toArray, List.set_cons_zero, List.set_cons_succ]
          refine wpAnyH_takeS HNS (i := 14) (v := .agg (wcs a U)) rfl (by kernel_rfl) (by kernel_rfl) (fun _ _ _ h => h) (yieldsIf_load_midA (by kernel_rfl) 43 _ rfl (w.heap.size + 1) 0 (by rfl) (wcs a U) _ (fun W hW => rng_held (Held.below v4.x hW)) Tryz.underlying43 rfl (by kernel_rfl)) hS ?_
          simp only [Act.put, List.getElem_toArray, List.getElem_cons_succ, List.getElem_cons_zero, List.setIfInBounds_toArray, List.set_cons_zero, List.set_cons_succ]
          refine wpAnyH_ready (rs := [13]) (by kernel_rfl) (by simp) ?_
          refine (AllReadyH.cons rfl (fun K hK => ?_) AllReadyH.nil)
          · rw [if_pos (by kernel_rfl)]
            go_simp
            go_at_call 15
            (with_reducible refine (readyW_c C HLR.out LU _ (C.kept HTQ.out hS) (v4.below hS).p).mono ?_)
            rintro _ u4 ⟨Aq1, cq1, rfl, wr1, hb4⟩
            replace hS := Below.step hS hb4
            (repeat (first | go_skip | go_guarded | go_step | go_upon))
            refine hK.out _ _ hS (fun _ => ?_)
            clear hK K
            (try simp only [Act.put, List.getElem_toArray, List.getElem_cons_succ, List.getElem_cons_zero, List.setIfInBounds_toArray, List.set_cons_zero, List.set_cons_succ])
            refine wpAnyH_ready (rs := [15]) (by kernel_rfl) (by simp) ?_
            refine (AllReadyH.cons rfl (fun K hK => ?_) AllReadyH.nil)
            · rw [if_pos (by kernel_rfl)]
              go_simp
              go_at_call 16
              (with_reducible refine (rreadyW_c HLR.out (by have := LU9.out.1; omega) (by have := LU9.out.2; omega) _ (v4.below hS).p).mono ?_)
              rintro _ u5 ⟨Aq2, cq2, rfl, wr2, hb5⟩
              replace wr1 := PAt.later wr1 hb5
              replace hS := Below.step hS hb5
              (repeat (first | go_skip | go_guarded | go_step | go_upon))
              refine hK.out _ _ hS (fun _ => ?_)
              clear hK K
              (try simp only [Act.put, List.getElem_toArray, List.getElem_cons_succ, List.getElem_cons_zero, List.setIfInBounds_toArray, List.set_cons_zero, List.set_cons_succ])
              refine wpAnyH_ready (rs := [16]) (by kernel_rfl) (by simp) ?_
              refine (AllReadyH.cons rfl (fun K hK => ?_) AllReadyH.nil)
              · rw [if_pos (by kernel_rfl)]
                go_simp
                go_at_call 12
                (with_reducible refine (rrefsl_c (decide_eq_true rfl) hLl hLl _ _ _ wr1 wr2).mono ?_)
                rintro _ u6 ⟨rfl, hb6⟩
                replace wr1 := PAt.later wr1 hb6
                replace wr2 := PAt.later wr2 hb6
                clear wr1
                clear wr2
                replace hS := Below.step hS hb6
                (repeat (first | go_skip | go_guarded | go_step | go_upon))
                refine hK.out _ _ hS (fun _ => ?_)
                clear hK K
                (try simp only [Act.put, List.getElem_toArray, List.getElem_cons_succ, List.getElem_cons_zero, List.setIfInBounds_toArray, List.set_cons_zero, List.set_cons_succ])
                refine wpAnyH_takeS HNS (i := 17) (v := .bool true) rfl (by kernel_rfl) (by kernel_rfl) (fun _ _ _ h => h) (Or.inl ⟨by kernel_rfl, fun W hW => ?_⟩) hS ?_
                · go_simp
                simp only [Act.put, List.getElem_toArray, List.getElem_cons_succ, List.getElem_cons_zero, List.setIfInBounds_toArray, List.set_cons_zero, List.set_cons_succ]
                refine wpAnyH_takeS HNS (i := 18) (v := .bool true) rfl (by kernel_rfl) (by kernel_rfl) (fun _ _ _ h => h) (Or.inl ⟨by kernel_rfl, fun W hW => ?_⟩) hS ?_
                · go_simp
                simp only [Act.put, List.getElem_toArray, List.getElem_cons_succ, List.getElem_cons_zero, List.setIfInBounds_toArray, List.set_cons_zero, List.set_cons_succ]
                refine wpAnyH_takeS HNS (i := 19) (v := .agg (wcs a U)) rfl (by kernel_rfl) (by kernel_rfl) (fun _ _ _ h => h) (yieldsIf_load_midA (by kernel_rfl) 43 _ rfl (w.heap.size + 1) 0 (by rfl) (wcs a U) _ (fun W hW => rng_held (Held.below v4.x hW)) Tryz.underlying43 rfl (by kernel_rfl)) hS ?_
                simp only [Act.put, List.getElem_toArray, List.getElem_cons_succ, List.getElem_cons_zero, List.setIfInBounds_toArray, List.set_cons_zero, List.set_cons_succ]
                refine wpAnyH_takeS HNS (i := 20) (v := .agg (wcs b V9)) rfl (by kernel_rfl) (by kernel_rfl) (fun _ _ _ h => h) (yieldsIf_load_midA (by kernel_rfl) 43 _ rfl (w.heap.size + 1 + 1) 0 (by rfl) (wcs b V9) _ (fun W hW => rng_held (Held.below v5.x hW)) Tryz.underlying43 rfl (by kernel_rfl)) hS ?_
                simp only [Act.put, List.getElem_toArray, List.getElem_cons_succ, List.getElem_cons_zero, List.setIfInBounds_toArray, List.set_cons_zero, List.set_cons_succ]
                refine wpAnyH_takeS HNS (i := 22) (v := .agg (wcs a U)) rfl (by kernel_rfl) (by kernel_rfl) (fun _ _ _ h => h) (yieldsIf_load_midA (by kernel_rfl) 43 _ rfl (w.heap.size + 1) 0 (by rfl) (wcs a U) _ (fun W hW => rng_held (Held.below v4.x hW)) Tryz.underlying43 rfl (by kernel_rfl)) hS ?_
                simp only [Act.put, List.getElem_toArray, List.getElem_cons_succ, List.getElem_cons_zero, List.setIfInBounds_toArray, List.set_cons_zero, List.set_cons_succ]
                refine wpAnyH_takeS HNS (i := 23) (v := .agg (wcs b V9)) rfl (by kernel_rfl) (by kernel_rfl) (fun _ _ _ h => h) (yieldsIf_load_midA (by kernel_rfl) 43 _ rfl (w.heap.size + 1 + 1) 0 (by rfl) (wcs b V9) _ (fun W hW => rng_held (Held.below v5.x hW)) Tryz.underlying43 rfl (by kernel_rfl)) hS ?_
                simp only [Act.put, List.getElem_toArray, List.getElem_cons_succ, List.getElem_cons_zero, List.setIfInBounds_toArray, List.set_cons_zero, List.set_cons_succ]
                refine wpAnyH_ready (rs := [21]) (by kernel_rfl) (by simp) ?_
                refine (AllReadyH.cons rfl (fun K hK => ?_) AllReadyH.nil)
                · rw [if_pos (by kernel_rfl)]
                  go_simp
                  go_at_call 17
                  (with_reducible refine (sameW_c C HSM.out LU LV _ (C.kept HTQ.out hS) (v4.below hS).p (v5.below hS).p).mono ?_)
                  rintro _ u7 ⟨rfl, hb7⟩
                  replace hS := Below.step hS hb7
                  (repeat (first | go_skip | go_guarded | go_step | go_upon))
                  refine hK.out _ _ hS (fun _ => ?_)
                  clear hK K
                  (try simp only [Act.put, List.getElem_toArray, List.getElem_cons_succ, List.getElem_cons_zero, List.setIfInBounds_toArray, List.set_cons_zero, List.set_cons_succ])
                  refine wpAnyH_ready (rs := [24]) (by kernel_rfl) (by simp) ?_
                  refine (AllReadyH.cons rfl (fun K hK => ?_) AllReadyH.nil)
                  · rw [if_pos (by kernel_rfl)]
                    go_simp
                    go_at_call 14
                    (with_reducible refine (rsameW_c HSM.out LU LV _ (v4.below hS).p (v5.below hS).p).mono ?_)
                    rintro _ u8 ⟨rfl, hb8⟩
                    replace hS := Below.step hS hb8
                    (repeat (first | go_skip | go_guarded | go_step | go_upon))
                    refine hK.out _ _ hS (fun _ => ?_)
                    clear hK K
                    (try simp only [Act.put, List.getElem_toArray, List.getElem_cons_succ, List.getElem_cons_zero, List.setIfInBounds_toArray, List.set_cons_zero, List.set_cons_succ])
                    refine wpAnyH_takeS HNS (i := 25) (v := .bool true) rfl (by kernel_rfl) (by kernel_rfl) (fun _ _ _ h => h) (Or.inl ⟨by kernel_rfl, fun W hW => ?_⟩) hS ?_
                    · go_simp
                    simp only [Act.put, List.getElem_toArray, List.getElem_cons_succ, List.getElem_cons_zero, List.setIfInBounds_toArray, List.set_cons_zero, List.set_cons_succ]
                    refine wpAnyH_takeS HNS (i := 26) (v := .bool true) rfl (by kernel_rfl) (by kernel_rfl) (fun _ _ _ h => h) (Or.inl ⟨by kernel_rfl, fun W hW => ?_⟩) hS ?_
                    · go_simp
                    simp only [Act.put, List.getElem_toArray, List.getElem_cons_succ, List.getElem_cons_zero, List.setIfInBounds_toArray, List.set_cons_zero, List.set_cons_succ]
                    refine wpAnyH_takeS HNS (i := 27) (v := .bool true) rfl (by kernel_rfl) (by kernel_rfl) (fun _ _ _ h => h) (Or.inl ⟨by kernel_rfl, fun W hW => ?_⟩) hS ?_
                    · go_simp
                    simp only [Act.put, List.getElem_toArray, List.getElem_cons_succ, List.getElem_cons_zero, List.setIfInBounds_toArray, List.set_cons_zero, List.set_cons_succ]
                    refine wpAnyH_takeS HNS (i := 28) (v := .agg (wcs a U)) rfl (by kernel_rfl) (by kernel_rfl) (fun _ _ _ h => h) (yieldsIf_load_midA (by kernel_rfl) 43 _ rfl (w.heap.size + 1) 0 (by rfl) (wcs a U) _ (fun W hW => rng_held (Held.below v4.x hW)) Tryz.underlying43 rfl (by kernel_rfl)) hS ?_
                    simp only [Act.put, List.getElem_toArray, List.getElem_cons_succ, List.getElem_cons_zero, List.setIfInBounds_toArray, List.set_cons_zero, List.set_cons_succ]
                    refine wpAnyH_takeS HNS (i := 29) (v := .agg (wcs a U)) rfl (by kernel_rfl) (by kernel_rfl) (fun _ _ _ h => h) (yieldsIf_load_midA (by kernel_rfl) 43 _ rfl (w.heap.size + 1) 0 (by rfl) (wcs a U) _ (fun W hW => rng_held (Held.below v4.x hW)) Tryz.underlying43 rfl (by kernel_rfl)) hS ?_
                    simp only [Act.put, List.getElem_toArray, List.getElem_cons_succ, List.getElem_cons_zero, List.setIfInBounds_toArray, List.set_cons_zero, List.set_cons_succ]
                    refine wpAnyH_ready (rs := [30]) (by kernel_rfl) (by simp) ?_
                    refine (AllReadyH.cons rfl (fun K hK => ?_) AllReadyH.nil)
                    · rw [if_pos (by kernel_rfl)]
                      go_simp
                      go_at_call 17
                      (with_reducible refine (sameW_c C (sameW_refl U) LU LU _ (C.kept HTQ.out hS) (v4.below hS).p (v4.below hS).p).mono ?_)
                      rintro _ u9 ⟨rfl, hb9⟩
                      replace hS := Below.step hS hb9
                      (repeat (first | go_skip | go_guarded | go_step | go_upon))
                      refine hK.out _ _ hS (fun _ => ?_)
                      clear hK K
                      (try simp only [Act.put, List.getElem_toArray, List.getElem_cons_succ, List.getElem_cons_zero, List.setIfInBounds_toArray, List.set_cons_zero, List.set_cons_succ])
                      refine wpAnyH_takeS HNS (i := 31) (v := .bool true) rfl (by kernel_rfl) (by kernel_rfl) (fun _ _ _ h => h) (Or.inl ⟨by kernel_rfl, fun W hW => ?_⟩) hS ?_
                      · go_simp
                      simp only [Act.put, List.getElem_toArray, List.getElem_cons_succ, List.getElem_cons_zero, List.setIfInBounds_toArray, List.set_cons_zero, List.set_cons_succ]
                      refine wpAnyH_takeS HNS (i := 32) (v := .bool true) rfl (by kernel_rfl) (by kernel_rfl) (fun _ _ _ h => h) (Or.inl ⟨by kernel_rfl, fun W hW => ?_⟩) hS ?_
                      · go_simp
                      simp only [Act.put, List.getElem_toArray, List.getElem_cons_succ, List.getElem_cons_zero, List.setIfInBounds_toArray, List.set_cons_zero, List.set_cons_succ]
                      refine wpAnyH_done (by kernel_rfl) ?_ _
                      (repeat (first | go_skip | go_guarded | go_step | go_upon))
                      go_ret
                      exact ⟨rfl, Below.step hW (Below.step HDR.out hS)⟩
end Go.Proofs.YtjibkgildfjjoaaGreatDoor.worldTells

/- Layer 13: arguments that are worlds, starts, opened. -/
namespace Go.Proofs.YtjibkgildfjjoaaGreatDoor
set_option linter.unusedVariables false
set_option linter.unusedSimpArgs false
open Go.RowKit Go.ChangeShapes Go.WideShapes Go.ChangeAt Go.Deep Go.Joins

set_option maxRecDepth 100000 in
theorem ciPg : Tryz.prog.cellsOf 23 = 1 := by kernel_rfl
set_option maxRecDepth 100000 in
theorem ciLm : Tryz.prog.cellsOf 26 = 3 := by kernel_rfl
set_option maxRecDepth 100000 in
theorem ciGs : Tryz.prog.cellsOf 33 = 1 := by kernel_rfl
set_option maxRecDepth 100000 in
theorem ciEr : Tryz.prog.cellsOf 41 = 1 := by kernel_rfl
set_option maxRecDepth 100000 in
theorem ciWd : Tryz.prog.cellsOf 43 = 19 := by kernel_rfl
set_option maxRecDepth 100000 in
theorem ciSt : Tryz.prog.cellsOf 28 = 7 := by kernel_rfl
set_option maxRecDepth 100000 in
theorem open_eno {H : Type} {enc : TypeId × Value → H} {W : World} {base : Nat} {sp : Nat → Bool} {hd : Bool} {fuel : Nat} {c : Value} {y : DataW H × List MemPlace} (g : DataW.trod enc Tryz.prog W base sp hd fuel 41 [c] = some y) : ∃ n : Int, c = .int .i64 n := by
  obtain ⟨n0, e0, _, _⟩ := DataW.trod_int Tryz.underlying41 g
  simp at e0
  exact ⟨n0, e0⟩
set_option maxRecDepth 100000 in
theorem open_lim3 {H : Type} {enc : TypeId × Value → H} {W : World} {base : Nat} {sp : Nat → Bool} {hd : Bool} {fuel : Nat} {a b c : Value} {y : DataW H × List MemPlace} (g : DataW.trod enc Tryz.prog W base sp hd fuel 26 [a, b, c] = some y) : ∃ t n m : Int, a = .int .i64 t ∧ b = .int .i64 n ∧ c = .int .i64 m := by
  obtain ⟨y0, y1, y2, k, _, _, g0, g1, g2⟩ := trod_struct3 Tryz.underlying26 g
  simp [ci1] at g0 g1 g2
  obtain ⟨t, rfl⟩ := open_i g0
  obtain ⟨n, rfl⟩ := open_i g1
  obtain ⟨m, rfl⟩ := open_i g2
  exact ⟨t, n, m, rfl, rfl, rfl⟩
set_option maxRecDepth 100000 in
theorem open_cprog {H : Type} {enc : TypeId × Value → H} {W : World} {base : Nat} {sp : Nat → Bool} {hd : Bool} {fuel : Nat} {cs : List Value} {x : DataW H × List MemPlace} (hf : DataW.trod enc Tryz.prog W base sp hd fuel 23 cs = some x) :
    ∃ A c ps, cs = [.slice A (List.length ps) c] ∧ ProgAt W W.heap.size A ps ∧ SizedP ps := by
  rcases open_slice Tryz.underlying23 hf with ⟨rfl, _⟩ | ⟨a, len, cap, m, n, D, Pl, rfl, _, hl, hm, hmm, rfl, hx⟩
  · exact ⟨none, 0, [], rfl, ProgAt.nil _ _ _, by simp, by intro x hx; simp at hx⟩
  · have hlm : len ≤ m := by rw [hmm]; split <;> omega
    have ce : Tryz.prog.cellsOf 73 = 4 := by kernel_rfl
    have each : ∀ i, i < len → ∃ f : Fun, (W.cell? (a.add (i * 4)) = some (.int .i64 f.ar) ∧ W.cell? (a.add (i * 4 + 1)) = some (.int .i64 f.lo) ∧ W.cell? (a.add (i * 4 + 2)) = some (.int .i64 f.sl) ∧
        ∃ B c, W.cell? (a.add (i * 4 + 3)) = some (.slice B f.code.length c) ∧ CodeAt W W.heap.size B f.code) ∧ f.code.length ≤ maxLen := by
      intro i hi
      obtain ⟨cs', h1, h2⟩ := hx i (by omega)
      rw [ce] at h1
      obtain ⟨_, hlen, hcell⟩ := World.cells?_some h1
      obtain ⟨y0, y1, y2, y3, k, _, _, g0, g1, g2, g3⟩ := trod_struct4 Tryz.underlying73 h2
      match cs', hlen with
      | [v0, v1, v2, v3], _ =>
        have ci : Tryz.prog.cellsOf 3 = 1 := by kernel_rfl
        have cc : Tryz.prog.cellsOf 71 = 1 := by kernel_rfl
        simp [ci, cc] at g0 g1 g2 g3
        obtain ⟨n0, e0, _, _⟩ := DataW.trod_int Tryz.underlying3 g0
        obtain ⟨n1, e1, _, _⟩ := DataW.trod_int Tryz.underlying3 g1
        obtain ⟨n2, e2, _, _⟩ := DataW.trod_int Tryz.underlying3 g2
        obtain ⟨B, c, l, e3, hc, hz⟩ := open_code g3
        simp at e0 e1 e2 e3
        subst e0 e1 e2 e3
        have c0 := hcell 0 (by omega)
        have c1 := hcell 1 (by omega)
        have c2 := hcell 2 (by omega)
        have c3 := hcell 3 (by omega)
        rw [add_add] at c0 c1 c2 c3
        exact ⟨⟨n0, n1, n2, l⟩, ⟨by simpa using c0, by simpa using c1, by simpa using c2, B, c, by simpa using c3, hc⟩, hz⟩
    obtain ⟨q, hq⟩ := choose_lt each
    refine ⟨some a, cap, (List.range len).map q, by simp, fun h0 => ?_, by simp; omega, fun f hf => ?_⟩
    · have hlen : 0 < len := by simpa using h0
      obtain ⟨b, off, spot⟩ := a
      have hspot : spot = none := by simpa [Addr.add] using World.cell?_spot (hq 0 hlen).1.1
      subst hspot
      refine ⟨b, off, rfl, block_lt_of_cell (a := Addr.add ⟨b, off, none⟩ (0 * 4)) (hq 0 hlen).1.1, fun j hj => ?_⟩
      have hj' : j < len := by simpa using hj
      obtain ⟨⟨c0, c1, c2, B, c, c3, hc⟩, _⟩ := hq j hj'
      rw [addr_add] at c0 c1 c2 c3
      simp only [List.getElem_map, List.getElem_range]
      exact ⟨c0, c1, c2, B, c, c3, hc⟩
    · obtain ⟨i, hi, rfl⟩ := List.mem_map.1 hf
      exact (hq i (by simpa using hi)).2
set_option maxRecDepth 100000 in
theorem open_cpen {H : Type} {enc : TypeId × Value → H} {W : World} {base : Nat} {sp : Nat → Bool} {hd : Bool} {fuel : Nat} {a b c : Value} {y : DataW H × List MemPlace} (hf : DataW.trod enc Tryz.prog W base sp hd fuel 32 [a, b, c] = some y) :
    ∃ A c0 A2 c2 P, a = .slice A (Zp.cells P).length c0 ∧ b = .slice A2 P.free.length c2 ∧ c = .int .i64 P.most ∧ PAtZ W W.heap.size A A2 P ∧ P.cells.length ≤ maxLen ∧ P.free.length ≤ maxLen := by
  obtain ⟨y0, y1, y2, k, _, _, g0, g1, g2⟩ := trod_struct3 Tryz.underlying32 hf
  simp [ci1, ciCs, ciIs] at g0 g1 g2
  obtain ⟨A, c0, l0, q0, h0, m0⟩ := open_cels g0
  simp at q0
  subst q0
  obtain ⟨A2, c2, l2, q2, h2, m2⟩ := open_ints g1
  simp at q2
  subst q2
  obtain ⟨n, rfl⟩ := open_i g2
  exact ⟨A, c0, A2, c2, ⟨l0, l2, n⟩, rfl, rfl, rfl, ⟨h0, h2⟩, m0, m2⟩
set_option maxRecDepth 100000 in
theorem open_cring {H : Type} {enc : TypeId × Value → H} {W : World} {base : Nat} {sp : Nat → Bool} {hd : Bool} {fuel : Nat} {cs : List Value} {y : DataW H × List MemPlace} (hsz : cs.length = 4) (hf : DataW.trod enc Tryz.prog W base sp hd fuel 54 cs = some y) :
    ∃ A c r, cs = (rgc A (Rng.buf r).length c r.head r.many r.most).toList ∧ PAt W W.heap.size A r.buf := by
  match cs, hsz with
  | [c0, c1, c2, c3], _ =>
    obtain ⟨y0, y1, y2, y3, k, _, _, g0, g1, g2, g3⟩ := trod_struct4 Tryz.underlying54 hf
    simp [ci1r, ciRs] at g0 g1 g2 g3
    obtain ⟨A, c, l, h0, hP, _⟩ := open_refs g0
    obtain ⟨h', rfl⟩ := open_ir g1
    obtain ⟨m', rfl⟩ := open_ir g2
    obtain ⟨t', rfl⟩ := open_ir g3
    simp only [List.cons.injEq, and_true] at h0
    subst h0
    exact ⟨A, c, ⟨l, h', m', t'⟩, rfl, hP⟩
instance : Inhabited Rng := ⟨⟨[], 0, 0, 0⟩⟩
set_option maxRecDepth 100000 in
theorem open_rings {H : Type} {enc : TypeId × Value → H} {W : World} {base : Nat} {sp : Nat → Bool} {hd : Bool} {fuel : Nat} {cs : List Value} {x : DataW H × List MemPlace} (h : DataW.trod enc Tryz.prog W base sp hd fuel 33 cs = some x) : ∃ A c l, cs = [.slice A (List.length l) c] ∧ GAt W W.heap.size A l ∧ l.length ≤ maxLen := by
  rcases open_slice Tryz.underlying33 h with ⟨rfl, _⟩ | ⟨a, len, cap, m, n, D, Pl, rfl, _, hl, hm, hmm, rfl, hx⟩
  · exact ⟨none, 0, [], rfl, GAt.nil _ _ _, by simp⟩
  · have hlm : len ≤ m := by rw [hmm]; split <;> omega
    have each : ∀ i, i < len → ∃ q : Rng × Option Addr × Nat, PAt W W.heap.size q.2.1 q.1.buf ∧ ∀ k u, (rgc q.2.1 q.1.buf.length q.2.2 q.1.head q.1.many q.1.most).toList[k]? = some u → W.cell? (a.add (i * 4 + k)) = some u := by
      intro i hi
      obtain ⟨cs', h1, h2⟩ := hx i (by omega)
      rw [ciG] at h1
      obtain ⟨_, hlen, hcell⟩ := World.cells?_some h1
      obtain ⟨A, c, r, s4, s3⟩ := open_cring hlen h2
      refine ⟨(r, A, c), s3, fun k u hk => ?_⟩
      rw [← s4] at hk
      have hkl := (List.getElem?_eq_some_iff.1 hk).1
      have c0 := hcell k (by omega)
      rw [add_add] at c0
      rw [c0]
      exact hk
    obtain ⟨q, hq⟩ := choose_lt each
    refine ⟨some a, cap, (List.range len).map fun i => (q i).1, by simp, fun h0 => ?_, by simp; omega⟩
    have hlen : 0 < len := by simpa using h0
    obtain ⟨b, off, spot⟩ := a
    have h00 := (hq 0 hlen).2 0 _ rfl
    have hspot : spot = none := by simpa [Addr.add] using World.cell?_spot h00
    subst hspot
    have hlt := block_lt_of_cell (a := Addr.add ⟨b, off, none⟩ (0 * 4 + 0)) h00
    have hbl : b < W.heap.size := by rw [p_add] at hlt; exact hlt
    have row : ∃ xs : List Value, xs.length = len * 4 ∧ W.rangeAt b off xs ∧ ∀ i, i < len → ∀ k, k < 4 → xs[i * 4 + k]? = (rgc (q i).2.1 (q i).1.buf.length (q i).2.2 (q i).1.head (q i).1.many (q i).1.most).toList[k]? := by
      refine ⟨(List.range (len * 4)).map fun t => ((rgc (q (t / 4)).2.1 (q (t / 4)).1.buf.length (q (t / 4)).2.2 (q (t / 4)).1.head (q (t / 4)).1.many (q (t / 4)).1.most).toList[t % 4]?).getD (.bool false), by simp, fun t u ht => ?_, fun i hi k hk => ?_⟩
      · have htl := (List.getElem?_eq_some_iff.1 ht).1
        simp at htl
        rw [List.getElem?_map, List.getElem?_range htl] at ht
        simp only [Option.map_some, Option.some.injEq] at ht
        have hi : t / 4 < len := by omega
        have hk : t % 4 < (rgc (q (t / 4)).2.1 (q (t / 4)).1.buf.length (q (t / 4)).2.2 (q (t / 4)).1.head (q (t / 4)).1.many (q (t / 4)).1.most).toList.length := by simp; omega
        have h9 := (hq _ hi).2 (t % 4) _ (List.getElem?_eq_getElem hk)
        rw [List.getElem?_eq_getElem hk, Option.getD_some] at ht
        rw [ht, p_add, show off + (t / 4 * 4 + t % 4) = off + t by omega] at h9
        exact h9
      · rw [List.getElem?_map, List.getElem?_range (by omega)]
        simp only [Option.map_some]
        have e1 : (i * 4 + k) / 4 = i := by omega
        have e2 : (i * 4 + k) % 4 = k := by omega
        rw [e1, e2]
        have hk2 : k < (rgc (q i).2.1 (q i).1.buf.length (q i).2.2 (q i).1.head (q i).1.many (q i).1.most).toList.length := by simp; omega
        rw [List.getElem?_eq_getElem hk2, Option.getD_some]
    obtain ⟨xs, r1, r2, r3⟩ := row
    refine ⟨b, off, xs, rfl, hbl, r2, by simpa using r1, fun j hj => ?_⟩
    have hj' : j < len := by simpa using hj
    simp only [List.getElem_map, List.getElem_range]
    exact ⟨(q j).2.1, (q j).2.2, (hq j hj').1, fun i hi => r3 j hj' i hi⟩
set_option maxRecDepth 100000 in
theorem list19 {α : Type} {cs : List α} (h : cs.length = 19) : ∃ c0 c1 c2 c3 c4 c5 c6 c7 c8 c9 c10 c11 c12 c13 c14 c15 c16 c17 c18, cs = [c0, c1, c2, c3, c4, c5, c6, c7, c8, c9, c10, c11, c12, c13, c14, c15, c16, c17, c18] := by
  match cs, h with
  | [c0, c1, c2, c3, c4, c5, c6, c7, c8, c9, c10, c11, c12, c13, c14, c15, c16, c17, c18], _ => exact ⟨c0, c1, c2, c3, c4, c5, c6, c7, c8, c9, c10, c11, c12, c13, c14, c15, c16, c17, c18, rfl⟩
set_option maxHeartbeats 4000000 in
set_option maxRecDepth 100000 in
/-- A world's cells, opened. -/
theorem open_wcells {H : Type} {enc : TypeId × Value → H} {W : World} {base : Nat} {sp : Nat → Bool} {hd : Bool} {fuel : Nat} {cs : List Value} {y : DataW H × List MemPlace} (hsz : cs.length = 19)
    (hf : DataW.trod enc Tryz.prog W base sp hd fuel 43 cs = some y) : ∃ a U, cs = (wcs a U).toList ∧ WAt W W.heap.size a U ∧ SzW U := by
  obtain ⟨c0, c1, c2, c3, c4, c5, c6, c7, c8, c9, c10, c11, c12, c13, c14, c15, c16, c17, c18, rfl⟩ := list19 hsz
  obtain ⟨xs, n, _, _, hl, hlen, hg⟩ := DataW.trod_struct Tryz.underlying43 hf
  have hx : ∀ i, i < 12 → ∃ y, xs[i]? = some y := fun i hi => ⟨xs[i]'(by rw [hlen]; exact hi), List.getElem?_eq_getElem _⟩
  clear hf hl hsz
  obtain ⟨y0, e0⟩ := hx 0 (by omega)
  have g0 := (hg 0 _ rfl).trans e0
  simp [ci1, ci2, ci3, ciPg, ciLm, ciGs, ciEr, ciP, ciRs, ciVs, ciCs] at g0
  obtain ⟨y1, e1⟩ := hx 1 (by omega)
  have g1 := (hg 1 _ rfl).trans e1
  simp [ci1, ci2, ci3, ciPg, ciLm, ciGs, ciEr, ciP, ciRs, ciVs, ciCs] at g1
  obtain ⟨y2, e2⟩ := hx 2 (by omega)
  have g2 := (hg 2 _ rfl).trans e2
  simp [ci1, ci2, ci3, ciPg, ciLm, ciGs, ciEr, ciP, ciRs, ciVs, ciCs] at g2
  obtain ⟨y3, e3⟩ := hx 3 (by omega)
  have g3 := (hg 3 _ rfl).trans e3
  simp [ci1, ci2, ci3, ciPg, ciLm, ciGs, ciEr, ciP, ciRs, ciVs, ciCs] at g3
  obtain ⟨y4, e4⟩ := hx 4 (by omega)
  have g4 := (hg 4 _ rfl).trans e4
  simp [ci1, ci2, ci3, ciPg, ciLm, ciGs, ciEr, ciP, ciRs, ciVs, ciCs] at g4
  obtain ⟨y5, e5⟩ := hx 5 (by omega)
  have g5 := (hg 5 _ rfl).trans e5
  simp [ci1, ci2, ci3, ciPg, ciLm, ciGs, ciEr, ciP, ciRs, ciVs, ciCs] at g5
  obtain ⟨y6, e6⟩ := hx 6 (by omega)
  have g6 := (hg 6 _ rfl).trans e6
  simp [ci1, ci2, ci3, ciPg, ciLm, ciGs, ciEr, ciP, ciRs, ciVs, ciCs] at g6
  obtain ⟨y7, e7⟩ := hx 7 (by omega)
  have g7 := (hg 7 _ rfl).trans e7
  simp [ci1, ci2, ci3, ciPg, ciLm, ciGs, ciEr, ciP, ciRs, ciVs, ciCs] at g7
  obtain ⟨y8, e8⟩ := hx 8 (by omega)
  have g8 := (hg 8 _ rfl).trans e8
  simp [ci1, ci2, ci3, ciPg, ciLm, ciGs, ciEr, ciP, ciRs, ciVs, ciCs] at g8
  obtain ⟨y9, e9⟩ := hx 9 (by omega)
  have g9 := (hg 9 _ rfl).trans e9
  simp [ci1, ci2, ci3, ciPg, ciLm, ciGs, ciEr, ciP, ciRs, ciVs, ciCs] at g9
  obtain ⟨y10, e10⟩ := hx 10 (by omega)
  have g10 := (hg 10 _ rfl).trans e10
  simp [ci1, ci2, ci3, ciPg, ciLm, ciGs, ciEr, ciP, ciRs, ciVs, ciCs] at g10
  obtain ⟨y11, e11⟩ := hx 11 (by omega)
  have g11 := (hg 11 _ rfl).trans e11
  simp [ci1, ci2, ci3, ciPg, ciLm, ciGs, ciEr, ciP, ciRs, ciVs, ciCs] at g11
  obtain ⟨A0, k0, l0, q0, h0, z0⟩ := open_cprog g0
  simp at q0
  subst q0
  obtain ⟨lf, lm, lr, rfl, rfl, rfl⟩ := open_lim3 g1
  obtain ⟨A2, k2, A3, k3, P, rfl, rfl, rfl, h2, z2, z3⟩ := open_cpen g2
  obtain ⟨A4, k4, l4, q4, h4, z4⟩ := open_rings g3
  simp at q4
  subst q4
  obtain ⟨A5, k5, l5, q5, h5, z5, _⟩ := open_refs g4
  simp at q5
  subst q5
  obtain ⟨r1, r2, rfl, rfl⟩ := open_ref2 g5
  obtain ⟨n6, rfl⟩ := open_i g6
  obtain ⟨n7, rfl⟩ := open_i g7
  obtain ⟨t1, t2, t3, rfl, rfl, rfl⟩ := open_out3 g8
  obtain ⟨n9, rfl⟩ := open_eno g9
  obtain ⟨n10, rfl⟩ := open_i g10
  obtain ⟨n11, rfl⟩ := open_i g11
  exact ⟨⟨A0, k0, A2, k2, A3, k3, A4, k4, A5, k5⟩, { prog := l0, lf := lf, lm := lm, lr := lr, pen := P, rings := l4, cur := l5, root := (r1, r2), used := n6, st := n7, otr := t1, ore := t2, oim := t3, err := n9, stl := n10, mis := n11 }, rfl, ⟨h0, h2, h4, h5⟩, ⟨z0, z2, z3, z4, z5⟩⟩
set_option maxRecDepth 100000 in
/-- A world, opened. -/
theorem open_world {H : Type} {enc : TypeId × Value → H} {W : World} {base : Nat} {v : Value} {d : DataW H} {p : List MemPlace}
    (k : Value.okWide Tryz.prog W .any base 43 v) (h : DataW.Trod enc Tryz.prog W 0 (fun _ => true) true 43 v d p) : ∃ a U, v = .agg (wcs a U) ∧ WAt W W.heap.size a U ∧ SzW U := by
  obtain ⟨cs, rfl, hsz⟩ := okWide_struct Tryz.underlying43 k
  obtain ⟨fuel, hf⟩ := h
  obtain ⟨a, U, h1, h2, h3⟩ := open_wcells (cs := cs.toList) (by rw [Array.length_toList]; exact hsz.trans ciWd) hf
  exact ⟨a, U, congrArg Value.agg (Array.toList_inj.1 h1), h2, h3⟩
set_option maxRecDepth 100000 in
/-- A start, opened. -/
theorem open_start {H : Type} {enc : TypeId × Value → H} {W : World} {base : Nat} {v : Value} {d : DataW H} {p : List MemPlace}
    (k : Value.okWide Tryz.prog W .any base 28 v) (h : DataW.Trod enc Tryz.prog W 0 (fun _ => true) true 28 v d p) :
    ∃ Ap ps cp A2 args c2 s k lf lm lr, v = .agg (stc Ap (List.length ps) cp A2 (List.length args) c2 s k lf lm lr) ∧ ProgAt W W.heap.size Ap ps ∧ SizedP ps ∧ VAt W W.heap.size A2 args ∧ args.length ≤ maxLen := by
  obtain ⟨cs, rfl, hsz⟩ := okWide_struct Tryz.underlying28 k
  obtain ⟨fuel, hf⟩ := h
  obtain ⟨l⟩ := cs
  match l, hsz.trans ciSt with
  | [c0, c1, c2, c3, c4, c5, c6], _ =>
    obtain ⟨xs, n, _, _, hl, hlen, hg⟩ := DataW.trod_struct Tryz.underlying28 hf
    have hx : ∀ i, i < 5 → ∃ y, xs[i]? = some y := fun i hi => ⟨xs[i]'(by rw [hlen]; exact hi), List.getElem?_eq_getElem _⟩
    simp only [Value.cells] at hg
    obtain ⟨y0, e0⟩ := hx 0 (by omega)
    have g0 := (hg 0 _ rfl).trans e0
    simp [ci1, ci2, ci3, ciPg, ciLm, ciGs, ciEr, ciP, ciRs, ciVs, ciCs] at g0
    obtain ⟨y1, e1⟩ := hx 1 (by omega)
    have g1 := (hg 1 _ rfl).trans e1
    simp [ci1, ci2, ci3, ciPg, ciLm, ciGs, ciEr, ciP, ciRs, ciVs, ciCs] at g1
    obtain ⟨y2, e2⟩ := hx 2 (by omega)
    have g2 := (hg 2 _ rfl).trans e2
    simp [ci1, ci2, ci3, ciPg, ciLm, ciGs, ciEr, ciP, ciRs, ciVs, ciCs] at g2
    obtain ⟨y3, e3⟩ := hx 3 (by omega)
    have g3 := (hg 3 _ rfl).trans e3
    simp [ci1, ci2, ci3, ciPg, ciLm, ciGs, ciEr, ciP, ciRs, ciVs, ciCs] at g3
    obtain ⟨y4, e4⟩ := hx 4 (by omega)
    have g4 := (hg 4 _ rfl).trans e4
    simp [ci1, ci2, ci3, ciPg, ciLm, ciGs, ciEr, ciP, ciRs, ciVs, ciCs] at g4
    obtain ⟨A0, k0, l0, q0, h0, z0⟩ := open_cprog g0
    simp at q0
    subst q0
    obtain ⟨A1, k1, l1, q1, h1, z1⟩ := open_vals g1
    simp at q1
    subst q1
    obtain ⟨s, rfl⟩ := open_i g2
    obtain ⟨w, rfl⟩ := open_i g3
    obtain ⟨lf, lm, lr, rfl, rfl, rfl⟩ := open_lim3 g4
    exact ⟨A0, l0, k0, A1, l1, k1, s, w, lf, lm, lr, rfl, h0, z0, h1, z1⟩
end Go.Proofs.YtjibkgildfjjoaaGreatDoor

