/- WorldNew. -/
import Derived.Test.YtjibkgildfjjoaaGreatDoorzZo
import Derived.Deep.DeepCutAuto
import Derived.Deep.CutBlock
namespace Go.Proofs.YtjibkgildfjjoaaGreatDoor.worldNew
set_option linter.unusedVariables false
set_option linter.unusedSimpArgs false
open Go.RowKit Go.ChangeShapes Go.WideShapes Go.ChangeAt Go.Sort Go.Proofs.YtjibkgildfjjoaaGreatDoor

theorem rnewf_c {p : List Fun} {args : List V} {s : Int} {F : Frm} {u : Bool} (hR : newF p 0 args s = (F, u)) (hz : SizedP p) (hl : args.length ≤ 1000) (c c2 : Nat) (W : World) {A A2 : Option Addr} (hp : ProgAt W W.heap.size A p) (ha : VAt W W.heap.size A2 args) :
    Calls Tryz.prog 18 #[.slice A p.length c, .int .i64 0, .slice A2 args.length c2, .int .i64 s] W fun e w' => ∃ ds : Array Value, e = .returned (.tuple #[.agg ds, .bool u]) ∧ ds.size = 16 ∧ ds.all (·.oneCell') = true ∧ FrmAt w' w'.heap.size (.agg ds) F ∧ Below W.heap.size W w' := by
  have h := rnewf_z c c2 0 s W hp hz (Nat.le_refl _) ha hl (Nat.le_refl _)
  rw [hR] at h
  exact h.mono fun _ _ ⟨ds, a, b, c, d, e⟩ => ⟨ds, a, b, c, d.at, e⟩
theorem rgood_c {p : List Fun} {g : Bool} (hR : ((checkP p).2.2 == 0) = g) (hz : SizedP p) (c : Nat) (W : World) {A : Option Addr} (hp : ProgAt W W.heap.size A p) :
    Calls Tryz.prog 19 #[.slice A p.length c] W fun e w' => e = .returned (.bool g) ∧ Below W.heap.size W w' := by
  subst hR
  exact rgood_any c W hp hz (Nat.le_refl _)
set_option maxHeartbeats 8000000 in
set_option maxRecDepth 100000 in
theorem walk {T : World → Prop} (C : WC T) (CF : ∀ w, T w → Calls Tryz.prog 7 #[] w fun e w' => e = .returned (.bool true) ∧ Below w.heap.size w w') {Ap A2 : Option Addr} {p : List Fun} {args : List V} {B : Nat} (cp c2 : Nat) (s k lf lm lr : Int) (w : World) (hT : T w)
    (hp : ProgAt w B Ap p) (hz : SizedP p) (ha : VAt w B A2 args) (hal : args.length ≤ maxLen) (hB : B ≤ w.heap.size) :
    Calls Tryz.prog 4 #[.agg (stc Ap p.length cp A2 args.length c2 s k lf lm lr)] w fun e w' => e = .returned (.bool true) ∧ Below w.heap.size w w' := by
  have hW : Below w.heap.size w (w.alloc (.cells (stc Ap p.length cp A2 args.length c2 s k lf lm lr) 28)) := (Below.refl _ _).alloc (Nat.le_refl _) _
  have hBs := Nat.le_trans hB hW.size
  have vs : SV (w.alloc (.cells (stc Ap p.length cp A2 args.length c2 s k lf lm lr) 28)) w.heap.size Ap cp A2 c2 p args s k lf lm lr := ⟨Held.new w 28 (stc Ap p.length cp A2 args.length c2 s k lf lm lr), (hp.below hW hB).more hBs, (ha.below hW hB).more hBs⟩
  replace hT := C.kept hT hW
  have HZ := Lib.hid hz
  have haI : (args.length : Int) ≤ 9223372036854775807 := by unfold maxLen at hal; omega
  obtain ⟨b1, hlb1⟩ : ∃ x, smallP p 300 = x := ⟨_, rfl⟩
  have H1 := Lib.hid hlb1
  clear hp ha hz hB hBs hlb1 hal
  go_enter Tryz.func4, Tryz.ntmps4
  go_upto_region 1 with (fail)
  generalize (w.alloc (.cells (stc Ap p.length cp A2 args.length c2 s k lf lm lr) 28)) = W0 at *
  cases b1
  case false =>
    go_wp2_with (first
      | (go_at_call 7; (with_reducible refine (CF _ hT).mono ?_); rintro _ uf ⟨rfl, hbf⟩; replace hT := C.kept hT hbf; replace vs := vs.below hbf; replace hW := Below.step hW hbf; have y0 := vs.x.cell 0; have y1 := vs.x.cell 1; simp at y0 y1)
      | (go_at_call 5; (with_reducible refine (psmall_c H1.out cp _ vs.p).mono ?_); rintro _ us ⟨rfl, rfl⟩))
    go_ret
    exact ⟨rfl, hW⟩
  case true =>
  by_cases h40 : args.length ≤ 40
  case neg =>
    have h41 : decide ((40 : Int) < (args.length : Int)) = true := decide_eq_true (by omega)
    clear h40
    go_wp2_with (first
      | (go_at_call 7; (with_reducible refine (CF _ hT).mono ?_); rintro _ uf ⟨rfl, hbf⟩; replace hT := C.kept hT hbf; replace vs := vs.below hbf; replace hW := Below.step hW hbf; have y0 := vs.x.cell 0; have y1 := vs.x.cell 1; simp at y0 y1)
      | (go_at_call 5; (with_reducible refine (psmall_c H1.out cp _ vs.p).mono ?_); rintro _ us ⟨rfl, rfl⟩))
    go_ret
    exact ⟨rfl, hW⟩
  case pos =>
  have h41 : decide ((40 : Int) < (args.length : Int)) = false := decide_eq_false (by omega)
  have hz := HZ.out
  have hl9 : args.length ≤ 1000 := by omega
  obtain ⟨N, xn, en⟩ : ∃ S x, newW p args s k lf lm lr = (S, x) := ⟨_, _, rfl⟩
  obtain ⟨F, u2, eF⟩ : ∃ S x, newF p 0 args s = (S, x) := ⟨_, _, rfl⟩
  obtain ⟨gd, hgd⟩ : ∃ x, ((checkP p).2.2 == 0) = x := ⟨_, rfl⟩
  have LN := newW_len en hz
  have LF : FrmLen F := by
    have h9 := newF_lenP p 0 args s
    rw [eF] at h9
    exact h9
  have EN := Lib.hid en
  have EF := Lib.hid eF
  have HGD := Lib.hid hgd
  obtain ⟨mw, hmw⟩ : ∃ x, (u2 && gd && decide (1 ≤ k) && decide (k ≤ 64) && decide (1 ≤ lf) && decide (lf ≤ 100000) && decide (1 ≤ lm) && decide (lm ≤ 1024) && decide (1 ≤ lr) && decide (lr ≤ 1024)) = x := ⟨_, rfl⟩
  have hmm : mayW p args s k lf lm lr = mw := by
    rw [← hmw]
    unfold mayW mayFr
    rw [hgd, eF]
    cases u2 <;> cases gd <;> cases decide (1 ≤ k) <;> cases decide (k ≤ 64) <;> cases decide (1 ≤ lf) <;> cases decide (lf ≤ 100000) <;> cases decide (1 ≤ lm) <;> cases decide (lm ≤ 1024) <;> cases decide (1 ≤ lr) <;> cases decide (lr ≤ 1024) <;> rfl
  have HMW := Lib.hid hmw
  have HMM := Lib.hid hmm
  clear en eF hgd hmw hmm
  go_upto_region 3 with (first
    | (go_at_call 7; (with_reducible refine (CF _ hT).mono ?_); rintro _ uf ⟨rfl, hbf⟩; replace hT := C.kept hT hbf; replace vs := vs.below hbf; replace hW := Below.step hW hbf; have y0 := vs.x.cell 0; have y1 := vs.x.cell 1; simp at y0 y1)
    | (go_at_call 5; (with_reducible refine (psmall_c H1.out cp _ vs.p).mono ?_); rintro _ us ⟨rfl, rfl⟩))
  clear y0 y1 h41
  have y0 := vs.x.cell 0
  have y1 := vs.x.cell 1
  have y2 := vs.x.cell 2
  have y3 := vs.x.cell 3
  have y4 := vs.x.cell 4
  have y5 := vs.x.cell 5
  have y6 := vs.x.cell 6
  simp at y0 y1 y2 y3 y4 y5 y6
  go_upto_region 4 with (first
    | (go_at_call 8; (with_reducible refine (newW_c C EN.out hz hl9 cp c2 _ hT vs.p vs.a).mono ?_); rintro _ u ⟨a3, rfl, ho, hb⟩; have hn := Held.new u 43 wz0)
    | (guard_target = wpList _ _ _ (Oper.mk _ (Op.store 43 (.tmp 3) _) _ _ _ none :: _) _ _; refine wpList_store_row rfl 43 _ _ rfl u.heap.size (wcs a3 N) rfl rfl _ _ hn (by kernel_rfl) rfl (by simp [Value.oneCell']) ?_))
  obtain ⟨v3, hbW⟩ := new_w1 hb ho
  clear hb ho hn
  replace hT := C.kept hT hbW
  replace vs := vs.below hbW
  replace hW := Below.step hW hbW
  clear hbW
  generalize World.setRow _ u.heap.size _ = W3 at *
  generalize u.heap.size = g3 at *
  clear y0 y1 y2 y3 y4 y5 y6
  have y0 := vs.x.cell 0
  have y1 := vs.x.cell 1
  have y2 := vs.x.cell 2
  have y3 := vs.x.cell 3
  have y4 := vs.x.cell 4
  have y5 := vs.x.cell 5
  have y6 := vs.x.cell 6
  simp at y0 y1 y2 y3 y4 y5 y6
  go_upto_region 5 with (first
    | (go_at_call 18; (with_reducible refine (rnewf_c EF.out hz hl9 cp c2 _ vs.p vs.a).mono ?_); rintro _ u ⟨ds5, rfl, d1, d2, ho, hb⟩; have hn := Held.new u 60 fzc)
    | (guard_target = wpList _ _ _ (Oper.mk _ (Op.store 60 (.tmp 5) _) _ _ _ none :: _) _ _; refine wpList_store_row rfl 60 _ _ rfl u.heap.size ds5 rfl rfl _ _ hn (by rw [d1]; kernel_rfl) (by rw [d1]; rfl) d2 ?_))
  obtain ⟨v5, hbW⟩ := new_f1 hb d1 d2 ho
  clear hb ho hn d1 d2
  replace hT := C.kept hT hbW
  replace vs := vs.below hbW
  replace v3 := v3.below hbW
  replace hW := Below.step hW hbW
  clear hbW
  generalize World.setRow _ u.heap.size _ = W4 at *
  generalize u.heap.size = g5 at *
  clear y0 y1 y2 y3 y4 y5 y6
  have y0 := vs.x.cell 0
  have y1 := vs.x.cell 1
  have y2 := vs.x.cell 2
  have y3 := vs.x.cell 3
  have y4 := vs.x.cell 4
  have y5 := vs.x.cell 5
  have y6 := vs.x.cell 6
  simp at y0 y1 y2 y3 y4 y5 y6
  go_cut [7] from 50 to 101 (fun v wx => v = .bool mw ∧ Below W4.heap.size W4 wx)
  case first =>
    cases u2
    case false =>
      go_wp2_with fail
      go_wp2_with fail
      go_meet
      case rel => exact ⟨by rw [← HMW.out]; simp [], Below.refl _ _⟩
    case true =>
    cases gd
    case false =>
      go_wp2_with (go_at_call 19; (with_reducible refine (rgood_c HGD.out hz cp _ vs.p).mono ?_); rintro _ ug ⟨rfl, hbg⟩; have y3 := (vs.below hbg).x.cell 3; have y4 := (vs.below hbg).x.cell 4; have y5 := (vs.below hbg).x.cell 5; have y6 := (vs.below hbg).x.cell 6; simp at y3 y4 y5 y6)
      go_wp2_with fail
      go_meet
      case rel => exact ⟨by rw [← HMW.out]; simp [], hbg⟩
    case true =>
    cases ht2 : decide (1 ≤ k)
    case false =>
      go_wp2_with (go_at_call 19; (with_reducible refine (rgood_c HGD.out hz cp _ vs.p).mono ?_); rintro _ ug ⟨rfl, hbg⟩; have y3 := (vs.below hbg).x.cell 3; have y4 := (vs.below hbg).x.cell 4; have y5 := (vs.below hbg).x.cell 5; have y6 := (vs.below hbg).x.cell 6; simp at y3 y4 y5 y6)
      go_wp2_with fail
      go_meet
      case rel => exact ⟨by rw [← HMW.out]; simp [ht2], hbg⟩
    case true =>
    cases ht3 : decide (k ≤ 64)
    case false =>
      go_wp2_with (go_at_call 19; (with_reducible refine (rgood_c HGD.out hz cp _ vs.p).mono ?_); rintro _ ug ⟨rfl, hbg⟩; have y3 := (vs.below hbg).x.cell 3; have y4 := (vs.below hbg).x.cell 4; have y5 := (vs.below hbg).x.cell 5; have y6 := (vs.below hbg).x.cell 6; simp at y3 y4 y5 y6)
      go_wp2_with fail
      go_meet
      case rel => exact ⟨by rw [← HMW.out]; simp [ht2, ht3], hbg⟩
    case true =>
    cases ht4 : decide (1 ≤ lf)
    case false =>
      go_wp2_with (go_at_call 19; (with_reducible refine (rgood_c HGD.out hz cp _ vs.p).mono ?_); rintro _ ug ⟨rfl, hbg⟩; have y3 := (vs.below hbg).x.cell 3; have y4 := (vs.below hbg).x.cell 4; have y5 := (vs.below hbg).x.cell 5; have y6 := (vs.below hbg).x.cell 6; simp at y3 y4 y5 y6)
      go_wp2_with fail
      go_meet
      case rel => exact ⟨by rw [← HMW.out]; simp [ht2, ht3, ht4], hbg⟩
    case true =>
    cases ht5 : decide (lf ≤ 100000)
    case false =>
      go_wp2_with (go_at_call 19; (with_reducible refine (rgood_c HGD.out hz cp _ vs.p).mono ?_); rintro _ ug ⟨rfl, hbg⟩; have y3 := (vs.below hbg).x.cell 3; have y4 := (vs.below hbg).x.cell 4; have y5 := (vs.below hbg).x.cell 5; have y6 := (vs.below hbg).x.cell 6; simp at y3 y4 y5 y6)
      go_wp2_with fail
      go_meet
      case rel => exact ⟨by rw [← HMW.out]; simp [ht2, ht3, ht4, ht5], hbg⟩
    case true =>
    cases ht6 : decide (1 ≤ lm)
    case false =>
      go_wp2_with (go_at_call 19; (with_reducible refine (rgood_c HGD.out hz cp _ vs.p).mono ?_); rintro _ ug ⟨rfl, hbg⟩; have y3 := (vs.below hbg).x.cell 3; have y4 := (vs.below hbg).x.cell 4; have y5 := (vs.below hbg).x.cell 5; have y6 := (vs.below hbg).x.cell 6; simp at y3 y4 y5 y6)
      go_wp2_with fail
      go_meet
      case rel => exact ⟨by rw [← HMW.out]; simp [ht2, ht3, ht4, ht5, ht6], hbg⟩
    case true =>
    cases ht7 : decide (lm ≤ 1024)
    case false =>
      go_wp2_with (go_at_call 19; (with_reducible refine (rgood_c HGD.out hz cp _ vs.p).mono ?_); rintro _ ug ⟨rfl, hbg⟩; have y3 := (vs.below hbg).x.cell 3; have y4 := (vs.below hbg).x.cell 4; have y5 := (vs.below hbg).x.cell 5; have y6 := (vs.below hbg).x.cell 6; simp at y3 y4 y5 y6)
      go_wp2_with fail
      go_meet
      case rel => exact ⟨by rw [← HMW.out]; simp [ht2, ht3, ht4, ht5, ht6, ht7], hbg⟩
    case true =>
    cases ht8 : decide (1 ≤ lr)
    case false =>
      go_wp2_with (go_at_call 19; (with_reducible refine (rgood_c HGD.out hz cp _ vs.p).mono ?_); rintro _ ug ⟨rfl, hbg⟩; have y3 := (vs.below hbg).x.cell 3; have y4 := (vs.below hbg).x.cell 4; have y5 := (vs.below hbg).x.cell 5; have y6 := (vs.below hbg).x.cell 6; simp at y3 y4 y5 y6)
      go_wp2_with fail
      go_meet
      case rel => exact ⟨by rw [← HMW.out]; simp [ht2, ht3, ht4, ht5, ht6, ht7, ht8], hbg⟩
    case true =>
    cases ht9 : decide (lr ≤ 1024)
    case false =>
      go_wp2_with (go_at_call 19; (with_reducible refine (rgood_c HGD.out hz cp _ vs.p).mono ?_); rintro _ ug ⟨rfl, hbg⟩; have y3 := (vs.below hbg).x.cell 3; have y4 := (vs.below hbg).x.cell 4; have y5 := (vs.below hbg).x.cell 5; have y6 := (vs.below hbg).x.cell 6; simp at y3 y4 y5 y6)
      go_wp2_with fail
      go_meet
      case rel => exact ⟨by rw [← HMW.out]; simp [ht2, ht3, ht4, ht5, ht6, ht7, ht8, ht9], hbg⟩
    case true =>
    go_wp2_with (go_at_call 19; (with_reducible refine (rgood_c HGD.out hz cp _ vs.p).mono ?_); rintro _ ug ⟨rfl, hbg⟩; have y3 := (vs.below hbg).x.cell 3; have y4 := (vs.below hbg).x.cell 4; have y5 := (vs.below hbg).x.cell 5; have y6 := (vs.below hbg).x.cell 6; simp at y3 y4 y5 y6)
    go_wp2_with fail
    go_meet
    case rel => exact ⟨by rw [← HMW.out]; simp [ht2, ht3, ht4, ht5, ht6, ht7, ht8, ht9], hbg⟩
  case rest =>
    obtain ⟨rfl, hwc⟩ := hcut
    clear y0 y1 y2 y3 y4 y5 y6
    replace hT := C.kept hT hwc
    replace vs := vs.below hwc
    replace v3 := v3.below hwc
    replace v5 := v5.below hwc
    replace hW := Below.step hW hwc
    clear hwc
    cases mw
    case false =>
      have h9 := EN.out
      unfold newW at h9
      rw [if_neg (by rw [HMM.out]; decide)] at h9
      obtain rfl := (Prod.mk.inj h9).1
      obtain rfl := (Prod.mk.inj h9).2
      have x7 := v3.x.cell 7
      simp [wld0] at x7
      clear h9
      go_wp2_with fail
      go_ret
      exact ⟨rfl, hW⟩
    case true =>
    obtain ⟨rfl, kn, rfl, PA⟩ := new_parts EN.out HMM.out
    rw [EF.out] at PA
    have hu2 : u2 = true := by
      have h9 := HMW.out
      simp only [Bool.and_eq_true] at h9
      exact h9.1.1.1.1.1.1.1.1.1
    subst hu2
    have HPA := Lib.hid PA
    obtain ⟨hrl, hcl⟩ := PA.lens
    have x1 := v3.x.cell 1
    have x2 := v3.x.cell 2
    have x3 := v3.x.cell 3
    have x6 := v3.x.cell 6
    have x7 := v3.x.cell 7
    have x8 := v3.x.cell 8
    have x11 := v3.x.cell 11
    have x12 := v3.x.cell 12
    have x17 := v3.x.cell 17
    have x18 := v3.x.cell 18
    have y3 := vs.x.cell 3
    have y4 := vs.x.cell 4
    have y5 := vs.x.cell 5
    have y6 := vs.x.cell 6
    simp [hrl, hcl, PA.elf, PA.elm, PA.elr, PA.used, PA.st, PA.stl, PA.mis] at x1 x2 x3 x6 x7 x8 x11 x12 x17 x18 y3 y4 y5 y6
    have hk1 : (1 : Int) ≤ kn := by have := PA.k1; omega
    have hk2 : (kn : Int) ≤ 64 := by have := PA.k2; omega
    clear hrl hcl PA
    go_upto_region 11 with (fail)
    clear x1 x2 x3 x6 x7 x8 x11 x12 x17 x18 y3 y4 y5 y6
    have HV := Lib.hid (And.intro v3 (And.intro v5 (And.intro vs (And.intro hT hW))))
    clear v3 v5 vs hT hW
    obtain ⟨W17, hW17⟩ : ∃ W, W = wc := ⟨_, rfl⟩
    rw [← hW17] at HV ⊢
    clear hW17
    go_loopw [8] (fun iv W => ∃ j : Nat, iv = .int .i64 j ∧ j ≤ kn ∧ Below W17.heap.size W17 W) (fun iv _ => kn - (intOf iv).toNat)
    case atStart => exact ⟨0, rfl, by omega, Below.refl _ _⟩
    case round =>
      obtain ⟨j, rfl, hj, hw⟩ := hrel
      have hj0 : (0 : Int) ≤ j := by omega
      have v3 := HV.out.1.below hw
      have vs := HV.out.2.2.1.below hw
      have HWR := Lib.hid hw
      by_cases hlt : j < kn
      · have hlt2 : (j : Int) < (kn : Int) := by omega
        have hjr : j < N.rings.length := by rw [HPA.out.lens.1]; exact hlt
        have hjc : j < N.cur.length := by rw [HPA.out.lens.2]; exact hlt
        obtain ⟨b1, off1, e1, hlb1, Ab, cb, hab, p0, p1, p2, p3⟩ := v3.p.rings.rng hjr
        rw [HPA.out.rj hjr] at p0 p1 p2 p3 hab
        obtain ⟨b2, off2, e2, hlb2, q0, q1⟩ := pat_cell v3.p.cur hjc
        obtain ⟨bj, hbj⟩ : ∃ x, decide ((0 : Int) < (j : Int)) = x := ⟨_, rfl⟩
        have hcj := (HPA.out.cj hjc).trans hbj
        obtain ⟨cj, hcc⟩ : ∃ c, N.cur[j] = c := ⟨_, rfl⟩
        rw [hcc] at q0 q1 hcj
        have EQJ : ∀ w9, (binOp .eql 36 (gv cj.1 cj.2) (gv (-1) 0)).run Tryz.prog w9 = .ok (.bool bj) w9 := fun w9 => by rw [← hcj]; exact eqr_run cj.1 cj.2 (-1) 0 w9
        have x7 : wr.cell? ⟨g3, 7, none⟩ = some (.slice (some ⟨b1, off1, none⟩) kn a3.cr) := by
          have h9 := v3.x.cell 7
          rw [← e1, ← HPA.out.lens.1]
          exact h9
        have x8 : wr.cell? ⟨g3, 8, none⟩ = some (.slice (some ⟨b2, off2, none⟩) kn a3.cq) := by
          have h9 := v3.x.cell 8
          rw [← e2, ← HPA.out.lens.2]
          exact h9
        have y6 : wr.cell? ⟨w.heap.size, 6, none⟩ = some (.int .i64 lr) := vs.x.cell 6
        have y3 : wr.cell? ⟨w.heap.size, 3, none⟩ = some (.int .i64 kn) := vs.x.cell 3
        have hl3 : g3 < wr.heap.size := v3.x.lt
        have hls : w.heap.size < wr.heap.size := vs.x.lt
        replace p0 : wr.cell? ⟨b1, off1 + j * 4, none⟩ = some (.slice Ab 1 cb) := p0
        replace p1 : wr.cell? ⟨b1, off1 + j * 4 + 1, none⟩ = some (.int .i64 0) := p1
        replace p2 : wr.cell? ⟨b1, off1 + j * 4 + 2, none⟩ = some (.int .i64 0) := p2
        replace p3 : wr.cell? ⟨b1, off1 + j * 4 + 3, none⟩ = some (.int .i64 lr) := p3
        have hr1 := HPA.out.lr1
        have hr2 := HPA.out.lr2
        have HBJ := Lib.hid hbj
        clear hw v3 vs e1 e2 hcj hcc hjr hjc hbj
        go_upto_region 13 with (fail)
        go_cut [203] from 163 to 203 (fun v wx => v = .bool false ∧ Below wr.heap.size wr wx)
        case first =>
          have hdr := (Below.refl wr.heap.size wr).drew
          have HDR := Lib.hid hdr
          replace hab := hab.later hdr
          replace p0 := (hdr.cell (p := ⟨b1, _, none⟩) hlb1).trans p0
          replace p1 := (hdr.cell (p := ⟨b1, _, none⟩) hlb1).trans p1
          replace p2 := (hdr.cell (p := ⟨b1, _, none⟩) hlb1).trans p2
          replace p3 := (hdr.cell (p := ⟨b1, _, none⟩) hlb1).trans p3
          replace q0 := (hdr.cell (p := ⟨b2, _, none⟩) hlb2).trans q0
          replace q1 := (hdr.cell (p := ⟨b2, _, none⟩) hlb2).trans q1
          replace x7 := (hdr.cell (p := ⟨g3, _, none⟩) hl3).trans x7
          replace x8 := (hdr.cell (p := ⟨g3, _, none⟩) hl3).trans x8
          replace y6 := (hdr.cell (p := ⟨w.heap.size, _, none⟩) hls).trans y6
          replace hlb1 : b1 < wr.drew.heap.size := hlb1
          replace hlb2 : b2 < wr.drew.heap.size := hlb2
          replace hl3 : g3 < wr.drew.heap.size := hl3
          replace hls : w.heap.size < wr.drew.heap.size := hls
          clear hdr
          refine wp_region_held_drew (S := fun W => Below wr.drew.heap.size wr.drew W) (by kernel_rfl) (Below.refl _ _) (fun hS => ?_)
          generalize wr.drew = Wq at *
          show wpAnyH _ _ _ _ _ 41 #[false, false, false, false, false, false, false, false, false, false, false, false, false, false, false, false, false, false, false, false, false, false, false, false, false, false, false, false, false, false, false, false, false, false, false, false, false, false, false, false, false] _ _
          refine wpAnyH_begin (by kernel_rfl) (fun HNS => ?_)
          refine wpAnyH_takeS HNS (i := 0) (v := .pointer (some ⟨g3, 7, none⟩)) rfl (by kernel_rfl) (by kernel_rfl) (fun _ _ _ h => h) (Or.inl ⟨by kernel_rfl, fun W hW => ?_⟩) hS ?_
          · go_simp
          simp only [Act.put, List.getElem_toArray, List.getElem_cons_succ, List.getElem_cons_zero, List.setIfInBounds_toArray, List.set_cons_zero, List.set_cons_succ]
          refine wpAnyH_takeS HNS (i := 1) (v := .slice (some ⟨b1, off1, none⟩) kn a3.cr) rfl (by kernel_rfl) (by kernel_rfl) (fun _ _ _ h => h) (Or.inl ⟨by kernel_rfl, fun W hW => ?_⟩) hS ?_
          · (have z0 := (hW.cell (p := ⟨g3, _, none⟩) hl3).trans x7; go_simp)
          simp only [Act.put, List.getElem_toArray, List.getElem_cons_succ, List.getElem_cons_zero, List.setIfInBounds_toArray, List.set_cons_zero, List.set_cons_succ]
          refine wpAnyH_takeS HNS (i := 2) (v := .int .i64 j) rfl (by kernel_rfl) (by kernel_rfl) (fun _ _ _ h => h) (Or.inl ⟨by kernel_rfl, fun W hW => ?_⟩) hS ?_
          · go_simp
          simp only [Act.put, List.getElem_toArray, List.getElem_cons_succ, List.getElem_cons_zero, List.setIfInBounds_toArray, List.set_cons_zero, List.set_cons_succ]
          refine wpAnyH_takeS HNS (i := 3) (v := .pointer (some ⟨b1, off1 + j * 4, none⟩)) rfl (by kernel_rfl) (by kernel_rfl) (fun _ _ _ h => h) (Or.inl ⟨by kernel_rfl, fun W hW => ?_⟩) hS ?_
          · go_simp
          simp only [Act.put, List.getElem_toArray, List.getElem_cons_succ, List.getElem_cons_zero, List.setIfInBounds_toArray, List.set_cons_zero, List.set_cons_succ]
          refine wpAnyH_takeS HNS (i := 4) (v := .agg (rgc Ab 1 cb 0 0 lr)) rfl (by kernel_rfl) (by kernel_rfl) (fun _ _ _ h => h) (Or.inl ⟨by kernel_rfl, fun W hW => ?_⟩) hS ?_
          · (have z0 := (hW.cell (p := ⟨b1, _, none⟩) hlb1).trans p0; have z1 := (hW.cell (p := ⟨b1, _, none⟩) hlb1).trans p1; have z2 := (hW.cell (p := ⟨b1, _, none⟩) hlb1).trans p2; have z3 := (hW.cell (p := ⟨b1, _, none⟩) hlb1).trans p3; go_simp)
          simp only [Act.put, List.getElem_toArray, List.getElem_cons_succ, List.getElem_cons_zero, List.setIfInBounds_toArray, List.set_cons_zero, List.set_cons_succ]
          refine wpAnyH_ready (rs := [5]) (by kernel_rfl) (by simp) ?_
          refine (AllReadyH.cons rfl (fun K hK => ?_) AllReadyH.nil)
          · rw [if_pos (by kernel_rfl)]
            go_simp
            go_at_call 20
            (with_reducible refine (items1_c lr cb _ (hab.later hS)).mono ?_)
            rintro _ u1 ⟨Ai, ci, rfl, hb1⟩
            replace hS := Below.step hS hb1
            (repeat (first | go_skip | go_guarded | go_step | go_upon))
            refine hK.out _ _ hS (fun _ => ?_)
            clear hK K
            (try simp only [Act.put, List.getElem_toArray, List.getElem_cons_succ, List.getElem_cons_zero, List.setIfInBounds_toArray, List.set_cons_zero, List.set_cons_succ])
            refine wpAnyH_takeS HNS (i := 6) (v := .int .i64 0) rfl (by kernel_rfl) (by kernel_rfl) (fun _ _ _ h => h) (Or.inl ⟨by kernel_rfl, fun W hW => ?_⟩) hS ?_
            · go_simp
            simp only [Act.put, List.getElem_toArray, List.getElem_cons_succ, List.getElem_cons_zero, List.setIfInBounds_toArray, List.set_cons_zero, List.set_cons_succ]
            refine wpAnyH_takeS HNS (i := 7) (v := .bool false) rfl (by kernel_rfl) (by kernel_rfl) (fun _ _ _ h => h) (Or.inl ⟨by kernel_rfl, fun W hW => ?_⟩) hS ?_
            · go_simp
            simp only [Act.put, List.getElem_toArray, List.getElem_cons_succ, List.getElem_cons_zero, List.setIfInBounds_toArray, List.set_cons_zero, List.set_cons_succ]
            refine wpAnyH_takeS HNS (i := 8) (v := .bool false) rfl (by kernel_rfl) (by kernel_rfl) (fun _ _ _ h => h) (Or.inl ⟨by kernel_rfl, fun W hW => ?_⟩) hS ?_
            · go_simp
            simp only [Act.put, List.getElem_toArray, List.getElem_cons_succ, List.getElem_cons_zero, List.setIfInBounds_toArray, List.set_cons_zero, List.set_cons_succ]
            refine wpAnyH_takeS HNS (i := 9) (v := .pointer (some ⟨g3, 7, none⟩)) rfl (by kernel_rfl) (by kernel_rfl) (fun _ _ _ h => h) (Or.inl ⟨by kernel_rfl, fun W hW => ?_⟩) hS ?_
            · go_simp
            simp only [Act.put, List.getElem_toArray, List.getElem_cons_succ, List.getElem_cons_zero, List.setIfInBounds_toArray, List.set_cons_zero, List.set_cons_succ]
            refine wpAnyH_takeS HNS (i := 10) (v := .slice (some ⟨b1, off1, none⟩) kn a3.cr) rfl (by kernel_rfl) (by kernel_rfl) (fun _ _ _ h => h) (Or.inl ⟨by kernel_rfl, fun W hW => ?_⟩) hS ?_
            · (have z0 := (hW.cell (p := ⟨g3, _, none⟩) hl3).trans x7; go_simp)
            simp only [Act.put, List.getElem_toArray, List.getElem_cons_succ, List.getElem_cons_zero, List.setIfInBounds_toArray, List.set_cons_zero, List.set_cons_succ]
            refine wpAnyH_takeS HNS (i := 11) (v := .int .i64 j) rfl (by kernel_rfl) (by kernel_rfl) (fun _ _ _ h => h) (Or.inl ⟨by kernel_rfl, fun W hW => ?_⟩) hS ?_
            · go_simp
            simp only [Act.put, List.getElem_toArray, List.getElem_cons_succ, List.getElem_cons_zero, List.setIfInBounds_toArray, List.set_cons_zero, List.set_cons_succ]
            refine wpAnyH_takeS HNS (i := 12) (v := .pointer (some ⟨b1, off1 + j * 4, none⟩)) rfl (by kernel_rfl) (by kernel_rfl) (fun _ _ _ h => h) (Or.inl ⟨by kernel_rfl, fun W hW => ?_⟩) hS ?_
            · go_simp
            simp only [Act.put, List.getElem_toArray, List.getElem_cons_succ, List.getElem_cons_zero, List.setIfInBounds_toArray, List.set_cons_zero, List.set_cons_succ]
            refine wpAnyH_takeS HNS (i := 13) (v := .pointer (some ⟨b1, off1 + j * 4 + 3, none⟩)) rfl (by kernel_rfl) (by kernel_rfl) (fun _ _ _ h => h) (Or.inl ⟨by kernel_rfl, fun W hW => ?_⟩) hS ?_
            · go_simp
            simp only [Act.put, List.getElem_toArray, List.getElem_cons_succ, List.getElem_cons_zero, List.setIfInBounds_toArray, List.set_cons_zero, List.set_cons_succ]
            refine wpAnyH_takeS HNS (i := 14) (v := .int .i64 lr) rfl (by kernel_rfl) (by kernel_rfl) (fun _ _ _ h => h) (Or.inl ⟨by kernel_rfl, fun W hW => ?_⟩) hS ?_
            · (have z0 := (hW.cell (p := ⟨b1, _, none⟩) hlb1).trans p3; go_simp)
            simp only [Act.put, List.getElem_toArray, List.getElem_cons_succ, List.getElem_cons_zero, List.setIfInBounds_toArray, List.set_cons_zero, List.set_cons_succ]
            refine wpAnyH_takeS HNS (i := 15) (v := .pointer (some ⟨w.heap.size, 4, none⟩)) rfl (by kernel_rfl) (by kernel_rfl) (fun _ _ _ h => h) (Or.inl ⟨by kernel_rfl, fun W hW => ?_⟩) hS ?_
            · go_simp
            simp only [Act.put, List.getElem_toArray, List.getElem_cons_succ, List.getElem_cons_zero, List.setIfInBounds_toArray, List.set_cons_zero, List.set_cons_succ]
            refine wpAnyH_takeS HNS (i := 16) (v := .pointer (some ⟨w.heap.size, 6, none⟩)) rfl (by kernel_rfl) (by kernel_rfl) (fun _ _ _ h => h) (Or.inl ⟨by kernel_rfl, fun W hW => ?_⟩) hS ?_
            · go_simp
            simp only [Act.put, List.getElem_toArray, List.getElem_cons_succ, List.getElem_cons_zero, List.setIfInBounds_toArray, List.set_cons_zero, List.set_cons_succ]
            refine wpAnyH_takeS HNS (i := 17) (v := .int .i64 lr) rfl (by kernel_rfl) (by kernel_rfl) (fun _ _ _ h => h) (Or.inl ⟨by kernel_rfl, fun W hW => ?_⟩) hS ?_
            · (have z0 := (hW.cell (p := ⟨w.heap.size, _, none⟩) hls).trans y6; go_simp)
            simp only [Act.put, List.getElem_toArray, List.getElem_cons_succ, List.getElem_cons_zero, List.setIfInBounds_toArray, List.set_cons_zero, List.set_cons_succ]
            refine wpAnyH_takeS HNS (i := 18) (v := .bool false) rfl (by kernel_rfl) (by kernel_rfl) (fun _ _ _ h => h) (Or.inl ⟨by kernel_rfl, fun W hW => ?_⟩) hS ?_
            · go_simp
            simp only [Act.put, List.getElem_toArray, List.getElem_cons_succ, List.getElem_cons_zero, List.setIfInBounds_toArray, List.set_cons_zero, List.set_cons_succ]
            refine wpAnyH_takeS HNS (i := 19) (v := .bool false) rfl (by kernel_rfl) (by kernel_rfl) (fun _ _ _ h => h) (Or.inl ⟨by kernel_rfl, fun W hW => ?_⟩) hS ?_
            · go_simp
            simp only [Act.put, List.getElem_toArray, List.getElem_cons_succ, List.getElem_cons_zero, List.setIfInBounds_toArray, List.set_cons_zero, List.set_cons_succ]
            refine wpAnyH_takeS HNS (i := 20) (v := .bool false) rfl (by kernel_rfl) (by kernel_rfl) (fun _ _ _ h => h) (Or.inl ⟨by kernel_rfl, fun W hW => ?_⟩) hS ?_
            · go_simp
            simp only [Act.put, List.getElem_toArray, List.getElem_cons_succ, List.getElem_cons_zero, List.setIfInBounds_toArray, List.set_cons_zero, List.set_cons_succ]
            refine wpAnyH_takeS HNS (i := 21) (v := .pointer (some ⟨g3, 7, none⟩)) rfl (by kernel_rfl) (by kernel_rfl) (fun _ _ _ h => h) (Or.inl ⟨by kernel_rfl, fun W hW => ?_⟩) hS ?_
            · go_simp
            simp only [Act.put, List.getElem_toArray, List.getElem_cons_succ, List.getElem_cons_zero, List.setIfInBounds_toArray, List.set_cons_zero, List.set_cons_succ]
            refine wpAnyH_takeS HNS (i := 22) (v := .slice (some ⟨b1, off1, none⟩) kn a3.cr) rfl (by kernel_rfl) (by kernel_rfl) (fun _ _ _ h => h) (Or.inl ⟨by kernel_rfl, fun W hW => ?_⟩) hS ?_
            · (have z0 := (hW.cell (p := ⟨g3, _, none⟩) hl3).trans x7; go_simp)
            simp only [Act.put, List.getElem_toArray, List.getElem_cons_succ, List.getElem_cons_zero, List.setIfInBounds_toArray, List.set_cons_zero, List.set_cons_succ]
            refine wpAnyH_takeS HNS (i := 23) (v := .int .i64 j) rfl (by kernel_rfl) (by kernel_rfl) (fun _ _ _ h => h) (Or.inl ⟨by kernel_rfl, fun W hW => ?_⟩) hS ?_
            · go_simp
            simp only [Act.put, List.getElem_toArray, List.getElem_cons_succ, List.getElem_cons_zero, List.setIfInBounds_toArray, List.set_cons_zero, List.set_cons_succ]
            refine wpAnyH_takeS HNS (i := 24) (v := .pointer (some ⟨b1, off1 + j * 4, none⟩)) rfl (by kernel_rfl) (by kernel_rfl) (fun _ _ _ h => h) (Or.inl ⟨by kernel_rfl, fun W hW => ?_⟩) hS ?_
            · go_simp
            simp only [Act.put, List.getElem_toArray, List.getElem_cons_succ, List.getElem_cons_zero, List.setIfInBounds_toArray, List.set_cons_zero, List.set_cons_succ]
            refine wpAnyH_takeS HNS (i := 25) (v := .agg (rgc Ab 1 cb 0 0 lr)) rfl (by kernel_rfl) (by kernel_rfl) (fun _ _ _ h => h) (Or.inl ⟨by kernel_rfl, fun W hW => ?_⟩) hS ?_
            · (have z0 := (hW.cell (p := ⟨b1, _, none⟩) hlb1).trans p0; have z1 := (hW.cell (p := ⟨b1, _, none⟩) hlb1).trans p1; have z2 := (hW.cell (p := ⟨b1, _, none⟩) hlb1).trans p2; have z3 := (hW.cell (p := ⟨b1, _, none⟩) hlb1).trans p3; go_simp)
            simp only [Act.put, List.getElem_toArray, List.getElem_cons_succ, List.getElem_cons_zero, List.setIfInBounds_toArray, List.set_cons_zero, List.set_cons_succ]
            refine wpAnyH_ready (rs := [26]) (by kernel_rfl) (by simp) ?_
            refine (AllReadyH.cons rfl (fun K hK => ?_) AllReadyH.nil)
            · rw [if_pos (by kernel_rfl)]
              go_simp
              go_at_call 21
              (with_reducible refine (may1_c hr1 hr2 Ab cb _).mono ?_)
              rintro _ u2 ⟨rfl, hb2⟩
              replace hS := Below.step hS hb2
              (repeat (first | go_skip | go_guarded | go_step | go_upon))
              refine hK.out _ _ hS (fun _ => ?_)
              clear hK K
              (try simp only [Act.put, List.getElem_toArray, List.getElem_cons_succ, List.getElem_cons_zero, List.setIfInBounds_toArray, List.set_cons_zero, List.set_cons_succ])
              refine wpAnyH_takeS HNS (i := 27) (v := .bool false) rfl (by kernel_rfl) (by kernel_rfl) (fun _ _ _ h => h) (Or.inl ⟨by kernel_rfl, fun W hW => ?_⟩) hS ?_
              · go_simp
              simp only [Act.put, List.getElem_toArray, List.getElem_cons_succ, List.getElem_cons_zero, List.setIfInBounds_toArray, List.set_cons_zero, List.set_cons_succ]
              refine wpAnyH_takeS HNS (i := 28) (v := .bool false) rfl (by kernel_rfl) (by kernel_rfl) (fun _ _ _ h => h) (Or.inl ⟨by kernel_rfl, fun W hW => ?_⟩) hS ?_
              · go_simp
              simp only [Act.put, List.getElem_toArray, List.getElem_cons_succ, List.getElem_cons_zero, List.setIfInBounds_toArray, List.set_cons_zero, List.set_cons_succ]
              refine wpAnyH_takeS HNS (i := 29) (v := .bool false) rfl (by kernel_rfl) (by kernel_rfl) (fun _ _ _ h => h) (Or.inl ⟨by kernel_rfl, fun W hW => ?_⟩) hS ?_
              · go_simp
              simp only [Act.put, List.getElem_toArray, List.getElem_cons_succ, List.getElem_cons_zero, List.setIfInBounds_toArray, List.set_cons_zero, List.set_cons_succ]
              refine wpAnyH_takeS HNS (i := 30) (v := .pointer (some ⟨g3, 8, none⟩)) rfl (by kernel_rfl) (by kernel_rfl) (fun _ _ _ h => h) (Or.inl ⟨by kernel_rfl, fun W hW => ?_⟩) hS ?_
              · go_simp
              simp only [Act.put, List.getElem_toArray, List.getElem_cons_succ, List.getElem_cons_zero, List.setIfInBounds_toArray, List.set_cons_zero, List.set_cons_succ]
              refine wpAnyH_takeS HNS (i := 31) (v := .slice (some ⟨b2, off2, none⟩) kn a3.cq) rfl (by kernel_rfl) (by kernel_rfl) (fun _ _ _ h => h) (Or.inl ⟨by kernel_rfl, fun W hW => ?_⟩) hS ?_
              · (have z0 := (hW.cell (p := ⟨g3, _, none⟩) hl3).trans x8; go_simp)
              simp only [Act.put, List.getElem_toArray, List.getElem_cons_succ, List.getElem_cons_zero, List.setIfInBounds_toArray, List.set_cons_zero, List.set_cons_succ]
              refine wpAnyH_takeS HNS (i := 32) (v := .int .i64 j) rfl (by kernel_rfl) (by kernel_rfl) (fun _ _ _ h => h) (Or.inl ⟨by kernel_rfl, fun W hW => ?_⟩) hS ?_
              · go_simp
              simp only [Act.put, List.getElem_toArray, List.getElem_cons_succ, List.getElem_cons_zero, List.setIfInBounds_toArray, List.set_cons_zero, List.set_cons_succ]
              refine wpAnyH_takeS HNS (i := 33) (v := .pointer (some ⟨b2, off2 + j * 2, none⟩)) rfl (by kernel_rfl) (by kernel_rfl) (fun _ _ _ h => h) (Or.inl ⟨by kernel_rfl, fun W hW => ?_⟩) hS ?_
              · go_simp
              simp only [Act.put, List.getElem_toArray, List.getElem_cons_succ, List.getElem_cons_zero, List.setIfInBounds_toArray, List.set_cons_zero, List.set_cons_succ]
              refine wpAnyH_takeS HNS (i := 34) (v := .agg #[.int .i64 cj.1, .int .i64 cj.2]) rfl (by kernel_rfl) (by kernel_rfl) (fun _ _ _ h => h) (Or.inl ⟨by kernel_rfl, fun W hW => ?_⟩) hS ?_
              · (have z0 := (hW.cell (p := ⟨b2, _, none⟩) hlb2).trans q0; have z1 := (hW.cell (p := ⟨b2, _, none⟩) hlb2).trans q1; go_simp)
              simp only [Act.put, List.getElem_toArray, List.getElem_cons_succ, List.getElem_cons_zero, List.setIfInBounds_toArray, List.set_cons_zero, List.set_cons_succ]
              refine wpAnyH_takeS HNS (i := 37) (v := .int .i64 j) rfl (by kernel_rfl) (by kernel_rfl) (fun _ _ _ h => h) (Or.inl ⟨by kernel_rfl, fun W hW => ?_⟩) hS ?_
              · go_simp
              simp only [Act.put, List.getElem_toArray, List.getElem_cons_succ, List.getElem_cons_zero, List.setIfInBounds_toArray, List.set_cons_zero, List.set_cons_succ]
              refine wpAnyH_takeS HNS (i := 38) (v := .bool bj) rfl (by kernel_rfl) (by kernel_rfl) (fun _ _ _ h => h) (Or.inl ⟨by kernel_rfl, fun W hW => ?_⟩) hS ?_
              · (have e9 := HBJ.out; have e8 : decide (0 < j) = bj := (by rw [← e9]; simp); go_simp; try first | exact e9 | exact e8)
              simp only [Act.put, List.getElem_toArray, List.getElem_cons_succ, List.getElem_cons_zero, List.setIfInBounds_toArray, List.set_cons_zero, List.set_cons_succ]
              refine wpAnyH_ready (rs := [35]) (by kernel_rfl) (by simp) ?_
              refine (AllReadyH.cons rfl (fun K hK => ?_) AllReadyH.nil)
              · rw [if_pos (by kernel_rfl)]
                go_simp
                go_at_call 22
                (with_reducible refine (none_z _).mono ?_)
                rintro _ u3 ⟨rfl, hb3⟩
                replace hS := Below.step hS hb3
                (repeat (first | go_skip | go_guarded | go_step | go_upon))
                refine hK.out _ _ hS (fun _ => ?_)
                clear hK K
                (try simp only [Act.put, List.getElem_toArray, List.getElem_cons_succ, List.getElem_cons_zero, List.setIfInBounds_toArray, List.set_cons_zero, List.set_cons_succ])
                refine wpAnyH_takeS HNS (i := 36) (v := .bool bj) rfl (by kernel_rfl) (by kernel_rfl) (fun _ _ _ h => h) (Or.inl ⟨by kernel_rfl, fun W hW => ?_⟩) hS ?_
                · (have e9 := EQJ W; go_simp; try exact e9)
                simp only [Act.put, List.getElem_toArray, List.getElem_cons_succ, List.getElem_cons_zero, List.setIfInBounds_toArray, List.set_cons_zero, List.set_cons_succ]
                refine wpAnyH_takeS HNS (i := 39) (v := .bool false) rfl (by kernel_rfl) (by kernel_rfl) (fun _ _ _ h => h) (Or.inl ⟨by kernel_rfl, fun W hW => ?_⟩) hS ?_
                · (cases bj <;> go_simp)
                simp only [Act.put, List.getElem_toArray, List.getElem_cons_succ, List.getElem_cons_zero, List.setIfInBounds_toArray, List.set_cons_zero, List.set_cons_succ]
                refine wpAnyH_takeS HNS (i := 40) (v := .bool false) rfl (by kernel_rfl) (by kernel_rfl) (fun _ _ _ h => h) (Or.inl ⟨by kernel_rfl, fun W hW => ?_⟩) hS ?_
                · go_simp
                simp only [Act.put, List.getElem_toArray, List.getElem_cons_succ, List.getElem_cons_zero, List.setIfInBounds_toArray, List.set_cons_zero, List.set_cons_succ]
                refine wpAnyH_done (by kernel_rfl) ?_ _
                (repeat (first | go_skip | go_guarded | go_step | go_upon))
                go_meet
                case rel => exact ⟨rfl, Below.step HDR.out hS⟩
        case rest =>
          obtain ⟨rfl, hwc⟩ := hcut
          have HF := Lib.hid (Below.step HWR.out hwc)
          clear hwc HWR p0 p1 p2 p3 q0 q1 hab hlb1 hlb2 x7 x8 y6 y3 hl3 hls hr1 hr2 HBJ EQJ
          go_wp2_with fail
          go_roundw
          case rel => exact ⟨j + 1, by go_num, by omega, HF.out⟩
          case measure => simp [intOf]; omega
      · obtain rfl : j = kn := by omega
        obtain ⟨-, v5, -, hT, hW⟩ := HV.out
        replace v5 := v5.below hw
        replace hT := C.kept hT hw
        replace hW := Below.step hW hw
        have y3 : wr.cell? ⟨w.heap.size, 3, none⟩ = some (.int .i64 j) := vs.x.cell 3
        have x4 := v3.x.cell 4
        have x5 := v3.x.cell 5
        have x6 := v3.x.cell 6
        have x9 := v3.x.cell 9
        have x10 := v3.x.cell 10
        simp at x4 x5 x6 x9 x10
        have EG := Lib.hid HPA.out.get
        have LP9 := LN.pen
        clear hw hlt HV HWR vs
        go_upto_region 16 with (first
          | (go_at_call 23; (with_reducible refine (rget_c EG.out LP9 a3.cc a3.cf _ v3.p.pen).mono ?_); rintro _ u ⟨ds9, rfl, d1, d2, ho, hb⟩; have hn := Held.new u 60 fzc)
          | (guard_target = wpList _ _ _ (Oper.mk _ (Op.store 60 (.tmp 9) _) _ _ _ none :: _) _ _; refine wpList_store_row rfl 60 _ _ rfl u.heap.size ds9 rfl rfl _ _ hn (by rw [d1]; kernel_rfl) (by rw [d1]; rfl) d2 ?_))
        obtain ⟨v9, hbW⟩ := new_f1 hb d1 d2 ho
        clear hb ho hn d1 d2
        replace hT := C.kept hT hbW
        replace v3 := v3.below hbW
        replace v5 := v5.below hbW
        replace hW := Below.step hW hbW
        clear hbW
        generalize World.setRow _ u.heap.size _ = W9 at *
        generalize u.heap.size = g9 at *
        clear y3 x4 x5 x6 x9 x10
        obtain ⟨-, d13, d14⟩ := frm_up v9.p
        have n13 : W9.cell? ⟨g9, 13, none⟩ = some (.int .i64 (-1)) := by rw [← HPA.out.uat]; exact (v9.x.cell 13).trans d13
        have n14 : W9.cell? ⟨g9, 13 + 1, none⟩ = some (.int .i64 0) := by rw [← HPA.out.ugn]; exact (v9.x.cell 14).trans d14
        have hl9' : g9 < W9.heap.size := v9.x.lt
        have hl3 : g3 < W9.heap.size := v3.x.lt
        have hjc : 0 < N.cur.length := by rw [HPA.out.lens.2]; exact HPA.out.k1
        obtain ⟨b2, off2, e2, hlb2, q0, q1⟩ := pat_cell v3.p.cur hjc
        have h00 : N.cur[0] = (0, 0) := by simp only [HPA.out.cur, List.getElem_cons_zero]
        rw [h00] at q0 q1
        replace q0 : W9.cell? ⟨b2, off2, none⟩ = some (.int .i64 0) := by simpa using q0
        replace q1 : W9.cell? ⟨b2, off2 + 1, none⟩ = some (.int .i64 0) := by simpa using q1
        replace hlb2 : b2 < W9.heap.size := hlb2
        have x8 : W9.cell? ⟨g3, 8, none⟩ = some (.slice (some ⟨b2, off2, none⟩) j a3.cq) := by
          have h9 := v3.x.cell 8
          rw [← e2, ← HPA.out.lens.2]
          exact h9
        have x9 : W9.cell? ⟨g3, 9, none⟩ = some (.int .i64 0) := by
          have h9 := v3.x.cell 9
          have h8 : N.root.1 = 0 := by rw [HPA.out.root]
          rw [← h8]
          exact h9
        have x10 : W9.cell? ⟨g3, 9 + 1, none⟩ = some (.int .i64 0) := by
          have h9 := v3.x.cell 10
          have h8 : N.root.2 = 0 := by rw [HPA.out.root]
          rw [← h8]
          exact h9
        have x4 : W9.cell? ⟨g3, 4, none⟩ = some (.slice a3.ac N.pen.cells.length a3.cc) := v3.x.cell 4
        have x5 : W9.cell? ⟨g3, 4 + 1, none⟩ = some (.slice a3.af N.pen.free.length a3.cf) := v3.x.cell 5
        have x6 : W9.cell? ⟨g3, 4 + 2, none⟩ = some (.int .i64 N.pen.most) := v3.x.cell 6
        have hjI : (0 : Int) < j := by have := HPA.out.k1; omega
        have hjN : 0 < j := by have := HPA.out.k1; omega
        clear d13 d14 e2 h00 hjc
        have hdr := (Below.refl W9.heap.size W9).drew
        have HDR := Lib.hid hdr
        have HTQ := Lib.hid (C.kept hT hdr)
        replace v3 := v3.below hdr
        replace v5 := v5.below hdr
        replace v9 := v9.below hdr
        replace q0 := (hdr.cell (p := ⟨b2, _, none⟩) hlb2).trans q0
        replace q1 := (hdr.cell (p := ⟨b2, _, none⟩) hlb2).trans q1
        replace x4 := (hdr.cell (p := ⟨g3, _, none⟩) hl3).trans x4
        replace x5 := (hdr.cell (p := ⟨g3, _, none⟩) hl3).trans x5
        replace x6 := (hdr.cell (p := ⟨g3, _, none⟩) hl3).trans x6
        replace x8 := (hdr.cell (p := ⟨g3, _, none⟩) hl3).trans x8
        replace x9 := (hdr.cell (p := ⟨g3, _, none⟩) hl3).trans x9
        replace x10 := (hdr.cell (p := ⟨g3, _, none⟩) hl3).trans x10
        replace n13 := (hdr.cell (p := ⟨g9, _, none⟩) hl9').trans n13
        replace n14 := (hdr.cell (p := ⟨g9, _, none⟩) hl9').trans n14
        replace hlb2 : b2 < W9.drew.heap.size := hlb2
        replace hl3 : g3 < W9.drew.heap.size := hl3
        replace hl9' : g9 < W9.drew.heap.size := hl9'
        clear hdr
        refine wp_region_held_drew (S := fun W => Below W9.drew.heap.size W9.drew W) (by kernel_rfl) (Below.refl _ _) (fun hS => ?_)
        generalize W9.drew = Wz at *
        show wpAnyH _ _ _ _ _ 35 #[false, false, false, false, false, false, false, false, false, false, false, false, false, false, false, false, false, false, false, false, false, false, false, false, false, false, false, false, false, false, false, false, false, false, false] _ _
        refine wpAnyH_begin (by kernel_rfl) (fun HNS => ?_)
        refine wpAnyH_takeS HNS (i := 0) (v := .bool true) rfl (by kernel_rfl) (by kernel_rfl) (fun _ _ _ h => h) (Or.inl ⟨by kernel_rfl, fun W hW => ?_⟩) hS ?_
        · go_simp
        simp only [Act.put, List.getElem_toArray, List.getElem_cons_succ, List.getElem_cons_zero, List.setIfInBounds_toArray, List.set_cons_zero, List.set_cons_succ]
        refine wpAnyH_takeS HNS (i := 1) (v := .bool true) rfl (by kernel_rfl) (by kernel_rfl) (fun _ _ _ h => h) (Or.inl ⟨by kernel_rfl, fun W hW => ?_⟩) hS ?_
        · go_simp
        simp only [Act.put, List.getElem_toArray, List.getElem_cons_succ, List.getElem_cons_zero, List.setIfInBounds_toArray, List.set_cons_zero, List.set_cons_succ]
        refine wpAnyH_takeS HNS (i := 2) (v := .agg ds5) rfl (by kernel_rfl) (by kernel_rfl) (fun _ _ _ h => h) (yieldsIf_load_midA (by kernel_rfl) 60 _ rfl g5 0 (by rfl) ds5 _ (fun W hW => range_held (Held.below v5.x hW)) Tryz.underlying60 rfl (by rw [v5.s]; kernel_rfl)) hS ?_
        simp only [Act.put, List.getElem_toArray, List.getElem_cons_succ, List.getElem_cons_zero, List.setIfInBounds_toArray, List.set_cons_zero, List.set_cons_succ]
        refine wpAnyH_takeS HNS (i := 3) (v := .agg ds9) rfl (by kernel_rfl) (by kernel_rfl) (fun _ _ _ h => h) (yieldsIf_load_midA (by kernel_rfl) 60 _ rfl g9 0 (by rfl) ds9 _ (fun W hW => range_held (Held.below v9.x hW)) Tryz.underlying60 rfl (by rw [v9.s]; kernel_rfl)) hS ?_
        simp only [Act.put, List.getElem_toArray, List.getElem_cons_succ, List.getElem_cons_zero, List.setIfInBounds_toArray, List.set_cons_zero, List.set_cons_succ]
        refine wpAnyH_ready (rs := [4]) (by kernel_rfl) (by simp) ?_
        refine (AllReadyH.cons rfl (fun K hK => ?_) AllReadyH.nil)
        · rw [if_pos (by kernel_rfl)]
          go_simp
          go_at_call 24
          (with_reducible refine (rsamef_c (decide_eq_true rfl) LF LF _ (v5.below hS).p (v9.below hS).p).mono ?_)
          rintro _ u4 ⟨rfl, hb4⟩
          replace hS := Below.step hS hb4
          (repeat (first | go_skip | go_guarded | go_step | go_upon))
          refine hK.out _ _ hS (fun _ => ?_)
          clear hK K
          (try simp only [Act.put, List.getElem_toArray, List.getElem_cons_succ, List.getElem_cons_zero, List.setIfInBounds_toArray, List.set_cons_zero, List.set_cons_succ])
          refine wpAnyH_takeS HNS (i := 5) (v := .bool true) rfl (by kernel_rfl) (by kernel_rfl) (fun _ _ _ h => h) (Or.inl ⟨by kernel_rfl, fun W hW => ?_⟩) hS ?_
          · go_simp
          simp only [Act.put, List.getElem_toArray, List.getElem_cons_succ, List.getElem_cons_zero, List.setIfInBounds_toArray, List.set_cons_zero, List.set_cons_succ]
          refine wpAnyH_takeS HNS (i := 6) (v := .bool true) rfl (by kernel_rfl) (by kernel_rfl) (fun _ _ _ h => h) (Or.inl ⟨by kernel_rfl, fun W hW => ?_⟩) hS ?_
          · go_simp
          simp only [Act.put, List.getElem_toArray, List.getElem_cons_succ, List.getElem_cons_zero, List.setIfInBounds_toArray, List.set_cons_zero, List.set_cons_succ]
          refine wpAnyH_takeS HNS (i := 7) (v := .pointer (some ⟨g3, 8, none⟩)) rfl (by kernel_rfl) (by kernel_rfl) (fun _ _ _ h => h) (Or.inl ⟨by kernel_rfl, fun W hW => ?_⟩) hS ?_
          · go_simp
          simp only [Act.put, List.getElem_toArray, List.getElem_cons_succ, List.getElem_cons_zero, List.setIfInBounds_toArray, List.set_cons_zero, List.set_cons_succ]
          refine wpAnyH_takeS HNS (i := 8) (v := .slice (some ⟨b2, off2, none⟩) j a3.cq) rfl (by kernel_rfl) (by kernel_rfl) (fun _ _ _ h => h) (Or.inl ⟨by kernel_rfl, fun W hW => ?_⟩) hS ?_
          · (have z0 := (hW.cell (p := ⟨g3, _, none⟩) hl3).trans x8; go_simp)
          simp only [Act.put, List.getElem_toArray, List.getElem_cons_succ, List.getElem_cons_zero, List.setIfInBounds_toArray, List.set_cons_zero, List.set_cons_succ]
          refine wpAnyH_takeS HNS (i := 9) (v := .pointer (some ⟨b2, off2, none⟩)) rfl (by kernel_rfl) (by kernel_rfl) (fun _ _ _ h => h) (Or.inl ⟨by kernel_rfl, fun W hW => ?_⟩) hS ?_
          · go_simp
          simp only [Act.put, List.getElem_toArray, List.getElem_cons_succ, List.getElem_cons_zero, List.setIfInBounds_toArray, List.set_cons_zero, List.set_cons_succ]
          refine wpAnyH_takeS HNS (i := 10) (v := .agg #[.int .i64 0, .int .i64 0]) rfl (by kernel_rfl) (by kernel_rfl) (fun _ _ _ h => h) (Or.inl ⟨by kernel_rfl, fun W hW => ?_⟩) hS ?_
          · (have z0 := (hW.cell (p := ⟨b2, _, none⟩) hlb2).trans q0; have z1 := (hW.cell (p := ⟨b2, _, none⟩) hlb2).trans q1; go_simp)
          simp only [Act.put, List.getElem_toArray, List.getElem_cons_succ, List.getElem_cons_zero, List.setIfInBounds_toArray, List.set_cons_zero, List.set_cons_succ]
          refine wpAnyH_takeS HNS (i := 11) (v := .pointer (some ⟨g3, 9, none⟩)) rfl (by kernel_rfl) (by kernel_rfl) (fun _ _ _ h => h) (Or.inl ⟨by kernel_rfl, fun W hW => ?_⟩) hS ?_
          · go_simp
          simp only [Act.put, List.getElem_toArray, List.getElem_cons_succ, List.getElem_cons_zero, List.setIfInBounds_toArray, List.set_cons_zero, List.set_cons_succ]
          refine wpAnyH_takeS HNS (i := 12) (v := .agg #[.int .i64 0, .int .i64 0]) rfl (by kernel_rfl) (by kernel_rfl) (fun _ _ _ h => h) (Or.inl ⟨by kernel_rfl, fun W hW => ?_⟩) hS ?_
          · (have z0 := (hW.cell (p := ⟨g3, _, none⟩) hl3).trans x9; have z1 := (hW.cell (p := ⟨g3, _, none⟩) hl3).trans x10; go_simp)
          simp only [Act.put, List.getElem_toArray, List.getElem_cons_succ, List.getElem_cons_zero, List.setIfInBounds_toArray, List.set_cons_zero, List.set_cons_succ]
          refine wpAnyH_takeS HNS (i := 13) (v := .bool true) rfl (by kernel_rfl) (by kernel_rfl) (fun _ _ _ h => h) (Or.inl ⟨by kernel_rfl, fun W hW => ?_⟩) hS ?_
          · go_simp
          simp only [Act.put, List.getElem_toArray, List.getElem_cons_succ, List.getElem_cons_zero, List.setIfInBounds_toArray, List.set_cons_zero, List.set_cons_succ]
          refine wpAnyH_takeS HNS (i := 14) (v := .bool true) rfl (by kernel_rfl) (by kernel_rfl) (fun _ _ _ h => h) (Or.inl ⟨by kernel_rfl, fun W hW => ?_⟩) hS ?_
          · go_simp
          simp only [Act.put, List.getElem_toArray, List.getElem_cons_succ, List.getElem_cons_zero, List.setIfInBounds_toArray, List.set_cons_zero, List.set_cons_succ]
          refine wpAnyH_takeS HNS (i := 15) (v := .bool true) rfl (by kernel_rfl) (by kernel_rfl) (fun _ _ _ h => h) (Or.inl ⟨by kernel_rfl, fun W hW => ?_⟩) hS ?_
          · go_simp
          simp only [Act.put, List.getElem_toArray, List.getElem_cons_succ, List.getElem_cons_zero, List.setIfInBounds_toArray, List.set_cons_zero, List.set_cons_succ]
          refine wpAnyH_takeS HNS (i := 16) (v := .pointer (some ⟨g3, 4, none⟩)) rfl (by kernel_rfl) (by kernel_rfl) (fun _ _ _ h => h) (Or.inl ⟨by kernel_rfl, fun W hW => ?_⟩) hS ?_
          · go_simp
          simp only [Act.put, List.getElem_toArray, List.getElem_cons_succ, List.getElem_cons_zero, List.setIfInBounds_toArray, List.set_cons_zero, List.set_cons_succ]
          refine wpAnyH_takeS HNS (i := 17) (v := .agg (pc a3.ac N.pen.cells.length a3.cc a3.af N.pen.free.length a3.cf N.pen.most)) rfl (by kernel_rfl) (by kernel_rfl) (fun _ _ _ h => h) (Or.inl ⟨by kernel_rfl, fun W hW => ?_⟩) hS ?_
          · (have z0 := (hW.cell (p := ⟨g3, _, none⟩) hl3).trans x4; have z1 := (hW.cell (p := ⟨g3, _, none⟩) hl3).trans x5; have z2 := (hW.cell (p := ⟨g3, _, none⟩) hl3).trans x6; go_simp)
          simp only [Act.put, List.getElem_toArray, List.getElem_cons_succ, List.getElem_cons_zero, List.setIfInBounds_toArray, List.set_cons_zero, List.set_cons_succ]
          refine wpAnyH_ready (rs := [18]) (by kernel_rfl) (by simp) ?_
          refine (AllReadyH.cons rfl (fun K hK => ?_) AllReadyH.nil)
          · rw [if_pos (by kernel_rfl)]
            go_simp
            go_at_call 25
            (with_reducible refine (refs1_c HPA.out.refs LP9 a3.cc a3.cf _ (v3.below hS).p.pen).mono ?_)
            rintro _ u5 ⟨Aq1, cq1, rfl, hb5⟩
            replace hS := Below.step hS hb5
            (repeat (first | go_skip | go_guarded | go_step | go_upon))
            refine hK.out _ _ hS (fun _ => ?_)
            clear hK K
            (try simp only [Act.put, List.getElem_toArray, List.getElem_cons_succ, List.getElem_cons_zero, List.setIfInBounds_toArray, List.set_cons_zero, List.set_cons_succ])
            refine wpAnyH_takeS HNS (i := 19) (v := .int .i64 1) rfl (by kernel_rfl) (by kernel_rfl) (fun _ _ _ h => h) (Or.inl ⟨by kernel_rfl, fun W hW => ?_⟩) hS ?_
            · go_simp
            simp only [Act.put, List.getElem_toArray, List.getElem_cons_succ, List.getElem_cons_zero, List.setIfInBounds_toArray, List.set_cons_zero, List.set_cons_succ]
            refine wpAnyH_takeS HNS (i := 20) (v := .bool true) rfl (by kernel_rfl) (by kernel_rfl) (fun _ _ _ h => h) (Or.inl ⟨by kernel_rfl, fun W hW => ?_⟩) hS ?_
            · go_simp
            simp only [Act.put, List.getElem_toArray, List.getElem_cons_succ, List.getElem_cons_zero, List.setIfInBounds_toArray, List.set_cons_zero, List.set_cons_succ]
            refine wpAnyH_takeS HNS (i := 21) (v := .bool true) rfl (by kernel_rfl) (by kernel_rfl) (fun _ _ _ h => h) (Or.inl ⟨by kernel_rfl, fun W hW => ?_⟩) hS ?_
            · go_simp
            simp only [Act.put, List.getElem_toArray, List.getElem_cons_succ, List.getElem_cons_zero, List.setIfInBounds_toArray, List.set_cons_zero, List.set_cons_succ]
            refine wpAnyH_takeS HNS (i := 22) (v := .bool true) rfl (by kernel_rfl) (by kernel_rfl) (fun _ _ _ h => h) (Or.inl ⟨by kernel_rfl, fun W hW => ?_⟩) hS ?_
            · go_simp
            simp only [Act.put, List.getElem_toArray, List.getElem_cons_succ, List.getElem_cons_zero, List.setIfInBounds_toArray, List.set_cons_zero, List.set_cons_succ]
            refine wpAnyH_takeS HNS (i := 23) (v := .agg (wcs a3 N)) rfl (by kernel_rfl) (by kernel_rfl) (fun _ _ _ h => h) (yieldsIf_load_midA (by kernel_rfl) 43 _ rfl g3 0 (by rfl) (wcs a3 N) _ (fun W hW => rng_held (Held.below v3.x hW)) Tryz.underlying43 rfl (by kernel_rfl)) hS ?_
            simp only [Act.put, List.getElem_toArray, List.getElem_cons_succ, List.getElem_cons_zero, List.setIfInBounds_toArray, List.set_cons_zero, List.set_cons_succ]
            refine wpAnyH_ready (rs := [24]) (by kernel_rfl) (by simp) ?_
            refine (AllReadyH.cons rfl (fun K hK => ?_) AllReadyH.nil)
            · rw [if_pos (by kernel_rfl)]
              go_simp
              go_at_call 15
              (with_reducible refine (ready1_c C HPA.out.ready LN _ (C.kept HTQ.out hS) (v3.below hS).p).mono ?_)
              rintro _ u6 ⟨Aq2, cq2, rfl, hb6⟩
              replace hS := Below.step hS hb6
              (repeat (first | go_skip | go_guarded | go_step | go_upon))
              refine hK.out _ _ hS (fun _ => ?_)
              clear hK K
              (try simp only [Act.put, List.getElem_toArray, List.getElem_cons_succ, List.getElem_cons_zero, List.setIfInBounds_toArray, List.set_cons_zero, List.set_cons_succ])
              refine wpAnyH_takeS HNS (i := 25) (v := .int .i64 1) rfl (by kernel_rfl) (by kernel_rfl) (fun _ _ _ h => h) (Or.inl ⟨by kernel_rfl, fun W hW => ?_⟩) hS ?_
              · go_simp
              simp only [Act.put, List.getElem_toArray, List.getElem_cons_succ, List.getElem_cons_zero, List.setIfInBounds_toArray, List.set_cons_zero, List.set_cons_succ]
              refine wpAnyH_takeS HNS (i := 26) (v := .bool true) rfl (by kernel_rfl) (by kernel_rfl) (fun _ _ _ h => h) (Or.inl ⟨by kernel_rfl, fun W hW => ?_⟩) hS ?_
              · go_simp
              simp only [Act.put, List.getElem_toArray, List.getElem_cons_succ, List.getElem_cons_zero, List.setIfInBounds_toArray, List.set_cons_zero, List.set_cons_succ]
              refine wpAnyH_takeS HNS (i := 27) (v := .bool true) rfl (by kernel_rfl) (by kernel_rfl) (fun _ _ _ h => h) (Or.inl ⟨by kernel_rfl, fun W hW => ?_⟩) hS ?_
              · go_simp
              simp only [Act.put, List.getElem_toArray, List.getElem_cons_succ, List.getElem_cons_zero, List.setIfInBounds_toArray, List.set_cons_zero, List.set_cons_succ]
              refine wpAnyH_takeS HNS (i := 28) (v := .bool true) rfl (by kernel_rfl) (by kernel_rfl) (fun _ _ _ h => h) (Or.inl ⟨by kernel_rfl, fun W hW => ?_⟩) hS ?_
              · go_simp
              simp only [Act.put, List.getElem_toArray, List.getElem_cons_succ, List.getElem_cons_zero, List.setIfInBounds_toArray, List.set_cons_zero, List.set_cons_succ]
              refine wpAnyH_takeS HNS (i := 29) (v := .pointer (some ⟨g9, 13, none⟩)) rfl (by kernel_rfl) (by kernel_rfl) (fun _ _ _ h => h) (Or.inl ⟨by kernel_rfl, fun W hW => ?_⟩) hS ?_
              · go_simp
              simp only [Act.put, List.getElem_toArray, List.getElem_cons_succ, List.getElem_cons_zero, List.setIfInBounds_toArray, List.set_cons_zero, List.set_cons_succ]
              refine wpAnyH_takeS HNS (i := 30) (v := .agg #[.int .i64 (-1), .int .i64 0]) rfl (by kernel_rfl) (by kernel_rfl) (fun _ _ _ h => h) (Or.inl ⟨by kernel_rfl, fun W hW => ?_⟩) hS ?_
              · (have z0 := (hW.cell (p := ⟨g9, _, none⟩) hl9').trans n13; have z1 := (hW.cell (p := ⟨g9, _, none⟩) hl9').trans n14; go_simp)
              simp only [Act.put, List.getElem_toArray, List.getElem_cons_succ, List.getElem_cons_zero, List.setIfInBounds_toArray, List.set_cons_zero, List.set_cons_succ]
              refine wpAnyH_ready (rs := [31]) (by kernel_rfl) (by simp) ?_
              refine (AllReadyH.cons rfl (fun K hK => ?_) AllReadyH.nil)
              · rw [if_pos (by kernel_rfl)]
                go_simp
                go_at_call 22
                (with_reducible refine (none_z _).mono ?_)
                rintro _ u7 ⟨rfl, hb7⟩
                replace hS := Below.step hS hb7
                (repeat (first | go_skip | go_guarded | go_step | go_upon))
                refine hK.out _ _ hS (fun _ => ?_)
                clear hK K
                (try simp only [Act.put, List.getElem_toArray, List.getElem_cons_succ, List.getElem_cons_zero, List.setIfInBounds_toArray, List.set_cons_zero, List.set_cons_succ])
                refine wpAnyH_takeS HNS (i := 32) (v := .bool true) rfl (by kernel_rfl) (by kernel_rfl) (fun _ _ _ h => h) (Or.inl ⟨by kernel_rfl, fun W hW => ?_⟩) hS ?_
                · go_simp
                simp only [Act.put, List.getElem_toArray, List.getElem_cons_succ, List.getElem_cons_zero, List.setIfInBounds_toArray, List.set_cons_zero, List.set_cons_succ]
                refine wpAnyH_takeS HNS (i := 33) (v := .bool true) rfl (by kernel_rfl) (by kernel_rfl) (fun _ _ _ h => h) (Or.inl ⟨by kernel_rfl, fun W hW => ?_⟩) hS ?_
                · go_simp
                simp only [Act.put, List.getElem_toArray, List.getElem_cons_succ, List.getElem_cons_zero, List.setIfInBounds_toArray, List.set_cons_zero, List.set_cons_succ]
                refine wpAnyH_takeS HNS (i := 34) (v := .bool true) rfl (by kernel_rfl) (by kernel_rfl) (fun _ _ _ h => h) (Or.inl ⟨by kernel_rfl, fun W hW => ?_⟩) hS ?_
                · go_simp
                simp only [Act.put, List.getElem_toArray, List.getElem_cons_succ, List.getElem_cons_zero, List.setIfInBounds_toArray, List.set_cons_zero, List.set_cons_succ]
                refine wpAnyH_done (by kernel_rfl) ?_ _
                (repeat (first | go_skip | go_guarded | go_step | go_upon))
                go_ret
                exact ⟨rfl, Below.step hW (Below.step HDR.out hS)⟩
end Go.Proofs.YtjibkgildfjjoaaGreatDoor.worldNew

