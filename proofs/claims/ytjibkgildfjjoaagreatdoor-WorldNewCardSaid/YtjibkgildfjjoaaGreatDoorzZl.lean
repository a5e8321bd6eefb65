/- Layer 13, plain: what the fixed calls answer; lengths of a new world. -/
import Derived.Test.YtjibkgildfjjoaaGreatDoorzZk
import Derived.Test.YtjibkgildfjjoaaGreatDoorzPr1
import Derived.Test.YtjibkgildfjjoaaGreatDoorzPs
import Derived.Test.YtjibkgildfjjoaaGreatDoorzFnw
import Derived.Test.YtjibkgildfjjoaaGreatDoorzOww
import Derived.Test.YtjibkgildfjjoaaGreatDoorzYw
import Derived.Test.YtjibkgildfjjoaaGreatDoorzZe
import Derived.Test.YtjibkgildfjjoaaGreatDoorzZu
import Derived.Test.YtjibkgildfjjoaaGreatDoorzFm
namespace Go.Proofs.YtjibkgildfjjoaaGreatDoor
set_option linter.unusedVariables false
set_option linter.unusedSimpArgs false
open Gm Go.RowKit Go.ChangeShapes Go.WideShapes Go.ChangeAt Go.Sort

def tx13 : List UInt8 := [102, 117, 110, 99, 32, 49, 32, 49, 32, 48, 10, 108, 111, 97, 100, 32, 48, 10, 114, 101, 116, 10]
def pa13 : List Fun := [⟨1, 1, 0, [(1, 0, 0), (15, 0, 0)]⟩]
theorem pa13_of : (parseP tx13).1 = pa13 := by kernel_rfl
theorem pa13_good : ((checkP pa13).2.2 == 0) = true := by kernel_rfl
def fr13 : Frm := ⟨0, 0, [], [(4, 0)], [], 7, 0, 0, 0, 0, 0, 0, 0, -1, 0, 0⟩
theorem nf13 : newF pa13 0 [(4, 0)] 7 = (fr13, true) := by kernel_rfl
theorem nf13b : newF pa13 0 [] 7 = (frm0, false) := by kernel_rfl
def wl13 : Wld := ⟨pa13, 5, 3, 2, ⟨[⟨0, true, fr13⟩], [], 3⟩, [rng1 2, rng1 2, rng1 2], [(0, 0), noV, noV], (0, 0), 0, 0, 0, 0, 0, 0, 0, 0⟩
theorem nw13 : newW pa13 [(4, 0)] 7 3 5 3 2 = (wl13, 0) := by
  unfold newW
  rw [if_pos (by unfold mayW; rw [pa13_good, nf13]; decide), nf13]
  rfl
theorem nw13b : newW pa13 [] 7 3 5 3 2 = (wld0, 1) := by
  unfold newW
  rw [if_neg (by unfold mayW; rw [nf13b]; simp)]
theorem nw13c : newW pa13 [(4, 0)] 7 65 5 3 2 = (wld0, 1) := by
  unfold newW
  rw [if_neg (by unfold mayW; rw [show mayFr 65 2 = false by decide]; simp)]
theorem fh13 : freshR 2 2 = ([rng1 2, rng1 2], [noV, noV]) := by kernel_rfl
theorem fh13b : freshR 0 2 = ([], []) := by kernel_rfl
theorem rd13 : readyW wl13 = [(0, 0)] := by decide
theorem sm13 : sameW wl13 wl13 = true := sameW_refl _
theorem sm13b : sameW wl13 wld0 = false := sameW_no fun e => by
  have : wl13.lf = wld0.lf := by rw [e]
  simp [wl13, wld0] at this
theorem newF_len (p : List Fun) (fn : Int) (args : List V) (s : Int) (hz : mayP p = true → ∀ g ∈ p, headB g.ar g.lo g.sl = true) : FrmLen (newF p fn args s).1 := by
  have h0 : FrmLen frm0 := ⟨by simp [frm0], by simp [frm0], by simp [frm0]⟩
  unfold newF
  split
  case isFalse => exact h0
  case isTrue h =>
    cases hg : p[fn.toNat]? with
    | none => exact h0
    | some g =>
      simp only
      split
      case isFalse => exact h0
      case isTrue h9 =>
        have hm := hz h.1 g (List.mem_of_getElem? hg)
        obtain ⟨⟨a0, a1⟩, ⟨b0, b1⟩, c0, c1⟩ := (headB_iff _ _ _).1 hm
        refine ⟨by simp, ?_, ?_⟩
        · simp only [List.length_append, List.length_replicate]
          omega
        · simp only [List.length_replicate]
          omega
theorem newF_lenP (p : List Fun) (fn : Int) (args : List V) (s : Int) : FrmLen (newF p fn args s).1 := newF_len p fn args s fun h g hg => by
  have hmf := ((mayP_iff p).1 h).2.2 g hg
  unfold mayF at hmf
  simp at hmf
  exact hmf.1.1
theorem newW_len {p : List Fun} {args : List V} {s k lf lm lr : Int} {U : Wld} {x : Int} (hR : newW p args s k lf lm lr = (U, x)) (hz : SizedP p) : LenW U := by
  unfold newW at hR
  split at hR
  case isFalse => rw [← (Prod.mk.inj hR).1]; exact wld0_len
  case isTrue h =>
    rw [← (Prod.mk.inj hR).1]
    unfold mayW at h
    simp only [Bool.and_eq_true] at h
    have hk := ((mayFr_iff _ _).1 h.1.2).1
    refine ⟨hz, ⟨by simp, by simp, fun i hi => ?_⟩, ?_, ?_, ?_⟩
    · obtain rfl : i = 0 := by simpa using hi
      exact newF_lenP p 0 args s
    · simp only [List.length_replicate]; omega
    · intro r hr
      simp only at hr
      rw [(List.mem_replicate.1 hr).2]
      simp [rng1]
    · simp only [List.length_cons, List.length_replicate]; omega
set_option maxRecDepth 100000 in
theorem of13_any (l : List UInt8) (w : World) (hl : l.length ≤ 1000000) :
    Calls Tryz.prog 28 #[.string ⟨l.toArray⟩] w fun e w' => ∃ A c, e = .returned (.slice A (parseP l).1.length c) ∧ ProgAt w' w'.heap.size A (parseP l).1 ∧ Below w.heap.size w w' := by
  have PA := Lib.hid (pparse_any l w hl)
  unfold ParQ at PA
  go_enter Tryz.func28, Tryz.ntmps28
  go_wp2_with (go_at_call 55; (with_reducible refine PA.out.mono ?_); rintro _ u ⟨A, c, rfl, hp, hb⟩)
  go_ret
  exact ⟨A, c, rfl, hp, hb⟩
theorem of13 (W : World) : Calls Tryz.prog 28 #[.string ⟨#[102, 117, 110, 99, 32, 49, 32, 49, 32, 48, 10, 108, 111, 97, 100, 32, 48, 10, 114, 101, 116, 10]⟩] W fun e w' => ∃ A c, e = .returned (.slice A 1 c) ∧ ProgAt w' w'.heap.size A pa13 ∧ Below W.heap.size W w' := by
  have h := of13_any tx13 W (by decide)
  rw [pa13_of] at h
  exact h
theorem pa13_sized : SizedP pa13 := by rw [← pa13_of]; exact parse_sized _
theorem wl13_len : LenW wl13 := newW_len nw13 pa13_sized
end Go.Proofs.YtjibkgildfjjoaaGreatDoor

/- Layer 13: world.New. -/
namespace Go.Proofs.YtjibkgildfjjoaaGreatDoor
set_option linter.unusedVariables false
set_option linter.unusedSimpArgs false
open Gm Go.RowKit Go.ChangeShapes Go.WideShapes Go.ChangeAt Go.Sort

theorem newf_w {A A2 : Option Addr} {p : List Fun} {args : List V} (c c2 : Nat) (fn s : Int) (w : World) (hT : TabB w w.heap.size) (h : ProgAt w w.heap.size A p) (hz : SizedP p) (ha : VAt w w.heap.size A2 args) (hl : args.length ≤ 1000) :
    Calls Tryz.prog 30 #[.slice A p.length c, .int .i64 fn, .slice A2 args.length c2, .int .i64 s] w fun e w' => ∃ ds : Array Value, e = .returned (.tuple #[.agg ds, .bool (newF p fn args s).2]) ∧ ds.size = 16 ∧ ds.all (·.oneCell') = true ∧ OwnF w' w.heap.size (.agg ds) (newF p fn args s).1 ∧ Below w.heap.size w w' := by
  have key : Calls Tryz.prog 30 #[.slice A p.length c, .int .i64 fn, .slice A2 args.length c2, .int .i64 s] w (NewQ w (newF p fn args s)) := by
    by_cases hno : mayP p = true ∧ hasI p.length fn = true ∧ isZ s = true
    · exact new_yes c c2 fn s w hT h hz ha hl (Nat.le_refl _) hno.1 hno.2.1 hno.2.2
    · exact new_no c c2 fn s w hT h hz (Nat.le_refl _) hno
  refine key.mono fun e w' ⟨v', he, ho, hb⟩ => ?_
  obtain ⟨ds, rfl, h1, h2, -⟩ := frm_ds ho.at
  exact ⟨ds, he, h1, h2, ho, hb⟩
theorem grown_step {w u v : World} {r : Option Nat} (h : w.grownBy u r) (hb : Below u.heap.size u v) : w.grownBy v r :=
  ⟨hb.os.trans h.os, hb.tape.trans h.tape, hb.output.trans h.output, Nat.le_trans h.size hb.size, fun k hk hne => (hb.block k (Nat.lt_of_lt_of_le hk h.size)).trans (h.block k hk hne)⟩
theorem grown_row {w u : World} {g : Nat} (h : w.grownBy u (some g)) (cs : Array Value) : w.grownBy (u.setRow g cs) (some g) :=
  ⟨h.os, h.tape, h.output, by simpa [World.setRow] using h.size, fun k hk hne => (row_far0 u g cs k (fun e => hne (by rw [e]))).trans (h.block k hk hne)⟩
theorem first_facts {p : List Fun} {x1 x2 x3 : Int} (h : checkP p = (x1, x2, x3)) (h0 : (x3 == 0) = true) : mayP p = true := (check_facts (by rw [h]; simpa using h0)).1
set_option maxHeartbeats 8000000 in
set_option maxRecDepth 100000 in
theorem new_w {Ap A2 : Option Addr} {p : List Fun} {args : List V} {B : Nat} (c c2 : Nat) (s k lf lm lr : Int) (w : World) (hT : TW w) (hp0 : ProgAt w B Ap p) (hz : SizedP p) (ha0 : VAt w B A2 args) (hl : args.length ≤ 1000) (hB : B ≤ w.heap.size) :
    Calls Tryz.prog 8 #[.slice Ap p.length c, .slice A2 args.length c2, .int .i64 s, .int .i64 k, .agg (lmc lf lm lr)] w (WorldQ w (newW p args s k lf lm lr)) := by
  have hp := hp0.more hB
  have ha := ha0.more hB
  have hb := below2 w (.cells (lmc lf lm lr) 26) (.cells wz0 43)
  have k9 := (Held.new w 26 (lmc lf lm lr)).alloc (.cells wz0 43)
  have k10 := Held.new1 w (.cells (lmc lf lm lr) 26) 43 wz0
  have CK := fun (W : World) (hW : Below w.heap.size w W) => check_any c W (hT.below hW).tb.ot (hp.later hW) hz (Nat.le_refl _)
  have NF := fun (W : World) (hW : Below w.heap.size w W) => newf_w c c2 0 s W (hT.below hW).tb (hp.later hW) hz (ha.later hW) hl
  have OP := fun (W : World) (hW : Below w.heap.size w W) (hm : mayP p = true) => own_w c W (hp.later hW) hm
  have HT := Lib.hid hT
  have LF := newF_lenP p 0 args s
  obtain ⟨R, hR⟩ : ∃ R, newW p args s k lf lm lr = R := ⟨_, rfl⟩
  rw [hR]
  unfold newW mayW at hR
  obtain ⟨FN, hFN⟩ : ∃ F, newF p 0 args s = F := ⟨_, rfl⟩
  obtain ⟨f, u2⟩ := FN
  obtain ⟨⟨x1, x2, x3⟩, hCP⟩ : ∃ t, checkP p = t := ⟨_, rfl⟩
  have hMP := first_facts hCP
  simp only [hFN] at NF hR LF
  simp only [hCP] at CK hR
  have HNF := Lib.hid NF
  have HCK := Lib.hid CK
  have HOP := Lib.hid OP
  have HR := Lib.hid hR
  have HLF := Lib.hid LF
  have HMP := Lib.hid hMP
  clear hp hz ha hl hB NF CK OP hR hFN hCP hT hp0 ha0 LF hMP
  obtain ⟨al, hal⟩ : ∃ n, args.length = n := ⟨_, rfl⟩
  obtain ⟨pl, hpl⟩ : ∃ n, p.length = n := ⟨_, rfl⟩
  simp only [hal, hpl] at HNF HCK HOP ⊢
  have HPL := Lib.hid hpl
  clear hal hpl
  have key : ((x3 != 0) = true ∨ ((x3 != 0) = false ∧ decide (lf < 1) = true) ∨ ((x3 != 0) = false ∧ decide (lf < 1) = false ∧ decide (100000 < lf) = true)) ∧ ((x3 == 0) && (decide (1 ≤ lf) && decide (lf ≤ 100000))) = false ∨
      ((x3 != 0) = false ∧ decide (lf < 1) = false ∧ decide (100000 < lf) = false) ∧ (x3 == 0) = true ∧ (decide (1 ≤ lf) && decide (lf ≤ 100000)) = true := by
    have h5 : decide (1 ≤ lf) = !decide (lf < 1) := by by_cases h : lf < 1 <;> simp [h] <;> omega
    have h6 : decide (lf ≤ 100000) = !decide (100000 < lf) := by by_cases h : 100000 < lf <;> simp [h] <;> omega
    rw [h5, h6]
    have h7 : (x3 != 0) = !(x3 == 0) := rfl
    rw [h7]
    generalize (x3 == 0) = b4 at *
    generalize decide (lf < 1) = b5 at *
    generalize decide (100000 < lf) = b6 at *
    cases b4 <;> cases b5 <;> cases b6 <;> simp
  rcases key with ⟨hbad, hno⟩ | ⟨⟨c1, c2', c3⟩, d1, d2⟩
  · have hRE : (wld0, 1) = R := by
      have h9 := HR.out
      rw [if_neg (fun h => by
        simp only [Bool.and_eq_true] at h
        rw [h.1.1.1.1, h.2.1, h.2.2] at hno
        cases hno)] at h9
      exact h9
    subst hRE
    clear hno HR HNF HOP HLF HMP
    rcases hbad with e1 | ⟨e1, e2⟩ | ⟨e1, e2, e3⟩
    all_goals
      go_enter Tryz.func8, Tryz.ntmps8
      go_upto_region 1 with (fail)
      generalize ((w.alloc (.cells (lmc lf lm lr) 26)).alloc (.cells wz0 43)) = W0 at *
      go_upto_region 2 with (go_at_call 29; (with_reducible refine (HCK.out _ hb).mono ?_); rintro _ u ⟨rfl, hbu⟩; replace k9 := Held.below k9 hbu; replace k10 := Held.below k10 hbu; replace hb := Below.step hb hbu; have y0 := k9.cell 0; simp at y0)
      go_wp2_with (guard_target = wpList _ _ _ (Oper.mk _ (Op.store 43 (.tmp 10) _) _ _ _ none :: _) _ _; refine wpList_store_row rfl 43 _ _ rfl (w.heap.size + 1) wz0 rfl rfl _ _ k10 (by kernel_rfl) rfl (by simp [Value.oneCell']) ?_)
      have hb9 := below_setRow hb (show w.heap.size ≤ (w.heap.size + 1) by omega) wz0
      exact bodyPost_ret (results_ct0 rfl _ _ rfl rfl (load_wld (held_rowSelf k10 wz0) rfl)) rfl ⟨wa0, rfl, wat0 _ _ _, hb9⟩
  · have hMP := HMP.out d1
    have HR2 : Hid ((if (u2 && (decide (1 ≤ lm) && decide (lm ≤ 1024)) && mayFr k lr) = true then ((⟨p, lf, lm, lr, ⟨[⟨0, true, f⟩], [], lm⟩, List.replicate k.toNat (rng1 lr), (0, 0) :: List.replicate (k.toNat - 1) noV, (0, 0), 0, 0, 0, 0, 0, 0, 0, 0⟩, 0) : Wld × Int) else (wld0, 1)) = R) := Lib.hid (by
      have h9 := HR.out
      rw [d1, d2] at h9
      simpa using h9)
    have HMM := Lib.hid hMP
    clear HR HMP d1 d2 hMP
    go_enter Tryz.func8, Tryz.ntmps8
    go_upto_region 1 with (fail)
    generalize ((w.alloc (.cells (lmc lf lm lr) 26)).alloc (.cells wz0 43)) = W0 at *
    go_upto_region 2 with (go_at_call 29; (with_reducible refine (HCK.out _ hb).mono ?_); rintro _ u ⟨rfl, hbu⟩; replace k9 := Held.below k9 hbu; replace k10 := Held.below k10 hbu; replace hb := Below.step hb hbu; have y0 := k9.cell 0; simp at y0)
    clear hbu
    go_upto_region 4 with (fail)
    clear y0 HCK c1 c2' c3
    go_upto_region 5 with (first
      | (go_at_call 30; (with_reducible refine (HNF.out _ hb).mono ?_); rintro _ u5 ⟨ds12, rfl, d1, d2, ho, hbu⟩; have hn := Held.new u5 60 fzc)
      | (guard_target = wpList _ _ _ (Oper.mk _ (Op.store 60 (.tmp 15) _) _ _ _ none :: _) _ _; refine wpList_store_row rfl 60 _ _ rfl u5.heap.size ds12 rfl rfl _ _ hn (by rw [d1]; kernel_rfl) (by rw [d1]; rfl) d2 ?_))
    obtain ⟨v12, hbW⟩ := new_f1 hbu d1 d2 ho.at
    clear hbu ho hn d1 d2
    replace k9 := Held.below k9 hbW
    replace k10 := Held.below k10 hbW
    replace hb := Below.step hb hbW
    clear hbW
    generalize World.setRow _ u5.heap.size _ = W1 at *
    generalize u5.heap.size = g12 at *
    obtain ⟨PN, u3, hPN⟩ : ∃ P u, newZ lm = (P, u) := ⟨_, _, rfl⟩
    have EN := Lib.hid hPN
    clear hPN
    have y1 := k9.cell 1
    simp at y1
    go_upto_region 6 with (first
      | (go_at_call 31; (with_reducible refine (new_c EN.out _).mono ?_); rintro _ u6 ⟨rfl, ho, hb6⟩; have hn := Held.new u6 32 pz0)
      | (guard_target = wpList _ _ _ (Oper.mk _ (Op.store 32 (.tmp 17) _) _ _ _ none :: _) _ _; refine wpList_store_row rfl 32 _ _ rfl u6.heap.size (pc none PN.cells.length 0 none PN.free.length 0 PN.most) rfl rfl _ _ hn (by kernel_rfl) rfl (by simp [Value.oneCell']) ?_))
    obtain ⟨v14, hbW⟩ := new_p1 (c := 0) (c2 := 0) (P := PN) hb6 ho
    have hs_14 : w.heap.size + 1 < u6.heap.size := Nat.lt_of_lt_of_le k10.lt hb6.size
    clear hb6 ho hn
    replace k9 := Held.below k9 hbW
    replace k10 := Held.below k10 hbW
    replace v12 := v12.below hbW
    replace hb := Below.step hb hbW
    clear hbW
    generalize World.setRow _ u6.heap.size _ = W2 at *
    generalize u6.heap.size = g14 at *
    clear y1
    have hk2 : w.heap.size + 1 < W2.heap.size := k10.lt
    obtain ⟨RL, CL, hFR⟩ : ∃ a b, freshR k lr = (a, b) := ⟨_, _, rfl⟩
    have FC := fresh_w k lf lm lr W2 (HT.out.below hb)
    rw [hFR] at FC
    have HFR := Lib.hid hFR
    clear hFR
    go_upto_region 7 with (first
      | (guard_target = wpList _ _ _ (Oper.mk (some 57) _ _ _ _ none :: _) _ _; refine wpList_load_row rfl 26 _ rfl w.heap.size rfl _ _ _ _ k9 Tryz.underlying26 rfl (by kernel_rfl) ?_)
      | (go_at_call 10; (with_reducible refine (FC).mono ?_); rintro _ u7 ⟨A16, c16, A17, c17, rfl, og, oc, hbF⟩; replace k9 := Held.below k9 hbF; replace k10 := Held.below k10 hbF; replace v12 := v12.below hbF; replace v14 := v14.below hbF; replace hb := Below.step hb hbF))
    clear FC hbF
    obtain ⟨nr, hnr⟩ : ∃ n, RL.length = n := ⟨_, rfl⟩
    obtain ⟨nc, hnc⟩ : ∃ n, CL.length = n := ⟨_, rfl⟩
    simp only [hnr, hnc] at og oc ⊢
    have HO := Lib.hid (And.intro og oc)
    clear og oc
    have key : (u2 = false ∨ (u2 = true ∧ u3 = false) ∨ (u2 = true ∧ u3 = true ∧ ((nr : Int) == 0) = true)) ∧ (u2 && (decide (1 ≤ lm) && decide (lm ≤ 1024)) && mayFr k lr) = false ∨ (u2 = true ∧ u3 = true ∧ ((nr : Int) == 0) = false) ∧ (u2 && (decide (1 ≤ lm) && decide (lm ≤ 1024)) && mayFr k lr) = true := by
      have h3 : (decide (1 ≤ lm) && decide (lm ≤ 1024)) = u3 := by
        have h9 := EN.out
        rw [new_first] at h9
        split at h9
        case isTrue h => rw [← (Prod.mk.inj h9).2]; simp [h.1, h.2]
        case isFalse h => rw [← (Prod.mk.inj h9).2, ← Bool.not_eq_true]; simpa using h
      have h4 : mayFr k lr = !((nr : Int) == 0) := by
        have h9 := HFR.out
        cases hm : mayFr k lr with
        | false =>
          rw [freshR_no hm] at h9
          obtain rfl := (Prod.mk.inj h9).1
          obtain rfl : 0 = nr := hnr
          rfl
        | true =>
          obtain ⟨q1, q2⟩ := (mayFr_iff _ _).1 hm
          unfold freshR at h9
          rw [if_pos hm] at h9
          have e9 : k.toNat = nr := by rw [← hnr, ← (Prod.mk.inj h9).1, List.length_replicate]
          have e8 : ¬ nr = 0 := by omega
          simp [e8]
      rw [h3, h4]
      generalize ((nr : Int) == 0) = b4 at *
      cases u2 <;> cases u3 <;> cases b4 <;> simp
    have HNR := Lib.hid (And.intro hnr hnc)
    clear hnr hnc
    rcases key with ⟨hbad, hno⟩ | ⟨⟨h2, h3, h4⟩, hyes⟩
    · have hRE := HR2.out
      rw [if_neg (by rw [hno]; decide)] at hRE
      subst hRE
      clear hno HR2
      rcases hbad with e1 | ⟨e1, e2⟩ | ⟨e1, e2, e3⟩
      all_goals
        subst e1
        try subst e2
        go_wp2_with (guard_target = wpList _ _ _ (Oper.mk _ (Op.store 43 (.tmp 10) _) _ _ _ none :: _) _ _; refine wpList_store_row rfl 43 _ _ rfl (w.heap.size + 1) wz0 rfl rfl _ _ k10 (by kernel_rfl) rfl (by simp [Value.oneCell']) ?_)
        have hb9 := below_setRow hb (show w.heap.size ≤ (w.heap.size + 1) by omega) wz0
        exact bodyPost_ret (results_ct0 rfl _ _ rfl rfl (load_wld (held_rowSelf k10 wz0) rfl)) rfl ⟨wa0, rfl, wat0 _ _ _, hb9⟩
    · subst h2 h3
      have hRE := HR2.out
      rw [if_pos hyes] at hRE
      have hlm : 1 ≤ lm ∧ lm ≤ 1024 := by
        simp only [Bool.and_eq_true, decide_eq_true_eq] at hyes
        exact hyes.1.2
      have hkr : mayFr k lr = true := by
        simp only [Bool.and_eq_true] at hyes
        exact hyes.2
      have hPN : PN = ⟨[], [], lm⟩ := by
        have h9 := EN.out
        rw [new_first, if_pos hlm] at h9
        exact (Prod.mk.inj h9).1.symm
      obtain ⟨LN, hLN⟩ : ∃ L : Zp, L = ⟨[⟨0, true, f⟩], [], lm⟩ := ⟨_, rfl⟩
      obtain ⟨r0, hr0⟩ : ∃ r : V, r = (0, 0) := ⟨_, rfl⟩
      have hlay : layZ PN f = (LN, r0, 0) := by rw [hPN, lay_first hlm.1 hlm.2, hLN, hr0]
      have LPN : LenZ PN := by rw [hPN]; exact ⟨by simp, by simp, fun i hi => absurd hi (by simp)⟩
      have LC := Lib.hid (fun (W : World) {A A2 : Option Addr} {c c2 : Nat} {ds : Array Value} (hp : PAtZ W W.heap.size A A2 PN) (hs : ds.size = 16) (hf : FrmAt W W.heap.size (.agg ds) f) => lay_c hlay LPN HLF.out c c2 W hp hs hf)
      obtain ⟨kn, hkn⟩ : ∃ kn : Nat, k = kn ∧ 1 ≤ kn := by
        have h9 := (mayFr_iff _ _).1 hkr
        exact ⟨k.toNat, by omega, by omega⟩
      have hFR := HFR.out
      unfold freshR at hFR
      rw [if_pos hkr] at hFR
      have hRL := (Prod.mk.inj hFR).1
      have hCL := (Prod.mk.inj hFR).2
      have hcs : (r0 :: List.replicate (k.toNat - 1) noV) = CL.set 0 r0 := by
        rw [← hCL, hkn.1, Int.toNat_natCast]
        obtain ⟨m, rfl⟩ : ∃ m, kn = m + 1 := ⟨kn - 1, by omega⟩
        simp [List.replicate_succ]
      have hnc1 : 1 ≤ nc := by
        rw [← HNR.out.2, ← hCL, List.length_replicate]
        omega
      have hRE2 : R = (⟨p, lf, lm, lr, LN, RL, CL.set 0 r0, r0, 0, 0, 0, 0, 0, 0, 0, 0⟩, 0) := by rw [← hRE, hLN, ← hcs, hr0, hRL]
      have HRE := Lib.hid hRE2
      have HCN := Lib.hid (show 0 < CL.length by rw [HNR.out.2]; exact hnc1)
      have ogc := And.intro HO.out.1 (show OwnR _ W2.heap.size (.slice A17 nc c17) CL from HO.out.2)
      clear hRE hRE2 hlm hkr hPN hLN hr0 hlay LPN hkn hFR hRL hCL hcs HR2 hyes HO
      obtain ⟨og, oc⟩ := ogc
      obtain ⟨g17, c17', e17⟩ := r_form oc (by rw [HNR.out.2]; exact hnc1)
      rw [HNR.out.2] at e17
      simp only [Value.slice.injEq] at e17
      obtain ⟨rfl, -, -⟩ := e17
      go_upto_region 9 with (fail)
      go_upto_region 10 with (first
        | (guard_target = wpList _ _ _ (Oper.mk (some 74) _ _ _ _ none :: _) _ _; refine wpList_load_row rfl 32 _ rfl g14 rfl _ _ _ _ v14.x Tryz.underlying32 rfl (by kernel_rfl) ?_)
        | (guard_target = wpList _ _ _ (Oper.mk (some 75) _ _ _ _ none :: _) _ _; refine wpList_load_row rfl 60 _ rfl g12 rfl _ _ _ _ v12.x Tryz.underlying60 rfl (by rw [v12.s]; kernel_rfl) ?_)
        | (go_at_call 32; (with_reducible refine (LC.out _ v14.p v12.s v12.p).mono ?_); rintro _ u8 ⟨A18, c18, B18, d18, rfl, hz, hb7⟩; have hv := (v14.x.below hb7).alloc (.cells (refc 0 0) 36); have hm := Held.new u8 36 (refc 0 0))
        | (guard_target = wpList _ _ _ (Oper.mk _ (Op.store 32 (.tmp 17) _) _ _ _ none :: _) _ _; refine wpList_store_row rfl 32 _ _ rfl g14 (pc A18 LN.cells.length c18 B18 LN.free.length d18 LN.most) rfl rfl _ _ hv (by kernel_rfl) rfl (by simp [Value.oneCell']) ?_; have hm2 := held_row hm (Nat.ne_of_gt (Nat.lt_of_lt_of_le v14.x.lt hb7.size)) (pc A18 LN.cells.length c18 B18 LN.free.length d18 LN.most))
        | (guard_target = wpList _ _ _ (Oper.mk _ (Op.store 36 (.tmp 21) _) _ _ _ none :: _) _ _; refine wpList_store_row rfl 36 _ _ rfl u8.heap.size (refc r0.1 r0.2) rfl rfl _ _ hm2 (by kernel_rfl) rfl (by simp [Value.oneCell']) ?_))
      have a14 := v14.x.lt
      have hs8 := hb7.size
      have n10 := hs_14
      have bA : Below u8.heap.size u8 (u8.alloc (.cells (refc 0 0) 36)) := (Below.refl _ _).alloc (Nat.le_refl _) _
      have far : ∀ q, q < u8.heap.size → q ≠ g14 → (((u8.alloc (.cells (refc 0 0) 36)).setRow g14 (pc A18 LN.cells.length c18 B18 LN.free.length d18 LN.most)).setRow u8.heap.size (refc r0.1 r0.2)).heap[q]? = u8.heap[q]? := fun q hq hne =>
        ((row_far0 _ u8.heap.size _ q (Nat.ne_of_lt hq)).trans (row_far0 _ g14 (pc A18 LN.cells.length c18 B18 LN.free.length d18 LN.most) q hne)).trans (bA.block q hq)
      have h14 := v14.x.below hb7
      have kAll : KTy u8 (((u8.alloc (.cells (refc 0 0) 36)).setRow g14 (pc A18 LN.cells.length c18 B18 LN.free.length d18 LN.most)).setRow u8.heap.size (refc r0.1 r0.2)) 32 := fun q e cs fr hq hne => by
        refine far q ?_ fun e2 => ?_
        · rcases Nat.lt_or_ge q u8.heap.size with h9 | h9
          · exact h9
          · rw [Array.getElem?_eq_none h9] at hq
            cases hq
        · subst e2
          have h9 := hq.symm.trans h14
          simp only [Option.some.injEq, Obj.cells.injEq] at h9
          exact hne h9.2.1
      have q9 := held_kt (Held.below k9 hb7) kAll (by decide)
      have q10 := held_kt (Held.below k10 hb7) kAll (by decide)
      have q17 : Held (((u8.alloc (.cells (refc 0 0) 36)).setRow g14 (pc A18 LN.cells.length c18 B18 LN.free.length d18 LN.most)).setRow u8.heap.size (refc r0.1 r0.2)) g14 32 (pc A18 LN.cells.length c18 B18 LN.free.length d18 LN.most) := held_row (held_rowSelf hv (pc A18 LN.cells.length c18 B18 LN.free.length d18 LN.most)) (Nat.ne_of_lt (Nat.lt_of_lt_of_le a14 hs8)) _
      have q21 : Held (((u8.alloc (.cells (refc 0 0) 36)).setRow g14 (pc A18 LN.cells.length c18 B18 LN.free.length d18 LN.most)).setRow u8.heap.size (refc r0.1 r0.2)) u8.heap.size 36 (refc r0.1 r0.2) := held_rowSelf hm2 _
      have hz2 := hz.kt kAll (by decide) (by decide) (by decide) (by decide)
      have og2 := (og.below hb7).kt kAll (by decide) (by decide)
      have oc2 : OwnR _ W2.heap.size (.slice (some ⟨g17, 0, none⟩) nc c17) CL := row_kt (r_later oc hb7) kAll (by decide)
      have hb2 := below_setRow (below_setRow (Below.step (Below.step hb hb7) bA) (show w.heap.size ≤ g14 by omega) (pc A18 LN.cells.length c18 B18 LN.free.length d18 LN.most)) (show w.heap.size ≤ u8.heap.size by omega) (refc r0.1 r0.2)
      have hg17u : g17 < u8.heap.size := (World.ownsRow.lt (r_later oc hb7) g17 rfl).2
      have hg17 := (World.ownsRow.lt oc g17 rfl).1
      clear k9 k10 v14 v12 hz og oc hb hv hm hm2 bA far h14 kAll hb7 hs8 a14 HFR
      generalize World.setRow _ u8.heap.size _ = W6 at *
      generalize u8.heap.size = g21 at *
      have HTH := Lib.hid (row_there (o := 0) (k := 2) (show World.ownsRow W6 W2.heap.size 36 2 (.slice (some ⟨g17, 0, none⟩) nc c17) nc (flatP CL) by have h9 := oc2; unfold OwnR Own2 at h9; rw [HNR.out.2] at h9; exact h9) (by omega))
      go_upto_region 11 with (first
        | (guard_target = wpList _ _ _ (Oper.mk (some 81) _ _ _ _ none :: _) _ _; refine wpList_load_row rfl 36 _ rfl g21 rfl _ _ _ _ q21 Tryz.underlying36 rfl (by kernel_rfl) ?_)
        | (guard_target = wpList _ _ _ (Oper.mk none (Op.store 36 (.tmp 82) _) _ _ _ none :: _) _ _; refine wpList_store_mid rfl 36 _ _ rfl g17 0 ([.int .i64 r0.1, .int .i64 r0.2] : List Value).toArray rfl rfl HTH.out (by kernel_rfl) (by simp [Value.oneCell']) ?_))
      simp only [Act.put]
      have hgr := grown_setCells W6 g17 0 [.int .i64 r0.1, .int .i64 r0.2]
      have hkR : KTy W6 (W6.setCells g17 0 [.int .i64 r0.1, .int .i64 r0.2]) 36 := kt_own oc2 hgr
      replace og2 := og2.turn hgr hkR (fun b e => .inl e)
      replace oc2 : OwnR (W6.setCells g17 0 [.int .i64 r0.1, .int .i64 r0.2]) W2.heap.size (.slice (some ⟨g17, 0, none⟩) nc c17) (CL.set 0 r0) := by
        have h9 := Own2.set oc2 0 r0 HCN.out
        simpa [World.setCells] using h9
      replace hz2 := hz2.kt hkR (by decide) (by decide) (by decide) (by decide)
      replace q9 := held_kt q9 hkR (by decide)
      replace q10 := held_kt q10 hkR (by decide)
      replace q17 := held_kt q17 hkR (by decide)
      replace q21 : Held (W6.setCells g17 0 [.int .i64 r0.1, .int .i64 r0.2]) g21 36 (refc r0.1 r0.2) := (setCells_far _ _ _ _ _ (by omega)).trans q21
      replace hb2 := below_setCells hb2 (show w.heap.size ≤ g17 by omega) 0 [.int .i64 r0.1, .int .i64 r0.2]
      have n17 : (some (w.heap.size + 1) : Option Nat) ≠ some g14 := by simp; omega
      have n21 : (some (w.heap.size + 1) : Option Nat) ≠ some g21 := by simp; omega
      have n9 : (some (w.heap.size + 1) : Option Nat) ≠ some w.heap.size := by simp
      clear hgr hkR HTH HCN n10 hg17 hg17u hk2
      generalize (W6.setCells g17 0 [.int .i64 r0.1, .int .i64 r0.2]) = W7 at *
      have HO := Lib.hid (And.intro og2 (And.intro oc2 hz2))
      clear og2 oc2 hz2
      have hdr := (Below.refl W7.heap.size W7).drew
      have HO2 := Lib.hid (And.intro (HO.out.1.below hdr) (And.intro (r_later HO.out.2.1 hdr : OwnR _ W2.heap.size (.slice (some ⟨g17, 0, none⟩) nc c17) (CL.set 0 r0)) (HO.out.2.2.below hdr)))
      replace q9 := Held.below q9 hdr
      replace q10 := Held.below q10 hdr
      replace q17 := Held.below q17 hdr
      replace q21 := Held.below q21 hdr
      replace hb2 := Below.step hb2 hdr
      clear hdr HO
      refine wp_region_held_drew (S := fun W => World.grownBy W7.drew W (some (w.heap.size + 1))) (by kernel_rfl) ⟨rfl, rfl, rfl, Nat.le_refl _, fun _ _ _ => rfl⟩ (fun hS => ?_)
      generalize W7.drew = Wq at *
      have OC := Lib.hid (HOP.out Wq hb2 HMM.out)
      show wpAnyH _ _ _ _ _ 10 #[false, false, false, false, false, false, false, false, false, false] _ _
      refine wpAnyH_begin (by kernel_rfl) (fun HNS => ?_)
      refine wpAnyH_takeS HNS (i := 0) (v := .slice Ap pl c) rfl (by kernel_rfl) (by kernel_rfl) (fun _ _ _ h => h) (Or.inl ⟨by kernel_rfl, fun W hW => ?_⟩) hS ?_
      · go_simp
      simp only [Act.put, List.getElem_toArray, List.getElem_cons_succ, List.getElem_cons_zero, List.setIfInBounds_toArray, List.set_cons_zero, List.set_cons_succ]
      refine wpAnyH_takeS HNS (i := 2) (v := .agg (lmc lf lm lr)) rfl (by kernel_rfl) (by kernel_rfl) (fun _ _ _ h => h) (Or.inl ⟨by kernel_rfl, fun W hW => ?_⟩) hS ?_
      · (have hz := Held.grown q9 hW n9; have z0 := hz.cell 0; have z1 := hz.cell 1; have z2 := hz.cell 2; simp at z0 z1 z2; go_simp)
      simp only [Act.put, List.getElem_toArray, List.getElem_cons_succ, List.getElem_cons_zero, List.setIfInBounds_toArray, List.set_cons_zero, List.set_cons_succ]
      refine wpAnyH_takeS HNS (i := 3) (v := .agg (pc A18 LN.cells.length c18 B18 LN.free.length d18 LN.most)) rfl (by kernel_rfl) (by kernel_rfl) (fun _ _ _ h => h) (Or.inl ⟨by kernel_rfl, fun W hW => ?_⟩) hS ?_
      · (have hz := Held.grown q17 hW n17; have z0 := hz.cell 0; have z1 := hz.cell 1; have z2 := hz.cell 2; simp at z0 z1 z2; go_simp)
      simp only [Act.put, List.getElem_toArray, List.getElem_cons_succ, List.getElem_cons_zero, List.setIfInBounds_toArray, List.set_cons_zero, List.set_cons_succ]
      refine wpAnyH_takeS HNS (i := 4) (v := .slice A16 nr c16) rfl (by kernel_rfl) (by kernel_rfl) (fun _ _ _ h => h) (Or.inl ⟨by kernel_rfl, fun W hW => ?_⟩) hS ?_
      · go_simp
      simp only [Act.put, List.getElem_toArray, List.getElem_cons_succ, List.getElem_cons_zero, List.setIfInBounds_toArray, List.set_cons_zero, List.set_cons_succ]
      refine wpAnyH_takeS HNS (i := 5) (v := .slice (some ⟨g17, 0, none⟩) nc c17) rfl (by kernel_rfl) (by kernel_rfl) (fun _ _ _ h => h) (Or.inl ⟨by kernel_rfl, fun W hW => ?_⟩) hS ?_
      · go_simp
      simp only [Act.put, List.getElem_toArray, List.getElem_cons_succ, List.getElem_cons_zero, List.setIfInBounds_toArray, List.set_cons_zero, List.set_cons_succ]
      refine wpAnyH_takeS HNS (i := 6) (v := .agg (refc r0.1 r0.2)) rfl (by kernel_rfl) (by kernel_rfl) (fun _ _ _ h => h) (Or.inl ⟨by kernel_rfl, fun W hW => ?_⟩) hS ?_
      · (have hz := Held.grown q21 hW n21; have z0 := hz.cell 0; have z1 := hz.cell 1; simp at z0 z1; go_simp)
      simp only [Act.put, List.getElem_toArray, List.getElem_cons_succ, List.getElem_cons_zero, List.setIfInBounds_toArray, List.set_cons_zero, List.set_cons_succ]
      refine wpAnyH_ready (rs := [1]) (by kernel_rfl) (by simp) ?_
      refine (AllReadyH.cons rfl (fun K hK => ?_) AllReadyH.nil)
      · rw [if_pos (by kernel_rfl)]
        go_simp
        go_at_call 33
        (with_reducible refine (OC.out).mono ?_)
        rintro _ u9 ⟨v9, rfl, ok, hb9⟩
        obtain ⟨A9, c9, rfl, -⟩ := ok.prog ((mayP_iff p).1 HMM.out).1
        rw [HPL.out] at ok ⊢
        replace q10 := Held.below q10 hb9
        have HO3 := Lib.hid (And.intro (HO2.out.1.below hb9) (And.intro (r_later HO2.out.2.1 hb9 : OwnR _ W2.heap.size (.slice (some ⟨g17, 0, none⟩) nc c17) (CL.set 0 r0)) (And.intro (HO2.out.2.2.below hb9) (And.intro ok (Below.step hb2 hb9)))))
        replace hS := grown_step hS hb9
        clear ok hb9 HO2 hb2
        (repeat (first | go_skip | go_guarded | go_step | go_upon))
        refine hK.out _ _ hS (fun _ => ?_)
        clear hK K
        (try simp only [Act.put, List.getElem_toArray, List.getElem_cons_succ, List.getElem_cons_zero, List.setIfInBounds_toArray, List.set_cons_zero, List.set_cons_succ])
        refine wpAnyH_takeS HNS (i := 7) (v := .agg #[.slice A9 pl c9, .int .i64 lf, .int .i64 lm, .int .i64 lr, .slice A18 LN.cells.length c18, .slice B18 LN.free.length d18, .int .i64 LN.most, .slice A16 nr c16, .slice (some ⟨g17, 0, none⟩) nc c17, .int .i64 r0.1, .int .i64 r0.2, .int .i64 0, .int .i64 0, .int .i64 0, .int .i64 0, .int .i64 0, .int .i64 0, .int .i64 0, .int .i64 0]) rfl (by kernel_rfl) (by kernel_rfl) (fun _ _ _ h => h) (Or.inl ⟨by kernel_rfl, fun W hW => ?_⟩) hS ?_
        · go_simp
        simp only [Act.put, List.getElem_toArray, List.getElem_cons_succ, List.getElem_cons_zero, List.setIfInBounds_toArray, List.set_cons_zero, List.set_cons_succ]
        refine wpAnyH_ready (rs := [8]) (by kernel_rfl) (by simp) ?_
        refine (AllReadyH.cons rfl (fun K hK => ?_) AllReadyH.nil)
        · rw [if_pos (by kernel_rfl)]
          refine wp_store_row 43 _ _ rfl _ #[.slice A9 pl c9, .int .i64 lf, .int .i64 lm, .int .i64 lr, .slice A18 LN.cells.length c18, .slice B18 LN.free.length d18, .int .i64 LN.most, .slice A16 nr c16, .slice (some ⟨g17, 0, none⟩) nc c17, .int .i64 r0.1, .int .i64 r0.2, .int .i64 0, .int .i64 0, .int .i64 0, .int .i64 0, .int .i64 0, .int .i64 0, .int .i64 0, .int .i64 0] (by rfl) (by rfl) _ _ q10 (by kernel_rfl) rfl (by simp [Value.oneCell']) ?_
          replace hS := grown_row hS #[.slice A9 pl c9, .int .i64 lf, .int .i64 lm, .int .i64 lr, .slice A18 LN.cells.length c18, .slice B18 LN.free.length d18, .int .i64 LN.most, .slice A16 nr c16, .slice (some ⟨g17, 0, none⟩) nc c17, .int .i64 r0.1, .int .i64 r0.2, .int .i64 0, .int .i64 0, .int .i64 0, .int .i64 0, .int .i64 0, .int .i64 0, .int .i64 0, .int .i64 0]
          refine hK.out _ _ hS (fun _ => ?_)
          clear hK K
          (try simp only [Act.put, List.getElem_toArray, List.getElem_cons_succ, List.getElem_cons_zero, List.setIfInBounds_toArray, List.set_cons_zero, List.set_cons_succ])
          refine wpAnyH_takeS HNS (i := 9) (v := .int .i64 0) rfl (by kernel_rfl) (by kernel_rfl) (fun _ _ _ h => h) (Or.inl ⟨by kernel_rfl, fun W hW => ?_⟩) hS ?_
          · go_simp
          simp only [Act.put, List.getElem_toArray, List.getElem_cons_succ, List.getElem_cons_zero, List.setIfInBounds_toArray, List.set_cons_zero, List.set_cons_succ]
          refine wpAnyH_done (by kernel_rfl) ?_ _
          (repeat (first | go_skip | go_guarded | go_step | go_upon))
          obtain ⟨og2, oc2, hz2, ok, hb2⟩ := HO3.out
          have hbf := below_setRow hb2 (show w.heap.size ≤ (w.heap.size + 1) by omega) #[.slice A9 pl c9, .int .i64 lf, .int .i64 lm, .int .i64 lr, .slice A18 LN.cells.length c18, .slice B18 LN.free.length d18, .int .i64 LN.most, .slice A16 nr c16, .slice (some ⟨g17, 0, none⟩) nc c17, .int .i64 r0.1, .int .i64 r0.2, .int .i64 0, .int .i64 0, .int .i64 0, .int .i64 0, .int .i64 0, .int .i64 0, .int .i64 0, .int .i64 0]
          have hkW := kt_row q10 #[.slice A9 pl c9, .int .i64 lf, .int .i64 lm, .int .i64 lr, .slice A18 LN.cells.length c18, .slice B18 LN.free.length d18, .int .i64 LN.most, .slice A16 nr c16, .slice (some ⟨g17, 0, none⟩) nc c17, .int .i64 r0.1, .int .i64 r0.2, .int .i64 0, .int .i64 0, .int .i64 0, .int .i64 0, .int .i64 0, .int .i64 0, .int .i64 0, .int .i64 0]
          have hg3 := (og2.own.kt hkW (by decide) (by decide)).at
          have hc3 := own2_at (row_kt oc2 hkW (by decide))
          have hz3 := (hz2.kt hkW (by decide) (by decide) (by decide) (by decide)).at
          obtain ⟨A', c', e', hp3⟩ := (ok.kt hkW (by decide) (by decide)).prog ((mayP_iff p).1 HMM.out).1
          simp only [Value.slice.injEq] at e'
          obtain ⟨rfl, e2', rfl⟩ := e'
          have hRE := HRE.out
          subst hRE
          refine bodyPost_ret (results_ct0 rfl _ _ rfl rfl (load_wld (held_rowSelf q10 #[.slice A9 pl c9, .int .i64 lf, .int .i64 lm, .int .i64 lr, .slice A18 LN.cells.length c18, .slice B18 LN.free.length d18, .int .i64 LN.most, .slice A16 nr c16, .slice (some ⟨g17, 0, none⟩) nc c17, .int .i64 r0.1, .int .i64 r0.2, .int .i64 0, .int .i64 0, .int .i64 0, .int .i64 0, .int .i64 0, .int .i64 0, .int .i64 0, .int .i64 0]) rfl)) rfl ⟨⟨A9, c9, A18, c18, B18, d18, A16, c16, some ⟨g17, 0, none⟩, c17⟩, ?_, ⟨hp3, hz3, hg3, hc3⟩, hbf⟩
          simp only [wcs, List.length_set, HNR.out.1, HNR.out.2, HPL.out]
          rfl
end Go.Proofs.YtjibkgildfjjoaaGreatDoor

/- Layer 13: what world's calls answer, all of it; the listed variables, out of what they read as. -/
namespace Go.Proofs.YtjibkgildfjjoaaGreatDoor
set_option linter.unusedVariables false
set_option linter.unusedSimpArgs false
open Go Go.Lib Go.RowKit

theorem wc : WC TW :=
  ⟨fun c c2 s k lf lm lr w hT hp hz ha hl hB => new_w c c2 s k lf lm lr w hT hp hz ha hl hB, fun w hT h hl hB => ready_w w hT h hl.rings hl.cur hB, fun w _ h h' hl hl' hB => same_w w h h' hl hl' hB, fun k lf lm lr w hT => (fresh_w k lf lm lr w hT).mono fun _ _ h => FreshQ.r h, fun hT hb => hT.below hb⟩
theorem nor_global : Tryz.prog.globalNamed "transhumance/world.noRef" = some 0 := by kernel_rfl
theorem nor_type : (Tryz.prog.globals[0]?).map (·.type) = some 36 := by kernel_rfl
theorem nor_is : Rows.laid_transhumance_world_noRef (H := Unit) = .agg ([Lit.int .i64 (-1), Lit.int .i64 0].map .lit) := by kernel_rfl
theorem nor_of_laid {W : World} {rest : List (String × DataW Unit)} (h : laidMet Tryz.prog (("transhumance/world.noRef", Rows.laid_transhumance_world_noRef) :: rest) W) : NoR W := by
  rw [nor_is] at h
  exact held_of_laid1 nor_global nor_type Tryz.underlying36 nob_cells rfl (by kernel_rfl) (by decide) h
theorem tw_of {W : World} (h1 : Otab W) (h2 : Nob W) (h3 : NoR W) : TW W := ⟨tabB_of h1 h2, h3⟩
end Go.Proofs.YtjibkgildfjjoaaGreatDoor

