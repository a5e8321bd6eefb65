/- Layer 9: the document's New. -/
import Derived.Test.YtjibkgildfjjoaaGreatDoorzR8s
import Derived.Test.YtjibkgildfjjoaaGreatDoorzPp
import Derived.Test.YtjibkgildfjjoaaGreatDoorzHd
namespace Go.Proofs.YtjibkgildfjjoaaGreatDoor
set_option linter.unusedVariables false
set_option linter.unusedSimpArgs false
open Gm Go.RowKit Go.ChangeShapes Go.WideShapes Go.ChangeAt Go.Sort

set_option maxHeartbeats 2000000 in
set_option maxRecDepth 100000 in
theorem rnew_no {C : Nat} {A A2 : Option Addr} {p : List Fun} {args : List V} (c c2 : Nat) (fn s : Int) (w : World) (h : ProgAt w C A p) (hz : SizedP p) (hC : C ≤ w.heap.size) (hno : ¬ (mayP p = true ∧ hasI p.length fn = true ∧ isZ s = true)) :
    Calls Tryz.prog 18 #[.slice A p.length c, .int .i64 fn, .slice A2 args.length c2, .int .i64 s] w (NewQ w (newF p fn args s)) := by
  rw [newF_no hno]
  have h8 := Held.new w 60 fz0
  have hw0 : Below w.heap.size w (w.alloc (.cells fz0 60)) := (Below.refl _ _).alloc (Nat.le_refl _) _
  have CM := Lib.hid (pmay_any c (w.alloc (.cells fz0 60)) (h.below hw0 hC) hz (Nat.le_trans hC hw0.size))
  have IS := fun W => Lib.hid (is_any s W)
  have HFz := Lib.hid (fz0_own)
  have hcs : (mayP p = false) ∨ (mayP p = true ∧ decide (fn < 0) = true) ∨ (mayP p = true ∧ decide (fn < 0) = false ∧ decide ((p.length : Int) ≤ fn) = true) ∨ (mayP p = true ∧ decide (fn < 0) = false ∧ decide ((p.length : Int) ≤ fn) = false ∧ isZ s = false) := by
    by_cases h1 : mayP p = true
    · by_cases h2 : fn < 0
      · exact .inr (.inl ⟨h1, by simpa using h2⟩)
      · by_cases h3 : (p.length : Int) ≤ fn
        · exact .inr (.inr (.inl ⟨h1, by simpa using h2, by simpa using h3⟩))
        · refine .inr (.inr (.inr ⟨h1, by simpa using h2, by simpa using h3, ?_⟩))
          cases h4 : isZ s with
          | false => rfl
          | true => exact absurd ⟨h1, by simp [hasI]; omega, h4⟩ hno
    · exact .inl (by simpa using h1)
  clear h hz hC hno
  generalize mayP p = m at *
  generalize isZ s = iz at *
  generalize p.length = pl at *
  generalize args.length = al at *
  go_enter Tryz.func18, Tryz.ntmps18
  go_upto_region 1 with (fail)
  generalize w.alloc (.cells fz0 60) = W0 at *
  rcases hcs with rfl | ⟨rfl, e1⟩ | ⟨rfl, e1, e2⟩ | ⟨rfl, e1, e2, rfl⟩
  all_goals
    go_wp2_with (first
      | (go_at_call 47; (with_reducible refine CM.out.mono ?_); rintro _ u ⟨rfl, hb⟩; have hx := h8.below hb; have hbw := Below.step hw0 hb)
      | (go_at_call 48; (with_reducible refine (IS _).out.mono ?_); rintro _ u2 ⟨rfl, rfl⟩)
      | (refine wpList_store_row rfl 60 _ _ rfl w.heap.size fz0 rfl rfl _ _ hx (by kernel_rfl) rfl (by simp [Value.oneCell']) ?_))
    have l1 := run_loadVar_row (P := Tryz.prog) _ w.heap.size 60 60 _ (0, 0) _ (hx.rowSelf fz0) Tryz.underlying60 rfl (by kernel_rfl)
    exact bodyPost_ret (results_ct rfl _ _ rfl rfl l1) rfl ⟨_, rfl, HFz.out _ _, below_setRow hbw (Nat.le_refl _) _⟩
set_option maxHeartbeats 4000000 in
set_option maxRecDepth 100000 in
theorem rnew_yes {C D : Nat} {A A2 : Option Addr} {p : List Fun} {args : List V} (c c2 : Nat) (fn s : Int) (w : World) (h : ProgAt w C A p) (hz : SizedP p) (hC : C ≤ w.heap.size) (ha : VAt w D A2 args) (hl : args.length ≤ 1000) (hD : D ≤ w.heap.size) (h1 : mayP p = true) (h2 : hasI p.length fn = true) (h3 : isZ s = true) :
    Calls Tryz.prog 18 #[.slice A p.length c, .int .i64 fn, .slice A2 args.length c2, .int .i64 s] w (NewQ w (newF p fn args s)) := by
  obtain ⟨k, rfl, hk⟩ : ∃ k : Nat, fn = k ∧ k < p.length := by
    simp [hasI] at h2
    exact ⟨fn.toNat, by omega, by omega⟩
  have hR := newF_at (args := args) h1 h2 h3 (g := p[k]) (by rw [Int.toNat_natCast, List.getElem?_eq_getElem hk])
  generalize newF p k args s = R at *
  have HR := Lib.hid hR
  clear hR
  have hmf := ((mayP_iff p).1 h1).2.2 p[k] (List.getElem_mem hk)
  have hhd : headB p[k].ar p[k].lo p[k].sl = true := by
    unfold mayF at hmf
    simp at hmf
    exact hmf.1.1
  obtain ⟨⟨a0, a1⟩, ⟨b0, b1⟩, c0, c1⟩ := (headB_iff _ _ _).1 hhd
  have h8 := Held.new w 60 fz0
  have hw0 : Below w.heap.size w (w.alloc (.cells fz0 60)) := (Below.refl _ _).alloc (Nat.le_refl _) _
  have CM := Lib.hid (pmay_any c (w.alloc (.cells fz0 60)) (h.below hw0 hC) hz (Nat.le_trans hC hw0.size))
  have IS := fun W => Lib.hid (is_any s W)
  rw [h1] at CM
  rw [h3] at IS
  have MY := fun a b W => Lib.hid (rgmay_any a b W)
  have HFz := Lib.hid (fz0_own)
  have HP : ∀ W, Below w.heap.size w W → Hid (∃ b off, A = some ⟨b, off, none⟩ ∧ b < C ∧ FunAt W C b (off + k * 4) p[k]) := fun W hb => by
    obtain ⟨b, off, e1, hbl, hf⟩ := (h.below hb hC) (by omega)
    exact Lib.hid ⟨b, off, e1, hbl, hf k hk⟩
  have HA := Lib.hid (fun W (hb : Below w.heap.size w W) => ha.below hb hD)
  have HD := Lib.hid hD
  have s0 : decide ((k : Int) < 0) = false := by simp
  have s1 : decide ((p.length : Int) ≤ k) = false := by simp; omega
  have hk2 : (k : Int) < p.length := by omega
  have HL := Lib.hid hl
  generalize p[k] = g at *
  obtain ⟨ar, lo, sl, code⟩ := g
  simp only at a0 a1 b0 b1 c0 c1
  clear hmf hhd h hz ha hl h1 h2 h3 hk hC hD
  generalize hnL : args.length = nL at *
  generalize hpL : p.length = pL at *
  go_enter Tryz.func18, Tryz.ntmps18
  go_upto_region 1 with (fail)
  generalize w.alloc (.cells fz0 60) = W0 at *
  go_upto_region 3 with (first
    | (go_at_call 47; (with_reducible refine CM.out.mono ?_); rintro _ u ⟨rfl, hb⟩; have hx := h8.below hb; have hbw := Below.step hw0 hb)
    | (go_at_call 48; (with_reducible refine (IS _).out.mono ?_); rintro _ u2 ⟨rfl, rfl⟩))
  obtain ⟨b, off, e1, hbl, hf⟩ := (HP _ hbw).out
  subst e1
  obtain ⟨f0, f1, f2, Ac, cc, f3, _⟩ := hf
  simp only at f0 f1 f2 f3
  have hxl := hx.lt
  clear hb h8 hw0 CM IS HP
  go_upto_region 4 with fail
  have g0 := hx.alloc (.cells #[.int .i64 ar, .int .i64 lo, .int .i64 sl, .slice Ac code.length cc] 73)
  have g1 := Held.new u 73 #[.int .i64 ar, .int .i64 lo, .int .i64 sl, .slice Ac code.length cc]
  have gb := hbw.alloc hbw.size (.cells #[.int .i64 ar, .int .i64 lo, .int .i64 sl, .slice Ac code.length cc] 73)
  clear hx hbw f0 f1 f2 f3
  generalize u.alloc (.cells #[.int .i64 ar, .int .i64 lo, .int .i64 sl, .slice Ac code.length cc] 73) = W1 at *
  generalize u.heap.size = fb at *
  generalize (Value.slice Ac code.length cc) = cv at *
  have y0 := g1.cell 0
  have y1 := g1.cell 1
  simp at y0 y1
  have hcs : (decide (lo < ar) = true ∧ ¬ (ar ≤ lo)) ∨ (decide (lo < ar) = false ∧ ((nL : Int) != ar) = true ∧ ar ≠ nL) ∨ (decide (lo < ar) = false ∧ ((nL : Int) != ar) = false ∧ ar ≤ lo ∧ ar = nL) := by
    by_cases q1 : lo < ar
    · exact .inl ⟨by simpa using q1, by omega⟩
    · by_cases q2 : ar = nL
      · exact .inr (.inr ⟨by simpa using q1, by simpa using q2.symm, by omega, q2⟩)
      · exact .inr (.inl ⟨by simpa using q1, by simpa using fun e : (nL : Int) = ar => q2 e.symm, q2⟩)
  rcases hcs with ⟨q1, q2⟩ | ⟨q1, q2, q3⟩ | ⟨q1, q2, q3, q4⟩
  · obtain rfl : R = (frm0, false) := by rw [HR.out, if_neg (fun e => q2 (by have := e.1; omega))]
    clear q2
    go_wp2_with (first
      | (refine wpList_store_row rfl 60 _ _ rfl w.heap.size fz0 rfl rfl _ _ g0 (by kernel_rfl) rfl (by simp [Value.oneCell']) ?_))
    have l1 := run_loadVar_row (P := Tryz.prog) _ w.heap.size 60 60 _ (0, 0) _ (g0.rowSelf fz0) Tryz.underlying60 rfl (by kernel_rfl)
    exact bodyPost_ret (results_ct rfl _ _ rfl rfl l1) rfl ⟨_, rfl, HFz.out _ _, below_setRow gb (Nat.le_refl _) _⟩
  · obtain rfl : R = (frm0, false) := by rw [HR.out, if_neg (fun e => q3 (by have := e.2.1; omega))]
    clear q3
    go_wp2_with (first
      | (refine wpList_store_row rfl 60 _ _ rfl w.heap.size fz0 rfl rfl _ _ g0 (by kernel_rfl) rfl (by simp [Value.oneCell']) ?_))
    have l1 := run_loadVar_row (P := Tryz.prog) _ w.heap.size 60 60 _ (0, 0) _ (g0.rowSelf fz0) Tryz.underlying60 rfl (by kernel_rfl)
    exact bodyPost_ret (results_ct rfl _ _ rfl rfl l1) rfl ⟨_, rfl, HFz.out _ _, below_setRow gb (Nat.le_refl _) _⟩
  · obtain ⟨nl, hnl⟩ : ∃ n : Nat, lo = n := ⟨lo.toNat, by omega⟩
    obtain ⟨ns, hns⟩ : ∃ n : Nat, sl = n := ⟨sl.toNat, by omega⟩
    subst hnl hns
    have hwl : w.heap.size < W1.heap.size := g0.lt
    have f11 := Held.new W1 60 fz0
    go_upto_region 7 with (first
      | (guard_target = wpList _ _ _ (Oper.mk _ (Op.alloc 60) _ _ _ none :: _) _ _; refine wpList_alloc_arr rfl 60 rfl fz0 (by kernel_rfl) ?_)
      | (guard_target = wpList _ _ _ (Oper.mk _ (Op.store 60 (.tmp 11) _) _ _ _ none :: _) _ _; refine wpList_store_row rfl 60 _ _ rfl W1.heap.size (fcA (frmN k s [] []) (.slice none 0 0) (.slice none 0 0) (.slice none 0 0)) rfl rfl _ _ f11 (by kernel_rfl) rfl (by simp [Value.oneCell']) ?_))
    have hN0 : NwL w fb W1.heap.size #[.int .i64 ar, .int .i64 nl, .int .i64 ns, cv] k s [] 0 none 0 ((W1.alloc (.cells fz0 60)).setRow W1.heap.size (fcA (frmN k s [] []) (.slice none 0 0) (.slice none 0 0) (.slice none 0 0))) :=
      ⟨(g1.alloc _).row (Nat.ne_of_lt g1.lt) _, f11.rowSelf _, (g0.alloc _).row (Nat.ne_of_lt hwl) _, OwnVs.nil _ _, below_row (gb.alloc gb.size _) gb.size _, hwl⟩
    generalize (W1.alloc (.cells fz0 60)).setRow W1.heap.size (fcA (frmN k s [] []) (.slice none 0 0) (.slice none 0 0) (.slice none 0 0)) = W2 at *
    generalize W1.heap.size = gF at *
    obtain ⟨P, hP⟩ : ∃ P, P = args ++ List.replicate (nl - nL) ((0, 0) : V) := ⟨_, rfl⟩
    have hPl : P.length = nl := by rw [hP, List.length_append, List.length_replicate, hnL]; omega
    have HPL := Lib.hid hPl
    have HPE := Lib.hid hP
    have HNL := Lib.hid hnL
    have HB := Lib.hid (show nl ≤ 16 ∧ ns ≤ 8 ∧ nL ≤ nl by omega)
    have HQ := Lib.hid (And.intro q3 q4)
    have HN0 := Lib.hid hN0
    clear g0 g1 gb y0 y1 q1 q2 q3 q4 f11 hwl a0 a1 b0 b1 c0 c1 hP hPl hnL hN0 s0 s1 hk2 hpL hxl hbl
    go_wp2_with fail
    go_loopw [12] (fun iv wr => ∃ (j : Nat) (A9 : Option Addr) (c9 : Nat), iv = .int .i64 j ∧ j ≤ nl ∧ (∀ v ∈ P.take j, mayB v.1 v.2 = true) ∧ NwL w fb gF #[.int .i64 ar, .int .i64 nl, .int .i64 ns, cv] k s (P.take j) j A9 c9 wr) (fun iv _ => nl - (intOf iv).toNat)
    case atStart => exact ⟨0, none, 0, rfl, Nat.zero_le _, by simp, HN0.out⟩
    case round =>
      obtain ⟨j, A9, c9, rfl, hj, hall, hN⟩ := hrel
      have HALL := Lib.hid hall
      clear hall
      have hB := HB.out
      have y1 := hN.hx.cell 1
      have y2 := hN.hx.cell 2
      simp at y1 y2
      by_cases hlt : j < nl
      · have hlt2 : (j : Int) < nl := by omega
        have hjP : j < P.length := by rw [HPL.out]; exact hlt
        have hj16 : (j : Int) < 16 := by omega
        obtain ⟨x, y, hxy⟩ : ∃ x y, P[j] = (x, y) := ⟨_, _, rfl⟩
        have hwr : Below w.heap.size w wr := hN.bw
        have harg : j < nL → ∃ gA oA, A2 = some ⟨gA, oA, none⟩ ∧ wr.cell? ⟨gA, oA + j * 2, none⟩ = some (.int .i64 x) ∧ wr.cell? ⟨gA, oA + j * 2 + 1, none⟩ = some (.int .i64 y) ∧ gA < wr.heap.size := fun hja => by
          have hal : j < args.length := by rw [HNL.out]; exact hja
          obtain ⟨gA, oA, e, hg, hc⟩ := HA.out wr hwr (by omega)
          have he : args[j] = (x, y) := by
            rw [← hxy]
            simp only [HPE.out]
            rw [List.getElem_append_left hal]
          obtain ⟨q0, q1⟩ := hc j hal
          rw [he] at q0 q1
          exact ⟨gA, oA, e, q0, q1, Nat.lt_of_lt_of_le hg (Nat.le_trans HD.out hwr.size)⟩
        have hzero : ¬ j < nL → x = 0 ∧ y = 0 := fun hja => by
          have he : P[j] = (0, 0) := by
            simp only [HPE.out]
            rw [List.getElem_append_right (by rw [HNL.out]; omega), List.getElem_replicate]
          rw [hxy] at he
          exact ⟨congrArg Prod.fst he, congrArg Prod.snd he⟩
        have hbad : mayB x y = false → R = (frm0, false) := fun hm => by
          rw [HR.out, if_neg]
          rintro ⟨_, _, hall⟩
          by_cases hja : j < nL
          · have hal : j < args.length := by rw [HNL.out]; exact hja
            have he : args[j] = (x, y) := by
              rw [← hxy]
              simp only [HPE.out]
              rw [List.getElem_append_left hal]
            have := List.all_eq_true.1 hall _ (List.getElem_mem hal)
            rw [he] at this
            simp only at this
            rw [hm] at this
            cases this
          · obtain ⟨rfl, rfl⟩ := hzero hja
            revert hm
            decide
        have h13 := Held.new wr 38 #[.int .i64 0, .int .i64 0]
        have hb13 : Below wr.heap.size wr (wr.alloc (.cells #[.int .i64 0, .int .i64 0] 38)) := (Below.refl _ _).alloc (Nat.le_refl _) _
        have HXY := Lib.hid hxy
        have HBAD := Lib.hid hbad
        have HN := Lib.hid hN
        clear hxy hbad hN hwr
        go_upto_if 65 with (fail)
        go_cut [] (fun wx => Held wx wr.heap.size 38 #[.int .i64 x, .int .i64 y] ∧ Below wr.heap.size wr wx)
        case first =>
          generalize wr.alloc (.cells #[.int .i64 0, .int .i64 0] 38) = W3 at *
          by_cases hja : j < nL
          · obtain ⟨gA, oA, rfl, ca, cb, hgA⟩ := harg hja
            have hja2 : (j : Int) < nL := by omega
            have ca' := (hb13.cell (p := ⟨gA, _, none⟩) hgA).trans ca
            have cb' := (hb13.cell (p := ⟨gA, _, none⟩) hgA).trans cb
            have z0 := h13.cell 0
            have z1 := h13.cell 1
            have e0 := h13.fz 0
            have e1 := h13.fz 1
            have hl13 := h13.lt
            have hj0 : (0 : Int) ≤ j := Int.natCast_nonneg j
            simp at z0 z1
            clear ca cb harg hzero
            go_wp2_with fail
            go_meet
            case rel => exact ⟨(h13.set_at 0 _).set_at 1 _, (hb13.setCell (p := ⟨wr.heap.size, 0, none⟩) (Nat.le_refl _) _).setCell (p := ⟨wr.heap.size, 1, none⟩) (Nat.le_refl _) _⟩
          · obtain ⟨rfl, rfl⟩ := hzero hja
            have hja2 : decide ((j : Int) < nL) = false := by simp; omega
            clear harg hzero
            go_wp2_with fail
            go_meet
            case rel => exact ⟨h13, hb13⟩
        case rest =>
        obtain ⟨hv, hbv⟩ := hcut
        generalize wc = W4 at *
        have hN4 := HN.out.below hbv
        generalize wr.heap.size = gV at *
        clear h13 hb13 harg hzero HN hbv
        have v0 := hv.cell 0
        have v1 := hv.cell 1
        simp at v0 v1
        have MYv := MY x y W4
        by_cases hm : mayB x y = true
        · have hmy := hm
          rw [hm] at MYv
          clear hm
          go_upto_region 15 with (go_at_call 49; (with_reducible refine MYv.out.mono ?_); rintro _ u5 ⟨rfl, hb5⟩)
          have hN5 := hN4.below hb5
          have hv5 := hv.below hb5
          have w0 := hv5.cell 0
          have w1 := hv5.cell 1
          have x3 := hN5.hf.cell 3
          simp at w0 w1 x3
          have hN6 := hN5.below (w := w) (W' := u5.alloc (.cells #[.int .i64 x, .int .i64 y] 38)) ((Below.refl _ _).alloc (Nat.le_refl _) _)
          have HMY := Lib.hid hmy
          have HOA := Lib.hid hN6.ol
          have HVA := Lib.hid (one_at (w := u5) x y)
          have HBB := Lib.hid hN6.bw.size
          have HLE := Lib.hid (show (P.take j).length + 1 ≤ 1000000 by rw [List.length_take, HPL.out]; omega)
          have HF6 := Lib.hid hN6.hf
          have HNE : Hid ((Value.slice A9 j c9).ownBlock ≠ some gF) := Lib.hid (fun e => row_apart hN6.ol hN6.hf tyFV _ e rfl)
          have HN6 := Lib.hid hN6
          have HTK := Lib.hid (show P.take (j + 1) = P.take j ++ [(x, y)] by rw [List.take_succ_eq_append_getElem hjP, HXY.out])
          have HKL := Lib.hid (show (P.take j ++ [(x, y)]).length = j + 1 by rw [List.length_append, List.length_take, HPL.out]; simp; omega)
          clear hN4 hv v0 v1 MYv hb5 hN5 hv5 hN6 HXY HBAD hmy
          generalize P.take j = L at *
          go_wp2_with (at_builtin; refine wpList_append_vs (k := [(x, y)]) (n := 1) rfl _ _ rfl w.heap.size _ L rfl HOA.out rfl rfl HVA.out (Nat.le_refl _) HLE.out HBB.out ?_; intro v' u6 k1 k2 k3; obtain ⟨A', c', rfl, _⟩ := k1.lies; generalize hK : L ++ [(x, y)] = K at *; have hf6 := HF6.out.grown k2 HNE.out; have q3 := hf6.cell 3; have z3 := hf6.fz 3; have ql := hf6.lt; simp at q3; have HKE := Lib.hid hK; have K1 := Lib.hid k1; have K2 := Lib.hid k2; clear k1 k2 k3 hf6 hK)
          go_roundw
          case rel =>
            refine ⟨j + 1, A', c', by go_num, by omega, ?_, ?_⟩
            · rw [HTK.out, ← HKE.out]
              intro v hv
              rcases List.mem_append.1 hv with h | h
              · exact HALL.out v h
              · simp only [List.mem_singleton] at h
                subst h
                exact HMY.out
            · have h9 := HN6.out.app K1.out K2.out
              rw [HKL.out] at h9 ⊢
              rw [HTK.out]
              exact h9
          case measure => simp [intOf]; omega
        · have hm' : mayB x y = false := by simpa using hm
          rw [hm'] at MYv
          obtain rfl := HBAD.out hm'
          clear hm
          go_wp2_with (first
            | (go_at_call 49; (with_reducible refine MYv.out.mono ?_); rintro _ u5 ⟨rfl, hb5⟩; have h5 := hN4.h8.below hb5; have hbw5 := Below.step hN4.bw hb5)
            | (refine wpList_store_row rfl 60 _ _ rfl w.heap.size fz0 rfl rfl _ _ h5 (by kernel_rfl) rfl (by simp [Value.oneCell']) ?_))
          have l1 := run_loadVar_row (P := Tryz.prog) _ w.heap.size 60 60 _ (0, 0) _ (h5.rowSelf fz0) Tryz.underlying60 rfl (by kernel_rfl)
          exact bodyPost_ret (results_ct rfl _ _ rfl rfl l1) rfl ⟨_, rfl, HFz.out _ _, below_setRow hbw5 (Nat.le_refl _) _⟩
      · obtain rfl : j = nl := by omega
        have htk : P.take j = P := List.take_of_length_le (by rw [HPL.out]; exact Nat.le_refl _)
        have hS := hN.slots
        rw [htk] at hS
        have hRR : R = (frmN k s P (List.replicate ns slt0), true) := by
          rw [HR.out, if_pos ⟨HQ.out.1, HQ.out.2, List.all_eq_true.2 fun v hv => HALL.out v (by rw [htk, HPE.out]; exact List.mem_append_left _ hv)⟩]
          simp only [Int.toNat_natCast, HNL.out]
          rw [← HPE.out]
        subst hRR
        have HS := Lib.hid hS
        have hb1 : decide ((j : Int) < j) = false := by simp
        clear hS hN htk HALL HR hj hlt HN0 HA HPE
        go_wp2_with fail
        go_loopw [14] (fun iv wr2 => ∃ (i : Nat) (A8 : Option Addr) (c8 : Nat), iv = .int .i64 i ∧ i ≤ ns ∧ NwS w fb gF #[.int .i64 ar, .int .i64 j, .int .i64 ns, cv] k s P (.slice A9 j c9) (List.replicate i slt0) i A8 c8 wr2) (fun iv _ => ns - (intOf iv).toNat)
        case atStart => exact ⟨0, none, 0, rfl, Nat.zero_le _, HS.out⟩
        case round =>
          obtain ⟨i, A8, c8, rfl, hi, hN⟩ := hrel
          have y2 := hN.hx.cell 2
          simp at y2
          by_cases hlt : i < ns
          · have hlt2 : (i : Int) < ns := by omega
            have hi16 : (i : Int) < 16 := by omega
            have x4 := hN.hf.cell 4
            simp at x4
            have hN6 := hN.below (w := w) (W' := wr.alloc (.cells sz0 96)) ((Below.refl _ _).alloc (Nat.le_refl _) _)
            have HOA := Lib.hid hN6.os
            have HVA := Lib.hid (slot_at (w := wr))
            have HBB := Lib.hid hN6.bw.size
            have HLE := Lib.hid (show (List.replicate i slt0).length + 1 ≤ 1000000 by rw [List.length_replicate]; omega)
            have HF6 := Lib.hid hN6.hf
            have HNE : Hid ((Value.slice A8 i c8).ownBlock ≠ some gF) := Lib.hid (fun e => row_apart hN6.os hN6.hf tyFS _ e rfl)
            have HN6 := Lib.hid hN6
            have HTK := Lib.hid (show List.replicate (i + 1) slt0 = List.replicate i slt0 ++ [slt0] from List.replicate_succ')
            have HKL := Lib.hid (show (List.replicate i slt0 ++ [slt0]).length = i + 1 by rw [List.length_append, List.length_replicate]; rfl)
            clear hN hN6
            generalize List.replicate i slt0 = L at *
            go_wp2_with (at_builtin; refine wpList_append_ss (k := [slt0]) (n := 1) rfl _ _ rfl w.heap.size _ L rfl HOA.out rfl rfl HVA.out (Nat.le_refl _) HLE.out HBB.out ?_; intro v' u6 k1 k2 k3; obtain ⟨A', c', rfl, _⟩ := k1.lies; generalize hK : L ++ [slt0] = K at *; have hf6 := HF6.out.grown k2 HNE.out; have q4 := hf6.cell 4; have z4 := hf6.fz 4; have ql := hf6.lt; simp at q4; have K1 := Lib.hid k1; have K2 := Lib.hid k2; clear k1 k2 k3 hf6 hK)
            go_roundw
            case rel =>
              refine ⟨i + 1, A', c', by go_num, by omega, ?_⟩
              have h9 := HN6.out.app K1.out K2.out
              rw [HKL.out] at h9 ⊢
              rw [HTK.out]
              exact h9
            case measure => simp [intOf]; omega
          · obtain rfl : i = ns := by omega
            have hb2 : decide ((i : Int) < i) = false := by simp
            have hf := hN.hf
            have h8 := hN.h8
            have hdone := hN.done
            have hbw := hN.bw
            clear hlt hi
            go_wp2_with (first
              | (guard_target = wpList _ _ _ (Oper.mk _ (Op.load 60 (.tmp 11)) _ _ _ none :: _) _ _; refine wpList_load_row rfl 60 _ rfl gF rfl _ _ _ _ hf Tryz.underlying60 rfl (by kernel_rfl) ?_)
              | (refine wpList_store_row rfl 60 _ _ rfl w.heap.size (fcA (frmN k s P (List.replicate i slt0)) (.slice none 0 0) (.slice A9 j c9) (.slice A8 i c8)) rfl rfl _ _ h8 (by kernel_rfl) rfl (by simp [Value.oneCell']) ?_))
            have l1 := run_loadVar_row (P := Tryz.prog) _ w.heap.size 60 60 _ (0, 0) _ (h8.rowSelf (fcA (frmN k s P (List.replicate i slt0)) (.slice none 0 0) (.slice A9 j c9) (.slice A8 i c8))) Tryz.underlying60 rfl (by kernel_rfl)
            exact bodyPost_ret (results_ct rfl _ _ rfl rfl l1) rfl ⟨_, rfl, hdone, below_setRow hbw (Nat.le_refl _) _⟩
end Go.Proofs.YtjibkgildfjjoaaGreatDoor

