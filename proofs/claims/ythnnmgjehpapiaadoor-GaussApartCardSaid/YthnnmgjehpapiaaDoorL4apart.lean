/- Layer 4: GaussApart: sums, products and quotients by what is not 0 of unlike values are unlike; each value is the sum of its conjugate and a value without real part. For all values. -/
import Derived.Test.YthnnmgjehpapiaaDoorL4lib
import Derived.Test.YthnnmgjehpapiaaDoorGref
namespace Go.Proofs.YthnnmgjehpapiaaDoor.gaussApart
set_option linter.unusedVariables false
set_option linter.unusedSimpArgs false
open Go.ChangeShapes Go.WideShapes Go.ChangeAt Go.RowKit Gm Fl Go.Sort

theorem fixed_ctx : Ctx 20 #[] (.bool true) := fun W hT => fixed_true W hT
theorem may_ct {a b : Int} {o : Bool} (h : mayB a b = o) : Ct Tryd.prog 26 #[gv a b] (.bool o) := fun W => by have := rmay_any a b W; rwa [h] at this

/-! ### The plain mathematics -/
theorem add_cancel {a b c : V} (ha : gMay a) (hb : gMay b) (h : gAdd a c = gAdd b c) : a = b := by
  have := congrArg (fun x => gSub x c) h
  simp only [sub_add, of_in ha, of_in hb] at this
  exact this
theorem sub_cancel {a b c : V} (ha : gMay a) (hb : gMay b) (h : gSub c a = gSub c b) : a = b := by
  obtain ⟨a0, a1, a2, a3⟩ := ha
  obtain ⟨b0, b1, b2, b3⟩ := hb
  rw [sub_def, sub_def] at h
  have h1 : rs (c.1 - a.1) = rs (c.1 - b.1) := congrArg Prod.fst h
  have h2 : rs (c.2 - a.2) = rs (c.2 - b.2) := congrArg Prod.snd h
  unfold rs at h1 h2
  exact Prod.ext (by omega) (by omega)
theorem sub_conj (a : V) : (gSub a (gConj a)).1 = 0 := by
  rw [conj_def, sub_ofr, sub_def]
  show rs (a.1 - a.1) = 0
  rw [Int.sub_self]; rfl
theorem quo_cancel {a b c : V} (ha : gMay a) (hb : gMay b) (hc : gNorm c ≠ 0) (h : gQuo a c = gQuo b c) : a = b := by
  have := congrArg (fun x => gMul x c) h
  simp only [quo_mul hc, of_in ha, of_in hb] at this
  exact this

set_option maxHeartbeats 1000000 in
set_option maxRecDepth 100000 in
/-- Where one of them may not be, the fixed calls alone are asked. -/
theorem other (a b c d e f : Int) (w : World) (hT : Tab w) (h : mayB a b = false ∨ (mayB a b = true ∧ mayB c d = false) ∨ (mayB a b = true ∧ mayB c d = true ∧ mayB e f = false)) :
    Calls Tryd.prog 8 #[gv a b, gv c d, gv e f] w fun e w' => e = .returned (.bool true) ∧ Below w.heap.size w w' := by
  have FX := fixed_ctx
  rcases h with h | ⟨h, h'⟩ | ⟨h, h', h''⟩
  all_goals
    have Y1 := may_ct h
    first | have Y2 := may_ct h' | skip
    first | have Y3 := may_ct h'' | skip
    go_enter Tryd.func8, Tryd.ntmps8
    go_wp2_with (first
      | (go_at_call 20; (with_reducible refine (FX.go _ (hT.below (below3 w _ _ _))).mono ?_); rintro e v ⟨rfl, hb⟩; have hx := (((Held.new w _ _).alloc _).alloc _).below hb; have hy := ((Held.new1 w _ _ _).alloc _).below hb; have hz := (Held.new2 w _ _ _ _).below hb; have hw := Below.step (below3 w _ _ _) hb; clear hb; obtain ⟨c0, c1, _, _⟩ := hx.two; obtain ⟨c2, c3, _, _⟩ := hy.two; obtain ⟨c4, c5, _, _⟩ := hz.two)
      | (go_at_call 26; (first | with_reducible refine (Y1.go _).mono ?_ | with_reducible refine (Y2.go _).mono ?_ | with_reducible refine (Y3.go _).mono ?_); rintro e v2 ⟨rfl, hb⟩; replace hx := hx.below hb; replace hy := hy.below hb; replace hz := hz.below hb; replace hw := Below.step hw hb; clear hb c0 c1 c2 c3 c4 c5; obtain ⟨c0, c1, _, _⟩ := hx.two; obtain ⟨c2, c3, _, _⟩ := hy.two; obtain ⟨c4, c5, _, _⟩ := hz.two)
      | (go_at_call 20; (with_reducible refine (FX.go _ (hT.below hw)).mono ?_); rintro e v3 ⟨rfl, hb⟩; replace hw := Below.step hw hb; clear hb))
    go_ret
    exact ⟨rfl, hw⟩

/-- What the law asks of the answers: which are alike. -/
structure Ans (a b c d e f : Int) (sA sB dA dB qA qB mA mB : V) (j : V) (z : Int) (o same zero : Bool) (tA tB : ByteArray) : Prop where
  ac : Ct Tryd.prog 12 #[gv a b, gv e f] (gv sA.1 sA.2)
  bc : Ct Tryd.prog 12 #[gv c d, gv e f] (gv sB.1 sB.2)
  ca : Ct Tryd.prog 14 #[gv e f, gv a b] (gv dA.1 dA.2)
  cb : Ct Tryd.prog 14 #[gv e f, gv c d] (gv dB.1 dB.2)
  ja : Ct Tryd.prog 18 #[gv a b] (gv j.1 j.2)
  sj : Ct Tryd.prog 14 #[gv a b, gv j.1 j.2] (.agg #[.int .i64 0, .int .i64 z])
  da : Ct Tryd.prog 10 #[gv a b, gv e f] (.tuple #[gv qA.1 qA.2, .bool o])
  db : Ct Tryd.prog 10 #[gv c d, gv e f] (.tuple #[gv qB.1 qB.2, .bool o])
  ma : Ct Tryd.prog 16 #[gv a b, gv e f] (gv mA.1 mA.2)
  mb : Ct Tryd.prog 16 #[gv c d, gv e f] (gv mB.1 mB.2)
  ta : Ctx 23 #[gv a b] (.string tA)
  tb : Ctx 23 #[gv c d] (.string tB)
  e0 : ∀ W, (binOp .eql 23 (gv a b) (gv c d)).run Tryd.prog W = .ok (.bool same) W
  e1 : ∀ W, (binOp .eql 23 (gv sA.1 sA.2) (gv sB.1 sB.2)).run Tryd.prog W = .ok (.bool same) W
  e2 : ∀ W, (binOp .eql 23 (gv dA.1 dA.2) (gv dB.1 dB.2)).run Tryd.prog W = .ok (.bool same) W
  e3 : ∀ W, (binOp .eql 23 (gv e f) (gv 0 0)).run Tryd.prog W = .ok (.bool zero) W
  e4 : zero = false → ∀ W, (binOp .eql 23 (gv qA.1 qA.2) (gv qB.1 qB.2)).run Tryd.prog W = .ok (.bool same) W
  e5 : zero = false → ∀ W, (binOp .eql 23 (gv mA.1 mA.2) (gv mB.1 mB.2)).run Tryd.prog W = .ok (.bool same) W
  e6 : (tA.toList == tB.toList) = same
  oz : o = !zero

theorem ans (a b c d e f : Int) (h : mayB a b = true) (h' : mayB c d = true) (h'' : mayB e f = true) :
    ∃ sA sB dA dB qA qB mA mB j z o same zero tA tB, Ans a b c d e f sA sB dA dB qA qB mA mB j z o same zero tA tB := by
  have ha := (may_iff a b).1 h
  have hb := (may_iff c d).1 h'
  have hc := (may_iff e f).1 h''
  have dec : ∀ {x y : V}, (x = y ↔ (a, b) = (c, d)) → ∀ W, (binOp .eql 23 (gv x.1 x.2) (gv y.1 y.2)).run Tryd.prog W = .ok (.bool (decide ((a, b) = (c, d)))) W := fun {x y} hh W => by
    rw [eqv_run]; congr 2; exact decide_eq_decide.2 hh
  have nz : decide ((e, f) = (0, 0)) = false → gNorm (e, f) ≠ 0 := fun hz hn => by
    have := (norm_iff (e, f)).1 hn
    rw [of_in hc] at this
    exact (of_decide_eq_false hz) this
  refine ⟨gAdd (a, b) (e, f), gAdd (c, d) (e, f), gSub (e, f) (a, b), gSub (e, f) (c, d), gQuo (a, b) (e, f), gQuo (c, d) (e, f), gMul (a, b) (e, f), gMul (c, d) (e, f), gConj (a, b), (gSub (a, b) (gConj (a, b))).2,
    decide (gNorm (e, f) ≠ 0), decide ((a, b) = (c, d)), decide ((e, f) = (0, 0)), ⟨(gText (a, b)).toArray⟩, ⟨(gText (c, d)).toArray⟩,
    cb_add rfl, cb_add rfl, cb_sub rfl, cb_sub rfl, cb_conj rfl, cb_sub (Prod.ext (sub_conj (a, b)) rfl), cb_div rfl rfl, cb_div rfl rfl, cb_mul rfl, cb_mul rfl, ctx_text rfl, ctx_text rfl, fun W => eqv_run a b c d W,
    dec ⟨add_cancel ha hb, fun hh => by rw [hh]⟩, dec ⟨sub_cancel ha hb, fun hh => by rw [hh]⟩, fun W => eqv_run e f 0 0 W, fun hz => dec ⟨quo_cancel ha hb (nz hz), fun hh => by rw [hh]⟩,
    fun hz => dec ⟨fun hh => by have := mul_cancel (nz hz) hh; rwa [of_in ha, of_in hb] at this, fun hh => by rw [hh]⟩, ?_, ?_⟩
  · rw [ByteArray.toList_eq, ByteArray.toList_eq, Bool.eq_iff_iff]
    simp only [beq_iff_eq, decide_eq_true_eq]
    exact text_inj ha hb
  · by_cases hz : (e, f) = (0, 0)
    · rw [decide_eq_true hz, decide_eq_false (fun hn => hn ((norm_iff (e, f)).2 ((of_in hc).trans hz)))]; rfl
    · rw [decide_eq_false hz, decide_eq_true (nz (decide_eq_false hz))]; rfl

set_option maxHeartbeats 4000000 in
set_option maxRecDepth 100000 in
theorem good (a b c d e f : Int) (w : World) (hT : Tab w) (h : mayB a b = true) (h' : mayB c d = true) (h'' : mayB e f = true) :
    Calls Tryd.prog 8 #[gv a b, gv c d, gv e f] w fun e w' => e = .returned (.bool true) ∧ Below w.heap.size w w' := by
  have FX := fixed_ctx
  have Y1 := may_ct h
  have Y2 := may_ct h'
  have Y3 := may_ct h''
  obtain ⟨sA, sB, dA, dB, qA, qB, mA, mB, j, z, o, same, zero, tA, tB, AC, BC, CA, CB, JA, SJ, DA, DB, MA, MB, TA, TB, E0, E1, E2, E3, E4, E5, E6, OZ⟩ := ans a b c d e f h h' h''
  subst OZ
  have KF : ∀ W, (Instr.field 23 (.agg #[.int .i64 0, .int .i64 z]) 0).run Tryd.prog W = .ok (.int .i64 0) W := fun W => field0 0 z W
  clear h h' h''
  go_enter Tryd.func8, Tryd.ntmps8
  go_upto_region 4 with (first
    | (go_at_call 20; (with_reducible refine (FX.go _ (hT.below (below3 w _ _ _))).mono ?_); rintro e v ⟨rfl, hb⟩; have hx := (((Held.new w _ _).alloc _).alloc _).below hb; have hy := ((Held.new1 w _ _ _).alloc _).below hb; have hz := (Held.new2 w _ _ _ _).below hb; have hw := Below.step (below3 w _ _ _) hb; clear hb; obtain ⟨c0, c1, _, _⟩ := hx.two; obtain ⟨c2, c3, _, _⟩ := hy.two; obtain ⟨c4, c5, _, _⟩ := hz.two)
    | (go_at_call 26; (first | with_reducible refine (Y1.go _).mono ?_ | with_reducible refine (Y2.go _).mono ?_ | with_reducible refine (Y3.go _).mono ?_); rintro e v2 ⟨rfl, hb⟩; replace hx := hx.below hb; replace hy := hy.below hb; replace hz := hz.below hb; replace hw := Below.step hw hb; clear hb c0 c1 c2 c3 c4 c5; obtain ⟨c0, c1, _, _⟩ := hx.two; obtain ⟨c2, c3, _, _⟩ := hy.two; obtain ⟨c4, c5, _, _⟩ := hz.two))
  clear c0 c1 c2 c3 c4 c5 Y1 Y2 Y3 FX
  obtain ⟨hx0, hx1, _, _⟩ := hx.two
  have hxg := fun d os => cell_regrown hx0 d os
  have hxk := fun d os => cell_regrown hx1 d os
  clear hx0 hx1
  obtain ⟨hy0, hy1, _, _⟩ := hy.two
  have hyg := fun d os => cell_regrown hy0 d os
  have hyk := fun d os => cell_regrown hy1 d os
  clear hy0 hy1
  obtain ⟨hz0, hz1, _, _⟩ := hz.two
  have hzg := fun d os => cell_regrown hz0 d os
  have hzk := fun d os => cell_regrown hz1 d os
  clear hz0 hz1
  refine wp_region_quiet_below (by kernel_rfl) (by kernel_rfl) ?_
  repeat (first
    | go_big_quiet_step ((first
        | (go_at_call 12; (with_reducible exact Calls.regrown_of (AC.go _)))
        | (go_at_call 12; (with_reducible exact Calls.regrown_of (BC.go _)))
        | (go_at_call 14; (with_reducible exact Calls.regrown_of (CA.go _)))
        | (go_at_call 14; (with_reducible exact Calls.regrown_of (CB.go _)))
        | (go_at_call 18; (with_reducible exact Calls.regrown_of (JA.go _)))
        | (go_at_call 14; (with_reducible exact Calls.regrown_of (SJ.go _)))))
    | quiet_step ((first
        | (go_at_call 12; (with_reducible exact Calls.regrown_of (AC.go _)))
        | (go_at_call 12; (with_reducible exact Calls.regrown_of (BC.go _)))
        | (go_at_call 14; (with_reducible exact Calls.regrown_of (CA.go _)))
        | (go_at_call 14; (with_reducible exact Calls.regrown_of (CB.go _)))
        | (go_at_call 18; (with_reducible exact Calls.regrown_of (JA.go _)))
        | (go_at_call 14; (with_reducible exact Calls.regrown_of (SJ.go _))))))
  refine wpQuiet_nil ?_
  intro v3 hv
  have hb := below_of_regrown hv
  clear hv hxg hxk hyg hyk hzg hzk
  replace hx := hx.below hb
  replace hy := hy.below hb
  replace hz := hz.below hb
  replace hw := Below.step hw hb
  clear hb
  clear AC BC CA CB JA SJ E0 E1 E2
  obtain ⟨c0, c1, _, _⟩ := hx.two
  obtain ⟨c2, c3, _, _⟩ := hy.two
  obtain ⟨c4, c5, _, _⟩ := hz.two
  go_upto_region 9 with (first
    | (go_at_call 10; (with_reducible refine (DA.go _).mono ?_); rintro e v5 ⟨rfl, hb⟩; replace hx := hx.below hb; replace hy := hy.below hb; replace hz := hz.below hb; replace hw := Below.step hw hb; clear hb c0 c1 c2 c3 c4 c5; obtain ⟨c2, c3, _, _⟩ := hy.two; obtain ⟨c4, c5, _, _⟩ := hz.two; have l1 := hy.lt; have l2 := hz.lt)
    | (go_at_call 10; (with_reducible refine (DB.go _).mono ?_); rintro e v6 ⟨rfl, hb⟩; have hp := (Held.new v5 _ _).below hb; replace hx := (hx.alloc _).below hb; replace hy := (hy.alloc _).below hb; replace hz := (hz.alloc _).below hb; replace hw := Below.step (hw.alloc hw.size _) hb; clear hb c2 c3 c4 c5 l1 l2; obtain ⟨c4, c5, _, _⟩ := hz.two; have l2 := hz.lt))
  have hq := Held.new v6 23 #[.int .i64 qB.1, .int .i64 qB.2]
  replace hp := hp.alloc (.cells #[.int .i64 qB.1, .int .i64 qB.2] 23)
  replace hx := hx.alloc (.cells #[.int .i64 qB.1, .int .i64 qB.2] 23)
  replace hy := hy.alloc (.cells #[.int .i64 qB.1, .int .i64 qB.2] 23)
  replace hz := hz.alloc (.cells #[.int .i64 qB.1, .int .i64 qB.2] 23)
  replace hw := hw.alloc hw.size (.cells #[.int .i64 qB.1, .int .i64 qB.2] 23)
  clear c4 c5 l2 DA DB
  generalize v6.alloc _ = W0 at hx hy hz hp hq hw ⊢
  replace hT := hT.below hw
  cases zero with
  | true =>
    clear E4 E5
    obtain ⟨hx0, hx1, _, _⟩ := hx.two
    have hxg := fun d os => cell_regrown hx0 d os
    have hxk := fun d os => cell_regrown hx1 d os
    clear hx0 hx1
    obtain ⟨hy0, hy1, _, _⟩ := hy.two
    have hyg := fun d os => cell_regrown hy0 d os
    have hyk := fun d os => cell_regrown hy1 d os
    clear hy0 hy1
    obtain ⟨hz0, hz1, _, _⟩ := hz.two
    have hzg := fun d os => cell_regrown hz0 d os
    have hzk := fun d os => cell_regrown hz1 d os
    clear hz0 hz1
    obtain ⟨hp0, hp1, _, _⟩ := hp.two
    have hpg := fun d os => cell_regrown hp0 d os
    have hpk := fun d os => cell_regrown hp1 d os
    clear hp0 hp1
    obtain ⟨hq0, hq1, _, _⟩ := hq.two
    have hqg := fun d os => cell_regrown hq0 d os
    have hqk := fun d os => cell_regrown hq1 d os
    clear hq0 hq1
    have HT := fun d os => hT.regrown d os
    refine wp_region_quiet_below (by kernel_rfl) (by kernel_rfl) ?_
    repeat (first
      | go_big_quiet_step ((first
          | (go_at_call 16; (with_reducible exact Calls.regrown_of (MA.go _)))
          | (go_at_call 16; (with_reducible exact Calls.regrown_of (MB.go _)))
          | (go_at_call 23; (with_reducible exact Calls.regrown_of (TA.go _ (HT _ _))))
          | (go_at_call 23; (with_reducible exact Calls.regrown_of (TB.go _ (HT _ _))))))
      | quiet_step ((first
          | (go_at_call 16; (with_reducible exact Calls.regrown_of (MA.go _)))
          | (go_at_call 16; (with_reducible exact Calls.regrown_of (MB.go _)))
          | (go_at_call 23; (with_reducible exact Calls.regrown_of (TA.go _ (HT _ _))))
          | (go_at_call 23; (with_reducible exact Calls.regrown_of (TB.go _ (HT _ _)))))))
    refine wpQuiet_nil ?_
    intro v7 hv
    have hb := below_of_regrown hv
    clear hv hxg hxk hyg hyk hzg hzk hpg hpk hqg hqk HT
    replace hx := hx.below hb
    replace hy := hy.below hb
    replace hz := hz.below hb
    replace hp := hp.below hb
    replace hq := hq.below hb
    replace hw := Below.step hw hb
    replace hT := hT.below hb
    clear hb
    go_wp2_with fail
    go_ret
    exact ⟨rfl, hw⟩
  | false =>
    replace E4 := E4 rfl
    replace E5 := E5 rfl
    obtain ⟨hx0, hx1, _, _⟩ := hx.two
    have hxg := fun d os => cell_regrown hx0 d os
    have hxk := fun d os => cell_regrown hx1 d os
    clear hx0 hx1
    obtain ⟨hy0, hy1, _, _⟩ := hy.two
    have hyg := fun d os => cell_regrown hy0 d os
    have hyk := fun d os => cell_regrown hy1 d os
    clear hy0 hy1
    obtain ⟨hz0, hz1, _, _⟩ := hz.two
    have hzg := fun d os => cell_regrown hz0 d os
    have hzk := fun d os => cell_regrown hz1 d os
    clear hz0 hz1
    obtain ⟨hp0, hp1, _, _⟩ := hp.two
    have hpg := fun d os => cell_regrown hp0 d os
    have hpk := fun d os => cell_regrown hp1 d os
    clear hp0 hp1
    obtain ⟨hq0, hq1, _, _⟩ := hq.two
    have hqg := fun d os => cell_regrown hq0 d os
    have hqk := fun d os => cell_regrown hq1 d os
    clear hq0 hq1
    have HT := fun d os => hT.regrown d os
    refine wp_region_quiet_below (by kernel_rfl) (by kernel_rfl) ?_
    repeat (first
      | go_big_quiet_step ((first
          | (go_at_call 16; (with_reducible exact Calls.regrown_of (MA.go _)))
          | (go_at_call 16; (with_reducible exact Calls.regrown_of (MB.go _)))
          | (go_at_call 23; (with_reducible exact Calls.regrown_of (TA.go _ (HT _ _))))
          | (go_at_call 23; (with_reducible exact Calls.regrown_of (TB.go _ (HT _ _))))))
      | quiet_step ((first
          | (go_at_call 16; (with_reducible exact Calls.regrown_of (MA.go _)))
          | (go_at_call 16; (with_reducible exact Calls.regrown_of (MB.go _)))
          | (go_at_call 23; (with_reducible exact Calls.regrown_of (TA.go _ (HT _ _))))
          | (go_at_call 23; (with_reducible exact Calls.regrown_of (TB.go _ (HT _ _)))))))
    refine wpQuiet_nil ?_
    intro v7 hv
    have hb := below_of_regrown hv
    clear hv hxg hxk hyg hyk hzg hzk hpg hpk hqg hqk HT
    replace hx := hx.below hb
    replace hy := hy.below hb
    replace hz := hz.below hb
    replace hp := hp.below hb
    replace hq := hq.below hb
    replace hw := Below.step hw hb
    replace hT := hT.below hb
    clear hb
    go_wp2_with fail
    go_ret
    exact ⟨rfl, hw⟩
theorem entry {H : Type} {enc : TypeId × Value → H} (W : World) (base : Nat) (v0 v1 v2 : Value) (d0 d1 d2 : DataW H) (p0 p1 p2 : List MemPlace)
    (k0 : Value.okWide Tryd.prog W .any base 23 v0) (k1 : Value.okWide Tryd.prog W .any base 23 v1) (k2 : Value.okWide Tryd.prog W .any base 23 v2)
    (h0 : DataW.Trod enc Tryd.prog W 0 (fun _ => true) true 23 v0 d0 p0) (h1 : DataW.Trod enc Tryd.prog W 0 (fun _ => true) true 23 v1 d1 p1) (h2 : DataW.Trod enc Tryd.prog W 0 (fun _ => true) true 23 v2 d2 p2) (hT : Tab W) :
    Calls Tryd.prog 8 #[v0, v1, v2] W fun e w' => e = .returned (.bool true) ∧ Below W.heap.size W w' := by
  obtain ⟨a, b, rfl, _, _⟩ := open_val k0 h0
  obtain ⟨c, d, rfl, _, _⟩ := open_val k1 h1
  obtain ⟨e, f, rfl, _, _⟩ := open_val k2 h2
  cases h : mayB a b with
  | false => exact other a b c d e f W hT (.inl h)
  | true =>
    cases h' : mayB c d with
    | false => exact other a b c d e f W hT (.inr (.inl ⟨h, h'⟩))
    | true =>
      cases h'' : mayB e f with
      | false => exact other a b c d e f W hT (.inr (.inr ⟨h, h', h''⟩))
      | true => exact good a b c d e f W hT h h' h''
end Go.Proofs.YthnnmgjehpapiaaDoor.gaussApart
