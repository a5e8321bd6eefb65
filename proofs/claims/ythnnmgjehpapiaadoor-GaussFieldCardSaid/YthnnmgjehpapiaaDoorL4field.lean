/- Layer 4: GaussField: the stage's theorem: the values are a field. For all values. -/
import Derived.Test.YthnnmgjehpapiaaDoorL4lib
import Derived.Test.YthnnmgjehpapiaaDoorGref
namespace Go.Proofs.YthnnmgjehpapiaaDoor.gaussField
set_option linter.unusedVariables false
set_option linter.unusedSimpArgs false
open Go.ChangeShapes Go.WideShapes Go.ChangeAt Go.RowKit Gm Fl Go.Sort

theorem fixed_ctx : Ctx 20 #[] (.bool true) := fun W hT => fixed_true W hT
theorem may_ct {a b : Int} {o : Bool} (h : mayB a b = o) : Ct Tryd.prog 26 #[gv a b] (.bool o) := fun W => by have := rmay_any a b W; rwa [h] at this

set_option maxHeartbeats 1000000 in
set_option maxRecDepth 100000 in
/-- Where one of them may not be, the fixed calls alone are asked. -/
theorem other (a b c d e f : Int) (w : World) (hT : Tab w) (h : mayB a b = false ∨ (mayB a b = true ∧ mayB c d = false) ∨ (mayB a b = true ∧ mayB c d = true ∧ mayB e f = false)) :
    Calls Tryd.prog 4 #[gv a b, gv c d, gv e f] w fun e w' => e = .returned (.bool true) ∧ Below w.heap.size w w' := by
  have FX := fixed_ctx
  rcases h with h | ⟨h, h'⟩ | ⟨h, h', h''⟩
  all_goals
    have Y1 := may_ct h
    first | have Y2 := may_ct h' | skip
    first | have Y3 := may_ct h'' | skip
    go_enter Tryd.func4, Tryd.ntmps4
    go_wp2_with (first
      | (go_at_call 20; (with_reducible refine (FX.go _ (hT.below (below3 w _ _ _))).mono ?_); rintro e v ⟨rfl, hb⟩; have hx := (((Held.new w _ _).alloc _).alloc _).below hb; have hy := ((Held.new1 w _ _ _).alloc _).below hb; have hz := (Held.new2 w _ _ _ _).below hb; have hw := Below.step (below3 w _ _ _) hb; clear hb; obtain ⟨c0, c1, _, _⟩ := hx.two; obtain ⟨c2, c3, _, _⟩ := hy.two; obtain ⟨c4, c5, _, _⟩ := hz.two)
      | (go_at_call 26; (first | with_reducible refine (Y1.go _).mono ?_ | with_reducible refine (Y2.go _).mono ?_ | with_reducible refine (Y3.go _).mono ?_); rintro e v2 ⟨rfl, hb⟩; replace hx := hx.below hb; replace hy := hy.below hb; replace hz := hz.below hb; replace hw := Below.step hw hb; clear hb c0 c1 c2 c3 c4 c5; obtain ⟨c0, c1, _, _⟩ := hx.two; obtain ⟨c2, c3, _, _⟩ := hy.two; obtain ⟨c4, c5, _, _⟩ := hz.two)
      | (go_at_call 20; (with_reducible refine (FX.go _ (hT.below hw)).mono ?_); rintro e v3 ⟨rfl, hb⟩; replace hw := Below.step hw hb; clear hb))
    go_ret
    exact ⟨rfl, hw⟩

set_option maxHeartbeats 4000000 in
set_option maxRecDepth 100000 in
theorem good (a b c d e f : Int) (w : World) (hT : Tab w) (h : mayB a b = true) (h' : mayB c d = true) (h'' : mayB e f = true) :
    Calls Tryd.prog 4 #[gv a b, gv c d, gv e f] w fun e w' => e = .returned (.bool true) ∧ Below w.heap.size w w' := by
  have FX := fixed_ctx
  have Y1 := may_ct h
  have Y2 := may_ct h'
  have Y3 := may_ct h''
  have oa := of_in ((may_iff a b).1 h)
  have ob := of_in ((may_iff c d).1 h')
  obtain ⟨s1, e1⟩ : ∃ s, s = gAdd (a, b) (c, d) := ⟨_, rfl⟩
  obtain ⟨s2, e2⟩ : ∃ s, s = gAdd (c, d) (e, f) := ⟨_, rfl⟩
  obtain ⟨s3, e3⟩ : ∃ s, s = gAdd s1 (e, f) := ⟨_, rfl⟩
  obtain ⟨m1, e4⟩ : ∃ s, s = gMul (a, b) (c, d) := ⟨_, rfl⟩
  obtain ⟨m2, e5⟩ : ∃ s, s = gMul (c, d) (e, f) := ⟨_, rfl⟩
  obtain ⟨m3, e6⟩ : ∃ s, s = gMul m1 (e, f) := ⟨_, rfl⟩
  obtain ⟨m4, e7⟩ : ∃ s, s = gMul (a, b) (e, f) := ⟨_, rfl⟩
  obtain ⟨d1, e8⟩ : ∃ s, s = gMul (a, b) s2 := ⟨_, rfl⟩
  obtain ⟨q, e9⟩ : ∃ s, s = gQuo (a, b) (c, d) := ⟨_, rfl⟩
  obtain ⟨o, e10⟩ : ∃ s, s = decide (gNorm (c, d) ≠ 0) := ⟨_, rfl⟩
  have AB : Ct Tryd.prog 12 #[gv a b, gv c d] (gv s1.1 s1.2) := cb_add e1.symm
  have BA : Ct Tryd.prog 12 #[gv c d, gv a b] (gv s1.1 s1.2) := cb_add (by rw [add_comm]; exact e1.symm)
  have BC : Ct Tryd.prog 12 #[gv c d, gv e f] (gv s2.1 s2.2) := cb_add e2.symm
  have AB_C : Ct Tryd.prog 12 #[gv s1.1 s1.2, gv e f] (gv s3.1 s3.2) := cb_add e3.symm
  have A_BC : Ct Tryd.prog 12 #[gv a b, gv s2.1 s2.2] (gv s3.1 s3.2) := cb_add (by rw [e3, e1, add_assoc, ← e2])
  have MB : Ct Tryd.prog 16 #[gv a b, gv c d] (gv m1.1 m1.2) := cb_mul e4.symm
  have BM : Ct Tryd.prog 16 #[gv c d, gv a b] (gv m1.1 m1.2) := cb_mul (by rw [mul_comm]; exact e4.symm)
  have MBC : Ct Tryd.prog 16 #[gv c d, gv e f] (gv m2.1 m2.2) := cb_mul e5.symm
  have MB_C : Ct Tryd.prog 16 #[gv m1.1 m1.2, gv e f] (gv m3.1 m3.2) := cb_mul e6.symm
  have M_BC : Ct Tryd.prog 16 #[gv a b, gv m2.1 m2.2] (gv m3.1 m3.2) := cb_mul (by rw [e6, e4, mul_assoc, ← e5])
  have MC : Ct Tryd.prog 16 #[gv a b, gv e f] (gv m4.1 m4.2) := cb_mul e7.symm
  have DA : Ct Tryd.prog 16 #[gv a b, gv s2.1 s2.2] (gv d1.1 d1.2) := cb_mul e8.symm
  have DB : Ct Tryd.prog 12 #[gv m1.1 m1.2, gv m4.1 m4.2] (gv d1.1 d1.2) := cb_add (by rw [e8, e2, mul_add, ← e4, ← e7])
  have SB : Ct Tryd.prog 14 #[gv s1.1 s1.2, gv c d] (gv a b) := cb_sub (by rw [e1, sub_add, oa])
  have DV : Ct Tryd.prog 10 #[gv a b, gv c d] (.tuple #[gv q.1 q.2, .bool o]) := cb_div e9.symm e10.symm
  have HZ : Hid ((c, d) = (0, 0) → o = false) := Lib.hid fun hz => by rw [e10]; exact decide_eq_false fun hh => hh ((norm_iff (c, d)).2 (ob.trans hz))
  have HN : Hid ((c, d) ≠ (0, 0) → o = true) := Lib.hid fun hz => by rw [e10]; exact decide_eq_true fun hh => hz (ob.symm.trans ((norm_iff (c, d)).1 hh))
  have HQ : Hid ((c, d) ≠ (0, 0) → Ct Tryd.prog 16 #[gv q.1 q.2, gv c d] (gv a b)) := Lib.hid fun hz => cb_mul (by rw [e9]; exact (quo_mul fun hh => hz (ob.symm.trans ((norm_iff (c, d)).1 hh))).trans oa)
  have HM : Hid (m1 = (0, 0) ↔ (a, b) = (0, 0) ∨ (c, d) = (0, 0)) := Lib.hid (by rw [e4, mul_zero_iff, oa, ob])
  clear e1 e2 e3 e4 e5 e6 e7 e8 e9 e10 oa ob h h' h''
  go_enter Tryd.func4, Tryd.ntmps4
  go_upto_region 3 with (first
      | (go_at_call 20; (with_reducible refine (FX.go _ (hT.below (below3 w _ _ _))).mono ?_); rintro e v ⟨rfl, hb⟩; have hx := (((Held.new w _ _).alloc _).alloc _).below hb; have hy := ((Held.new1 w _ _ _).alloc _).below hb; have hz := (Held.new2 w _ _ _ _).below hb; have hw := Below.step (below3 w _ _ _) hb; clear hb; obtain ⟨c0, c1, _, _⟩ := hx.two; obtain ⟨c2, c3, _, _⟩ := hy.two; obtain ⟨c4, c5, _, _⟩ := hz.two)
      | (go_at_call 26; (first | with_reducible refine (Y1.go _).mono ?_ | with_reducible refine (Y2.go _).mono ?_ | with_reducible refine (Y3.go _).mono ?_); rintro e v2 ⟨rfl, hb⟩; replace hx := hx.below hb; replace hy := hy.below hb; replace hz := hz.below hb; replace hw := Below.step hw hb; clear hb c0 c1 c2 c3 c4 c5; obtain ⟨c0, c1, _, _⟩ := hx.two; obtain ⟨c2, c3, _, _⟩ := hy.two; obtain ⟨c4, c5, _, _⟩ := hz.two))
  clear c0 c1 c2 c3 c4 c5 Y1 Y2 Y3 FX hT
  obtain ⟨hx0, hx1, _, _⟩ := hx.two
  have hxg := fun d os => cell_regrown hx0 d os
  have hxk := fun d os => cell_regrown hx1 d os
  clear hx0 hx1
  obtain ⟨hy0, hy1, _, _⟩ := hy.two
  have hyg := fun d os => cell_regrown hy0 d os
  have hyk := fun d os => cell_regrown hy1 d os
  clear hy0 hy1
  obtain ⟨hz0, hz1, _, _⟩ := hz.two
  have hzg := fun d os => cell_regrown hz0 d os
  have hzk := fun d os => cell_regrown hz1 d os
  clear hz0 hz1
  refine wp_region_quiet_below (by kernel_rfl) (by kernel_rfl) ?_
  repeat (first
    | go_big_quiet_step ((first
        | (go_at_call 12; (with_reducible exact Calls.regrown_of (AB.go _)))
        | (go_at_call 12; (with_reducible exact Calls.regrown_of (BA.go _)))
        | (go_at_call 16; (with_reducible exact Calls.regrown_of (MB.go _)))
        | (go_at_call 16; (with_reducible exact Calls.regrown_of (BM.go _)))
        | (go_at_call 12; (with_reducible exact Calls.regrown_of (AB_C.go _)))
        | (go_at_call 12; (with_reducible exact Calls.regrown_of (BC.go _)))
        | (go_at_call 12; (with_reducible exact Calls.regrown_of (A_BC.go _)))
        | (go_at_call 16; (with_reducible exact Calls.regrown_of (MB_C.go _)))
        | (go_at_call 16; (with_reducible exact Calls.regrown_of (MBC.go _)))
        | (go_at_call 16; (with_reducible exact Calls.regrown_of (M_BC.go _)))))
    | quiet_step ((first
        | (go_at_call 12; (with_reducible exact Calls.regrown_of (AB.go _)))
        | (go_at_call 12; (with_reducible exact Calls.regrown_of (BA.go _)))
        | (go_at_call 16; (with_reducible exact Calls.regrown_of (MB.go _)))
        | (go_at_call 16; (with_reducible exact Calls.regrown_of (BM.go _)))
        | (go_at_call 12; (with_reducible exact Calls.regrown_of (AB_C.go _)))
        | (go_at_call 12; (with_reducible exact Calls.regrown_of (BC.go _)))
        | (go_at_call 12; (with_reducible exact Calls.regrown_of (A_BC.go _)))
        | (go_at_call 16; (with_reducible exact Calls.regrown_of (MB_C.go _)))
        | (go_at_call 16; (with_reducible exact Calls.regrown_of (MBC.go _)))
        | (go_at_call 16; (with_reducible exact Calls.regrown_of (M_BC.go _))))))
  refine wpQuiet_nil ?_
  intro v3 hv
  have hb := below_of_regrown hv
  clear hv hxg hxk hyg hyk hzg hzk
  replace hx := hx.below hb
  replace hy := hy.below hb
  replace hz := hz.below hb
  replace hw := Below.step hw hb
  clear hb
  clear BA BM AB_C A_BC MB_C M_BC MBC
  go_upto_region 5 with (fail)
  obtain ⟨hx0, hx1, _, _⟩ := hx.two
  have hxg := fun d os => cell_regrown hx0 d os
  have hxk := fun d os => cell_regrown hx1 d os
  clear hx0 hx1
  obtain ⟨hy0, hy1, _, _⟩ := hy.two
  have hyg := fun d os => cell_regrown hy0 d os
  have hyk := fun d os => cell_regrown hy1 d os
  clear hy0 hy1
  obtain ⟨hz0, hz1, _, _⟩ := hz.two
  have hzg := fun d os => cell_regrown hz0 d os
  have hzk := fun d os => cell_regrown hz1 d os
  clear hz0 hz1
  refine wp_region_quiet_below (by kernel_rfl) (by kernel_rfl) ?_
  repeat (first
    | go_big_quiet_step ((first
        | (go_at_call 12; (with_reducible exact Calls.regrown_of (BC.go _)))
        | (go_at_call 16; (with_reducible exact Calls.regrown_of (DA.go _)))
        | (go_at_call 16; (with_reducible exact Calls.regrown_of (MB.go _)))
        | (go_at_call 16; (with_reducible exact Calls.regrown_of (MC.go _)))
        | (go_at_call 12; (with_reducible exact Calls.regrown_of (DB.go _)))
        | (go_at_call 12; (with_reducible exact Calls.regrown_of (AB.go _)))
        | (go_at_call 14; (with_reducible exact Calls.regrown_of (SB.go _)))))
    | quiet_step ((first
        | (go_at_call 12; (with_reducible exact Calls.regrown_of (BC.go _)))
        | (go_at_call 16; (with_reducible exact Calls.regrown_of (DA.go _)))
        | (go_at_call 16; (with_reducible exact Calls.regrown_of (MB.go _)))
        | (go_at_call 16; (with_reducible exact Calls.regrown_of (MC.go _)))
        | (go_at_call 12; (with_reducible exact Calls.regrown_of (DB.go _)))
        | (go_at_call 12; (with_reducible exact Calls.regrown_of (AB.go _)))
        | (go_at_call 14; (with_reducible exact Calls.regrown_of (SB.go _))))))
  refine wpQuiet_nil ?_
  intro v4 hv
  have hb := below_of_regrown hv
  clear hv hxg hxk hyg hyk hzg hzk
  replace hx := hx.below hb
  replace hy := hy.below hb
  replace hz := hz.below hb
  replace hw := Below.step hw hb
  clear hb
  clear BC DA MC DB AB SB
  obtain ⟨c0, c1, _, _⟩ := hx.two
  obtain ⟨c2, c3, _, _⟩ := hy.two
  go_upto_region 9 with (go_at_call 10; (with_reducible refine (DV.go _).mono ?_); rintro e v5 ⟨rfl, hb⟩; replace hx := hx.below hb; replace hy := hy.below hb; replace hz := hz.below hb; replace hw := Below.step hw hb; clear hb c0 c1 c2 c3)
  have hq := (Held.new v5 23 #[.int .i64 q.1, .int .i64 q.2]).alloc (.cells #[.int .i64 0, .int .i64 0] 23)
  have ho := Held.new1 v5 (.cells #[.int .i64 q.1, .int .i64 q.2] 23) 23 #[.int .i64 0, .int .i64 0]
  replace hx := (hx.alloc (.cells #[.int .i64 q.1, .int .i64 q.2] 23)).alloc (.cells #[.int .i64 0, .int .i64 0] 23)
  replace hy := (hy.alloc (.cells #[.int .i64 q.1, .int .i64 q.2] 23)).alloc (.cells #[.int .i64 0, .int .i64 0] 23)
  replace hw := (hw.alloc hw.size (.cells #[.int .i64 q.1, .int .i64 q.2] 23)).alloc (by have := hw.size; simp; omega) (.cells #[.int .i64 0, .int .i64 0] 23)
  clear hz DV
  generalize (v5.alloc _).alloc _ = W0 at hx hy hq ho hw ⊢
  by_cases hb0 : (c, d) = (0, 0)
  · obtain rfl : o = false := HZ.out hb0
    have hm0 : m1 = (0, 0) := HM.out.2 (.inr hb0)
    have M0 : Ct Tryd.prog 16 #[gv a b, gv c d] (gv 0 0) := by rw [hm0] at MB; exact MB
    obtain ⟨rfl, rfl⟩ : c = 0 ∧ d = 0 := ⟨congrArg Prod.fst hb0, congrArg Prod.snd hb0⟩
    have E : ∀ W, (binOp .eql 23 (gv a b) (gv 0 0)).run Tryd.prog W = .ok (.bool (decide ((a, b) = (0, 0)))) W := fun W => eqv_run a b 0 0 W
    generalize decide ((a, b) = (0, 0)) = z at E
    clear hb0 hm0 MB HZ HN HQ HM
    cases z
    all_goals
      obtain ⟨hx0, hx1, _, _⟩ := hx.two
      have hxg := fun d os => cell_regrown hx0 d os
      have hxk := fun d os => cell_regrown hx1 d os
      clear hx0 hx1
      obtain ⟨hy0, hy1, _, _⟩ := hy.two
      have hyg := fun d os => cell_regrown hy0 d os
      have hyk := fun d os => cell_regrown hy1 d os
      clear hy0 hy1
      obtain ⟨hq0, hq1, _, _⟩ := hq.two
      have hqg := fun d os => cell_regrown hq0 d os
      have hqk := fun d os => cell_regrown hq1 d os
      clear hq0 hq1
      obtain ⟨ho0, ho1, _, _⟩ := ho.two
      have hog := fun d os => cell_regrown ho0 d os
      have hok := fun d os => cell_regrown ho1 d os
      clear ho0 ho1
      refine wp_region_quiet_below (by kernel_rfl) (by kernel_rfl) ?_
      repeat (first
        | go_big_quiet_step ((first
            | (go_at_call 16; (with_reducible exact Calls.regrown_of (M0.go _)))))
        | quiet_step ((first
            | (go_at_call 16; (with_reducible exact Calls.regrown_of (M0.go _))))))
      refine wpQuiet_nil ?_
      intro v6 hv
      have hb := below_of_regrown hv
      clear hv hxg hxk hyg hyk hqg hqk hog hok
      replace hx := hx.below hb
      replace hy := hy.below hb
      replace hq := hq.below hb
      replace ho := ho.below hb
      replace hw := Below.step hw hb
      clear hb
      go_wp2_with fail
      go_ret
      exact ⟨rfl, hw⟩
  · obtain rfl : o = true := HN.out hb0
    have MQ := HQ.out hb0
    have EB : ∀ W, (binOp .eql 23 (gv c d) (gv 0 0)).run Tryd.prog W = .ok (.bool false) W := fun W => by rw [eqv_run, decide_eq_false hb0]
    have NB : ∀ W, (binOp .neq 23 (gv c d) (gv 0 0)).run Tryd.prog W = .ok (.bool true) W := fun W => by rw [neqv_run, decide_eq_true hb0]
    have EM : ∀ W, (binOp .eql 23 (gv m1.1 m1.2) (gv 0 0)).run Tryd.prog W = .ok (.bool (decide ((a, b) = (0, 0)))) W := fun W => by
      rw [eqv_run]; congr 2; refine decide_eq_decide.2 ⟨fun hh => (HM.out.1 hh).elim id (fun h => absurd h hb0), fun hh => HM.out.2 (.inl hh)⟩
    have E : ∀ W, (binOp .eql 23 (gv a b) (gv 0 0)).run Tryd.prog W = .ok (.bool (decide ((a, b) = (0, 0)))) W := fun W => eqv_run a b 0 0 W
    generalize decide ((a, b) = (0, 0)) = z at E EM
    clear hb0 HZ HN HQ HM
    cases z
    all_goals
      obtain ⟨hx0, hx1, _, _⟩ := hx.two
      have hxg := fun d os => cell_regrown hx0 d os
      have hxk := fun d os => cell_regrown hx1 d os
      clear hx0 hx1
      obtain ⟨hy0, hy1, _, _⟩ := hy.two
      have hyg := fun d os => cell_regrown hy0 d os
      have hyk := fun d os => cell_regrown hy1 d os
      clear hy0 hy1
      obtain ⟨hq0, hq1, _, _⟩ := hq.two
      have hqg := fun d os => cell_regrown hq0 d os
      have hqk := fun d os => cell_regrown hq1 d os
      clear hq0 hq1
      obtain ⟨ho0, ho1, _, _⟩ := ho.two
      have hog := fun d os => cell_regrown ho0 d os
      have hok := fun d os => cell_regrown ho1 d os
      clear ho0 ho1
      refine wp_region_quiet_below (by kernel_rfl) (by kernel_rfl) ?_
      repeat (first
        | go_big_quiet_step ((first
            | (go_at_call 16; (with_reducible exact Calls.regrown_of (MB.go _)))
            | (go_at_call 16; (with_reducible exact Calls.regrown_of (MQ.go _)))))
        | quiet_step ((first
            | (go_at_call 16; (with_reducible exact Calls.regrown_of (MB.go _)))
            | (go_at_call 16; (with_reducible exact Calls.regrown_of (MQ.go _))))))
      refine wpQuiet_nil ?_
      intro v6 hv
      have hb := below_of_regrown hv
      clear hv hxg hxk hyg hyk hqg hqk hog hok
      replace hx := hx.below hb
      replace hy := hy.below hb
      replace hq := hq.below hb
      replace ho := ho.below hb
      replace hw := Below.step hw hb
      clear hb
      go_wp2_with fail
      go_ret
      exact ⟨rfl, hw⟩
theorem entry {H : Type} {enc : TypeId × Value → H} (W : World) (base : Nat) (v0 v1 v2 : Value) (d0 d1 d2 : DataW H) (p0 p1 p2 : List MemPlace)
    (k0 : Value.okWide Tryd.prog W .any base 23 v0) (k1 : Value.okWide Tryd.prog W .any base 23 v1) (k2 : Value.okWide Tryd.prog W .any base 23 v2)
    (h0 : DataW.Trod enc Tryd.prog W 0 (fun _ => true) true 23 v0 d0 p0) (h1 : DataW.Trod enc Tryd.prog W 0 (fun _ => true) true 23 v1 d1 p1) (h2 : DataW.Trod enc Tryd.prog W 0 (fun _ => true) true 23 v2 d2 p2) (hT : Tab W) :
    Calls Tryd.prog 4 #[v0, v1, v2] W fun e w' => e = .returned (.bool true) ∧ Below W.heap.size W w' := by
  obtain ⟨a, b, rfl, _, _⟩ := open_val k0 h0
  obtain ⟨c, d, rfl, _, _⟩ := open_val k1 h1
  obtain ⟨e, f, rfl, _, _⟩ := open_val k2 h2
  cases h : mayB a b with
  | false => exact other a b c d e f W hT (.inl h)
  | true =>
    cases h' : mayB c d with
    | false => exact other a b c d e f W hT (.inr (.inl ⟨h, h'⟩))
    | true =>
      cases h'' : mayB e f with
      | false => exact other a b c d e f W hT (.inr (.inr ⟨h, h', h''⟩))
      | true => exact good a b c d e f W hT h h' h''
end Go.Proofs.YthnnmgjehpapiaaDoor.gaussField
