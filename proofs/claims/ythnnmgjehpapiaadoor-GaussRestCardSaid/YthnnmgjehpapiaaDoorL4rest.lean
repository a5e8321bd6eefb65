/- Layer 4: GaussRest: whatever parts are told, more by 251, or less, changes nothing; what comes of any values is one. For all values, and every number. -/
import Derived.Test.YthnnmgjehpapiaaDoorL4lib
namespace Go.Proofs.YthnnmgjehpapiaaDoor.gaussRest
set_option linter.unusedVariables false
set_option linter.unusedSimpArgs false
open Go.ChangeShapes Go.WideShapes Go.ChangeAt Go.RowKit Gm Fl Go.Sort

theorem fixed_ctx : Ctx 20 #[] (.bool true) := fun W hT => fixed_true W hT
theorem may_of {a : V} (h : gMay a) : mayB a.1 a.2 = true := (may_iff a.1 a.2).2 h

set_option maxHeartbeats 1000000 in
set_option maxRecDepth 100000 in
/-- Where a part or the number is out of its bounds, the fixed calls alone are asked. -/
theorem other (a b c d k : Int) (w : World) (hT : Tab w) (h : (a < -1152921504606846976) ∨ (-1152921504606846976 ≤ a ∧ 1152921504606846976 < a) ∨ (-1152921504606846976 ≤ a ∧ a ≤ 1152921504606846976 ∧ b < -1152921504606846976) ∨ (-1152921504606846976 ≤ a ∧ a ≤ 1152921504606846976 ∧ -1152921504606846976 ≤ b ∧ 1152921504606846976 < b) ∨ (-1152921504606846976 ≤ a ∧ a ≤ 1152921504606846976 ∧ -1152921504606846976 ≤ b ∧ b ≤ 1152921504606846976 ∧ k < -1000) ∨ (-1152921504606846976 ≤ a ∧ a ≤ 1152921504606846976 ∧ -1152921504606846976 ≤ b ∧ b ≤ 1152921504606846976 ∧ -1000 ≤ k ∧ 1000 < k)) :
    Calls Tryd.prog 7 #[gv a b, gv c d, .int .i64 k] w fun e w' => e = .returned (.bool true) ∧ Below w.heap.size w w' := by
  have FX := fixed_ctx
  rcases h with h0 | ⟨h0, h1⟩ | ⟨h0, h1, h2⟩ | ⟨h0, h1, h2, h3⟩ | ⟨h0, h1, h2, h3, h4⟩ | ⟨h0, h1, h2, h3, h4, h5⟩
  all_goals
    go_enter Tryd.func7, Tryd.ntmps7
    go_wp2_with (first
      | (go_at_call 20; (with_reducible refine (FX.go _ (hT.below (below2 w _ _))).mono ?_); rintro e v ⟨rfl, hb⟩; have hx := ((Held.new w _ _).alloc _).below hb; have hy := (Held.new1 w _ _ _).below hb; have hw := Below.step (below2 w _ _) hb; clear hb; obtain ⟨c0, c1, _, _⟩ := hx.two; obtain ⟨c2, c3, _, _⟩ := hy.two; have l0 := hx.lt; have l1 := hy.lt)
      | (go_at_call 20; (with_reducible refine (FX.go _ (hT.below hw)).mono ?_); rintro e v3 ⟨rfl, hb⟩; replace hw := Below.step hw hb; clear hb))
    go_ret
    exact ⟨rfl, hw⟩

set_option maxHeartbeats 4000000 in
set_option maxRecDepth 100000 in
theorem good (a b c d k : Int) (w : World) (hT : Tab w) (h0 : -1152921504606846976 ≤ a) (h1 : a ≤ 1152921504606846976) (h2 : -1152921504606846976 ≤ b) (h3 : b ≤ 1152921504606846976) (h4 : -1000 ≤ k) (h5 : k ≤ 1000) :
    Calls Tryd.prog 7 #[gv a b, gv c d, .int .i64 k] w fun e w' => e = .returned (.bool true) ∧ Below w.heap.size w w' := by
  have FX := fixed_ctx
  have g : gOf (a + 251 * k, b - 251 * k) = gOf (a, b) := by
    unfold gOf
    refine Prod.ext (rs_more a k) ?_
    show rs (b - 251 * k) = rs b
    rw [show b - 251 * k = b + 251 * (-k) by omega, rs_more]
  have q0 : gQuo (a + 251 * k, b - 251 * k) (c, d) = gQuo (a, b) (c, d) := by rw [← quo_of (a + 251 * k, b - 251 * k), g, quo_of]
  have m0 : gMul (a + 251 * k, b - 251 * k) (c, d) = gMul (a, b) (c, d) := by rw [← mul_ofl (a + 251 * k, b - 251 * k), g, mul_ofl]
  have a0 : gAdd (a + 251 * k, b - 251 * k) (c, d) = gAdd (a, b) (c, d) := by rw [← add_ofl (a + 251 * k, b - 251 * k), g, add_ofl]
  have t0 : gText (a + 251 * k, b - 251 * k) = gText (a, b) := by rw [← text_of (a + 251 * k, b - 251 * k), g, text_of]
  have DA : Ct Tryd.prog 10 #[gv a b, gv c d] (.tuple #[gv (gQuo (a, b) (c, d)).1 (gQuo (a, b) (c, d)).2, .bool (decide (gNorm (c, d) ≠ 0))]) := fun W => div_any a b c d W
  have DC : Ct Tryd.prog 10 #[gv (a + 251 * k) (b - 251 * k), gv c d] (.tuple #[gv (gQuo (a, b) (c, d)).1 (gQuo (a, b) (c, d)).2, .bool (decide (gNorm (c, d) ≠ 0))]) := cb_div q0 rfl
  have OA : Ct Tryd.prog 27 #[.int .i64 a, .int .i64 b] (gv (rs a) (rs b)) := fun W => gof_any a b W
  have OC : Ct Tryd.prog 27 #[.int .i64 (a + 251 * k), .int .i64 (b - 251 * k)] (gv (rs a) (rs b)) := cb_of g
  have MA : Ct Tryd.prog 16 #[gv a b, gv c d] (gv (gMul (a, b) (c, d)).1 (gMul (a, b) (c, d)).2) := cb_mul rfl
  have MC : Ct Tryd.prog 16 #[gv (a + 251 * k) (b - 251 * k), gv c d] (gv (gMul (a, b) (c, d)).1 (gMul (a, b) (c, d)).2) := cb_mul m0
  have AA : Ct Tryd.prog 12 #[gv a b, gv c d] (gv (gAdd (a, b) (c, d)).1 (gAdd (a, b) (c, d)).2) := cb_add rfl
  have AC : Ct Tryd.prog 12 #[gv (a + 251 * k) (b - 251 * k), gv c d] (gv (gAdd (a, b) (c, d)).1 (gAdd (a, b) (c, d)).2) := cb_add a0
  have SA : Ct Tryd.prog 14 #[gv c d, gv a b] (gv (gSub (c, d) (a, b)).1 (gSub (c, d) (a, b)).2) := cb_sub rfl
  have YM : Ct Tryd.prog 25 #[gv (gMul (a, b) (c, d)).1 (gMul (a, b) (c, d)).2] (.bool true) := cb_may (may_of (mul_may _ _))
  have YS : Ct Tryd.prog 25 #[gv (gSub (c, d) (a, b)).1 (gSub (c, d) (a, b)).2] (.bool true) := cb_may (may_of (sub_may _ _))
  have YQ : Ct Tryd.prog 25 #[gv (gQuo (a, b) (c, d)).1 (gQuo (a, b) (c, d)).2] (.bool true) := cb_may (may_of (quo_may _ _))
  have TA : Ctx 23 #[gv a b] (.string ⟨(gText (a, b)).toArray⟩) := ctx_text rfl
  have TC : Ctx 23 #[gv (a + 251 * k) (b - 251 * k)] (.string ⟨(gText (a, b)).toArray⟩) := ctx_text t0
  clear g q0 m0 a0 t0
  have y1 : IntKind.i64.wrap (251 * k) = 251 * k := IntWalk.i64_in _ (by omega)
  have y2 : IntKind.i64.wrap (a + 251 * k) = a + 251 * k := IntWalk.i64_in _ (by omega)
  have y3 : IntKind.i64.wrap (b - 251 * k) = b - 251 * k := IntWalk.i64_in _ (by omega)
  generalize gQuo (a, b) (c, d) = q at *
  generalize decide (gNorm (c, d) ≠ 0) = o at *
  generalize gMul (a, b) (c, d) = m at *
  generalize gAdd (a, b) (c, d) = s at *
  generalize gSub (c, d) (a, b) = u at *
  generalize (⟨(gText (a, b)).toArray⟩ : ByteArray) = t at *
  generalize rs a = ra at *
  generalize rs b = rb at *
  go_enter Tryd.func7, Tryd.ntmps7
  go_upto_region 6 with (first
    | (go_at_call 20; (with_reducible refine (FX.go _ (hT.below (below2 w _ _))).mono ?_); rintro e v ⟨rfl, hb⟩; have hx := ((Held.new w _ _).alloc _).below hb; have hy := (Held.new1 w _ _ _).below hb; have hw := Below.step (below2 w _ _) hb; clear hb; obtain ⟨c0, c1, _, _⟩ := hx.two; obtain ⟨c2, c3, _, _⟩ := hy.two; have l0 := hx.lt; have l1 := hy.lt)
    | (go_at_call 10; (with_reducible refine (DA.go _).mono ?_); rintro e v2 ⟨rfl, hb⟩; have hc := (Held.new v _ _).below hb; replace hx := (hx.alloc _).below hb; replace hy := (hy.alloc _).below hb; replace hw := Below.step (hw.alloc hw.size _) hb; clear hb c0 c1 c2 c3 l0 l1; obtain ⟨c2, c3, _, _⟩ := hy.two; obtain ⟨c4, c5, _, _⟩ := hc.two; have l1 := hy.lt; have l2 := hc.lt)
    | (go_at_call 10; (with_reducible refine (DC.go _).mono ?_); rintro e v3 ⟨rfl, hb⟩; have hp := (Held.new v2 _ _).below hb; replace hx := (hx.alloc _).below hb; replace hy := (hy.alloc _).below hb; replace hc := (hc.alloc _).below hb; replace hw := Below.step (hw.alloc hw.size _) hb; clear hb c2 c3 c4 c5 l1 l2))
  have hq := Held.new v3 23 #[.int .i64 q.1, .int .i64 q.2]
  replace hx := hx.alloc (.cells #[.int .i64 q.1, .int .i64 q.2] 23)
  replace hy := hy.alloc (.cells #[.int .i64 q.1, .int .i64 q.2] 23)
  replace hc := hc.alloc (.cells #[.int .i64 q.1, .int .i64 q.2] 23)
  replace hp := hp.alloc (.cells #[.int .i64 q.1, .int .i64 q.2] 23)
  replace hw := hw.alloc hw.size (.cells #[.int .i64 q.1, .int .i64 q.2] 23)
  clear DA DC FX h0 h1 h2 h3 h4 h5 y1 y2 y3
  generalize v3.alloc _ = W0 at hx hy hc hp hq hw ⊢
  replace hT := hT.below hw
  obtain ⟨hx0, hx1, _, _⟩ := hx.two
  have hxg := fun d os => cell_regrown hx0 d os
  have hxk := fun d os => cell_regrown hx1 d os
  clear hx0 hx1
  obtain ⟨hy0, hy1, _, _⟩ := hy.two
  have hyg := fun d os => cell_regrown hy0 d os
  have hyk := fun d os => cell_regrown hy1 d os
  clear hy0 hy1
  obtain ⟨hc0, hc1, _, _⟩ := hc.two
  have hcg := fun d os => cell_regrown hc0 d os
  have hck := fun d os => cell_regrown hc1 d os
  clear hc0 hc1
  obtain ⟨hp0, hp1, _, _⟩ := hp.two
  have hpg := fun d os => cell_regrown hp0 d os
  have hpk := fun d os => cell_regrown hp1 d os
  clear hp0 hp1
  obtain ⟨hq0, hq1, _, _⟩ := hq.two
  have hqg := fun d os => cell_regrown hq0 d os
  have hqk := fun d os => cell_regrown hq1 d os
  clear hq0 hq1
  have HT := fun d os => hT.regrown d os
  refine wp_region_quiet_below (by kernel_rfl) (by kernel_rfl) ?_
  repeat (first
    | go_big_quiet_step ((first
        | (go_at_call 27; (with_reducible exact Calls.regrown_of (OA.go _)))
        | (go_at_call 27; (with_reducible exact Calls.regrown_of (OC.go _)))
        | (go_at_call 16; (with_reducible exact Calls.regrown_of (MA.go _)))
        | (go_at_call 16; (with_reducible exact Calls.regrown_of (MC.go _)))
        | (go_at_call 12; (with_reducible exact Calls.regrown_of (AA.go _)))
        | (go_at_call 12; (with_reducible exact Calls.regrown_of (AC.go _)))
        | (go_at_call 25; (with_reducible exact Calls.regrown_of (YM.go _)))
        | (go_at_call 14; (with_reducible exact Calls.regrown_of (SA.go _)))
        | (go_at_call 25; (with_reducible exact Calls.regrown_of (YS.go _)))
        | (go_at_call 25; (with_reducible exact Calls.regrown_of (YQ.go _)))
        | (go_at_call 23; (with_reducible exact Calls.regrown_of (TA.go _ (HT _ _))))
        | (go_at_call 23; (with_reducible exact Calls.regrown_of (TC.go _ (HT _ _))))))
    | quiet_step ((first
        | (go_at_call 27; (with_reducible exact Calls.regrown_of (OA.go _)))
        | (go_at_call 27; (with_reducible exact Calls.regrown_of (OC.go _)))
        | (go_at_call 16; (with_reducible exact Calls.regrown_of (MA.go _)))
        | (go_at_call 16; (with_reducible exact Calls.regrown_of (MC.go _)))
        | (go_at_call 12; (with_reducible exact Calls.regrown_of (AA.go _)))
        | (go_at_call 12; (with_reducible exact Calls.regrown_of (AC.go _)))
        | (go_at_call 25; (with_reducible exact Calls.regrown_of (YM.go _)))
        | (go_at_call 14; (with_reducible exact Calls.regrown_of (SA.go _)))
        | (go_at_call 25; (with_reducible exact Calls.regrown_of (YS.go _)))
        | (go_at_call 25; (with_reducible exact Calls.regrown_of (YQ.go _)))
        | (go_at_call 23; (with_reducible exact Calls.regrown_of (TA.go _ (HT _ _))))
        | (go_at_call 23; (with_reducible exact Calls.regrown_of (TC.go _ (HT _ _)))))))
  refine wpQuiet_nil ?_
  intro v4 hv
  have hb := below_of_regrown hv
  clear hv hxg hxk hyg hyk hcg hck hpg hpk hqg hqk HT
  replace hx := hx.below hb
  replace hy := hy.below hb
  replace hc := hc.below hb
  replace hp := hp.below hb
  replace hq := hq.below hb
  replace hw := Below.step hw hb
  replace hT := hT.below hb
  clear hb
  go_wp2_with fail
  go_ret
  exact ⟨rfl, hw⟩
theorem entry {H : Type} {enc : TypeId × Value → H} (W : World) (base : Nat) (v0 v1 v2 : Value) (d0 d1 d2 : DataW H) (p0 p1 p2 : List MemPlace)
    (k0 : Value.okWide Tryd.prog W .any base 23 v0) (k1 : Value.okWide Tryd.prog W .any base 23 v1) (k2 : Value.okWide Tryd.prog W .any base 3 v2)
    (h0 : DataW.Trod enc Tryd.prog W 0 (fun _ => true) true 23 v0 d0 p0) (h1 : DataW.Trod enc Tryd.prog W 0 (fun _ => true) true 23 v1 d1 p1) (h2 : DataW.Trod enc Tryd.prog W 0 (fun _ => true) true 3 v2 d2 p2) (hT : Tab W) :
    Calls Tryd.prog 7 #[v0, v1, v2] W fun e w' => e = .returned (.bool true) ∧ Below W.heap.size W w' := by
  obtain ⟨a, b, rfl, _, _⟩ := open_val k0 h0
  obtain ⟨c, d, rfl, _, _⟩ := open_val k1 h1
  obtain ⟨k, rfl, rfl, rfl, wk⟩ := open_int Tryd.underlying3 k2 h2
  by_cases h : -1152921504606846976 ≤ a ∧ a ≤ 1152921504606846976 ∧ -1152921504606846976 ≤ b ∧ b ≤ 1152921504606846976 ∧ -1000 ≤ k ∧ k ≤ 1000
  · exact good a b c d k W hT h.1 h.2.1 h.2.2.1 h.2.2.2.1 h.2.2.2.2.1 h.2.2.2.2.2
  · exact other a b c d k W hT (by omega)
end Go.Proofs.YthnnmgjehpapiaaDoor.gaussRest
