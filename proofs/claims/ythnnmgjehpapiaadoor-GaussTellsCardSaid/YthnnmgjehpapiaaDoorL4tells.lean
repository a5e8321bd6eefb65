/- Layer 4: GaussTells: sums, differences, products, quotients, conjugates, powers and texts of any values are as the document says. For every value and every number. -/
import Derived.Test.YthnnmgjehpapiaaDoorL4lib
import Derived.Test.YthnnmgjehpapiaaDoorGrd
import Derived.Test.YthnnmgjehpapiaaDoorGrp
import Derived.Test.YthnnmgjehpapiaaDoorGrt
namespace Go.Proofs.YthnnmgjehpapiaaDoor.gaussTells
set_option linter.unusedVariables false
set_option linter.unusedSimpArgs false
open Go.ChangeShapes Go.WideShapes Go.ChangeAt Go.RowKit Gm Fl Go.Sort

theorem fixed_ctx : Ctx 20 #[] (.bool true) := fun W hT => fixed_true W hT
theorem rpow_any (a b n : Int) (w : World) (hn : n ≤ 9223372036854775807) : Calls Tryd.prog 22 #[gv a b, .int .i64 n] w fun e w' =>
    e = .returned (gv (powZ (a, b) n).1 (powZ (a, b) n).2) ∧ Below w.heap.size w w' := by
  by_cases h : n < 0
  · have e : powZ (a, b) n = (0, 0) := if_pos h
    rw [e]; exact rpow_neg a b n w h
  · obtain ⟨m, rfl⟩ := Int.eq_ofNat_of_zero_le (by omega : 0 ≤ n)
    rw [powZ_nat]; exact rpow_nat a b m w (by omega)

set_option maxHeartbeats 4000000 in
set_option maxRecDepth 100000 in
theorem walk (a b c d n : Int) (w : World) (hT : Tab w) (hn : n ≤ 9223372036854775807) : Calls Tryd.prog 3 #[gv a b, gv c d, .int .i64 n] w fun e w' => e = .returned (.bool true) ∧ Below w.heap.size w w' := by
  have FX := fixed_ctx
  have D1 : Ct Tryd.prog 10 #[gv a b, gv c d] (.tuple #[gv (gQuo (a, b) (c, d)).1 (gQuo (a, b) (c, d)).2, .bool (decide (gNorm (c, d) ≠ 0))]) := fun W => div_any a b c d W
  have D2 : Ct Tryd.prog 11 #[gv a b, gv c d] (.tuple #[gv (gQuo (a, b) (c, d)).1 (gQuo (a, b) (c, d)).2, .bool (decide (gNorm (c, d) ≠ 0))]) := fun W => rdiv_any a b c d W
  have A1 : Ct Tryd.prog 12 #[gv a b, gv c d] (gv (gAdd (a, b) (c, d)).1 (gAdd (a, b) (c, d)).2) := fun W => add_any a b c d W
  have A2 : Ct Tryd.prog 13 #[gv a b, gv c d] (gv (gAdd (a, b) (c, d)).1 (gAdd (a, b) (c, d)).2) := fun W => radd_any a b c d W
  have B1 : Ct Tryd.prog 14 #[gv a b, gv c d] (gv (gSub (a, b) (c, d)).1 (gSub (a, b) (c, d)).2) := fun W => sub_any a b c d W
  have B2 : Ct Tryd.prog 15 #[gv a b, gv c d] (gv (gSub (a, b) (c, d)).1 (gSub (a, b) (c, d)).2) := fun W => rsub_any a b c d W
  have M1 : Ct Tryd.prog 16 #[gv a b, gv c d] (gv (gMul (a, b) (c, d)).1 (gMul (a, b) (c, d)).2) := fun W => mul_any a b c d W
  have M2 : Ct Tryd.prog 17 #[gv a b, gv c d] (gv (gMul (a, b) (c, d)).1 (gMul (a, b) (c, d)).2) := fun W => rmul_any a b c d W
  have J1 : Ct Tryd.prog 18 #[gv a b] (gv (gConj (a, b)).1 (gConj (a, b)).2) := fun W => conj_any a b W
  have J2 : Ct Tryd.prog 19 #[gv a b] (gv (gConj (a, b)).1 (gConj (a, b)).2) := fun W => rconj_any a b W
  have P1 : Ct Tryd.prog 21 #[gv a b, .int .i64 n] (gv (powZ (a, b) n).1 (powZ (a, b) n).2) := fun W => pow_any a b n W hn
  have P2 : Ct Tryd.prog 22 #[gv a b, .int .i64 n] (gv (powZ (a, b) n).1 (powZ (a, b) n).2) := fun W => rpow_any a b n W hn
  have T1 : Ctx 23 #[gv a b] (.string ⟨(gText (a, b)).toArray⟩) := fun W hT => text_any a b W hT
  have T2 : Ct Tryd.prog 24 #[gv a b] (.string ⟨(gText (a, b)).toArray⟩) := fun W => rtext_any a b W
  have Y1 : Ct Tryd.prog 25 #[gv a b] (.bool (mayB a b)) := fun W => may_any a b W
  have Y2 : Ct Tryd.prog 26 #[gv a b] (.bool (mayB a b)) := fun W => rmay_any a b W
  have O1 : Ct Tryd.prog 27 #[.int .i64 a, .int .i64 d] (gv (rs a) (rs d)) := fun W => gof_any a d W
  have O2 : Ct Tryd.prog 28 #[.int .i64 a, .int .i64 d] (gv (rs a) (rs d)) := fun W => rof_any a d W
  generalize gAdd (a, b) (c, d) = sA at *
  generalize gSub (a, b) (c, d) = sB at *
  generalize gMul (a, b) (c, d) = sM at *
  generalize gConj (a, b) = sJ at *
  generalize powZ (a, b) n = sP at *
  generalize gQuo (a, b) (c, d) = sQ at *
  generalize decide (gNorm (c, d) ≠ 0) = o at *
  generalize (⟨(gText (a, b)).toArray⟩ : ByteArray) = t at *
  generalize mayB a b = m at *
  generalize rs a = ra at *
  generalize rs d = rd at *
  clear hn
  go_enter Tryd.func3, Tryd.ntmps3
  go_upto_region 3 with (first
    | (go_at_call 10; (with_reducible refine (D1.go _).mono ?_); rintro e v ⟨rfl, hb⟩; have hx := ((Held.new w _ _).alloc _).below hb; have hy := (Held.new1 w _ _ _).below hb; have hw := Below.step (below2 w _ _) hb; clear hb; obtain ⟨c0, c1, _, _⟩ := hx.two; obtain ⟨c2, c3, _, _⟩ := hy.two; have l0 := hx.lt; have l1 := hy.lt)
    | (go_at_call 11; (with_reducible refine (D2.go _).mono ?_); rintro e v2 ⟨rfl, hb⟩; replace hx := (hx.alloc _).below hb; replace hy := (hy.alloc _).below hb; have hp := (Held.new v _ _).below hb; replace hw := Below.step (hw.alloc hw.size _) hb; clear hb c0 c1 c2 c3))
  have hq := Held.new v2 23 #[.int .i64 sQ.1, .int .i64 sQ.2]
  replace hx := hx.alloc (.cells #[.int .i64 sQ.1, .int .i64 sQ.2] 23)
  replace hy := hy.alloc (.cells #[.int .i64 sQ.1, .int .i64 sQ.2] 23)
  replace hp := hp.alloc (.cells #[.int .i64 sQ.1, .int .i64 sQ.2] 23)
  replace hw := hw.alloc hw.size (.cells #[.int .i64 sQ.1, .int .i64 sQ.2] 23)
  generalize v2.alloc _ = W0 at hx hy hp hq hw ⊢
  obtain ⟨hx0, hx1, _, _⟩ := hx.two
  have hxg := fun d os => cell_regrown hx0 d os
  have hxk := fun d os => cell_regrown hx1 d os
  clear hx0 hx1
  obtain ⟨hy0, hy1, _, _⟩ := hy.two
  have hyg := fun d os => cell_regrown hy0 d os
  have hyk := fun d os => cell_regrown hy1 d os
  clear hy0 hy1
  obtain ⟨hp0, hp1, _, _⟩ := hp.two
  have hpg := fun d os => cell_regrown hp0 d os
  have hpk := fun d os => cell_regrown hp1 d os
  clear hp0 hp1
  obtain ⟨hq0, hq1, _, _⟩ := hq.two
  have hqg := fun d os => cell_regrown hq0 d os
  have hqk := fun d os => cell_regrown hq1 d os
  clear hq0 hq1
  refine wp_region_quiet_below (by kernel_rfl) (by kernel_rfl) ?_
  repeat (first
    | go_big_quiet_step ((first
        | (go_at_call 12; (with_reducible exact Calls.regrown_of (A1.go _)))
        | (go_at_call 13; (with_reducible exact Calls.regrown_of (A2.go _)))
        | (go_at_call 14; (with_reducible exact Calls.regrown_of (B1.go _)))
        | (go_at_call 15; (with_reducible exact Calls.regrown_of (B2.go _)))
        | (go_at_call 16; (with_reducible exact Calls.regrown_of (M1.go _)))
        | (go_at_call 17; (with_reducible exact Calls.regrown_of (M2.go _)))
        | (go_at_call 18; (with_reducible exact Calls.regrown_of (J1.go _)))
        | (go_at_call 19; (with_reducible exact Calls.regrown_of (J2.go _)))))
    | quiet_step ((first
        | (go_at_call 12; (with_reducible exact Calls.regrown_of (A1.go _)))
        | (go_at_call 13; (with_reducible exact Calls.regrown_of (A2.go _)))
        | (go_at_call 14; (with_reducible exact Calls.regrown_of (B1.go _)))
        | (go_at_call 15; (with_reducible exact Calls.regrown_of (B2.go _)))
        | (go_at_call 16; (with_reducible exact Calls.regrown_of (M1.go _)))
        | (go_at_call 17; (with_reducible exact Calls.regrown_of (M2.go _)))
        | (go_at_call 18; (with_reducible exact Calls.regrown_of (J1.go _)))
        | (go_at_call 19; (with_reducible exact Calls.regrown_of (J2.go _))))))
  refine wpQuiet_nil ?_
  intro v3 hv
  have hb := below_of_regrown hv
  clear hv hxg hxk hyg hyk hpg hpk hqg hqk
  replace hx := hx.below hb
  replace hy := hy.below hb
  replace hp := hp.below hb
  replace hq := hq.below hb
  replace hw := Below.step hw hb
  clear hb
  clear A1 A2 B1 B2 M1 M2 J1 J2 D1 D2
  replace hT := hT.below hw
  go_upto_region 5 with (fail)
  obtain ⟨hx0, hx1, _, _⟩ := hx.two
  have hxg := fun d os => cell_regrown hx0 d os
  have hxk := fun d os => cell_regrown hx1 d os
  clear hx0 hx1
  obtain ⟨hy0, hy1, _, _⟩ := hy.two
  have hyg := fun d os => cell_regrown hy0 d os
  have hyk := fun d os => cell_regrown hy1 d os
  clear hy0 hy1
  have HT := fun d os => hT.regrown d os
  refine wp_region_quiet_below (by kernel_rfl) (by kernel_rfl) ?_
  repeat (first
    | go_big_quiet_step ((first
        | (go_at_call 20; (with_reducible exact Calls.regrown_of (FX.go _ (HT _ _))))
        | (go_at_call 21; (with_reducible exact Calls.regrown_of (P1.go _)))
        | (go_at_call 22; (with_reducible exact Calls.regrown_of (P2.go _)))
        | (go_at_call 23; (with_reducible exact Calls.regrown_of (T1.go _ (HT _ _))))
        | (go_at_call 24; (with_reducible exact Calls.regrown_of (T2.go _)))
        | (go_at_call 25; (with_reducible exact Calls.regrown_of (Y1.go _)))
        | (go_at_call 26; (with_reducible exact Calls.regrown_of (Y2.go _)))
        | (go_at_call 27; (with_reducible exact Calls.regrown_of (O1.go _)))
        | (go_at_call 28; (with_reducible exact Calls.regrown_of (O2.go _)))))
    | quiet_step ((first
        | (go_at_call 20; (with_reducible exact Calls.regrown_of (FX.go _ (HT _ _))))
        | (go_at_call 21; (with_reducible exact Calls.regrown_of (P1.go _)))
        | (go_at_call 22; (with_reducible exact Calls.regrown_of (P2.go _)))
        | (go_at_call 23; (with_reducible exact Calls.regrown_of (T1.go _ (HT _ _))))
        | (go_at_call 24; (with_reducible exact Calls.regrown_of (T2.go _)))
        | (go_at_call 25; (with_reducible exact Calls.regrown_of (Y1.go _)))
        | (go_at_call 26; (with_reducible exact Calls.regrown_of (Y2.go _)))
        | (go_at_call 27; (with_reducible exact Calls.regrown_of (O1.go _)))
        | (go_at_call 28; (with_reducible exact Calls.regrown_of (O2.go _))))))
  refine wpQuiet_nil ?_
  intro v4 hv
  have hb := below_of_regrown hv
  clear hv hxg hxk hyg hyk HT
  replace hx := hx.below hb
  replace hy := hy.below hb
  replace hw := Below.step hw hb
  replace hT := hT.below hb
  clear hb
  go_wp2_with fail
  go_ret
  exact ⟨rfl, hw⟩
theorem entry {H : Type} {enc : TypeId × Value → H} (W : World) (base : Nat) (v0 v1 v2 : Value) (d0 d1 d2 : DataW H) (p0 p1 p2 : List MemPlace)
    (k0 : Value.okWide Tryd.prog W .any base 23 v0) (k1 : Value.okWide Tryd.prog W .any base 23 v1) (k2 : Value.okWide Tryd.prog W .any base 3 v2)
    (h0 : DataW.Trod enc Tryd.prog W 0 (fun _ => true) true 23 v0 d0 p0) (h1 : DataW.Trod enc Tryd.prog W 0 (fun _ => true) true 23 v1 d1 p1) (h2 : DataW.Trod enc Tryd.prog W 0 (fun _ => true) true 3 v2 d2 p2) (hT : Tab W) :
    Calls Tryd.prog 3 #[v0, v1, v2] W fun e w' => e = .returned (.bool true) ∧ Below W.heap.size W w' := by
  obtain ⟨a, b, rfl, _, _⟩ := open_val k0 h0
  obtain ⟨c, d, rfl, _, _⟩ := open_val k1 h1
  obtain ⟨n, rfl, rfl, rfl, wn⟩ := open_int Tryd.underlying3 k2 h2
  exact walk a b c d n W hT (wf_bd wn).2
end Go.Proofs.YthnnmgjehpapiaaDoor.gaussTells
