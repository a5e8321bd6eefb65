/- Layer 4: the document's own answers: quotients. -/
import Derived.Test.YthnnmgjehpapiaaDoorGrm
import Derived.Test.YthnnmgjehpapiaaDoorGri
import Derived.Test.YthnnmgjehpapiaaDoorGpw
namespace Go.Proofs.YthnnmgjehpapiaaDoor
set_option linter.unusedVariables false
set_option linter.unusedSimpArgs false
open Go.RowKit Go.ChangeShapes Go.WideShapes Go.ChangeAt Gm Fl Go.Sort

/-- Behind 'x := ..': where x lies, and what it holds. -/
def MidD (W0 : World) (x0 x1 v8 : Value) (wx : World) : Prop :=
  ∃ k : Nat, v8 = .pointer (some ⟨k, 0, none⟩) ∧ wx.cell? ⟨k, 0, none⟩ = some x0 ∧ wx.cell? ⟨k, 1, none⟩ = some x1 ∧ Below W0.heap.size W0 wx

theorem sq_bd (c d : Int) : IntKind.i64.wrap (rs c * rs c) = rs c * rs c ∧ IntKind.i64.wrap (rs d * rs d) = rs d * rs d ∧ IntKind.i64.wrap (rs c * rs c + rs d * rs d) = rs c * rs c + rs d * rs d := by
  have rc := rs_bd c; have rd := rs_bd d
  have m1 := mul_bd rc.1 rc.1 rc.2 rc.2
  have m2 := mul_bd rd.1 rd.1 rd.2 rd.2
  exact ⟨IntWalk.i64_in _ (by omega), IntWalk.i64_in _ (by omega), IntWalk.i64_in _ (by omega)⟩

set_option maxHeartbeats 4000000 in
set_option maxRecDepth 100000 in
theorem rdiv_any (a b c d : Int) (w : World) : Calls Tryd.prog 11 #[.agg #[.int .i64 a, .int .i64 b], .agg #[.int .i64 c, .int .i64 d]] w fun e w' =>
    e = .returned (.tuple #[.agg #[.int .i64 (gQuo (a, b) (c, d)).1, .int .i64 (gQuo (a, b) (c, d)).2], .bool (decide (gNorm (c, d) ≠ 0))]) ∧ Below w.heap.size w w' := by
  have CO := fun n m W => Lib.hid (rof_any n m W)
  have CR := fun n W => Lib.hid (rrest_any n W)
  obtain ⟨y1, y2, y3⟩ := sq_bd c d
  have hnorm : gNorm (c, d) = rs (rs c * rs c + rs d * rs d) := rfl
  by_cases h : gNorm (c, d) = 0
  · rw [quo_zero h, decide_eq_false (fun e => e h)]
    rw [hnorm] at h
    have hz : (rs (rs c * rs c + rs d * rs d) == 0) = true := by rw [h]; rfl
    clear hnorm h
    go_enter Tryd.func11, Tryd.ntmps11
    go_wp2_with (first
      | (go_at_call 28; (with_reducible refine (CO _ _ _).out.mono ?_); rintro e v ⟨rfl, hb⟩; have h2 := (Held.new2 w _ _ _ _).below hb; have hw := Below.step (below3 w _ _ _) hb; clear hb; obtain ⟨c0, c1, f0, f1⟩ := h2.two; have := h2.lt; have := Nat.ne_of_lt h2.lt)
      | (go_at_call 30; (with_reducible refine (CR _ _).out.mono ?_); rintro e v2 ⟨rfl, rfl⟩))
    replace h2 := (h2.set (.int .i64 0) (.int .i64 0)).alloc (.cells #[.int .i64 (rs c), .int .i64 (rs d)] 23)
    have hw1 := set2b (k := w.heap.size + 1 + 1) (x := .int .i64 0) (y := .int .i64 0) (by omega) hw
    replace hw := hw1.alloc hw1.size (.cells #[.int .i64 (rs c), .int .i64 (rs d)] 23)
    generalize ((v.setCell _ _).setCell _ _).alloc _ = W2 at h2 hw ⊢
    obtain ⟨d0, d1, _, _⟩ := h2.two
    exact bodyPost_ret (v := .tuple #[.agg #[.int .i64 0, .int .i64 0], .bool false]) (by simp [results, Tryd.results11, go_sem, d0, d1]) rfl ⟨rfl, hw⟩
  · have hbd := norm_bd (c, d)
    have hz : (rs (rs c * rs c + rs d * rs d) == 0) = false := by rw [← hnorm]; simpa using h
    have CI : ∀ W, Hid (Calls Tryd.prog 31 #[.int .i64 (rs (rs c * rs c + rs d * rs d))] W fun e w' => e = .returned (.int .i64 (kinv (gNorm (c, d)))) ∧ W = w') := fun W => by
      rw [← hnorm]; exact Lib.hid (rinv_any _ W (by omega) hbd.2)
    have kb := kinv_bd (gNorm (c, d))
    rw [decide_eq_true h]
    have hq : gQuo (a, b) (c, d) = gOf ((gMul (a, b) (gConj (c, d))).1 * kinv (gNorm (c, d)), (gMul (a, b) (gConj (c, d))).2 * kinv (gNorm (c, d))) := if_neg h
    have CC : ∀ W, Hid (Calls Tryd.prog 19 #[.agg #[.int .i64 (rs c), .int .i64 (rs d)]] W fun e w' => e = .returned (.agg #[.int .i64 (gConj (c, d)).1, .int .i64 (gConj (c, d)).2]) ∧ Below W.heap.size W w') := fun W => by
      rw [← conj_of (c, d)]; exact Lib.hid (rconj_any (rs c) (rs d) W)
    have mm := mul_may (a, b) (gConj (c, d))
    have CM : ∀ W, Hid (Calls Tryd.prog 17 #[.agg #[.int .i64 a, .int .i64 b], .agg #[.int .i64 (gConj (c, d)).1, .int .i64 (gConj (c, d)).2]] W fun e w' => e = .returned (.agg #[.int .i64 (gMul (a, b) (gConj (c, d))).1, .int .i64 (gMul (a, b) (gConj (c, d))).2]) ∧ Below W.heap.size W w') := fun W =>
      Lib.hid (rmul_any a b (gConj (c, d)).1 (gConj (c, d)).2 W)
    clear hnorm h hbd
    generalize gMul (a, b) (gConj (c, d)) = m at *
    generalize kinv (gNorm (c, d)) = k at *
    generalize gConj (c, d) = j at *
    generalize gQuo (a, b) (c, d) = q at *
    obtain ⟨p0, p1, p2, p3⟩ := mm
    have x1 := mul_bd p0 kb.1 p1 kb.2
    have x2 := mul_bd p2 kb.1 p3 kb.2
    have y4 : IntKind.i64.wrap (m.1 * k) = m.1 * k := IntWalk.i64_in _ (by omega)
    have y5 : IntKind.i64.wrap (m.2 * k) = m.2 * k := IntWalk.i64_in _ (by omega)
    have CQ : ∀ W, Hid (Calls Tryd.prog 28 #[.int .i64 (m.1 * k), .int .i64 (m.2 * k)] W fun e w' => e = .returned (.agg #[.int .i64 q.1, .int .i64 q.2]) ∧ Below W.heap.size W w') := fun W => by
      rw [hq]; exact Lib.hid (rof_any _ _ W)
    clear hq p0 p1 p2 p3 x1 x2 kb
    go_enter Tryd.func11, Tryd.ntmps11
    go_upto_region 5 with (first
      | (go_at_call 28; (with_reducible refine (CO _ _ _).out.mono ?_); rintro e v ⟨rfl, hb⟩; have hx := (((Held.new w _ _).alloc _).alloc _).below hb; have h2 := (Held.new2 w _ _ _ _).below hb; have hw := Below.step (below3 w _ _ _) hb; clear hb)
      | (go_at_call 30; (with_reducible refine (CR _ _).out.mono ?_); rintro e v2 ⟨rfl, rfl⟩))
    have h6 := Held.new v 23 #[.int .i64 (rs c), .int .i64 (rs d)]
    replace hx := hx.alloc (.cells #[.int .i64 (rs c), .int .i64 (rs d)] 23)
    replace h2 := h2.alloc (.cells #[.int .i64 (rs c), .int .i64 (rs d)] 23)
    replace hw := hw.alloc hw.size (.cells #[.int .i64 (rs c), .int .i64 (rs d)] 23)
    generalize v.alloc _ = W0 at hx h2 h6 hw ⊢
    have HX := Lib.hid hx
    have H6 := Lib.hid h6
    have H2 := Lib.hid h2
    clear hx h6 h2 CO CR
    go_cut [8] (fun v8 wx => MidD W0 (.int .i64 m.1) (.int .i64 m.2) v8 wx)
    case first =>
      go_region_held3 (fun W => Below W0.heap.size W0 W ∧ W.cell? ⟨w.heap.size, 0, none⟩ = some (.int .i64 a) ∧ W.cell? ⟨w.heap.size, 1, none⟩ = some (.int .i64 b) ∧ W.cell? ⟨v.heap.size, 0, none⟩ = some (.int .i64 (rs c)) ∧ W.cell? ⟨v.heap.size, 1, none⟩ = some (.int .i64 (rs d)))
        (first
          | exact keepM HX.out H6.out (Below.refl _ _).drew
          | exact keepM_call HX.out H6.out (by assumption) (by assumption)
          | ((repeat (first | assumption | exact keepM HX.out H6.out (Below.refl _ _) | refine keepM_drew HX.out H6.out ?_ | refine keepM_alloc HX.out H6.out _ ?_ | (refine keepM_set HX.out H6.out _ _ _ (by first | omega | (simp; omega)) ?_))); done)
          | go_keep)
        (first
        | (go_at_call 19; (with_reducible refine (CC _).out.mono ?_); rintro e v2 ⟨rfl, hb⟩; have hq := keepM_call HX.out H6.out (by assumption) hb; have hz := hq.1.size
           (try (first | replace n3 := n3.below hb | replace n3 := (n3.alloc _).below hb); try (obtain ⟨_, _, _, _⟩ := n3.two; have := n3.lt; have := Nat.ne_of_lt n3.lt))
           (first
             | (have n3 := (Held.new _ _ _).drew.below hb; obtain ⟨_, _, _, _⟩ := n3.two; have := n3.lt; have := Nat.ne_of_lt n3.lt)
             | (have n3 := (Held.new _ _ _).below hb; obtain ⟨_, _, _, _⟩ := n3.two; have := n3.lt; have := Nat.ne_of_lt n3.lt)
             | skip))
        | (go_at_call 17; (with_reducible refine (CM _).out.mono ?_); rintro e v2 ⟨rfl, hb⟩; have hq := keepM_call HX.out H6.out (by assumption) hb; have hz := hq.1.size
           (try (first | replace n3 := n3.below hb | replace n3 := (n3.alloc _).below hb); try (obtain ⟨_, _, _, _⟩ := n3.two; have := n3.lt; have := Nat.ne_of_lt n3.lt))
           (first
             | (have n3 := (Held.new _ _ _).drew.below hb; obtain ⟨_, _, _, _⟩ := n3.two; have := n3.lt; have := Nat.ne_of_lt n3.lt)
             | (have n3 := (Held.new _ _ _).below hb; obtain ⟨_, _, _, _⟩ := n3.two; have := n3.lt; have := Nat.ne_of_lt n3.lt)
             | skip)))
      all_goals
        go_wp2_with fail
        go_meet
        case rel =>
          refine ⟨_, rfl, ?_, ?_, And.left (by assumption)⟩
          all_goals first | (simp [go_sem]; done) | (simp [go_sem, *]; done)
    case rest =>
      obtain ⟨k8, rfl, c0, c1, hb⟩ := hcut
      have h2 := H2.out.below hb
      replace hw := Below.step hw hb
      clear hb
      go_wp2_with (first
        | (go_at_call 31; (with_reducible refine (CI _).out.mono ?_); rintro e v2 ⟨rfl, rfl⟩)
        | (go_at_call 28; (with_reducible refine (CQ _).out.mono ?_); rintro e v3 ⟨rfl, hb⟩; replace h2 := h2.below hb; replace hw := Below.step hw hb; obtain ⟨c4, c5, f0, f1⟩ := h2.two))
      replace hw := set2b (k := w.heap.size + 1 + 1) (x := .int .i64 q.1) (y := .int .i64 q.2) (by omega) hw
      replace h2 := h2.set (.int .i64 q.1) (.int .i64 q.2)
      generalize (v3.setCell _ _).setCell _ _ = W2 at h2 hw ⊢
      obtain ⟨d0, d1, _, _⟩ := h2.two
      exact bodyPost_ret (v := .tuple #[.agg #[.int .i64 q.1, .int .i64 q.2], .bool true]) (by simp [results, Tryd.results11, go_sem, d0, d1]) rfl ⟨rfl, hw⟩
end Go.Proofs.YthnnmgjehpapiaaDoor
