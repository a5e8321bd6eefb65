/- Layer 4: GaussConj: a conjugate's conjugate is as it was; sums and products of conjugates are conjugates of sums and products; a value times its own has no imaginary part. For all values. -/
import Derived.Test.YthnnmgjehpapiaaDoorL4lib
import Derived.Test.YthnnmgjehpapiaaDoorGref
namespace Go.Proofs.YthnnmgjehpapiaaDoor.gaussConj
set_option linter.unusedVariables false
set_option linter.unusedSimpArgs false
open Go.ChangeShapes Go.WideShapes Go.ChangeAt Go.RowKit Gm Fl Go.Sort

theorem fixed_ctx : Ctx 20 #[] (.bool true) := fun W hT => fixed_true W hT
theorem may_ct {a b : Int} {o : Bool} (h : mayB a b = o) : Ct Tryd.prog 26 #[gv a b] (.bool o) := fun W => by have := rmay_any a b W; rwa [h] at this

set_option maxHeartbeats 1000000 in
set_option maxRecDepth 100000 in
theorem other (a b c d : Int) (w : World) (hT : Tab w) (h : mayB a b = false ∨ (mayB a b = true ∧ mayB c d = false)) :
    Calls Tryd.prog 5 #[gv a b, gv c d] w fun e w' => e = .returned (.bool true) ∧ Below w.heap.size w w' := by
  have FX := fixed_ctx
  rcases h with h | ⟨h, h'⟩
  all_goals
    have Y1 := may_ct h
    first | have Y2 := may_ct h' | skip
    go_enter Tryd.func5, Tryd.ntmps5
    go_wp2_with (first
      | (go_at_call 20; (with_reducible refine (FX.go _ (hT.below (below2 w _ _))).mono ?_); rintro e v ⟨rfl, hb⟩; have hx := ((Held.new w _ _).alloc _).below hb; have hy := (Held.new1 w _ _ _).below hb; have hw := Below.step (below2 w _ _) hb; clear hb; obtain ⟨c0, c1, _, _⟩ := hx.two; obtain ⟨c2, c3, _, _⟩ := hy.two)
      | (go_at_call 26; (first | with_reducible refine (Y1.go _).mono ?_ | with_reducible refine (Y2.go _).mono ?_); rintro e v2 ⟨rfl, hb⟩; replace hx := hx.below hb; replace hy := hy.below hb; replace hw := Below.step hw hb; clear hb c0 c1 c2 c3; obtain ⟨c0, c1, _, _⟩ := hx.two; obtain ⟨c2, c3, _, _⟩ := hy.two)
      | (go_at_call 20; (with_reducible refine (FX.go _ (hT.below hw)).mono ?_); rintro e v3 ⟨rfl, hb⟩; replace hw := Below.step hw hb; clear hb))
    go_ret
    exact ⟨rfl, hw⟩

set_option maxHeartbeats 4000000 in
set_option maxRecDepth 100000 in
theorem good (a b c d : Int) (w : World) (hT : Tab w) (h : mayB a b = true) (h' : mayB c d = true) :
    Calls Tryd.prog 5 #[gv a b, gv c d] w fun e w' => e = .returned (.bool true) ∧ Below w.heap.size w w' := by
  have FX := fixed_ctx
  have Y1 := may_ct h
  have Y2 := may_ct h'
  have oa := of_in ((may_iff a b).1 h)
  have pw := pow251 ((may_iff a b).1 h)
  obtain ⟨x, e1⟩ : ∃ s, s = gConj (a, b) := ⟨_, rfl⟩
  obtain ⟨y, e2⟩ : ∃ s, s = gConj (c, d) := ⟨_, rfl⟩
  obtain ⟨s1, e3⟩ : ∃ s, s = gAdd (a, b) (c, d) := ⟨_, rfl⟩
  obtain ⟨s2, e4⟩ : ∃ s, s = gAdd x y := ⟨_, rfl⟩
  obtain ⟨m1, e5⟩ : ∃ s, s = gMul (a, b) (c, d) := ⟨_, rfl⟩
  obtain ⟨m2, e6⟩ : ∃ s, s = gMul x y := ⟨_, rfl⟩
  obtain ⟨n, e7⟩ : ∃ s, s = gNorm (a, b) := ⟨_, rfl⟩
  have JX : Ct Tryd.prog 18 #[gv a b] (gv x.1 x.2) := cb_conj e1.symm
  have JY : Ct Tryd.prog 18 #[gv c d] (gv y.1 y.2) := cb_conj e2.symm
  have JJ : Ct Tryd.prog 18 #[gv x.1 x.2] (gv a b) := cb_conj (by rw [e1]; exact (conj_conj (a, b)).trans oa)
  have AXY : Ct Tryd.prog 12 #[gv x.1 x.2, gv y.1 y.2] (gv s2.1 s2.2) := cb_add e4.symm
  have AB : Ct Tryd.prog 12 #[gv a b, gv c d] (gv s1.1 s1.2) := cb_add e3.symm
  have JS : Ct Tryd.prog 18 #[gv s1.1 s1.2] (gv s2.1 s2.2) := cb_conj (by rw [e4, e3, e1, e2]; exact (conj_add (a, b) (c, d)).symm)
  have MXY : Ct Tryd.prog 16 #[gv x.1 x.2, gv y.1 y.2] (gv m2.1 m2.2) := cb_mul e6.symm
  have MB : Ct Tryd.prog 16 #[gv a b, gv c d] (gv m1.1 m1.2) := cb_mul e5.symm
  have JM : Ct Tryd.prog 18 #[gv m1.1 m1.2] (gv m2.1 m2.2) := cb_conj (by rw [e6, e5, e1, e2]; exact (conj_mul (a, b) (c, d)).symm)
  have MAX : Ct Tryd.prog 16 #[gv a b, gv x.1 x.2] (.agg #[.int .i64 n, .int .i64 0]) := cb_mul (by rw [e1, e7]; exact mul_conj (a, b))
  have PW : Ct Tryd.prog 21 #[gv a b, .int .i64 251] (gv x.1 x.2) := cb_pow (by decide) (by rw [e1, ← pw]; exact powZ_nat (a, b) 251)
  have KF : ∀ W, (Instr.field 23 (.agg #[.int .i64 n, .int .i64 0]) 1).run Tryd.prog W = .ok (.int .i64 0) W := fun W => field1 n 0 W
  clear e1 e2 e3 e4 e5 e6 e7 oa pw h h'
  go_enter Tryd.func5, Tryd.ntmps5
  go_upto_region 3 with (first
    | (go_at_call 20; (with_reducible refine (FX.go _ (hT.below (below2 w _ _))).mono ?_); rintro e v ⟨rfl, hb⟩; have hx := ((Held.new w _ _).alloc _).below hb; have hy := (Held.new1 w _ _ _).below hb; have hw := Below.step (below2 w _ _) hb; clear hb; obtain ⟨c0, c1, _, _⟩ := hx.two; obtain ⟨c2, c3, _, _⟩ := hy.two)
    | (go_at_call 26; (first | with_reducible refine (Y1.go _).mono ?_ | with_reducible refine (Y2.go _).mono ?_); rintro e v2 ⟨rfl, hb⟩; replace hx := hx.below hb; replace hy := hy.below hb; replace hw := Below.step hw hb; clear hb c0 c1 c2 c3; obtain ⟨c0, c1, _, _⟩ := hx.two; obtain ⟨c2, c3, _, _⟩ := hy.two))
  clear c0 c1 c2 c3 Y1 Y2 FX hT
  have HX := Lib.hid hx
  have HY := Lib.hid hy
  clear hx hy
  go_cut [5, 6] (fun v5 v6 wx => MidM v2 (.int .i64 x.1) (.int .i64 x.2) (.int .i64 y.1) (.int .i64 y.2) v5 v6 wx)
  case first =>
    go_region_held3 (fun W => Below v2.heap.size v2 W ∧ W.cell? ⟨w.heap.size, 0, none⟩ = some (.int .i64 a) ∧ W.cell? ⟨w.heap.size, 1, none⟩ = some (.int .i64 b) ∧ W.cell? ⟨w.heap.size + 1, 0, none⟩ = some (.int .i64 c) ∧ W.cell? ⟨w.heap.size + 1, 1, none⟩ = some (.int .i64 d))
      (first
        | exact keepM HX.out HY.out (Below.refl _ _).drew
        | exact keepM_call HX.out HY.out (by assumption) (by assumption)
        | ((repeat (first | assumption | exact keepM HX.out HY.out (Below.refl _ _) | refine keepM_drew HX.out HY.out ?_ | refine keepM_alloc HX.out HY.out _ ?_ | (refine keepM_set HX.out HY.out _ _ _ (by first | omega | (simp; omega)) ?_))); done)
        | go_keep)
      (first
        | (go_at_call 18; (with_reducible refine (JX.go _).mono ?_); rintro e v ⟨rfl, hb⟩; have hq := keepM_call HX.out HY.out (by assumption) hb; have hz := hq.1.size
           (try (first | replace n1 := n1.below hb | replace n1 := (n1.alloc _).below hb | replace n1 := ((n1.alloc _).alloc _).below hb); try (obtain ⟨_, _, _, _⟩ := n1.two; have := n1.lt; have := Nat.ne_of_lt n1.lt))
           (try (first | replace n2 := n2.below hb | replace n2 := (n2.alloc _).below hb | replace n2 := ((n2.alloc _).alloc _).below hb); try (obtain ⟨_, _, _, _⟩ := n2.two; have := n2.lt; have := Nat.ne_of_lt n2.lt))
           (try (first | replace n3 := n3.below hb | replace n3 := (n3.alloc _).below hb | replace n3 := ((n3.alloc _).alloc _).below hb); try (obtain ⟨_, _, _, _⟩ := n3.two; have := n3.lt; have := Nat.ne_of_lt n3.lt))
           (first
             | (have n2 := ((Held.new _ _ _).alloc _).drew.below hb; have n1 := (Held.new1 _ _ _ _).drew.below hb; obtain ⟨_, _, _, _⟩ := n1.two; obtain ⟨_, _, _, _⟩ := n2.two; have := n1.lt; have := n2.lt)
             | (have n3 := (Held.new _ _ _).drew.below hb; obtain ⟨_, _, _, _⟩ := n3.two; have := n3.lt; have := Nat.ne_of_lt n3.lt)
             | (have n2 := ((Held.new _ _ _).alloc _).below hb; have n1 := (Held.new1 _ _ _ _).below hb; obtain ⟨_, _, _, _⟩ := n1.two; obtain ⟨_, _, _, _⟩ := n2.two; have := n1.lt; have := n2.lt)
             | (have n3 := (Held.new _ _ _).below hb; obtain ⟨_, _, _, _⟩ := n3.two; have := n3.lt; have := Nat.ne_of_lt n3.lt)
             | skip))
        | (go_at_call 18; (with_reducible refine (JY.go _).mono ?_); rintro e v ⟨rfl, hb⟩; have hq := keepM_call HX.out HY.out (by assumption) hb; have hz := hq.1.size
           (try (first | replace n1 := n1.below hb | replace n1 := (n1.alloc _).below hb | replace n1 := ((n1.alloc _).alloc _).below hb); try (obtain ⟨_, _, _, _⟩ := n1.two; have := n1.lt; have := Nat.ne_of_lt n1.lt))
           (try (first | replace n2 := n2.below hb | replace n2 := (n2.alloc _).below hb | replace n2 := ((n2.alloc _).alloc _).below hb); try (obtain ⟨_, _, _, _⟩ := n2.two; have := n2.lt; have := Nat.ne_of_lt n2.lt))
           (try (first | replace n3 := n3.below hb | replace n3 := (n3.alloc _).below hb | replace n3 := ((n3.alloc _).alloc _).below hb); try (obtain ⟨_, _, _, _⟩ := n3.two; have := n3.lt; have := Nat.ne_of_lt n3.lt))
           (first
             | (have n2 := ((Held.new _ _ _).alloc _).drew.below hb; have n1 := (Held.new1 _ _ _ _).drew.below hb; obtain ⟨_, _, _, _⟩ := n1.two; obtain ⟨_, _, _, _⟩ := n2.two; have := n1.lt; have := n2.lt)
             | (have n3 := (Held.new _ _ _).drew.below hb; obtain ⟨_, _, _, _⟩ := n3.two; have := n3.lt; have := Nat.ne_of_lt n3.lt)
             | (have n2 := ((Held.new _ _ _).alloc _).below hb; have n1 := (Held.new1 _ _ _ _).below hb; obtain ⟨_, _, _, _⟩ := n1.two; obtain ⟨_, _, _, _⟩ := n2.two; have := n1.lt; have := n2.lt)
             | (have n3 := (Held.new _ _ _).below hb; obtain ⟨_, _, _, _⟩ := n3.two; have := n3.lt; have := Nat.ne_of_lt n3.lt)
             | skip)))
    all_goals
      go_wp2_with fail
      go_meet
      case rel =>
        refine ⟨_, _, rfl, rfl, ?_, ?_, ?_, ?_, And.left (by assumption)⟩
        all_goals first | (simp [go_sem]; done) | (simp [go_sem, *]; done)
  case rest =>
    obtain ⟨k1, k2, rfl, rfl, p0, p1, q0, q1, hb⟩ := hcut
    have hx := HX.out.below hb
    have hy := HY.out.below hb
    replace hw := Below.step hw hb
    clear hb JX JY
    have p0g := fun d os => cell_regrown p0 d os
    have p1g := fun d os => cell_regrown p1 d os
    have q0g := fun d os => cell_regrown q0 d os
    have q1g := fun d os => cell_regrown q1 d os
    clear p0 p1 q0 q1
    go_upto_region 4 with (fail)
    obtain ⟨hx0, hx1, _, _⟩ := hx.two
    have hxg := fun d os => cell_regrown hx0 d os
    have hxk := fun d os => cell_regrown hx1 d os
    clear hx0 hx1
    obtain ⟨hy0, hy1, _, _⟩ := hy.two
    have hyg := fun d os => cell_regrown hy0 d os
    have hyk := fun d os => cell_regrown hy1 d os
    clear hy0 hy1
    refine wp_region_quiet_below (by kernel_rfl) (by kernel_rfl) ?_
    repeat (first
      | go_big_quiet_step ((first
          | (go_at_call 18; (with_reducible exact Calls.regrown_of (JJ.go _)))
          | (go_at_call 12; (with_reducible exact Calls.regrown_of (AXY.go _)))
          | (go_at_call 12; (with_reducible exact Calls.regrown_of (AB.go _)))
          | (go_at_call 18; (with_reducible exact Calls.regrown_of (JS.go _)))
          | (go_at_call 16; (with_reducible exact Calls.regrown_of (MXY.go _)))
          | (go_at_call 16; (with_reducible exact Calls.regrown_of (MB.go _)))
          | (go_at_call 18; (with_reducible exact Calls.regrown_of (JM.go _)))
          | (go_at_call 16; (with_reducible exact Calls.regrown_of (MAX.go _)))
          | (go_at_call 21; (with_reducible exact Calls.regrown_of (PW.go _)))))
      | quiet_step ((first
          | (go_at_call 18; (with_reducible exact Calls.regrown_of (JJ.go _)))
          | (go_at_call 12; (with_reducible exact Calls.regrown_of (AXY.go _)))
          | (go_at_call 12; (with_reducible exact Calls.regrown_of (AB.go _)))
          | (go_at_call 18; (with_reducible exact Calls.regrown_of (JS.go _)))
          | (go_at_call 16; (with_reducible exact Calls.regrown_of (MXY.go _)))
          | (go_at_call 16; (with_reducible exact Calls.regrown_of (MB.go _)))
          | (go_at_call 18; (with_reducible exact Calls.regrown_of (JM.go _)))
          | (go_at_call 16; (with_reducible exact Calls.regrown_of (MAX.go _)))
          | (go_at_call 21; (with_reducible exact Calls.regrown_of (PW.go _))))))
    refine wpQuiet_nil ?_
    intro v7 hv
    have hb := below_of_regrown hv
    clear hv hxg hxk hyg hyk
    replace hx := hx.below hb
    replace hy := hy.below hb
    replace hw := Below.step hw hb
    clear hb
    go_wp2_with fail
    go_ret
    exact ⟨rfl, hw⟩
theorem entry {H : Type} {enc : TypeId × Value → H} (W : World) (base : Nat) (v0 v1 : Value) (d0 d1 : DataW H) (p0 p1 : List MemPlace)
    (k0 : Value.okWide Tryd.prog W .any base 23 v0) (k1 : Value.okWide Tryd.prog W .any base 23 v1)
    (h0 : DataW.Trod enc Tryd.prog W 0 (fun _ => true) true 23 v0 d0 p0) (h1 : DataW.Trod enc Tryd.prog W 0 (fun _ => true) true 23 v1 d1 p1) (hT : Tab W) :
    Calls Tryd.prog 5 #[v0, v1] W fun e w' => e = .returned (.bool true) ∧ Below W.heap.size W w' := by
  obtain ⟨a, b, rfl, _, _⟩ := open_val k0 h0
  obtain ⟨c, d, rfl, _, _⟩ := open_val k1 h1
  cases h : mayB a b with
  | false => exact other a b c d W hT (.inl h)
  | true =>
    cases h' : mayB c d with
    | false => exact other a b c d W hT (.inr ⟨h, h'⟩)
    | true => exact good a b c d W hT h h'
end Go.Proofs.YthnnmgjehpapiaaDoor.gaussConj
