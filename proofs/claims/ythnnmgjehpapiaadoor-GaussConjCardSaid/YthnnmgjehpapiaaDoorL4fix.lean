/- Layer 4: the calls whose answers the document fixes. -/
import Derived.Test.YthnnmgjehpapiaaDoorGpw
import Derived.Test.YthnnmgjehpapiaaDoorGtx
import Derived.Test.YthnnmgjehpapiaaDoorGrm
import Derived.Deep.RegionHeld3
import Derived.Deep.DeepCutAuto
import Derived.Deep.CutBlock
namespace Go.Proofs.YthnnmgjehpapiaaDoor
set_option linter.unusedVariables false
set_option linter.unusedSimpArgs false
open Go.RowKit Go.ChangeShapes Go.WideShapes Go.ChangeAt Gm Fl Go.Sort

/-- A value. -/
abbrev gv (x y : Int) : Value := .agg #[.int .i64 x, .int .i64 y]

theorem cb_of {a b x y : Int} (h : gOf (a, b) = (x, y)) : Ct Tryd.prog 27 #[.int .i64 a, .int .i64 b] (gv x y) := fun W => by
  have := gof_any a b W
  obtain ⟨rfl, rfl⟩ : rs a = x ∧ rs b = y := ⟨congrArg Prod.fst h, congrArg Prod.snd h⟩
  exact this
theorem cb_add {a b c d x y : Int} (h : gAdd (a, b) (c, d) = (x, y)) : Ct Tryd.prog 12 #[gv a b, gv c d] (gv x y) := fun W => by have := add_any a b c d W; rw [h] at this; exact this
theorem cb_sub {a b c d x y : Int} (h : gSub (a, b) (c, d) = (x, y)) : Ct Tryd.prog 14 #[gv a b, gv c d] (gv x y) := fun W => by have := sub_any a b c d W; rw [h] at this; exact this
theorem cb_mul {a b c d x y : Int} (h : gMul (a, b) (c, d) = (x, y)) : Ct Tryd.prog 16 #[gv a b, gv c d] (gv x y) := fun W => by have := mul_any a b c d W; rw [h] at this; exact this
theorem cb_conj {a b x y : Int} (h : gConj (a, b) = (x, y)) : Ct Tryd.prog 18 #[gv a b] (gv x y) := fun W => by have := conj_any a b W; rw [h] at this; exact this
theorem cb_pow {a b n x y : Int} (hn : n ≤ 9223372036854775807) (h : powZ (a, b) n = (x, y)) : Ct Tryd.prog 21 #[gv a b, .int .i64 n] (gv x y) := fun W => by have := pow_any a b n W hn; rw [h] at this; exact this
theorem cb_div {a b c d x y : Int} {o : Bool} (h : gQuo (a, b) (c, d) = (x, y)) (ho : decide (gNorm (c, d) ≠ 0) = o) : Ct Tryd.prog 10 #[gv a b, gv c d] (.tuple #[gv x y, .bool o]) := fun W => by
  have := div_any a b c d W; rw [h, ho] at this; exact this
theorem cb_may {a b : Int} {o : Bool} (h : mayB a b = o) : Ct Tryd.prog 25 #[gv a b] (.bool o) := fun W => by have := may_any a b W; rw [h] at this; exact this
/-- A text, where the table is laid. -/
def Ctx (f : Nat) (args : Array Value) (v : Value) : Prop := ∀ W, Tab W → Calls Tryd.prog f args W fun e w' => e = .returned v ∧ Below W.heap.size W w'
theorem Ctx.go {f : Nat} {args : Array Value} {v : Value} (h : Ctx f args v) (W : World) (hT : Tab W) : Calls Tryd.prog f args W fun e w' => e = .returned v ∧ Below W.heap.size W w' := h W hT
theorem ctx_text {a b : Int} {s : List UInt8} (h : gText (a, b) = s) : Ctx 23 #[gv a b] (.string ⟨s.toArray⟩) := fun W hT => by have := text_any a b W hT; rw [h] at this; exact this

/-- Behind 'q, is := ..'. -/
def MidF (W0 : World) (x0 x1 v3 v4 : Value) (wx : World) : Prop :=
  ∃ k : Nat, v3 = .pointer (some ⟨k, 0, none⟩) ∧ v4 = .bool true ∧ wx.cell? ⟨k, 0, none⟩ = some x0 ∧ wx.cell? ⟨k, 1, none⟩ = some x1 ∧ Below W0.heap.size W0 wx

set_option maxHeartbeats 4000000 in
set_option maxRecDepth 100000 in
theorem fixed_true (w : World) (hT : Tab w) : Calls Tryd.prog 20 #[] w fun e w' => e = .returned (.bool true) ∧ Below w.heap.size w w' := by
  have C1 : Ct Tryd.prog 27 #[.int .i64 0, .int .i64 1] (gv 0 1) := cb_of (by decide +kernel)
  have C2 : Ct Tryd.prog 27 #[.int .i64 252, .int .i64 (-251)] (gv 1 0) := cb_of (by decide +kernel)
  have C3 : Ct Tryd.prog 27 #[.int .i64 3, .int .i64 4] (gv 3 4) := cb_of (by decide +kernel)
  have C4 : Ct Tryd.prog 10 #[gv 1 0, gv 3 4] (.tuple #[gv 221 40, .bool true]) := cb_div (by decide +kernel) (by decide +kernel)
  have C5 : Ct Tryd.prog 10 #[gv 1 0, gv 251 0] (.tuple #[gv 0 0, .bool false]) := cb_div (by decide +kernel) (by decide +kernel)
  have C6 : Ct Tryd.prog 27 #[.int .i64 1, .int .i64 2] (gv 1 2) := cb_of (by decide +kernel)
  have C7 : Ct Tryd.prog 27 #[.int .i64 (-1), .int .i64 5] (gv 250 5) := cb_of (by decide +kernel)
  have M1 : Ct Tryd.prog 16 #[gv 0 1, gv 0 1] (gv 250 0) := cb_mul (by decide +kernel)
  have M2 : Ct Tryd.prog 16 #[gv 221 40, gv 3 4] (gv 1 0) := cb_mul (by decide +kernel)
  have J1 : Ct Tryd.prog 18 #[gv 1 2] (gv 1 249) := cb_conj (by decide +kernel)
  have S1 : Ct Tryd.prog 14 #[gv 0 1, gv 1 0] (gv 250 1) := cb_sub (by decide +kernel)
  have P1 : Ct Tryd.prog 21 #[gv 0 1, .int .i64 3] (gv 0 250) := cb_pow (by decide) (by decide +kernel)
  have P2 : Ct Tryd.prog 21 #[gv 0 1, .int .i64 0] (gv 1 0) := cb_pow (by decide) (by decide +kernel)
  have Y1 : Ct Tryd.prog 25 #[gv 1 0] (.bool true) := cb_may (by decide +kernel)
  have Y2 : Ct Tryd.prog 25 #[gv 0 (-1)] (.bool false) := cb_may (by decide +kernel)
  have T1 : Ctx 23 #[gv 250 5] (.string ⟨#[50, 53, 48, 43, 53, 105]⟩) := ctx_text (s := [50, 53, 48, 43, 53, 105]) (by decide +kernel)
  go_enter Tryd.func20, Tryd.ntmps20
  go_upto_region 2 with (first
    | (go_at_call 27; (with_reducible refine (C1.go _).mono ?_); rintro e v ⟨rfl, hb⟩; have hw := hb)
    | (go_at_call 27; (with_reducible refine (C2.go _).mono ?_); rintro e v2 ⟨rfl, hb⟩; replace hw := Below.step hw hb))
  have hx := (Held.new v2 23 #[.int .i64 0, .int .i64 1]).alloc (.cells #[.int .i64 1, .int .i64 0] 23)
  have h1 := Held.new1 v2 (.cells #[.int .i64 0, .int .i64 1] 23) 23 #[.int .i64 1, .int .i64 0]
  replace hw := (hw.alloc hw.size (.cells #[.int .i64 0, .int .i64 1] 23)).alloc (by have := hw.size; simp; omega) (.cells #[.int .i64 1, .int .i64 0] 23)
  clear hb
  generalize (v2.alloc _).alloc _ = W0 at hx h1 hw ⊢
  have HX := Lib.hid hx
  have H1 := Lib.hid h1
  clear hx h1 C1 C2
  go_cut [3, 4] (fun v3 v4 wx => MidF W0 (.int .i64 221) (.int .i64 40) v3 v4 wx)
  case first =>
    go_region_held3 (fun W => Below W0.heap.size W0 W ∧ W.cell? ⟨v2.heap.size, 0, none⟩ = some (.int .i64 0) ∧ W.cell? ⟨v2.heap.size, 1, none⟩ = some (.int .i64 1) ∧ W.cell? ⟨v2.heap.size + 1, 0, none⟩ = some (.int .i64 1) ∧ W.cell? ⟨v2.heap.size + 1, 1, none⟩ = some (.int .i64 0))
      (first
        | exact keepM HX.out H1.out (Below.refl _ _).drew
        | exact keepM_call HX.out H1.out (by assumption) (by assumption)
        | ((repeat (first | assumption | exact keepM HX.out H1.out (Below.refl _ _) | refine keepM_drew HX.out H1.out ?_ | refine keepM_alloc HX.out H1.out _ ?_ | (refine keepM_set HX.out H1.out _ _ _ (by first | omega | (simp; omega)) ?_))); done)
        | go_keep)
      (first
        | (go_at_call 27; (with_reducible refine (C3.go _).mono ?_); rintro e v3 ⟨rfl, hb⟩; have hq := keepM_call HX.out H1.out (by assumption) hb; have hz := hq.1.size
           (try (first | replace n3 := n3.below hb | replace n3 := (n3.alloc _).below hb); try (obtain ⟨_, _, _, _⟩ := n3.two; have := n3.lt; have := Nat.ne_of_lt n3.lt))
           (first
             | (have n3 := (Held.new _ _ _).drew.below hb; obtain ⟨_, _, _, _⟩ := n3.two; have := n3.lt; have := Nat.ne_of_lt n3.lt)
             | (have n3 := (Held.new _ _ _).below hb; obtain ⟨_, _, _, _⟩ := n3.two; have := n3.lt; have := Nat.ne_of_lt n3.lt)
             | skip))
        | (go_at_call 10; (with_reducible refine (C4.go _).mono ?_); rintro e v3 ⟨rfl, hb⟩; have hq := keepM_call HX.out H1.out (by assumption) hb; have hz := hq.1.size
           (try (first | replace n3 := n3.below hb | replace n3 := (n3.alloc _).below hb); try (obtain ⟨_, _, _, _⟩ := n3.two; have := n3.lt; have := Nat.ne_of_lt n3.lt))
           (first
             | (have n3 := (Held.new _ _ _).drew.below hb; obtain ⟨_, _, _, _⟩ := n3.two; have := n3.lt; have := Nat.ne_of_lt n3.lt)
             | (have n3 := (Held.new _ _ _).below hb; obtain ⟨_, _, _, _⟩ := n3.two; have := n3.lt; have := Nat.ne_of_lt n3.lt)
             | skip)))
    all_goals
      go_wp2_with fail
      go_meet
      case rel =>
        refine ⟨_, rfl, rfl, ?_, ?_, And.left (by assumption)⟩
        all_goals first | (simp [go_sem]; done) | (simp [go_sem, *]; done)
  case rest =>
    obtain ⟨k3, rfl, rfl, d0, d1, hb⟩ := hcut
    have hx := HX.out.below hb
    have h1 := H1.out.below hb
    replace hw := Below.step hw hb
    have h3 : k3 < wc.heap.size := block_lt_of_cell d0
    have h3' : k3 < wc.heap.size := block_lt_of_cell d1
    clear hb C4
    obtain ⟨a0, a1, _, _⟩ := hx.two
    obtain ⟨b0, b1, _, _⟩ := h1.two
    go_wp2_with (go_at_call 10; (with_reducible refine (C5.go _).mono ?_); rintro e v5 ⟨rfl, hb⟩)
    have hbA := hb.alloc hb.size (.cells #[.int .i64 0, .int .i64 0] 23)
    replace hx := hx.below hbA
    replace h1 := h1.below hbA
    replace d0 := (hbA.cell h3).trans d0
    replace d1 := (hbA.cell h3').trans d1
    replace hw := Below.step hw hbA
    clear hb hbA a0 a1 b0 b1
    generalize v5.alloc _ = W1 at hx h1 d0 d1 hw ⊢
    replace hT := hT.below hw
    obtain ⟨a0, a1, _, _⟩ := hx.two
    obtain ⟨b0, b1, _, _⟩ := h1.two
    have g0 := fun d os => cell_regrown a0 d os
    have g1 := fun d os => cell_regrown a1 d os
    have g2 := fun d os => cell_regrown b0 d os
    have g3 := fun d os => cell_regrown b1 d os
    have g4 := fun d os => cell_regrown d0 d os
    have g5 := fun d os => cell_regrown d1 d os
    have HT := fun d os => hT.regrown d os
    clear a0 a1 b0 b1 d0 d1 hx h1 C5
    refine wp_region_quiet_below (by kernel_rfl) (by kernel_rfl) ?_
    repeat (first
      | go_big_quiet_step ((first
        | (go_at_call 16; (with_reducible exact Calls.regrown_of (M1.go _)))
        | (go_at_call 27; (with_reducible exact Calls.regrown_of (C3.go _)))
        | (go_at_call 16; (with_reducible exact Calls.regrown_of (M2.go _)))
        | (go_at_call 27; (with_reducible exact Calls.regrown_of (C6.go _)))
        | (go_at_call 18; (with_reducible exact Calls.regrown_of (J1.go _)))
        | (go_at_call 14; (with_reducible exact Calls.regrown_of (S1.go _)))
        | (go_at_call 21; (with_reducible exact Calls.regrown_of (P1.go _)))
        | (go_at_call 21; (with_reducible exact Calls.regrown_of (P2.go _)))
        | (go_at_call 27; (with_reducible exact Calls.regrown_of (C7.go _)))
        | (go_at_call 25; (with_reducible exact Calls.regrown_of (Y1.go _)))
        | (go_at_call 25; (with_reducible exact Calls.regrown_of (Y2.go _)))
        | (go_at_call 23; (with_reducible exact Calls.regrown_of (T1.go _ (HT _ _))))))
      | quiet_step ((first
        | (go_at_call 16; (with_reducible exact Calls.regrown_of (M1.go _)))
        | (go_at_call 27; (with_reducible exact Calls.regrown_of (C3.go _)))
        | (go_at_call 16; (with_reducible exact Calls.regrown_of (M2.go _)))
        | (go_at_call 27; (with_reducible exact Calls.regrown_of (C6.go _)))
        | (go_at_call 18; (with_reducible exact Calls.regrown_of (J1.go _)))
        | (go_at_call 14; (with_reducible exact Calls.regrown_of (S1.go _)))
        | (go_at_call 21; (with_reducible exact Calls.regrown_of (P1.go _)))
        | (go_at_call 21; (with_reducible exact Calls.regrown_of (P2.go _)))
        | (go_at_call 27; (with_reducible exact Calls.regrown_of (C7.go _)))
        | (go_at_call 25; (with_reducible exact Calls.regrown_of (Y1.go _)))
        | (go_at_call 25; (with_reducible exact Calls.regrown_of (Y2.go _)))
        | (go_at_call 23; (with_reducible exact Calls.regrown_of (T1.go _ (HT _ _)))))))
    refine wpQuiet_nil ?_
    intro v6 hv
    have hb := below_of_regrown hv
    clear hv g0 g1 g2 g3 g4 g5 HT
    go_wp2_with fail
    go_ret
    exact ⟨rfl, Below.step hw hb⟩
end Go.Proofs.YthnnmgjehpapiaaDoor
