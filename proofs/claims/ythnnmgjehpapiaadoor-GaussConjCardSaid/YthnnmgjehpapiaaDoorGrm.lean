/- Layer 4: the document's own answers: products. -/
import Derived.Test.YthnnmgjehpapiaaDoorGref
import Derived.Deep.RegionHeld3
import Derived.Deep.DeepCutAuto
import Derived.Deep.CutBlock
namespace Go.Proofs.YthnnmgjehpapiaaDoor
set_option linter.unusedVariables false
set_option linter.unusedSimpArgs false
open Go.RowKit Go.ChangeShapes Go.WideShapes Go.ChangeAt Gm Fl Go.Sort

/-- What is kept on the way: the cells of two arguments, and all of the beginning. -/
theorem keepM {W0 W : World} {g h : Nat} {t : TypeId} {a b c d : Value} (hx : Held W0 g t #[a, b]) (h1 : Held W0 h t #[c, d]) (hb : Below W0.heap.size W0 W) :
    Below W0.heap.size W0 W ∧ W.cell? ⟨g, 0, none⟩ = some a ∧ W.cell? ⟨g, 1, none⟩ = some b ∧ W.cell? ⟨h, 0, none⟩ = some c ∧ W.cell? ⟨h, 1, none⟩ = some d :=
  ⟨hb, (hx.below hb).cell 0, (hx.below hb).cell 1, (h1.below hb).cell 0, (h1.below hb).cell 1⟩

theorem set2b' {w v : World} {k : Nat} {x y : Value} (hk : w.heap.size ≤ k) (hw : Below w.heap.size w v) : Below w.heap.size w ((v.setCell ⟨k, 0, none⟩ x).setCell ⟨k, 1, none⟩ y) := set2b hk hw
theorem keepM_call {W0 W W' : World} {g h : Nat} {t : TypeId} {a b c d : Value} (hx : Held W0 g t #[a, b]) (h1 : Held W0 h t #[c, d]) (hS : Below W0.heap.size W0 W ∧ W.cell? ⟨g, 0, none⟩ = some a ∧ W.cell? ⟨g, 1, none⟩ = some b ∧ W.cell? ⟨h, 0, none⟩ = some c ∧ W.cell? ⟨h, 1, none⟩ = some d) (hb : Below W.heap.size W W') : Below W0.heap.size W0 W' ∧ W'.cell? ⟨g, 0, none⟩ = some a ∧ W'.cell? ⟨g, 1, none⟩ = some b ∧ W'.cell? ⟨h, 0, none⟩ = some c ∧ W'.cell? ⟨h, 1, none⟩ = some d := keepM hx h1 (Below.step hS.1 hb)
theorem Held.drew {W : World} {g : Nat} {t : TypeId} {cs : Array Value} (h : Held W g t cs) : Held W.drew g t cs := h
theorem keepM_drew {W0 W : World} {g h : Nat} {t : TypeId} {a b c d : Value} (hx : Held W0 g t #[a, b]) (h1 : Held W0 h t #[c, d]) (hS : Below W0.heap.size W0 W ∧ W.cell? ⟨g, 0, none⟩ = some a ∧ W.cell? ⟨g, 1, none⟩ = some b ∧ W.cell? ⟨h, 0, none⟩ = some c ∧ W.cell? ⟨h, 1, none⟩ = some d) :
    Below W0.heap.size W0 W.drew ∧ W.drew.cell? ⟨g, 0, none⟩ = some a ∧ W.drew.cell? ⟨g, 1, none⟩ = some b ∧ W.drew.cell? ⟨h, 0, none⟩ = some c ∧ W.drew.cell? ⟨h, 1, none⟩ = some d := keepM hx h1 hS.1.drew
theorem keepM_alloc {W0 W : World} {g h : Nat} {t : TypeId} {a b c d : Value} (hx : Held W0 g t #[a, b]) (h1 : Held W0 h t #[c, d]) (o : Obj) (hS : Below W0.heap.size W0 W ∧ W.cell? ⟨g, 0, none⟩ = some a ∧ W.cell? ⟨g, 1, none⟩ = some b ∧ W.cell? ⟨h, 0, none⟩ = some c ∧ W.cell? ⟨h, 1, none⟩ = some d) : Below W0.heap.size W0 (W.alloc o) ∧ (W.alloc o).cell? ⟨g, 0, none⟩ = some a ∧ (W.alloc o).cell? ⟨g, 1, none⟩ = some b ∧ (W.alloc o).cell? ⟨h, 0, none⟩ = some c ∧ (W.alloc o).cell? ⟨h, 1, none⟩ = some d := keepM hx h1 (hS.1.alloc hS.1.size o)
theorem keepM_set {W0 W : World} {g h : Nat} {t : TypeId} {a b c d : Value} (hx : Held W0 g t #[a, b]) (h1 : Held W0 h t #[c, d]) (k : Nat) (x y : Value) (hk : W0.heap.size ≤ k) (hS : Below W0.heap.size W0 W ∧ W.cell? ⟨g, 0, none⟩ = some a ∧ W.cell? ⟨g, 1, none⟩ = some b ∧ W.cell? ⟨h, 0, none⟩ = some c ∧ W.cell? ⟨h, 1, none⟩ = some d) : Below W0.heap.size W0 ((W.setCell ⟨k, 0, none⟩ x).setCell ⟨k, 1, none⟩ y) ∧ ((W.setCell ⟨k, 0, none⟩ x).setCell ⟨k, 1, none⟩ y).cell? ⟨g, 0, none⟩ = some a ∧ ((W.setCell ⟨k, 0, none⟩ x).setCell ⟨k, 1, none⟩ y).cell? ⟨g, 1, none⟩ = some b ∧ ((W.setCell ⟨k, 0, none⟩ x).setCell ⟨k, 1, none⟩ y).cell? ⟨h, 0, none⟩ = some c ∧ ((W.setCell ⟨k, 0, none⟩ x).setCell ⟨k, 1, none⟩ y).cell? ⟨h, 1, none⟩ = some d := keepM hx h1 (set2b' hk hS.1)
/-- Behind 'x, y := ..': where x and y lie, and what they hold. -/
def MidM (W0 : World) (x0 x1 y0 y1 v5 v6 : Value) (wx : World) : Prop :=
  ∃ k1 k2 : Nat, v5 = .pointer (some ⟨k1, 0, none⟩) ∧ v6 = .pointer (some ⟨k2, 0, none⟩) ∧ wx.cell? ⟨k1, 0, none⟩ = some x0 ∧ wx.cell? ⟨k1, 1, none⟩ = some x1 ∧ wx.cell? ⟨k2, 0, none⟩ = some y0 ∧ wx.cell? ⟨k2, 1, none⟩ = some y1 ∧ Below W0.heap.size W0 wx

theorem rmul_bd (a b c d : Int) : IntKind.i64.wrap (rs a * rs c) = rs a * rs c ∧ IntKind.i64.wrap (rs b * rs d) = rs b * rs d ∧ IntKind.i64.wrap (rs a * rs c - rs b * rs d) = rs a * rs c - rs b * rs d := by
  have ra := rs_bd a; have rb := rs_bd b; have rc := rs_bd c; have rd := rs_bd d
  have m1 := mul_bd ra.1 rc.1 ra.2 rc.2
  have m2 := mul_bd rb.1 rd.1 rb.2 rd.2
  exact ⟨IntWalk.i64_in _ (by omega), IntWalk.i64_in _ (by omega), IntWalk.i64_in _ (by omega)⟩

theorem rmul_bd2 (a b c d : Int) : IntKind.i64.wrap (rs a * rs d) = rs a * rs d ∧ IntKind.i64.wrap (rs b * rs c) = rs b * rs c ∧ IntKind.i64.wrap (rs a * rs d + rs b * rs c) = rs a * rs d + rs b * rs c := by
  have ra := rs_bd a; have rb := rs_bd b; have rc := rs_bd c; have rd := rs_bd d
  have m3 := mul_bd ra.1 rd.1 ra.2 rd.2
  have m4 := mul_bd rb.1 rc.1 rb.2 rc.2
  exact ⟨IntWalk.i64_in _ (by omega), IntWalk.i64_in _ (by omega), IntWalk.i64_in _ (by omega)⟩

set_option maxHeartbeats 4000000 in
set_option maxRecDepth 100000 in
theorem rmul_any (a b c d : Int) (w : World) : Calls Tryd.prog 17 #[.agg #[.int .i64 a, .int .i64 b], .agg #[.int .i64 c, .int .i64 d]] w fun e w' =>
    e = .returned (.agg #[.int .i64 (gMul (a, b) (c, d)).1, .int .i64 (gMul (a, b) (c, d)).2]) ∧ Below w.heap.size w w' := by
  have C2 := fun n m W => Lib.hid (rof_any n m W)
  go_enter Tryd.func17, Tryd.ntmps17
  go_upto_region 1 with (fail)
  have hx := ((Held.new w 23 #[.int .i64 a, .int .i64 b]).alloc (.cells #[.int .i64 c, .int .i64 d] 23)).alloc (.cells #[.int .i64 0, .int .i64 0] 23)
  have h1 := (Held.new1 w (.cells #[.int .i64 a, .int .i64 b] 23) 23 #[.int .i64 c, .int .i64 d]).alloc (.cells #[.int .i64 0, .int .i64 0] 23)
  have h2 := Held.new2 w (.cells #[.int .i64 a, .int .i64 b] 23) (.cells #[.int .i64 c, .int .i64 d] 23) 23 #[.int .i64 0, .int .i64 0]
  have hw := below3 w (.cells #[.int .i64 a, .int .i64 b] 23) (.cells #[.int .i64 c, .int .i64 d] 23) (.cells #[.int .i64 0, .int .i64 0] 23)
  generalize ((w.alloc _).alloc _).alloc _ = W0 at hx h1 h2 hw ⊢
  have HX := Lib.hid hx
  have H1 := Lib.hid h1
  have H2 := Lib.hid h2
  clear hx h1 h2
  go_cut [5, 6] (fun v5 v6 wx => MidM W0 (.int .i64 (rs a)) (.int .i64 (rs b)) (.int .i64 (rs c)) (.int .i64 (rs d)) v5 v6 wx)
  case first =>
    go_region_held3 (fun W => Below W0.heap.size W0 W ∧ W.cell? ⟨w.heap.size, 0, none⟩ = some (.int .i64 a) ∧ W.cell? ⟨w.heap.size, 1, none⟩ = some (.int .i64 b) ∧ W.cell? ⟨w.heap.size + 1, 0, none⟩ = some (.int .i64 c) ∧ W.cell? ⟨w.heap.size + 1, 1, none⟩ = some (.int .i64 d))
      (first
        | exact keepM HX.out H1.out (Below.refl _ _).drew
        | exact keepM_call HX.out H1.out (by assumption) (by assumption)
        | ((repeat (first | assumption | exact keepM HX.out H1.out (Below.refl _ _) | refine keepM_drew HX.out H1.out ?_ | refine keepM_alloc HX.out H1.out _ ?_ | (refine keepM_set HX.out H1.out _ _ _ (by first | omega | (simp; omega)) ?_))); done)
        | go_keep)
      (first
        | (go_at_call 28; (with_reducible refine (C2 _ _ _).out.mono ?_); rintro e v ⟨rfl, hb⟩; have hq := keepM_call HX.out H1.out (by assumption) hb; have hz := hq.1.size
           (try (first | replace n1 := n1.below hb | replace n1 := (n1.alloc _).below hb | replace n1 := ((n1.alloc _).alloc _).below hb); try (obtain ⟨_, _, _, _⟩ := n1.two; have := n1.lt; have := Nat.ne_of_lt n1.lt))
           (try (first | replace n2 := n2.below hb | replace n2 := (n2.alloc _).below hb | replace n2 := ((n2.alloc _).alloc _).below hb); try (obtain ⟨_, _, _, _⟩ := n2.two; have := n2.lt; have := Nat.ne_of_lt n2.lt))
           (try (first | replace n3 := n3.below hb | replace n3 := (n3.alloc _).below hb | replace n3 := ((n3.alloc _).alloc _).below hb); try (obtain ⟨_, _, _, _⟩ := n3.two; have := n3.lt; have := Nat.ne_of_lt n3.lt))
           (first
             | (have n2 := ((Held.new _ _ _).alloc _).below hb; have n1 := (Held.new1 _ _ _ _).below hb; obtain ⟨_, _, _, _⟩ := n1.two; obtain ⟨_, _, _, _⟩ := n2.two; have := n1.lt; have := n2.lt)
             | (have n2 := ((Held.new _ _ _).alloc _).drew.below hb; have n1 := (Held.new1 _ _ _ _).drew.below hb; obtain ⟨_, _, _, _⟩ := n1.two; obtain ⟨_, _, _, _⟩ := n2.two; have := n1.lt; have := n2.lt)
             | (have n3 := (Held.new _ _ _).drew.below hb; obtain ⟨_, _, _, _⟩ := n3.two; have := n3.lt; have := Nat.ne_of_lt n3.lt)
             | (have n3 := (Held.new _ _ _).below hb; obtain ⟨_, _, _, _⟩ := n3.two; have := n3.lt; have := Nat.ne_of_lt n3.lt)
             | skip)))
    all_goals
      go_wp2_with fail
      go_meet
      case rel =>
        refine ⟨_, _, rfl, rfl, ?_, ?_, ?_, ?_, And.left (by assumption)⟩
        all_goals first | (simp [go_sem]; done) | (simp [go_sem, *]; done)
  case rest =>
    obtain ⟨k1, k2, rfl, rfl, c0, c1, c2, c3, hb⟩ := hcut
    have h2 := H2.out.below hb
    replace hw := Below.step hw hb
    obtain ⟨y1, y2, y3⟩ := rmul_bd a b c d
    obtain ⟨y4, y5, y6⟩ := rmul_bd2 a b c d
    have C3 := fun W => Lib.hid (rof_any (rs a * rs c - rs b * rs d) (rs a * rs d + rs b * rs c) W)
    clear C2 hb
    go_wp2_with (go_at_call 28; (with_reducible refine (C3 _).out.mono ?_); rintro e v ⟨rfl, hb⟩; replace h2 := h2.below hb; replace hw := Below.step hw hb; obtain ⟨c4, c5, f0, f1⟩ := h2.two)
    replace hw := set2b (k := w.heap.size + 1 + 1) (x := .int .i64 (rs (rs a * rs c - rs b * rs d))) (y := .int .i64 (rs (rs a * rs d + rs b * rs c))) (by omega) hw
    replace h2 := h2.set (.int .i64 (rs (rs a * rs c - rs b * rs d))) (.int .i64 (rs (rs a * rs d + rs b * rs c)))
    generalize (v.setCell _ _).setCell _ _ = W2 at h2 hw ⊢
    obtain ⟨d0, d1, _, _⟩ := h2.two
    exact bodyPost_ret (v := .agg #[.int .i64 (rs (rs a * rs c - rs b * rs d)), .int .i64 (rs (rs a * rs d + rs b * rs c))]) (by simp [results, Tryd.results17, go_sem, d0, d1]) rfl ⟨rfl, hw⟩
end Go.Proofs.YthnnmgjehpapiaaDoor
