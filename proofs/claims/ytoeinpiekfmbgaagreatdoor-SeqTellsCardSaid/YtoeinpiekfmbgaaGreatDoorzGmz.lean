/- Layer 4: the document's own answers: products. -/
import Derived.Test.YtoeinpiekfmbgaaGreatDoorzSr
import Derived.Deep.RegionHeld3
import Derived.Deep.DeepCutAuto
import Derived.Deep.CutBlock
import Derived.Test.YtoeinpiekfmbgaaGreatDoorzHc
namespace Go.Proofs.YtoeinpiekfmbgaaGreatDoor
set_option linter.unusedVariables false
set_option linter.unusedSimpArgs false
open Go.RowKit Go.ChangeShapes Go.WideShapes Go.ChangeAt Gm Fl Go.Sort

/-- What is kept on the way: the cells of two arguments, and all of the beginning. -/
theorem keepM {W0 W : World} {g h : Nat} {t : TypeId} {a b c d : Value} (hx : Held W0 g t #[a, b]) (h1 : Held W0 h t #[c, d]) (hb : Below W0.heap.size W0 W) :
    Below W0.heap.size W0 W ∧ W.cell? ⟨g, 0, none⟩ = some a ∧ W.cell? ⟨g, 1, none⟩ = some b ∧ W.cell? ⟨h, 0, none⟩ = some c ∧ W.cell? ⟨h, 1, none⟩ = some d :=
  ⟨hb, (hx.below hb).cell 0, (hx.below hb).cell 1, (h1.below hb).cell 0, (h1.below hb).cell 1⟩

theorem set2b' {w v : World} {k : Nat} {x y : Value} (hk : w.heap.size ≤ k) (hw : Below w.heap.size w v) : Below w.heap.size w ((v.setCell ⟨k, 0, none⟩ x).setCell ⟨k, 1, none⟩ y) := set2b hk hw
theorem keepM_call {W0 W W' : World} {g h : Nat} {t : TypeId} {a b c d : Value} (hx : Held W0 g t #[a, b]) (h1 : Held W0 h t #[c, d]) (hS : Below W0.heap.size W0 W ∧ W.cell? ⟨g, 0, none⟩ = some a ∧ W.cell? ⟨g, 1, none⟩ = some b ∧ W.cell? ⟨h, 0, none⟩ = some c ∧ W.cell? ⟨h, 1, none⟩ = some d) (hb : Below W.heap.size W W') : Below W0.heap.size W0 W' ∧ W'.cell? ⟨g, 0, none⟩ = some a ∧ W'.cell? ⟨g, 1, none⟩ = some b ∧ W'.cell? ⟨h, 0, none⟩ = some c ∧ W'.cell? ⟨h, 1, none⟩ = some d := keepM hx h1 (Below.step hS.1 hb)
theorem Held.drew {W : World} {g : Nat} {t : TypeId} {cs : Array Value} (h : Held W g t cs) : Held W.drew g t cs := h
theorem keepM_drew {W0 W : World} {g h : Nat} {t : TypeId} {a b c d : Value} (hx : Held W0 g t #[a, b]) (h1 : Held W0 h t #[c, d]) (hS : Below W0.heap.size W0 W ∧ W.cell? ⟨g, 0, none⟩ = some a ∧ W.cell? ⟨g, 1, none⟩ = some b ∧ W.cell? ⟨h, 0, none⟩ = some c ∧ W.cell? ⟨h, 1, none⟩ = some d) :
    Below W0.heap.size W0 W.drew ∧ W.drew.cell? ⟨g, 0, none⟩ = some a ∧ W.drew.cell? ⟨g, 1, none⟩ = some b ∧ W.drew.cell? ⟨h, 0, none⟩ = some c ∧ W.drew.cell? ⟨h, 1, none⟩ = some d := keepM hx h1 hS.1.drew
theorem keepM_alloc {W0 W : World} {g h : Nat} {t : TypeId} {a b c d : Value} (hx : Held W0 g t #[a, b]) (h1 : Held W0 h t #[c, d]) (o : Obj) (hS : Below W0.heap.size W0 W ∧ W.cell? ⟨g, 0, none⟩ = some a ∧ W.cell? ⟨g, 1, none⟩ = some b ∧ W.cell? ⟨h, 0, none⟩ = some c ∧ W.cell? ⟨h, 1, none⟩ = some d) : Below W0.heap.size W0 (W.alloc o) ∧ (W.alloc o).cell? ⟨g, 0, none⟩ = some a ∧ (W.alloc o).cell? ⟨g, 1, none⟩ = some b ∧ (W.alloc o).cell? ⟨h, 0, none⟩ = some c ∧ (W.alloc o).cell? ⟨h, 1, none⟩ = some d := keepM hx h1 (hS.1.alloc hS.1.size o)
theorem keepM_set {W0 W : World} {g h : Nat} {t : TypeId} {a b c d : Value} (hx : Held W0 g t #[a, b]) (h1 : Held W0 h t #[c, d]) (k : Nat) (x y : Value) (hk : W0.heap.size ≤ k) (hS : Below W0.heap.size W0 W ∧ W.cell? ⟨g, 0, none⟩ = some a ∧ W.cell? ⟨g, 1, none⟩ = some b ∧ W.cell? ⟨h, 0, none⟩ = some c ∧ W.cell? ⟨h, 1, none⟩ = some d) : Below W0.heap.size W0 ((W.setCell ⟨k, 0, none⟩ x).setCell ⟨k, 1, none⟩ y) ∧ ((W.setCell ⟨k, 0, none⟩ x).setCell ⟨k, 1, none⟩ y).cell? ⟨g, 0, none⟩ = some a ∧ ((W.setCell ⟨k, 0, none⟩ x).setCell ⟨k, 1, none⟩ y).cell? ⟨g, 1, none⟩ = some b ∧ ((W.setCell ⟨k, 0, none⟩ x).setCell ⟨k, 1, none⟩ y).cell? ⟨h, 0, none⟩ = some c ∧ ((W.setCell ⟨k, 0, none⟩ x).setCell ⟨k, 1, none⟩ y).cell? ⟨h, 1, none⟩ = some d := keepM hx h1 (set2b' hk hS.1)
/-- Behind 'x, y := ..': where x and y lie, and what they hold. -/
def MidM (W0 : World) (x0 x1 y0 y1 v5 v6 : Value) (wx : World) : Prop :=
  ∃ k1 k2 : Nat, v5 = .pointer (some ⟨k1, 0, none⟩) ∧ v6 = .pointer (some ⟨k2, 0, none⟩) ∧ wx.cell? ⟨k1, 0, none⟩ = some x0 ∧ wx.cell? ⟨k1, 1, none⟩ = some x1 ∧ wx.cell? ⟨k2, 0, none⟩ = some y0 ∧ wx.cell? ⟨k2, 1, none⟩ = some y1 ∧ Below W0.heap.size W0 wx

theorem rmul_bd (a b c d : Int) : IntKind.i64.wrap (rs a * rs c) = rs a * rs c ∧ IntKind.i64.wrap (rs b * rs d) = rs b * rs d ∧ IntKind.i64.wrap (rs a * rs c - rs b * rs d) = rs a * rs c - rs b * rs d := by
  have ra := rs_bd a; have rb := rs_bd b; have rc := rs_bd c; have rd := rs_bd d
  have m1 := mul_bd ra.1 rc.1 ra.2 rc.2
  have m2 := mul_bd rb.1 rd.1 rb.2 rd.2
  exact ⟨IntWalk.i64_in _ (by omega), IntWalk.i64_in _ (by omega), IntWalk.i64_in _ (by omega)⟩

theorem rmul_bd2 (a b c d : Int) : IntKind.i64.wrap (rs a * rs d) = rs a * rs d ∧ IntKind.i64.wrap (rs b * rs c) = rs b * rs c ∧ IntKind.i64.wrap (rs a * rs d + rs b * rs c) = rs a * rs d + rs b * rs c := by
  have ra := rs_bd a; have rb := rs_bd b; have rc := rs_bd c; have rd := rs_bd d
  have m3 := mul_bd ra.1 rd.1 ra.2 rd.2
  have m4 := mul_bd rb.1 rc.1 rb.2 rc.2
  exact ⟨IntWalk.i64_in _ (by omega), IntWalk.i64_in _ (by omega), IntWalk.i64_in _ (by omega)⟩

set_option maxHeartbeats 4000000 in
set_option maxRecDepth 100000 in
theorem rmul_any (a b c d : Int) (w : World) : Calls Tryz.prog 78 #[.agg #[.int .i64 a, .int .i64 b], .agg #[.int .i64 c, .int .i64 d]] w fun e w' =>
    e = .returned (.agg #[.int .i64 (gMul (a, b) (c, d)).1, .int .i64 (gMul (a, b) (c, d)).2]) ∧ Below w.heap.size w w' := by
  have C2 := fun n m W => Lib.hid (rof_any n m W)
  go_enter Tryz.func78, Tryz.ntmps78
  go_upto_region 1 with (fail)
  have hx := ((Held.new w 30 #[.int .i64 a, .int .i64 b]).alloc (.cells #[.int .i64 c, .int .i64 d] 30)).alloc (.cells #[.int .i64 0, .int .i64 0] 30)
  have h1 := (Held.new1 w (.cells #[.int .i64 a, .int .i64 b] 30) 30 #[.int .i64 c, .int .i64 d]).alloc (.cells #[.int .i64 0, .int .i64 0] 30)
  have h2 := Held.new2 w (.cells #[.int .i64 a, .int .i64 b] 30) (.cells #[.int .i64 c, .int .i64 d] 30) 30 #[.int .i64 0, .int .i64 0]
  have hw := below3 w (.cells #[.int .i64 a, .int .i64 b] 30) (.cells #[.int .i64 c, .int .i64 d] 30) (.cells #[.int .i64 0, .int .i64 0] 30)
  generalize ((w.alloc _).alloc _).alloc _ = W0 at hx h1 h2 hw ⊢
  have HX := Lib.hid hx
  have H1 := Lib.hid h1
  have H2 := Lib.hid h2
  clear hx h1 h2
  go_cut [5, 6] (fun v5 v6 wx => MidM W0 (.int .i64 (rs a)) (.int .i64 (rs b)) (.int .i64 (rs c)) (.int .i64 (rs d)) v5 v6 wx)
  case first =>
    go_region_held3 (fun W => Below W0.heap.size W0 W ∧ W.cell? ⟨w.heap.size, 0, none⟩ = some (.int .i64 a) ∧ W.cell? ⟨w.heap.size, 1, none⟩ = some (.int .i64 b) ∧ W.cell? ⟨w.heap.size + 1, 0, none⟩ = some (.int .i64 c) ∧ W.cell? ⟨w.heap.size + 1, 1, none⟩ = some (.int .i64 d))
      (first
        | exact keepM HX.out H1.out (Below.refl _ _).drew
        | exact keepM_call HX.out H1.out (by assumption) (by assumption)
        | ((repeat (first | assumption | exact keepM HX.out H1.out (Below.refl _ _) | refine keepM_drew HX.out H1.out ?_ | refine keepM_alloc HX.out H1.out _ ?_ | (refine keepM_set HX.out H1.out _ _ _ (by first | omega | (simp; omega)) ?_))); done)
        | go_keep)
      (first
        | (go_at_call 58; (with_reducible refine (C2 _ _ _).out.mono ?_); rintro e v ⟨rfl, hb⟩; have hq := keepM_call HX.out H1.out (by assumption) hb; have hz := hq.1.size
           (try (first | replace n1 := n1.below hb | replace n1 := (n1.alloc _).below hb | replace n1 := ((n1.alloc _).alloc _).below hb); try (obtain ⟨_, _, _, _⟩ := n1.two; have := n1.lt; have := Nat.ne_of_lt n1.lt))
           (try (first | replace n2 := n2.below hb | replace n2 := (n2.alloc _).below hb | replace n2 := ((n2.alloc _).alloc _).below hb); try (obtain ⟨_, _, _, _⟩ := n2.two; have := n2.lt; have := Nat.ne_of_lt n2.lt))
           (try (first | replace n3 := n3.below hb | replace n3 := (n3.alloc _).below hb | replace n3 := ((n3.alloc _).alloc _).below hb); try (obtain ⟨_, _, _, _⟩ := n3.two; have := n3.lt; have := Nat.ne_of_lt n3.lt))
           (first
             | (have n2 := ((Held.new _ _ _).alloc _).below hb; have n1 := (Held.new1 _ _ _ _).below hb; obtain ⟨_, _, _, _⟩ := n1.two; obtain ⟨_, _, _, _⟩ := n2.two; have := n1.lt; have := n2.lt)
             | (have n2 := ((Held.new _ _ _).alloc _).drew.below hb; have n1 := (Held.new1 _ _ _ _).drew.below hb; obtain ⟨_, _, _, _⟩ := n1.two; obtain ⟨_, _, _, _⟩ := n2.two; have := n1.lt; have := n2.lt)
             | (have n3 := (Held.new _ _ _).drew.below hb; obtain ⟨_, _, _, _⟩ := n3.two; have := n3.lt; have := Nat.ne_of_lt n3.lt)
             | (have n3 := (Held.new _ _ _).below hb; obtain ⟨_, _, _, _⟩ := n3.two; have := n3.lt; have := Nat.ne_of_lt n3.lt)
             | skip)))
    all_goals
      go_wp2_with fail
      go_meet
      case rel =>
        refine ⟨_, _, rfl, rfl, ?_, ?_, ?_, ?_, And.left (by assumption)⟩
        all_goals first | (simp [go_sem]; done) | (simp [go_sem, *]; done)
  case rest =>
    obtain ⟨k1, k2, rfl, rfl, c0, c1, c2, c3, hb⟩ := hcut
    have h2 := H2.out.below hb
    replace hw := Below.step hw hb
    obtain ⟨y1, y2, y3⟩ := rmul_bd a b c d
    obtain ⟨y4, y5, y6⟩ := rmul_bd2 a b c d
    have C3 := fun W => Lib.hid (rof_any (rs a * rs c - rs b * rs d) (rs a * rs d + rs b * rs c) W)
    clear C2 hb
    go_wp2_with (go_at_call 58; (with_reducible refine (C3 _).out.mono ?_); rintro e v ⟨rfl, hb⟩; replace h2 := h2.below hb; replace hw := Below.step hw hb; obtain ⟨c4, c5, f0, f1⟩ := h2.two)
    replace hw := set2b (k := w.heap.size + 1 + 1) (x := .int .i64 (rs (rs a * rs c - rs b * rs d))) (y := .int .i64 (rs (rs a * rs d + rs b * rs c))) (by omega) hw
    replace h2 := h2.set (.int .i64 (rs (rs a * rs c - rs b * rs d))) (.int .i64 (rs (rs a * rs d + rs b * rs c)))
    generalize (v.setCell _ _).setCell _ _ = W2 at h2 hw ⊢
    obtain ⟨d0, d1, _, _⟩ := h2.two
    exact bodyPost_ret (v := .agg #[.int .i64 (rs (rs a * rs c - rs b * rs d)), .int .i64 (rs (rs a * rs d + rs b * rs c))]) (by simp [results, Tryz.results78, go_sem, d0, d1]) rfl ⟨rfl, hw⟩
end Go.Proofs.YtoeinpiekfmbgaaGreatDoor

/- Layer 4: the document's own answers: inverses. -/
namespace Go.Proofs.YtoeinpiekfmbgaaGreatDoor
set_option linter.unusedVariables false
set_option linter.unusedSimpArgs false
open Go.RowKit Go.ChangeShapes Go.WideShapes Go.ChangeAt Gm Fl Go.Sort

theorem kinv_least : ∀ n, n < 251 → n ≠ 0 → ∀ k, k < n ^ 249 % 251 → (n * k) % 251 ≠ 1 := by decide +kernel
theorem kinv_is : ∀ n, n < 251 → n ≠ 0 → (n * (n ^ 249 % 251)) % 251 = 1 ∧ n ^ 249 % 251 < 251 ∧ 1 ≤ n ^ 249 % 251 := by decide +kernel
theorem inv_hit {n k : Nat} (h : (n * k) % 251 = 1) : (((n : Int) * k) % 251 == 1) = true := by
  have : ((n * k : Nat) : Int) = (n : Int) * k := by simp
  rw [← this]; simp; omega
theorem inv_miss {n k : Nat} (h : (n * k) % 251 ≠ 1) : (((n : Int) * k) % 251 == 1) = false := by
  have : ((n * k : Nat) : Int) = (n : Int) * k := by simp
  rw [← this]; simp; omega
theorem inv_hitI {N : Int} {n k : Nat} (hN : N = n) (h : (n * k) % 251 = 1) : ((N * k) % 251 == 1) = true := hN ▸ inv_hit h
theorem inv_missI {N : Int} {n k : Nat} (hN : N = n) (h : (n * k) % 251 ≠ 1) : ((N * k) % 251 == 1) = false := hN ▸ inv_miss h
set_option maxHeartbeats 1000000 in
set_option maxRecDepth 100000 in
theorem rinv_any (N : Int) (w : World) (g0 : 0 < N) (g1 : N < 251) : Calls Tryz.prog 80 #[.int .i64 N] w fun e w' => e = .returned (.int .i64 (kinv N)) ∧ w = w' := by
  obtain ⟨n, hn⟩ : ∃ n : Nat, N = n := ⟨N.toNat, by omega⟩
  obtain ⟨i1, i2, i3⟩ := kinv_is n (by omega) (by omega)
  have il := kinv_least n (by omega) (by omega)
  have hk : kinv N = ((n ^ 249 % 251 : Nat) : Int) := by unfold kinv; rw [hn, Int.toNat_natCast]
  have HK := Lib.hid hk
  have HN := Lib.hid hn
  clear hk hn
  generalize n ^ 249 % 251 = q at *
  have IL := Lib.hid il
  have I1 := Lib.hid i1
  have I2 := Lib.hid i2
  have I3 := Lib.hid i3
  clear il i1 i2 i3
  go_enter Tryz.func80, Tryz.ntmps80
  go_wp2_with fail
  go_loop [3] (fun i => ∃ k : Nat, 1 ≤ k ∧ k ≤ q ∧ i = .int .i64 k) (fun i => 251 - (intOf i).toNat)
  case atStart => exact ⟨1, by omega, I3.out, rfl⟩
  case round =>
    obtain ⟨k, hk1, hkq, rfl⟩ := hrel
    have hk2 : (k : Int) < 251 := by have := I2.out; omega
    obtain ⟨m1, m2⟩ := mul_bd (a := N) (b := (k : Int)) (by omega) (by omega) g1 hk2
    by_cases hkk : k = q
    · have hB := inv_hitI HN.out (by rw [hkk]; exact I1.out : (n * k) % 251 = 1)
      have HQ := Lib.hid hkk
      have hd : decide ((k : Int) < 251) = true := by simpa using hk2
      clear hkk hkq hk2
      go_wp2_with fail
      go_ret
      exact ⟨ret_int (by rw [HK.out, HQ.out]), rfl⟩
    · have hB := inv_missI HN.out (IL.out k (by omega))
      have HQ := Lib.hid (show k + 1 ≤ q by omega)
      have hd : decide ((k : Int) < 251) = true := by simpa using hk2
      have hk3 : (k : Int) ≤ 250 := by omega
      clear hkk hkq hk2
      go_wp2_with fail
      go_round
      case rel => exact ⟨k + 1, by omega, HQ.out, by go_num⟩
      case measure => simp [intOf]; omega
end Go.Proofs.YtoeinpiekfmbgaaGreatDoor

/- Layer 4: the document's own answers: quotients. -/
namespace Go.Proofs.YtoeinpiekfmbgaaGreatDoor
set_option linter.unusedVariables false
set_option linter.unusedSimpArgs false
open Go.RowKit Go.ChangeShapes Go.WideShapes Go.ChangeAt Gm Fl Go.Sort

/-- Behind 'x := ..': where x lies, and what it holds. -/
def MidD (W0 : World) (x0 x1 v8 : Value) (wx : World) : Prop :=
  ∃ k : Nat, v8 = .pointer (some ⟨k, 0, none⟩) ∧ wx.cell? ⟨k, 0, none⟩ = some x0 ∧ wx.cell? ⟨k, 1, none⟩ = some x1 ∧ Below W0.heap.size W0 wx

theorem sq_bd (c d : Int) : IntKind.i64.wrap (rs c * rs c) = rs c * rs c ∧ IntKind.i64.wrap (rs d * rs d) = rs d * rs d ∧ IntKind.i64.wrap (rs c * rs c + rs d * rs d) = rs c * rs c + rs d * rs d := by
  have rc := rs_bd c; have rd := rs_bd d
  have m1 := mul_bd rc.1 rc.1 rc.2 rc.2
  have m2 := mul_bd rd.1 rd.1 rd.2 rd.2
  exact ⟨IntWalk.i64_in _ (by omega), IntWalk.i64_in _ (by omega), IntWalk.i64_in _ (by omega)⟩

set_option maxHeartbeats 4000000 in
set_option maxRecDepth 100000 in
theorem rdiv_any (a b c d : Int) (w : World) : Calls Tryz.prog 56 #[.agg #[.int .i64 a, .int .i64 b], .agg #[.int .i64 c, .int .i64 d]] w fun e w' =>
    e = .returned (.tuple #[.agg #[.int .i64 (gQuo (a, b) (c, d)).1, .int .i64 (gQuo (a, b) (c, d)).2], .bool (decide (gNorm (c, d) ≠ 0))]) ∧ Below w.heap.size w w' := by
  have CO := fun n m W => Lib.hid (rof_any n m W)
  have CR := fun n W => Lib.hid (rrest_any n W)
  obtain ⟨y1, y2, y3⟩ := sq_bd c d
  have hnorm : gNorm (c, d) = rs (rs c * rs c + rs d * rs d) := rfl
  by_cases h : gNorm (c, d) = 0
  · rw [quo_zero h, decide_eq_false (fun e => e h)]
    rw [hnorm] at h
    have hz : (rs (rs c * rs c + rs d * rs d) == 0) = true := by rw [h]; rfl
    clear hnorm h
    go_enter Tryz.func56, Tryz.ntmps56
    go_wp2_with (first
      | (go_at_call 58; (with_reducible refine (CO _ _ _).out.mono ?_); rintro e v ⟨rfl, hb⟩; have h2 := (Held.new2 w _ _ _ _).below hb; have hw := Below.step (below3 w _ _ _) hb; clear hb; obtain ⟨c0, c1, f0, f1⟩ := h2.two; have := h2.lt; have := Nat.ne_of_lt h2.lt)
      | (go_at_call 77; (with_reducible refine (CR _ _).out.mono ?_); rintro e v2 ⟨rfl, rfl⟩))
    replace h2 := (h2.set (.int .i64 0) (.int .i64 0)).alloc (.cells #[.int .i64 (rs c), .int .i64 (rs d)] 30)
    have hw1 := set2b (k := w.heap.size + 1 + 1) (x := .int .i64 0) (y := .int .i64 0) (by omega) hw
    replace hw := hw1.alloc hw1.size (.cells #[.int .i64 (rs c), .int .i64 (rs d)] 30)
    generalize ((v.setCell _ _).setCell _ _).alloc _ = W2 at h2 hw ⊢
    obtain ⟨d0, d1, _, _⟩ := h2.two
    exact bodyPost_ret (v := .tuple #[.agg #[.int .i64 0, .int .i64 0], .bool false]) (by simp [results, Tryz.results56, go_sem, d0, d1]) rfl ⟨rfl, hw⟩
  · have hbd := norm_bd (c, d)
    have hz : (rs (rs c * rs c + rs d * rs d) == 0) = false := by rw [← hnorm]; simpa using h
    have CI : ∀ W, Hid (Calls Tryz.prog 80 #[.int .i64 (rs (rs c * rs c + rs d * rs d))] W fun e w' => e = .returned (.int .i64 (kinv (gNorm (c, d)))) ∧ W = w') := fun W => by
      rw [← hnorm]; exact Lib.hid (rinv_any _ W (by omega) hbd.2)
    have kb := kinv_bd (gNorm (c, d))
    rw [decide_eq_true h]
    have hq : gQuo (a, b) (c, d) = gOf ((gMul (a, b) (gConj (c, d))).1 * kinv (gNorm (c, d)), (gMul (a, b) (gConj (c, d))).2 * kinv (gNorm (c, d))) := if_neg h
    have CC : ∀ W, Hid (Calls Tryz.prog 79 #[.agg #[.int .i64 (rs c), .int .i64 (rs d)]] W fun e w' => e = .returned (.agg #[.int .i64 (gConj (c, d)).1, .int .i64 (gConj (c, d)).2]) ∧ Below W.heap.size W w') := fun W => by
      rw [← conj_of (c, d)]; exact Lib.hid (rconj_any (rs c) (rs d) W)
    have mm := mul_may (a, b) (gConj (c, d))
    have CM : ∀ W, Hid (Calls Tryz.prog 78 #[.agg #[.int .i64 a, .int .i64 b], .agg #[.int .i64 (gConj (c, d)).1, .int .i64 (gConj (c, d)).2]] W fun e w' => e = .returned (.agg #[.int .i64 (gMul (a, b) (gConj (c, d))).1, .int .i64 (gMul (a, b) (gConj (c, d))).2]) ∧ Below W.heap.size W w') := fun W =>
      Lib.hid (rmul_any a b (gConj (c, d)).1 (gConj (c, d)).2 W)
    clear hnorm h hbd
    generalize gMul (a, b) (gConj (c, d)) = m at *
    generalize kinv (gNorm (c, d)) = k at *
    generalize gConj (c, d) = j at *
    generalize gQuo (a, b) (c, d) = q at *
    obtain ⟨p0, p1, p2, p3⟩ := mm
    have x1 := mul_bd p0 kb.1 p1 kb.2
    have x2 := mul_bd p2 kb.1 p3 kb.2
    have y4 : IntKind.i64.wrap (m.1 * k) = m.1 * k := IntWalk.i64_in _ (by omega)
    have y5 : IntKind.i64.wrap (m.2 * k) = m.2 * k := IntWalk.i64_in _ (by omega)
    have CQ : ∀ W, Hid (Calls Tryz.prog 58 #[.int .i64 (m.1 * k), .int .i64 (m.2 * k)] W fun e w' => e = .returned (.agg #[.int .i64 q.1, .int .i64 q.2]) ∧ Below W.heap.size W w') := fun W => by
      rw [hq]; exact Lib.hid (rof_any _ _ W)
    clear hq p0 p1 p2 p3 x1 x2 kb
    go_enter Tryz.func56, Tryz.ntmps56
    go_upto_region 5 with (first
      | (go_at_call 58; (with_reducible refine (CO _ _ _).out.mono ?_); rintro e v ⟨rfl, hb⟩; have hx := (((Held.new w _ _).alloc _).alloc _).below hb; have h2 := (Held.new2 w _ _ _ _).below hb; have hw := Below.step (below3 w _ _ _) hb; clear hb)
      | (go_at_call 77; (with_reducible refine (CR _ _).out.mono ?_); rintro e v2 ⟨rfl, rfl⟩))
    have h6 := Held.new v 30 #[.int .i64 (rs c), .int .i64 (rs d)]
    replace hx := hx.alloc (.cells #[.int .i64 (rs c), .int .i64 (rs d)] 30)
    replace h2 := h2.alloc (.cells #[.int .i64 (rs c), .int .i64 (rs d)] 30)
    replace hw := hw.alloc hw.size (.cells #[.int .i64 (rs c), .int .i64 (rs d)] 30)
    generalize v.alloc _ = W0 at hx h2 h6 hw ⊢
    have HX := Lib.hid hx
    have H6 := Lib.hid h6
    have H2 := Lib.hid h2
    clear hx h6 h2 CO CR
    go_cut [8] (fun v8 wx => MidD W0 (.int .i64 m.1) (.int .i64 m.2) v8 wx)
    case first =>
      go_region_held3 (fun W => Below W0.heap.size W0 W ∧ W.cell? ⟨w.heap.size, 0, none⟩ = some (.int .i64 a) ∧ W.cell? ⟨w.heap.size, 1, none⟩ = some (.int .i64 b) ∧ W.cell? ⟨v.heap.size, 0, none⟩ = some (.int .i64 (rs c)) ∧ W.cell? ⟨v.heap.size, 1, none⟩ = some (.int .i64 (rs d)))
        (first
          | exact keepM HX.out H6.out (Below.refl _ _).drew
          | exact keepM_call HX.out H6.out (by assumption) (by assumption)
          | ((repeat (first | assumption | exact keepM HX.out H6.out (Below.refl _ _) | refine keepM_drew HX.out H6.out ?_ | refine keepM_alloc HX.out H6.out _ ?_ | (refine keepM_set HX.out H6.out _ _ _ (by first | omega | (simp; omega)) ?_))); done)
          | go_keep)
        (first
        | (go_at_call 79; (with_reducible refine (CC _).out.mono ?_); rintro e v2 ⟨rfl, hb⟩; have hq := keepM_call HX.out H6.out (by assumption) hb; have hz := hq.1.size
           (try (first | replace n3 := n3.below hb | replace n3 := (n3.alloc _).below hb); try (obtain ⟨_, _, _, _⟩ := n3.two; have := n3.lt; have := Nat.ne_of_lt n3.lt))
           (first
             | (have n3 := (Held.new _ _ _).drew.below hb; obtain ⟨_, _, _, _⟩ := n3.two; have := n3.lt; have := Nat.ne_of_lt n3.lt)
             | (have n3 := (Held.new _ _ _).below hb; obtain ⟨_, _, _, _⟩ := n3.two; have := n3.lt; have := Nat.ne_of_lt n3.lt)
             | skip))
        | (go_at_call 78; (with_reducible refine (CM _).out.mono ?_); rintro e v2 ⟨rfl, hb⟩; have hq := keepM_call HX.out H6.out (by assumption) hb; have hz := hq.1.size
           (try (first | replace n3 := n3.below hb | replace n3 := (n3.alloc _).below hb); try (obtain ⟨_, _, _, _⟩ := n3.two; have := n3.lt; have := Nat.ne_of_lt n3.lt))
           (first
             | (have n3 := (Held.new _ _ _).drew.below hb; obtain ⟨_, _, _, _⟩ := n3.two; have := n3.lt; have := Nat.ne_of_lt n3.lt)
             | (have n3 := (Held.new _ _ _).below hb; obtain ⟨_, _, _, _⟩ := n3.two; have := n3.lt; have := Nat.ne_of_lt n3.lt)
             | skip)))
      all_goals
        go_wp2_with fail
        go_meet
        case rel =>
          refine ⟨_, rfl, ?_, ?_, And.left (by assumption)⟩
          all_goals first | (simp [go_sem]; done) | (simp [go_sem, *]; done)
    case rest =>
      obtain ⟨k8, rfl, c0, c1, hb⟩ := hcut
      have h2 := H2.out.below hb
      replace hw := Below.step hw hb
      clear hb
      go_wp2_with (first
        | (go_at_call 80; (with_reducible refine (CI _).out.mono ?_); rintro e v2 ⟨rfl, rfl⟩)
        | (go_at_call 58; (with_reducible refine (CQ _).out.mono ?_); rintro e v3 ⟨rfl, hb⟩; replace h2 := h2.below hb; replace hw := Below.step hw hb; obtain ⟨c4, c5, f0, f1⟩ := h2.two))
      replace hw := set2b (k := w.heap.size + 1 + 1) (x := .int .i64 q.1) (y := .int .i64 q.2) (by omega) hw
      replace h2 := h2.set (.int .i64 q.1) (.int .i64 q.2)
      generalize (v3.setCell _ _).setCell _ _ = W2 at h2 hw ⊢
      obtain ⟨d0, d1, _, _⟩ := h2.two
      exact bodyPost_ret (v := .tuple #[.agg #[.int .i64 q.1, .int .i64 q.2], .bool true]) (by simp [results, Tryz.results56, go_sem, d0, d1]) rfl ⟨rfl, hw⟩
end Go.Proofs.YtoeinpiekfmbgaaGreatDoor

