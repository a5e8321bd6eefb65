/- Layer 4's code: powers, quotients, at every input. -/
import Derived.Test.YthnnmgjehpapiaaDoorGcj
namespace Go.Proofs.YthnnmgjehpapiaaDoor
set_option linter.unusedVariables false
set_option linter.unusedSimpArgs false
open Go.RowKit Go.ChangeShapes Go.WideShapes Go.ChangeAt Gm Fl

theorem pow_sq (x : V) (k : Nat) : gPow (gMul x x) k = gPow x (2 * k) := by rw [mul_pow, ← pow_add, Nat.two_mul]
theorem step_odd {p x r : V} {m : Nat} (h : gMul p (gPow x m) = r) (hm : m % 2 = 1) : gMul (gMul p x) (gPow (gMul x x) (m / 2)) = r := by
  have e : gPow x m = gMul (gPow x (2 * (m / 2))) x := by
    conv => lhs; rw [show m = 2 * (m / 2) + 1 by omega]
    rfl
  rw [← h, pow_sq, mul_assoc, mul_comm x, e]
theorem step_even {p x r : V} {m : Nat} (h : gMul p (gPow x m) = r) (hm : m % 2 = 0) : gMul p (gPow (gMul x x) (m / 2)) = r := by
  rw [← h, pow_sq, show 2 * (m / 2) = m by omega]
theorem step_end {p x r : V} (h : gMul p (gPow x 0) = r) (hp : gMay p) : p = r := by
  rw [← h, gPow, mul_one, of_in hp]
theorem step_start (a : V) (n : Nat) : gMul gOne (gPow a n) = gPow a n := by rw [one_mul, of_in (pow_may a n)]

/-- What the loop keeps. -/
def PowR (w : World) (r : V) (n : Value) (wr : World) : Prop :=
  ∃ (m : Nat) (x y p q : Int), n = .int .i64 m ∧ m ≤ 9223372036854775807 ∧ Held wr w.heap.size 23 #[.int .i64 x, .int .i64 y] ∧ Held wr (w.heap.size + 1) 23 #[.int .i64 0, .int .i64 0] ∧
    Held wr (w.heap.size + 1 + 1) 23 #[.int .i64 p, .int .i64 q] ∧ Below w.heap.size w wr ∧ gMay (p, q) ∧ gMul (p, q) (gPow (x, y) m) = r

theorem par_odd {m : Nat} (h : m % 2 = 1) : ((m : Int) % 2 == 1) = true := by simp; omega
theorem par_even {m : Nat} (h : m % 2 = 0) : ((m : Int) % 2 == 1) = false := by simp; omega

/-- A power, with whatever number. -/
def powZ (a : V) (n : Int) : V := if n < 0 then (0, 0) else gPow a n.toNat
theorem powZ_nat (a : V) (n : Nat) : powZ a n = gPow a n := by unfold powZ; rw [if_neg (by omega), Int.toNat_natCast]

set_option maxHeartbeats 1000000 in
set_option maxRecDepth 100000 in
theorem pow_nat (a b : Int) (n : Nat) (w : World) (hn : n ≤ 9223372036854775807) : Calls Tryd.prog 21 #[.agg #[.int .i64 a, .int .i64 b], .int .i64 n] w fun e w' =>
    e = .returned (.agg #[.int .i64 (gPow (a, b) n).1, .int .i64 (gPow (a, b) n).2]) ∧ Below w.heap.size w w' := by
  have C := fun x y z u W => Lib.hid (mul_any x y z u W)
  have hmy := pow_may (a, b) n
  have H0 : PowR w (gPow (a, b) n) (.int .i64 n) ((((w.alloc (.cells #[.int .i64 a, .int .i64 b] 23)).alloc (.cells #[.int .i64 0, .int .i64 0] 23)).alloc (.cells #[.int .i64 1, .int .i64 0] 23))) :=
    ⟨n, a, b, 1, 0, rfl, hn, ((Held.new w _ _).alloc _).alloc _, (Held.new1 w _ _ _).alloc _, Held.new2 w _ _ _ _, below3 w _ _ _, one_may, step_start (a, b) n⟩
  generalize gPow (a, b) n = r at *
  go_enter Tryd.func21, Tryd.ntmps21
  go_wp2_with fail
  go_loopw [1] (fun n wr => PowR w r n wr) (fun n _ => (intOf n).toNat)
  case atStart => exact H0
  case round =>
    obtain ⟨m, x, y, p, q, rfl, hm, hx, h1, h2, hw, hp, hr⟩ := hrel
    obtain ⟨c0, c1, f0, f1⟩ := hx.two
    obtain ⟨c2, c3, f2, f3⟩ := h2.two
    by_cases hm0 : m = 0
    · subst hm0
      have he := step_end hr hp
      obtain ⟨e0, e1, f4, f5⟩ := h1.two
      obtain rfl : p = r.1 := congrArg Prod.fst he
      obtain rfl : q = r.2 := congrArg Prod.snd he
      clear he hr hp
      go_wp2_with fail
      replace h1 := h1.set (.int .i64 r.1) (.int .i64 r.2)
      replace hw := set2b (k := w.heap.size + 1) (x := .int .i64 r.1) (y := .int .i64 r.2) (by omega) hw
      generalize (wr.setCell _ _).setCell _ _ = W2 at h1 hw ⊢
      obtain ⟨d0, d1, _, _⟩ := h1.two
      exact bodyPost_ret (v := .agg #[.int .i64 r.1, .int .i64 r.2]) (by simp [results, Tryd.results21, go_sem, d0, d1]) rfl ⟨rfl, hw⟩
    · rcases Nat.mod_two_eq_zero_or_one m with hpar | hpar
      · have HR := Lib.hid (step_even hr hpar)
        have hB := par_even hpar
        have hpos : 0 < m := by omega
        clear hr hpar hm0
        go_wp2_with (go_at_call 16; refine (C _ _ _ _ _).out.mono ?_; rintro e v ⟨rfl, hb⟩; replace hx := hx.below hb; replace h1 := h1.below hb; replace h2 := h2.below hb; replace hw := Below.step hw hb; clear hb c0 c1 c2 c3 f0 f1 f2 f3; obtain ⟨c0, c1, f0, f1⟩ := hx.two)
        go_roundw
        case rel => exact ⟨m / 2, _, _, p, q, by go_num, by omega, hx.set _ _, (h1.far (by omega) _ _).far (by omega) _ _, (h2.far (by omega) _ _).far (by omega) _ _, set2b (Nat.le_refl _) hw, hp, HR.out⟩
        case measure => simp [intOf]; omega
      · have HR := Lib.hid (step_odd hr hpar)
        have hB := par_odd hpar
        have hpos : 0 < m := by omega
        have hp2 := mul_may (p, q) (x, y)
        clear hr hpar hm0
        go_wp2_with (first
          | (go_at_call 16; (with_reducible refine (C p q x y _).out.mono ?_); rintro e v ⟨rfl, hb⟩; replace hx := hx.below hb; replace h1 := h1.below hb; replace h2 := h2.below hb; replace hw := Below.step hw hb; clear hb c0 c1 c2 c3 f0 f1 f2 f3; obtain ⟨c0, c1, f0, f1⟩ := hx.two; obtain ⟨c2, c3, f2, f3⟩ := h2.two)
          | (go_at_call 16; (with_reducible refine (C x y x y _).out.mono ?_); rintro e v2 ⟨rfl, hb⟩; replace hx := ((hx.far (by omega) _ _).far (by omega) _ _).below hb; replace h1 := ((h1.far (by omega) _ _).far (by omega) _ _).below hb; replace h2 := (h2.set _ _).below hb; replace hw := Below.step (set2b (by omega) hw) hb; clear hb c0 c1 c2 c3 f0 f1 f2 f3; obtain ⟨c0, c1, f0, f1⟩ := hx.two))
        go_roundw
        case rel => exact ⟨m / 2, _, _, _, _, by go_num, by omega, hx.set _ _, (h1.far (by omega) _ _).far (by omega) _ _, (h2.far (by omega) _ _).far (by omega) _ _, set2b (Nat.le_refl _) hw, hp2, HR.out⟩
        case measure => simp [intOf]; omega

set_option maxHeartbeats 1000000 in
theorem pow_neg (a b n : Int) (w : World) (hn : n < 0) : Calls Tryd.prog 21 #[.agg #[.int .i64 a, .int .i64 b], .int .i64 n] w fun e w' =>
    e = .returned (.agg #[.int .i64 0, .int .i64 0]) ∧ Below w.heap.size w w' := by
  go_enter Tryd.func21, Tryd.ntmps21
  go_wp2_with fail
  exact bodyPost_ret (v := .agg #[.int .i64 0, .int .i64 0]) (by simp [results, Tryd.results21, go_sem]) rfl ⟨rfl, below2 w _ _⟩
theorem pow_any (a b n : Int) (w : World) (hn : n ≤ 9223372036854775807) : Calls Tryd.prog 21 #[.agg #[.int .i64 a, .int .i64 b], .int .i64 n] w fun e w' =>
    e = .returned (.agg #[.int .i64 (powZ (a, b) n).1, .int .i64 (powZ (a, b) n).2]) ∧ Below w.heap.size w w' := by
  by_cases h : n < 0
  · have e : powZ (a, b) n = (0, 0) := if_pos h
    rw [e]; exact pow_neg a b n w h
  · obtain ⟨m, rfl⟩ := Int.eq_ofNat_of_zero_le (by omega : 0 ≤ n)
    rw [powZ_nat]; exact pow_nat a b m w (by omega)

/-! ### Quotients -/
theorem quo_pow {a b : V} (h : gNorm b ≠ 0) : gMul a (gPow b 62999) = gQuo a b := by
  have hb : gOf b ≠ (0, 0) := fun e => h ((norm_iff b).2 e)
  have h1 : gPow b 62999 = gQuo gOne b := by rw [← pow_of, pow62999 (of_may b) hb]; exact (quo_of gOne b)
  have h2 : gMul (gMul a (gQuo gOne b)) b = gMul (gQuo a b) b := by rw [mul_assoc, quo_mul h, quo_mul h]; exact mul_one a
  have h3 := mul_cancel h h2
  rw [h1]
  rwa [of_in (mul_may _ _), of_in (quo_may _ _)] at h3
theorem quo_zero {a b : V} (h : gNorm b = 0) : gQuo a b = (0, 0) := if_pos h

set_option maxHeartbeats 1000000 in
set_option maxRecDepth 100000 in
theorem div_any (a b c d : Int) (w : World) : Calls Tryd.prog 10 #[.agg #[.int .i64 a, .int .i64 b], .agg #[.int .i64 c, .int .i64 d]] w fun e w' =>
    e = .returned (.tuple #[.agg #[.int .i64 (gQuo (a, b) (c, d)).1, .int .i64 (gQuo (a, b) (c, d)).2], .bool (decide (gNorm (c, d) ≠ 0))]) ∧ Below w.heap.size w w' := by
  have C := fun n m W => Lib.hid (number_any n m W)
  have rc := rs_bd c
  have rd := rs_bd d
  have z1 := zero_is rc.1 rc.2
  have z2 := zero_is rd.1 rd.2
  clear rc rd
  by_cases h : gNorm (c, d) = 0
  · have h0 := (norm_iff (c, d)).1 h
    have h1 : rs c = 0 := congrArg Prod.fst h0
    have h2 : rs d = 0 := congrArg Prod.snd h0
    rw [quo_zero h, decide_eq_false (fun e => e h)]
    rw [decide_eq_true h1] at z1
    rw [decide_eq_true h2] at z2
    clear h h0 h1 h2
    go_enter Tryd.func10, Tryd.ntmps10
    go_wp2_with (go_at_call 29; (with_reducible refine (C _ _ _).out.mono ?_); rintro e v ⟨rfl, hb⟩; have h2 := (Held.new2 w _ _ _ _).below hb; have hw := Below.step (below3 w _ _ _) hb; clear hb; obtain ⟨c0, c1, f0, f1⟩ := h2.two)
    replace hw := set2b (k := w.heap.size + 1 + 1) (x := .int .i64 0) (y := .int .i64 0) (by omega) hw
    replace h2 := h2.set (.int .i64 0) (.int .i64 0)
    generalize (v.setCell _ _).setCell _ _ = W2 at h2 hw ⊢
    obtain ⟨d0, d1, _, _⟩ := h2.two
    exact bodyPost_ret (v := .tuple #[.agg #[.int .i64 0, .int .i64 0], .bool false]) (by simp [results, Tryd.results10, go_sem, d0, d1]) rfl ⟨rfl, hw⟩
  · obtain ⟨r, hr⟩ : ∃ r, r = gPow (c, d) 62999 := ⟨_, rfl⟩
    obtain ⟨q, hq⟩ : ∃ q, q = gQuo (a, b) (c, d) := ⟨_, rfl⟩
    have CP : ∀ W, Hid (Calls Tryd.prog 21 #[.agg #[.int .i64 c, .int .i64 d], .int .i64 62999] W fun e w' => e = .returned (.agg #[.int .i64 r.1, .int .i64 r.2]) ∧ Below W.heap.size W w') := fun W => by
      rw [hr]; exact Lib.hid (pow_nat c d 62999 W (by decide))
    have CM : ∀ W, Hid (Calls Tryd.prog 16 #[.agg #[.int .i64 a, .int .i64 b], .agg #[.int .i64 r.1, .int .i64 r.2]] W fun e w' => e = .returned (.agg #[.int .i64 q.1, .int .i64 q.2]) ∧ Below W.heap.size W w') := fun W => by
      rw [hq, ← quo_pow h, ← hr]; exact Lib.hid (mul_any a b r.1 r.2 W)
    rw [← hq]
    clear hr hq
    have hz : ((FloatKind.format .f64).order (fw (rs c)) 0 == some .eq) = false ∨ (((FloatKind.format .f64).order (fw (rs c)) 0 == some .eq) = true ∧ ((FloatKind.format .f64).order (fw (rs d)) 0 == some .eq) = false) := by
      rw [z1, z2]
      by_cases h1 : rs c = 0
      · right
        refine ⟨decide_eq_true h1, decide_eq_false fun h2 => h ((norm_iff (c, d)).2 ?_)⟩
        exact Prod.ext h1 h2
      · exact .inl (decide_eq_false h1)
    rw [decide_eq_true h]
    clear z1 z2 h
    rcases hz with z1 | ⟨z1, z2⟩
    all_goals
      go_enter Tryd.func10, Tryd.ntmps10
      go_wp2_with (go_at_call 29; (with_reducible refine (C _ _ _).out.mono ?_); rintro e v ⟨rfl, hb⟩; have hx := (((Held.new w _ _).alloc _).alloc _).below hb; have h1 := ((Held.new1 w _ _ _).alloc _).below hb; have h2 := (Held.new2 w _ _ _ _).below hb; have hw := Below.step (below3 w _ _ _) hb; clear hb)
      obtain ⟨c0, c1, _, _⟩ := hx.two
      obtain ⟨c2, c3, _, _⟩ := h1.two
      have g0 := fun d os => cell_regrown c0 d os
      have g1 := fun d os => cell_regrown c1 d os
      have g2 := fun d os => cell_regrown c2 d os
      have g3 := fun d os => cell_regrown c3 d os
      clear c0 c1 c2 c3
      refine wp_region_below_tail 4 (by kernel_rfl) (by kernel_rfl) ?_
      simp only [List.take_succ_cons, List.take_zero, List.drop_succ_cons, List.drop_zero]
      repeat (first
        | go_big_quiet_step ((first
            | (go_at_call 21; (with_reducible exact Calls.regrown_of (CP _).out))
            | (go_at_call 16; (with_reducible exact Calls.regrown_of (CM _).out))))
        | quiet_step ((first
            | (go_at_call 21; (with_reducible exact Calls.regrown_of (CP _).out))
            | (go_at_call 16; (with_reducible exact Calls.regrown_of (CM _).out)))))
      refine wpQuiet_nil ?_
      intro v2 hv
      have hb := below_of_regrown hv
      clear hv g0 g1 g2 g3
      replace h2 := h2.below hb
      replace hw := Below.step hw hb
      obtain ⟨c4, c5, f0, f1⟩ := h2.two
      go_wp2_with fail
      replace hw := set2b (k := w.heap.size + 1 + 1) (x := .int .i64 q.1) (y := .int .i64 q.2) (by omega) hw
      replace h2 := h2.set (.int .i64 q.1) (.int .i64 q.2)
      generalize (v2.setCell _ _).setCell _ _ = W2 at h2 hw ⊢
      obtain ⟨d0, d1, _, _⟩ := h2.two
      exact bodyPost_ret (v := .tuple #[.agg #[.int .i64 q.1, .int .i64 q.2], .bool true]) (by simp [results, Tryd.results10, go_sem, d0, d1]) rfl ⟨rfl, hw⟩
end Go.Proofs.YthnnmgjehpapiaaDoor
