/- Layer 4: the document's own answers: powers. -/
import Derived.Test.YthnnmgjehpapiaaDoorGrm
namespace Go.Proofs.YthnnmgjehpapiaaDoor
set_option linter.unusedVariables false
set_option linter.unusedSimpArgs false
open Go.RowKit Go.ChangeShapes Go.WideShapes Go.ChangeAt Gm Fl Go.Sort

theorem half_even {a : V} {n : Nat} (h : n % 2 = 0) : gMul (gPow a (n / 2)) (gPow a (n / 2)) = gPow a n := by
  rw [← pow_add, show n / 2 + n / 2 = n by omega]
theorem half_odd {a : V} {n : Nat} (h : n % 2 = 1) : gMul (gMul (gPow a (n / 2)) (gPow a (n / 2))) a = gPow a n := by
  rw [← pow_add]
  conv => rhs; rw [show n = n / 2 + n / 2 + 1 by omega]
  rfl
theorem parz_even {m : Nat} (h : m % 2 = 0) : ((m : Int) % 2 == 0) = true := by simp; omega
theorem parz_odd {m : Nat} (h : m % 2 = 1) : ((m : Int) % 2 == 0) = false := by simp; omega

set_option maxHeartbeats 1000000 in
set_option maxRecDepth 100000 in
theorem rpow_nat (a b : Int) (n : Nat) : ∀ (w : World), n ≤ 9223372036854775807 → Calls Tryd.prog 22 #[.agg #[.int .i64 a, .int .i64 b], .int .i64 n] w fun e w' =>
    e = .returned (.agg #[.int .i64 (gPow (a, b) n).1, .int .i64 (gPow (a, b) n).2]) ∧ Below w.heap.size w w' := by
  induction n using Nat.strongRecOn with
  | _ n ih =>
  intro w hn
  by_cases h0 : n = 0
  · subst h0
    show Calls Tryd.prog 22 _ w fun e w' => e = .returned (.agg #[.int .i64 1, .int .i64 0]) ∧ Below w.heap.size w w'
    clear ih
    go_enter Tryd.func22, Tryd.ntmps22
    go_wp2_with fail
    exact bodyPost_ret (v := .agg #[.int .i64 1, .int .i64 0]) (by simp [results, Tryd.results22, go_sem]) rfl ⟨rfl, below2 w _ _⟩
  · have CP : ∀ W, Hid (Calls Tryd.prog 22 #[.agg #[.int .i64 a, .int .i64 b], .int .i64 ((n : Int) / 2)] W fun e w' => e = .returned (.agg #[.int .i64 (gPow (a, b) (n / 2)).1, .int .i64 (gPow (a, b) (n / 2)).2]) ∧ Below W.heap.size W w') := fun W => by
      have := ih (n / 2) (by omega) W (by omega)
      rw [show (n : Int) / 2 = ((n / 2 : Nat) : Int) by omega]
      exact Lib.hid this
    clear ih
    have hpos : ¬ (n : Int) = 0 := by omega
    have hposb : ((n : Int) == 0) = false := by simpa using hpos
    rcases Nat.mod_two_eq_zero_or_one n with hpar | hpar
    · have he := half_even (a := (a, b)) hpar
      have hB := parz_even hpar
      generalize gPow (a, b) (n / 2) = h at *
      generalize gPow (a, b) n = r at *
      have CM : ∀ W, Hid (Calls Tryd.prog 17 #[.agg #[.int .i64 h.1, .int .i64 h.2], .agg #[.int .i64 h.1, .int .i64 h.2]] W fun e w' => e = .returned (.agg #[.int .i64 r.1, .int .i64 r.2]) ∧ Below W.heap.size W w') := fun W => by
        rw [← he]; exact Lib.hid (rmul_any h.1 h.2 h.1 h.2 W)
      clear he hpar hpos
      go_enter Tryd.func22, Tryd.ntmps22
      go_wp2_with (first
        | (go_at_call 22; (with_reducible refine (CP _).out.mono ?_); rintro e v ⟨rfl, hb⟩; have h1 := (Held.new1 w _ _ _).below hb; have hw := Below.step (below2 w _ _) hb)
        | (go_at_call 17; (with_reducible refine (CM _).out.mono ?_); rintro e v2 ⟨rfl, hb⟩; replace h1 := (h1.alloc _).below hb; replace hw := Below.step (hw.alloc hw.size _) hb; clear hb; obtain ⟨c0, c1, f0, f1⟩ := h1.two))
      replace hw := set2b (k := w.heap.size + 1) (x := .int .i64 r.1) (y := .int .i64 r.2) (by omega) hw
      replace h1 := h1.set (.int .i64 r.1) (.int .i64 r.2)
      generalize (v2.setCell _ _).setCell _ _ = W2 at h1 hw ⊢
      obtain ⟨d0, d1, _, _⟩ := h1.two
      exact bodyPost_ret (v := .agg #[.int .i64 r.1, .int .i64 r.2]) (by simp [results, Tryd.results22, go_sem, d0, d1]) rfl ⟨rfl, hw⟩
    · have he := half_odd (a := (a, b)) hpar
      have hB := parz_odd hpar
      generalize gPow (a, b) (n / 2) = h at *
      generalize gPow (a, b) n = r at *
      obtain ⟨m, hm⟩ : ∃ m, m = gMul h h := ⟨_, rfl⟩
      rw [← hm] at he
      have CM : ∀ W, Hid (Calls Tryd.prog 17 #[.agg #[.int .i64 h.1, .int .i64 h.2], .agg #[.int .i64 h.1, .int .i64 h.2]] W fun e w' => e = .returned (.agg #[.int .i64 m.1, .int .i64 m.2]) ∧ Below W.heap.size W w') := fun W => by
        rw [hm]; exact Lib.hid (rmul_any h.1 h.2 h.1 h.2 W)
      have CN : ∀ W, Hid (Calls Tryd.prog 17 #[.agg #[.int .i64 m.1, .int .i64 m.2], .agg #[.int .i64 a, .int .i64 b]] W fun e w' => e = .returned (.agg #[.int .i64 r.1, .int .i64 r.2]) ∧ Below W.heap.size W w') := fun W => by
        rw [← he]; exact Lib.hid (rmul_any m.1 m.2 a b W)
      clear he hm hpar hpos
      go_enter Tryd.func22, Tryd.ntmps22
      go_wp2_with (go_at_call 22; (with_reducible refine (CP _).out.mono ?_); rintro e v ⟨rfl, hb⟩; have hx := ((Held.new w _ _).alloc _).below hb; have h1 := (Held.new1 w _ _ _).below hb; have hw := Below.step (below2 w _ _) hb; clear hb)
      have h2 := Held.new v 23 #[.int .i64 h.1, .int .i64 h.2]
      replace hx := hx.alloc (.cells #[.int .i64 h.1, .int .i64 h.2] 23)
      replace h1 := h1.alloc (.cells #[.int .i64 h.1, .int .i64 h.2] 23)
      replace hw := hw.alloc hw.size (.cells #[.int .i64 h.1, .int .i64 h.2] 23)
      generalize v.alloc _ = W0 at hx h1 h2 hw ⊢
      obtain ⟨c0, c1, _, _⟩ := hx.two
      obtain ⟨c2, c3, _, _⟩ := h2.two
      have g0 := fun d os => cell_regrown c0 d os
      have g1 := fun d os => cell_regrown c1 d os
      have g2 := fun d os => cell_regrown c2 d os
      have g3 := fun d os => cell_regrown c3 d os
      clear c0 c1 c2 c3
      refine wp_region_below_tail 5 (by kernel_rfl) (by kernel_rfl) ?_
      simp only [List.take_succ_cons, List.take_zero, List.drop_succ_cons, List.drop_zero]
      repeat (first
        | go_big_quiet_step ((first
            | (go_at_call 17; (with_reducible exact Calls.regrown_of (CM _).out))
            | (go_at_call 17; (with_reducible exact Calls.regrown_of (CN _).out))))
        | quiet_step ((first
            | (go_at_call 17; (with_reducible exact Calls.regrown_of (CM _).out))
            | (go_at_call 17; (with_reducible exact Calls.regrown_of (CN _).out)))))
      refine wpQuiet_nil ?_
      intro v2 hv
      have hb := below_of_regrown hv
      clear hv g0 g1 g2 g3
      replace h1 := h1.below hb
      replace hw := Below.step hw hb
      obtain ⟨c4, c5, f0, f1⟩ := h1.two
      go_wp2_with fail
      replace hw := set2b (k := w.heap.size + 1) (x := .int .i64 r.1) (y := .int .i64 r.2) (by omega) hw
      replace h1 := h1.set (.int .i64 r.1) (.int .i64 r.2)
      generalize (v2.setCell _ _).setCell _ _ = W2 at h1 hw ⊢
      obtain ⟨d0, d1, _, _⟩ := h1.two
      exact bodyPost_ret (v := .agg #[.int .i64 r.1, .int .i64 r.2]) (by simp [results, Tryd.results22, go_sem, d0, d1]) rfl ⟨rfl, hw⟩

set_option maxHeartbeats 1000000 in
theorem rpow_neg (a b n : Int) (w : World) (hn : n < 0) : Calls Tryd.prog 22 #[.agg #[.int .i64 a, .int .i64 b], .int .i64 n] w fun e w' =>
    e = .returned (.agg #[.int .i64 0, .int .i64 0]) ∧ Below w.heap.size w w' := by
  go_enter Tryd.func22, Tryd.ntmps22
  go_wp2_with fail
  exact bodyPost_ret (v := .agg #[.int .i64 0, .int .i64 0]) (by simp [results, Tryd.results22, go_sem]) rfl ⟨rfl, below2 w _ _⟩
end Go.Proofs.YthnnmgjehpapiaaDoor
