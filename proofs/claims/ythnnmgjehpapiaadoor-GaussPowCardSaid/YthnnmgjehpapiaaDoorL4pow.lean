/- Layer 4: GaussPow: powers of sums of numbers are products of powers; the 63000th power of what is not 0 is 1; and the inverse is the one ahead of that. For every value and all numbers. -/
import Derived.Test.YthnnmgjehpapiaaDoorL4lib
import Derived.Test.YthnnmgjehpapiaaDoorGref
namespace Go.Proofs.YthnnmgjehpapiaaDoor.gaussPow
set_option linter.unusedVariables false
set_option linter.unusedSimpArgs false
open Go.ChangeShapes Go.WideShapes Go.ChangeAt Go.RowKit Gm Fl Go.Sort

theorem fixed_ctx : Ctx 20 #[] (.bool true) := fun W hT => fixed_true W hT
theorem may_ct {a b : Int} {o : Bool} (h : mayB a b = o) : Ct Tryd.prog 26 #[gv a b] (.bool o) := fun W => by have := rmay_any a b W; rwa [h] at this

set_option maxHeartbeats 1000000 in
set_option maxRecDepth 100000 in
theorem other (a b m n : Int) (w : World) (hT : Tab w) (h : mayB a b = false ∨ (mayB a b = true ∧ m < 0) ∨ (mayB a b = true ∧ 0 ≤ m ∧ 1073741824 < m) ∨ (mayB a b = true ∧ 0 ≤ m ∧ m ≤ 1073741824 ∧ n < 0) ∨ (mayB a b = true ∧ 0 ≤ m ∧ m ≤ 1073741824 ∧ 0 ≤ n ∧ 1073741824 < n)) :
    Calls Tryd.prog 6 #[gv a b, .int .i64 m, .int .i64 n] w fun e w' => e = .returned (.bool true) ∧ Below w.heap.size w w' := by
  have FX := fixed_ctx
  rcases h with h | ⟨h, h1⟩ | ⟨h, h1, h2⟩ | ⟨h, h1, h2, h3⟩ | ⟨h, h1, h2, h3, h4⟩
  all_goals
    have Y1 := may_ct h
    clear h
    go_enter Tryd.func6, Tryd.ntmps6
    go_wp2_with (first
      | (go_at_call 20; (with_reducible refine (FX.go _ (hT.below ((Below.refl _ _).alloc (Nat.le_refl _) _))).mono ?_); rintro e v ⟨rfl, hb⟩; have hx := (Held.new w _ _).below hb; have hw := Below.step ((Below.refl _ _).alloc (Nat.le_refl _) _) hb; clear hb; obtain ⟨c0, c1, _, _⟩ := hx.two)
      | (go_at_call 26; (with_reducible refine (Y1.go _).mono ?_); rintro e v2 ⟨rfl, hb⟩; replace hx := hx.below hb; replace hw := Below.step hw hb; clear hb c0 c1; obtain ⟨c0, c1, _, _⟩ := hx.two)
      | (go_at_call 20; (with_reducible refine (FX.go _ (hT.below hw)).mono ?_); rintro e v3 ⟨rfl, hb⟩; replace hw := Below.step hw hb; clear hb))
    go_ret
    exact ⟨rfl, hw⟩

set_option maxHeartbeats 4000000 in
set_option maxRecDepth 100000 in
theorem good (a b : Int) (M N : Nat) (w : World) (hT : Tab w) (h : mayB a b = true) (hM : M ≤ 1073741824) (hN : N ≤ 1073741824) :
    Calls Tryd.prog 6 #[gv a b, .int .i64 M, .int .i64 N] w fun e w' => e = .returned (.bool true) ∧ Below w.heap.size w w' := by
  have FX := fixed_ctx
  have Y1 := may_ct h
  have hm := (may_iff a b).1 h
  have oa := of_in hm
  obtain ⟨p, e1⟩ : ∃ s, s = gPow (a, b) M := ⟨_, rfl⟩
  obtain ⟨r, e2⟩ : ∃ s, s = gPow (a, b) N := ⟨_, rfl⟩
  obtain ⟨s, e3⟩ : ∃ s, s = gMul p r := ⟨_, rfl⟩
  obtain ⟨q, e4⟩ : ∃ s, s = gQuo gOne (a, b) := ⟨_, rfl⟩
  obtain ⟨o, e5⟩ : ∃ s, s = decide (gNorm (a, b) ≠ 0) := ⟨_, rfl⟩
  obtain ⟨m, hm'⟩ : ∃ m : Int, m = M := ⟨_, rfl⟩
  obtain ⟨n, hn'⟩ : ∃ n : Int, n = N := ⟨_, rfl⟩
  rw [← hm', ← hn']
  have O1 : Ct Tryd.prog 27 #[.int .i64 1, .int .i64 0] (gv 1 0) := cb_of (by decide +kernel)
  have PM : Ct Tryd.prog 21 #[gv a b, .int .i64 m] (gv p.1 p.2) := cb_pow (by omega) (by rw [e1, hm']; exact powZ_nat (a, b) M)
  have PN : Ct Tryd.prog 21 #[gv a b, .int .i64 n] (gv r.1 r.2) := cb_pow (by omega) (by rw [e2, hn']; exact powZ_nat (a, b) N)
  have PS : Ct Tryd.prog 21 #[gv a b, .int .i64 (m + n)] (gv s.1 s.2) := cb_pow (by omega) (by rw [e3, e1, e2, hm', hn', ← pow_add]; exact powZ_nat (a, b) (M + N))
  have MM : Ct Tryd.prog 16 #[gv p.1 p.2, gv r.1 r.2] (gv s.1 s.2) := cb_mul e3.symm
  have P1 : Ct Tryd.prog 21 #[gv a b, .int .i64 1] (gv a b) := cb_pow (by decide) (by rw [show (1 : Int) = ((1 : Nat) : Int) from rfl, powZ_nat, pow_one, oa])
  have DV : Ct Tryd.prog 10 #[gv 1 0, gv a b] (.tuple #[gv q.1 q.2, .bool o]) := cb_div e4.symm e5.symm
  have Q0 : Hid ((a, b) ≠ (0, 0) → Ct Tryd.prog 21 #[gv a b, .int .i64 63000] (gv 1 0)) := Lib.hid fun hz => cb_pow (by decide) (by rw [show (63000 : Int) = ((63000 : Nat) : Int) from rfl, powZ_nat, pow63000 hm hz]; rfl)
  have Q1 : Hid ((a, b) ≠ (0, 0) → Ct Tryd.prog 21 #[gv a b, .int .i64 62999] (gv q.1 q.2)) := Lib.hid fun hz => cb_pow (by decide) (by rw [show (62999 : Int) = ((62999 : Nat) : Int) from rfl, powZ_nat, pow62999 hm hz, e4])
  have QR : Hid ((a, b) ≠ (0, 0) → Ct Tryd.prog 21 #[gv a b, .int .i64 (n % 63000)] (gv r.1 r.2)) := Lib.hid fun hz => cb_pow (by omega) (by rw [e2, pow_mod hm hz N, hn', show ((N : Int) % 63000) = ((N % 63000 : Nat) : Int) by omega]; exact powZ_nat (a, b) _)
  have hm0 : 0 ≤ m := by omega
  have hm1 : m ≤ 1073741824 := by omega
  have hn0 : 0 ≤ n := by omega
  have hn1 : n ≤ 1073741824 := by omega
  have y1 : IntKind.i64.wrap (m + n) = m + n := IntWalk.i64_in _ (by omega)
  have y2 : Int.tmod n 63000 = n % 63000 := Int.tmod_eq_emod_of_nonneg hn0
  clear e1 e2 e3 e4 e5 oa hm h hm' hn' hM hN
  go_enter Tryd.func6, Tryd.ntmps6
  go_upto_region 4 with (first
    | (go_at_call 20; (with_reducible refine (FX.go _ (hT.below ((Below.refl _ _).alloc (Nat.le_refl _) _))).mono ?_); rintro e v ⟨rfl, hb⟩; have hx := (Held.new w _ _).below hb; have hw := Below.step ((Below.refl _ _).alloc (Nat.le_refl _) _) hb; clear hb; obtain ⟨c0, c1, _, _⟩ := hx.two)
    | (go_at_call 26; (with_reducible refine (Y1.go _).mono ?_); rintro e v2 ⟨rfl, hb⟩; replace hx := hx.below hb; replace hw := Below.step hw hb; clear hb c0 c1; obtain ⟨c0, c1, _, _⟩ := hx.two)
    | (go_at_call 27; (with_reducible refine (O1.go _).mono ?_); rintro e v3 ⟨rfl, hb⟩; replace hx := hx.below hb; replace hw := Below.step hw hb; clear hb c0 c1))
  clear Y1 FX hT O1
  have ho := (Held.new v3 23 #[.int .i64 1, .int .i64 0]).alloc (.cells #[.int .i64 0, .int .i64 0] 23)
  have hz := Held.new1 v3 (.cells #[.int .i64 1, .int .i64 0] 23) 23 #[.int .i64 0, .int .i64 0]
  replace hx := (hx.alloc (.cells #[.int .i64 1, .int .i64 0] 23)).alloc (.cells #[.int .i64 0, .int .i64 0] 23)
  replace hw := (hw.alloc hw.size (.cells #[.int .i64 1, .int .i64 0] 23)).alloc (by have := hw.size; simp; omega) (.cells #[.int .i64 0, .int .i64 0] 23)
  generalize (v3.alloc _).alloc _ = W0 at hx ho hz hw ⊢
  obtain ⟨hx0, hx1, _, _⟩ := hx.two
  have hxg := fun d os => cell_regrown hx0 d os
  have hxk := fun d os => cell_regrown hx1 d os
  clear hx0 hx1
  refine wp_region_quiet_below (by kernel_rfl) (by kernel_rfl) ?_
  repeat (first
    | go_big_quiet_step ((first
        | (go_at_call 21; (with_reducible exact Calls.regrown_of (PS.go _)))
        | (go_at_call 21; (with_reducible exact Calls.regrown_of (PM.go _)))
        | (go_at_call 21; (with_reducible exact Calls.regrown_of (PN.go _)))
        | (go_at_call 16; (with_reducible exact Calls.regrown_of (MM.go _)))
        | (go_at_call 21; (with_reducible exact Calls.regrown_of (P1.go _)))))
    | quiet_step ((first
        | (go_at_call 21; (with_reducible exact Calls.regrown_of (PS.go _)))
        | (go_at_call 21; (with_reducible exact Calls.regrown_of (PM.go _)))
        | (go_at_call 21; (with_reducible exact Calls.regrown_of (PN.go _)))
        | (go_at_call 16; (with_reducible exact Calls.regrown_of (MM.go _)))
        | (go_at_call 21; (with_reducible exact Calls.regrown_of (P1.go _))))))
  refine wpQuiet_nil ?_
  intro v4 hv
  have hb := below_of_regrown hv
  clear hv hxg hxk
  replace hx := hx.below hb
  replace ho := ho.below hb
  replace hz := hz.below hb
  replace hw := Below.step hw hb
  clear hb
  clear PM PS MM P1
  obtain ⟨c0, c1, _, _⟩ := hx.two
  obtain ⟨c2, c3, _, _⟩ := ho.two
  go_upto_region 7 with (go_at_call 10; (with_reducible refine (DV.go _).mono ?_); rintro e v5 ⟨rfl, hb⟩; replace hx := hx.below hb; replace ho := ho.below hb; replace hz := hz.below hb; replace hw := Below.step hw hb; clear hb c0 c1 c2 c3)
  have hq := Held.new v5 23 #[.int .i64 q.1, .int .i64 q.2]
  replace hx := hx.alloc (.cells #[.int .i64 q.1, .int .i64 q.2] 23)
  replace ho := ho.alloc (.cells #[.int .i64 q.1, .int .i64 q.2] 23)
  replace hz := hz.alloc (.cells #[.int .i64 q.1, .int .i64 q.2] 23)
  replace hw := hw.alloc hw.size (.cells #[.int .i64 q.1, .int .i64 q.2] 23)
  generalize v5.alloc _ = W1 at hx ho hz hq hw ⊢
  by_cases ha : (a, b) = (0, 0)
  · obtain ⟨rfl, rfl⟩ : a = 0 ∧ b = 0 := ⟨congrArg Prod.fst ha, congrArg Prod.snd ha⟩
    clear ha Q0 Q1 QR
    obtain ⟨hx0, hx1, _, _⟩ := hx.two
    have hxg := fun d os => cell_regrown hx0 d os
    have hxk := fun d os => cell_regrown hx1 d os
    clear hx0 hx1
    obtain ⟨ho0, ho1, _, _⟩ := ho.two
    have hog := fun d os => cell_regrown ho0 d os
    have hok := fun d os => cell_regrown ho1 d os
    clear ho0 ho1
    obtain ⟨hz0, hz1, _, _⟩ := hz.two
    have hzg := fun d os => cell_regrown hz0 d os
    have hzk := fun d os => cell_regrown hz1 d os
    clear hz0 hz1
    obtain ⟨hq0, hq1, _, _⟩ := hq.two
    have hqg := fun d os => cell_regrown hq0 d os
    have hqk := fun d os => cell_regrown hq1 d os
    clear hq0 hq1
    refine wp_region_quiet_below (by kernel_rfl) (by kernel_rfl) ?_
    repeat (first
      | go_big_quiet_step ((first
          | (go_at_call 21; (with_reducible exact Calls.regrown_of (PN.go _)))))
      | quiet_step ((first
          | (go_at_call 21; (with_reducible exact Calls.regrown_of (PN.go _))))))
    refine wpQuiet_nil ?_
    intro v6 hv
    have hb := below_of_regrown hv
    clear hv hxg hxk hog hok hzg hzk hqg hqk
    replace hx := hx.below hb
    replace ho := ho.below hb
    replace hz := hz.below hb
    replace hq := hq.below hb
    replace hw := Below.step hw hb
    clear hb
    go_wp2_with fail
    go_ret
    exact ⟨rfl, hw⟩
  · replace Q0 := Q0.out ha
    replace Q1 := Q1.out ha
    replace QR := QR.out ha
    have E : ∀ W, (binOp .eql 23 (gv a b) (gv 0 0)).run Tryd.prog W = .ok (.bool false) W := fun W => by rw [eqv_run, decide_eq_false ha]
    clear ha
    obtain ⟨hx0, hx1, _, _⟩ := hx.two
    have hxg := fun d os => cell_regrown hx0 d os
    have hxk := fun d os => cell_regrown hx1 d os
    clear hx0 hx1
    obtain ⟨ho0, ho1, _, _⟩ := ho.two
    have hog := fun d os => cell_regrown ho0 d os
    have hok := fun d os => cell_regrown ho1 d os
    clear ho0 ho1
    obtain ⟨hz0, hz1, _, _⟩ := hz.two
    have hzg := fun d os => cell_regrown hz0 d os
    have hzk := fun d os => cell_regrown hz1 d os
    clear hz0 hz1
    obtain ⟨hq0, hq1, _, _⟩ := hq.two
    have hqg := fun d os => cell_regrown hq0 d os
    have hqk := fun d os => cell_regrown hq1 d os
    clear hq0 hq1
    refine wp_region_quiet_below (by kernel_rfl) (by kernel_rfl) ?_
    repeat (first
      | go_big_quiet_step ((first
          | (go_at_call 21; (with_reducible exact Calls.regrown_of (Q0.go _)))
          | (go_at_call 21; (with_reducible exact Calls.regrown_of (Q1.go _)))
          | (go_at_call 21; (with_reducible exact Calls.regrown_of (PN.go _)))
          | (go_at_call 21; (with_reducible exact Calls.regrown_of (QR.go _)))))
      | quiet_step ((first
          | (go_at_call 21; (with_reducible exact Calls.regrown_of (Q0.go _)))
          | (go_at_call 21; (with_reducible exact Calls.regrown_of (Q1.go _)))
          | (go_at_call 21; (with_reducible exact Calls.regrown_of (PN.go _)))
          | (go_at_call 21; (with_reducible exact Calls.regrown_of (QR.go _))))))
    refine wpQuiet_nil ?_
    intro v6 hv
    have hb := below_of_regrown hv
    clear hv hxg hxk hog hok hzg hzk hqg hqk
    replace hx := hx.below hb
    replace ho := ho.below hb
    replace hz := hz.below hb
    replace hq := hq.below hb
    replace hw := Below.step hw hb
    clear hb
    go_wp2_with fail
    go_ret
    exact ⟨rfl, hw⟩
theorem entry {H : Type} {enc : TypeId × Value → H} (W : World) (base : Nat) (v0 v1 v2 : Value) (d0 d1 d2 : DataW H) (p0 p1 p2 : List MemPlace)
    (k0 : Value.okWide Tryd.prog W .any base 23 v0) (k1 : Value.okWide Tryd.prog W .any base 3 v1) (k2 : Value.okWide Tryd.prog W .any base 3 v2)
    (h0 : DataW.Trod enc Tryd.prog W 0 (fun _ => true) true 23 v0 d0 p0) (h1 : DataW.Trod enc Tryd.prog W 0 (fun _ => true) true 3 v1 d1 p1) (h2 : DataW.Trod enc Tryd.prog W 0 (fun _ => true) true 3 v2 d2 p2) (hT : Tab W) :
    Calls Tryd.prog 6 #[v0, v1, v2] W fun e w' => e = .returned (.bool true) ∧ Below W.heap.size W w' := by
  obtain ⟨a, b, rfl, _, _⟩ := open_val k0 h0
  obtain ⟨m, rfl, rfl, rfl, wm⟩ := open_int Tryd.underlying3 k1 h1
  obtain ⟨n, rfl, rfl, rfl, wn⟩ := open_int Tryd.underlying3 k2 h2
  cases h : mayB a b with
  | false => exact other a b m n W hT (.inl h)
  | true =>
    by_cases hc : 0 ≤ m ∧ m ≤ 1073741824 ∧ 0 ≤ n ∧ n ≤ 1073741824
    · obtain ⟨M, rfl⟩ := Int.eq_ofNat_of_zero_le hc.1
      obtain ⟨N, rfl⟩ := Int.eq_ofNat_of_zero_le hc.2.2.1
      exact good a b M N W hT h (by omega) (by omega)
    · refine other a b m n W hT (.inr ?_)
      simp only [h, true_and]
      omega
end Go.Proofs.YthnnmgjehpapiaaDoor.gaussPow
