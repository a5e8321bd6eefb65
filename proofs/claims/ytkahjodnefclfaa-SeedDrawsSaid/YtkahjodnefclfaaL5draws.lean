/- Layer 5: SeedDraws: what is drawn is a value; it hangs on the seed and the number alone; what is no seed draws 0. -/
import Derived.Test.YtkahjodnefclfaaL5apart
import Derived.OpenShut
import Derived.BigQuiet
import Derived.Lib.QuietBelow
import Derived.Test.YtkahjodnefclfaaQt
namespace Go.Proofs.Ytkahjodnefclfaa.seedDraws
set_option linter.unusedVariables false
set_option linter.unusedSimpArgs false
open Go.ChangeShapes Go.WideShapes Go.ChangeAt Go.RowKit Gm Sdm Go.Sort

open seedApart (mixZ_nat use_nat isZ_bd neI neI')
theorem may_draw (s k : Int) : mayB (drawZ s k).1 (drawZ s k).2 = true := by
  have h0 := rs_bd (useZ s 2 k)
  have h1 := rs_bd (useZ s 2 k / 65536)
  generalize ha : rs (useZ s 2 k) = a at *
  generalize hb : rs (useZ s 2 k / 65536) = b at *
  have e : mayB (drawZ s k).1 (drawZ s k).2 = mayB a b := by rw [← ha, ← hb]; rfl
  rw [e]
  simp [mayB]
  omega
theorem ct_may {a b : Int} {o : Bool} (h : mayB a b = o) : Ct Try.prog 16 #[gv a b] (.bool o) := fun W => by have := rmay_any a b W; rwa [h] at this
set_option maxHeartbeats 1000000 in
set_option maxRecDepth 100000 in
theorem good (s k : Int) (hs : isZ s = true) (hk : isZ k = true) : Ct Try.prog 5 #[.int .i64 s, .int .i64 k] (.bool true) := fun w => by
  have FX := fixed_true
  have I0 := cs_is hs
  have I1 := cs_is hk
  have D := draw_any s k
  have CC := child_any s k
  have M1 := mix_any s 1
  have M2 := mix_any s 2
  have N1 := mix_any (mixZ s 1) k
  have N2 := mix_any (mixZ s 2) k
  have YM := ct_may (may_draw s k)
  have OO : Ct Try.prog 17 #[.int .i64 (mixZ (mixZ s 2) k), .int .i64 (mixZ (mixZ s 2) k / 65536)] (gv (drawZ s k).1 (drawZ s k).2) := fun W => by
    have := rof_any (mixZ (mixZ s 2) k) (mixZ (mixZ s 2) k / 65536) W
    unfold drawZ useZ
    rw [if_pos hs]
    exact this
  have e1 : useZ s 1 k = mixZ (mixZ s 1) k := by rw [useZ, if_pos hs]
  rw [e1] at CC
  obtain ⟨b0, b1⟩ := mixZ_bd (mixZ s 2) k
  generalize drawZ s k = q at *
  obtain ⟨a, b⟩ := q
  generalize mixZ (mixZ s 1) k = x1 at *
  generalize mixZ (mixZ s 2) k = x2 at *
  generalize mixZ s 1 = y1 at *
  generalize mixZ s 2 = y2 at *
  have k1 := eqv_run a b a b
  clear hs hk e1
  go_enter Try.func5, Try.ntmps5
  go_wp2_with (first
    | (go_at_call 8; (with_reducible refine (FX.go _).mono ?_); rintro e v ⟨rfl, hb⟩; have hw := hb; clear hb)
    | (go_at_call 15; (with_reducible refine (I0.go _).mono ?_); rintro e v ⟨rfl, rfl⟩)
    | (go_at_call 15; (with_reducible refine (I1.go _).mono ?_); rintro e v ⟨rfl, rfl⟩)
    | (go_at_call 13; (with_reducible refine (D.go _).mono ?_); rintro e v1 ⟨rfl, hb⟩; replace hw := Below.step hw hb; clear hb))
  have hx := Held.new v1 25 #[.int .i64 a, .int .i64 b]
  replace hw := hw.alloc hw.size (.cells #[.int .i64 a, .int .i64 b] 25)
  generalize v1.alloc _ = W0 at hx hw ⊢
  obtain ⟨hx0, hx1, _, _⟩ := hx.two
  have hxg := fun d os => cell_regrown hx0 d os
  have hxk := fun d os => cell_regrown hx1 d os
  clear hx0 hx1
  refine wp_region_quiet_below (by kernel_rfl) (by kernel_rfl) ?_
  repeat (first
    | go_big_quiet_step ((first
        | (go_at_call 16; (with_reducible exact Calls.regrown_of (YM.go _)))
        | (go_at_call 13; (with_reducible exact Calls.regrown_of (D.go _)))
        | (go_at_call 11; (with_reducible exact Calls.regrown_same (CC.go _)))
        | (go_at_call 9; (with_reducible exact Calls.regrown_same (M1.go _)))
        | (go_at_call 9; (with_reducible exact Calls.regrown_same (M2.go _)))
        | (go_at_call 9; (with_reducible exact Calls.regrown_same (N1.go _)))
        | (go_at_call 9; (with_reducible exact Calls.regrown_same (N2.go _)))
        | (go_at_call 17; (with_reducible exact Calls.regrown_of (OO.go _)))))
    | quiet_step ((first
        | (go_at_call 16; (with_reducible exact Calls.regrown_of (YM.go _)))
        | (go_at_call 13; (with_reducible exact Calls.regrown_of (D.go _)))
        | (go_at_call 11; (with_reducible exact Calls.regrown_same (CC.go _)))
        | (go_at_call 9; (with_reducible exact Calls.regrown_same (M1.go _)))
        | (go_at_call 9; (with_reducible exact Calls.regrown_same (M2.go _)))
        | (go_at_call 9; (with_reducible exact Calls.regrown_same (N1.go _)))
        | (go_at_call 9; (with_reducible exact Calls.regrown_same (N2.go _)))
        | (go_at_call 17; (with_reducible exact Calls.regrown_of (OO.go _))))))
  refine wpQuiet_nil ?_
  intro v2 hv
  have hb := below_of_regrown hv
  clear hv hxg hxk
  replace hx := hx.below hb
  replace hw := Below.step hw hb
  clear hb
  go_wp2_with fail
  go_ret
  exact ⟨rfl, hw⟩
set_option maxHeartbeats 1000000 in
set_option maxRecDepth 100000 in
theorem bad0 (s k : Int) (h0 : isZ s = false) : Ct Try.prog 5 #[.int .i64 s, .int .i64 k] (.bool true) := fun w => by
  have FX := fixed_true
  have D := @ct_draw s k 0 0 (draw_out (by simp [h0]))
  have CC := @cs_child s k 0 (use_out (by simp [h0]))
  have I0 := cs_is h0
  have k1 := eqv_run 0 0 0 0
  clear h0
  go_enter Try.func5, Try.ntmps5
  go_wp2_with (first
    | (go_at_call 8; (with_reducible refine (FX.go _).mono ?_); rintro e v ⟨rfl, hb⟩; have hw := hb; clear hb)
    | (go_at_call 15; (with_reducible refine (I0.go _).mono ?_); rintro e v ⟨rfl, rfl⟩)
    | (go_at_call 13; (with_reducible refine (D.go _).mono ?_); rintro e v1 ⟨rfl, hb⟩; replace hw := Below.step hw hb; clear hb)
    | (go_at_call 11; (with_reducible refine (CC.go _).mono ?_); rintro e v ⟨rfl, rfl⟩))
  go_ret
  exact ⟨rfl, hw.alloc hw.size _⟩
set_option maxHeartbeats 1000000 in
set_option maxRecDepth 100000 in
theorem bad1 (s k : Int) (h0 : isZ s = true) (h1 : isZ k = false) : Ct Try.prog 5 #[.int .i64 s, .int .i64 k] (.bool true) := fun w => by
  have FX := fixed_true
  have D := @ct_draw s k 0 0 (draw_out (by simp [h0, h1]))
  have CC := @cs_child s k 0 (use_out (by simp [h0, h1]))
  have I0 := cs_is h0
  have I1 := cs_is h1
  have k1 := eqv_run 0 0 0 0
  clear h0 h1
  go_enter Try.func5, Try.ntmps5
  go_wp2_with (first
    | (go_at_call 8; (with_reducible refine (FX.go _).mono ?_); rintro e v ⟨rfl, hb⟩; have hw := hb; clear hb)
    | (go_at_call 15; (with_reducible refine (I0.go _).mono ?_); rintro e v ⟨rfl, rfl⟩)
    | (go_at_call 15; (with_reducible refine (I1.go _).mono ?_); rintro e v ⟨rfl, rfl⟩)
    | (go_at_call 13; (with_reducible refine (D.go _).mono ?_); rintro e v1 ⟨rfl, hb⟩; replace hw := Below.step hw hb; clear hb)
    | (go_at_call 11; (with_reducible refine (CC.go _).mono ?_); rintro e v ⟨rfl, rfl⟩))
  go_ret
  exact ⟨rfl, hw.alloc hw.size _⟩
theorem entry {H : Type} {enc : TypeId × Value → H} (W : World) (base : Nat) (v0 v1 : Value) (d0 d1 : DataW H) (p0 p1 : List MemPlace)
    (k0 : Value.okWide Try.prog W .any base 3 v0)
    (k1 : Value.okWide Try.prog W .any base 3 v1)
    (h0 : DataW.Trod enc Try.prog W 0 (fun _ => true) true 3 v0 d0 p0)
    (h1 : DataW.Trod enc Try.prog W 0 (fun _ => true) true 3 v1 d1 p1) :
    Calls Try.prog 5 #[v0, v1] W fun e w' => e = .returned (.bool true) ∧ Below W.heap.size W w' := by
  obtain ⟨a0, rfl, rfl, rfl, w0⟩ := open_int Try.underlying3 k0 h0
  obtain ⟨a1, rfl, rfl, rfl, w1⟩ := open_int Try.underlying3 k1 h1
  by_cases h0 : isZ a0 = true
  · by_cases h1 : isZ a1 = true
    · exact good a0 a1 h0 h1 W
    · exact bad1 a0 a1 h0 (by simpa using h1) W
  · exact bad0 a0 a1 (by simpa using h0) W
end Go.Proofs.Ytkahjodnefclfaa.seedDraws
