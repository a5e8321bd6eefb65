/- Layer 5: the calls whose answers the document fixes. -/
import Derived.Test.YtkahjodnefclfaaSdr
import Derived.Test.YtkahjodnefclfaaVal
namespace Go.Proofs.Ytkahjodnefclfaa
set_option linter.unusedVariables false
set_option linter.unusedSimpArgs false
open Go.RowKit Go.ChangeShapes Go.WideShapes Go.ChangeAt Gm Sdm

theorem cs_mix {s n x : Int} (h : mixZ s n = x) : Cs Try.prog 9 #[.int .i64 s, .int .i64 n] (.int .i64 x) := by have := mix_any s n; rwa [h] at this
theorem cs_rmix {s n x : Int} (h : mixZ s n = x) : Cs Try.prog 10 #[.int .i64 s, .int .i64 n] (.int .i64 x) := by have := rmix_any s n; rwa [h] at this
theorem cs_child {s n x : Int} (h : useZ s 1 n = x) : Cs Try.prog 11 #[.int .i64 s, .int .i64 n] (.int .i64 x) := by have := child_any s n; rwa [h] at this
theorem cs_rchild {s n x : Int} (h : useZ s 1 n = x) : Cs Try.prog 12 #[.int .i64 s, .int .i64 n] (.int .i64 x) := by have := rchild_any s n; rwa [h] at this
theorem ct_draw {s n x y : Int} (h : drawZ s n = (x, y)) : Ct Try.prog 13 #[.int .i64 s, .int .i64 n] (gv x y) := by have := draw_any s n; rwa [h] at this
theorem ct_rdraw {s n x y : Int} (h : drawZ s n = (x, y)) : Ct Try.prog 14 #[.int .i64 s, .int .i64 n] (gv x y) := by have := rdraw_any s n; rwa [h] at this

set_option maxHeartbeats 4000000 in
set_option maxRecDepth 100000 in
theorem fixed_true : Ct Try.prog 8 #[] (.bool true) := fun w => by
  have C1 := @cs_mix 0 4294967295 0 (by decide +kernel)
  have C2 := @cs_mix 1 4294967295 _ rfl
  have R2 := @cs_rmix 1 4294967295 _ rfl
  have C3 := @cs_mix (-1) 0 0 (by decide +kernel)
  have C4 := @cs_mix 0 4294967296 0 (by decide +kernel)
  have D1 := @cs_child 7 3 _ rfl
  have D2 := @cs_rchild 7 3 _ rfl
  have D3 := @cs_child 7 4 _ rfl
  have D4 := @cs_child 7 (-1) 0 (by decide +kernel)
  have E1 := draw_any 7 3
  have E2 := rdraw_any 7 3
  have E3 := @ct_draw (-1) 0 0 0 (by decide +kernel)
  have n1 : (mixZ 1 4294967295 != 0) = true := by decide +kernel
  have n2 : (useZ 7 1 3 != useZ 7 1 4) = true := by decide +kernel
  generalize drawZ 7 3 = q at *
  obtain ⟨a, b⟩ := q
  have k1 := eqv_run a b a b
  have k2 := eqv_run 0 0 0 0
  go_enter Try.func8, Try.ntmps8
  go_wp2_with (first
    | (go_at_call 9; (with_reducible refine (C1.go _).mono ?_); rintro e v ⟨rfl, rfl⟩)
    | (go_at_call 9; (with_reducible refine (C2.go _).mono ?_); rintro e v ⟨rfl, rfl⟩)
    | (go_at_call 10; (with_reducible refine (R2.go _).mono ?_); rintro e v ⟨rfl, rfl⟩)
    | (go_at_call 9; (with_reducible refine (C3.go _).mono ?_); rintro e v ⟨rfl, rfl⟩)
    | (go_at_call 9; (with_reducible refine (C4.go _).mono ?_); rintro e v ⟨rfl, rfl⟩)
    | (go_at_call 11; (with_reducible refine (D1.go _).mono ?_); rintro e v ⟨rfl, rfl⟩)
    | (go_at_call 12; (with_reducible refine (D2.go _).mono ?_); rintro e v ⟨rfl, rfl⟩)
    | (go_at_call 11; (with_reducible refine (D3.go _).mono ?_); rintro e v ⟨rfl, rfl⟩)
    | (go_at_call 11; (with_reducible refine (D4.go _).mono ?_); rintro e v ⟨rfl, rfl⟩)
    | (go_at_call 13; (with_reducible refine (E1.go _).mono ?_); rintro e v1 ⟨rfl, hb⟩; have hw := hb; clear hb)
    | (go_at_call 14; (with_reducible refine (E2.go _).mono ?_); rintro e v2 ⟨rfl, hb⟩; replace hw := Below.step hw hb; clear hb)
    | (go_at_call 13; (with_reducible refine (E3.go _).mono ?_); rintro e v3 ⟨rfl, hb⟩; replace hw := Below.step hw hb; clear hb))
  go_ret
  exact ⟨rfl, hw⟩
end Go.Proofs.Ytkahjodnefclfaa
