/- Layer 7: the document's lines. -/
import Derived.Test.YtcfdbciooimjmaaGreatDoorzGb
import Derived.Test.YtcfdbciooimjmaaGreatDoorzRdg
import Derived.Test.YtcfdbciooimjmaaGreatDoorzGf
import Derived.Test.YtcfdbciooimjmaaGreatDoorzGc
import Derived.OpenShut
import Derived.Lib.Hide
import Derived.WalkMore
import Derived.Handy
import Derived.BigQuiet
import Derived.Deep.QuietTactic
namespace Go.Proofs.YtcfdbciooimjmaaGreatDoor
set_option linter.unusedVariables false
set_option linter.unusedSimpArgs false
open Go.RowKit Go.ChangeShapes Go.WideShapes Go.ChangeAt Go.Sort

theorem dgI_len {n : Int} (h0 : 0 ≤ n) (h1 : n < 1000) : (dgI n).length ≤ 3 := dec_len3 (by omega)
theorem four_grown (w : World) (x y z u : Value) (t : TypeId) (d : Nat) (os : Array Obj) :
    (grow (redrawn (w.alloc (.cells #[x, y, z, u] t)) d) os).cell? ⟨w.heap.size, 0, none⟩ = some x ∧ (grow (redrawn (w.alloc (.cells #[x, y, z, u] t)) d) os).cell? ⟨w.heap.size, 1, none⟩ = some y ∧
    (grow (redrawn (w.alloc (.cells #[x, y, z, u] t)) d) os).cell? ⟨w.heap.size, 2, none⟩ = some z :=
  ⟨cell_regrown ((Held.new w t #[x, y, z, u]).cell 0) d os, cell_regrown ((Held.new w t #[x, y, z, u]).cell 1) d os, cell_regrown ((Held.new w t #[x, y, z, u]).cell 2) d os⟩

set_option maxHeartbeats 2000000 in
set_option maxRecDepth 100000 in
theorem ptop_in {a l s : Int} (v : Value) (h : headB a l s = true) : Ct Tryz.prog 46 #[.agg #[.int .i64 a, .int .i64 l, .int .i64 s, v]] (.string ⟨(lineT (.head a l s)).toArray⟩) := fun w => by
  obtain ⟨⟨a0, a1⟩, ⟨l0, l1⟩, s0, s1⟩ := (headB_iff a l s).1 h
  have D0 := rdg_in a0 (show a < 100000 by omega)
  have D1 := rdg_in l0 (show l < 100000 by omega)
  have D2 := rdg_in s0 (show s < 100000 by omega)
  have n0 := dgI_len a0 (show a < 1000 by omega)
  have n1 := dgI_len l0 (show l < 1000 by omega)
  have n2 := dgI_len s0 (show s < 1000 by omega)
  have he : lineT (.head a l s) = funcW ++ 32 :: (dgI a ++ 32 :: (dgI l ++ 32 :: dgI s)) := rfl
  generalize dgI a = da at *
  generalize dgI l = dl at *
  generalize dgI s = ds at *
  have HE := Lib.hid he
  clear he h a0 a1 l0 l1 s0 s1
  have g0 := fun d os => (four_grown w (.int .i64 a) (.int .i64 l) (.int .i64 s) v 39 d os).1
  have g1 := fun d os => (four_grown w (.int .i64 a) (.int .i64 l) (.int .i64 s) v 39 d os).2.1
  have g2 := fun d os => (four_grown w (.int .i64 a) (.int .i64 l) (.int .i64 s) v 39 d os).2.2
  go_enter Tryz.func46, Tryz.ntmps46
  go_wp2_with fail
  refine wp_region_quiet_below (by kernel_rfl) (by kernel_rfl) ?_
  (repeat (first
    | go_big_quiet_step ((first
        | (go_at_call 74; (with_reducible exact Calls.regrown_of (D0.go _)))
        | (go_at_call 74; (with_reducible exact Calls.regrown_of (D1.go _)))
        | (go_at_call 74; (with_reducible exact Calls.regrown_of (D2.go _)))))
    | quiet_step ((first
        | (go_at_call 74; (with_reducible exact Calls.regrown_of (D0.go _)))
        | (go_at_call 74; (with_reducible exact Calls.regrown_of (D1.go _)))
        | (go_at_call 74; (with_reducible exact Calls.regrown_of (D2.go _)))))))
  refine wpQuiet_nil ?_
  intro v1 hv
  have hb := below_of_regrown hv
  clear hv g0 g1 g2
  go_wp2_with fail
  go_ret
  refine ⟨ret_str ?_, below_laid hb⟩
  rw [HE.out]
  apply ByteArray.ext
  simp [funcW]

set_option maxHeartbeats 2000000 in
set_option maxRecDepth 100000 in
theorem pline_in {o a b : Int} (h : mayZ o a b = true) : Ct Tryz.prog 47 #[iv o a b] (.string ⟨(lineT (.ins o a b)).toArray⟩) := fun w => by
  obtain ⟨⟨a0, a1⟩, ⟨b0, b1⟩, fa, fb, f0, f2⟩ := row_bounds h
  clear fa fb
  have DA := rdg_in a0 (show a < 100000 by omega)
  have DB := rdg_in b0 (show b < 100000 by omega)
  have n0 := dgI_len a0 a1
  have n1 := dgI_len b0 b1
  have N := rname_any o
  have RF := rfields_any o
  have hnm : (rz o).nm = ⟨(nmL o).toArray⟩ := bytes_ext (by rw [bytes_eta]; rfl)
  have hns : (nmL o).length ≤ 5 := by
    obtain ⟨k, hk, rfl⟩ := may_in h
    rw [nmL_in hk]
    have := (size_ok k hk).2.1
    simpa using this
  have he : lineT (.ins o a b) = joinC 32 (nmL o :: (if (rz o).f < 1 then [] else if (rz o).f < 2 then [dgI a] else [dgI a, dgI b])) := rfl
  rw [hnm] at N
  clear h hnm
  generalize nmL o = nm at *
  generalize (rz o).f = f at *
  generalize dgI a = da at *
  generalize dgI b = db at *
  have hx := Held.new w 64 #[.int .i64 o, .int .i64 a, .int .i64 b]
  have hw : Below w.heap.size w (w.alloc (.cells #[.int .i64 o, .int .i64 a, .int .i64 b] 64)) := (Below.refl _ w).alloc (Nat.le_refl _) _
  have HX := Lib.hid hx
  clear hx
  clear a0 a1 b0 b1
  rcases (show f = 0 ∨ f = 1 ∨ f = 2 by omega) with rfl | rfl | rfl
  · have he2 : lineT (.ins o a b) = nm := he
    have HE := Lib.hid he2
    clear he he2
    go_enter Tryz.func47, Tryz.ntmps47
    go_wp2_with (first
      | (go_at_call 75; (with_reducible refine (N.go _).mono ?_); rintro e v ⟨rfl, hb⟩; replace HX := Lib.hid (HX.out.below hb); have c0 := HX.out.cell 0; have c1 := HX.out.cell 1; have c2 := HX.out.cell 2; simp at c0 c1 c2; have hlt := HX.out.lt; replace hw := Below.step hw hb; clear hb)
      | (go_at_call 50; (with_reducible refine (RF.go _).mono ?_); rintro e v ⟨rfl, rfl⟩)
      | (go_at_call 74; (with_reducible refine (DA.go _).mono ?_); rintro e v1 ⟨rfl, hb⟩; replace HX := Lib.hid (HX.out.below hb); have c0 := HX.out.cell 0; have c1 := HX.out.cell 1; have c2 := HX.out.cell 2; simp at c0 c1 c2; have hlt := HX.out.lt; replace hw := Below.step hw hb; clear hb)
      | (go_at_call 74; (with_reducible refine (DB.go _).mono ?_); rintro e v2 ⟨rfl, hb⟩; replace HX := Lib.hid (HX.out.below hb); have c0 := HX.out.cell 0; have c1 := HX.out.cell 1; have c2 := HX.out.cell 2; simp at c0 c1 c2; have hlt := HX.out.lt; replace hw := Below.step hw hb; clear hb))
    go_ret
    refine ⟨ret_str ?_, hw⟩
    rw [HE.out]
    try apply ByteArray.ext
    all_goals simp
  · have he2 : lineT (.ins o a b) = nm ++ 32 :: da := he
    have HE := Lib.hid he2
    clear he he2
    go_enter Tryz.func47, Tryz.ntmps47
    go_wp2_with (first
      | (go_at_call 75; (with_reducible refine (N.go _).mono ?_); rintro e v ⟨rfl, hb⟩; replace HX := Lib.hid (HX.out.below hb); have c0 := HX.out.cell 0; have c1 := HX.out.cell 1; have c2 := HX.out.cell 2; simp at c0 c1 c2; have hlt := HX.out.lt; replace hw := Below.step hw hb; clear hb)
      | (go_at_call 50; (with_reducible refine (RF.go _).mono ?_); rintro e v ⟨rfl, rfl⟩)
      | (go_at_call 74; (with_reducible refine (DA.go _).mono ?_); rintro e v1 ⟨rfl, hb⟩; replace HX := Lib.hid (HX.out.below hb); have c0 := HX.out.cell 0; have c1 := HX.out.cell 1; have c2 := HX.out.cell 2; simp at c0 c1 c2; have hlt := HX.out.lt; replace hw := Below.step hw hb; clear hb)
      | (go_at_call 74; (with_reducible refine (DB.go _).mono ?_); rintro e v2 ⟨rfl, hb⟩; replace HX := Lib.hid (HX.out.below hb); have c0 := HX.out.cell 0; have c1 := HX.out.cell 1; have c2 := HX.out.cell 2; simp at c0 c1 c2; have hlt := HX.out.lt; replace hw := Below.step hw hb; clear hb))
    go_ret
    refine ⟨ret_str ?_, hw⟩
    rw [HE.out]
    try apply ByteArray.ext
    all_goals simp
  · have he2 : lineT (.ins o a b) = nm ++ 32 :: (da ++ 32 :: db) := he
    have HE := Lib.hid he2
    clear he he2
    go_enter Tryz.func47, Tryz.ntmps47
    go_wp2_with (first
      | (go_at_call 75; (with_reducible refine (N.go _).mono ?_); rintro e v ⟨rfl, hb⟩; replace HX := Lib.hid (HX.out.below hb); have c0 := HX.out.cell 0; have c1 := HX.out.cell 1; have c2 := HX.out.cell 2; simp at c0 c1 c2; have hlt := HX.out.lt; replace hw := Below.step hw hb; clear hb)
      | (go_at_call 50; (with_reducible refine (RF.go _).mono ?_); rintro e v ⟨rfl, rfl⟩)
      | (go_at_call 74; (with_reducible refine (DA.go _).mono ?_); rintro e v1 ⟨rfl, hb⟩; replace HX := Lib.hid (HX.out.below hb); have c0 := HX.out.cell 0; have c1 := HX.out.cell 1; have c2 := HX.out.cell 2; simp at c0 c1 c2; have hlt := HX.out.lt; replace hw := Below.step hw hb; clear hb)
      | (go_at_call 74; (with_reducible refine (DB.go _).mono ?_); rintro e v2 ⟨rfl, hb⟩; replace HX := Lib.hid (HX.out.below hb); have c0 := HX.out.cell 0; have c1 := HX.out.cell 1; have c2 := HX.out.cell 2; simp at c0 c1 c2; have hlt := HX.out.lt; replace hw := Below.step hw hb; clear hb))
    go_ret
    refine ⟨ret_str ?_, hw⟩
    rw [HE.out]
    try apply ByteArray.ext
    all_goals simp
end Go.Proofs.YtcfdbciooimjmaaGreatDoor

