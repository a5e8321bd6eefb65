/- Layer 4's code: remainders, parts, and values as complex numbers, at every input. -/
import Derived.Test.YthnnmgjehpapiaaDoorRows
import Derived.Test.YthnnmgjehpapiaaDoorKit
import Derived.Test.YthnnmgjehpapiaaDoorGm
import Derived.Test.YthnnmgjehpapiaaDoorFl
import Derived.WalkKit
import Derived.ProofKit
import Derived.WalkLawsBesides
import Derived.Lib.Hide
import Derived.Handy
namespace Go.Proofs.YthnnmgjehpapiaaDoor
set_option linter.unusedVariables false
set_option linter.unusedSimpArgs false
open Go.RowKit Go.ChangeShapes Go.WideShapes Go.ChangeAt Gm Fl

/-- What the language's % leaves. -/
theorem tmod_is (n : Int) : (0 ≤ n ∧ Int.tmod n 251 = n % 251) ∨ (n < 0 ∧ Int.tmod n 251 = -(-n % 251)) := by
  by_cases h : 0 ≤ n
  · exact .inl ⟨h, Int.tmod_eq_emod_of_nonneg h⟩
  · refine .inr ⟨by omega, ?_⟩
    have e : Int.tmod n 251 = -Int.tmod (-n) 251 := by rw [Int.neg_tmod]; omega
    rw [e, Int.tmod_eq_emod_of_nonneg (by omega)]
theorem tmod_neg (n : Int) (h : Int.tmod n 251 < 0) : Int.tmod n 251 + 251 = rs n := by unfold rs; rcases tmod_is n with ⟨h0, e⟩ | ⟨h0, e⟩ <;> omega
theorem tmod_pos (n : Int) (h : 0 ≤ Int.tmod n 251) : Int.tmod n 251 = rs n := by unfold rs; rcases tmod_is n with ⟨h0, e⟩ | ⟨h0, e⟩ <;> omega
theorem tmod_bd (n : Int) : -251 < Int.tmod n 251 ∧ Int.tmod n 251 < 251 := by rcases tmod_is n with ⟨h0, e⟩ | ⟨h0, e⟩ <;> omega

set_option maxHeartbeats 400000 in
theorem remainder_any (n : Int) (w : World) : Calls Tryd.prog 36 #[.int .i64 n] w fun e w' => e = .returned (.int .i64 (rs n)) ∧ w = w' := by
  have hbd := tmod_bd n
  by_cases h : Int.tmod n 251 < 0
  · have H1 := Lib.hid (tmod_neg n h)
    go_enter Tryd.func36, Tryd.ntmps36
    go_wp2_with fail
    go_ret
    exact ⟨ret_int H1.out, rfl⟩
  · have h' : 0 ≤ Int.tmod n 251 := by omega
    have H1 := Lib.hid (tmod_pos n h')
    go_enter Tryd.func36, Tryd.ntmps36
    go_wp2_with fail
    go_ret
    exact ⟨ret_int H1.out, rfl⟩
theorem remainder_in {n : Int} (h0 : 0 ≤ n) (h1 : n < 251) (w : World) : Calls Tryd.prog 36 #[.int .i64 n] w fun e w' => e = .returned (.int .i64 n) ∧ w = w' := by
  have := remainder_any n w
  rwa [rs_in h0 h1] at this

/-- A value laid over another one, in a block of its own. -/
theorem set2 {v : World} {g : Nat} {a b x y : Value} {t : TypeId} (hx : v.heap[g]? = some (.cells #[a, b] t (0, 0))) : ((v.setCell ⟨g, 0, none⟩ x).setCell ⟨g, 1, none⟩ y).heap[g]? = some (.cells #[x, y] t (0, 0)) := by
  simp [World.setCell, Array.getElem?_modify, hx]

/-- What Of makes: a value of its own, its parts reduced. -/
theorem gof_any (a b : Int) (w : World) : Calls Tryd.prog 27 #[.int .i64 a, .int .i64 b] w fun e w' => e = .returned (.agg #[.int .i64 (rs a), .int .i64 (rs b)]) ∧ Below w.heap.size w w' := by
  have C := fun n W => Lib.hid (remainder_any n W)
  go_enter Tryd.func27, Tryd.ntmps27
  go_wp2_with (go_at_call 36; refine (C _ _).out.mono ?_; rintro e v ⟨rfl, rfl⟩)
  exact bodyPost_ret (v := .agg #[.int .i64 (rs a), .int .i64 (rs b)]) (by simp [results, Tryd.results27, go_sem]) rfl ⟨rfl, (Below.refl _ _).alloc (Nat.le_refl _) _⟩

set_option maxHeartbeats 400000 in
theorem number_any (a b : Int) (w : World) : Calls Tryd.prog 29 #[.agg #[.int .i64 a, .int .i64 b]] w fun e w' => e = .returned (.complex .f64 (fw (rs a)) (fw (rs b))) ∧ Below w.heap.size w w' := by
  have C := fun n m W => Lib.hid (gof_any n m W)
  have ra := rs_bd a
  have rb := rs_bd b
  have e1 : floatOfInt .f64 (rs a) = fw (rs a) := of_int (by omega)
  have e2 : floatOfInt .f64 (rs b) = fw (rs b) := of_int (by omega)
  go_enter Tryd.func29, Tryd.ntmps29
  go_wp2_with (go_at_call 27; refine (C _ _ _).out.mono ?_; rintro e v ⟨rfl, hb⟩; obtain ⟨hx, hw⟩ := one_laid (by simp) hb; have c0 := cell_at hx 0; have c1 := cell_at hx 1; have f0 := fz_at hx 0; have f1 := fz_at hx 1; have hz : w.heap.size < v.heap.size := by have := hb.size; simp at this; omega)
  go_ret
  exact ⟨rfl, (hw.setCell (by simp) _).setCell (by simp) _⟩
set_option maxHeartbeats 400000 in
theorem value_any {x y : Int} (f g : Nat) (h1 : floatToIntVal .f64 f .i64 = some x) (h2 : floatToIntVal .f64 g .i64 = some y) (w : World) : Calls Tryd.prog 32 #[.complex .f64 f g] w fun e w' => e = .returned (.agg #[.int .i64 (rs x), .int .i64 (rs y)]) ∧ Below w.heap.size w w' := by
  have C := fun n m W => Lib.hid (gof_any n m W)
  have k1 : ∀ w, (convert 41 3 (.float .f64 f)).run Tryd.prog w = .ok (.int .i64 x) w := fun w => run_convert_float_int w _ _ _ _ _ _ (by kernel_rfl) Tryd.underlying3 h1
  have k2 : ∀ w, (convert 41 3 (.float .f64 g)).run Tryd.prog w = .ok (.int .i64 y) w := fun w => run_convert_float_int w _ _ _ _ _ _ (by kernel_rfl) Tryd.underlying3 h2
  clear h1 h2
  go_enter Tryd.func32, Tryd.ntmps32
  go_wp2_with (go_at_call 27; refine (C _ _ _).out.mono ?_; rintro e v ⟨rfl, hb⟩; obtain ⟨hx, hw⟩ := one_laid (by simp) hb; have c0 := cell_at hx 0; have c1 := cell_at hx 1; have f0 := fz_at hx 0; have f1 := fz_at hx 1; have hz : w.heap.size < v.heap.size := by have := hb.size; simp at this; omega)
  have hx2 := set2 (x := .int .i64 (rs x)) (y := .int .i64 (rs y)) hx
  have hw2 : Below w.heap.size w ((v.setCell ⟨w.heap.size, 0, none⟩ (.int .i64 (rs x))).setCell ⟨w.heap.size, 1, none⟩ (.int .i64 (rs y))) := (hw.setCell (by simp) _).setCell (by simp) _
  generalize (v.setCell _ _).setCell _ _ = W2 at hx2 hw2 ⊢
  have d0 := cell_at hx2 0
  have d1 := cell_at hx2 1
  exact bodyPost_ret (v := .agg #[.int .i64 (rs x), .int .i64 (rs y)]) (by simp [results, Tryd.results32, go_sem, d0, d1]) rfl ⟨rfl, hw2⟩
end Go.Proofs.YthnnmgjehpapiaaDoor
