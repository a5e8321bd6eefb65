/- Layer 9: the document's end, trap. -/
import Derived.Test.YtoeinpiekfmbgaaGreatDoorzHg
import Derived.Test.YtoeinpiekfmbgaaGreatDoorzHf
namespace Go.Proofs.YtoeinpiekfmbgaaGreatDoor
set_option linter.unusedVariables false
set_option linter.unusedSimpArgs false
open Gm Go.RowKit Go.ChangeShapes Go.WideShapes Go.ChangeAt Go.Sort

abbrev ac0 : Array Value := #[.int .i64 0, .int .i64 0, .int .i64 0, .int .i64 0, .slice none 0 0]
abbrev ac4 : Array Value := #[.int .i64 4, .int .i64 0, .int .i64 0, .int .i64 0, .slice none 0 0]
set_option maxHeartbeats 4000000 in
set_option maxRecDepth 100000 in
theorem r9end_any (f : Frm) (s l o : Value) (t x y : Int) (w : World) (hs : ∃ A n c, s = .slice A n c) (hl : ∃ A n c, l = .slice A n c) (ho : ∃ A n c, o = .slice A n c) :
    Calls Tryz.prog 55 #[fv f s l o, outv t x y] w fun e w' => e = .returned (.tuple #[fv (endF f t (x, y)) s l o, .agg ac4]) ∧ Below w.heap.size w w' := by
  obtain ⟨As, ns, cs, rfl⟩ := hs
  obtain ⟨Al, nl, cl, rfl⟩ := hl
  obtain ⟨Ao, no, co, rfl⟩ := ho
  go_enter Tryz.func55, Tryz.ntmps55
  go_wp2_with fail
  have hF := (Held.new1 (w.alloc (.cells (fcA (endF f t (x, y)) (.slice As ns cs) (.slice Al nl cl) (.slice Ao no co)) 45)) (.cells #[.int .i64 t, .int .i64 x, .int .i64 y] 32) 45 (fcA (endF f t (x, y)) (.slice As ns cs) (.slice Al nl cl) (.slice Ao no co))).alloc (.cells ac4 77)
  have hA := Held.new1 ((w.alloc (.cells (fcA (endF f t (x, y)) (.slice As ns cs) (.slice Al nl cl) (.slice Ao no co)) 45)).alloc (.cells #[.int .i64 t, .int .i64 x, .int .i64 y] 32)) (.cells (fcA (endF f t (x, y)) (.slice As ns cs) (.slice Al nl cl) (.slice Ao no co)) 45) 77 ac4
  have s1 : ∀ q : Obj, (w.alloc q).heap.size = w.heap.size + 1 := fun q => by simp
  have s2 : ∀ q r : Obj, ((w.alloc q).alloc r).heap.size = w.heap.size + 1 + 1 := fun q r => by simp
  rw [s1] at hF
  rw [s2] at hA
  have hb : Below w.heap.size w ((((w.alloc (.cells (fcA (endF f t (x, y)) (.slice As ns cs) (.slice Al nl cl) (.slice Ao no co)) 45)).alloc (.cells #[.int .i64 t, .int .i64 x, .int .i64 y] 32)).alloc (.cells (fcA (endF f t (x, y)) (.slice As ns cs) (.slice Al nl cl) (.slice Ao no co)) 45)).alloc (.cells ac4 77)) := (below2 w _ _).trans ((below2 _ _ _).mono (by rw [s2]; omega))
  have l1 := run_loadVar_row (P := Tryz.prog) _ (w.heap.size + 1 + 1) 45 45 _ (0, 0) _ hF Tryz.underlying45 rfl (by kernel_rfl)
  have l2 := run_loadVar_row (P := Tryz.prog) _ (w.heap.size + 1 + 1 + 1) 77 77 _ (0, 0) _ hA Tryz.underlying77 rfl (by kernel_rfl)
  exact bodyPost_ret (results_two rfl _ _ rfl rfl l1 l2) rfl ⟨rfl, hb⟩
end Go.Proofs.YtoeinpiekfmbgaaGreatDoor

