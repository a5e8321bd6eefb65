/- Layer 13: the document's New. -/
import Derived.Test.YtjibkgildfjjoaaDoorzYr
import Derived.Test.YtjibkgildfjjoaaDoorzCd
import Derived.Test.YtjibkgildfjjoaaDoorzYth
import Derived.Test.YtjibkgildfjjoaaDoorzYti
import Derived.Test.YtjibkgildfjjoaaDoorzYl
namespace Go.Proofs.YtjibkgildfjjoaaDoor
set_option linter.unusedVariables false
set_option linter.unusedSimpArgs false
open Gm Go.RowKit Go.ChangeShapes Go.WideShapes Go.ChangeAt Go.Sort

theorem frm_ds {w : World} {B : Nat} {v : Value} {f : Frm} (h : FrmAt w B v f) : ∃ ds : Array Value, v = .agg ds ∧ ds.size = 16 ∧ ds.all (·.oneCell') = true ∧ FrmAt w B (.agg ds) f := by
  obtain ⟨A1, c1, A2, c2, A3, c3, rfl, h1, h2, h3⟩ := h
  exact ⟨_, rfl, rfl, by simp [Value.oneCell'], A1, c1, A2, c2, A3, c3, rfl, h1, h2, h3⟩
theorem load_wld {w : World} {g : Nat} {cs : Array Value} (h : Held w g 40 cs) (hs : cs.size = 19) : (loadVar 40 ⟨g, 0, none⟩).run Tryd.prog w = .ok (.agg cs) w :=
  run_loadVar_row (P := Tryd.prog) _ g 40 40 _ (0, 0) _ h Tryd.underlying40 rfl (by rw [hs]; kernel_rfl)
/-- What New tells: a world that can be read. -/
def WorldQ (w : World) (R : Wld × Int) (e : Ending) (w' : World) : Prop := ∃ a : WA, e = .returned (.tuple #[.agg (wcs a R.1), .int .i64 R.2]) ∧ WAt w' w'.heap.size a R.1 ∧ Below w.heap.size w w'
abbrev wa0 : WA := ⟨none, 0, none, 0, none, 0, none, 0, none, 0⟩
theorem wat0 (w : World) (B : Nat) (a : WA) : WAt w B a wld0 := ⟨ProgAt.nil _ _ _, ⟨CAt.nil _ _ _, IAt.nil _ _ _⟩, GAt.nil _ _ _, PAt.nil _ _ _⟩
theorem lay_first {lm : Int} (h1 : 1 ≤ lm) (h2 : lm ≤ 1024) (f : Frm) : layZ ⟨[], [], lm⟩ f = (⟨[⟨0, true, f⟩], [], lm⟩, (0, 0), 0) := by
  have hok : okZ ⟨[], [], lm⟩ = true := (okZ_iff _).2 ⟨⟨h1, h2, by simp; omega⟩, by simp, by simp, fun i h => absurd h (by simp), fun i h => absurd h (by simp)⟩
  unfold layZ
  rw [if_neg (by rw [hok]; decide), if_pos rfl, if_neg (by simp; omega)]
  simp
theorem new_first (lm : Int) : newZ lm = if 1 ≤ lm ∧ lm ≤ 1024 then (⟨[], [], lm⟩, true) else (zp0, false) := rfl
end Go.Proofs.YtjibkgildfjjoaaDoor

