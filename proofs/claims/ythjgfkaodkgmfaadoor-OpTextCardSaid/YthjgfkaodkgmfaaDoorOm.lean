/- Layer 6's code: whether an instruction may be, at every input. -/
import Derived.Test.YthjgfkaodkgmfaaDoorOp
namespace Go.Proofs.YthjgfkaodkgmfaaDoor
set_option linter.unusedVariables false
set_option linter.unusedSimpArgs false
open Go.RowKit Go.ChangeShapes Go.WideShapes Go.ChangeAt Go.Sort

/-- An instruction. -/
abbrev iv (o a b : Int) : Value := .agg #[.int .i64 o, .int .i64 a, .int .i64 b]
/-- Whether it may be. -/
def mayZ (o a b : Int) : Bool := okZ o && (decide ((rz o).lo ≤ a) && decide (a ≤ (rz o).la)) && (decide (0 ≤ b) && decide (b ≤ (rz o).lb))

set_option maxHeartbeats 1000000 in
set_option maxRecDepth 100000 in
theorem may_any (o a b : Int) (w : World) (hT : Otab w) : Calls Tryd.prog 18 #[iv o a b] w fun e w' => e = .returned (.bool (mayZ o a b)) ∧ Below w.heap.size w w' := by
  have hr : rz o = ⟨(rz o).nm, (rz o).f, (rz o).p, (rz o).q, (rz o).lo, (rz o).la, (rz o).lb⟩ := rfl
  have C := fun W h => Lib.hid (numbered_any o _ _ _ _ _ _ _ hr W h)
  have hm : mayZ o a b = (okZ o && (decide ((rz o).lo ≤ a) && decide (a ≤ (rz o).la)) && (decide (0 ≤ b) && decide (b ≤ (rz o).lb))) := rfl
  generalize mayZ o a b = m at *
  clear hr
  generalize (rz o).nm = nm at *
  generalize (rz o).f = f at *
  generalize (rz o).p = p at *
  generalize (rz o).q = q at *
  generalize (rz o).lo = lo at *
  generalize (rz o).la = la at *
  generalize (rz o).lb = lb at *
  generalize okZ o = k at *
  have C1 := cs_within (n := a) (a := lo) (b := la) rfl
  have C2 := cs_within (n := b) (a := 0) (b := lb) rfl
  generalize (decide (lo ≤ a) && decide (a ≤ la)) = x at *
  generalize (decide (0 ≤ b) && decide (b ≤ lb)) = y at *
  subst hm
  have hT2 := fun o => Lib.hid (hT.below ((Below.refl _ w).alloc (Nat.le_refl _) o))
  clear hT
  cases k <;> cases x <;> cases y
  all_goals
    go_enter Tryd.func18, Tryd.ntmps18
    go_wp2_with (first
      | (go_at_call 23; (with_reducible refine (C _ (hT2 _).out).out.mono ?_); rintro e v ⟨rfl, hb⟩; have hx := (Held.new w 23 #[.int .i64 o, .int .i64 a, .int .i64 b]).below hb; have c0 := hx.cell 0; have c1 := hx.cell 1; have c2 := hx.cell 2; simp at c0 c1 c2; have hlt := hx.lt; replace hb := below_laid hb; have hsz := hb.size)
      | (go_at_call 24; (with_reducible refine (C1.go _).mono ?_); rintro e v ⟨rfl, rfl⟩)
      | (go_at_call 24; (with_reducible refine (C2.go _).mono ?_); rintro e v ⟨rfl, rfl⟩))
    go_ret
    exact ⟨rfl, by go_grown⟩
end Go.Proofs.YthjgfkaodkgmfaaDoor
