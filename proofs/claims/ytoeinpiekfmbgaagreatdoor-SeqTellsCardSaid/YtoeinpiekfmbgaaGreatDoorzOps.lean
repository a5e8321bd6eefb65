/- Layer 6's code: op.Stack. -/
import Derived.Test.YtoeinpiekfmbgaaGreatDoorzGd
namespace Go.Proofs.YtoeinpiekfmbgaaGreatDoor
set_option linter.unusedVariables false
set_option linter.unusedSimpArgs false
open Go.RowKit Go.ChangeShapes Go.WideShapes Go.ChangeAt Go.Sort

set_option maxHeartbeats 1000000 in
set_option maxRecDepth 100000 in
theorem stack_any (n : Int) (w : World) (hT : Otab w) : Calls Tryz.prog 101 #[.int .i64 n] w fun e w' => e = .returned (.tuple #[.int .i64 (rz n).p, .int .i64 (rz n).q]) ∧ Below w.heap.size w w' := by
  have hr : rz n = ⟨(rz n).nm, (rz n).f, (rz n).p, (rz n).q, (rz n).lo, (rz n).la, (rz n).lb⟩ := rfl
  have C := fun W h => Lib.hid (numbered_any n _ _ _ _ _ _ _ hr W h)
  clear hr
  generalize (rz n).nm = nm at *
  generalize (rz n).f = f at *
  generalize (rz n).p = p at *
  generalize (rz n).q = q at *
  generalize (rz n).lo = lo at *
  generalize (rz n).la = la at *
  generalize (rz n).lb = lb at *
  go_enter Tryz.func101, Tryz.ntmps101
  go_wp2_with (go_at_call 86; (with_reducible refine (C _ hT).out.mono ?_); rintro e v ⟨rfl, hb⟩; have hsz := hb.size)
  go_region
  all_goals (try go_wp2)
  all_goals go_ret2
  all_goals exact ⟨rfl, by go_grown⟩
end Go.Proofs.YtoeinpiekfmbgaaGreatDoor

