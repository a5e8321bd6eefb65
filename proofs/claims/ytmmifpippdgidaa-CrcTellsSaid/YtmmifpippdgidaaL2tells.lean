/- Layer 2: CrcTells: the sum of any text, from any sum on, is as the document says. For every text and every number. -/
import Derived.Test.YtmmifpippdgidaaCref
namespace Go.Proofs.Ytmmifpippdgidaa.crcTells
set_option linter.unusedVariables false
set_option linter.unusedSimpArgs false
open Go.ChangeShapes Go.WideShapes Go.ChangeAt Go.RowKit Cm

set_option maxHeartbeats 1000000 in
set_option maxRecDepth 100000 in
theorem walk (a0 : ByteArray) (a1 : Int) (w0 : a0.size ≤ maxLen) (_w1 : (Lit.int .i64 a1).wf = true) (w : World) :
    Calls Try.prog 3 #[.string a0, .int .i64 a1] w fun e w' => e = .returned (.bool true) ∧ Below w.heap.size w w' := by
  have hb : Below w.heap.size w w := Below.refl _ _
  have C1 := fun W => Lib.hid (of_any a0 W w0)
  have C2 := fun W => Lib.hid (roll_any a1 a0 W w0)
  have C3 := fun W => Lib.hid (rof_any a0 W w0)
  have C4 := fun W => Lib.hid (rroll_any a1 a0 W w0)
  unfold maxLen at w0
  by_cases h : (500 : Int) < a0.size
  all_goals
    go_enter Try.func3, Try.ntmps3
    go_wp2_with (first
      | (go_at_call 9; refine (fixed_true _).mono ?_; rintro e w1 ⟨rfl, hb1⟩; replace hb := Below.step hb hb1; clear hb1)
      | (go_at_call 10; refine (C1 _).out.mono ?_; rintro e w1 ⟨rfl, hb1⟩; replace hb := Below.step hb hb1; clear hb1)
      | (go_at_call 12; refine (C2 _).out.mono ?_; rintro e w1 ⟨rfl, hb1⟩; replace hb := Below.step hb hb1; clear hb1)
      | (go_at_call 11; refine (C3 _).out.mono ?_; rintro e w1 ⟨rfl, rfl⟩)
      | (go_at_call 13; refine (C4 _).out.mono ?_; rintro e w1 ⟨rfl, rfl⟩))
    go_ret
    exact ⟨rfl, hb⟩
end Go.Proofs.Ytmmifpippdgidaa.crcTells
