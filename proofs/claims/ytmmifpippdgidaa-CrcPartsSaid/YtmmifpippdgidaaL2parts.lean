/- Layer 2: CrcParts: the sum of two texts, one behind the other, is that of the second one rolled on from that of the first one; each sum is one of 32 bits; no text changes nothing. For every pair of texts and every number. -/
import Derived.Test.YtmmifpippdgidaaCroll
namespace Go.Proofs.Ytmmifpippdgidaa.crcParts
set_option linter.unusedVariables false
set_option linter.unusedSimpArgs false
open Go.ChangeShapes Go.WideShapes Go.ChangeAt Go.RowKit Cm

set_option maxHeartbeats 1000000 in
set_option maxRecDepth 100000 in
theorem walk (a0 a1 : ByteArray) (a2 : Int) (w0 : a0.size ≤ maxLen) (w1 : a1.size ≤ maxLen) (_w2 : (Lit.int .i64 a2).wf = true) (w : World) :
    Calls Try.prog 4 #[.string a0, .string a1, .int .i64 a2] w fun e w' => e = .returned (.bool true) ∧ Below w.heap.size w w' := by
  have hb : Below w.heap.size w w := Below.refl _ _
  by_cases h : a0.size ≤ 500 ∧ a1.size ≤ 500 ∧ 0 ≤ a2 ∧ a2 ≤ 4294967295
  · obtain ⟨h0, h1, h2, h3⟩ := h
    have C1 := fun W => Lib.hid (roll_any a2 a0 W w0)
    have C2 := fun W => Lib.hid (of_any a0 W w0)
    have hs : (a0 ++ a1).size ≤ maxLen := by unfold maxLen; rw [ByteArray.size_append]; omega
    have e0 : (a0 ++ a1).data.toList = a0.data.toList ++ a1.data.toList := by simp
    have C3 := fun W => Lib.hid (roll_any a2 (a0 ++ a1) W hs)
    have C4 := fun W => Lib.hid (of_any (a0 ++ a1) W hs)
    obtain ⟨x1, x2⟩ := rollF_in (s := a0.data.toList) h2 h3
    have C5 := fun W => Lib.hid (roll_lit (rollF a2 a0.data.toList) a1 (rollF a2 (a0 ++ a1).data.toList) W w1 (by rw [e0, rollF_append _ _ h2 h3]))
    have C6 := fun W => Lib.hid (roll_lit (rollF a2 a0.data.toList) ⟨#[]⟩ (rollF a2 a0.data.toList) W (by decide) (rollF_nil x1 x2))
    have C7 := fun W => Lib.hid (roll_lit (rollF 0 a0.data.toList) a1 (rollF 0 (a0 ++ a1).data.toList) W w1 (by rw [e0, rollF_append _ _ (by decide) (by decide)]))
    clear e0
    generalize rollF a2 a0.data.toList = x at *
    generalize rollF 0 a0.data.toList = y at *
    generalize rollF a2 (a0 ++ a1).data.toList = z at *
    generalize rollF 0 (a0 ++ a1).data.toList = u at *
    have d2 : decide (a2 < 0) = false := by simp; omega
    have d3 : decide (4294967295 < a2) = false := by simp; omega
    have x3 : x < 4294967296 := by omega
    unfold maxLen at w0 w1
    clear hs x2
    go_enter Try.func4, Try.ntmps4
    go_wp2_with (first
      | (go_at_call 9; refine (fixed_true _).mono ?_; rintro e v ⟨rfl, hb1⟩; replace hb := Below.step hb hb1; clear hb1)
      | (go_at_call 12; (first | (with_reducible refine (C1 _).out.mono ?_) | (with_reducible refine (C3 _).out.mono ?_) | (with_reducible refine (C5 _).out.mono ?_) | (with_reducible refine (C6 _).out.mono ?_) | (with_reducible refine (C7 _).out.mono ?_)); rintro e v ⟨rfl, hb1⟩; replace hb := Below.step hb hb1; clear hb1)
      | (go_at_call 10; (first | (with_reducible refine (C2 _).out.mono ?_) | (with_reducible refine (C4 _).out.mono ?_)); rintro e v ⟨rfl, hb1⟩; replace hb := Below.step hb hb1; clear hb1))
    go_ret
    exact ⟨rfl, hb⟩
  · have hc : (500 : Int) < a0.size ∨ (a0.size ≤ 500 ∧ (500 : Int) < a1.size) ∨ (a0.size ≤ 500 ∧ a1.size ≤ 500 ∧ a2 < 0) ∨ (a0.size ≤ 500 ∧ a1.size ≤ 500 ∧ 4294967295 < a2) := by omega
    unfold maxLen at w0 w1
    clear h
    rcases hc with h | ⟨h, h'⟩ | ⟨h, h', h''⟩ | ⟨h, h', h''⟩
    all_goals
      go_enter Try.func4, Try.ntmps4
      go_wp2_with (go_at_call 9; refine (fixed_true _).mono ?_; rintro e v ⟨rfl, hb1⟩; replace hb := Below.step hb hb1; clear hb1)
      go_ret
      exact ⟨rfl, hb⟩
end Go.Proofs.Ytmmifpippdgidaa.crcParts
