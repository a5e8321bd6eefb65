/- Layer 2: CrcApart: two texts that go on alike have unlike sums just if they had unlike ones ahead of that. For every three texts. -/
import Derived.Test.YtmmifpippdgidaaCroll
namespace Go.Proofs.Ytmmifpippdgidaa.crcApart
set_option linter.unusedVariables false
set_option linter.unusedSimpArgs false
open Go.ChangeShapes Go.WideShapes Go.ChangeAt Go.RowKit Cm

theorem ret_true {b : Bool} (h : b = true) : Ending.returned (.bool b) = .returned (.bool true) := by rw [h]
theorem roll_apart (a b e : List UInt8) : (rollF 0 a == rollF 0 b) = (rollF 0 (a ++ e) == rollF 0 (b ++ e)) := by
  have ha := rollF_in (sum := 0) (s := a) (by decide) (by decide)
  have hb := rollF_in (sum := 0) (s := b) (by decide) (by decide)
  rw [rollF_append (sum := 0) a e (by decide) (by decide), rollF_append (sum := 0) b e (by decide) (by decide), Bool.eq_iff_iff, beq_iff_eq, beq_iff_eq]
  constructor
  · intro h; rw [h]
  · exact rollF_inj ha.1 ha.2 hb.1 hb.2

set_option maxHeartbeats 1000000 in
set_option maxRecDepth 100000 in
theorem walk (a0 a1 a2 : ByteArray) (w0 : a0.size ≤ maxLen) (w1 : a1.size ≤ maxLen) (w2 : a2.size ≤ maxLen) (w : World) :
    Calls Try.prog 7 #[.string a0, .string a1, .string a2] w fun e w' => e = .returned (.bool true) ∧ Below w.heap.size w w' := by
  have hb : Below w.heap.size w w := Below.refl _ _
  have C1 := fun W => Lib.hid (of_any a0 W w0)
  have C2 := fun W => Lib.hid (of_any a1 W w1)
  unfold maxLen at w0 w1 w2
  by_cases h : a0.size ≤ 200 ∧ a1.size ≤ 200 ∧ a2.size ≤ 200
  · obtain ⟨h0, h1, h2⟩ := h
    have C3 := fun W => Lib.hid (of_any (a0 ++ a2) W (by unfold maxLen; rw [ByteArray.size_append]; omega))
    have C4 := fun W => Lib.hid (of_any (a1 ++ a2) W (by unfold maxLen; rw [ByteArray.size_append]; omega))
    have hr := roll_apart a0.data.toList a1.data.toList a2.data.toList
    have e0 : (a0 ++ a2).data.toList = a0.data.toList ++ a2.data.toList := by simp
    have e1 : (a1 ++ a2).data.toList = a1.data.toList ++ a2.data.toList := by simp
    rw [← e0, ← e1] at hr
    clear e0 e1
    generalize rollF 0 a0.data.toList = x0 at *
    generalize rollF 0 a1.data.toList = x1 at *
    generalize rollF 0 (a0 ++ a2).data.toList = x2 at *
    generalize rollF 0 (a1 ++ a2).data.toList = x3 at *
    have HR := Lib.hid hr; clear hr
    go_enter Try.func7, Try.ntmps7
    go_wp2_with (first
      | (go_at_call 9; refine (fixed_true _).mono ?_; rintro e w1 ⟨rfl, hb1⟩; replace hb := Below.step hb hb1; clear hb1)
      | (go_at_call 10; (first | (with_reducible refine (C1 _).out.mono ?_) | (with_reducible refine (C2 _).out.mono ?_) | (with_reducible refine (C3 _).out.mono ?_) | (with_reducible refine (C4 _).out.mono ?_)); rintro e w1 ⟨rfl, hb1⟩; replace hb := Below.step hb hb1; clear hb1))
    go_ret
    refine ⟨ret_true ?_, hb⟩
    rw [HR.out]; simp
  · have hc : (200 : Int) < a0.size ∨ (a0.size ≤ 200 ∧ (200 : Int) < a1.size) ∨ (a0.size ≤ 200 ∧ a1.size ≤ 200 ∧ (200 : Int) < a2.size) := by omega
    clear h C1 C2
    rcases hc with h | ⟨h, h'⟩ | ⟨h, h', h''⟩
    all_goals
      go_enter Try.func7, Try.ntmps7
      go_wp2_with (go_at_call 9; refine (fixed_true _).mono ?_; rintro e w1 ⟨rfl, hb1⟩; replace hb := Below.step hb hb1; clear hb1)
      go_ret
      exact ⟨rfl, hb⟩
end Go.Proofs.Ytmmifpippdgidaa.crcApart
