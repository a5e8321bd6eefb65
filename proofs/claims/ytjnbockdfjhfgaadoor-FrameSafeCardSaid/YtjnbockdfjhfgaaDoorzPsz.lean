/- Programs that may be have sizes. -/
import Derived.Test.YtjnbockdfjhfgaaDoorzGh
namespace Go.Proofs.YtjnbockdfjhfgaaDoor
set_option linter.unusedVariables false
set_option linter.unusedSimpArgs false
open Go.RowKit Go.ChangeShapes Go.WideShapes Go.ChangeAt Go.Sort

theorem may_sized {p : List Fun} (h : mayP p = true) : SizedP p := by
  obtain ⟨_, h2, h3⟩ := (mayP_iff p).1 h
  refine ⟨by unfold maxLen; omega, fun f hf => ?_⟩
  have := h3 f hf
  unfold mayF at this
  simp only [Bool.and_eq_true, decide_eq_true_eq] at this
  unfold maxLen
  omega
theorem nil_sized : SizedP [] := ⟨by simp, fun f hf => by simp at hf⟩
theorem parse_sized (l : List UInt8) : SizedP (parseP l).1 := by
  by_cases h : (parseP l).2.2 = 0
  · exact may_sized (text_parse h).1
  · rw [(parse_none h).1]
    exact nil_sized
end Go.Proofs.YtjnbockdfjhfgaaDoor

