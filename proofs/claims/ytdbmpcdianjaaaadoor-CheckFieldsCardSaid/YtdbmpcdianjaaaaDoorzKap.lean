/- Layer 7, plain: what a line more makes of a program. -/
import Derived.Test.YtdbmpcdianjaaaaDoorzGb
namespace Go.Proofs.YtdbmpcdianjaaaaDoor
set_option linter.unusedVariables false
set_option linter.unusedSimpArgs false
open Go

/-- What a line more makes of a program. -/
def addQ (p : List Fun) (l : List UInt8) : Option (List Fun) := (lineOf l).bind (layL p)
theorem addQ_of {p : List Fun} {l : List UInt8} {x : List UInt8 × List Int} (h : wordsC l = some x) : addQ p l = (lineC x).bind (layL p) := by
  unfold addQ
  rw [line_words, h]
  rfl
theorem lineC_head {w0 : List UInt8} {ns : List Int} (hw : w0 = funcW) : lineC (w0, ns) = if ns.length = 3 ∧ headB (ns.getD 0 0) (ns.getD 1 0) (ns.getD 2 0) = true then some (.head (ns.getD 0 0) (ns.getD 1 0) (ns.getD 2 0)) else none := by
  unfold lineC
  simp only
  rw [if_pos hw]
theorem lineC_ins {w0 : List UInt8} {ns : List Int} (hw : w0 ≠ funcW) : lineC (w0, ns) = if mayZ (rfnd ⟨w0.toArray⟩) (ns.getD 0 0) (ns.getD 1 0) = true ∧ (ns.length : Int) = (rz (rfnd ⟨w0.toArray⟩)).f then some (.ins (rfnd ⟨w0.toArray⟩) (ns.getD 0 0) (ns.getD 1 0)) else none := by
  unfold lineC
  simp only
  rw [if_neg hw]
/-- A program is nothing, or has a last function. -/
theorem own_split {α : Type} (L : List α) : L = [] ∨ ∃ L0 x, L = L0 ++ [x] := by
  rcases List.eq_nil_or_concat L with h | ⟨L0, x, h⟩
  · exact .inl h
  · exact .inr ⟨L0, x, by simpa using h⟩
theorem layH_no {p : List Fun} {a l s : Int} (h : openR p = false ∨ p.length = 16) : layH p a l s = none := by
  unfold layH
  rw [if_neg]
  rintro ⟨h1, h2⟩
  rcases h with h | h
  · rw [h] at h1; cases h1
  · exact h2 h
theorem openR_snoc (p : List Fun) (f : Fun) : openR (p ++ [f]) = !f.code.isEmpty := by
  unfold openR
  rw [List.getLast?_concat]
theorem layI_snoc (p : List Fun) (f : Fun) (o a b : Int) : layI (p ++ [f]) o a b = if f.code.length = 200 then none else some (p ++ [⟨f.ar, f.lo, f.sl, f.code ++ [(o, a, b)]⟩]) := by
  unfold layI
  rw [List.getLast?_concat, List.dropLast_concat]

theorem lay_small {p q : List Fun} {x : PLine} (h : layL p x = some q) (hp : p.length ≤ 16) (hc : ∀ f ∈ p, f.code.length ≤ 200) : q.length ≤ 16 ∧ ∀ f ∈ q, f.code.length ≤ 200 := by
  cases x with
  | head a l s =>
    have h' : layH p a l s = some q := h
    unfold layH at h'
    split at h'
    · rename_i hcnd
      cases h'
      refine ⟨by rw [List.length_append, List.length_singleton]; omega, fun f hf => ?_⟩
      rcases List.mem_append.1 hf with hf | hf
      · exact hc f hf
      · simp only [List.mem_singleton] at hf
        subst hf
        simp
    · cases h'
  | ins o a b =>
    have h' : layI p o a b = some q := h
    rcases own_split p with rfl | ⟨p0, f, rfl⟩
    · cases h'
    · rw [layI_snoc] at h'
      split at h'
      · cases h'
      · rename_i h2
        cases h'
        have hf2 := hc f (by simp)
        refine ⟨by simpa using hp, fun g hg => ?_⟩
        rcases List.mem_append.1 hg with hg | hg
        · exact hc g (by simp [hg])
        · simp only [List.mem_singleton] at hg
          subst hg
          simp only [List.length_append, List.length_singleton]
          omega
theorem addQ_small {p q : List Fun} {l : List UInt8} (h : addQ p l = some q) (hp : p.length ≤ 16) (hc : ∀ f ∈ p, f.code.length ≤ 200) : q.length ≤ 16 ∧ ∀ f ∈ q, f.code.length ≤ 200 := by
  unfold addQ at h
  cases hx : lineOf l with
  | none => rw [hx] at h; cases h
  | some x => rw [hx] at h; exact lay_small h hp hc
end Go.Proofs.YtdbmpcdianjaaaaDoor

