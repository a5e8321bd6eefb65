/- The plain mathematics of layer 4: Gaussian integers modulo 251. -/
import Derived.WalkKit
namespace Go.Proofs.YtjibkgildfjjoaaDoor.Gm
set_option linter.unusedVariables false
set_option linter.unusedSimpArgs false

abbrev V := Int × Int
def rs (n : Int) : Int := n % 251
def gOf (x : V) : V := (rs x.1, rs x.2)
def gAdd (a b : V) : V := gOf (rs a.1 + rs b.1, rs a.2 + rs b.2)
def gMul (a b : V) : V := gOf (rs a.1 * rs b.1 - rs a.2 * rs b.2, rs a.1 * rs b.2 + rs a.2 * rs b.1)
def gMay (a : V) : Prop := 0 ≤ a.1 ∧ a.1 < 251 ∧ 0 ≤ a.2 ∧ a.2 < 251
theorem rs_rs (n : Int) : rs (rs n) = rs n := by unfold rs; omega
theorem rs_mul (a b : Int) : rs (rs a * rs b) = rs (a * b) := by unfold rs; rw [← Int.mul_emod]
theorem rs_add (a b : Int) : rs (rs a + rs b) = rs (a + b) := by unfold rs; omega
theorem rs_sub (a b : Int) : rs (rs a - rs b) = rs (a - b) := by unfold rs; omega
theorem mul_def (a b : V) : gMul a b = gOf (a.1 * b.1 - a.2 * b.2, a.1 * b.2 + a.2 * b.1) := by
  unfold gMul gOf
  refine Prod.ext ?_ ?_
  · show rs (rs a.1 * rs b.1 - rs a.2 * rs b.2) = rs (a.1 * b.1 - a.2 * b.2)
    rw [← rs_sub, rs_mul, rs_mul, rs_sub]
  · show rs (rs a.1 * rs b.2 + rs a.2 * rs b.1) = rs (a.1 * b.2 + a.2 * b.1)
    rw [← rs_add, rs_mul, rs_mul, rs_add]
theorem add_def (a b : V) : gAdd a b = gOf (a.1 + b.1, a.2 + b.2) := Prod.ext (rs_add _ _) (rs_add _ _)
theorem add_ofl (a b : V) : gAdd (gOf a) b = gAdd a b := by simp [gAdd, gOf, rs_rs]
theorem add_ofr (a b : V) : gAdd a (gOf b) = gAdd a b := by simp [gAdd, gOf, rs_rs]
theorem add_comm (a b : V) : gAdd a b = gAdd b a := by rw [add_def, add_def]; congr 2 <;> grind
theorem mul_comm (a b : V) : gMul a b = gMul b a := by rw [mul_def, mul_def]; congr 2 <;> grind
theorem add_assoc (a b c : V) : gAdd (gAdd a b) c = gAdd a (gAdd b c) := by
  rw [add_def a b, add_ofl, add_def b c, add_ofr, add_def, add_def]; congr 2 <;> grind
theorem zero_mul (a : V) : gMul (0, 0) a = (0, 0) := by rw [mul_def]; simp [gOf, rs]
/-- Whether a value may be. -/
def mayB (a b : Int) : Bool := decide (0 ≤ a) && decide (a < 251) && (decide (0 ≤ b) && decide (b < 251))
end Go.Proofs.YtjibkgildfjjoaaDoor.Gm

