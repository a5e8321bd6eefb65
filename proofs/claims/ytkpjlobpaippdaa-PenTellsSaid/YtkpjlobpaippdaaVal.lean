/- Values of two ints: arguments opened, comparisons, parts. -/
import Derived.Test.YtkpjlobpaippdaaRows
import Derived.Test.YtkpjlobpaippdaaHd
import Derived.OpenShut
import Derived.Lib.SmallJoins
namespace Go.Proofs.Ytkpjlobpaippdaa
set_option linter.unusedVariables false
set_option linter.unusedSimpArgs false
open Go.ChangeShapes Go.WideShapes Go.ChangeAt Go.RowKit Go.Joins

set_option maxRecDepth 100000 in
theorem open_val {H : Type} {enc : TypeId × Value → H} {W : World} {base : Nat} {v : Value} {d : DataW H} {p : List MemPlace}
    (k : Value.okWide Try.prog W .any base 31 v) (h : DataW.Trod enc Try.prog W 0 (fun _ => true) true 31 v d p) :
    ∃ x y : Int, v = gv x y ∧ (Lit.int .i64 x).wf = true ∧ (Lit.int .i64 y).wf = true := by
  obtain ⟨v0, v1, y0, y1, n, rfl, _, _, h0, h1⟩ := open_agg2 Try.underlying31 (by kernel_rfl) (by kernel_rfl) k h
  obtain ⟨x, e0, _, w0⟩ := DataW.trod_int Try.underlying3 h0
  obtain ⟨y, e1, _, w1⟩ := DataW.trod_int Try.underlying3 h1
  simp at e0 e1
  subst e0 e1
  exact ⟨x, y, rfl, w0, w1⟩
theorem wf_bd {n : Int} (h : (Lit.int .i64 n).wf = true) : -9223372036854775808 ≤ n ∧ n ≤ 9223372036854775807 := by simpa [Lit.wf, IntKind.min, IntKind.max, IntKind.signed, IntKind.bits] using h

theorem eqv_run (a b c d : Int) (W : World) : (binOp .eql 31 (gv a b) (gv c d)).run Try.prog W = .ok (.bool (decide ((a, b) = (c, d)))) W := by
  by_cases h1 : a = c <;> by_cases h2 : b = d <;> simp [go_sem, h1, h2]
theorem neqv_run (a b c d : Int) (W : World) : (binOp .neq 31 (gv a b) (gv c d)).run Try.prog W = .ok (.bool (decide ((a, b) ≠ (c, d)))) W := by
  by_cases h1 : a = c <;> by_cases h2 : b = d <;> simp [go_sem, h1, h2]
theorem field0 (x y : Int) (W : World) : (Instr.field 31 (gv x y) 0).run Try.prog W = .ok (.int .i64 x) W := by
  simp [Instr.field, go_sem, asAgg]
theorem field1 (x y : Int) (W : World) : (Instr.field 31 (gv x y) 1).run Try.prog W = .ok (.int .i64 y) W := by
  simp [Instr.field, go_sem, asAgg]
end Go.Proofs.Ytkpjlobpaippdaa
