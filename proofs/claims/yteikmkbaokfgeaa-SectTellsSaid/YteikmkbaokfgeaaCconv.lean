/- The text of one byte. -/
import Derived.WalkKit
import Derived.Laws.IdiomStrings
namespace Go.Proofs.Yteikmkbaokfgeaa
set_option linter.unusedVariables false
set_option linter.unusedSimpArgs false
open Go

/-- 'string([]byte{c})': the text of one byte. -/
theorem wpList_conv_byte {P : Program} {w : World} {ops : Array Oper} {rest : List Oper} {o : Oper} {a : Act} {Q : Exit → Act → World → Prop} (hg : o.guard = none) (src dst e : TypeId) (x : Operand) (ho : o.op = .convert src dst x)
    (hs : P.underlying src = some (.slice e)) (he : P.underlying e = some (.int .u8)) (hd : P.underlying dst = some .string) (t : TypeId) (v : Value) (w0 : World) (hw : w = w0.alloc (.cells #[v] t))
    (g : Nat) (hx : a.eval x = .slice (some ⟨g, 0, none⟩) 1 1) (hsz : w0.heap.size = g) (c : UInt8) (hv : v = .int .u8 (c.toNat : Int)) (h : wpList P ops Q rest (a.put o.dst (.string ⟨#[c]⟩)) w) : wpList P ops Q (o :: rest) a w := by
  subst hw hv hsz
  have hrun := run_convert_bytes_back (P := P) (w0.alloc (.cells #[.int .u8 (c.toNat : Int)] t)) src dst e ⟨w0.heap.size, 0, none⟩ 1 [c] hs he hd (by
    intro j hj
    have : j = 0 := by simpa using hj
    subst this
    simp [Addr.add, go_sem])
  refine wpList_plain hg fun K hK => ?_
  unfold Oper.wp execOp
  simp only [ho, hx, Sem.run_bind]
  simp only [List.length_singleton] at hrun
  rw [hrun]
  exact hK _ _ h
end Go.Proofs.Yteikmkbaokfgeaa
