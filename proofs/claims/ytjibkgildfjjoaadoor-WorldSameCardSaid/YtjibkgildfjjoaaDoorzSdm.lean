/- The plain mathematics of layer 5: seeds. -/
import Derived.WalkKit
import Derived.Laws.FloatArith
import Derived.Laws.ComplexArith
import Derived.ScopeJumps
namespace Go.Proofs.YtjibkgildfjjoaaDoor.Sdm
set_option linter.unusedVariables false
set_option linter.unusedSimpArgs false

def mulF (a m : Nat) : Nat := a * m % 4294967296
end Go.Proofs.YtjibkgildfjjoaaDoor.Sdm

/- The plain mathematics of floats that are whole numbers: binary64 words of whole numbers below 2^53: sums, differences, products of them are exact. -/
namespace Go.Proofs.YtjibkgildfjjoaaDoor.Fl
set_option linter.unusedVariables false
set_option linter.unusedSimpArgs false
open Ieee

end Go.Proofs.YtjibkgildfjjoaaDoor.Fl

/- The plain mathematics of layer 1: what a varint's bytes are, what is read of bytes. -/
namespace Go.Proofs.YtjibkgildfjjoaaDoor
set_option linter.unusedVariables false
set_option linter.unusedSimpArgs false
open Go

/-- A scope with one label that is jumped back to: what holds at the label is shown once. -/
theorem wp_scope_once {P : Program} {a : Act} {w : World} {Q : Exit → Act → World → Prop} {c rest : Code} (l : Nat) (J : Act → World → Prop) (μ : Act → World → Nat) (hf : findLabel c l = some (.seq .skip rest))
    (pass : ∀ a w, J a w → rest.wp P (Exit.jump l (fun a' w' => J a' w' ∧ μ a' w' < μ a w) Q) a w)
    (first : (∀ a w, J a w → rest.wp P (Exit.jump l J Q) a w) → c.wp P (Exit.jump l J Q) a w) : (Code.scope c).wp P Q a w :=
  wp_scope_jumps l J μ hf (first fun a w h => wp_mono (pass a w h) fun e a' w' hq => by
    cases e with
    | goto l' => exact ⟨hq.1, hq.2.1⟩
    | normal => exact hq
    | exit id => exact hq
    | ret => exact hq
    | panic ch => exact hq
    | outgrown => exact hq) fun a w h => wp_seq (wp_skip (pass a w h))

end Go.Proofs.YtjibkgildfjjoaaDoor

