/- Layer 12: Get. -/
import Derived.Test.YtjibkgildfjjoaaDoorzYc
import Derived.Test.YtjibkgildfjjoaaDoorzYg
namespace Go.Proofs.YtjibkgildfjjoaaDoor
set_option linter.unusedVariables false
set_option linter.unusedSimpArgs false
open Go.RowKit Go.ChangeShapes Go.WideShapes Go.ChangeAt Go.Sort

theorem frm0_own (w : World) (B : Nat) : OwnF w B (.agg fzc) frm0 := ⟨_, _, _, rfl, OwnVs.nil _ _, OwnVs.nil _ _, OwnSs.nil _ _⟩
end Go.Proofs.YtjibkgildfjjoaaDoor

