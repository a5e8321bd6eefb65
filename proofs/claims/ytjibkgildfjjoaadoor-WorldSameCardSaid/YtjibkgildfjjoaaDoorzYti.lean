/- Layer 12: the document's Lay into a pen without cells: the cell holds just what was given. -/
import Derived.Test.YtjibkgildfjjoaaDoorzYtg
namespace Go.Proofs.YtjibkgildfjjoaaDoor
set_option linter.unusedVariables false
set_option linter.unusedSimpArgs false
open Go.RowKit Go.ChangeShapes Go.WideShapes Go.ChangeAt Go.Sort

end Go.Proofs.YtjibkgildfjjoaaDoor

