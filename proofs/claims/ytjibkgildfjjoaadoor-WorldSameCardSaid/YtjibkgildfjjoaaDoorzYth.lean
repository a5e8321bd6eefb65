/- Layer 12: the document's Lay and both New, as the law PenTells meets them. -/
import Derived.Test.YtjibkgildfjjoaaDoorzYtg
import Derived.Test.YtjibkgildfjjoaaDoorzYtc
namespace Go.Proofs.YtjibkgildfjjoaaDoor
set_option linter.unusedVariables false
set_option linter.unusedSimpArgs false
open Go.RowKit Go.ChangeShapes Go.WideShapes Go.ChangeAt Go.Sort

end Go.Proofs.YtjibkgildfjjoaaDoor

