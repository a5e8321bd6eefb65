/- Layer 12: the document's calls, as the law PenTells meets them. -/
import Derived.Test.YtjibkgildfjjoaaDoorzYtd
import Derived.Test.YtjibkgildfjjoaaDoorzYr
import Derived.Test.YtjibkgildfjjoaaDoorzYl
namespace Go.Proofs.YtjibkgildfjjoaaDoor
set_option linter.unusedVariables false
set_option linter.unusedSimpArgs false
open Go.RowKit Go.ChangeShapes Go.WideShapes Go.ChangeAt Go.Sort

end Go.Proofs.YtjibkgildfjjoaaDoor

