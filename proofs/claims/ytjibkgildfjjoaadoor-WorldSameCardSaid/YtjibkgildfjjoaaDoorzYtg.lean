/- Layer 12: the document's Lay, where a new cell is laid. -/
import Derived.Test.YtjibkgildfjjoaaDoorzYte
import Derived.Test.YtjibkgildfjjoaaDoorzYo
import Derived.Test.YtjibkgildfjjoaaDoorzYq2
import Derived.Test.YtjibkgildfjjoaaDoorzYla
import Derived.Test.YtjibkgildfjjoaaDoorzYtf
namespace Go.Proofs.YtjibkgildfjjoaaDoor
set_option linter.unusedVariables false
set_option linter.unusedSimpArgs false
open Go.RowKit Go.ChangeShapes Go.WideShapes Go.ChangeAt Go.Sort

end Go.Proofs.YtjibkgildfjjoaaDoor

