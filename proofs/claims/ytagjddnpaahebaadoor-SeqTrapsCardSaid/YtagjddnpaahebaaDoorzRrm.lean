/- Layer 4: the document's remainders and parts, and whether a value may be. -/
import Derived.Test.YtagjddnpaahebaaDoorzHc
namespace Go.Proofs.YtagjddnpaahebaaDoor
set_option linter.unusedVariables false
set_option linter.unusedSimpArgs false
open Go.RowKit Go.ChangeShapes Go.WideShapes Go.ChangeAt Gm Go.Sort

end Go.Proofs.YtagjddnpaahebaaDoor

