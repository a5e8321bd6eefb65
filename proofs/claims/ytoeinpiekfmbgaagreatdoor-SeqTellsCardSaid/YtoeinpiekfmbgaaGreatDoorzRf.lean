/- Layer 9: the document's comparisons, where both are the same; whether a frame is small. -/
import Derived.Test.YtoeinpiekfmbgaaGreatDoorzHb
import Derived.Test.YtoeinpiekfmbgaaGreatDoorzHc
import Derived.Deep.DeepCutAuto
import Derived.Deep.CutBlock
import Derived.Deep.QuietTactic
import Derived.BigQuiet
import Derived.WalkLawsBesides
namespace Go.Proofs.YtoeinpiekfmbgaaGreatDoor
set_option linter.unusedVariables false
set_option linter.unusedSimpArgs false
open Gm Go.RowKit Go.ChangeShapes Go.WideShapes Go.ChangeAt Go.Sort

abbrev sv (x : Slt) : Value := .agg #[.int .i64 x.st, .int .i64 x.kat, .int .i64 x.kgn, .int .i64 x.tr, .int .i64 x.re, .int .i64 x.im]
end Go.Proofs.YtoeinpiekfmbgaaGreatDoor

