/- Layer 9: the document's comparisons, where both are the same; whether a frame is small. -/
import Derived.Test.YtagjddnpaahebaaGreatDoorzHb
import Derived.Test.YtagjddnpaahebaaGreatDoorzHc
import Derived.Deep.DeepCutAuto
import Derived.Deep.CutBlock
import Derived.Deep.QuietTactic
import Derived.BigQuiet
import Derived.WalkLawsBesides
namespace Go.Proofs.YtagjddnpaahebaaGreatDoor
set_option linter.unusedVariables false
set_option linter.unusedSimpArgs false
open Gm Go.RowKit Go.ChangeShapes Go.WideShapes Go.ChangeAt Go.Sort

abbrev sv (x : Slt) : Value := .agg #[.int .i64 x.st, .int .i64 x.kat, .int .i64 x.kgn, .int .i64 x.tr, .int .i64 x.re, .int .i64 x.im]
theorem neqs_same (a b c d e f : Int) (W : World) : (binOp .neq 83 (.agg #[.int .i64 a, .int .i64 b, .int .i64 c, .int .i64 d, .int .i64 e, .int .i64 f]) (.agg #[.int .i64 a, .int .i64 b, .int .i64 c, .int .i64 d, .int .i64 e, .int .i64 f])).run Tryz.prog W = .ok (.bool false) W := by
  simp [go_sem]
theorem eqo_same (a b c : Int) (W : World) : (binOp .eql 32 (outv a b c) (outv a b c)).run Tryz.prog W = .ok (.bool true) W := by
  simp [go_sem]
theorem eqr_same (a b : Int) (W : World) : (binOp .eql 56 (.agg #[.int .i64 a, .int .i64 b]) (.agg #[.int .i64 a, .int .i64 b])).run Tryz.prog W = .ok (.bool true) W := by
  simp [go_sem]

end Go.Proofs.YtagjddnpaahebaaGreatDoor

