/-
  NARROWER THAN 'FOR EVERY INPUT', by the rows' own cells (each row's printed sentence says how): CheckTells: laid · CheckSafe: laid · CheckReach: laid · CheckMore: laid · CheckFields: laid · CheckTail: laid.
  DERIVED. THE GIVEN ROWS OF THIS SEAT. 6 by the template 'for every input the law returns true; each argument reads behind the call as it read before'; 0 by the template 'total and deterministic' (their statements: YtdbmpcdianjaaaaDoorTotals.lean).
  GIVEN WITH THE SEED: the statements are not yours to turn. If you find one false, say at which input.
  Laid BY PROGRAM, IN A SANDBOX (cutbox-rows.mjs): the forced cells as the released guide's own fill.sh prints them over the translation ecaa78d36772316a… (all of the seat's roots in one cut). By AI agents, Wed Nov 11 2026. No macro, syntax, notation, axiom, sorry.
-/
import Derived.Test.YtdbmpcdianjaaaaDoorChecked
import GoSem.Claim
import GoSem.ClaimJoined
import GoSem.ClaimMapViews
import Derived.JoinedTies
import Derived.KernelRfl
namespace Go.Proofs.YtdbmpcdianjaaaaDoor
/- THE CELL 'sum', in the pinned program and in every row, IS THE sha256 OF THE DUMP (.gsa) THAT YtdbmpcdianjaaaaDoorProg.lean LOADS. Nothing in Lean hashes anything: it is a label: what it is worth is what the hold of that sum in a sandbox is worth. -/
noncomputable def Tryd.pinned : Pinned := { name := "ytdbmpcdianjaaaadoor", sum := "ecaa78d36772316a445fbb35ffcd5aedb13336ba35d3eaef61602cfb112537b7", checked := Tryd.checked }
namespace Rows
def none {H : Type} : Left H := { results := [], args := [] }

/- WHAT THE LISTED PACKAGE-LEVEL VARIABLES READ AS WHEN THE CALL BEGINS. Each datum BY PROGRAM (the guide's laid-datum.mjs) off the statement by which the dump's own 'gosem.cut.vars' lays the variable. In a bare row this is a premise. The card (YtdbmpcdianjaaaaDoorCards.lean) ties it to the program's text. -/
def laid_transhumance_op_operations {H : Type} : DataW H := .agg [.agg [.lit (.string [112, 117, 115, 104]), .lit (.int .i64 2), .lit (.int .i64 0), .lit (.int .i64 1), .lit (.int .i64 0), .lit (.int .i64 250), .lit (.int .i64 250)], .agg [.lit (.string [108, 111, 97, 100]), .lit (.int .i64 1), .lit (.int .i64 0), .lit (.int .i64 1), .lit (.int .i64 0), .lit (.int .i64 15), .lit (.int .i64 0)], .agg [.lit (.string [115, 116, 111, 114, 101]), .lit (.int .i64 1), .lit (.int .i64 1), .lit (.int .i64 0), .lit (.int .i64 0), .lit (.int .i64 15), .lit (.int .i64 0)], .agg [.lit (.string [97, 100, 100]), .lit (.int .i64 0), .lit (.int .i64 2), .lit (.int .i64 1), .lit (.int .i64 0), .lit (.int .i64 0), .lit (.int .i64 0)], .agg [.lit (.string [115, 117, 98]), .lit (.int .i64 0), .lit (.int .i64 2), .lit (.int .i64 1), .lit (.int .i64 0), .lit (.int .i64 0), .lit (.int .i64 0)], .agg [.lit (.string [109, 117, 108]), .lit (.int .i64 0), .lit (.int .i64 2), .lit (.int .i64 1), .lit (.int .i64 0), .lit (.int .i64 0), .lit (.int .i64 0)], .agg [.lit (.string [100, 105, 118]), .lit (.int .i64 0), .lit (.int .i64 2), .lit (.int .i64 1), .lit (.int .i64 0), .lit (.int .i64 0), .lit (.int .i64 0)], .agg [.lit (.string [99, 111, 110, 106]), .lit (.int .i64 0), .lit (.int .i64 1), .lit (.int .i64 1), .lit (.int .i64 0), .lit (.int .i64 0), .lit (.int .i64 0)], .agg [.lit (.string [100, 117, 112]), .lit (.int .i64 0), .lit (.int .i64 1), .lit (.int .i64 2), .lit (.int .i64 0), .lit (.int .i64 0), .lit (.int .i64 0)], .agg [.lit (.string [100, 114, 111, 112]), .lit (.int .i64 0), .lit (.int .i64 1), .lit (.int .i64 0), .lit (.int .i64 0), .lit (.int .i64 0), .lit (.int .i64 0)], .agg [.lit (.string [106, 117, 109, 112]), .lit (.int .i64 1), .lit (.int .i64 0), .lit (.int .i64 0), .lit (.int .i64 0), .lit (.int .i64 199), .lit (.int .i64 0)], .agg [.lit (.string [122, 101, 114, 111]), .lit (.int .i64 1), .lit (.int .i64 1), .lit (.int .i64 0), .lit (.int .i64 0), .lit (.int .i64 199), .lit (.int .i64 0)], .agg [.lit (.string [114, 97, 110, 100]), .lit (.int .i64 0), .lit (.int .i64 0), .lit (.int .i64 1), .lit (.int .i64 0), .lit (.int .i64 0), .lit (.int .i64 0)], .agg [.lit (.string [115, 112, 97, 119, 110]), .lit (.int .i64 2), .lit (.int .i64 0), .lit (.int .i64 0), .lit (.int .i64 0), .lit (.int .i64 15), .lit (.int .i64 7)], .agg [.lit (.string [106, 111, 105, 110]), .lit (.int .i64 1), .lit (.int .i64 0), .lit (.int .i64 1), .lit (.int .i64 0), .lit (.int .i64 7), .lit (.int .i64 0)], .agg [.lit (.string [114, 101, 116]), .lit (.int .i64 0), .lit (.int .i64 1), .lit (.int .i64 0), .lit (.int .i64 0), .lit (.int .i64 0), .lit (.int .i64 0)], .agg [.lit (.string [116, 114, 97, 112]), .lit (.int .i64 1), .lit (.int .i64 0), .lit (.int .i64 0), .lit (.int .i64 16), .lit (.int .i64 255), .lit (.int .i64 0)]]

/-- 'transhumancelaw08.CheckTells': WHATEVER THE INPUT: true; the input reads as it did. -/
def checkTellsSpec : ChangeSpec := { name := "checkTells", fn := fun _ => fun
  | [d1, d2] => { results := [.lit (.bool true)], args := [d1, d2] }
  | _ => none }
def checkTellsRow : OpenClaim := { program := "ytdbmpcdianjaaaadoor", sum := "ecaa78d36772316a445fbb35ffcd5aedb13336ba35d3eaef61602cfb112537b7", func := "transhumance/transhumancelaw08.CheckTells", spec := "checkTells", unfollowed := true, recurses := true, named := ["transhumance/op.operations"], apart := false, laid := [("transhumance/op.operations", laid_transhumance_op_operations)] }
def CheckTellsSaid : Prop := checkTellsRow.holds Tryd.pinned (OpenSpec.ofChange checkTellsSpec)

/-- ITS FALSE NEIGHBOUR: 'it returns false'. Refute it at one input. -/
def checkTellsWrong : ChangeSpec := { name := "checkTells", fn := fun _ => fun
  | [d1, d2] => { results := [.lit (.bool false)], args := [d1, d2] }
  | _ => none }
def CheckTellsWrongFalsely : Prop := checkTellsRow.holds Tryd.pinned (OpenSpec.ofChange checkTellsWrong)

/-- 'transhumancelaw08.CheckSafe': WHATEVER THE INPUT: true; the input reads as it did. -/
def checkSafeSpec : ChangeSpec := { name := "checkSafe", fn := fun _ => fun
  | [d1, d2] => { results := [.lit (.bool true)], args := [d1, d2] }
  | _ => none }
def checkSafeRow : OpenClaim := { program := "ytdbmpcdianjaaaadoor", sum := "ecaa78d36772316a445fbb35ffcd5aedb13336ba35d3eaef61602cfb112537b7", func := "transhumance/transhumancelaw08.CheckSafe", spec := "checkSafe", unfollowed := true, recurses := true, named := ["transhumance/op.operations"], apart := false, laid := [("transhumance/op.operations", laid_transhumance_op_operations)] }
def CheckSafeSaid : Prop := checkSafeRow.holds Tryd.pinned (OpenSpec.ofChange checkSafeSpec)

/-- ITS FALSE NEIGHBOUR: 'it returns false'. Refute it at one input. -/
def checkSafeWrong : ChangeSpec := { name := "checkSafe", fn := fun _ => fun
  | [d1, d2] => { results := [.lit (.bool false)], args := [d1, d2] }
  | _ => none }
def CheckSafeWrongFalsely : Prop := checkSafeRow.holds Tryd.pinned (OpenSpec.ofChange checkSafeWrong)

/-- 'transhumancelaw08.CheckReach': WHATEVER THE INPUT: true; the input reads as it did. -/
def checkReachSpec : ChangeSpec := { name := "checkReach", fn := fun _ => fun
  | [d1, d2] => { results := [.lit (.bool true)], args := [d1, d2] }
  | _ => none }
def checkReachRow : OpenClaim := { program := "ytdbmpcdianjaaaadoor", sum := "ecaa78d36772316a445fbb35ffcd5aedb13336ba35d3eaef61602cfb112537b7", func := "transhumance/transhumancelaw08.CheckReach", spec := "checkReach", unfollowed := true, recurses := true, named := ["transhumance/op.operations"], apart := false, laid := [("transhumance/op.operations", laid_transhumance_op_operations)] }
def CheckReachSaid : Prop := checkReachRow.holds Tryd.pinned (OpenSpec.ofChange checkReachSpec)

/-- ITS FALSE NEIGHBOUR: 'it returns false'. Refute it at one input. -/
def checkReachWrong : ChangeSpec := { name := "checkReach", fn := fun _ => fun
  | [d1, d2] => { results := [.lit (.bool false)], args := [d1, d2] }
  | _ => none }
def CheckReachWrongFalsely : Prop := checkReachRow.holds Tryd.pinned (OpenSpec.ofChange checkReachWrong)

/-- 'transhumancelaw08.CheckMore': WHATEVER THE INPUT: true; the input reads as it did. -/
def checkMoreSpec : ChangeSpec := { name := "checkMore", fn := fun _ => fun
  | [d1, d2] => { results := [.lit (.bool true)], args := [d1, d2] }
  | _ => none }
def checkMoreRow : OpenClaim := { program := "ytdbmpcdianjaaaadoor", sum := "ecaa78d36772316a445fbb35ffcd5aedb13336ba35d3eaef61602cfb112537b7", func := "transhumance/transhumancelaw08.CheckMore", spec := "checkMore", unfollowed := true, recurses := true, named := ["transhumance/op.operations"], apart := false, laid := [("transhumance/op.operations", laid_transhumance_op_operations)] }
def CheckMoreSaid : Prop := checkMoreRow.holds Tryd.pinned (OpenSpec.ofChange checkMoreSpec)

/-- ITS FALSE NEIGHBOUR: 'it returns false'. Refute it at one input. -/
def checkMoreWrong : ChangeSpec := { name := "checkMore", fn := fun _ => fun
  | [d1, d2] => { results := [.lit (.bool false)], args := [d1, d2] }
  | _ => none }
def CheckMoreWrongFalsely : Prop := checkMoreRow.holds Tryd.pinned (OpenSpec.ofChange checkMoreWrong)

/-- 'transhumancelaw08.CheckFields': WHATEVER THE INPUT: true; the input reads as it did. -/
def checkFieldsSpec : ChangeSpec := { name := "checkFields", fn := fun _ => fun
  | [d1, d2, d3] => { results := [.lit (.bool true)], args := [d1, d2, d3] }
  | _ => none }
def checkFieldsRow : OpenClaim := { program := "ytdbmpcdianjaaaadoor", sum := "ecaa78d36772316a445fbb35ffcd5aedb13336ba35d3eaef61602cfb112537b7", func := "transhumance/transhumancelaw08.CheckFields", spec := "checkFields", unfollowed := true, recurses := true, named := ["transhumance/op.operations"], apart := false, laid := [("transhumance/op.operations", laid_transhumance_op_operations)] }
def CheckFieldsSaid : Prop := checkFieldsRow.holds Tryd.pinned (OpenSpec.ofChange checkFieldsSpec)

/-- ITS FALSE NEIGHBOUR: 'it returns false'. Refute it at one input. -/
def checkFieldsWrong : ChangeSpec := { name := "checkFields", fn := fun _ => fun
  | [d1, d2, d3] => { results := [.lit (.bool false)], args := [d1, d2, d3] }
  | _ => none }
def CheckFieldsWrongFalsely : Prop := checkFieldsRow.holds Tryd.pinned (OpenSpec.ofChange checkFieldsWrong)

/-- 'transhumancelaw08.CheckTail': WHATEVER THE INPUT: true; the input reads as it did. -/
def checkTailSpec : ChangeSpec := { name := "checkTail", fn := fun _ => fun
  | [d1, d2] => { results := [.lit (.bool true)], args := [d1, d2] }
  | _ => none }
def checkTailRow : OpenClaim := { program := "ytdbmpcdianjaaaadoor", sum := "ecaa78d36772316a445fbb35ffcd5aedb13336ba35d3eaef61602cfb112537b7", func := "transhumance/transhumancelaw08.CheckTail", spec := "checkTail", unfollowed := true, recurses := true, named := ["transhumance/op.operations"], apart := false, laid := [("transhumance/op.operations", laid_transhumance_op_operations)] }
def CheckTailSaid : Prop := checkTailRow.holds Tryd.pinned (OpenSpec.ofChange checkTailSpec)

/-- ITS FALSE NEIGHBOUR: 'it returns false'. Refute it at one input. -/
def checkTailWrong : ChangeSpec := { name := "checkTail", fn := fun _ => fun
  | [d1, d2] => { results := [.lit (.bool false)], args := [d1, d2] }
  | _ => none }
def CheckTailWrongFalsely : Prop := checkTailRow.holds Tryd.pinned (OpenSpec.ofChange checkTailWrong)

/- THE SECOND FORM. 'bulk': how many values and letters a reading holds, each counted each time it is reached (what is shared counts as often as it is met; a slice's spare places count too). A statement '..UptoSaid' is the law's where the arguments, and the package variables that the reading takes, are together of bulk at most 1048576: NARROWER than '..Said'. Prove '..Said' where nothing that the law and all that it calls make is longer than what came in: it says more and counts as full. Else prove '..UptoSaid'. A law counts once. -/
mutual
def uptoBulk {H : Type} : DataW H → Nat
  | .lit (.string bytes) => bytes.length + 1
  | .lit _ => 1
  | .nil => 1
  | .ptr d => uptoBulk d + 1
  | .slice elems spare => uptoBulkAll elems + uptoBulkAll spare + 1
  | .agg parts => uptoBulkAll parts + 1
  | .iface _ d => uptoBulk d + 1
  | .map entries => uptoBulkEntries entries + 1
  | .held _ => 1
def uptoBulkAll {H : Type} : List (DataW H) → Nat
  | [] => 0
  | d :: r => uptoBulk d + uptoBulkAll r
def uptoBulkEntries {H : Type} : List (Lit × DataW H) → Nat
  | [] => 0
  | x :: r => uptoBulkEntry x + uptoBulkEntries r
def uptoBulkEntry {H : Type} : Lit × DataW H → Nat
  | (.string bytes, d) => bytes.length + uptoBulk d + 1
  | (_, d) => uptoBulk d + 1
 end
def uptoSmall : (H : Type) → List (DataW H) → Bool := fun _ ds => decide (uptoBulkAll ds ≤ 1048576)
def OpenSpec.upto (s : _root_.Go.ChangeSpec) : _root_.Go.OpenSpec := { _root_.Go.OpenSpec.ofChange s with cond := some uptoSmall }

/-- 'transhumancelaw08.CheckTells', WHERE WHAT IT READS IS OF BULK AT MOST 1048576: true; the input reads as it did. -/
def checkTellsUptoRow : OpenClaim := { program := "ytdbmpcdianjaaaadoor", sum := "ecaa78d36772316a445fbb35ffcd5aedb13336ba35d3eaef61602cfb112537b7", func := "transhumance/transhumancelaw08.CheckTells", spec := "checkTells", unfollowed := true, recurses := true, named := ["transhumance/op.operations"], apart := false, laid := [("transhumance/op.operations", laid_transhumance_op_operations)], narrowed := true }
def CheckTellsUptoSaid : Prop := checkTellsUptoRow.holds Tryd.pinned (OpenSpec.upto checkTellsSpec)

/-- 'transhumancelaw08.CheckSafe', WHERE WHAT IT READS IS OF BULK AT MOST 1048576: true; the input reads as it did. -/
def checkSafeUptoRow : OpenClaim := { program := "ytdbmpcdianjaaaadoor", sum := "ecaa78d36772316a445fbb35ffcd5aedb13336ba35d3eaef61602cfb112537b7", func := "transhumance/transhumancelaw08.CheckSafe", spec := "checkSafe", unfollowed := true, recurses := true, named := ["transhumance/op.operations"], apart := false, laid := [("transhumance/op.operations", laid_transhumance_op_operations)], narrowed := true }
def CheckSafeUptoSaid : Prop := checkSafeUptoRow.holds Tryd.pinned (OpenSpec.upto checkSafeSpec)

/-- 'transhumancelaw08.CheckReach', WHERE WHAT IT READS IS OF BULK AT MOST 1048576: true; the input reads as it did. -/
def checkReachUptoRow : OpenClaim := { program := "ytdbmpcdianjaaaadoor", sum := "ecaa78d36772316a445fbb35ffcd5aedb13336ba35d3eaef61602cfb112537b7", func := "transhumance/transhumancelaw08.CheckReach", spec := "checkReach", unfollowed := true, recurses := true, named := ["transhumance/op.operations"], apart := false, laid := [("transhumance/op.operations", laid_transhumance_op_operations)], narrowed := true }
def CheckReachUptoSaid : Prop := checkReachUptoRow.holds Tryd.pinned (OpenSpec.upto checkReachSpec)

/-- 'transhumancelaw08.CheckMore', WHERE WHAT IT READS IS OF BULK AT MOST 1048576: true; the input reads as it did. -/
def checkMoreUptoRow : OpenClaim := { program := "ytdbmpcdianjaaaadoor", sum := "ecaa78d36772316a445fbb35ffcd5aedb13336ba35d3eaef61602cfb112537b7", func := "transhumance/transhumancelaw08.CheckMore", spec := "checkMore", unfollowed := true, recurses := true, named := ["transhumance/op.operations"], apart := false, laid := [("transhumance/op.operations", laid_transhumance_op_operations)], narrowed := true }
def CheckMoreUptoSaid : Prop := checkMoreUptoRow.holds Tryd.pinned (OpenSpec.upto checkMoreSpec)

/-- 'transhumancelaw08.CheckFields', WHERE WHAT IT READS IS OF BULK AT MOST 1048576: true; the input reads as it did. -/
def checkFieldsUptoRow : OpenClaim := { program := "ytdbmpcdianjaaaadoor", sum := "ecaa78d36772316a445fbb35ffcd5aedb13336ba35d3eaef61602cfb112537b7", func := "transhumance/transhumancelaw08.CheckFields", spec := "checkFields", unfollowed := true, recurses := true, named := ["transhumance/op.operations"], apart := false, laid := [("transhumance/op.operations", laid_transhumance_op_operations)], narrowed := true }
def CheckFieldsUptoSaid : Prop := checkFieldsUptoRow.holds Tryd.pinned (OpenSpec.upto checkFieldsSpec)

/-- 'transhumancelaw08.CheckTail', WHERE WHAT IT READS IS OF BULK AT MOST 1048576: true; the input reads as it did. -/
def checkTailUptoRow : OpenClaim := { program := "ytdbmpcdianjaaaadoor", sum := "ecaa78d36772316a445fbb35ffcd5aedb13336ba35d3eaef61602cfb112537b7", func := "transhumance/transhumancelaw08.CheckTail", spec := "checkTail", unfollowed := true, recurses := true, named := ["transhumance/op.operations"], apart := false, laid := [("transhumance/op.operations", laid_transhumance_op_operations)], narrowed := true }
def CheckTailUptoSaid : Prop := checkTailUptoRow.holds Tryd.pinned (OpenSpec.upto checkTailSpec)

end Rows
end Go.Proofs.YtdbmpcdianjaaaaDoor
