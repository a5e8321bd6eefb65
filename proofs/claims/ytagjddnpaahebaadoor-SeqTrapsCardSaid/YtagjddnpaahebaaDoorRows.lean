/-
  NARROWER THAN 'FOR EVERY INPUT', by the rows' own cells (each row's printed sentence says how): SeqFuel: laid · SeqTraps: laid.
  DERIVED. THE GIVEN ROWS OF THIS SEAT. 2 by the template 'for every input the law returns true; each argument reads behind the call as it read before'; 0 by the template 'total and deterministic' (their statements: YtagjddnpaahebaaDoorTotals.lean).
  GIVEN WITH THE SEED: the statements are not yours to turn. If you find one false, say at which input.
  Laid BY PROGRAM, IN A SANDBOX (cutbox-rows.mjs): the forced cells as the released guide's own fill.sh prints them over the translation 03f3e668e94e87bc… (all of the seat's roots in one cut). By AI agents, Wed Nov 11 2026. No macro, syntax, notation, axiom, sorry.
-/
import Derived.Test.YtagjddnpaahebaaDoorChecked
import GoSem.Claim
import GoSem.ClaimJoined
import GoSem.ClaimMapViews
import Derived.JoinedTies
import Derived.KernelRfl
namespace Go.Proofs.YtagjddnpaahebaaDoor
/- THE CELL 'sum', in the pinned program and in every row, IS THE sha256 OF THE DUMP (.gsa) THAT YtagjddnpaahebaaDoorProg.lean LOADS. Nothing in Lean hashes anything: it is a label: what it is worth is what the hold of that sum in a sandbox is worth. -/
noncomputable def Tryd.pinned : Pinned := { name := "ytagjddnpaahebaadoor", sum := "03f3e668e94e87bc53ade973bf4ef79bfde90285852bd7ead9533d58779de1d0", checked := Tryd.checked }
namespace Rows
def none {H : Type} : Left H := { results := [], args := [] }

/- WHAT THE LISTED PACKAGE-LEVEL VARIABLES READ AS WHEN THE CALL BEGINS. Each datum BY PROGRAM (the guide's laid-datum.mjs) off the statement by which the dump's own 'gosem.cut.vars' lays the variable. In a bare row this is a premise. The card (YtagjddnpaahebaaDoorCards.lean) ties it to the program's text. -/
def laid_transhumance_op_operations {H : Type} : DataW H := .agg [.agg [.lit (.string [112, 117, 115, 104]), .lit (.int .i64 2), .lit (.int .i64 0), .lit (.int .i64 1), .lit (.int .i64 0), .lit (.int .i64 250), .lit (.int .i64 250)], .agg [.lit (.string [108, 111, 97, 100]), .lit (.int .i64 1), .lit (.int .i64 0), .lit (.int .i64 1), .lit (.int .i64 0), .lit (.int .i64 15), .lit (.int .i64 0)], .agg [.lit (.string [115, 116, 111, 114, 101]), .lit (.int .i64 1), .lit (.int .i64 1), .lit (.int .i64 0), .lit (.int .i64 0), .lit (.int .i64 15), .lit (.int .i64 0)], .agg [.lit (.string [97, 100, 100]), .lit (.int .i64 0), .lit (.int .i64 2), .lit (.int .i64 1), .lit (.int .i64 0), .lit (.int .i64 0), .lit (.int .i64 0)], .agg [.lit (.string [115, 117, 98]), .lit (.int .i64 0), .lit (.int .i64 2), .lit (.int .i64 1), .lit (.int .i64 0), .lit (.int .i64 0), .lit (.int .i64 0)], .agg [.lit (.string [109, 117, 108]), .lit (.int .i64 0), .lit (.int .i64 2), .lit (.int .i64 1), .lit (.int .i64 0), .lit (.int .i64 0), .lit (.int .i64 0)], .agg [.lit (.string [100, 105, 118]), .lit (.int .i64 0), .lit (.int .i64 2), .lit (.int .i64 1), .lit (.int .i64 0), .lit (.int .i64 0), .lit (.int .i64 0)], .agg [.lit (.string [99, 111, 110, 106]), .lit (.int .i64 0), .lit (.int .i64 1), .lit (.int .i64 1), .lit (.int .i64 0), .lit (.int .i64 0), .lit (.int .i64 0)], .agg [.lit (.string [100, 117, 112]), .lit (.int .i64 0), .lit (.int .i64 1), .lit (.int .i64 2), .lit (.int .i64 0), .lit (.int .i64 0), .lit (.int .i64 0)], .agg [.lit (.string [100, 114, 111, 112]), .lit (.int .i64 0), .lit (.int .i64 1), .lit (.int .i64 0), .lit (.int .i64 0), .lit (.int .i64 0), .lit (.int .i64 0)], .agg [.lit (.string [106, 117, 109, 112]), .lit (.int .i64 1), .lit (.int .i64 0), .lit (.int .i64 0), .lit (.int .i64 0), .lit (.int .i64 199), .lit (.int .i64 0)], .agg [.lit (.string [122, 101, 114, 111]), .lit (.int .i64 1), .lit (.int .i64 1), .lit (.int .i64 0), .lit (.int .i64 0), .lit (.int .i64 199), .lit (.int .i64 0)], .agg [.lit (.string [114, 97, 110, 100]), .lit (.int .i64 0), .lit (.int .i64 0), .lit (.int .i64 1), .lit (.int .i64 0), .lit (.int .i64 0), .lit (.int .i64 0)], .agg [.lit (.string [115, 112, 97, 119, 110]), .lit (.int .i64 2), .lit (.int .i64 0), .lit (.int .i64 0), .lit (.int .i64 0), .lit (.int .i64 15), .lit (.int .i64 7)], .agg [.lit (.string [106, 111, 105, 110]), .lit (.int .i64 1), .lit (.int .i64 0), .lit (.int .i64 1), .lit (.int .i64 0), .lit (.int .i64 7), .lit (.int .i64 0)], .agg [.lit (.string [114, 101, 116]), .lit (.int .i64 0), .lit (.int .i64 1), .lit (.int .i64 0), .lit (.int .i64 0), .lit (.int .i64 0), .lit (.int .i64 0)], .agg [.lit (.string [116, 114, 97, 112]), .lit (.int .i64 1), .lit (.int .i64 0), .lit (.int .i64 0), .lit (.int .i64 16), .lit (.int .i64 255), .lit (.int .i64 0)]]
def laid_transhumance_frame_nobody {H : Type} : DataW H := .agg [.lit (.int .i64 (-1)), .lit (.int .i64 0)]

/-- 'transhumancelaw10.SeqFuel': WHATEVER THE INPUT: true; the input reads as it did. -/
def seqFuelSpec : ChangeSpec := { name := "seqFuel", fn := fun _ => fun
  | [d1, d2, d3] => { results := [.lit (.bool true)], args := [d1, d2, d3] }
  | _ => none }
def seqFuelRow : OpenClaim := { program := "ytagjddnpaahebaadoor", sum := "03f3e668e94e87bc53ade973bf4ef79bfde90285852bd7ead9533d58779de1d0", func := "transhumance/transhumancelaw10.SeqFuel", spec := "seqFuel", unfollowed := true, recurses := true, named := ["transhumance/op.operations", "transhumance/frame.nobody"], apart := false, laid := [("transhumance/op.operations", laid_transhumance_op_operations), ("transhumance/frame.nobody", laid_transhumance_frame_nobody)] }
def SeqFuelSaid : Prop := seqFuelRow.holds Tryd.pinned (OpenSpec.ofChange seqFuelSpec)

/-- ITS FALSE NEIGHBOUR: 'it returns false'. Refute it at one input. -/
def seqFuelWrong : ChangeSpec := { name := "seqFuel", fn := fun _ => fun
  | [d1, d2, d3] => { results := [.lit (.bool false)], args := [d1, d2, d3] }
  | _ => none }
def SeqFuelWrongFalsely : Prop := seqFuelRow.holds Tryd.pinned (OpenSpec.ofChange seqFuelWrong)

/-- 'transhumancelaw10.SeqTraps': WHATEVER THE INPUT: true; the input reads as it did. -/
def seqTrapsSpec : ChangeSpec := { name := "seqTraps", fn := fun _ => fun
  | [d1, d2, d3] => { results := [.lit (.bool true)], args := [d1, d2, d3] }
  | _ => none }
def seqTrapsRow : OpenClaim := { program := "ytagjddnpaahebaadoor", sum := "03f3e668e94e87bc53ade973bf4ef79bfde90285852bd7ead9533d58779de1d0", func := "transhumance/transhumancelaw10.SeqTraps", spec := "seqTraps", unfollowed := true, recurses := true, named := ["transhumance/op.operations", "transhumance/frame.nobody"], apart := false, laid := [("transhumance/op.operations", laid_transhumance_op_operations), ("transhumance/frame.nobody", laid_transhumance_frame_nobody)] }
def SeqTrapsSaid : Prop := seqTrapsRow.holds Tryd.pinned (OpenSpec.ofChange seqTrapsSpec)

/-- ITS FALSE NEIGHBOUR: 'it returns false'. Refute it at one input. -/
def seqTrapsWrong : ChangeSpec := { name := "seqTraps", fn := fun _ => fun
  | [d1, d2, d3] => { results := [.lit (.bool false)], args := [d1, d2, d3] }
  | _ => none }
def SeqTrapsWrongFalsely : Prop := seqTrapsRow.holds Tryd.pinned (OpenSpec.ofChange seqTrapsWrong)

/- THE SECOND FORM. 'bulk': how many values and letters a reading holds, each counted each time it is reached (what is shared counts as often as it is met; a slice's spare places count too). A statement '..UptoSaid' is the law's where the arguments, and the package variables that the reading takes, are together of bulk at most 1048576: NARROWER than '..Said'. Prove '..Said' where nothing that the law and all that it calls make is longer than what came in: it says more and counts as full. Else prove '..UptoSaid'. A law counts once. -/
mutual
def uptoBulk {H : Type} : DataW H → Nat
  | .lit (.string bytes) => bytes.length + 1
  | .lit _ => 1
  | .nil => 1
  | .ptr d => uptoBulk d + 1
  | .slice elems spare => uptoBulkAll elems + uptoBulkAll spare + 1
  | .agg parts => uptoBulkAll parts + 1
  | .iface _ d => uptoBulk d + 1
  | .map entries => uptoBulkEntries entries + 1
  | .held _ => 1
def uptoBulkAll {H : Type} : List (DataW H) → Nat
  | [] => 0
  | d :: r => uptoBulk d + uptoBulkAll r
def uptoBulkEntries {H : Type} : List (Lit × DataW H) → Nat
  | [] => 0
  | x :: r => uptoBulkEntry x + uptoBulkEntries r
def uptoBulkEntry {H : Type} : Lit × DataW H → Nat
  | (.string bytes, d) => bytes.length + uptoBulk d + 1
  | (_, d) => uptoBulk d + 1
 end
def uptoSmall : (H : Type) → List (DataW H) → Bool := fun _ ds => decide (uptoBulkAll ds ≤ 1048576)
def OpenSpec.upto (s : _root_.Go.ChangeSpec) : _root_.Go.OpenSpec := { _root_.Go.OpenSpec.ofChange s with cond := some uptoSmall }

/-- 'transhumancelaw10.SeqFuel', WHERE WHAT IT READS IS OF BULK AT MOST 1048576: true; the input reads as it did. -/
def seqFuelUptoRow : OpenClaim := { program := "ytagjddnpaahebaadoor", sum := "03f3e668e94e87bc53ade973bf4ef79bfde90285852bd7ead9533d58779de1d0", func := "transhumance/transhumancelaw10.SeqFuel", spec := "seqFuel", unfollowed := true, recurses := true, named := ["transhumance/op.operations", "transhumance/frame.nobody"], apart := false, laid := [("transhumance/op.operations", laid_transhumance_op_operations), ("transhumance/frame.nobody", laid_transhumance_frame_nobody)], narrowed := true }
def SeqFuelUptoSaid : Prop := seqFuelUptoRow.holds Tryd.pinned (OpenSpec.upto seqFuelSpec)

/-- 'transhumancelaw10.SeqTraps', WHERE WHAT IT READS IS OF BULK AT MOST 1048576: true; the input reads as it did. -/
def seqTrapsUptoRow : OpenClaim := { program := "ytagjddnpaahebaadoor", sum := "03f3e668e94e87bc53ade973bf4ef79bfde90285852bd7ead9533d58779de1d0", func := "transhumance/transhumancelaw10.SeqTraps", spec := "seqTraps", unfollowed := true, recurses := true, named := ["transhumance/op.operations", "transhumance/frame.nobody"], apart := false, laid := [("transhumance/op.operations", laid_transhumance_op_operations), ("transhumance/frame.nobody", laid_transhumance_frame_nobody)], narrowed := true }
def SeqTrapsUptoSaid : Prop := seqTrapsUptoRow.holds Tryd.pinned (OpenSpec.upto seqTrapsSpec)

end Rows
end Go.Proofs.YtagjddnpaahebaaDoor
