/-
  NARROWER THAN 'FOR EVERY INPUT', by the rows' own cells (each row's printed sentence says how): OpTells: laid · OpNames: laid · OpFields: laid · OpStacks: laid · OpText: laid.
  DERIVED. THE GIVEN ROWS OF THIS SEAT. 5 by the template 'for every input the law returns true; each argument reads behind the call as it read before'; 0 by the template 'total and deterministic' (their statements: YthjgfkaodkgmfaaDoorTotals.lean).
  GIVEN WITH THE SEED: the statements are not yours to turn. If you find one false, say at which input.
  Laid BY PROGRAM, IN A SANDBOX (cutbox-rows.mjs): the forced cells as the released guide's own fill.sh prints them over the translation c9a87d8c95224d11… (all of the seat's roots in one cut). By AI agents, Wed Nov 11 2026. No macro, syntax, notation, axiom, sorry.
-/
import Derived.Test.YthjgfkaodkgmfaaDoorChecked
import GoSem.Claim
import GoSem.ClaimJoined
import GoSem.ClaimMapViews
import Derived.JoinedTies
import Derived.KernelRfl
namespace Go.Proofs.YthjgfkaodkgmfaaDoor
/- THE CELL 'sum', in the pinned program and in every row, IS THE sha256 OF THE DUMP (.gsa) THAT YthjgfkaodkgmfaaDoorProg.lean LOADS. Nothing in Lean hashes anything: it is a label: what it is worth is what the hold of that sum in a sandbox is worth. -/
noncomputable def Tryd.pinned : Pinned := { name := "ythjgfkaodkgmfaadoor", sum := "c9a87d8c95224d119ecee0588c33579b25463ae5454a893173dd922fc364a12a", checked := Tryd.checked }
namespace Rows
def none {H : Type} : Left H := { results := [], args := [] }

/- WHAT THE LISTED PACKAGE-LEVEL VARIABLES READ AS WHEN THE CALL BEGINS. Each datum BY PROGRAM (the guide's laid-datum.mjs) off the statement by which the dump's own 'gosem.cut.vars' lays the variable. In a bare row this is a premise. The card (YthjgfkaodkgmfaaDoorCards.lean) ties it to the program's text. -/
def laid_transhumance_op_operations {H : Type} : DataW H := .agg [.agg [.lit (.string [112, 117, 115, 104]), .lit (.int .i64 2), .lit (.int .i64 0), .lit (.int .i64 1), .lit (.int .i64 0), .lit (.int .i64 250), .lit (.int .i64 250)], .agg [.lit (.string [108, 111, 97, 100]), .lit (.int .i64 1), .lit (.int .i64 0), .lit (.int .i64 1), .lit (.int .i64 0), .lit (.int .i64 15), .lit (.int .i64 0)], .agg [.lit (.string [115, 116, 111, 114, 101]), .lit (.int .i64 1), .lit (.int .i64 1), .lit (.int .i64 0), .lit (.int .i64 0), .lit (.int .i64 15), .lit (.int .i64 0)], .agg [.lit (.string [97, 100, 100]), .lit (.int .i64 0), .lit (.int .i64 2), .lit (.int .i64 1), .lit (.int .i64 0), .lit (.int .i64 0), .lit (.int .i64 0)], .agg [.lit (.string [115, 117, 98]), .lit (.int .i64 0), .lit (.int .i64 2), .lit (.int .i64 1), .lit (.int .i64 0), .lit (.int .i64 0), .lit (.int .i64 0)], .agg [.lit (.string [109, 117, 108]), .lit (.int .i64 0), .lit (.int .i64 2), .lit (.int .i64 1), .lit (.int .i64 0), .lit (.int .i64 0), .lit (.int .i64 0)], .agg [.lit (.string [100, 105, 118]), .lit (.int .i64 0), .lit (.int .i64 2), .lit (.int .i64 1), .lit (.int .i64 0), .lit (.int .i64 0), .lit (.int .i64 0)], .agg [.lit (.string [99, 111, 110, 106]), .lit (.int .i64 0), .lit (.int .i64 1), .lit (.int .i64 1), .lit (.int .i64 0), .lit (.int .i64 0), .lit (.int .i64 0)], .agg [.lit (.string [100, 117, 112]), .lit (.int .i64 0), .lit (.int .i64 1), .lit (.int .i64 2), .lit (.int .i64 0), .lit (.int .i64 0), .lit (.int .i64 0)], .agg [.lit (.string [100, 114, 111, 112]), .lit (.int .i64 0), .lit (.int .i64 1), .lit (.int .i64 0), .lit (.int .i64 0), .lit (.int .i64 0), .lit (.int .i64 0)], .agg [.lit (.string [106, 117, 109, 112]), .lit (.int .i64 1), .lit (.int .i64 0), .lit (.int .i64 0), .lit (.int .i64 0), .lit (.int .i64 199), .lit (.int .i64 0)], .agg [.lit (.string [122, 101, 114, 111]), .lit (.int .i64 1), .lit (.int .i64 1), .lit (.int .i64 0), .lit (.int .i64 0), .lit (.int .i64 199), .lit (.int .i64 0)], .agg [.lit (.string [114, 97, 110, 100]), .lit (.int .i64 0), .lit (.int .i64 0), .lit (.int .i64 1), .lit (.int .i64 0), .lit (.int .i64 0), .lit (.int .i64 0)], .agg [.lit (.string [115, 112, 97, 119, 110]), .lit (.int .i64 2), .lit (.int .i64 0), .lit (.int .i64 0), .lit (.int .i64 0), .lit (.int .i64 15), .lit (.int .i64 7)], .agg [.lit (.string [106, 111, 105, 110]), .lit (.int .i64 1), .lit (.int .i64 0), .lit (.int .i64 1), .lit (.int .i64 0), .lit (.int .i64 7), .lit (.int .i64 0)], .agg [.lit (.string [114, 101, 116]), .lit (.int .i64 0), .lit (.int .i64 1), .lit (.int .i64 0), .lit (.int .i64 0), .lit (.int .i64 0), .lit (.int .i64 0)], .agg [.lit (.string [116, 114, 97, 112]), .lit (.int .i64 1), .lit (.int .i64 0), .lit (.int .i64 0), .lit (.int .i64 16), .lit (.int .i64 255), .lit (.int .i64 0)]]

/-- 'transhumancelaw06.OpTells': WHATEVER THE INPUT: true; the input reads as it did. -/
def opTellsSpec : ChangeSpec := { name := "opTells", fn := fun _ => fun
  | [d1, d2, d3] => { results := [.lit (.bool true)], args := [d1, d2, d3] }
  | _ => none }
def opTellsRow : OpenClaim := { program := "ythjgfkaodkgmfaadoor", sum := "c9a87d8c95224d119ecee0588c33579b25463ae5454a893173dd922fc364a12a", func := "transhumance/transhumancelaw06.OpTells", spec := "opTells", unfollowed := true, recurses := true, named := ["transhumance/op.operations"], apart := false, laid := [("transhumance/op.operations", laid_transhumance_op_operations)] }
def OpTellsSaid : Prop := opTellsRow.holds Tryd.pinned (OpenSpec.ofChange opTellsSpec)

/-- ITS FALSE NEIGHBOUR: 'it returns false'. Refute it at one input. -/
def opTellsWrong : ChangeSpec := { name := "opTells", fn := fun _ => fun
  | [d1, d2, d3] => { results := [.lit (.bool false)], args := [d1, d2, d3] }
  | _ => none }
def OpTellsWrongFalsely : Prop := opTellsRow.holds Tryd.pinned (OpenSpec.ofChange opTellsWrong)

/-- 'transhumancelaw06.OpNames': WHATEVER THE INPUT: true; the input reads as it did. -/
def opNamesSpec : ChangeSpec := { name := "opNames", fn := fun _ => fun
  | [d1, d2] => { results := [.lit (.bool true)], args := [d1, d2] }
  | _ => none }
def opNamesRow : OpenClaim := { program := "ythjgfkaodkgmfaadoor", sum := "c9a87d8c95224d119ecee0588c33579b25463ae5454a893173dd922fc364a12a", func := "transhumance/transhumancelaw06.OpNames", spec := "opNames", unfollowed := true, recurses := true, named := ["transhumance/op.operations"], apart := false, laid := [("transhumance/op.operations", laid_transhumance_op_operations)] }
def OpNamesSaid : Prop := opNamesRow.holds Tryd.pinned (OpenSpec.ofChange opNamesSpec)

/-- ITS FALSE NEIGHBOUR: 'it returns false'. Refute it at one input. -/
def opNamesWrong : ChangeSpec := { name := "opNames", fn := fun _ => fun
  | [d1, d2] => { results := [.lit (.bool false)], args := [d1, d2] }
  | _ => none }
def OpNamesWrongFalsely : Prop := opNamesRow.holds Tryd.pinned (OpenSpec.ofChange opNamesWrong)

/-- 'transhumancelaw06.OpFields': WHATEVER THE INPUT: true; the input reads as it did. -/
def opFieldsSpec : ChangeSpec := { name := "opFields", fn := fun _ => fun
  | [d] => { results := [.lit (.bool true)], args := [d] }
  | _ => none }
def opFieldsRow : OpenClaim := { program := "ythjgfkaodkgmfaadoor", sum := "c9a87d8c95224d119ecee0588c33579b25463ae5454a893173dd922fc364a12a", func := "transhumance/transhumancelaw06.OpFields", spec := "opFields", unfollowed := true, recurses := true, named := ["transhumance/op.operations"], apart := false, laid := [("transhumance/op.operations", laid_transhumance_op_operations)] }
def OpFieldsSaid : Prop := opFieldsRow.holds Tryd.pinned (OpenSpec.ofChange opFieldsSpec)

/-- ITS FALSE NEIGHBOUR: 'it returns false'. Refute it at one input. -/
def opFieldsWrong : ChangeSpec := { name := "opFields", fn := fun _ => fun
  | [d] => { results := [.lit (.bool false)], args := [d] }
  | _ => none }
def OpFieldsWrongFalsely : Prop := opFieldsRow.holds Tryd.pinned (OpenSpec.ofChange opFieldsWrong)

/-- 'transhumancelaw06.OpStacks': WHATEVER THE INPUT: true; the input reads as it did. -/
def opStacksSpec : ChangeSpec := { name := "opStacks", fn := fun _ => fun
  | [d] => { results := [.lit (.bool true)], args := [d] }
  | _ => none }
def opStacksRow : OpenClaim := { program := "ythjgfkaodkgmfaadoor", sum := "c9a87d8c95224d119ecee0588c33579b25463ae5454a893173dd922fc364a12a", func := "transhumance/transhumancelaw06.OpStacks", spec := "opStacks", unfollowed := true, recurses := true, named := ["transhumance/op.operations"], apart := false, laid := [("transhumance/op.operations", laid_transhumance_op_operations)] }
def OpStacksSaid : Prop := opStacksRow.holds Tryd.pinned (OpenSpec.ofChange opStacksSpec)

/-- ITS FALSE NEIGHBOUR: 'it returns false'. Refute it at one input. -/
def opStacksWrong : ChangeSpec := { name := "opStacks", fn := fun _ => fun
  | [d] => { results := [.lit (.bool false)], args := [d] }
  | _ => none }
def OpStacksWrongFalsely : Prop := opStacksRow.holds Tryd.pinned (OpenSpec.ofChange opStacksWrong)

/-- 'transhumancelaw06.OpText': WHATEVER THE INPUT: true; the input reads as it did. -/
def opTextSpec : ChangeSpec := { name := "opText", fn := fun _ => fun
  | [d1, d2] => { results := [.lit (.bool true)], args := [d1, d2] }
  | _ => none }
def opTextRow : OpenClaim := { program := "ythjgfkaodkgmfaadoor", sum := "c9a87d8c95224d119ecee0588c33579b25463ae5454a893173dd922fc364a12a", func := "transhumance/transhumancelaw06.OpText", spec := "opText", unfollowed := true, recurses := true, named := ["transhumance/op.operations"], apart := false, laid := [("transhumance/op.operations", laid_transhumance_op_operations)] }
def OpTextSaid : Prop := opTextRow.holds Tryd.pinned (OpenSpec.ofChange opTextSpec)

/-- ITS FALSE NEIGHBOUR: 'it returns false'. Refute it at one input. -/
def opTextWrong : ChangeSpec := { name := "opText", fn := fun _ => fun
  | [d1, d2] => { results := [.lit (.bool false)], args := [d1, d2] }
  | _ => none }
def OpTextWrongFalsely : Prop := opTextRow.holds Tryd.pinned (OpenSpec.ofChange opTextWrong)

/- THE SECOND FORM. 'bulk': how many values and letters a reading holds, each counted each time it is reached (what is shared counts as often as it is met; a slice's spare places count too). A statement '..UptoSaid' is the law's where the arguments, and the package variables that the reading takes, are together of bulk at most 1048576: NARROWER than '..Said'. Prove '..Said' where nothing that the law and all that it calls make is longer than what came in: it says more and counts as full. Else prove '..UptoSaid'. A law counts once. -/
mutual
def uptoBulk {H : Type} : DataW H → Nat
  | .lit (.string bytes) => bytes.length + 1
  | .lit _ => 1
  | .nil => 1
  | .ptr d => uptoBulk d + 1
  | .slice elems spare => uptoBulkAll elems + uptoBulkAll spare + 1
  | .agg parts => uptoBulkAll parts + 1
  | .iface _ d => uptoBulk d + 1
  | .map entries => uptoBulkEntries entries + 1
  | .held _ => 1
def uptoBulkAll {H : Type} : List (DataW H) → Nat
  | [] => 0
  | d :: r => uptoBulk d + uptoBulkAll r
def uptoBulkEntries {H : Type} : List (Lit × DataW H) → Nat
  | [] => 0
  | x :: r => uptoBulkEntry x + uptoBulkEntries r
def uptoBulkEntry {H : Type} : Lit × DataW H → Nat
  | (.string bytes, d) => bytes.length + uptoBulk d + 1
  | (_, d) => uptoBulk d + 1
 end
def uptoSmall : (H : Type) → List (DataW H) → Bool := fun _ ds => decide (uptoBulkAll ds ≤ 1048576)
def OpenSpec.upto (s : _root_.Go.ChangeSpec) : _root_.Go.OpenSpec := { _root_.Go.OpenSpec.ofChange s with cond := some uptoSmall }

/-- 'transhumancelaw06.OpTells', WHERE WHAT IT READS IS OF BULK AT MOST 1048576: true; the input reads as it did. -/
def opTellsUptoRow : OpenClaim := { program := "ythjgfkaodkgmfaadoor", sum := "c9a87d8c95224d119ecee0588c33579b25463ae5454a893173dd922fc364a12a", func := "transhumance/transhumancelaw06.OpTells", spec := "opTells", unfollowed := true, recurses := true, named := ["transhumance/op.operations"], apart := false, laid := [("transhumance/op.operations", laid_transhumance_op_operations)], narrowed := true }
def OpTellsUptoSaid : Prop := opTellsUptoRow.holds Tryd.pinned (OpenSpec.upto opTellsSpec)

/-- 'transhumancelaw06.OpNames', WHERE WHAT IT READS IS OF BULK AT MOST 1048576: true; the input reads as it did. -/
def opNamesUptoRow : OpenClaim := { program := "ythjgfkaodkgmfaadoor", sum := "c9a87d8c95224d119ecee0588c33579b25463ae5454a893173dd922fc364a12a", func := "transhumance/transhumancelaw06.OpNames", spec := "opNames", unfollowed := true, recurses := true, named := ["transhumance/op.operations"], apart := false, laid := [("transhumance/op.operations", laid_transhumance_op_operations)], narrowed := true }
def OpNamesUptoSaid : Prop := opNamesUptoRow.holds Tryd.pinned (OpenSpec.upto opNamesSpec)

/-- 'transhumancelaw06.OpFields', WHERE WHAT IT READS IS OF BULK AT MOST 1048576: true; the input reads as it did. -/
def opFieldsUptoRow : OpenClaim := { program := "ythjgfkaodkgmfaadoor", sum := "c9a87d8c95224d119ecee0588c33579b25463ae5454a893173dd922fc364a12a", func := "transhumance/transhumancelaw06.OpFields", spec := "opFields", unfollowed := true, recurses := true, named := ["transhumance/op.operations"], apart := false, laid := [("transhumance/op.operations", laid_transhumance_op_operations)], narrowed := true }
def OpFieldsUptoSaid : Prop := opFieldsUptoRow.holds Tryd.pinned (OpenSpec.upto opFieldsSpec)

/-- 'transhumancelaw06.OpStacks', WHERE WHAT IT READS IS OF BULK AT MOST 1048576: true; the input reads as it did. -/
def opStacksUptoRow : OpenClaim := { program := "ythjgfkaodkgmfaadoor", sum := "c9a87d8c95224d119ecee0588c33579b25463ae5454a893173dd922fc364a12a", func := "transhumance/transhumancelaw06.OpStacks", spec := "opStacks", unfollowed := true, recurses := true, named := ["transhumance/op.operations"], apart := false, laid := [("transhumance/op.operations", laid_transhumance_op_operations)], narrowed := true }
def OpStacksUptoSaid : Prop := opStacksUptoRow.holds Tryd.pinned (OpenSpec.upto opStacksSpec)

/-- 'transhumancelaw06.OpText', WHERE WHAT IT READS IS OF BULK AT MOST 1048576: true; the input reads as it did. -/
def opTextUptoRow : OpenClaim := { program := "ythjgfkaodkgmfaadoor", sum := "c9a87d8c95224d119ecee0588c33579b25463ae5454a893173dd922fc364a12a", func := "transhumance/transhumancelaw06.OpText", spec := "opText", unfollowed := true, recurses := true, named := ["transhumance/op.operations"], apart := false, laid := [("transhumance/op.operations", laid_transhumance_op_operations)], narrowed := true }
def OpTextUptoSaid : Prop := opTextUptoRow.holds Tryd.pinned (OpenSpec.upto opTextSpec)

end Rows
end Go.Proofs.YthjgfkaodkgmfaaDoor
