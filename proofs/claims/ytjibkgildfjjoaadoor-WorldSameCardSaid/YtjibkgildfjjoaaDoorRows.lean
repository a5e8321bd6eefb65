/-
  NARROWER THAN 'FOR EVERY INPUT', by the rows' own cells (each row's printed sentence says how): WorldReady: laid · WorldSame: laid · WorldFresh: laid.
  DERIVED. THE GIVEN ROWS OF THIS SEAT. 3 by the template 'for every input the law returns true; each argument reads behind the call as it read before'; 0 by the template 'total and deterministic' (their statements: YtjibkgildfjjoaaDoorTotals.lean).
  GIVEN WITH THE SEED: the statements are not yours to turn. If you find one false, say at which input.
  Laid BY PROGRAM, IN A SANDBOX (cutbox-rows.mjs): the forced cells as the released guide's own fill.sh prints them over the translation 3b36f0818709c96e… (all of the seat's roots in one cut). By AI agents, Wed Nov 11 2026. No macro, syntax, notation, axiom, sorry.
-/
import Derived.Test.YtjibkgildfjjoaaDoorChecked
import GoSem.Claim
import GoSem.ClaimJoined
import GoSem.ClaimMapViews
import Derived.JoinedTies
import Derived.KernelRfl
namespace Go.Proofs.YtjibkgildfjjoaaDoor
/- THE CELL 'sum', in the pinned program and in every row, IS THE sha256 OF THE DUMP (.gsa) THAT YtjibkgildfjjoaaDoorProg.lean LOADS. Nothing in Lean hashes anything: it is a label: what it is worth is what the hold of that sum in a sandbox is worth. -/
noncomputable def Tryd.pinned : Pinned := { name := "ytjibkgildfjjoaadoor", sum := "3b36f0818709c96e396fbd3905fd1e8fd636ffdd480109b9e36ae53df87b1cf2", checked := Tryd.checked }
namespace Rows
def none {H : Type} : Left H := { results := [], args := [] }

/- WHAT THE LISTED PACKAGE-LEVEL VARIABLES READ AS WHEN THE CALL BEGINS. Each datum BY PROGRAM (the guide's laid-datum.mjs) off the statement by which the dump's own 'gosem.cut.vars' lays the variable. In a bare row this is a premise. The card (YtjibkgildfjjoaaDoorCards.lean) ties it to the program's text. -/
def laid_transhumance_op_operations {H : Type} : DataW H := .agg [.agg [.lit (.string [112, 117, 115, 104]), .lit (.int .i64 2), .lit (.int .i64 0), .lit (.int .i64 1), .lit (.int .i64 0), .lit (.int .i64 250), .lit (.int .i64 250)], .agg [.lit (.string [108, 111, 97, 100]), .lit (.int .i64 1), .lit (.int .i64 0), .lit (.int .i64 1), .lit (.int .i64 0), .lit (.int .i64 15), .lit (.int .i64 0)], .agg [.lit (.string [115, 116, 111, 114, 101]), .lit (.int .i64 1), .lit (.int .i64 1), .lit (.int .i64 0), .lit (.int .i64 0), .lit (.int .i64 15), .lit (.int .i64 0)], .agg [.lit (.string [97, 100, 100]), .lit (.int .i64 0), .lit (.int .i64 2), .lit (.int .i64 1), .lit (.int .i64 0), .lit (.int .i64 0), .lit (.int .i64 0)], .agg [.lit (.string [115, 117, 98]), .lit (.int .i64 0), .lit (.int .i64 2), .lit (.int .i64 1), .lit (.int .i64 0), .lit (.int .i64 0), .lit (.int .i64 0)], .agg [.lit (.string [109, 117, 108]), .lit (.int .i64 0), .lit (.int .i64 2), .lit (.int .i64 1), .lit (.int .i64 0), .lit (.int .i64 0), .lit (.int .i64 0)], .agg [.lit (.string [100, 105, 118]), .lit (.int .i64 0), .lit (.int .i64 2), .lit (.int .i64 1), .lit (.int .i64 0), .lit (.int .i64 0), .lit (.int .i64 0)], .agg [.lit (.string [99, 111, 110, 106]), .lit (.int .i64 0), .lit (.int .i64 1), .lit (.int .i64 1), .lit (.int .i64 0), .lit (.int .i64 0), .lit (.int .i64 0)], .agg [.lit (.string [100, 117, 112]), .lit (.int .i64 0), .lit (.int .i64 1), .lit (.int .i64 2), .lit (.int .i64 0), .lit (.int .i64 0), .lit (.int .i64 0)], .agg [.lit (.string [100, 114, 111, 112]), .lit (.int .i64 0), .lit (.int .i64 1), .lit (.int .i64 0), .lit (.int .i64 0), .lit (.int .i64 0), .lit (.int .i64 0)], .agg [.lit (.string [106, 117, 109, 112]), .lit (.int .i64 1), .lit (.int .i64 0), .lit (.int .i64 0), .lit (.int .i64 0), .lit (.int .i64 199), .lit (.int .i64 0)], .agg [.lit (.string [122, 101, 114, 111]), .lit (.int .i64 1), .lit (.int .i64 1), .lit (.int .i64 0), .lit (.int .i64 0), .lit (.int .i64 199), .lit (.int .i64 0)], .agg [.lit (.string [114, 97, 110, 100]), .lit (.int .i64 0), .lit (.int .i64 0), .lit (.int .i64 1), .lit (.int .i64 0), .lit (.int .i64 0), .lit (.int .i64 0)], .agg [.lit (.string [115, 112, 97, 119, 110]), .lit (.int .i64 2), .lit (.int .i64 0), .lit (.int .i64 0), .lit (.int .i64 0), .lit (.int .i64 15), .lit (.int .i64 7)], .agg [.lit (.string [106, 111, 105, 110]), .lit (.int .i64 1), .lit (.int .i64 0), .lit (.int .i64 1), .lit (.int .i64 0), .lit (.int .i64 7), .lit (.int .i64 0)], .agg [.lit (.string [114, 101, 116]), .lit (.int .i64 0), .lit (.int .i64 1), .lit (.int .i64 0), .lit (.int .i64 0), .lit (.int .i64 0), .lit (.int .i64 0)], .agg [.lit (.string [116, 114, 97, 112]), .lit (.int .i64 1), .lit (.int .i64 0), .lit (.int .i64 0), .lit (.int .i64 16), .lit (.int .i64 255), .lit (.int .i64 0)]]
def laid_transhumance_frame_nobody {H : Type} : DataW H := .agg [.lit (.int .i64 (-1)), .lit (.int .i64 0)]
def laid_transhumance_world_noRef {H : Type} : DataW H := .agg [.lit (.int .i64 (-1)), .lit (.int .i64 0)]

/-- 'transhumancelaw13.WorldReady': WHATEVER THE INPUT: true; the input reads as it did. -/
def worldReadySpec : ChangeSpec := { name := "worldReady", fn := fun _ => fun
  | [d1, d2] => { results := [.lit (.bool true)], args := [d1, d2] }
  | _ => none }
def worldReadyRow : OpenClaim := { program := "ytjibkgildfjjoaadoor", sum := "3b36f0818709c96e396fbd3905fd1e8fd636ffdd480109b9e36ae53df87b1cf2", func := "transhumance/transhumancelaw13.WorldReady", spec := "worldReady", unfollowed := true, recurses := true, named := ["transhumance/op.operations", "transhumance/frame.nobody", "transhumance/world.noRef"], apart := false, laid := [("transhumance/op.operations", laid_transhumance_op_operations), ("transhumance/frame.nobody", laid_transhumance_frame_nobody), ("transhumance/world.noRef", laid_transhumance_world_noRef)] }
def WorldReadySaid : Prop := worldReadyRow.holds Tryd.pinned (OpenSpec.ofChange worldReadySpec)

/-- ITS FALSE NEIGHBOUR: 'it returns false'. Refute it at one input. -/
def worldReadyWrong : ChangeSpec := { name := "worldReady", fn := fun _ => fun
  | [d1, d2] => { results := [.lit (.bool false)], args := [d1, d2] }
  | _ => none }
def WorldReadyWrongFalsely : Prop := worldReadyRow.holds Tryd.pinned (OpenSpec.ofChange worldReadyWrong)

/-- 'transhumancelaw13.WorldSame': WHATEVER THE INPUT: true; the input reads as it did. -/
def worldSameSpec : ChangeSpec := { name := "worldSame", fn := fun _ => fun
  | [d1, d2] => { results := [.lit (.bool true)], args := [d1, d2] }
  | _ => none }
def worldSameRow : OpenClaim := { program := "ytjibkgildfjjoaadoor", sum := "3b36f0818709c96e396fbd3905fd1e8fd636ffdd480109b9e36ae53df87b1cf2", func := "transhumance/transhumancelaw13.WorldSame", spec := "worldSame", unfollowed := true, recurses := true, named := ["transhumance/op.operations", "transhumance/frame.nobody", "transhumance/world.noRef"], apart := false, laid := [("transhumance/op.operations", laid_transhumance_op_operations), ("transhumance/frame.nobody", laid_transhumance_frame_nobody), ("transhumance/world.noRef", laid_transhumance_world_noRef)] }
def WorldSameSaid : Prop := worldSameRow.holds Tryd.pinned (OpenSpec.ofChange worldSameSpec)

/-- ITS FALSE NEIGHBOUR: 'it returns false'. Refute it at one input. -/
def worldSameWrong : ChangeSpec := { name := "worldSame", fn := fun _ => fun
  | [d1, d2] => { results := [.lit (.bool false)], args := [d1, d2] }
  | _ => none }
def WorldSameWrongFalsely : Prop := worldSameRow.holds Tryd.pinned (OpenSpec.ofChange worldSameWrong)

/-- 'transhumancelaw13.WorldFresh': WHATEVER THE INPUT: true; the input reads as it did. -/
def worldFreshSpec : ChangeSpec := { name := "worldFresh", fn := fun _ => fun
  | [d1, d2] => { results := [.lit (.bool true)], args := [d1, d2] }
  | _ => none }
def worldFreshRow : OpenClaim := { program := "ytjibkgildfjjoaadoor", sum := "3b36f0818709c96e396fbd3905fd1e8fd636ffdd480109b9e36ae53df87b1cf2", func := "transhumance/transhumancelaw13.WorldFresh", spec := "worldFresh", unfollowed := true, recurses := true, named := ["transhumance/op.operations", "transhumance/frame.nobody", "transhumance/world.noRef"], apart := false, laid := [("transhumance/op.operations", laid_transhumance_op_operations), ("transhumance/frame.nobody", laid_transhumance_frame_nobody), ("transhumance/world.noRef", laid_transhumance_world_noRef)] }
def WorldFreshSaid : Prop := worldFreshRow.holds Tryd.pinned (OpenSpec.ofChange worldFreshSpec)

/-- ITS FALSE NEIGHBOUR: 'it returns false'. Refute it at one input. -/
def worldFreshWrong : ChangeSpec := { name := "worldFresh", fn := fun _ => fun
  | [d1, d2] => { results := [.lit (.bool false)], args := [d1, d2] }
  | _ => none }
def WorldFreshWrongFalsely : Prop := worldFreshRow.holds Tryd.pinned (OpenSpec.ofChange worldFreshWrong)

/- THE SECOND FORM. 'bulk': how many values and letters a reading holds, each counted each time it is reached (what is shared counts as often as it is met; a slice's spare places count too). A statement '..UptoSaid' is the law's where the arguments, and the package variables that the reading takes, are together of bulk at most 1048576: NARROWER than '..Said'. Prove '..Said' where nothing that the law and all that it calls make is longer than what came in: it says more and counts as full. Else prove '..UptoSaid'. A law counts once. -/
mutual
def uptoBulk {H : Type} : DataW H → Nat
  | .lit (.string bytes) => bytes.length + 1
  | .lit _ => 1
  | .nil => 1
  | .ptr d => uptoBulk d + 1
  | .slice elems spare => uptoBulkAll elems + uptoBulkAll spare + 1
  | .agg parts => uptoBulkAll parts + 1
  | .iface _ d => uptoBulk d + 1
  | .map entries => uptoBulkEntries entries + 1
  | .held _ => 1
def uptoBulkAll {H : Type} : List (DataW H) → Nat
  | [] => 0
  | d :: r => uptoBulk d + uptoBulkAll r
def uptoBulkEntries {H : Type} : List (Lit × DataW H) → Nat
  | [] => 0
  | x :: r => uptoBulkEntry x + uptoBulkEntries r
def uptoBulkEntry {H : Type} : Lit × DataW H → Nat
  | (.string bytes, d) => bytes.length + uptoBulk d + 1
  | (_, d) => uptoBulk d + 1
 end
def uptoSmall : (H : Type) → List (DataW H) → Bool := fun _ ds => decide (uptoBulkAll ds ≤ 1048576)
def OpenSpec.upto (s : _root_.Go.ChangeSpec) : _root_.Go.OpenSpec := { _root_.Go.OpenSpec.ofChange s with cond := some uptoSmall }

/-- 'transhumancelaw13.WorldReady', WHERE WHAT IT READS IS OF BULK AT MOST 1048576: true; the input reads as it did. -/
def worldReadyUptoRow : OpenClaim := { program := "ytjibkgildfjjoaadoor", sum := "3b36f0818709c96e396fbd3905fd1e8fd636ffdd480109b9e36ae53df87b1cf2", func := "transhumance/transhumancelaw13.WorldReady", spec := "worldReady", unfollowed := true, recurses := true, named := ["transhumance/op.operations", "transhumance/frame.nobody", "transhumance/world.noRef"], apart := false, laid := [("transhumance/op.operations", laid_transhumance_op_operations), ("transhumance/frame.nobody", laid_transhumance_frame_nobody), ("transhumance/world.noRef", laid_transhumance_world_noRef)], narrowed := true }
def WorldReadyUptoSaid : Prop := worldReadyUptoRow.holds Tryd.pinned (OpenSpec.upto worldReadySpec)

/-- 'transhumancelaw13.WorldSame', WHERE WHAT IT READS IS OF BULK AT MOST 1048576: true; the input reads as it did. -/
def worldSameUptoRow : OpenClaim := { program := "ytjibkgildfjjoaadoor", sum := "3b36f0818709c96e396fbd3905fd1e8fd636ffdd480109b9e36ae53df87b1cf2", func := "transhumance/transhumancelaw13.WorldSame", spec := "worldSame", unfollowed := true, recurses := true, named := ["transhumance/op.operations", "transhumance/frame.nobody", "transhumance/world.noRef"], apart := false, laid := [("transhumance/op.operations", laid_transhumance_op_operations), ("transhumance/frame.nobody", laid_transhumance_frame_nobody), ("transhumance/world.noRef", laid_transhumance_world_noRef)], narrowed := true }
def WorldSameUptoSaid : Prop := worldSameUptoRow.holds Tryd.pinned (OpenSpec.upto worldSameSpec)

/-- 'transhumancelaw13.WorldFresh', WHERE WHAT IT READS IS OF BULK AT MOST 1048576: true; the input reads as it did. -/
def worldFreshUptoRow : OpenClaim := { program := "ytjibkgildfjjoaadoor", sum := "3b36f0818709c96e396fbd3905fd1e8fd636ffdd480109b9e36ae53df87b1cf2", func := "transhumance/transhumancelaw13.WorldFresh", spec := "worldFresh", unfollowed := true, recurses := true, named := ["transhumance/op.operations", "transhumance/frame.nobody", "transhumance/world.noRef"], apart := false, laid := [("transhumance/op.operations", laid_transhumance_op_operations), ("transhumance/frame.nobody", laid_transhumance_frame_nobody), ("transhumance/world.noRef", laid_transhumance_world_noRef)], narrowed := true }
def WorldFreshUptoSaid : Prop := worldFreshUptoRow.holds Tryd.pinned (OpenSpec.upto worldFreshSpec)

end Rows
end Go.Proofs.YtjibkgildfjjoaaDoor
