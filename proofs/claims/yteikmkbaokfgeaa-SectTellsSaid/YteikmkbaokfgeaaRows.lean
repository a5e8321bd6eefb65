/-
  No cell of these rows narrows 'for every input' (looked for: loops, veiled, ifaces, maps, wideKeys, modest, calm, conditions, laid).
  DERIVED. THE GIVEN ROWS OF THIS SEAT. 6 by the template 'for every input the law returns true; each argument reads behind the call as it read before'; 0 by the template 'total and deterministic' (their statements: YteikmkbaokfgeaaTotals.lean).
  GIVEN WITH THE SEED: the statements are not yours to turn. If you find one false, say at which input.
  Laid BY PROGRAM, IN A SANDBOX (cutbox-rows.mjs): the forced cells as the released guide's own fill.sh prints them over the translation 5a6ae54e9d41d9df… (all of the seat's roots in one cut). By AI agents, Wed Nov 11 2026. No macro, syntax, notation, axiom, sorry.
-/
import Derived.Test.YteikmkbaokfgeaaChecked
import GoSem.Claim
import GoSem.ClaimJoined
import GoSem.ClaimMapViews
import Derived.JoinedTies
import Derived.KernelRfl
namespace Go.Proofs.Yteikmkbaokfgeaa
/- THE CELL 'sum', in the pinned program and in every row, IS THE sha256 OF THE DUMP (.gsa) THAT YteikmkbaokfgeaaProg.lean LOADS. Nothing in Lean hashes anything: it is a label: what it is worth is what the hold of that sum in a sandbox is worth. -/
noncomputable def Try.pinned : Pinned := { name := "yteikmkbaokfgeaa", sum := "5a6ae54e9d41d9df8de64060b935e147cac04a20c79982f7ce7a5d9a273d098a", checked := Try.checked }
namespace Rows
def none {H : Type} : Left H := { results := [], args := [] }

/-- 'transhumancelaw03.SectTells': WHATEVER THE INPUT: true; the input reads as it did. -/
def sectTellsSpec : ChangeSpec := { name := "sectTells", fn := fun _ => fun
  | [d1, d2, d3] => { results := [.lit (.bool true)], args := [d1, d2, d3] }
  | _ => none }
def sectTellsRow : OpenClaim := { program := "yteikmkbaokfgeaa", sum := "5a6ae54e9d41d9df8de64060b935e147cac04a20c79982f7ce7a5d9a273d098a", func := "transhumance/transhumancelaw03.SectTells", spec := "sectTells", inPlace := ["internal/abi.NoEscape"], recurses := true, apart := false }
def SectTellsSaid : Prop := sectTellsRow.holds Try.pinned (OpenSpec.ofChange sectTellsSpec)

/-- ITS FALSE NEIGHBOUR: 'it returns false'. Refute it at one input. -/
def sectTellsWrong : ChangeSpec := { name := "sectTells", fn := fun _ => fun
  | [d1, d2, d3] => { results := [.lit (.bool false)], args := [d1, d2, d3] }
  | _ => none }
def SectTellsWrongFalsely : Prop := sectTellsRow.holds Try.pinned (OpenSpec.ofChange sectTellsWrong)

/-- 'transhumancelaw03.SectBack': WHATEVER THE INPUT: true; the input reads as it did. -/
def sectBackSpec : ChangeSpec := { name := "sectBack", fn := fun _ => fun
  | [d1, d2] => { results := [.lit (.bool true)], args := [d1, d2] }
  | _ => none }
def sectBackRow : OpenClaim := { program := "yteikmkbaokfgeaa", sum := "5a6ae54e9d41d9df8de64060b935e147cac04a20c79982f7ce7a5d9a273d098a", func := "transhumance/transhumancelaw03.SectBack", spec := "sectBack", inPlace := ["internal/abi.NoEscape"], apart := false }
def SectBackSaid : Prop := sectBackRow.holds Try.pinned (OpenSpec.ofChange sectBackSpec)

/-- ITS FALSE NEIGHBOUR: 'it returns false'. Refute it at one input. -/
def sectBackWrong : ChangeSpec := { name := "sectBack", fn := fun _ => fun
  | [d1, d2] => { results := [.lit (.bool false)], args := [d1, d2] }
  | _ => none }
def SectBackWrongFalsely : Prop := sectBackRow.holds Try.pinned (OpenSpec.ofChange sectBackWrong)

/-- 'transhumancelaw03.SectBurst': WHATEVER THE INPUT: true; the input reads as it did. -/
def sectBurstSpec : ChangeSpec := { name := "sectBurst", fn := fun _ => fun
  | [d1, d2, d3] => { results := [.lit (.bool true)], args := [d1, d2, d3] }
  | _ => none }
def sectBurstRow : OpenClaim := { program := "yteikmkbaokfgeaa", sum := "5a6ae54e9d41d9df8de64060b935e147cac04a20c79982f7ce7a5d9a273d098a", func := "transhumance/transhumancelaw03.SectBurst", spec := "sectBurst", inPlace := ["internal/abi.NoEscape"], apart := false }
def SectBurstSaid : Prop := sectBurstRow.holds Try.pinned (OpenSpec.ofChange sectBurstSpec)

/-- ITS FALSE NEIGHBOUR: 'it returns false'. Refute it at one input. -/
def sectBurstWrong : ChangeSpec := { name := "sectBurst", fn := fun _ => fun
  | [d1, d2, d3] => { results := [.lit (.bool false)], args := [d1, d2, d3] }
  | _ => none }
def SectBurstWrongFalsely : Prop := sectBurstRow.holds Try.pinned (OpenSpec.ofChange sectBurstWrong)

/-- 'transhumancelaw03.SectCut': WHATEVER THE INPUT: true; the input reads as it did. -/
def sectCutSpec : ChangeSpec := { name := "sectCut", fn := fun _ => fun
  | [d1, d2, d3] => { results := [.lit (.bool true)], args := [d1, d2, d3] }
  | _ => none }
def sectCutRow : OpenClaim := { program := "yteikmkbaokfgeaa", sum := "5a6ae54e9d41d9df8de64060b935e147cac04a20c79982f7ce7a5d9a273d098a", func := "transhumance/transhumancelaw03.SectCut", spec := "sectCut", inPlace := ["internal/abi.NoEscape"], apart := false }
def SectCutSaid : Prop := sectCutRow.holds Try.pinned (OpenSpec.ofChange sectCutSpec)

/-- ITS FALSE NEIGHBOUR: 'it returns false'. Refute it at one input. -/
def sectCutWrong : ChangeSpec := { name := "sectCut", fn := fun _ => fun
  | [d1, d2, d3] => { results := [.lit (.bool false)], args := [d1, d2, d3] }
  | _ => none }
def SectCutWrongFalsely : Prop := sectCutRow.holds Try.pinned (OpenSpec.ofChange sectCutWrong)

/-- 'transhumancelaw03.SectBoth': WHATEVER THE INPUT: true; the input reads as it did. -/
def sectBothSpec : ChangeSpec := { name := "sectBoth", fn := fun _ => fun
  | [d1, d2] => { results := [.lit (.bool true)], args := [d1, d2] }
  | _ => none }
def sectBothRow : OpenClaim := { program := "yteikmkbaokfgeaa", sum := "5a6ae54e9d41d9df8de64060b935e147cac04a20c79982f7ce7a5d9a273d098a", func := "transhumance/transhumancelaw03.SectBoth", spec := "sectBoth", inPlace := ["internal/abi.NoEscape"], apart := false }
def SectBothSaid : Prop := sectBothRow.holds Try.pinned (OpenSpec.ofChange sectBothSpec)

/-- ITS FALSE NEIGHBOUR: 'it returns false'. Refute it at one input. -/
def sectBothWrong : ChangeSpec := { name := "sectBoth", fn := fun _ => fun
  | [d1, d2] => { results := [.lit (.bool false)], args := [d1, d2] }
  | _ => none }
def SectBothWrongFalsely : Prop := sectBothRow.holds Try.pinned (OpenSpec.ofChange sectBothWrong)

/-- 'transhumancelaw03.SectEach': WHATEVER THE INPUT: true; the input reads as it did. -/
def sectEachSpec : ChangeSpec := { name := "sectEach", fn := fun _ => fun
  | [d1, d2] => { results := [.lit (.bool true)], args := [d1, d2] }
  | _ => none }
def sectEachRow : OpenClaim := { program := "yteikmkbaokfgeaa", sum := "5a6ae54e9d41d9df8de64060b935e147cac04a20c79982f7ce7a5d9a273d098a", func := "transhumance/transhumancelaw03.SectEach", spec := "sectEach", inPlace := ["internal/abi.NoEscape"], apart := false }
def SectEachSaid : Prop := sectEachRow.holds Try.pinned (OpenSpec.ofChange sectEachSpec)

/-- ITS FALSE NEIGHBOUR: 'it returns false'. Refute it at one input. -/
def sectEachWrong : ChangeSpec := { name := "sectEach", fn := fun _ => fun
  | [d1, d2] => { results := [.lit (.bool false)], args := [d1, d2] }
  | _ => none }
def SectEachWrongFalsely : Prop := sectEachRow.holds Try.pinned (OpenSpec.ofChange sectEachWrong)

/- THE SECOND FORM. 'bulk': how many values and letters a reading holds, each counted each time it is reached (what is shared counts as often as it is met; a slice's spare places count too). A statement '..UptoSaid' is the law's where the arguments, and the package variables that the reading takes, are together of bulk at most 1048576: NARROWER than '..Said'. Prove '..Said' where nothing that the law and all that it calls make is longer than what came in: it says more and counts as full. Else prove '..UptoSaid'. A law counts once. -/
mutual
def uptoBulk {H : Type} : DataW H → Nat
  | .lit (.string bytes) => bytes.length + 1
  | .lit _ => 1
  | .nil => 1
  | .ptr d => uptoBulk d + 1
  | .slice elems spare => uptoBulkAll elems + uptoBulkAll spare + 1
  | .agg parts => uptoBulkAll parts + 1
  | .iface _ d => uptoBulk d + 1
  | .map entries => uptoBulkEntries entries + 1
  | .held _ => 1
def uptoBulkAll {H : Type} : List (DataW H) → Nat
  | [] => 0
  | d :: r => uptoBulk d + uptoBulkAll r
def uptoBulkEntries {H : Type} : List (Lit × DataW H) → Nat
  | [] => 0
  | x :: r => uptoBulkEntry x + uptoBulkEntries r
def uptoBulkEntry {H : Type} : Lit × DataW H → Nat
  | (.string bytes, d) => bytes.length + uptoBulk d + 1
  | (_, d) => uptoBulk d + 1
 end
def uptoSmall : (H : Type) → List (DataW H) → Bool := fun _ ds => decide (uptoBulkAll ds ≤ 1048576)
def OpenSpec.upto (s : _root_.Go.ChangeSpec) : _root_.Go.OpenSpec := { _root_.Go.OpenSpec.ofChange s with cond := some uptoSmall }

/-- 'transhumancelaw03.SectTells', WHERE WHAT IT READS IS OF BULK AT MOST 1048576: true; the input reads as it did. -/
def sectTellsUptoRow : OpenClaim := { program := "yteikmkbaokfgeaa", sum := "5a6ae54e9d41d9df8de64060b935e147cac04a20c79982f7ce7a5d9a273d098a", func := "transhumance/transhumancelaw03.SectTells", spec := "sectTells", inPlace := ["internal/abi.NoEscape"], recurses := true, apart := false, narrowed := true }
def SectTellsUptoSaid : Prop := sectTellsUptoRow.holds Try.pinned (OpenSpec.upto sectTellsSpec)

/-- 'transhumancelaw03.SectBack', WHERE WHAT IT READS IS OF BULK AT MOST 1048576: true; the input reads as it did. -/
def sectBackUptoRow : OpenClaim := { program := "yteikmkbaokfgeaa", sum := "5a6ae54e9d41d9df8de64060b935e147cac04a20c79982f7ce7a5d9a273d098a", func := "transhumance/transhumancelaw03.SectBack", spec := "sectBack", inPlace := ["internal/abi.NoEscape"], apart := false, narrowed := true }
def SectBackUptoSaid : Prop := sectBackUptoRow.holds Try.pinned (OpenSpec.upto sectBackSpec)

/-- 'transhumancelaw03.SectBurst', WHERE WHAT IT READS IS OF BULK AT MOST 1048576: true; the input reads as it did. -/
def sectBurstUptoRow : OpenClaim := { program := "yteikmkbaokfgeaa", sum := "5a6ae54e9d41d9df8de64060b935e147cac04a20c79982f7ce7a5d9a273d098a", func := "transhumance/transhumancelaw03.SectBurst", spec := "sectBurst", inPlace := ["internal/abi.NoEscape"], apart := false, narrowed := true }
def SectBurstUptoSaid : Prop := sectBurstUptoRow.holds Try.pinned (OpenSpec.upto sectBurstSpec)

/-- 'transhumancelaw03.SectCut', WHERE WHAT IT READS IS OF BULK AT MOST 1048576: true; the input reads as it did. -/
def sectCutUptoRow : OpenClaim := { program := "yteikmkbaokfgeaa", sum := "5a6ae54e9d41d9df8de64060b935e147cac04a20c79982f7ce7a5d9a273d098a", func := "transhumance/transhumancelaw03.SectCut", spec := "sectCut", inPlace := ["internal/abi.NoEscape"], apart := false, narrowed := true }
def SectCutUptoSaid : Prop := sectCutUptoRow.holds Try.pinned (OpenSpec.upto sectCutSpec)

/-- 'transhumancelaw03.SectBoth', WHERE WHAT IT READS IS OF BULK AT MOST 1048576: true; the input reads as it did. -/
def sectBothUptoRow : OpenClaim := { program := "yteikmkbaokfgeaa", sum := "5a6ae54e9d41d9df8de64060b935e147cac04a20c79982f7ce7a5d9a273d098a", func := "transhumance/transhumancelaw03.SectBoth", spec := "sectBoth", inPlace := ["internal/abi.NoEscape"], apart := false, narrowed := true }
def SectBothUptoSaid : Prop := sectBothUptoRow.holds Try.pinned (OpenSpec.upto sectBothSpec)

/-- 'transhumancelaw03.SectEach', WHERE WHAT IT READS IS OF BULK AT MOST 1048576: true; the input reads as it did. -/
def sectEachUptoRow : OpenClaim := { program := "yteikmkbaokfgeaa", sum := "5a6ae54e9d41d9df8de64060b935e147cac04a20c79982f7ce7a5d9a273d098a", func := "transhumance/transhumancelaw03.SectEach", spec := "sectEach", inPlace := ["internal/abi.NoEscape"], apart := false, narrowed := true }
def SectEachUptoSaid : Prop := sectEachUptoRow.holds Try.pinned (OpenSpec.upto sectEachSpec)

end Rows
end Go.Proofs.Yteikmkbaokfgeaa
