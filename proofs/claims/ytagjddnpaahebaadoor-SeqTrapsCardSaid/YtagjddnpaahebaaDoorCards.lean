/-
  DERIVED. GIVEN WITH THE SEED: THE CARDS: each row of YtagjddnpaahebaaDoorRows.lean that lists a variable, with what it lists TIED to the program's text (the seventh form; the later family's looks); each row that meets fmt, with fmt's text TOLD by the authors' own Lean function (tested against real Go, not proved from fmt's source: count such statements apart). THE CARD IS WHAT COUNTS. Prove the row's statement (the work); the ties are given (YtagjddnpaahebaaDoorTie.lean); close each card by the builder's one call (the guide's Derived/Test/ToyasCard.lean, 'card_holds'). Laid BY PROGRAM, IN A SANDBOX (cutbox-door.mjs). By AI agents, Wed Nov 11 2026. No macro, syntax, notation, axiom, sorry.
-/
import Derived.Test.YtagjddnpaahebaaDoorRows
import GoSem.ClaimSeven
namespace Go.Proofs.YtagjddnpaahebaaDoor
namespace Rows

/-- THE TIED CARD OF 'transhumancelaw10.SeqFuel'. -/
def seqFuelCard : Claim7 := { stood := { row := seqFuelRow, standIns := [], harness := (true, "a6b0113f625ef001f4a64b2110c0fdda64a3d4cfef230dd46787a16cf5e75eaf"), looks := true }, kinds := [], alts := [], laidByText := true, laidKinds := [.data, .data], laidTests := true, laidLooks := .later }
def SeqFuelCardSaid : Prop := Claim7.holds Tryd.pinned (.plain (OpenSpec.ofChange seqFuelSpec)) seqFuelCard

/-- THE TIED CARD OF 'transhumancelaw10.SeqTraps'. -/
def seqTrapsCard : Claim7 := { stood := { row := seqTrapsRow, standIns := [], harness := (true, "a6b0113f625ef001f4a64b2110c0fdda64a3d4cfef230dd46787a16cf5e75eaf"), looks := true }, kinds := [], alts := [], laidByText := true, laidKinds := [.data, .data], laidTests := true, laidLooks := .later }
def SeqTrapsCardSaid : Prop := Claim7.holds Tryd.pinned (.plain (OpenSpec.ofChange seqTrapsSpec)) seqTrapsCard

/-- THE SECOND FORM's CARD OF 'transhumancelaw10.SeqFuel'. -/
def seqFuelUptoCard : Claim7 := { stood := { row := seqFuelUptoRow, standIns := [], harness := (true, "a6b0113f625ef001f4a64b2110c0fdda64a3d4cfef230dd46787a16cf5e75eaf"), looks := true }, kinds := [], alts := [], laidByText := true, laidKinds := [.data, .data], laidTests := true, laidLooks := .later }
def SeqFuelUptoCardSaid : Prop := Claim7.holds Tryd.pinned (.plain (OpenSpec.upto seqFuelSpec)) seqFuelUptoCard

/-- THE SECOND FORM's CARD OF 'transhumancelaw10.SeqTraps'. -/
def seqTrapsUptoCard : Claim7 := { stood := { row := seqTrapsUptoRow, standIns := [], harness := (true, "a6b0113f625ef001f4a64b2110c0fdda64a3d4cfef230dd46787a16cf5e75eaf"), looks := true }, kinds := [], alts := [], laidByText := true, laidKinds := [.data, .data], laidTests := true, laidLooks := .later }
def SeqTrapsUptoCardSaid : Prop := Claim7.holds Tryd.pinned (.plain (OpenSpec.upto seqTrapsSpec)) seqTrapsUptoCard
end Rows
end Go.Proofs.YtagjddnpaahebaaDoor
