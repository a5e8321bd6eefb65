/-
  DERIVED. GIVEN WITH THE SEED: THE CARDS: each row of YtoeinpiekfmbgaaGreatDoorRows.lean that lists a variable, with what it lists TIED to the program's text (the seventh form; the later family's looks); each row that meets fmt, with fmt's text TOLD by the authors' own Lean function (tested against real Go, not proved from fmt's source: count such statements apart). THE CARD IS WHAT COUNTS. Prove the row's statement (the work); the ties are given (YtoeinpiekfmbgaaGreatDoorTie.lean); close each card by the builder's one call (the guide's Derived/Test/ToyasCard.lean, 'card_holds'). Laid BY PROGRAM, IN A SANDBOX (cutbox-door.mjs). By AI agents, Wed Nov 11 2026. No macro, syntax, notation, axiom, sorry.
-/
import Derived.Test.YtoeinpiekfmbgaaGreatDoorRows
import GoSem.ClaimSeven
namespace Go.Proofs.YtoeinpiekfmbgaaGreatDoor
namespace Rows

/-- THE TIED CARD OF 'transhumancelaw10.SeqTells'. -/
def seqTellsCard : Claim7 := { stood := { row := seqTellsRow, standIns := [], harness := (true, "918bc9387f2216fb82b9ad2ef179a61281965eed2c18a69e5bc85a83ae89c7d7"), looks := true }, kinds := [], alts := [], laidByText := true, laidKinds := [.data, .data], laidTests := true, laidLooks := .later }
def SeqTellsCardSaid : Prop := Claim7.holds Tryz.pinned (.plain (OpenSpec.ofChange seqTellsSpec)) seqTellsCard

/-- THE SECOND FORM's CARD OF 'transhumancelaw10.SeqTells'. -/
def seqTellsUptoCard : Claim7 := { stood := { row := seqTellsUptoRow, standIns := [], harness := (true, "918bc9387f2216fb82b9ad2ef179a61281965eed2c18a69e5bc85a83ae89c7d7"), looks := true }, kinds := [], alts := [], laidByText := true, laidKinds := [.data, .data], laidTests := true, laidLooks := .later }
def SeqTellsUptoCardSaid : Prop := Claim7.holds Tryz.pinned (.plain (OpenSpec.upto seqTellsSpec)) seqTellsUptoCard
end Rows
end Go.Proofs.YtoeinpiekfmbgaaGreatDoor
