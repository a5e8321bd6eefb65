/-
  DERIVED. GIVEN WITH THE SEED: THE CARDS: each row of YtagjddnpaahebaaGreatDoorRows.lean that lists a variable, with what it lists TIED to the program's text (the seventh form; the later family's looks); each row that meets fmt, with fmt's text TOLD by the authors' own Lean function (tested against real Go, not proved from fmt's source: count such statements apart). THE CARD IS WHAT COUNTS. Prove the row's statement (the work); the ties are given (YtagjddnpaahebaaGreatDoorTie.lean); close each card by the builder's one call (the guide's Derived/Test/ToyasCard.lean, 'card_holds'). Laid BY PROGRAM, IN A SANDBOX (cutbox-door.mjs). By AI agents, Wed Nov 11 2026. No macro, syntax, notation, axiom, sorry.
-/
import Derived.Test.YtagjddnpaahebaaGreatDoorRows
import GoSem.ClaimSeven
namespace Go.Proofs.YtagjddnpaahebaaGreatDoor
namespace Rows

/-- THE TIED CARD OF 'transhumancelaw10.SeqTells'. -/
def seqTellsCard : Claim7 := { stood := { row := seqTellsRow, standIns := [], harness := (true, "e4409b263f599389986b033081a2183f9adaeedb8d588c3343f325c2b68c4346"), looks := true }, kinds := [], alts := [], laidByText := true, laidKinds := [.data, .data], laidTests := true, laidLooks := .later }
def SeqTellsCardSaid : Prop := Claim7.holds Tryz.pinned (.plain (OpenSpec.ofChange seqTellsSpec)) seqTellsCard

/-- THE TIED CARD OF 'transhumancelaw10.SeqValue'. -/
def seqValueCard : Claim7 := { stood := { row := seqValueRow, standIns := [], harness := (true, "e4409b263f599389986b033081a2183f9adaeedb8d588c3343f325c2b68c4346"), looks := true }, kinds := [], alts := [], laidByText := true, laidKinds := [.data, .data], laidTests := true, laidLooks := .later }
def SeqValueCardSaid : Prop := Claim7.holds Tryz.pinned (.plain (OpenSpec.ofChange seqValueSpec)) seqValueCard

/-- THE TIED CARD OF 'transhumancelaw10.SeqSum'. -/
def seqSumCard : Claim7 := { stood := { row := seqSumRow, standIns := [], harness := (true, "e4409b263f599389986b033081a2183f9adaeedb8d588c3343f325c2b68c4346"), looks := true }, kinds := [], alts := [], laidByText := true, laidKinds := [.data, .data], laidTests := true, laidLooks := .later }
def SeqSumCardSaid : Prop := Claim7.holds Tryz.pinned (.plain (OpenSpec.ofChange seqSumSpec)) seqSumCard

/-- THE TIED CARD OF 'transhumancelaw10.SeqSeeds'. -/
def seqSeedsCard : Claim7 := { stood := { row := seqSeedsRow, standIns := [], harness := (true, "e4409b263f599389986b033081a2183f9adaeedb8d588c3343f325c2b68c4346"), looks := true }, kinds := [], alts := [], laidByText := true, laidKinds := [.data, .data], laidTests := true, laidLooks := .later }
def SeqSeedsCardSaid : Prop := Claim7.holds Tryz.pinned (.plain (OpenSpec.ofChange seqSeedsSpec)) seqSeedsCard

/-- THE TIED CARD OF 'transhumancelaw10.SeqWraps'. -/
def seqWrapsCard : Claim7 := { stood := { row := seqWrapsRow, standIns := [], harness := (true, "e4409b263f599389986b033081a2183f9adaeedb8d588c3343f325c2b68c4346"), looks := true }, kinds := [], alts := [], laidByText := true, laidKinds := [.data, .data], laidTests := true, laidLooks := .later }
def SeqWrapsCardSaid : Prop := Claim7.holds Tryz.pinned (.plain (OpenSpec.ofChange seqWrapsSpec)) seqWrapsCard

/-- THE SECOND FORM's CARD OF 'transhumancelaw10.SeqTells'. -/
def seqTellsUptoCard : Claim7 := { stood := { row := seqTellsUptoRow, standIns := [], harness := (true, "e4409b263f599389986b033081a2183f9adaeedb8d588c3343f325c2b68c4346"), looks := true }, kinds := [], alts := [], laidByText := true, laidKinds := [.data, .data], laidTests := true, laidLooks := .later }
def SeqTellsUptoCardSaid : Prop := Claim7.holds Tryz.pinned (.plain (OpenSpec.upto seqTellsSpec)) seqTellsUptoCard

/-- THE SECOND FORM's CARD OF 'transhumancelaw10.SeqValue'. -/
def seqValueUptoCard : Claim7 := { stood := { row := seqValueUptoRow, standIns := [], harness := (true, "e4409b263f599389986b033081a2183f9adaeedb8d588c3343f325c2b68c4346"), looks := true }, kinds := [], alts := [], laidByText := true, laidKinds := [.data, .data], laidTests := true, laidLooks := .later }
def SeqValueUptoCardSaid : Prop := Claim7.holds Tryz.pinned (.plain (OpenSpec.upto seqValueSpec)) seqValueUptoCard

/-- THE SECOND FORM's CARD OF 'transhumancelaw10.SeqSum'. -/
def seqSumUptoCard : Claim7 := { stood := { row := seqSumUptoRow, standIns := [], harness := (true, "e4409b263f599389986b033081a2183f9adaeedb8d588c3343f325c2b68c4346"), looks := true }, kinds := [], alts := [], laidByText := true, laidKinds := [.data, .data], laidTests := true, laidLooks := .later }
def SeqSumUptoCardSaid : Prop := Claim7.holds Tryz.pinned (.plain (OpenSpec.upto seqSumSpec)) seqSumUptoCard

/-- THE SECOND FORM's CARD OF 'transhumancelaw10.SeqSeeds'. -/
def seqSeedsUptoCard : Claim7 := { stood := { row := seqSeedsUptoRow, standIns := [], harness := (true, "e4409b263f599389986b033081a2183f9adaeedb8d588c3343f325c2b68c4346"), looks := true }, kinds := [], alts := [], laidByText := true, laidKinds := [.data, .data], laidTests := true, laidLooks := .later }
def SeqSeedsUptoCardSaid : Prop := Claim7.holds Tryz.pinned (.plain (OpenSpec.upto seqSeedsSpec)) seqSeedsUptoCard

/-- THE SECOND FORM's CARD OF 'transhumancelaw10.SeqWraps'. -/
def seqWrapsUptoCard : Claim7 := { stood := { row := seqWrapsUptoRow, standIns := [], harness := (true, "e4409b263f599389986b033081a2183f9adaeedb8d588c3343f325c2b68c4346"), looks := true }, kinds := [], alts := [], laidByText := true, laidKinds := [.data, .data], laidTests := true, laidLooks := .later }
def SeqWrapsUptoCardSaid : Prop := Claim7.holds Tryz.pinned (.plain (OpenSpec.upto seqWrapsSpec)) seqWrapsUptoCard
end Rows
end Go.Proofs.YtagjddnpaahebaaGreatDoor
