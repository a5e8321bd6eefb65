/-
  DERIVED. GIVEN WITH THE SEED: THE CARDS: each row of YtjnbockdfjhfgaaDoorRows.lean that lists a variable, with what it lists TIED to the program's text (the seventh form; the later family's looks); each row that meets fmt, with fmt's text TOLD by the authors' own Lean function (tested against real Go, not proved from fmt's source: count such statements apart). THE CARD IS WHAT COUNTS. Prove the row's statement (the work); the ties are given (YtjnbockdfjhfgaaDoorTie.lean); close each card by the builder's one call (the guide's Derived/Test/ToyasCard.lean, 'card_holds'). Laid BY PROGRAM, IN A SANDBOX (cutbox-door.mjs). By AI agents, Wed Nov 11 2026. No macro, syntax, notation, axiom, sorry.
-/
import Derived.Test.YtjnbockdfjhfgaaDoorRows
import GoSem.ClaimSeven
namespace Go.Proofs.YtjnbockdfjhfgaaDoor
namespace Rows

/-- THE TIED CARD OF 'transhumancelaw09.FrameSafe'. -/
def frameSafeCard : Claim7 := { stood := { row := frameSafeRow, standIns := [], harness := (true, "b4b411c0fbe49b6c7d9b19ce3a6b41094cfcc8c34ae91f1bb32258245042ac86"), looks := false }, kinds := [], alts := [], laidByText := true, laidKinds := [.data, .data], laidTests := true, laidLooks := .later }
def FrameSafeCardSaid : Prop := Claim7.holds Tryd.pinned (.plain (OpenSpec.ofChange frameSafeSpec)) frameSafeCard

/-- THE TIED CARD OF 'transhumancelaw09.FrameStill'. -/
def frameStillCard : Claim7 := { stood := { row := frameStillRow, standIns := [], harness := (true, "b4b411c0fbe49b6c7d9b19ce3a6b41094cfcc8c34ae91f1bb32258245042ac86"), looks := false }, kinds := [], alts := [], laidByText := true, laidKinds := [.data, .data], laidTests := true, laidLooks := .later }
def FrameStillCardSaid : Prop := Claim7.holds Tryd.pinned (.plain (OpenSpec.ofChange frameStillSpec)) frameStillCard

/-- THE TIED CARD OF 'transhumancelaw09.FrameGives'. -/
def frameGivesCard : Claim7 := { stood := { row := frameGivesRow, standIns := [], harness := (true, "b4b411c0fbe49b6c7d9b19ce3a6b41094cfcc8c34ae91f1bb32258245042ac86"), looks := false }, kinds := [], alts := [], laidByText := true, laidKinds := [.data, .data], laidTests := true, laidLooks := .later }
def FrameGivesCardSaid : Prop := Claim7.holds Tryd.pinned (.plain (OpenSpec.ofChange frameGivesSpec)) frameGivesCard

/-- THE TIED CARD OF 'transhumancelaw09.FrameJoins'. -/
def frameJoinsCard : Claim7 := { stood := { row := frameJoinsRow, standIns := [], harness := (true, "b4b411c0fbe49b6c7d9b19ce3a6b41094cfcc8c34ae91f1bb32258245042ac86"), looks := false }, kinds := [], alts := [], laidByText := true, laidKinds := [.data, .data], laidTests := true, laidLooks := .later }
def FrameJoinsCardSaid : Prop := Claim7.holds Tryd.pinned (.plain (OpenSpec.ofChange frameJoinsSpec)) frameJoinsCard

/-- THE SECOND FORM's CARD OF 'transhumancelaw09.FrameSafe'. -/
def frameSafeUptoCard : Claim7 := { stood := { row := frameSafeUptoRow, standIns := [], harness := (true, "b4b411c0fbe49b6c7d9b19ce3a6b41094cfcc8c34ae91f1bb32258245042ac86"), looks := false }, kinds := [], alts := [], laidByText := true, laidKinds := [.data, .data], laidTests := true, laidLooks := .later }
def FrameSafeUptoCardSaid : Prop := Claim7.holds Tryd.pinned (.plain (OpenSpec.upto frameSafeSpec)) frameSafeUptoCard

/-- THE SECOND FORM's CARD OF 'transhumancelaw09.FrameStill'. -/
def frameStillUptoCard : Claim7 := { stood := { row := frameStillUptoRow, standIns := [], harness := (true, "b4b411c0fbe49b6c7d9b19ce3a6b41094cfcc8c34ae91f1bb32258245042ac86"), looks := false }, kinds := [], alts := [], laidByText := true, laidKinds := [.data, .data], laidTests := true, laidLooks := .later }
def FrameStillUptoCardSaid : Prop := Claim7.holds Tryd.pinned (.plain (OpenSpec.upto frameStillSpec)) frameStillUptoCard

/-- THE SECOND FORM's CARD OF 'transhumancelaw09.FrameGives'. -/
def frameGivesUptoCard : Claim7 := { stood := { row := frameGivesUptoRow, standIns := [], harness := (true, "b4b411c0fbe49b6c7d9b19ce3a6b41094cfcc8c34ae91f1bb32258245042ac86"), looks := false }, kinds := [], alts := [], laidByText := true, laidKinds := [.data, .data], laidTests := true, laidLooks := .later }
def FrameGivesUptoCardSaid : Prop := Claim7.holds Tryd.pinned (.plain (OpenSpec.upto frameGivesSpec)) frameGivesUptoCard

/-- THE SECOND FORM's CARD OF 'transhumancelaw09.FrameJoins'. -/
def frameJoinsUptoCard : Claim7 := { stood := { row := frameJoinsUptoRow, standIns := [], harness := (true, "b4b411c0fbe49b6c7d9b19ce3a6b41094cfcc8c34ae91f1bb32258245042ac86"), looks := false }, kinds := [], alts := [], laidByText := true, laidKinds := [.data, .data], laidTests := true, laidLooks := .later }
def FrameJoinsUptoCardSaid : Prop := Claim7.holds Tryd.pinned (.plain (OpenSpec.upto frameJoinsSpec)) frameJoinsUptoCard
end Rows
end Go.Proofs.YtjnbockdfjhfgaaDoor
