/-
  DERIVED. GIVEN WITH THE SEED: THE CARDS: each row of YtdbmpcdianjaaaaDoorRows.lean that lists a variable, with what it lists TIED to the program's text (the seventh form; the later family's looks); each row that meets fmt, with fmt's text TOLD by the authors' own Lean function (tested against real Go, not proved from fmt's source: count such statements apart). THE CARD IS WHAT COUNTS. Prove the row's statement (the work); the ties are given (YtdbmpcdianjaaaaDoorTie.lean); close each card by the builder's one call (the guide's Derived/Test/ToyasCard.lean, 'card_holds'). Laid BY PROGRAM, IN A SANDBOX (cutbox-door.mjs). By AI agents, Wed Nov 11 2026. No macro, syntax, notation, axiom, sorry.
-/
import Derived.Test.YtdbmpcdianjaaaaDoorRows
import GoSem.ClaimSeven
namespace Go.Proofs.YtdbmpcdianjaaaaDoor
namespace Rows

/-- THE TIED CARD OF 'transhumancelaw08.CheckTells'. -/
def checkTellsCard : Claim7 := { stood := { row := checkTellsRow, standIns := [], harness := (true, "127f2dd05815963eb50c646cbe3276b5938bfbb8132f50451705b88bfe968fa3"), looks := false }, kinds := [], alts := [], laidByText := true, laidKinds := [.data], laidTests := true, laidLooks := .later }
def CheckTellsCardSaid : Prop := Claim7.holds Tryd.pinned (.plain (OpenSpec.ofChange checkTellsSpec)) checkTellsCard

/-- THE TIED CARD OF 'transhumancelaw08.CheckSafe'. -/
def checkSafeCard : Claim7 := { stood := { row := checkSafeRow, standIns := [], harness := (true, "127f2dd05815963eb50c646cbe3276b5938bfbb8132f50451705b88bfe968fa3"), looks := false }, kinds := [], alts := [], laidByText := true, laidKinds := [.data], laidTests := true, laidLooks := .later }
def CheckSafeCardSaid : Prop := Claim7.holds Tryd.pinned (.plain (OpenSpec.ofChange checkSafeSpec)) checkSafeCard

/-- THE TIED CARD OF 'transhumancelaw08.CheckReach'. -/
def checkReachCard : Claim7 := { stood := { row := checkReachRow, standIns := [], harness := (true, "127f2dd05815963eb50c646cbe3276b5938bfbb8132f50451705b88bfe968fa3"), looks := false }, kinds := [], alts := [], laidByText := true, laidKinds := [.data], laidTests := true, laidLooks := .later }
def CheckReachCardSaid : Prop := Claim7.holds Tryd.pinned (.plain (OpenSpec.ofChange checkReachSpec)) checkReachCard

/-- THE TIED CARD OF 'transhumancelaw08.CheckMore'. -/
def checkMoreCard : Claim7 := { stood := { row := checkMoreRow, standIns := [], harness := (true, "127f2dd05815963eb50c646cbe3276b5938bfbb8132f50451705b88bfe968fa3"), looks := false }, kinds := [], alts := [], laidByText := true, laidKinds := [.data], laidTests := true, laidLooks := .later }
def CheckMoreCardSaid : Prop := Claim7.holds Tryd.pinned (.plain (OpenSpec.ofChange checkMoreSpec)) checkMoreCard

/-- THE TIED CARD OF 'transhumancelaw08.CheckFields'. -/
def checkFieldsCard : Claim7 := { stood := { row := checkFieldsRow, standIns := [], harness := (true, "127f2dd05815963eb50c646cbe3276b5938bfbb8132f50451705b88bfe968fa3"), looks := false }, kinds := [], alts := [], laidByText := true, laidKinds := [.data], laidTests := true, laidLooks := .later }
def CheckFieldsCardSaid : Prop := Claim7.holds Tryd.pinned (.plain (OpenSpec.ofChange checkFieldsSpec)) checkFieldsCard

/-- THE TIED CARD OF 'transhumancelaw08.CheckTail'. -/
def checkTailCard : Claim7 := { stood := { row := checkTailRow, standIns := [], harness := (true, "127f2dd05815963eb50c646cbe3276b5938bfbb8132f50451705b88bfe968fa3"), looks := false }, kinds := [], alts := [], laidByText := true, laidKinds := [.data], laidTests := true, laidLooks := .later }
def CheckTailCardSaid : Prop := Claim7.holds Tryd.pinned (.plain (OpenSpec.ofChange checkTailSpec)) checkTailCard

/-- THE SECOND FORM's CARD OF 'transhumancelaw08.CheckTells'. -/
def checkTellsUptoCard : Claim7 := { stood := { row := checkTellsUptoRow, standIns := [], harness := (true, "127f2dd05815963eb50c646cbe3276b5938bfbb8132f50451705b88bfe968fa3"), looks := false }, kinds := [], alts := [], laidByText := true, laidKinds := [.data], laidTests := true, laidLooks := .later }
def CheckTellsUptoCardSaid : Prop := Claim7.holds Tryd.pinned (.plain (OpenSpec.upto checkTellsSpec)) checkTellsUptoCard

/-- THE SECOND FORM's CARD OF 'transhumancelaw08.CheckSafe'. -/
def checkSafeUptoCard : Claim7 := { stood := { row := checkSafeUptoRow, standIns := [], harness := (true, "127f2dd05815963eb50c646cbe3276b5938bfbb8132f50451705b88bfe968fa3"), looks := false }, kinds := [], alts := [], laidByText := true, laidKinds := [.data], laidTests := true, laidLooks := .later }
def CheckSafeUptoCardSaid : Prop := Claim7.holds Tryd.pinned (.plain (OpenSpec.upto checkSafeSpec)) checkSafeUptoCard

/-- THE SECOND FORM's CARD OF 'transhumancelaw08.CheckReach'. -/
def checkReachUptoCard : Claim7 := { stood := { row := checkReachUptoRow, standIns := [], harness := (true, "127f2dd05815963eb50c646cbe3276b5938bfbb8132f50451705b88bfe968fa3"), looks := false }, kinds := [], alts := [], laidByText := true, laidKinds := [.data], laidTests := true, laidLooks := .later }
def CheckReachUptoCardSaid : Prop := Claim7.holds Tryd.pinned (.plain (OpenSpec.upto checkReachSpec)) checkReachUptoCard

/-- THE SECOND FORM's CARD OF 'transhumancelaw08.CheckMore'. -/
def checkMoreUptoCard : Claim7 := { stood := { row := checkMoreUptoRow, standIns := [], harness := (true, "127f2dd05815963eb50c646cbe3276b5938bfbb8132f50451705b88bfe968fa3"), looks := false }, kinds := [], alts := [], laidByText := true, laidKinds := [.data], laidTests := true, laidLooks := .later }
def CheckMoreUptoCardSaid : Prop := Claim7.holds Tryd.pinned (.plain (OpenSpec.upto checkMoreSpec)) checkMoreUptoCard

/-- THE SECOND FORM's CARD OF 'transhumancelaw08.CheckFields'. -/
def checkFieldsUptoCard : Claim7 := { stood := { row := checkFieldsUptoRow, standIns := [], harness := (true, "127f2dd05815963eb50c646cbe3276b5938bfbb8132f50451705b88bfe968fa3"), looks := false }, kinds := [], alts := [], laidByText := true, laidKinds := [.data], laidTests := true, laidLooks := .later }
def CheckFieldsUptoCardSaid : Prop := Claim7.holds Tryd.pinned (.plain (OpenSpec.upto checkFieldsSpec)) checkFieldsUptoCard

/-- THE SECOND FORM's CARD OF 'transhumancelaw08.CheckTail'. -/
def checkTailUptoCard : Claim7 := { stood := { row := checkTailUptoRow, standIns := [], harness := (true, "127f2dd05815963eb50c646cbe3276b5938bfbb8132f50451705b88bfe968fa3"), looks := false }, kinds := [], alts := [], laidByText := true, laidKinds := [.data], laidTests := true, laidLooks := .later }
def CheckTailUptoCardSaid : Prop := Claim7.holds Tryd.pinned (.plain (OpenSpec.upto checkTailSpec)) checkTailUptoCard
end Rows
end Go.Proofs.YtdbmpcdianjaaaaDoor
