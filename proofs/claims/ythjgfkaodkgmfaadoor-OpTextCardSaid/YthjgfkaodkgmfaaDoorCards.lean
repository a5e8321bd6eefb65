/-
  DERIVED. GIVEN WITH THE SEED: THE CARDS: each row of YthjgfkaodkgmfaaDoorRows.lean that lists a variable, with what it lists TIED to the program's text (the seventh form; the later family's looks); each row that meets fmt, with fmt's text TOLD by the authors' own Lean function (tested against real Go, not proved from fmt's source: count such statements apart). THE CARD IS WHAT COUNTS. Prove the row's statement (the work); the ties are given (YthjgfkaodkgmfaaDoorTie.lean); close each card by the builder's one call (the guide's Derived/Test/ToyasCard.lean, 'card_holds'). Laid BY PROGRAM, IN A SANDBOX (cutbox-door.mjs). By AI agents, Wed Nov 11 2026. No macro, syntax, notation, axiom, sorry.
-/
import Derived.Test.YthjgfkaodkgmfaaDoorRows
import GoSem.ClaimSeven
namespace Go.Proofs.YthjgfkaodkgmfaaDoor
namespace Rows

/-- THE TIED CARD OF 'transhumancelaw06.OpTells'. -/
def opTellsCard : Claim7 := { stood := { row := opTellsRow, standIns := [], harness := (true, "e828717559300c34725ab9719a298dc0e4d6842712a0d326f6e1d05499ed95b0"), looks := false }, kinds := [], alts := [], laidByText := true, laidKinds := [.data], laidTests := true, laidLooks := .later }
def OpTellsCardSaid : Prop := Claim7.holds Tryd.pinned (.plain (OpenSpec.ofChange opTellsSpec)) opTellsCard

/-- THE TIED CARD OF 'transhumancelaw06.OpNames'. -/
def opNamesCard : Claim7 := { stood := { row := opNamesRow, standIns := [], harness := (true, "e828717559300c34725ab9719a298dc0e4d6842712a0d326f6e1d05499ed95b0"), looks := false }, kinds := [], alts := [], laidByText := true, laidKinds := [.data], laidTests := true, laidLooks := .later }
def OpNamesCardSaid : Prop := Claim7.holds Tryd.pinned (.plain (OpenSpec.ofChange opNamesSpec)) opNamesCard

/-- THE TIED CARD OF 'transhumancelaw06.OpFields'. -/
def opFieldsCard : Claim7 := { stood := { row := opFieldsRow, standIns := [], harness := (true, "e828717559300c34725ab9719a298dc0e4d6842712a0d326f6e1d05499ed95b0"), looks := false }, kinds := [], alts := [], laidByText := true, laidKinds := [.data], laidTests := true, laidLooks := .later }
def OpFieldsCardSaid : Prop := Claim7.holds Tryd.pinned (.plain (OpenSpec.ofChange opFieldsSpec)) opFieldsCard

/-- THE TIED CARD OF 'transhumancelaw06.OpStacks'. -/
def opStacksCard : Claim7 := { stood := { row := opStacksRow, standIns := [], harness := (true, "e828717559300c34725ab9719a298dc0e4d6842712a0d326f6e1d05499ed95b0"), looks := false }, kinds := [], alts := [], laidByText := true, laidKinds := [.data], laidTests := true, laidLooks := .later }
def OpStacksCardSaid : Prop := Claim7.holds Tryd.pinned (.plain (OpenSpec.ofChange opStacksSpec)) opStacksCard

/-- THE TIED CARD OF 'transhumancelaw06.OpText'. -/
def opTextCard : Claim7 := { stood := { row := opTextRow, standIns := [], harness := (true, "e828717559300c34725ab9719a298dc0e4d6842712a0d326f6e1d05499ed95b0"), looks := false }, kinds := [], alts := [], laidByText := true, laidKinds := [.data], laidTests := true, laidLooks := .later }
def OpTextCardSaid : Prop := Claim7.holds Tryd.pinned (.plain (OpenSpec.ofChange opTextSpec)) opTextCard

/-- THE SECOND FORM's CARD OF 'transhumancelaw06.OpTells'. -/
def opTellsUptoCard : Claim7 := { stood := { row := opTellsUptoRow, standIns := [], harness := (true, "e828717559300c34725ab9719a298dc0e4d6842712a0d326f6e1d05499ed95b0"), looks := false }, kinds := [], alts := [], laidByText := true, laidKinds := [.data], laidTests := true, laidLooks := .later }
def OpTellsUptoCardSaid : Prop := Claim7.holds Tryd.pinned (.plain (OpenSpec.upto opTellsSpec)) opTellsUptoCard

/-- THE SECOND FORM's CARD OF 'transhumancelaw06.OpNames'. -/
def opNamesUptoCard : Claim7 := { stood := { row := opNamesUptoRow, standIns := [], harness := (true, "e828717559300c34725ab9719a298dc0e4d6842712a0d326f6e1d05499ed95b0"), looks := false }, kinds := [], alts := [], laidByText := true, laidKinds := [.data], laidTests := true, laidLooks := .later }
def OpNamesUptoCardSaid : Prop := Claim7.holds Tryd.pinned (.plain (OpenSpec.upto opNamesSpec)) opNamesUptoCard

/-- THE SECOND FORM's CARD OF 'transhumancelaw06.OpFields'. -/
def opFieldsUptoCard : Claim7 := { stood := { row := opFieldsUptoRow, standIns := [], harness := (true, "e828717559300c34725ab9719a298dc0e4d6842712a0d326f6e1d05499ed95b0"), looks := false }, kinds := [], alts := [], laidByText := true, laidKinds := [.data], laidTests := true, laidLooks := .later }
def OpFieldsUptoCardSaid : Prop := Claim7.holds Tryd.pinned (.plain (OpenSpec.upto opFieldsSpec)) opFieldsUptoCard

/-- THE SECOND FORM's CARD OF 'transhumancelaw06.OpStacks'. -/
def opStacksUptoCard : Claim7 := { stood := { row := opStacksUptoRow, standIns := [], harness := (true, "e828717559300c34725ab9719a298dc0e4d6842712a0d326f6e1d05499ed95b0"), looks := false }, kinds := [], alts := [], laidByText := true, laidKinds := [.data], laidTests := true, laidLooks := .later }
def OpStacksUptoCardSaid : Prop := Claim7.holds Tryd.pinned (.plain (OpenSpec.upto opStacksSpec)) opStacksUptoCard

/-- THE SECOND FORM's CARD OF 'transhumancelaw06.OpText'. -/
def opTextUptoCard : Claim7 := { stood := { row := opTextUptoRow, standIns := [], harness := (true, "e828717559300c34725ab9719a298dc0e4d6842712a0d326f6e1d05499ed95b0"), looks := false }, kinds := [], alts := [], laidByText := true, laidKinds := [.data], laidTests := true, laidLooks := .later }
def OpTextUptoCardSaid : Prop := Claim7.holds Tryd.pinned (.plain (OpenSpec.upto opTextSpec)) opTextUptoCard
end Rows
end Go.Proofs.YthjgfkaodkgmfaaDoor
