/-
  DERIVED. GIVEN WITH THE SEED: THE CARDS: each row of YtjibkgildfjjoaaDoorRows.lean that lists a variable, with what it lists TIED to the program's text (the seventh form; the later family's looks); each row that meets fmt, with fmt's text TOLD by the authors' own Lean function (tested against real Go, not proved from fmt's source: count such statements apart). THE CARD IS WHAT COUNTS. Prove the row's statement (the work); the ties are given (YtjibkgildfjjoaaDoorTie.lean); close each card by the builder's one call (the guide's Derived/Test/ToyasCard.lean, 'card_holds'). Laid BY PROGRAM, IN A SANDBOX (cutbox-door.mjs). By AI agents, Wed Nov 11 2026. No macro, syntax, notation, axiom, sorry.
-/
import Derived.Test.YtjibkgildfjjoaaDoorRows
import GoSem.ClaimSeven
namespace Go.Proofs.YtjibkgildfjjoaaDoor
namespace Rows

/-- THE TIED CARD OF 'transhumancelaw13.WorldReady'. -/
def worldReadyCard : Claim7 := { stood := { row := worldReadyRow, standIns := [], harness := (true, "2eb204bb774f897d1d27b8e8e2e5c18fae580962e6968efc4f88c2aa5e8dd518"), looks := false }, kinds := [], alts := [], laidByText := true, laidKinds := [.data, .data, .data], laidTests := true, laidLooks := .later }
def WorldReadyCardSaid : Prop := Claim7.holds Tryd.pinned (.plain (OpenSpec.ofChange worldReadySpec)) worldReadyCard

/-- THE TIED CARD OF 'transhumancelaw13.WorldSame'. -/
def worldSameCard : Claim7 := { stood := { row := worldSameRow, standIns := [], harness := (true, "2eb204bb774f897d1d27b8e8e2e5c18fae580962e6968efc4f88c2aa5e8dd518"), looks := false }, kinds := [], alts := [], laidByText := true, laidKinds := [.data, .data, .data], laidTests := true, laidLooks := .later }
def WorldSameCardSaid : Prop := Claim7.holds Tryd.pinned (.plain (OpenSpec.ofChange worldSameSpec)) worldSameCard

/-- THE TIED CARD OF 'transhumancelaw13.WorldFresh'. -/
def worldFreshCard : Claim7 := { stood := { row := worldFreshRow, standIns := [], harness := (true, "2eb204bb774f897d1d27b8e8e2e5c18fae580962e6968efc4f88c2aa5e8dd518"), looks := false }, kinds := [], alts := [], laidByText := true, laidKinds := [.data, .data, .data], laidTests := true, laidLooks := .later }
def WorldFreshCardSaid : Prop := Claim7.holds Tryd.pinned (.plain (OpenSpec.ofChange worldFreshSpec)) worldFreshCard

/-- THE SECOND FORM's CARD OF 'transhumancelaw13.WorldReady'. -/
def worldReadyUptoCard : Claim7 := { stood := { row := worldReadyUptoRow, standIns := [], harness := (true, "2eb204bb774f897d1d27b8e8e2e5c18fae580962e6968efc4f88c2aa5e8dd518"), looks := false }, kinds := [], alts := [], laidByText := true, laidKinds := [.data, .data, .data], laidTests := true, laidLooks := .later }
def WorldReadyUptoCardSaid : Prop := Claim7.holds Tryd.pinned (.plain (OpenSpec.upto worldReadySpec)) worldReadyUptoCard

/-- THE SECOND FORM's CARD OF 'transhumancelaw13.WorldSame'. -/
def worldSameUptoCard : Claim7 := { stood := { row := worldSameUptoRow, standIns := [], harness := (true, "2eb204bb774f897d1d27b8e8e2e5c18fae580962e6968efc4f88c2aa5e8dd518"), looks := false }, kinds := [], alts := [], laidByText := true, laidKinds := [.data, .data, .data], laidTests := true, laidLooks := .later }
def WorldSameUptoCardSaid : Prop := Claim7.holds Tryd.pinned (.plain (OpenSpec.upto worldSameSpec)) worldSameUptoCard

/-- THE SECOND FORM's CARD OF 'transhumancelaw13.WorldFresh'. -/
def worldFreshUptoCard : Claim7 := { stood := { row := worldFreshUptoRow, standIns := [], harness := (true, "2eb204bb774f897d1d27b8e8e2e5c18fae580962e6968efc4f88c2aa5e8dd518"), looks := false }, kinds := [], alts := [], laidByText := true, laidKinds := [.data, .data, .data], laidTests := true, laidLooks := .later }
def WorldFreshUptoCardSaid : Prop := Claim7.holds Tryd.pinned (.plain (OpenSpec.upto worldFreshSpec)) worldFreshUptoCard
end Rows
end Go.Proofs.YtjibkgildfjjoaaDoor
