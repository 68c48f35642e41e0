/-
  DERIVED. GIVEN WITH THE SEED: THE CARDS: each row of YtcegdgmbponapabGreatDoorRows.lean that lists a variable, with what it lists TIED to the program's text (the seventh form; the later family's looks); each row that meets fmt, with fmt's text TOLD by the authors' own Lean function (tested against real Go, not proved from fmt's source: count such statements apart). THE CARD IS WHAT COUNTS. Prove the row's statement (the work); the ties are given (YtcegdgmbponapabGreatDoorTie.lean); close each card by the builder's one call (the guide's Derived/Test/ToyasCard.lean, 'card_holds'). Laid BY PROGRAM, IN A SANDBOX (cutbox-door.mjs). By AI agents, Wed Nov 11 2026. No macro, syntax, notation, axiom, sorry.
-/
import Derived.Test.YtcegdgmbponapabGreatDoorRows
import GoSem.ClaimSeven
namespace Go.Proofs.YtcegdgmbponapabGreatDoor
namespace Rows

/-- THE TIED CARD OF 'cofferkeep.Bent'. -/
def bentCard : Claim7 := { stood := { row := bentRow, standIns := [], harness := (true, "5b987be992158039639045c342d9e7974dd80080b680d5a66869a7228ff82415"), looks := true }, kinds := [], alts := [], laidByText := true, laidKinds := [.data, .data, .data, .handle], laidTests := true, laidLooks := .later }
def BentCardSaid : Prop := Claim7.holds Tryz.pinned (.plain (OpenSpec.ofChange bentSpec)) bentCard

/-- THE TIED CARD OF 'cofferkeep.Refused'. -/
def refusedCard : Claim7 := { stood := { row := refusedRow, standIns := [], harness := (true, "5b987be992158039639045c342d9e7974dd80080b680d5a66869a7228ff82415"), looks := true }, kinds := [], alts := [], laidByText := true, laidKinds := [.data, .data, .data, .handle], laidTests := true, laidLooks := .later }
def RefusedCardSaid : Prop := Claim7.holds Tryz.pinned (.plain (OpenSpec.ofChange refusedSpec)) refusedCard

/-- THE SECOND FORM's CARD OF 'cofferkeep.Bent'. -/
def bentUptoCard : Claim7 := { stood := { row := bentUptoRow, standIns := [], harness := (true, "5b987be992158039639045c342d9e7974dd80080b680d5a66869a7228ff82415"), looks := true }, kinds := [], alts := [], laidByText := true, laidKinds := [.data, .data, .data, .handle], laidTests := true, laidLooks := .later }
def BentUptoCardSaid : Prop := Claim7.holds Tryz.pinned (.plain (OpenSpec.upto bentSpec)) bentUptoCard

/-- THE SECOND FORM's CARD OF 'cofferkeep.Refused'. -/
def refusedUptoCard : Claim7 := { stood := { row := refusedUptoRow, standIns := [], harness := (true, "5b987be992158039639045c342d9e7974dd80080b680d5a66869a7228ff82415"), looks := true }, kinds := [], alts := [], laidByText := true, laidKinds := [.data, .data, .data, .handle], laidTests := true, laidLooks := .later }
def RefusedUptoCardSaid : Prop := Claim7.holds Tryz.pinned (.plain (OpenSpec.upto refusedSpec)) refusedUptoCard
end Rows
end Go.Proofs.YtcegdgmbponapabGreatDoor
