/-
  DERIVED. GIVEN WITH THE SEED: THE CARDS: each row of YtcegdgmbponapaaDoorRows.lean that lists a variable, with what it lists TIED to the program's text (the seventh form; the later family's looks); each row that meets fmt, with fmt's text TOLD by the authors' own Lean function (tested against real Go, not proved from fmt's source: count such statements apart). THE CARD IS WHAT COUNTS. Prove the row's statement (the work); the ties are given (YtcegdgmbponapaaDoorTie.lean); close each card by the builder's one call (the guide's Derived/Test/ToyasCard.lean, 'card_holds'). Laid BY PROGRAM, IN A SANDBOX (cutbox-door.mjs). By AI agents, Wed Nov 11 2026. No macro, syntax, notation, axiom, sorry.
-/
import Derived.Test.YtcegdgmbponapaaDoorRows
import GoSem.ClaimSeven
namespace Go.Proofs.YtcegdgmbponapaaDoor
namespace Rows

/-- THE TIED CARD OF 'cofferlaw.Splits'. -/
def splitsCard : Claim7 := { stood := { row := splitsRow, standIns := [], harness := (true, "9d8a4dd696c478789becbb684c184d877bb749ccd7dc298989f0a48b95f58ee0"), looks := true }, kinds := [], alts := [], laidByText := true, laidKinds := [.data, .data, .data, .handle], laidTests := true, laidLooks := .later }
def SplitsCardSaid : Prop := Claim7.holds Tryd.pinned (.plain (OpenSpec.ofChange splitsSpec)) splitsCard

/-- THE TIED CARD OF 'cofferlaw.Joins'. -/
def joinsCard : Claim7 := { stood := { row := joinsRow, standIns := [], harness := (true, "9d8a4dd696c478789becbb684c184d877bb749ccd7dc298989f0a48b95f58ee0"), looks := true }, kinds := [], alts := [], laidByText := true, laidKinds := [.data, .data, .data, .handle], laidTests := true, laidLooks := .later }
def JoinsCardSaid : Prop := Claim7.holds Tryd.pinned (.plain (OpenSpec.ofChange joinsSpec)) joinsCard

/-- THE TIED CARD OF 'cofferkeep.Enough'. -/
def enoughCard : Claim7 := { stood := { row := enoughRow, standIns := [], harness := (true, "9d8a4dd696c478789becbb684c184d877bb749ccd7dc298989f0a48b95f58ee0"), looks := true }, kinds := [], alts := [], laidByText := true, laidKinds := [.data, .data, .data, .handle], laidTests := true, laidLooks := .later }
def EnoughCardSaid : Prop := Claim7.holds Tryd.pinned (.plain (OpenSpec.ofChange enoughSpec)) enoughCard

/-- THE TIED CARD OF 'cofferkeep.Hides'. -/
def hidesCard : Claim7 := { stood := { row := hidesRow, standIns := [], harness := (true, "9d8a4dd696c478789becbb684c184d877bb749ccd7dc298989f0a48b95f58ee0"), looks := true }, kinds := [], alts := [], laidByText := true, laidKinds := [.data, .data, .data, .handle], laidTests := true, laidLooks := .later }
def HidesCardSaid : Prop := Claim7.holds Tryd.pinned (.plain (OpenSpec.ofChange hidesSpec)) hidesCard

/-- THE TIED CARD OF 'cofferkeep.Plain'. -/
def plainCard : Claim7 := { stood := { row := plainRow, standIns := [], harness := (true, "9d8a4dd696c478789becbb684c184d877bb749ccd7dc298989f0a48b95f58ee0"), looks := true }, kinds := [], alts := [], laidByText := true, laidKinds := [.data, .data, .data, .handle], laidTests := true, laidLooks := .later }
def PlainCardSaid : Prop := Claim7.holds Tryd.pinned (.plain (OpenSpec.ofChange plainSpec)) plainCard

/-- THE SECOND FORM's CARD OF 'cofferlaw.Splits'. -/
def splitsUptoCard : Claim7 := { stood := { row := splitsUptoRow, standIns := [], harness := (true, "9d8a4dd696c478789becbb684c184d877bb749ccd7dc298989f0a48b95f58ee0"), looks := true }, kinds := [], alts := [], laidByText := true, laidKinds := [.data, .data, .data, .handle], laidTests := true, laidLooks := .later }
def SplitsUptoCardSaid : Prop := Claim7.holds Tryd.pinned (.plain (OpenSpec.upto splitsSpec)) splitsUptoCard

/-- THE SECOND FORM's CARD OF 'cofferlaw.Joins'. -/
def joinsUptoCard : Claim7 := { stood := { row := joinsUptoRow, standIns := [], harness := (true, "9d8a4dd696c478789becbb684c184d877bb749ccd7dc298989f0a48b95f58ee0"), looks := true }, kinds := [], alts := [], laidByText := true, laidKinds := [.data, .data, .data, .handle], laidTests := true, laidLooks := .later }
def JoinsUptoCardSaid : Prop := Claim7.holds Tryd.pinned (.plain (OpenSpec.upto joinsSpec)) joinsUptoCard

/-- THE SECOND FORM's CARD OF 'cofferkeep.Enough'. -/
def enoughUptoCard : Claim7 := { stood := { row := enoughUptoRow, standIns := [], harness := (true, "9d8a4dd696c478789becbb684c184d877bb749ccd7dc298989f0a48b95f58ee0"), looks := true }, kinds := [], alts := [], laidByText := true, laidKinds := [.data, .data, .data, .handle], laidTests := true, laidLooks := .later }
def EnoughUptoCardSaid : Prop := Claim7.holds Tryd.pinned (.plain (OpenSpec.upto enoughSpec)) enoughUptoCard

/-- THE SECOND FORM's CARD OF 'cofferkeep.Hides'. -/
def hidesUptoCard : Claim7 := { stood := { row := hidesUptoRow, standIns := [], harness := (true, "9d8a4dd696c478789becbb684c184d877bb749ccd7dc298989f0a48b95f58ee0"), looks := true }, kinds := [], alts := [], laidByText := true, laidKinds := [.data, .data, .data, .handle], laidTests := true, laidLooks := .later }
def HidesUptoCardSaid : Prop := Claim7.holds Tryd.pinned (.plain (OpenSpec.upto hidesSpec)) hidesUptoCard

/-- THE SECOND FORM's CARD OF 'cofferkeep.Plain'. -/
def plainUptoCard : Claim7 := { stood := { row := plainUptoRow, standIns := [], harness := (true, "9d8a4dd696c478789becbb684c184d877bb749ccd7dc298989f0a48b95f58ee0"), looks := true }, kinds := [], alts := [], laidByText := true, laidKinds := [.data, .data, .data, .handle], laidTests := true, laidLooks := .later }
def PlainUptoCardSaid : Prop := Claim7.holds Tryd.pinned (.plain (OpenSpec.upto plainSpec)) plainUptoCard
end Rows
end Go.Proofs.YtcegdgmbponapaaDoor
