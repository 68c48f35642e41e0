/-
  DERIVED. GIVEN WITH THE SEED: THE CARDS: each row of YtcegdgmbponapaaGreatDoorRows.lean that lists a variable, with what it lists TIED to the program's text (the seventh form; the later family's looks); each row that meets fmt, with fmt's text TOLD by the authors' own Lean function (tested against real Go, not proved from fmt's source: count such statements apart). THE CARD IS WHAT COUNTS. Prove the row's statement (the work); the ties are given (YtcegdgmbponapaaGreatDoorTie.lean); close each card by the builder's one call (the guide's Derived/Test/ToyasCard.lean, 'card_holds'). Laid BY PROGRAM, IN A SANDBOX (cutbox-door.mjs). By AI agents, Wed Nov 11 2026. No macro, syntax, notation, axiom, sorry.
-/
import Derived.Test.YtcegdgmbponapaaGreatDoorRows
import GoSem.ClaimSeven
namespace Go.Proofs.YtcegdgmbponapaaGreatDoor
namespace Rows

/-- THE TIED CARD OF 'cofferlaw.Keeps'. -/
def keepsCard : Claim7 := { stood := { row := keepsRow, standIns := [], harness := (true, "c2c5bede903caaa3d2896f5d2d9a6b9af36074bf55d459dedf9c7d3a5fc7829f"), looks := true }, kinds := [], alts := [], laidByText := true, laidKinds := [.data, .data, .data, .handle], laidTests := true, laidLooks := .later }
def KeepsCardSaid : Prop := Claim7.holds Tryz.pinned (.plain (OpenSpec.ofChange keepsSpec)) keepsCard

/-- THE TIED CARD OF 'cofferlaw.Spoils'. -/
def spoilsCard : Claim7 := { stood := { row := spoilsRow, standIns := [], harness := (true, "c2c5bede903caaa3d2896f5d2d9a6b9af36074bf55d459dedf9c7d3a5fc7829f"), looks := true }, kinds := [], alts := [], laidByText := true, laidKinds := [.data, .data, .data, .handle], laidTests := true, laidLooks := .later }
def SpoilsCardSaid : Prop := Claim7.holds Tryz.pinned (.plain (OpenSpec.ofChange spoilsSpec)) spoilsCard

/-- THE TIED CARD OF 'cofferkeep.Survives'. -/
def survivesCard : Claim7 := { stood := { row := survivesRow, standIns := [], harness := (true, "c2c5bede903caaa3d2896f5d2d9a6b9af36074bf55d459dedf9c7d3a5fc7829f"), looks := true }, kinds := [], alts := [], laidByText := true, laidKinds := [.data, .data, .data, .handle], laidTests := true, laidLooks := .later }
def SurvivesCardSaid : Prop := Claim7.holds Tryz.pinned (.plain (OpenSpec.ofChange survivesSpec)) survivesCard

/-- THE TIED CARD OF 'cofferkeep.Mixes'. -/
def mixesCard : Claim7 := { stood := { row := mixesRow, standIns := [], harness := (true, "c2c5bede903caaa3d2896f5d2d9a6b9af36074bf55d459dedf9c7d3a5fc7829f"), looks := true }, kinds := [], alts := [], laidByText := true, laidKinds := [.data, .data, .data, .handle], laidTests := true, laidLooks := .later }
def MixesCardSaid : Prop := Claim7.holds Tryz.pinned (.plain (OpenSpec.ofChange mixesSpec)) mixesCard

/-- THE TIED CARD OF 'cofferkeep.Pieced'. -/
def piecedCard : Claim7 := { stood := { row := piecedRow, standIns := [], harness := (true, "c2c5bede903caaa3d2896f5d2d9a6b9af36074bf55d459dedf9c7d3a5fc7829f"), looks := true }, kinds := [], alts := [], laidByText := true, laidKinds := [.data, .data, .data, .handle], laidTests := true, laidLooks := .later }
def PiecedCardSaid : Prop := Claim7.holds Tryz.pinned (.plain (OpenSpec.ofChange piecedSpec)) piecedCard

/-- THE TIED CARD OF 'cofferkeep.Whole'. -/
def wholeCard : Claim7 := { stood := { row := wholeRow, standIns := [], harness := (true, "c2c5bede903caaa3d2896f5d2d9a6b9af36074bf55d459dedf9c7d3a5fc7829f"), looks := true }, kinds := [], alts := [], laidByText := true, laidKinds := [.data, .data, .data, .handle], laidTests := true, laidLooks := .later }
def WholeCardSaid : Prop := Claim7.holds Tryz.pinned (.plain (OpenSpec.ofChange wholeSpec)) wholeCard

/-- THE TIED CARD OF 'cofferkeep.Anything'. -/
def anythingCard : Claim7 := { stood := { row := anythingRow, standIns := [], harness := (true, "c2c5bede903caaa3d2896f5d2d9a6b9af36074bf55d459dedf9c7d3a5fc7829f"), looks := true }, kinds := [], alts := [], laidByText := true, laidKinds := [.data, .data, .data, .handle], laidTests := true, laidLooks := .later }
def AnythingCardSaid : Prop := Claim7.holds Tryz.pinned (.plain (OpenSpec.ofChange anythingSpec)) anythingCard

/-- THE SECOND FORM's CARD OF 'cofferlaw.Keeps'. -/
def keepsUptoCard : Claim7 := { stood := { row := keepsUptoRow, standIns := [], harness := (true, "c2c5bede903caaa3d2896f5d2d9a6b9af36074bf55d459dedf9c7d3a5fc7829f"), looks := true }, kinds := [], alts := [], laidByText := true, laidKinds := [.data, .data, .data, .handle], laidTests := true, laidLooks := .later }
def KeepsUptoCardSaid : Prop := Claim7.holds Tryz.pinned (.plain (OpenSpec.upto keepsSpec)) keepsUptoCard

/-- THE SECOND FORM's CARD OF 'cofferlaw.Spoils'. -/
def spoilsUptoCard : Claim7 := { stood := { row := spoilsUptoRow, standIns := [], harness := (true, "c2c5bede903caaa3d2896f5d2d9a6b9af36074bf55d459dedf9c7d3a5fc7829f"), looks := true }, kinds := [], alts := [], laidByText := true, laidKinds := [.data, .data, .data, .handle], laidTests := true, laidLooks := .later }
def SpoilsUptoCardSaid : Prop := Claim7.holds Tryz.pinned (.plain (OpenSpec.upto spoilsSpec)) spoilsUptoCard

/-- THE SECOND FORM's CARD OF 'cofferkeep.Survives'. -/
def survivesUptoCard : Claim7 := { stood := { row := survivesUptoRow, standIns := [], harness := (true, "c2c5bede903caaa3d2896f5d2d9a6b9af36074bf55d459dedf9c7d3a5fc7829f"), looks := true }, kinds := [], alts := [], laidByText := true, laidKinds := [.data, .data, .data, .handle], laidTests := true, laidLooks := .later }
def SurvivesUptoCardSaid : Prop := Claim7.holds Tryz.pinned (.plain (OpenSpec.upto survivesSpec)) survivesUptoCard

/-- THE SECOND FORM's CARD OF 'cofferkeep.Mixes'. -/
def mixesUptoCard : Claim7 := { stood := { row := mixesUptoRow, standIns := [], harness := (true, "c2c5bede903caaa3d2896f5d2d9a6b9af36074bf55d459dedf9c7d3a5fc7829f"), looks := true }, kinds := [], alts := [], laidByText := true, laidKinds := [.data, .data, .data, .handle], laidTests := true, laidLooks := .later }
def MixesUptoCardSaid : Prop := Claim7.holds Tryz.pinned (.plain (OpenSpec.upto mixesSpec)) mixesUptoCard

/-- THE SECOND FORM's CARD OF 'cofferkeep.Pieced'. -/
def piecedUptoCard : Claim7 := { stood := { row := piecedUptoRow, standIns := [], harness := (true, "c2c5bede903caaa3d2896f5d2d9a6b9af36074bf55d459dedf9c7d3a5fc7829f"), looks := true }, kinds := [], alts := [], laidByText := true, laidKinds := [.data, .data, .data, .handle], laidTests := true, laidLooks := .later }
def PiecedUptoCardSaid : Prop := Claim7.holds Tryz.pinned (.plain (OpenSpec.upto piecedSpec)) piecedUptoCard

/-- THE SECOND FORM's CARD OF 'cofferkeep.Whole'. -/
def wholeUptoCard : Claim7 := { stood := { row := wholeUptoRow, standIns := [], harness := (true, "c2c5bede903caaa3d2896f5d2d9a6b9af36074bf55d459dedf9c7d3a5fc7829f"), looks := true }, kinds := [], alts := [], laidByText := true, laidKinds := [.data, .data, .data, .handle], laidTests := true, laidLooks := .later }
def WholeUptoCardSaid : Prop := Claim7.holds Tryz.pinned (.plain (OpenSpec.upto wholeSpec)) wholeUptoCard

/-- THE SECOND FORM's CARD OF 'cofferkeep.Anything'. -/
def anythingUptoCard : Claim7 := { stood := { row := anythingUptoRow, standIns := [], harness := (true, "c2c5bede903caaa3d2896f5d2d9a6b9af36074bf55d459dedf9c7d3a5fc7829f"), looks := true }, kinds := [], alts := [], laidByText := true, laidKinds := [.data, .data, .data, .handle], laidTests := true, laidLooks := .later }
def AnythingUptoCardSaid : Prop := Claim7.holds Tryz.pinned (.plain (OpenSpec.upto anythingSpec)) anythingUptoCard
end Rows
end Go.Proofs.YtcegdgmbponapaaGreatDoor
