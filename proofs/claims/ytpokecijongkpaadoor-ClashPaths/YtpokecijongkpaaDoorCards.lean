/-
  DERIVED. GIVEN WITH THE SEED: THE CARDS: each row of YtpokecijongkpaaDoorRows.lean that lists a variable, with what it lists TIED to the program's text (the seventh form; the later family's looks); each row that meets fmt, with fmt's text TOLD by the authors' own Lean function (tested against real Go, not proved from fmt's source: count such statements apart). THE CARD IS WHAT COUNTS. Prove the row's statement (the work); the ties are given (YtpokecijongkpaaDoorTie.lean); close each card by the builder's one call (the guide's Derived/Test/ToyasCard.lean, 'card_holds'). Laid BY PROGRAM, IN A SANDBOX (cutbox-door.mjs). By AI agents, Wed Nov 11 2026. No macro, syntax, notation, axiom, sorry.
-/
import Derived.Test.YtpokecijongkpaaDoorRows
import GoSem.ClaimSeven
namespace Go.Proofs.YtpokecijongkpaaDoor
namespace Rows

/-- THE TIED CARD OF 'chroniclelaw20.ClashPaths'. -/
def clashPathsCard : Claim7 := { stood := { row := clashPathsRow, standIns := [], harness := (true, "41c7b0813a93e1ddef672d9cee89fcad143708b6b893cfb73c4aab03bff41103"), looks := false }, kinds := [], alts := [], laidByText := true, laidKinds := [.data, .data], laidTests := true, laidLooks := .later }
def ClashPathsCardSaid : Prop := Claim7.holds Tryd.pinned (.plain (OpenSpec.ofChange clashPathsSpec)) clashPathsCard

/-- THE TIED CARD OF 'chroniclelaw20.ClashProofs'. -/
def clashProofsCard : Claim7 := { stood := { row := clashProofsRow, standIns := [], harness := (true, "41c7b0813a93e1ddef672d9cee89fcad143708b6b893cfb73c4aab03bff41103"), looks := false }, kinds := [], alts := [], laidByText := true, laidKinds := [.data, .data, .data, .data], laidTests := true, laidLooks := .later }
def ClashProofsCardSaid : Prop := Claim7.holds Tryd.pinned (.plain (OpenSpec.ofChange clashProofsSpec)) clashProofsCard

/-- THE TIED CARD OF 'chroniclelaw20.ClashNone'. -/
def clashNoneCard : Claim7 := { stood := { row := clashNoneRow, standIns := [], harness := (true, "41c7b0813a93e1ddef672d9cee89fcad143708b6b893cfb73c4aab03bff41103"), looks := false }, kinds := [], alts := [], laidByText := true, laidKinds := [.data, .data, .data, .data], laidTests := true, laidLooks := .later }
def ClashNoneCardSaid : Prop := Claim7.holds Tryd.pinned (.plain (OpenSpec.ofChange clashNoneSpec)) clashNoneCard

/-- THE TIED CARD OF 'chroniclelaw20.ClashPlaces'. -/
def clashPlacesCard : Claim7 := { stood := { row := clashPlacesRow, standIns := [], harness := (true, "41c7b0813a93e1ddef672d9cee89fcad143708b6b893cfb73c4aab03bff41103"), looks := false }, kinds := [], alts := [], laidByText := true, laidKinds := [.data, .data, .data, .data], laidTests := true, laidLooks := .later }
def ClashPlacesCardSaid : Prop := Claim7.holds Tryd.pinned (.plain (OpenSpec.ofChange clashPlacesSpec)) clashPlacesCard

/-- THE SECOND FORM's CARD OF 'chroniclelaw20.ClashPaths'. -/
def clashPathsUptoCard : Claim7 := { stood := { row := clashPathsUptoRow, standIns := [], harness := (true, "41c7b0813a93e1ddef672d9cee89fcad143708b6b893cfb73c4aab03bff41103"), looks := false }, kinds := [], alts := [], laidByText := true, laidKinds := [.data, .data], laidTests := true, laidLooks := .later }
def ClashPathsUptoCardSaid : Prop := Claim7.holds Tryd.pinned (.plain (OpenSpec.upto clashPathsSpec)) clashPathsUptoCard

/-- THE SECOND FORM's CARD OF 'chroniclelaw20.ClashProofs'. -/
def clashProofsUptoCard : Claim7 := { stood := { row := clashProofsUptoRow, standIns := [], harness := (true, "41c7b0813a93e1ddef672d9cee89fcad143708b6b893cfb73c4aab03bff41103"), looks := false }, kinds := [], alts := [], laidByText := true, laidKinds := [.data, .data, .data, .data], laidTests := true, laidLooks := .later }
def ClashProofsUptoCardSaid : Prop := Claim7.holds Tryd.pinned (.plain (OpenSpec.upto clashProofsSpec)) clashProofsUptoCard

/-- THE SECOND FORM's CARD OF 'chroniclelaw20.ClashNone'. -/
def clashNoneUptoCard : Claim7 := { stood := { row := clashNoneUptoRow, standIns := [], harness := (true, "41c7b0813a93e1ddef672d9cee89fcad143708b6b893cfb73c4aab03bff41103"), looks := false }, kinds := [], alts := [], laidByText := true, laidKinds := [.data, .data, .data, .data], laidTests := true, laidLooks := .later }
def ClashNoneUptoCardSaid : Prop := Claim7.holds Tryd.pinned (.plain (OpenSpec.upto clashNoneSpec)) clashNoneUptoCard

/-- THE SECOND FORM's CARD OF 'chroniclelaw20.ClashPlaces'. -/
def clashPlacesUptoCard : Claim7 := { stood := { row := clashPlacesUptoRow, standIns := [], harness := (true, "41c7b0813a93e1ddef672d9cee89fcad143708b6b893cfb73c4aab03bff41103"), looks := false }, kinds := [], alts := [], laidByText := true, laidKinds := [.data, .data, .data, .data], laidTests := true, laidLooks := .later }
def ClashPlacesUptoCardSaid : Prop := Claim7.holds Tryd.pinned (.plain (OpenSpec.upto clashPlacesSpec)) clashPlacesUptoCard
end Rows
end Go.Proofs.YtpokecijongkpaaDoor
