/-
  DERIVED. GIVEN WITH THE SEED: THE CARDS: each row of YtjaahnlpnkcimaaGreatDoorRows.lean that lists a variable, with what it lists TIED to the program's text (the seventh form; the later family's looks); each row that meets fmt, with fmt's text TOLD by the authors' own Lean function (tested against real Go, not proved from fmt's source: count such statements apart). THE CARD IS WHAT COUNTS. Prove the row's statement (the work); the ties are given (YtjaahnlpnkcimaaGreatDoorTie.lean); close each card by the builder's one call (the guide's Derived/Test/ToyasCard.lean, 'card_holds'). Laid BY PROGRAM, IN A SANDBOX (cutbox-door.mjs). By AI agents, Wed Nov 11 2026. No macro, syntax, notation, axiom, sorry.
-/
import Derived.Test.YtjaahnlpnkcimaaGreatDoorRows
import GoSem.ClaimSeven
namespace Go.Proofs.YtjaahnlpnkcimaaGreatDoor
namespace Rows

/-- THE TIED CARD OF 'chroniclelaw12.EddsaSigns'. -/
def eddsaSignsCard : Claim7 := { stood := { row := eddsaSignsRow, standIns := [], harness := (true, "4d56fc39c710adccf6c9ab155ed3ece7cbc036b204822d8e947b816737202d86"), looks := false }, kinds := [], alts := [], laidByText := true, laidKinds := [.data, .data, .data, .data], laidTests := true, laidLooks := .later }
def EddsaSignsCardSaid : Prop := Claim7.holds Tryz.pinned (.plain (OpenSpec.ofChange eddsaSignsSpec)) eddsaSignsCard

/-- THE TIED CARD OF 'chroniclelaw12.EddsaVerifies'. -/
def eddsaVerifiesCard : Claim7 := { stood := { row := eddsaVerifiesRow, standIns := [], harness := (true, "4d56fc39c710adccf6c9ab155ed3ece7cbc036b204822d8e947b816737202d86"), looks := false }, kinds := [], alts := [], laidByText := true, laidKinds := [.data, .data, .data, .data, .data, .data], laidTests := true, laidLooks := .later }
def EddsaVerifiesCardSaid : Prop := Claim7.holds Tryz.pinned (.plain (OpenSpec.ofChange eddsaVerifiesSpec)) eddsaVerifiesCard

/-- THE SECOND FORM's CARD OF 'chroniclelaw12.EddsaSigns'. -/
def eddsaSignsUptoCard : Claim7 := { stood := { row := eddsaSignsUptoRow, standIns := [], harness := (true, "4d56fc39c710adccf6c9ab155ed3ece7cbc036b204822d8e947b816737202d86"), looks := false }, kinds := [], alts := [], laidByText := true, laidKinds := [.data, .data, .data, .data], laidTests := true, laidLooks := .later }
def EddsaSignsUptoCardSaid : Prop := Claim7.holds Tryz.pinned (.plain (OpenSpec.upto eddsaSignsSpec)) eddsaSignsUptoCard

/-- THE SECOND FORM's CARD OF 'chroniclelaw12.EddsaVerifies'. -/
def eddsaVerifiesUptoCard : Claim7 := { stood := { row := eddsaVerifiesUptoRow, standIns := [], harness := (true, "4d56fc39c710adccf6c9ab155ed3ece7cbc036b204822d8e947b816737202d86"), looks := false }, kinds := [], alts := [], laidByText := true, laidKinds := [.data, .data, .data, .data, .data, .data], laidTests := true, laidLooks := .later }
def EddsaVerifiesUptoCardSaid : Prop := Claim7.holds Tryz.pinned (.plain (OpenSpec.upto eddsaVerifiesSpec)) eddsaVerifiesUptoCard
end Rows
end Go.Proofs.YtjaahnlpnkcimaaGreatDoor
