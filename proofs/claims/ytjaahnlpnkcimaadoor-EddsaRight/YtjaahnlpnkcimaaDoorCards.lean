/-
  DERIVED. GIVEN WITH THE SEED: THE CARDS: each row of YtjaahnlpnkcimaaDoorRows.lean that lists a variable, with what it lists TIED to the program's text (the seventh form; the later family's looks); each row that meets fmt, with fmt's text TOLD by the authors' own Lean function (tested against real Go, not proved from fmt's source: count such statements apart). THE CARD IS WHAT COUNTS. Prove the row's statement (the work); the ties are given (YtjaahnlpnkcimaaDoorTie.lean); close each card by the builder's one call (the guide's Derived/Test/ToyasCard.lean, 'card_holds'). Laid BY PROGRAM, IN A SANDBOX (cutbox-door.mjs). By AI agents, Wed Nov 11 2026. No macro, syntax, notation, axiom, sorry.
-/
import Derived.Test.YtjaahnlpnkcimaaDoorRows
import GoSem.ClaimSeven
namespace Go.Proofs.YtjaahnlpnkcimaaDoor
namespace Rows

/-- THE TIED CARD OF 'chroniclelaw12.EddsaRight'. -/
def eddsaRightCard : Claim7 := { stood := { row := eddsaRightRow, standIns := [], harness := (true, "426152d5ed585361328f6c36b11d2341be4ca367bf9c157ca0df588757475b5e"), looks := false }, kinds := [], alts := [], laidByText := true, laidKinds := [.data, .data, .data, .data, .data, .data], laidTests := true, laidLooks := .later }
def EddsaRightCardSaid : Prop := Claim7.holds Tryd.pinned (.plain (OpenSpec.ofChange eddsaRightSpec)) eddsaRightCard

/-- THE TIED CARD OF 'chroniclelaw12.EddsaAbove'. -/
def eddsaAboveCard : Claim7 := { stood := { row := eddsaAboveRow, standIns := [], harness := (true, "426152d5ed585361328f6c36b11d2341be4ca367bf9c157ca0df588757475b5e"), looks := false }, kinds := [], alts := [], laidByText := true, laidKinds := [.data, .data, .data, .data, .data, .data], laidTests := true, laidLooks := .later }
def EddsaAboveCardSaid : Prop := Claim7.holds Tryd.pinned (.plain (OpenSpec.ofChange eddsaAboveSpec)) eddsaAboveCard

/-- THE TIED CARD OF 'chroniclelaw12.EddsaKeys'. -/
def eddsaKeysCard : Claim7 := { stood := { row := eddsaKeysRow, standIns := [], harness := (true, "426152d5ed585361328f6c36b11d2341be4ca367bf9c157ca0df588757475b5e"), looks := false }, kinds := [], alts := [], laidByText := true, laidKinds := [.data, .data, .data, .data], laidTests := true, laidLooks := .later }
def EddsaKeysCardSaid : Prop := Claim7.holds Tryd.pinned (.plain (OpenSpec.ofChange eddsaKeysSpec)) eddsaKeysCard

/-- THE SECOND FORM's CARD OF 'chroniclelaw12.EddsaRight'. -/
def eddsaRightUptoCard : Claim7 := { stood := { row := eddsaRightUptoRow, standIns := [], harness := (true, "426152d5ed585361328f6c36b11d2341be4ca367bf9c157ca0df588757475b5e"), looks := false }, kinds := [], alts := [], laidByText := true, laidKinds := [.data, .data, .data, .data, .data, .data], laidTests := true, laidLooks := .later }
def EddsaRightUptoCardSaid : Prop := Claim7.holds Tryd.pinned (.plain (OpenSpec.upto eddsaRightSpec)) eddsaRightUptoCard

/-- THE SECOND FORM's CARD OF 'chroniclelaw12.EddsaAbove'. -/
def eddsaAboveUptoCard : Claim7 := { stood := { row := eddsaAboveUptoRow, standIns := [], harness := (true, "426152d5ed585361328f6c36b11d2341be4ca367bf9c157ca0df588757475b5e"), looks := false }, kinds := [], alts := [], laidByText := true, laidKinds := [.data, .data, .data, .data, .data, .data], laidTests := true, laidLooks := .later }
def EddsaAboveUptoCardSaid : Prop := Claim7.holds Tryd.pinned (.plain (OpenSpec.upto eddsaAboveSpec)) eddsaAboveUptoCard

/-- THE SECOND FORM's CARD OF 'chroniclelaw12.EddsaKeys'. -/
def eddsaKeysUptoCard : Claim7 := { stood := { row := eddsaKeysUptoRow, standIns := [], harness := (true, "426152d5ed585361328f6c36b11d2341be4ca367bf9c157ca0df588757475b5e"), looks := false }, kinds := [], alts := [], laidByText := true, laidKinds := [.data, .data, .data, .data], laidTests := true, laidLooks := .later }
def EddsaKeysUptoCardSaid : Prop := Claim7.holds Tryd.pinned (.plain (OpenSpec.upto eddsaKeysSpec)) eddsaKeysUptoCard
end Rows
end Go.Proofs.YtjaahnlpnkcimaaDoor
