/-
  DERIVED. GIVEN WITH THE SEED: THE CARDS: each row of YtjobcffelbddcaaDoorRows.lean that lists a variable, with what it lists TIED to the program's text (the seventh form; the later family's looks); each row that meets fmt, with fmt's text TOLD by the authors' own Lean function (tested against real Go, not proved from fmt's source: count such statements apart). THE CARD IS WHAT COUNTS. Prove the row's statement (the work); the ties are given (YtjobcffelbddcaaDoorTie.lean); close each card by the builder's one call (the guide's Derived/Test/ToyasCard.lean, 'card_holds'). Laid BY PROGRAM, IN A SANDBOX (cutbox-door.mjs). By AI agents, Wed Nov 11 2026. No macro, syntax, notation, axiom, sorry.
-/
import Derived.Test.YtjobcffelbddcaaDoorRows
import GoSem.ClaimSeven
namespace Go.Proofs.YtjobcffelbddcaaDoor
namespace Rows

/-- THE TIED CARD OF 'chroniclelaw17.EdgePlays'. -/
def edgePlaysCard : Claim7 := { stood := { row := edgePlaysRow, standIns := [], harness := (true, "6ba648a01351bbcce8ff0693fa6e4c497cd14131307106be81400cebef6a5129"), looks := false }, kinds := [], alts := [], laidByText := true, laidKinds := [.data, .data], laidTests := true, laidLooks := .later }
def EdgePlaysCardSaid : Prop := Claim7.holds Tryd.pinned (.plain (OpenSpec.ofChange edgePlaysSpec)) edgePlaysCard

/-- THE TIED CARD OF 'chroniclelaw17.EdgeCounts'. -/
def edgeCountsCard : Claim7 := { stood := { row := edgeCountsRow, standIns := [], harness := (true, "6ba648a01351bbcce8ff0693fa6e4c497cd14131307106be81400cebef6a5129"), looks := false }, kinds := [], alts := [], laidByText := true, laidKinds := [.data, .data], laidTests := true, laidLooks := .later }
def EdgeCountsCardSaid : Prop := Claim7.holds Tryd.pinned (.plain (OpenSpec.ofChange edgeCountsSpec)) edgeCountsCard

/-- THE TIED CARD OF 'chroniclelaw17.EdgeOwn'. -/
def edgeOwnCard : Claim7 := { stood := { row := edgeOwnRow, standIns := [], harness := (true, "6ba648a01351bbcce8ff0693fa6e4c497cd14131307106be81400cebef6a5129"), looks := false }, kinds := [], alts := [], laidByText := true, laidKinds := [.data, .data], laidTests := true, laidLooks := .later }
def EdgeOwnCardSaid : Prop := Claim7.holds Tryd.pinned (.plain (OpenSpec.ofChange edgeOwnSpec)) edgeOwnCard

/-- THE TIED CARD OF 'chroniclelaw17.EdgeNil'. -/
def edgeNilCard : Claim7 := { stood := { row := edgeNilRow, standIns := [], harness := (true, "6ba648a01351bbcce8ff0693fa6e4c497cd14131307106be81400cebef6a5129"), looks := false }, kinds := [], alts := [], laidByText := true, laidKinds := [.data, .data], laidTests := true, laidLooks := .later }
def EdgeNilCardSaid : Prop := Claim7.holds Tryd.pinned (.plain (OpenSpec.ofChange edgeNilSpec)) edgeNilCard

/-- THE TIED CARD OF 'chroniclelaw17.EdgeParts'. -/
def edgePartsCard : Claim7 := { stood := { row := edgePartsRow, standIns := [], harness := (true, "6ba648a01351bbcce8ff0693fa6e4c497cd14131307106be81400cebef6a5129"), looks := false }, kinds := [], alts := [], laidByText := true, laidKinds := [.data, .data], laidTests := true, laidLooks := .later }
def EdgePartsCardSaid : Prop := Claim7.holds Tryd.pinned (.plain (OpenSpec.ofChange edgePartsSpec)) edgePartsCard

/-- THE SECOND FORM's CARD OF 'chroniclelaw17.EdgePlays'. -/
def edgePlaysUptoCard : Claim7 := { stood := { row := edgePlaysUptoRow, standIns := [], harness := (true, "6ba648a01351bbcce8ff0693fa6e4c497cd14131307106be81400cebef6a5129"), looks := false }, kinds := [], alts := [], laidByText := true, laidKinds := [.data, .data], laidTests := true, laidLooks := .later }
def EdgePlaysUptoCardSaid : Prop := Claim7.holds Tryd.pinned (.plain (OpenSpec.upto edgePlaysSpec)) edgePlaysUptoCard

/-- THE SECOND FORM's CARD OF 'chroniclelaw17.EdgeCounts'. -/
def edgeCountsUptoCard : Claim7 := { stood := { row := edgeCountsUptoRow, standIns := [], harness := (true, "6ba648a01351bbcce8ff0693fa6e4c497cd14131307106be81400cebef6a5129"), looks := false }, kinds := [], alts := [], laidByText := true, laidKinds := [.data, .data], laidTests := true, laidLooks := .later }
def EdgeCountsUptoCardSaid : Prop := Claim7.holds Tryd.pinned (.plain (OpenSpec.upto edgeCountsSpec)) edgeCountsUptoCard

/-- THE SECOND FORM's CARD OF 'chroniclelaw17.EdgeOwn'. -/
def edgeOwnUptoCard : Claim7 := { stood := { row := edgeOwnUptoRow, standIns := [], harness := (true, "6ba648a01351bbcce8ff0693fa6e4c497cd14131307106be81400cebef6a5129"), looks := false }, kinds := [], alts := [], laidByText := true, laidKinds := [.data, .data], laidTests := true, laidLooks := .later }
def EdgeOwnUptoCardSaid : Prop := Claim7.holds Tryd.pinned (.plain (OpenSpec.upto edgeOwnSpec)) edgeOwnUptoCard

/-- THE SECOND FORM's CARD OF 'chroniclelaw17.EdgeNil'. -/
def edgeNilUptoCard : Claim7 := { stood := { row := edgeNilUptoRow, standIns := [], harness := (true, "6ba648a01351bbcce8ff0693fa6e4c497cd14131307106be81400cebef6a5129"), looks := false }, kinds := [], alts := [], laidByText := true, laidKinds := [.data, .data], laidTests := true, laidLooks := .later }
def EdgeNilUptoCardSaid : Prop := Claim7.holds Tryd.pinned (.plain (OpenSpec.upto edgeNilSpec)) edgeNilUptoCard

/-- THE SECOND FORM's CARD OF 'chroniclelaw17.EdgeParts'. -/
def edgePartsUptoCard : Claim7 := { stood := { row := edgePartsUptoRow, standIns := [], harness := (true, "6ba648a01351bbcce8ff0693fa6e4c497cd14131307106be81400cebef6a5129"), looks := false }, kinds := [], alts := [], laidByText := true, laidKinds := [.data, .data], laidTests := true, laidLooks := .later }
def EdgePartsUptoCardSaid : Prop := Claim7.holds Tryd.pinned (.plain (OpenSpec.upto edgePartsSpec)) edgePartsUptoCard
end Rows
end Go.Proofs.YtjobcffelbddcaaDoor
