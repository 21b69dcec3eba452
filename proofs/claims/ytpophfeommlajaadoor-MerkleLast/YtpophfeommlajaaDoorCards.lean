/-
  DERIVED. GIVEN WITH THE SEED: THE CARDS: each row of YtpophfeommlajaaDoorRows.lean that lists a variable, with what it lists TIED to the program's text (the seventh form; the later family's looks); each row that meets fmt, with fmt's text TOLD by the authors' own Lean function (tested against real Go, not proved from fmt's source: count such statements apart). THE CARD IS WHAT COUNTS. Prove the row's statement (the work); the ties are given (YtpophfeommlajaaDoorTie.lean); close each card by the builder's one call (the guide's Derived/Test/ToyasCard.lean, 'card_holds'). Laid BY PROGRAM, IN A SANDBOX (cutbox-door.mjs). By AI agents, Wed Nov 11 2026. No macro, syntax, notation, axiom, sorry.
-/
import Derived.Test.YtpophfeommlajaaDoorRows
import GoSem.ClaimSeven
namespace Go.Proofs.YtpophfeommlajaaDoor
namespace Rows

/-- THE TIED CARD OF 'chroniclelaw16.MerkleHashes'. -/
def merkleHashesCard : Claim7 := { stood := { row := merkleHashesRow, standIns := [], harness := (true, "ab544470c0b96f76ee2d4160decd5f7e9f9bd1b70445e255b1d81dc303916226"), looks := false }, kinds := [], alts := [], laidByText := true, laidKinds := [.data, .data], laidTests := true, laidLooks := .later }
def MerkleHashesCardSaid : Prop := Claim7.holds Tryd.pinned (.plain (OpenSpec.ofChange merkleHashesSpec)) merkleHashesCard

/-- THE TIED CARD OF 'chroniclelaw16.MerkleRoots'. -/
def merkleRootsCard : Claim7 := { stood := { row := merkleRootsRow, standIns := [], harness := (true, "ab544470c0b96f76ee2d4160decd5f7e9f9bd1b70445e255b1d81dc303916226"), looks := false }, kinds := [], alts := [], laidByText := true, laidKinds := [.data, .data], laidTests := true, laidLooks := .later }
def MerkleRootsCardSaid : Prop := Claim7.holds Tryd.pinned (.plain (OpenSpec.ofChange merkleRootsSpec)) merkleRootsCard

/-- THE TIED CARD OF 'chroniclelaw16.MerkleParts'. -/
def merklePartsCard : Claim7 := { stood := { row := merklePartsRow, standIns := [], harness := (true, "ab544470c0b96f76ee2d4160decd5f7e9f9bd1b70445e255b1d81dc303916226"), looks := false }, kinds := [], alts := [], laidByText := true, laidKinds := [.data, .data], laidTests := true, laidLooks := .later }
def MerklePartsCardSaid : Prop := Claim7.holds Tryd.pinned (.plain (OpenSpec.ofChange merklePartsSpec)) merklePartsCard

/-- THE TIED CARD OF 'chroniclelaw16.MerkleSplits'. -/
def merkleSplitsCard : Claim7 := { stood := { row := merkleSplitsRow, standIns := [], harness := (true, "ab544470c0b96f76ee2d4160decd5f7e9f9bd1b70445e255b1d81dc303916226"), looks := false }, kinds := [], alts := [], laidByText := true, laidKinds := [.data, .data], laidTests := true, laidLooks := .later }
def MerkleSplitsCardSaid : Prop := Claim7.holds Tryd.pinned (.plain (OpenSpec.ofChange merkleSplitsSpec)) merkleSplitsCard

/-- THE TIED CARD OF 'chroniclelaw16.MerkleLast'. -/
def merkleLastCard : Claim7 := { stood := { row := merkleLastRow, standIns := [], harness := (true, "ab544470c0b96f76ee2d4160decd5f7e9f9bd1b70445e255b1d81dc303916226"), looks := false }, kinds := [], alts := [], laidByText := true, laidKinds := [.data, .data], laidTests := true, laidLooks := .later }
def MerkleLastCardSaid : Prop := Claim7.holds Tryd.pinned (.plain (OpenSpec.ofChange merkleLastSpec)) merkleLastCard

/-- THE SECOND FORM's CARD OF 'chroniclelaw16.MerkleHashes'. -/
def merkleHashesUptoCard : Claim7 := { stood := { row := merkleHashesUptoRow, standIns := [], harness := (true, "ab544470c0b96f76ee2d4160decd5f7e9f9bd1b70445e255b1d81dc303916226"), looks := false }, kinds := [], alts := [], laidByText := true, laidKinds := [.data, .data], laidTests := true, laidLooks := .later }
def MerkleHashesUptoCardSaid : Prop := Claim7.holds Tryd.pinned (.plain (OpenSpec.upto merkleHashesSpec)) merkleHashesUptoCard

/-- THE SECOND FORM's CARD OF 'chroniclelaw16.MerkleRoots'. -/
def merkleRootsUptoCard : Claim7 := { stood := { row := merkleRootsUptoRow, standIns := [], harness := (true, "ab544470c0b96f76ee2d4160decd5f7e9f9bd1b70445e255b1d81dc303916226"), looks := false }, kinds := [], alts := [], laidByText := true, laidKinds := [.data, .data], laidTests := true, laidLooks := .later }
def MerkleRootsUptoCardSaid : Prop := Claim7.holds Tryd.pinned (.plain (OpenSpec.upto merkleRootsSpec)) merkleRootsUptoCard

/-- THE SECOND FORM's CARD OF 'chroniclelaw16.MerkleParts'. -/
def merklePartsUptoCard : Claim7 := { stood := { row := merklePartsUptoRow, standIns := [], harness := (true, "ab544470c0b96f76ee2d4160decd5f7e9f9bd1b70445e255b1d81dc303916226"), looks := false }, kinds := [], alts := [], laidByText := true, laidKinds := [.data, .data], laidTests := true, laidLooks := .later }
def MerklePartsUptoCardSaid : Prop := Claim7.holds Tryd.pinned (.plain (OpenSpec.upto merklePartsSpec)) merklePartsUptoCard

/-- THE SECOND FORM's CARD OF 'chroniclelaw16.MerkleSplits'. -/
def merkleSplitsUptoCard : Claim7 := { stood := { row := merkleSplitsUptoRow, standIns := [], harness := (true, "ab544470c0b96f76ee2d4160decd5f7e9f9bd1b70445e255b1d81dc303916226"), looks := false }, kinds := [], alts := [], laidByText := true, laidKinds := [.data, .data], laidTests := true, laidLooks := .later }
def MerkleSplitsUptoCardSaid : Prop := Claim7.holds Tryd.pinned (.plain (OpenSpec.upto merkleSplitsSpec)) merkleSplitsUptoCard

/-- THE SECOND FORM's CARD OF 'chroniclelaw16.MerkleLast'. -/
def merkleLastUptoCard : Claim7 := { stood := { row := merkleLastUptoRow, standIns := [], harness := (true, "ab544470c0b96f76ee2d4160decd5f7e9f9bd1b70445e255b1d81dc303916226"), looks := false }, kinds := [], alts := [], laidByText := true, laidKinds := [.data, .data], laidTests := true, laidLooks := .later }
def MerkleLastUptoCardSaid : Prop := Claim7.holds Tryd.pinned (.plain (OpenSpec.upto merkleLastSpec)) merkleLastUptoCard
end Rows
end Go.Proofs.YtpophfeommlajaaDoor
