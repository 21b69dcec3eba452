/-
  DERIVED. GIVEN WITH THE SEED: THE CARDS: each row of YteplklbpehkdjaaDoorRows.lean that lists a variable, with what it lists TIED to the program's text (the seventh form; the later family's looks); each row that meets fmt, with fmt's text TOLD by the authors' own Lean function (tested against real Go, not proved from fmt's source: count such statements apart). THE CARD IS WHAT COUNTS. Prove the row's statement (the work); the ties are given (YteplklbpehkdjaaDoorTie.lean); close each card by the builder's one call (the guide's Derived/Test/ToyasCard.lean, 'card_holds'). Laid BY PROGRAM, IN A SANDBOX (cutbox-door.mjs). By AI agents, Wed Nov 11 2026. No macro, syntax, notation, axiom, sorry.
-/
import Derived.Test.YteplklbpehkdjaaDoorRows
import GoSem.ClaimSeven
namespace Go.Proofs.YteplklbpehkdjaaDoor
namespace Rows

/-- THE TIED CARD OF 'chroniclelaw18.ProofPaths'. -/
def proofPathsCard : Claim7 := { stood := { row := proofPathsRow, standIns := [], harness := (true, "adb3fdfe7839ff43d3fa6f3fed0b1f81abd7b504a6641016756dc5c8a3c204ad"), looks := false }, kinds := [], alts := [], laidByText := true, laidKinds := [.data, .data], laidTests := true, laidLooks := .later }
def ProofPathsCardSaid : Prop := Claim7.holds Tryd.pinned (.plain (OpenSpec.ofChange proofPathsSpec)) proofPathsCard

/-- THE TIED CARD OF 'chroniclelaw18.ProofProofs'. -/
def proofProofsCard : Claim7 := { stood := { row := proofProofsRow, standIns := [], harness := (true, "adb3fdfe7839ff43d3fa6f3fed0b1f81abd7b504a6641016756dc5c8a3c204ad"), looks := false }, kinds := [], alts := [], laidByText := true, laidKinds := [.data, .data], laidTests := true, laidLooks := .later }
def ProofProofsCardSaid : Prop := Claim7.holds Tryd.pinned (.plain (OpenSpec.ofChange proofProofsSpec)) proofProofsCard

/-- THE TIED CARD OF 'chroniclelaw18.ProofShort'. -/
def proofShortCard : Claim7 := { stood := { row := proofShortRow, standIns := [], harness := (true, "adb3fdfe7839ff43d3fa6f3fed0b1f81abd7b504a6641016756dc5c8a3c204ad"), looks := false }, kinds := [], alts := [], laidByText := true, laidKinds := [.data, .data], laidTests := true, laidLooks := .later }
def ProofShortCardSaid : Prop := Claim7.holds Tryd.pinned (.plain (OpenSpec.ofChange proofShortSpec)) proofShortCard

/-- THE TIED CARD OF 'chroniclelaw18.ProofLast'. -/
def proofLastCard : Claim7 := { stood := { row := proofLastRow, standIns := [], harness := (true, "adb3fdfe7839ff43d3fa6f3fed0b1f81abd7b504a6641016756dc5c8a3c204ad"), looks := false }, kinds := [], alts := [], laidByText := true, laidKinds := [.data, .data], laidTests := true, laidLooks := .later }
def ProofLastCardSaid : Prop := Claim7.holds Tryd.pinned (.plain (OpenSpec.ofChange proofLastSpec)) proofLastCard

/-- THE TIED CARD OF 'chroniclelaw18.ProofOwn'. -/
def proofOwnCard : Claim7 := { stood := { row := proofOwnRow, standIns := [], harness := (true, "adb3fdfe7839ff43d3fa6f3fed0b1f81abd7b504a6641016756dc5c8a3c204ad"), looks := false }, kinds := [], alts := [], laidByText := true, laidKinds := [.data, .data], laidTests := true, laidLooks := .later }
def ProofOwnCardSaid : Prop := Claim7.holds Tryd.pinned (.plain (OpenSpec.ofChange proofOwnSpec)) proofOwnCard

/-- THE SECOND FORM's CARD OF 'chroniclelaw18.ProofPaths'. -/
def proofPathsUptoCard : Claim7 := { stood := { row := proofPathsUptoRow, standIns := [], harness := (true, "adb3fdfe7839ff43d3fa6f3fed0b1f81abd7b504a6641016756dc5c8a3c204ad"), looks := false }, kinds := [], alts := [], laidByText := true, laidKinds := [.data, .data], laidTests := true, laidLooks := .later }
def ProofPathsUptoCardSaid : Prop := Claim7.holds Tryd.pinned (.plain (OpenSpec.upto proofPathsSpec)) proofPathsUptoCard

/-- THE SECOND FORM's CARD OF 'chroniclelaw18.ProofProofs'. -/
def proofProofsUptoCard : Claim7 := { stood := { row := proofProofsUptoRow, standIns := [], harness := (true, "adb3fdfe7839ff43d3fa6f3fed0b1f81abd7b504a6641016756dc5c8a3c204ad"), looks := false }, kinds := [], alts := [], laidByText := true, laidKinds := [.data, .data], laidTests := true, laidLooks := .later }
def ProofProofsUptoCardSaid : Prop := Claim7.holds Tryd.pinned (.plain (OpenSpec.upto proofProofsSpec)) proofProofsUptoCard

/-- THE SECOND FORM's CARD OF 'chroniclelaw18.ProofShort'. -/
def proofShortUptoCard : Claim7 := { stood := { row := proofShortUptoRow, standIns := [], harness := (true, "adb3fdfe7839ff43d3fa6f3fed0b1f81abd7b504a6641016756dc5c8a3c204ad"), looks := false }, kinds := [], alts := [], laidByText := true, laidKinds := [.data, .data], laidTests := true, laidLooks := .later }
def ProofShortUptoCardSaid : Prop := Claim7.holds Tryd.pinned (.plain (OpenSpec.upto proofShortSpec)) proofShortUptoCard

/-- THE SECOND FORM's CARD OF 'chroniclelaw18.ProofLast'. -/
def proofLastUptoCard : Claim7 := { stood := { row := proofLastUptoRow, standIns := [], harness := (true, "adb3fdfe7839ff43d3fa6f3fed0b1f81abd7b504a6641016756dc5c8a3c204ad"), looks := false }, kinds := [], alts := [], laidByText := true, laidKinds := [.data, .data], laidTests := true, laidLooks := .later }
def ProofLastUptoCardSaid : Prop := Claim7.holds Tryd.pinned (.plain (OpenSpec.upto proofLastSpec)) proofLastUptoCard

/-- THE SECOND FORM's CARD OF 'chroniclelaw18.ProofOwn'. -/
def proofOwnUptoCard : Claim7 := { stood := { row := proofOwnUptoRow, standIns := [], harness := (true, "adb3fdfe7839ff43d3fa6f3fed0b1f81abd7b504a6641016756dc5c8a3c204ad"), looks := false }, kinds := [], alts := [], laidByText := true, laidKinds := [.data, .data], laidTests := true, laidLooks := .later }
def ProofOwnUptoCardSaid : Prop := Claim7.holds Tryd.pinned (.plain (OpenSpec.upto proofOwnSpec)) proofOwnUptoCard
end Rows
end Go.Proofs.YteplklbpehkdjaaDoor
