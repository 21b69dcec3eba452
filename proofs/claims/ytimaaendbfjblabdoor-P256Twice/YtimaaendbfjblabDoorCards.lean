/-
  DERIVED. GIVEN WITH THE SEED: THE CARDS: each row of YtimaaendbfjblabDoorRows.lean that lists a variable, with what it lists TIED to the program's text (the seventh form; the later family's looks); each row that meets fmt, with fmt's text TOLD by the authors' own Lean function (tested against real Go, not proved from fmt's source: count such statements apart). THE CARD IS WHAT COUNTS. Prove the row's statement (the work); the ties are given (YtimaaendbfjblabDoorTie.lean); close each card by the builder's one call (the guide's Derived/Test/ToyasCard.lean, 'card_holds'). Laid BY PROGRAM, IN A SANDBOX (cutbox-door.mjs). By AI agents, Wed Nov 11 2026. No macro, syntax, notation, axiom, sorry.
-/
import Derived.Test.YtimaaendbfjblabDoorRows
import GoSem.ClaimSeven
namespace Go.Proofs.YtimaaendbfjblabDoor
namespace Rows

/-- THE TIED CARD OF 'chroniclelaw08.P256Twice'. -/
def p256TwiceCard : Claim7 := { stood := { row := p256TwiceRow, standIns := [], harness := (true, "95d111b98e6f8dc10a97702642db0f1416bd7cdc84c493d09debb471f13775b6"), looks := false }, kinds := [], alts := [], laidByText := true, laidKinds := [.data, .data], laidTests := true, laidLooks := .later }
def P256TwiceCardSaid : Prop := Claim7.holds Tryd.pinned (.plain (OpenSpec.ofChange p256TwiceSpec)) p256TwiceCard

/-- THE TIED CARD OF 'chroniclelaw08.P256Stray'. -/
def p256StrayCard : Claim7 := { stood := { row := p256StrayRow, standIns := [], harness := (true, "95d111b98e6f8dc10a97702642db0f1416bd7cdc84c493d09debb471f13775b6"), looks := false }, kinds := [], alts := [], laidByText := true, laidKinds := [.data, .data], laidTests := true, laidLooks := .later }
def P256StrayCardSaid : Prop := Claim7.holds Tryd.pinned (.plain (OpenSpec.ofChange p256StraySpec)) p256StrayCard

/-- THE SECOND FORM's CARD OF 'chroniclelaw08.P256Twice'. -/
def p256TwiceUptoCard : Claim7 := { stood := { row := p256TwiceUptoRow, standIns := [], harness := (true, "95d111b98e6f8dc10a97702642db0f1416bd7cdc84c493d09debb471f13775b6"), looks := false }, kinds := [], alts := [], laidByText := true, laidKinds := [.data, .data], laidTests := true, laidLooks := .later }
def P256TwiceUptoCardSaid : Prop := Claim7.holds Tryd.pinned (.plain (OpenSpec.upto p256TwiceSpec)) p256TwiceUptoCard

/-- THE SECOND FORM's CARD OF 'chroniclelaw08.P256Stray'. -/
def p256StrayUptoCard : Claim7 := { stood := { row := p256StrayUptoRow, standIns := [], harness := (true, "95d111b98e6f8dc10a97702642db0f1416bd7cdc84c493d09debb471f13775b6"), looks := false }, kinds := [], alts := [], laidByText := true, laidKinds := [.data, .data], laidTests := true, laidLooks := .later }
def P256StrayUptoCardSaid : Prop := Claim7.holds Tryd.pinned (.plain (OpenSpec.upto p256StraySpec)) p256StrayUptoCard
end Rows
end Go.Proofs.YtimaaendbfjblabDoor
