/-
  DERIVED. GIVEN WITH THE SEED: THE CARDS: each row of YtelanboegjgcbabDoorRows.lean that lists a variable, with what it lists TIED to the program's text (the seventh form; the later family's looks); each row that meets fmt, with fmt's text TOLD by the authors' own Lean function (tested against real Go, not proved from fmt's source: count such statements apart). THE CARD IS WHAT COUNTS. Prove the row's statement (the work); the ties are given (YtelanboegjgcbabDoorTie.lean); close each card by the builder's one call (the guide's Derived/Test/ToyasCard.lean, 'card_holds'). Laid BY PROGRAM, IN A SANDBOX (cutbox-door.mjs). By AI agents, Wed Nov 11 2026. No macro, syntax, notation, axiom, sorry.
-/
import Derived.Test.YtelanboegjgcbabDoorRows
import GoSem.ClaimSeven
namespace Go.Proofs.YtelanboegjgcbabDoor
namespace Rows

/-- THE TIED CARD OF 'chroniclelaw02.FieldPower'. -/
def fieldPowerCard : Claim7 := { stood := { row := fieldPowerRow, standIns := [], harness := (true, "f97e3e35f7e2c1b9a69e4a165a3cbc3c32bd23ef7cf768d959431aff116d6543"), looks := false }, kinds := [], alts := [], laidByText := true, laidKinds := [.data], laidTests := true, laidLooks := .later }
def FieldPowerCardSaid : Prop := Claim7.holds Tryd.pinned (.plain (OpenSpec.ofChange fieldPowerSpec)) fieldPowerCard

/-- THE TIED CARD OF 'chroniclelaw02.FieldMinus'. -/
def fieldMinusCard : Claim7 := { stood := { row := fieldMinusRow, standIns := [], harness := (true, "f97e3e35f7e2c1b9a69e4a165a3cbc3c32bd23ef7cf768d959431aff116d6543"), looks := false }, kinds := [], alts := [], laidByText := true, laidKinds := [.data], laidTests := true, laidLooks := .later }
def FieldMinusCardSaid : Prop := Claim7.holds Tryd.pinned (.plain (OpenSpec.ofChange fieldMinusSpec)) fieldMinusCard

/-- THE SECOND FORM's CARD OF 'chroniclelaw02.FieldPower'. -/
def fieldPowerUptoCard : Claim7 := { stood := { row := fieldPowerUptoRow, standIns := [], harness := (true, "f97e3e35f7e2c1b9a69e4a165a3cbc3c32bd23ef7cf768d959431aff116d6543"), looks := false }, kinds := [], alts := [], laidByText := true, laidKinds := [.data], laidTests := true, laidLooks := .later }
def FieldPowerUptoCardSaid : Prop := Claim7.holds Tryd.pinned (.plain (OpenSpec.upto fieldPowerSpec)) fieldPowerUptoCard

/-- THE SECOND FORM's CARD OF 'chroniclelaw02.FieldMinus'. -/
def fieldMinusUptoCard : Claim7 := { stood := { row := fieldMinusUptoRow, standIns := [], harness := (true, "f97e3e35f7e2c1b9a69e4a165a3cbc3c32bd23ef7cf768d959431aff116d6543"), looks := false }, kinds := [], alts := [], laidByText := true, laidKinds := [.data], laidTests := true, laidLooks := .later }
def FieldMinusUptoCardSaid : Prop := Claim7.holds Tryd.pinned (.plain (OpenSpec.upto fieldMinusSpec)) fieldMinusUptoCard
end Rows
end Go.Proofs.YtelanboegjgcbabDoor
