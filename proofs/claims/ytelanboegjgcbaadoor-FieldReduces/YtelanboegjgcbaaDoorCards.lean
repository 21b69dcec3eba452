/-
  DERIVED. GIVEN WITH THE SEED: THE CARDS: each row of YtelanboegjgcbaaDoorRows.lean that lists a variable, with what it lists TIED to the program's text (the seventh form; the later family's looks); each row that meets fmt, with fmt's text TOLD by the authors' own Lean function (tested against real Go, not proved from fmt's source: count such statements apart). THE CARD IS WHAT COUNTS. Prove the row's statement (the work); the ties are given (YtelanboegjgcbaaDoorTie.lean); close each card by the builder's one call (the guide's Derived/Test/ToyasCard.lean, 'card_holds'). Laid BY PROGRAM, IN A SANDBOX (cutbox-door.mjs). By AI agents, Wed Nov 11 2026. No macro, syntax, notation, axiom, sorry.
-/
import Derived.Test.YtelanboegjgcbaaDoorRows
import GoSem.ClaimSeven
namespace Go.Proofs.YtelanboegjgcbaaDoor
namespace Rows

/-- THE TIED CARD OF 'chroniclelaw02.FieldReckons'. -/
def fieldReckonsCard : Claim7 := { stood := { row := fieldReckonsRow, standIns := [], harness := (true, "e7a0ffa3da5ebb68dbaf0fb23486cca998e67ef7f4e75a2adcfe399afe83097c"), looks := false }, kinds := [], alts := [], laidByText := true, laidKinds := [.data], laidTests := true, laidLooks := .later }
def FieldReckonsCardSaid : Prop := Claim7.holds Tryd.pinned (.plain (OpenSpec.ofChange fieldReckonsSpec)) fieldReckonsCard

/-- THE TIED CARD OF 'chroniclelaw02.FieldReduces'. -/
def fieldReducesCard : Claim7 := { stood := { row := fieldReducesRow, standIns := [], harness := (true, "e7a0ffa3da5ebb68dbaf0fb23486cca998e67ef7f4e75a2adcfe399afe83097c"), looks := false }, kinds := [], alts := [], laidByText := true, laidKinds := [.data], laidTests := true, laidLooks := .later }
def FieldReducesCardSaid : Prop := Claim7.holds Tryd.pinned (.plain (OpenSpec.ofChange fieldReducesSpec)) fieldReducesCard

/-- THE TIED CARD OF 'chroniclelaw02.FieldPowers'. -/
def fieldPowersCard : Claim7 := { stood := { row := fieldPowersRow, standIns := [], harness := (true, "e7a0ffa3da5ebb68dbaf0fb23486cca998e67ef7f4e75a2adcfe399afe83097c"), looks := false }, kinds := [], alts := [], laidByText := true, laidKinds := [.data], laidTests := true, laidLooks := .later }
def FieldPowersCardSaid : Prop := Claim7.holds Tryd.pinned (.plain (OpenSpec.ofChange fieldPowersSpec)) fieldPowersCard

/-- THE TIED CARD OF 'chroniclelaw02.FieldRing'. -/
def fieldRingCard : Claim7 := { stood := { row := fieldRingRow, standIns := [], harness := (true, "e7a0ffa3da5ebb68dbaf0fb23486cca998e67ef7f4e75a2adcfe399afe83097c"), looks := false }, kinds := [], alts := [], laidByText := true, laidKinds := [.data], laidTests := true, laidLooks := .later }
def FieldRingCardSaid : Prop := Claim7.holds Tryd.pinned (.plain (OpenSpec.ofChange fieldRingSpec)) fieldRingCard

/-- THE TIED CARD OF 'chroniclelaw02.FieldInverse'. -/
def fieldInverseCard : Claim7 := { stood := { row := fieldInverseRow, standIns := [], harness := (true, "e7a0ffa3da5ebb68dbaf0fb23486cca998e67ef7f4e75a2adcfe399afe83097c"), looks := false }, kinds := [], alts := [], laidByText := true, laidKinds := [.data], laidTests := true, laidLooks := .later }
def FieldInverseCardSaid : Prop := Claim7.holds Tryd.pinned (.plain (OpenSpec.ofChange fieldInverseSpec)) fieldInverseCard

/-- THE TIED CARD OF 'chroniclelaw02.FieldLess'. -/
def fieldLessCard : Claim7 := { stood := { row := fieldLessRow, standIns := [], harness := (true, "e7a0ffa3da5ebb68dbaf0fb23486cca998e67ef7f4e75a2adcfe399afe83097c"), looks := false }, kinds := [], alts := [], laidByText := true, laidKinds := [.data], laidTests := true, laidLooks := .later }
def FieldLessCardSaid : Prop := Claim7.holds Tryd.pinned (.plain (OpenSpec.ofChange fieldLessSpec)) fieldLessCard

/-- THE SECOND FORM's CARD OF 'chroniclelaw02.FieldReckons'. -/
def fieldReckonsUptoCard : Claim7 := { stood := { row := fieldReckonsUptoRow, standIns := [], harness := (true, "e7a0ffa3da5ebb68dbaf0fb23486cca998e67ef7f4e75a2adcfe399afe83097c"), looks := false }, kinds := [], alts := [], laidByText := true, laidKinds := [.data], laidTests := true, laidLooks := .later }
def FieldReckonsUptoCardSaid : Prop := Claim7.holds Tryd.pinned (.plain (OpenSpec.upto fieldReckonsSpec)) fieldReckonsUptoCard

/-- THE SECOND FORM's CARD OF 'chroniclelaw02.FieldReduces'. -/
def fieldReducesUptoCard : Claim7 := { stood := { row := fieldReducesUptoRow, standIns := [], harness := (true, "e7a0ffa3da5ebb68dbaf0fb23486cca998e67ef7f4e75a2adcfe399afe83097c"), looks := false }, kinds := [], alts := [], laidByText := true, laidKinds := [.data], laidTests := true, laidLooks := .later }
def FieldReducesUptoCardSaid : Prop := Claim7.holds Tryd.pinned (.plain (OpenSpec.upto fieldReducesSpec)) fieldReducesUptoCard

/-- THE SECOND FORM's CARD OF 'chroniclelaw02.FieldPowers'. -/
def fieldPowersUptoCard : Claim7 := { stood := { row := fieldPowersUptoRow, standIns := [], harness := (true, "e7a0ffa3da5ebb68dbaf0fb23486cca998e67ef7f4e75a2adcfe399afe83097c"), looks := false }, kinds := [], alts := [], laidByText := true, laidKinds := [.data], laidTests := true, laidLooks := .later }
def FieldPowersUptoCardSaid : Prop := Claim7.holds Tryd.pinned (.plain (OpenSpec.upto fieldPowersSpec)) fieldPowersUptoCard

/-- THE SECOND FORM's CARD OF 'chroniclelaw02.FieldRing'. -/
def fieldRingUptoCard : Claim7 := { stood := { row := fieldRingUptoRow, standIns := [], harness := (true, "e7a0ffa3da5ebb68dbaf0fb23486cca998e67ef7f4e75a2adcfe399afe83097c"), looks := false }, kinds := [], alts := [], laidByText := true, laidKinds := [.data], laidTests := true, laidLooks := .later }
def FieldRingUptoCardSaid : Prop := Claim7.holds Tryd.pinned (.plain (OpenSpec.upto fieldRingSpec)) fieldRingUptoCard

/-- THE SECOND FORM's CARD OF 'chroniclelaw02.FieldInverse'. -/
def fieldInverseUptoCard : Claim7 := { stood := { row := fieldInverseUptoRow, standIns := [], harness := (true, "e7a0ffa3da5ebb68dbaf0fb23486cca998e67ef7f4e75a2adcfe399afe83097c"), looks := false }, kinds := [], alts := [], laidByText := true, laidKinds := [.data], laidTests := true, laidLooks := .later }
def FieldInverseUptoCardSaid : Prop := Claim7.holds Tryd.pinned (.plain (OpenSpec.upto fieldInverseSpec)) fieldInverseUptoCard

/-- THE SECOND FORM's CARD OF 'chroniclelaw02.FieldLess'. -/
def fieldLessUptoCard : Claim7 := { stood := { row := fieldLessUptoRow, standIns := [], harness := (true, "e7a0ffa3da5ebb68dbaf0fb23486cca998e67ef7f4e75a2adcfe399afe83097c"), looks := false }, kinds := [], alts := [], laidByText := true, laidKinds := [.data], laidTests := true, laidLooks := .later }
def FieldLessUptoCardSaid : Prop := Claim7.holds Tryd.pinned (.plain (OpenSpec.upto fieldLessSpec)) fieldLessUptoCard
end Rows
end Go.Proofs.YtelanboegjgcbaaDoor
