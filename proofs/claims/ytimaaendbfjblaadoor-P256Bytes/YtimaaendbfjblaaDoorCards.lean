/-
  DERIVED. GIVEN WITH THE SEED: THE CARDS: each row of YtimaaendbfjblaaDoorRows.lean that lists a variable, with what it lists TIED to the program's text (the seventh form; the later family's looks); each row that meets fmt, with fmt's text TOLD by the authors' own Lean function (tested against real Go, not proved from fmt's source: count such statements apart). THE CARD IS WHAT COUNTS. Prove the row's statement (the work); the ties are given (YtimaaendbfjblaaDoorTie.lean); close each card by the builder's one call (the guide's Derived/Test/ToyasCard.lean, 'card_holds'). Laid BY PROGRAM, IN A SANDBOX (cutbox-door.mjs). By AI agents, Wed Nov 11 2026. No macro, syntax, notation, axiom, sorry.
-/
import Derived.Test.YtimaaendbfjblaaDoorRows
import GoSem.ClaimSeven
namespace Go.Proofs.YtimaaendbfjblaaDoor
namespace Rows

/-- THE TIED CARD OF 'chroniclelaw08.P256Adds'. -/
def p256AddsCard : Claim7 := { stood := { row := p256AddsRow, standIns := [], harness := (true, "2501507f77c840f54a3682e2fd1f4f1e42dcd6c61792d560cad4a4c28f8e3cb5"), looks := false }, kinds := [], alts := [], laidByText := true, laidKinds := [.data, .data], laidTests := true, laidLooks := .later }
def P256AddsCardSaid : Prop := Claim7.holds Tryd.pinned (.plain (OpenSpec.ofChange p256AddsSpec)) p256AddsCard

/-- THE TIED CARD OF 'chroniclelaw08.P256Multiplies'. -/
def p256MultipliesCard : Claim7 := { stood := { row := p256MultipliesRow, standIns := [], harness := (true, "2501507f77c840f54a3682e2fd1f4f1e42dcd6c61792d560cad4a4c28f8e3cb5"), looks := false }, kinds := [], alts := [], laidByText := true, laidKinds := [.data, .data], laidTests := true, laidLooks := .later }
def P256MultipliesCardSaid : Prop := Claim7.holds Tryd.pinned (.plain (OpenSpec.ofChange p256MultipliesSpec)) p256MultipliesCard

/-- THE TIED CARD OF 'chroniclelaw08.P256Both'. -/
def p256BothCard : Claim7 := { stood := { row := p256BothRow, standIns := [], harness := (true, "2501507f77c840f54a3682e2fd1f4f1e42dcd6c61792d560cad4a4c28f8e3cb5"), looks := false }, kinds := [], alts := [], laidByText := true, laidKinds := [.data, .data], laidTests := true, laidLooks := .later }
def P256BothCardSaid : Prop := Claim7.holds Tryd.pinned (.plain (OpenSpec.ofChange p256BothSpec)) p256BothCard

/-- THE TIED CARD OF 'chroniclelaw08.P256Group'. -/
def p256GroupCard : Claim7 := { stood := { row := p256GroupRow, standIns := [], harness := (true, "2501507f77c840f54a3682e2fd1f4f1e42dcd6c61792d560cad4a4c28f8e3cb5"), looks := false }, kinds := [], alts := [], laidByText := true, laidKinds := [.data, .data], laidTests := true, laidLooks := .later }
def P256GroupCardSaid : Prop := Claim7.holds Tryd.pinned (.plain (OpenSpec.ofChange p256GroupSpec)) p256GroupCard

/-- THE TIED CARD OF 'chroniclelaw08.P256Order'. -/
def p256OrderCard : Claim7 := { stood := { row := p256OrderRow, standIns := [], harness := (true, "2501507f77c840f54a3682e2fd1f4f1e42dcd6c61792d560cad4a4c28f8e3cb5"), looks := false }, kinds := [], alts := [], laidByText := true, laidKinds := [.data, .data], laidTests := true, laidLooks := .later }
def P256OrderCardSaid : Prop := Claim7.holds Tryd.pinned (.plain (OpenSpec.ofChange p256OrderSpec)) p256OrderCard

/-- THE TIED CARD OF 'chroniclelaw08.P256Bytes'. -/
def p256BytesCard : Claim7 := { stood := { row := p256BytesRow, standIns := [], harness := (true, "2501507f77c840f54a3682e2fd1f4f1e42dcd6c61792d560cad4a4c28f8e3cb5"), looks := false }, kinds := [], alts := [], laidByText := true, laidKinds := [.data, .data], laidTests := true, laidLooks := .later }
def P256BytesCardSaid : Prop := Claim7.holds Tryd.pinned (.plain (OpenSpec.ofChange p256BytesSpec)) p256BytesCard

/-- THE SECOND FORM's CARD OF 'chroniclelaw08.P256Adds'. -/
def p256AddsUptoCard : Claim7 := { stood := { row := p256AddsUptoRow, standIns := [], harness := (true, "2501507f77c840f54a3682e2fd1f4f1e42dcd6c61792d560cad4a4c28f8e3cb5"), looks := false }, kinds := [], alts := [], laidByText := true, laidKinds := [.data, .data], laidTests := true, laidLooks := .later }
def P256AddsUptoCardSaid : Prop := Claim7.holds Tryd.pinned (.plain (OpenSpec.upto p256AddsSpec)) p256AddsUptoCard

/-- THE SECOND FORM's CARD OF 'chroniclelaw08.P256Multiplies'. -/
def p256MultipliesUptoCard : Claim7 := { stood := { row := p256MultipliesUptoRow, standIns := [], harness := (true, "2501507f77c840f54a3682e2fd1f4f1e42dcd6c61792d560cad4a4c28f8e3cb5"), looks := false }, kinds := [], alts := [], laidByText := true, laidKinds := [.data, .data], laidTests := true, laidLooks := .later }
def P256MultipliesUptoCardSaid : Prop := Claim7.holds Tryd.pinned (.plain (OpenSpec.upto p256MultipliesSpec)) p256MultipliesUptoCard

/-- THE SECOND FORM's CARD OF 'chroniclelaw08.P256Both'. -/
def p256BothUptoCard : Claim7 := { stood := { row := p256BothUptoRow, standIns := [], harness := (true, "2501507f77c840f54a3682e2fd1f4f1e42dcd6c61792d560cad4a4c28f8e3cb5"), looks := false }, kinds := [], alts := [], laidByText := true, laidKinds := [.data, .data], laidTests := true, laidLooks := .later }
def P256BothUptoCardSaid : Prop := Claim7.holds Tryd.pinned (.plain (OpenSpec.upto p256BothSpec)) p256BothUptoCard

/-- THE SECOND FORM's CARD OF 'chroniclelaw08.P256Group'. -/
def p256GroupUptoCard : Claim7 := { stood := { row := p256GroupUptoRow, standIns := [], harness := (true, "2501507f77c840f54a3682e2fd1f4f1e42dcd6c61792d560cad4a4c28f8e3cb5"), looks := false }, kinds := [], alts := [], laidByText := true, laidKinds := [.data, .data], laidTests := true, laidLooks := .later }
def P256GroupUptoCardSaid : Prop := Claim7.holds Tryd.pinned (.plain (OpenSpec.upto p256GroupSpec)) p256GroupUptoCard

/-- THE SECOND FORM's CARD OF 'chroniclelaw08.P256Order'. -/
def p256OrderUptoCard : Claim7 := { stood := { row := p256OrderUptoRow, standIns := [], harness := (true, "2501507f77c840f54a3682e2fd1f4f1e42dcd6c61792d560cad4a4c28f8e3cb5"), looks := false }, kinds := [], alts := [], laidByText := true, laidKinds := [.data, .data], laidTests := true, laidLooks := .later }
def P256OrderUptoCardSaid : Prop := Claim7.holds Tryd.pinned (.plain (OpenSpec.upto p256OrderSpec)) p256OrderUptoCard

/-- THE SECOND FORM's CARD OF 'chroniclelaw08.P256Bytes'. -/
def p256BytesUptoCard : Claim7 := { stood := { row := p256BytesUptoRow, standIns := [], harness := (true, "2501507f77c840f54a3682e2fd1f4f1e42dcd6c61792d560cad4a4c28f8e3cb5"), looks := false }, kinds := [], alts := [], laidByText := true, laidKinds := [.data, .data], laidTests := true, laidLooks := .later }
def P256BytesUptoCardSaid : Prop := Claim7.holds Tryd.pinned (.plain (OpenSpec.upto p256BytesSpec)) p256BytesUptoCard
end Rows
end Go.Proofs.YtimaaendbfjblaaDoor
