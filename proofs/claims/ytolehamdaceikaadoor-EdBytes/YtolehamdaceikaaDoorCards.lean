/-
  DERIVED. GIVEN WITH THE SEED: THE CARDS: each row of YtolehamdaceikaaDoorRows.lean that lists a variable, with what it lists TIED to the program's text (the seventh form; the later family's looks); each row that meets fmt, with fmt's text TOLD by the authors' own Lean function (tested against real Go, not proved from fmt's source: count such statements apart). THE CARD IS WHAT COUNTS. Prove the row's statement (the work); the ties are given (YtolehamdaceikaaDoorTie.lean); close each card by the builder's one call (the guide's Derived/Test/ToyasCard.lean, 'card_holds'). Laid BY PROGRAM, IN A SANDBOX (cutbox-door.mjs). By AI agents, Wed Nov 11 2026. No macro, syntax, notation, axiom, sorry.
-/
import Derived.Test.YtolehamdaceikaaDoorRows
import GoSem.ClaimSeven
namespace Go.Proofs.YtolehamdaceikaaDoor
namespace Rows

/-- THE TIED CARD OF 'chroniclelaw09.EdAdds'. -/
def edAddsCard : Claim7 := { stood := { row := edAddsRow, standIns := [], harness := (true, "ac4384ecb6740f3d63c7bf850eca7f9ea17030ecbbb3885185e4ab42a0b51b3d"), looks := false }, kinds := [], alts := [], laidByText := true, laidKinds := [.data, .data], laidTests := true, laidLooks := .later }
def EdAddsCardSaid : Prop := Claim7.holds Tryd.pinned (.plain (OpenSpec.ofChange edAddsSpec)) edAddsCard

/-- THE TIED CARD OF 'chroniclelaw09.EdMultiplies'. -/
def edMultipliesCard : Claim7 := { stood := { row := edMultipliesRow, standIns := [], harness := (true, "ac4384ecb6740f3d63c7bf850eca7f9ea17030ecbbb3885185e4ab42a0b51b3d"), looks := false }, kinds := [], alts := [], laidByText := true, laidKinds := [.data, .data], laidTests := true, laidLooks := .later }
def EdMultipliesCardSaid : Prop := Claim7.holds Tryd.pinned (.plain (OpenSpec.ofChange edMultipliesSpec)) edMultipliesCard

/-- THE TIED CARD OF 'chroniclelaw09.EdBoth'. -/
def edBothCard : Claim7 := { stood := { row := edBothRow, standIns := [], harness := (true, "ac4384ecb6740f3d63c7bf850eca7f9ea17030ecbbb3885185e4ab42a0b51b3d"), looks := false }, kinds := [], alts := [], laidByText := true, laidKinds := [.data, .data], laidTests := true, laidLooks := .later }
def EdBothCardSaid : Prop := Claim7.holds Tryd.pinned (.plain (OpenSpec.ofChange edBothSpec)) edBothCard

/-- THE TIED CARD OF 'chroniclelaw09.EdGroup'. -/
def edGroupCard : Claim7 := { stood := { row := edGroupRow, standIns := [], harness := (true, "ac4384ecb6740f3d63c7bf850eca7f9ea17030ecbbb3885185e4ab42a0b51b3d"), looks := false }, kinds := [], alts := [], laidByText := true, laidKinds := [.data, .data], laidTests := true, laidLooks := .later }
def EdGroupCardSaid : Prop := Claim7.holds Tryd.pinned (.plain (OpenSpec.ofChange edGroupSpec)) edGroupCard

/-- THE TIED CARD OF 'chroniclelaw09.EdOrder'. -/
def edOrderCard : Claim7 := { stood := { row := edOrderRow, standIns := [], harness := (true, "ac4384ecb6740f3d63c7bf850eca7f9ea17030ecbbb3885185e4ab42a0b51b3d"), looks := false }, kinds := [], alts := [], laidByText := true, laidKinds := [.data, .data], laidTests := true, laidLooks := .later }
def EdOrderCardSaid : Prop := Claim7.holds Tryd.pinned (.plain (OpenSpec.ofChange edOrderSpec)) edOrderCard

/-- THE TIED CARD OF 'chroniclelaw09.EdBytes'. -/
def edBytesCard : Claim7 := { stood := { row := edBytesRow, standIns := [], harness := (true, "ac4384ecb6740f3d63c7bf850eca7f9ea17030ecbbb3885185e4ab42a0b51b3d"), looks := false }, kinds := [], alts := [], laidByText := true, laidKinds := [.data, .data, .data, .data], laidTests := true, laidLooks := .later }
def EdBytesCardSaid : Prop := Claim7.holds Tryd.pinned (.plain (OpenSpec.ofChange edBytesSpec)) edBytesCard

/-- THE SECOND FORM's CARD OF 'chroniclelaw09.EdAdds'. -/
def edAddsUptoCard : Claim7 := { stood := { row := edAddsUptoRow, standIns := [], harness := (true, "ac4384ecb6740f3d63c7bf850eca7f9ea17030ecbbb3885185e4ab42a0b51b3d"), looks := false }, kinds := [], alts := [], laidByText := true, laidKinds := [.data, .data], laidTests := true, laidLooks := .later }
def EdAddsUptoCardSaid : Prop := Claim7.holds Tryd.pinned (.plain (OpenSpec.upto edAddsSpec)) edAddsUptoCard

/-- THE SECOND FORM's CARD OF 'chroniclelaw09.EdMultiplies'. -/
def edMultipliesUptoCard : Claim7 := { stood := { row := edMultipliesUptoRow, standIns := [], harness := (true, "ac4384ecb6740f3d63c7bf850eca7f9ea17030ecbbb3885185e4ab42a0b51b3d"), looks := false }, kinds := [], alts := [], laidByText := true, laidKinds := [.data, .data], laidTests := true, laidLooks := .later }
def EdMultipliesUptoCardSaid : Prop := Claim7.holds Tryd.pinned (.plain (OpenSpec.upto edMultipliesSpec)) edMultipliesUptoCard

/-- THE SECOND FORM's CARD OF 'chroniclelaw09.EdBoth'. -/
def edBothUptoCard : Claim7 := { stood := { row := edBothUptoRow, standIns := [], harness := (true, "ac4384ecb6740f3d63c7bf850eca7f9ea17030ecbbb3885185e4ab42a0b51b3d"), looks := false }, kinds := [], alts := [], laidByText := true, laidKinds := [.data, .data], laidTests := true, laidLooks := .later }
def EdBothUptoCardSaid : Prop := Claim7.holds Tryd.pinned (.plain (OpenSpec.upto edBothSpec)) edBothUptoCard

/-- THE SECOND FORM's CARD OF 'chroniclelaw09.EdGroup'. -/
def edGroupUptoCard : Claim7 := { stood := { row := edGroupUptoRow, standIns := [], harness := (true, "ac4384ecb6740f3d63c7bf850eca7f9ea17030ecbbb3885185e4ab42a0b51b3d"), looks := false }, kinds := [], alts := [], laidByText := true, laidKinds := [.data, .data], laidTests := true, laidLooks := .later }
def EdGroupUptoCardSaid : Prop := Claim7.holds Tryd.pinned (.plain (OpenSpec.upto edGroupSpec)) edGroupUptoCard

/-- THE SECOND FORM's CARD OF 'chroniclelaw09.EdOrder'. -/
def edOrderUptoCard : Claim7 := { stood := { row := edOrderUptoRow, standIns := [], harness := (true, "ac4384ecb6740f3d63c7bf850eca7f9ea17030ecbbb3885185e4ab42a0b51b3d"), looks := false }, kinds := [], alts := [], laidByText := true, laidKinds := [.data, .data], laidTests := true, laidLooks := .later }
def EdOrderUptoCardSaid : Prop := Claim7.holds Tryd.pinned (.plain (OpenSpec.upto edOrderSpec)) edOrderUptoCard

/-- THE SECOND FORM's CARD OF 'chroniclelaw09.EdBytes'. -/
def edBytesUptoCard : Claim7 := { stood := { row := edBytesUptoRow, standIns := [], harness := (true, "ac4384ecb6740f3d63c7bf850eca7f9ea17030ecbbb3885185e4ab42a0b51b3d"), looks := false }, kinds := [], alts := [], laidByText := true, laidKinds := [.data, .data, .data, .data], laidTests := true, laidLooks := .later }
def EdBytesUptoCardSaid : Prop := Claim7.holds Tryd.pinned (.plain (OpenSpec.upto edBytesSpec)) edBytesUptoCard
end Rows
end Go.Proofs.YtolehamdaceikaaDoor
