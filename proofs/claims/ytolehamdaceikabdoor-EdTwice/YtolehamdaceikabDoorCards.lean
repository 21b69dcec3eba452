/-
  DERIVED. GIVEN WITH THE SEED: THE CARDS: each row of YtolehamdaceikabDoorRows.lean that lists a variable, with what it lists TIED to the program's text (the seventh form; the later family's looks); each row that meets fmt, with fmt's text TOLD by the authors' own Lean function (tested against real Go, not proved from fmt's source: count such statements apart). THE CARD IS WHAT COUNTS. Prove the row's statement (the work); the ties are given (YtolehamdaceikabDoorTie.lean); close each card by the builder's one call (the guide's Derived/Test/ToyasCard.lean, 'card_holds'). Laid BY PROGRAM, IN A SANDBOX (cutbox-door.mjs). By AI agents, Wed Nov 11 2026. No macro, syntax, notation, axiom, sorry.
-/
import Derived.Test.YtolehamdaceikabDoorRows
import GoSem.ClaimSeven
namespace Go.Proofs.YtolehamdaceikabDoor
namespace Rows

/-- THE TIED CARD OF 'chroniclelaw09.EdTwice'. -/
def edTwiceCard : Claim7 := { stood := { row := edTwiceRow, standIns := [], harness := (true, "ddbc6dce9c5b86a8ff20675327de6adf7d93a15da379b82fac9a7f4069a3de2b"), looks := false }, kinds := [], alts := [], laidByText := true, laidKinds := [.data, .data], laidTests := true, laidLooks := .later }
def EdTwiceCardSaid : Prop := Claim7.holds Tryd.pinned (.plain (OpenSpec.ofChange edTwiceSpec)) edTwiceCard

/-- THE TIED CARD OF 'chroniclelaw09.EdStray'. -/
def edStrayCard : Claim7 := { stood := { row := edStrayRow, standIns := [], harness := (true, "ddbc6dce9c5b86a8ff20675327de6adf7d93a15da379b82fac9a7f4069a3de2b"), looks := false }, kinds := [], alts := [], laidByText := true, laidKinds := [.data, .data], laidTests := true, laidLooks := .later }
def EdStrayCardSaid : Prop := Claim7.holds Tryd.pinned (.plain (OpenSpec.ofChange edStraySpec)) edStrayCard

/-- THE SECOND FORM's CARD OF 'chroniclelaw09.EdTwice'. -/
def edTwiceUptoCard : Claim7 := { stood := { row := edTwiceUptoRow, standIns := [], harness := (true, "ddbc6dce9c5b86a8ff20675327de6adf7d93a15da379b82fac9a7f4069a3de2b"), looks := false }, kinds := [], alts := [], laidByText := true, laidKinds := [.data, .data], laidTests := true, laidLooks := .later }
def EdTwiceUptoCardSaid : Prop := Claim7.holds Tryd.pinned (.plain (OpenSpec.upto edTwiceSpec)) edTwiceUptoCard

/-- THE SECOND FORM's CARD OF 'chroniclelaw09.EdStray'. -/
def edStrayUptoCard : Claim7 := { stood := { row := edStrayUptoRow, standIns := [], harness := (true, "ddbc6dce9c5b86a8ff20675327de6adf7d93a15da379b82fac9a7f4069a3de2b"), looks := false }, kinds := [], alts := [], laidByText := true, laidKinds := [.data, .data], laidTests := true, laidLooks := .later }
def EdStrayUptoCardSaid : Prop := Claim7.holds Tryd.pinned (.plain (OpenSpec.upto edStraySpec)) edStrayUptoCard
end Rows
end Go.Proofs.YtolehamdaceikabDoor
