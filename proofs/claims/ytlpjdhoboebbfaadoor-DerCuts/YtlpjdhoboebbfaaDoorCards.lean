/-
  DERIVED. GIVEN WITH THE SEED: THE CARDS: each row of YtlpjdhoboebbfaaDoorRows.lean that lists a variable, with what it lists TIED to the program's text (the seventh form; the later family's looks); each row that meets fmt, with fmt's text TOLD by the authors' own Lean function (tested against real Go, not proved from fmt's source: count such statements apart). THE CARD IS WHAT COUNTS. Prove the row's statement (the work); the ties are given (YtlpjdhoboebbfaaDoorTie.lean); close each card by the builder's one call (the guide's Derived/Test/ToyasCard.lean, 'card_holds'). Laid BY PROGRAM, IN A SANDBOX (cutbox-door.mjs). By AI agents, Wed Nov 11 2026. No macro, syntax, notation, axiom, sorry.
-/
import Derived.Test.YtlpjdhoboebbfaaDoorRows
import GoSem.ClaimSeven
namespace Go.Proofs.YtlpjdhoboebbfaaDoor
namespace Rows

/-- THE TIED CARD OF 'chroniclelaw10.DerDecodes'. -/
def derDecodesCard : Claim7 := { stood := { row := derDecodesRow, standIns := [], harness := (true, "6b970ffca56516e013bdac9e2daed3f330d3aa7fdaf842cb88d8de1e1ab28079"), looks := false }, kinds := [], alts := [], laidByText := true, laidKinds := [.sentinel], laidTests := true, laidLooks := .later }
def DerDecodesCardSaid : Prop := Claim7.holds Tryd.pinned (.plain (OpenSpec.ofChange derDecodesSpec)) derDecodesCard

/-- THE TIED CARD OF 'chroniclelaw10.DerBack'. -/
def derBackCard : Claim7 := { stood := { row := derBackRow, standIns := [], harness := (true, "6b970ffca56516e013bdac9e2daed3f330d3aa7fdaf842cb88d8de1e1ab28079"), looks := false }, kinds := [], alts := [], laidByText := true, laidKinds := [.sentinel], laidTests := true, laidLooks := .later }
def DerBackCardSaid : Prop := Claim7.holds Tryd.pinned (.plain (OpenSpec.ofChange derBackSpec)) derBackCard

/-- THE TIED CARD OF 'chroniclelaw10.DerCuts'. -/
def derCutsCard : Claim7 := { stood := { row := derCutsRow, standIns := [], harness := (true, "6b970ffca56516e013bdac9e2daed3f330d3aa7fdaf842cb88d8de1e1ab28079"), looks := false }, kinds := [], alts := [], laidByText := true, laidKinds := [.sentinel], laidTests := true, laidLooks := .later }
def DerCutsCardSaid : Prop := Claim7.holds Tryd.pinned (.plain (OpenSpec.ofChange derCutsSpec)) derCutsCard

/-- THE SECOND FORM's CARD OF 'chroniclelaw10.DerDecodes'. -/
def derDecodesUptoCard : Claim7 := { stood := { row := derDecodesUptoRow, standIns := [], harness := (true, "6b970ffca56516e013bdac9e2daed3f330d3aa7fdaf842cb88d8de1e1ab28079"), looks := false }, kinds := [], alts := [], laidByText := true, laidKinds := [.sentinel], laidTests := true, laidLooks := .later }
def DerDecodesUptoCardSaid : Prop := Claim7.holds Tryd.pinned (.plain (OpenSpec.upto derDecodesSpec)) derDecodesUptoCard

/-- THE SECOND FORM's CARD OF 'chroniclelaw10.DerBack'. -/
def derBackUptoCard : Claim7 := { stood := { row := derBackUptoRow, standIns := [], harness := (true, "6b970ffca56516e013bdac9e2daed3f330d3aa7fdaf842cb88d8de1e1ab28079"), looks := false }, kinds := [], alts := [], laidByText := true, laidKinds := [.sentinel], laidTests := true, laidLooks := .later }
def DerBackUptoCardSaid : Prop := Claim7.holds Tryd.pinned (.plain (OpenSpec.upto derBackSpec)) derBackUptoCard

/-- THE SECOND FORM's CARD OF 'chroniclelaw10.DerCuts'. -/
def derCutsUptoCard : Claim7 := { stood := { row := derCutsUptoRow, standIns := [], harness := (true, "6b970ffca56516e013bdac9e2daed3f330d3aa7fdaf842cb88d8de1e1ab28079"), looks := false }, kinds := [], alts := [], laidByText := true, laidKinds := [.sentinel], laidTests := true, laidLooks := .later }
def DerCutsUptoCardSaid : Prop := Claim7.holds Tryd.pinned (.plain (OpenSpec.upto derCutsSpec)) derCutsUptoCard
end Rows
end Go.Proofs.YtlpjdhoboebbfaaDoor
