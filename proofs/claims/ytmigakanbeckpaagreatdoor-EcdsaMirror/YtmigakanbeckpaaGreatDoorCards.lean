/-
  DERIVED. GIVEN WITH THE SEED: THE CARDS: each row of YtmigakanbeckpaaGreatDoorRows.lean that lists a variable, with what it lists TIED to the program's text (the seventh form; the later family's looks); each row that meets fmt, with fmt's text TOLD by the authors' own Lean function (tested against real Go, not proved from fmt's source: count such statements apart). THE CARD IS WHAT COUNTS. Prove the row's statement (the work); the ties are given (YtmigakanbeckpaaGreatDoorTie.lean); close each card by the builder's one call (the guide's Derived/Test/ToyasCard.lean, 'card_holds'). Laid BY PROGRAM, IN A SANDBOX (cutbox-door.mjs). By AI agents, Wed Nov 11 2026. No macro, syntax, notation, axiom, sorry.
-/
import Derived.Test.YtmigakanbeckpaaGreatDoorRows
import GoSem.ClaimSeven
namespace Go.Proofs.YtmigakanbeckpaaGreatDoor
namespace Rows

/-- THE TIED CARD OF 'chroniclelaw11.EcdsaKeys'. -/
def ecdsaKeysCard : Claim7 := { stood := { row := ecdsaKeysRow, standIns := [], harness := (true, "2570cd196d607b8655559458152e0dd27d24f2ef25c327fda039db2c9e16a99e"), looks := false }, kinds := [], alts := [], laidByText := true, laidKinds := [.data, .data, .data, .data], laidTests := true, laidLooks := .later }
def EcdsaKeysCardSaid : Prop := Claim7.holds Tryz.pinned (.plain (OpenSpec.ofChange ecdsaKeysSpec)) ecdsaKeysCard

/-- THE TIED CARD OF 'chroniclelaw11.EcdsaVerifies'. -/
def ecdsaVerifiesCard : Claim7 := { stood := { row := ecdsaVerifiesRow, standIns := [], harness := (true, "2570cd196d607b8655559458152e0dd27d24f2ef25c327fda039db2c9e16a99e"), looks := false }, kinds := [], alts := [], laidByText := true, laidKinds := [.data, .data, .data, .data, .sentinel], laidTests := true, laidLooks := .later }
def EcdsaVerifiesCardSaid : Prop := Claim7.holds Tryz.pinned (.plain (OpenSpec.ofChange ecdsaVerifiesSpec)) ecdsaVerifiesCard

/-- THE TIED CARD OF 'chroniclelaw11.EcdsaSigns'. -/
def ecdsaSignsCard : Claim7 := { stood := { row := ecdsaSignsRow, standIns := [], harness := (true, "2570cd196d607b8655559458152e0dd27d24f2ef25c327fda039db2c9e16a99e"), looks := false }, kinds := [], alts := [], laidByText := true, laidKinds := [.data, .data, .data, .data, .sentinel], laidTests := true, laidLooks := .later }
def EcdsaSignsCardSaid : Prop := Claim7.holds Tryz.pinned (.plain (OpenSpec.ofChange ecdsaSignsSpec)) ecdsaSignsCard

/-- THE TIED CARD OF 'chroniclelaw11.EcdsaMirror'. -/
def ecdsaMirrorCard : Claim7 := { stood := { row := ecdsaMirrorRow, standIns := [], harness := (true, "2570cd196d607b8655559458152e0dd27d24f2ef25c327fda039db2c9e16a99e"), looks := false }, kinds := [], alts := [], laidByText := true, laidKinds := [.data, .data, .data, .data, .sentinel], laidTests := true, laidLooks := .later }
def EcdsaMirrorCardSaid : Prop := Claim7.holds Tryz.pinned (.plain (OpenSpec.ofChange ecdsaMirrorSpec)) ecdsaMirrorCard

/-- THE TIED CARD OF 'chroniclelaw11.EcdsaNone'. -/
def ecdsaNoneCard : Claim7 := { stood := { row := ecdsaNoneRow, standIns := [], harness := (true, "2570cd196d607b8655559458152e0dd27d24f2ef25c327fda039db2c9e16a99e"), looks := false }, kinds := [], alts := [], laidByText := true, laidKinds := [.data, .data, .data, .data, .sentinel], laidTests := true, laidLooks := .later }
def EcdsaNoneCardSaid : Prop := Claim7.holds Tryz.pinned (.plain (OpenSpec.ofChange ecdsaNoneSpec)) ecdsaNoneCard

/-- THE SECOND FORM's CARD OF 'chroniclelaw11.EcdsaKeys'. -/
def ecdsaKeysUptoCard : Claim7 := { stood := { row := ecdsaKeysUptoRow, standIns := [], harness := (true, "2570cd196d607b8655559458152e0dd27d24f2ef25c327fda039db2c9e16a99e"), looks := false }, kinds := [], alts := [], laidByText := true, laidKinds := [.data, .data, .data, .data], laidTests := true, laidLooks := .later }
def EcdsaKeysUptoCardSaid : Prop := Claim7.holds Tryz.pinned (.plain (OpenSpec.upto ecdsaKeysSpec)) ecdsaKeysUptoCard

/-- THE SECOND FORM's CARD OF 'chroniclelaw11.EcdsaVerifies'. -/
def ecdsaVerifiesUptoCard : Claim7 := { stood := { row := ecdsaVerifiesUptoRow, standIns := [], harness := (true, "2570cd196d607b8655559458152e0dd27d24f2ef25c327fda039db2c9e16a99e"), looks := false }, kinds := [], alts := [], laidByText := true, laidKinds := [.data, .data, .data, .data, .sentinel], laidTests := true, laidLooks := .later }
def EcdsaVerifiesUptoCardSaid : Prop := Claim7.holds Tryz.pinned (.plain (OpenSpec.upto ecdsaVerifiesSpec)) ecdsaVerifiesUptoCard

/-- THE SECOND FORM's CARD OF 'chroniclelaw11.EcdsaSigns'. -/
def ecdsaSignsUptoCard : Claim7 := { stood := { row := ecdsaSignsUptoRow, standIns := [], harness := (true, "2570cd196d607b8655559458152e0dd27d24f2ef25c327fda039db2c9e16a99e"), looks := false }, kinds := [], alts := [], laidByText := true, laidKinds := [.data, .data, .data, .data, .sentinel], laidTests := true, laidLooks := .later }
def EcdsaSignsUptoCardSaid : Prop := Claim7.holds Tryz.pinned (.plain (OpenSpec.upto ecdsaSignsSpec)) ecdsaSignsUptoCard

/-- THE SECOND FORM's CARD OF 'chroniclelaw11.EcdsaMirror'. -/
def ecdsaMirrorUptoCard : Claim7 := { stood := { row := ecdsaMirrorUptoRow, standIns := [], harness := (true, "2570cd196d607b8655559458152e0dd27d24f2ef25c327fda039db2c9e16a99e"), looks := false }, kinds := [], alts := [], laidByText := true, laidKinds := [.data, .data, .data, .data, .sentinel], laidTests := true, laidLooks := .later }
def EcdsaMirrorUptoCardSaid : Prop := Claim7.holds Tryz.pinned (.plain (OpenSpec.upto ecdsaMirrorSpec)) ecdsaMirrorUptoCard

/-- THE SECOND FORM's CARD OF 'chroniclelaw11.EcdsaNone'. -/
def ecdsaNoneUptoCard : Claim7 := { stood := { row := ecdsaNoneUptoRow, standIns := [], harness := (true, "2570cd196d607b8655559458152e0dd27d24f2ef25c327fda039db2c9e16a99e"), looks := false }, kinds := [], alts := [], laidByText := true, laidKinds := [.data, .data, .data, .data, .sentinel], laidTests := true, laidLooks := .later }
def EcdsaNoneUptoCardSaid : Prop := Claim7.holds Tryz.pinned (.plain (OpenSpec.upto ecdsaNoneSpec)) ecdsaNoneUptoCard
end Rows
end Go.Proofs.YtmigakanbeckpaaGreatDoor
