/-
  DERIVED. GIVEN WITH THE SEED: THE CARDS: each row of YtgefbeejjbjfhaaDoorRows.lean that lists a variable, with what it lists TIED to the program's text (the seventh form; the later family's looks); each row that meets fmt, with fmt's text TOLD by the authors' own Lean function (tested against real Go, not proved from fmt's source: count such statements apart). THE CARD IS WHAT COUNTS. Prove the row's statement (the work); the ties are given (YtgefbeejjbjfhaaDoorTie.lean); close each card by the builder's one call (the guide's Derived/Test/ToyasCard.lean, 'card_holds'). Laid BY PROGRAM, IN A SANDBOX (cutbox-door.mjs). By AI agents, Wed Nov 11 2026. No macro, syntax, notation, axiom, sorry.
-/
import Derived.Test.YtgefbeejjbjfhaaDoorRows
import GoSem.ClaimSeven
namespace Go.Proofs.YtgefbeejjbjfhaaDoor
namespace Rows

/-- THE TIED CARD OF 'chroniclelaw05.Sha256Sums'. -/
def sha256SumsCard : Claim7 := { stood := { row := sha256SumsRow, standIns := [], harness := (true, "025c404c68d86a1fa6e71eaa7e2d5c48411f9b70887cf6079748b3fdef21b3b7"), looks := false }, kinds := [], alts := [], laidByText := true, laidKinds := [.data, .data], laidTests := true, laidLooks := .later }
def Sha256SumsCardSaid : Prop := Claim7.holds Tryd.pinned (.plain (OpenSpec.ofChange sha256SumsSpec)) sha256SumsCard

/-- THE TIED CARD OF 'chroniclelaw05.Sha256Parts'. -/
def sha256PartsCard : Claim7 := { stood := { row := sha256PartsRow, standIns := [], harness := (true, "025c404c68d86a1fa6e71eaa7e2d5c48411f9b70887cf6079748b3fdef21b3b7"), looks := false }, kinds := [], alts := [], laidByText := true, laidKinds := [.data, .data], laidTests := true, laidLooks := .later }
def Sha256PartsCardSaid : Prop := Claim7.holds Tryd.pinned (.plain (OpenSpec.ofChange sha256PartsSpec)) sha256PartsCard

/-- THE TIED CARD OF 'chroniclelaw05.Sha256Same'. -/
def sha256SameCard : Claim7 := { stood := { row := sha256SameRow, standIns := [], harness := (true, "025c404c68d86a1fa6e71eaa7e2d5c48411f9b70887cf6079748b3fdef21b3b7"), looks := false }, kinds := [], alts := [], laidByText := true, laidKinds := [.data, .data], laidTests := true, laidLooks := .later }
def Sha256SameCardSaid : Prop := Claim7.holds Tryd.pinned (.plain (OpenSpec.ofChange sha256SameSpec)) sha256SameCard

/-- THE TIED CARD OF 'chroniclelaw05.Sha256Nil'. -/
def sha256NilCard : Claim7 := { stood := { row := sha256NilRow, standIns := [], harness := (true, "025c404c68d86a1fa6e71eaa7e2d5c48411f9b70887cf6079748b3fdef21b3b7"), looks := false }, kinds := [], alts := [], laidByText := true, laidKinds := [.data, .data], laidTests := true, laidLooks := .later }
def Sha256NilCardSaid : Prop := Claim7.holds Tryd.pinned (.plain (OpenSpec.ofChange sha256NilSpec)) sha256NilCard

/-- THE TIED CARD OF 'chroniclelaw05.Sha256Bytes'. -/
def sha256BytesCard : Claim7 := { stood := { row := sha256BytesRow, standIns := [], harness := (true, "025c404c68d86a1fa6e71eaa7e2d5c48411f9b70887cf6079748b3fdef21b3b7"), looks := false }, kinds := [], alts := [], laidByText := true, laidKinds := [.data, .data], laidTests := true, laidLooks := .later }
def Sha256BytesCardSaid : Prop := Claim7.holds Tryd.pinned (.plain (OpenSpec.ofChange sha256BytesSpec)) sha256BytesCard

/-- THE SECOND FORM's CARD OF 'chroniclelaw05.Sha256Sums'. -/
def sha256SumsUptoCard : Claim7 := { stood := { row := sha256SumsUptoRow, standIns := [], harness := (true, "025c404c68d86a1fa6e71eaa7e2d5c48411f9b70887cf6079748b3fdef21b3b7"), looks := false }, kinds := [], alts := [], laidByText := true, laidKinds := [.data, .data], laidTests := true, laidLooks := .later }
def Sha256SumsUptoCardSaid : Prop := Claim7.holds Tryd.pinned (.plain (OpenSpec.upto sha256SumsSpec)) sha256SumsUptoCard

/-- THE SECOND FORM's CARD OF 'chroniclelaw05.Sha256Parts'. -/
def sha256PartsUptoCard : Claim7 := { stood := { row := sha256PartsUptoRow, standIns := [], harness := (true, "025c404c68d86a1fa6e71eaa7e2d5c48411f9b70887cf6079748b3fdef21b3b7"), looks := false }, kinds := [], alts := [], laidByText := true, laidKinds := [.data, .data], laidTests := true, laidLooks := .later }
def Sha256PartsUptoCardSaid : Prop := Claim7.holds Tryd.pinned (.plain (OpenSpec.upto sha256PartsSpec)) sha256PartsUptoCard

/-- THE SECOND FORM's CARD OF 'chroniclelaw05.Sha256Same'. -/
def sha256SameUptoCard : Claim7 := { stood := { row := sha256SameUptoRow, standIns := [], harness := (true, "025c404c68d86a1fa6e71eaa7e2d5c48411f9b70887cf6079748b3fdef21b3b7"), looks := false }, kinds := [], alts := [], laidByText := true, laidKinds := [.data, .data], laidTests := true, laidLooks := .later }
def Sha256SameUptoCardSaid : Prop := Claim7.holds Tryd.pinned (.plain (OpenSpec.upto sha256SameSpec)) sha256SameUptoCard

/-- THE SECOND FORM's CARD OF 'chroniclelaw05.Sha256Nil'. -/
def sha256NilUptoCard : Claim7 := { stood := { row := sha256NilUptoRow, standIns := [], harness := (true, "025c404c68d86a1fa6e71eaa7e2d5c48411f9b70887cf6079748b3fdef21b3b7"), looks := false }, kinds := [], alts := [], laidByText := true, laidKinds := [.data, .data], laidTests := true, laidLooks := .later }
def Sha256NilUptoCardSaid : Prop := Claim7.holds Tryd.pinned (.plain (OpenSpec.upto sha256NilSpec)) sha256NilUptoCard

/-- THE SECOND FORM's CARD OF 'chroniclelaw05.Sha256Bytes'. -/
def sha256BytesUptoCard : Claim7 := { stood := { row := sha256BytesUptoRow, standIns := [], harness := (true, "025c404c68d86a1fa6e71eaa7e2d5c48411f9b70887cf6079748b3fdef21b3b7"), looks := false }, kinds := [], alts := [], laidByText := true, laidKinds := [.data, .data], laidTests := true, laidLooks := .later }
def Sha256BytesUptoCardSaid : Prop := Claim7.holds Tryd.pinned (.plain (OpenSpec.upto sha256BytesSpec)) sha256BytesUptoCard
end Rows
end Go.Proofs.YtgefbeejjbjfhaaDoor
