/-
  DERIVED. GIVEN WITH THE SEED: THE CARDS: each row of YtiahjnfopeiliaaDoorRows.lean that lists a variable, with what it lists TIED to the program's text (the seventh form; the later family's looks); each row that meets fmt, with fmt's text TOLD by the authors' own Lean function (tested against real Go, not proved from fmt's source: count such statements apart). THE CARD IS WHAT COUNTS. Prove the row's statement (the work); the ties are given (YtiahjnfopeiliaaDoorTie.lean); close each card by the builder's one call (the guide's Derived/Test/ToyasCard.lean, 'card_holds'). Laid BY PROGRAM, IN A SANDBOX (cutbox-door.mjs). By AI agents, Wed Nov 11 2026. No macro, syntax, notation, axiom, sorry.
-/
import Derived.Test.YtiahjnfopeiliaaDoorRows
import GoSem.ClaimSeven
namespace Go.Proofs.YtiahjnfopeiliaaDoor
namespace Rows

/-- THE TIED CARD OF 'chroniclelaw07.HmacSums'. -/
def hmacSumsCard : Claim7 := { stood := { row := hmacSumsRow, standIns := [], harness := (true, "d1704f7fb2659121f27f30abfe24ed5707b5ffb25471797abdddff3de5ef3f90"), looks := false }, kinds := [], alts := [], laidByText := true, laidKinds := [.data, .data], laidTests := true, laidLooks := .later }
def HmacSumsCardSaid : Prop := Claim7.holds Tryd.pinned (.plain (OpenSpec.ofChange hmacSumsSpec)) hmacSumsCard

/-- THE TIED CARD OF 'chroniclelaw07.HmacStreams'. -/
def hmacStreamsCard : Claim7 := { stood := { row := hmacStreamsRow, standIns := [], harness := (true, "d1704f7fb2659121f27f30abfe24ed5707b5ffb25471797abdddff3de5ef3f90"), looks := false }, kinds := [], alts := [], laidByText := true, laidKinds := [.data, .data], laidTests := true, laidLooks := .later }
def HmacStreamsCardSaid : Prop := Claim7.holds Tryd.pinned (.plain (OpenSpec.ofChange hmacStreamsSpec)) hmacStreamsCard

/-- THE TIED CARD OF 'chroniclelaw07.HmacParts'. -/
def hmacPartsCard : Claim7 := { stood := { row := hmacPartsRow, standIns := [], harness := (true, "d1704f7fb2659121f27f30abfe24ed5707b5ffb25471797abdddff3de5ef3f90"), looks := false }, kinds := [], alts := [], laidByText := true, laidKinds := [.data, .data], laidTests := true, laidLooks := .later }
def HmacPartsCardSaid : Prop := Claim7.holds Tryd.pinned (.plain (OpenSpec.ofChange hmacPartsSpec)) hmacPartsCard

/-- THE TIED CARD OF 'chroniclelaw07.HmacNil'. -/
def hmacNilCard : Claim7 := { stood := { row := hmacNilRow, standIns := [], harness := (true, "d1704f7fb2659121f27f30abfe24ed5707b5ffb25471797abdddff3de5ef3f90"), looks := false }, kinds := [], alts := [], laidByText := true, laidKinds := [.data, .data], laidTests := true, laidLooks := .later }
def HmacNilCardSaid : Prop := Claim7.holds Tryd.pinned (.plain (OpenSpec.ofChange hmacNilSpec)) hmacNilCard

/-- THE TIED CARD OF 'chroniclelaw07.HmacLong'. -/
def hmacLongCard : Claim7 := { stood := { row := hmacLongRow, standIns := [], harness := (true, "d1704f7fb2659121f27f30abfe24ed5707b5ffb25471797abdddff3de5ef3f90"), looks := false }, kinds := [], alts := [], laidByText := true, laidKinds := [.data, .data], laidTests := true, laidLooks := .later }
def HmacLongCardSaid : Prop := Claim7.holds Tryd.pinned (.plain (OpenSpec.ofChange hmacLongSpec)) hmacLongCard

/-- THE SECOND FORM's CARD OF 'chroniclelaw07.HmacSums'. -/
def hmacSumsUptoCard : Claim7 := { stood := { row := hmacSumsUptoRow, standIns := [], harness := (true, "d1704f7fb2659121f27f30abfe24ed5707b5ffb25471797abdddff3de5ef3f90"), looks := false }, kinds := [], alts := [], laidByText := true, laidKinds := [.data, .data], laidTests := true, laidLooks := .later }
def HmacSumsUptoCardSaid : Prop := Claim7.holds Tryd.pinned (.plain (OpenSpec.upto hmacSumsSpec)) hmacSumsUptoCard

/-- THE SECOND FORM's CARD OF 'chroniclelaw07.HmacStreams'. -/
def hmacStreamsUptoCard : Claim7 := { stood := { row := hmacStreamsUptoRow, standIns := [], harness := (true, "d1704f7fb2659121f27f30abfe24ed5707b5ffb25471797abdddff3de5ef3f90"), looks := false }, kinds := [], alts := [], laidByText := true, laidKinds := [.data, .data], laidTests := true, laidLooks := .later }
def HmacStreamsUptoCardSaid : Prop := Claim7.holds Tryd.pinned (.plain (OpenSpec.upto hmacStreamsSpec)) hmacStreamsUptoCard

/-- THE SECOND FORM's CARD OF 'chroniclelaw07.HmacParts'. -/
def hmacPartsUptoCard : Claim7 := { stood := { row := hmacPartsUptoRow, standIns := [], harness := (true, "d1704f7fb2659121f27f30abfe24ed5707b5ffb25471797abdddff3de5ef3f90"), looks := false }, kinds := [], alts := [], laidByText := true, laidKinds := [.data, .data], laidTests := true, laidLooks := .later }
def HmacPartsUptoCardSaid : Prop := Claim7.holds Tryd.pinned (.plain (OpenSpec.upto hmacPartsSpec)) hmacPartsUptoCard

/-- THE SECOND FORM's CARD OF 'chroniclelaw07.HmacNil'. -/
def hmacNilUptoCard : Claim7 := { stood := { row := hmacNilUptoRow, standIns := [], harness := (true, "d1704f7fb2659121f27f30abfe24ed5707b5ffb25471797abdddff3de5ef3f90"), looks := false }, kinds := [], alts := [], laidByText := true, laidKinds := [.data, .data], laidTests := true, laidLooks := .later }
def HmacNilUptoCardSaid : Prop := Claim7.holds Tryd.pinned (.plain (OpenSpec.upto hmacNilSpec)) hmacNilUptoCard

/-- THE SECOND FORM's CARD OF 'chroniclelaw07.HmacLong'. -/
def hmacLongUptoCard : Claim7 := { stood := { row := hmacLongUptoRow, standIns := [], harness := (true, "d1704f7fb2659121f27f30abfe24ed5707b5ffb25471797abdddff3de5ef3f90"), looks := false }, kinds := [], alts := [], laidByText := true, laidKinds := [.data, .data], laidTests := true, laidLooks := .later }
def HmacLongUptoCardSaid : Prop := Claim7.holds Tryd.pinned (.plain (OpenSpec.upto hmacLongSpec)) hmacLongUptoCard
end Rows
end Go.Proofs.YtiahjnfopeiliaaDoor
