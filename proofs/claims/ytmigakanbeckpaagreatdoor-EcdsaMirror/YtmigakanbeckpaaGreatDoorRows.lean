/-
  NARROWER THAN 'FOR EVERY INPUT', by the rows' own cells (each row's printed sentence says how): EcdsaKeys: laid · EcdsaVerifies: laid · EcdsaSigns: laid · EcdsaMirror: laid · EcdsaNone: laid.
  DERIVED. THE GIVEN ROWS OF THIS SEAT. 5 by the template 'for every input the law returns true; each argument reads behind the call as it read before'; 0 by the template 'total and deterministic' (their statements: YtmigakanbeckpaaGreatDoorTotals.lean).
  GIVEN WITH THE SEED: the statements are not yours to turn. If you find one false, say at which input.
  Laid BY PROGRAM, IN A SANDBOX (cutbox-rows.mjs): the forced cells as the released guide's own fill.sh prints them over the translation c6ef78e73e59c9e5… (all of the seat's roots in one cut). By AI agents, Wed Nov 11 2026. No macro, syntax, notation, axiom, sorry.
-/
import Derived.Test.YtmigakanbeckpaaGreatDoorChecked
import GoSem.Claim
import GoSem.ClaimJoined
import GoSem.ClaimMapViews
import Derived.JoinedTies
import Derived.KernelRfl
namespace Go.Proofs.YtmigakanbeckpaaGreatDoor
/- THE CELL 'sum', in the pinned program and in every row, IS THE sha256 OF THE DUMP (.gsa) THAT YtmigakanbeckpaaGreatDoorProg.lean LOADS. Nothing in Lean hashes anything: it is a label: what it is worth is what the hold of that sum in a sandbox is worth. -/
noncomputable def Tryz.pinned : Pinned := { name := "ytmigakanbeckpaagreatdoor", sum := "c6ef78e73e59c9e53ab26b20404c7b9a25cdb6cd4dc064f1aded38e1229dfcf5", checked := Tryz.checked }
namespace Rows
def none {H : Type} : Left H := { results := [], args := [] }

/- WHAT THE LISTED PACKAGE-LEVEL VARIABLES READ AS WHEN THE CALL BEGINS. Each datum BY PROGRAM (the guide's laid-datum.mjs) off the statement by which the dump's own 'gosem.cut.vars' lays the variable. In a bare row this is a premise. The card (YtmigakanbeckpaaGreatDoorCards.lean) ties it to the program's text. -/
def laid_chronicle_sha256_first {H : Type} : DataW H := .agg [.lit (.int .u32 1779033703), .lit (.int .u32 3144134277), .lit (.int .u32 1013904242), .lit (.int .u32 2773480762), .lit (.int .u32 1359893119), .lit (.int .u32 2600822924), .lit (.int .u32 528734635), .lit (.int .u32 1541459225)]
def laid_chronicle_sha256_constants {H : Type} : DataW H := .agg [.lit (.int .u32 1116352408), .lit (.int .u32 1899447441), .lit (.int .u32 3049323471), .lit (.int .u32 3921009573), .lit (.int .u32 961987163), .lit (.int .u32 1508970993), .lit (.int .u32 2453635748), .lit (.int .u32 2870763221), .lit (.int .u32 3624381080), .lit (.int .u32 310598401), .lit (.int .u32 607225278), .lit (.int .u32 1426881987), .lit (.int .u32 1925078388), .lit (.int .u32 2162078206), .lit (.int .u32 2614888103), .lit (.int .u32 3248222580), .lit (.int .u32 3835390401), .lit (.int .u32 4022224774), .lit (.int .u32 264347078), .lit (.int .u32 604807628), .lit (.int .u32 770255983), .lit (.int .u32 1249150122), .lit (.int .u32 1555081692), .lit (.int .u32 1996064986), .lit (.int .u32 2554220882), .lit (.int .u32 2821834349), .lit (.int .u32 2952996808), .lit (.int .u32 3210313671), .lit (.int .u32 3336571891), .lit (.int .u32 3584528711), .lit (.int .u32 113926993), .lit (.int .u32 338241895), .lit (.int .u32 666307205), .lit (.int .u32 773529912), .lit (.int .u32 1294757372), .lit (.int .u32 1396182291), .lit (.int .u32 1695183700), .lit (.int .u32 1986661051), .lit (.int .u32 2177026350), .lit (.int .u32 2456956037), .lit (.int .u32 2730485921), .lit (.int .u32 2820302411), .lit (.int .u32 3259730800), .lit (.int .u32 3345764771), .lit (.int .u32 3516065817), .lit (.int .u32 3600352804), .lit (.int .u32 4094571909), .lit (.int .u32 275423344), .lit (.int .u32 430227734), .lit (.int .u32 506948616), .lit (.int .u32 659060556), .lit (.int .u32 883997877), .lit (.int .u32 958139571), .lit (.int .u32 1322822218), .lit (.int .u32 1537002063), .lit (.int .u32 1747873779), .lit (.int .u32 1955562222), .lit (.int .u32 2024104815), .lit (.int .u32 2227730452), .lit (.int .u32 2361852424), .lit (.int .u32 2428436474), .lit (.int .u32 2756734187), .lit (.int .u32 3204031479), .lit (.int .u32 3329325298)]
def laid_chronicle_field_moduli {H : Type} : DataW H := .agg [.agg [.lit (.int .u64 18446744073709551615), .lit (.int .u64 4294967295), .lit (.int .u64 0), .lit (.int .u64 18446744069414584321)], .agg [.lit (.int .u64 17562291160714782033), .lit (.int .u64 13611842547513532036), .lit (.int .u64 18446744073709551615), .lit (.int .u64 18446744069414584320)], .agg [.lit (.int .u64 18446744073709551597), .lit (.int .u64 18446744073709551615), .lit (.int .u64 18446744073709551615), .lit (.int .u64 9223372036854775807)], .agg [.lit (.int .u64 6346243789798364141), .lit (.int .u64 1503914060200516822), .lit (.int .u64 0), .lit (.int .u64 1152921504606846976)]]
def laid_chronicle_p256_curveB {H : Type} : DataW H := .agg [.lit (.int .u64 4309448131093880907), .lit (.int .u64 7285987128567378166), .lit (.int .u64 12964664127075681980), .lit (.int .u64 6540974713487397863)]
def laid_chronicle_der_errByte {H : Type} : DataW H := .iface "*errors.errorString" (.ptr (.agg [.lit (.string [100, 101, 114, 58, 32, 97, 32, 98, 121, 116, 101, 32, 105, 115, 110, 39, 116, 32, 97, 115, 32, 105, 116, 32, 115, 104, 111, 117, 108, 100, 32, 98, 101])]))

/-- 'chroniclelaw11.EcdsaKeys': WHATEVER THE INPUT: true; the input reads as it did. -/
def ecdsaKeysSpec : ChangeSpec := { name := "ecdsaKeys", fn := fun _ => fun
  | [d1, d2] => { results := [.lit (.bool true)], args := [d1, d2] }
  | _ => none }
def ecdsaKeysRow : OpenClaim := { program := "ytmigakanbeckpaagreatdoor", sum := "c6ef78e73e59c9e53ab26b20404c7b9a25cdb6cd4dc064f1aded38e1229dfcf5", func := "chronicle/chroniclelaw11.EcdsaKeys", spec := "ecdsaKeys", inPlace := ["math/bits.Add64", "math/bits.Sub64"], unfollowed := true, recurses := true, named := ["chronicle/field.moduli", "math/bits.divideError", "math/bits.overflowError", "chronicle/p256.curveB", "chronicle/sha256.first", "chronicle/sha256.constants"], apart := false, laid := [("chronicle/sha256.first", laid_chronicle_sha256_first), ("chronicle/sha256.constants", laid_chronicle_sha256_constants), ("chronicle/field.moduli", laid_chronicle_field_moduli), ("chronicle/p256.curveB", laid_chronicle_p256_curveB)] }
def EcdsaKeysSaid : Prop := ecdsaKeysRow.holds Tryz.pinned (OpenSpec.ofChange ecdsaKeysSpec)

/-- ITS FALSE NEIGHBOUR: 'it returns false'. Refute it at one input. -/
def ecdsaKeysWrong : ChangeSpec := { name := "ecdsaKeys", fn := fun _ => fun
  | [d1, d2] => { results := [.lit (.bool false)], args := [d1, d2] }
  | _ => none }
def EcdsaKeysWrongFalsely : Prop := ecdsaKeysRow.holds Tryz.pinned (OpenSpec.ofChange ecdsaKeysWrong)

/-- 'chroniclelaw11.EcdsaVerifies': WHATEVER THE INPUT: true; the input reads as it did. -/
def ecdsaVerifiesSpec : ChangeSpec := { name := "ecdsaVerifies", fn := fun _ => fun
  | [d1, d2, d3] => { results := [.lit (.bool true)], args := [d1, d2, d3] }
  | _ => none }
def ecdsaVerifiesRow : OpenClaim := { program := "ytmigakanbeckpaagreatdoor", sum := "c6ef78e73e59c9e53ab26b20404c7b9a25cdb6cd4dc064f1aded38e1229dfcf5", func := "chronicle/chroniclelaw11.EcdsaVerifies", spec := "ecdsaVerifies", inPlace := ["math/bits.Add64", "math/bits.Sub64"], unfollowed := true, recurses := true, named := ["chronicle/field.moduli", "math/bits.divideError", "math/bits.overflowError", "chronicle/p256.curveB", "chronicle/der.errByte", "chronicle/sha256.first", "chronicle/sha256.constants"], apart := false, laid := [("chronicle/sha256.first", laid_chronicle_sha256_first), ("chronicle/sha256.constants", laid_chronicle_sha256_constants), ("chronicle/field.moduli", laid_chronicle_field_moduli), ("chronicle/p256.curveB", laid_chronicle_p256_curveB), ("chronicle/der.errByte", laid_chronicle_der_errByte)] }
def EcdsaVerifiesSaid : Prop := ecdsaVerifiesRow.holds Tryz.pinned (OpenSpec.ofChange ecdsaVerifiesSpec)

/-- ITS FALSE NEIGHBOUR: 'it returns false'. Refute it at one input. -/
def ecdsaVerifiesWrong : ChangeSpec := { name := "ecdsaVerifies", fn := fun _ => fun
  | [d1, d2, d3] => { results := [.lit (.bool false)], args := [d1, d2, d3] }
  | _ => none }
def EcdsaVerifiesWrongFalsely : Prop := ecdsaVerifiesRow.holds Tryz.pinned (OpenSpec.ofChange ecdsaVerifiesWrong)

/-- 'chroniclelaw11.EcdsaSigns': WHATEVER THE INPUT: true; the input reads as it did. -/
def ecdsaSignsSpec : ChangeSpec := { name := "ecdsaSigns", fn := fun _ => fun
  | [d1, d2] => { results := [.lit (.bool true)], args := [d1, d2] }
  | _ => none }
def ecdsaSignsRow : OpenClaim := { program := "ytmigakanbeckpaagreatdoor", sum := "c6ef78e73e59c9e53ab26b20404c7b9a25cdb6cd4dc064f1aded38e1229dfcf5", func := "chronicle/chroniclelaw11.EcdsaSigns", spec := "ecdsaSigns", inPlace := ["math/bits.Add64", "math/bits.Sub64"], unfollowed := true, recurses := true, named := ["chronicle/field.moduli", "math/bits.divideError", "math/bits.overflowError", "chronicle/p256.curveB", "chronicle/sha256.first", "chronicle/sha256.constants", "chronicle/der.errByte"], apart := false, laid := [("chronicle/sha256.first", laid_chronicle_sha256_first), ("chronicle/sha256.constants", laid_chronicle_sha256_constants), ("chronicle/field.moduli", laid_chronicle_field_moduli), ("chronicle/p256.curveB", laid_chronicle_p256_curveB), ("chronicle/der.errByte", laid_chronicle_der_errByte)] }
def EcdsaSignsSaid : Prop := ecdsaSignsRow.holds Tryz.pinned (OpenSpec.ofChange ecdsaSignsSpec)

/-- ITS FALSE NEIGHBOUR: 'it returns false'. Refute it at one input. -/
def ecdsaSignsWrong : ChangeSpec := { name := "ecdsaSigns", fn := fun _ => fun
  | [d1, d2] => { results := [.lit (.bool false)], args := [d1, d2] }
  | _ => none }
def EcdsaSignsWrongFalsely : Prop := ecdsaSignsRow.holds Tryz.pinned (OpenSpec.ofChange ecdsaSignsWrong)

/-- 'chroniclelaw11.EcdsaMirror': WHATEVER THE INPUT: true; the input reads as it did. -/
def ecdsaMirrorSpec : ChangeSpec := { name := "ecdsaMirror", fn := fun _ => fun
  | [d1, d2, d3] => { results := [.lit (.bool true)], args := [d1, d2, d3] }
  | _ => none }
def ecdsaMirrorRow : OpenClaim := { program := "ytmigakanbeckpaagreatdoor", sum := "c6ef78e73e59c9e53ab26b20404c7b9a25cdb6cd4dc064f1aded38e1229dfcf5", func := "chronicle/chroniclelaw11.EcdsaMirror", spec := "ecdsaMirror", inPlace := ["math/bits.Add64", "math/bits.Sub64"], unfollowed := true, recurses := true, named := ["chronicle/sha256.first", "chronicle/sha256.constants", "chronicle/field.moduli", "math/bits.divideError", "math/bits.overflowError", "chronicle/p256.curveB", "chronicle/der.errByte"], apart := false, laid := [("chronicle/sha256.first", laid_chronicle_sha256_first), ("chronicle/sha256.constants", laid_chronicle_sha256_constants), ("chronicle/field.moduli", laid_chronicle_field_moduli), ("chronicle/p256.curveB", laid_chronicle_p256_curveB), ("chronicle/der.errByte", laid_chronicle_der_errByte)] }
def EcdsaMirrorSaid : Prop := ecdsaMirrorRow.holds Tryz.pinned (OpenSpec.ofChange ecdsaMirrorSpec)

/-- ITS FALSE NEIGHBOUR: 'it returns false'. Refute it at one input. -/
def ecdsaMirrorWrong : ChangeSpec := { name := "ecdsaMirror", fn := fun _ => fun
  | [d1, d2, d3] => { results := [.lit (.bool false)], args := [d1, d2, d3] }
  | _ => none }
def EcdsaMirrorWrongFalsely : Prop := ecdsaMirrorRow.holds Tryz.pinned (OpenSpec.ofChange ecdsaMirrorWrong)

/-- 'chroniclelaw11.EcdsaNone': WHATEVER THE INPUT: true; the input reads as it did. -/
def ecdsaNoneSpec : ChangeSpec := { name := "ecdsaNone", fn := fun _ => fun
  | [d1, d2, d3] => { results := [.lit (.bool true)], args := [d1, d2, d3] }
  | _ => none }
def ecdsaNoneRow : OpenClaim := { program := "ytmigakanbeckpaagreatdoor", sum := "c6ef78e73e59c9e53ab26b20404c7b9a25cdb6cd4dc064f1aded38e1229dfcf5", func := "chronicle/chroniclelaw11.EcdsaNone", spec := "ecdsaNone", inPlace := ["math/bits.Add64", "math/bits.Sub64"], unfollowed := true, recurses := true, named := ["chronicle/field.moduli", "math/bits.divideError", "math/bits.overflowError", "chronicle/p256.curveB", "chronicle/sha256.first", "chronicle/sha256.constants", "chronicle/der.errByte"], apart := false, laid := [("chronicle/sha256.first", laid_chronicle_sha256_first), ("chronicle/sha256.constants", laid_chronicle_sha256_constants), ("chronicle/field.moduli", laid_chronicle_field_moduli), ("chronicle/p256.curveB", laid_chronicle_p256_curveB), ("chronicle/der.errByte", laid_chronicle_der_errByte)] }
def EcdsaNoneSaid : Prop := ecdsaNoneRow.holds Tryz.pinned (OpenSpec.ofChange ecdsaNoneSpec)

/-- ITS FALSE NEIGHBOUR: 'it returns false'. Refute it at one input. -/
def ecdsaNoneWrong : ChangeSpec := { name := "ecdsaNone", fn := fun _ => fun
  | [d1, d2, d3] => { results := [.lit (.bool false)], args := [d1, d2, d3] }
  | _ => none }
def EcdsaNoneWrongFalsely : Prop := ecdsaNoneRow.holds Tryz.pinned (OpenSpec.ofChange ecdsaNoneWrong)

/- THE SECOND FORM. 'bulk': how many values and letters a reading holds, each counted each time it is reached (what is shared counts as often as it is met; a slice's spare places count too). A statement '..UptoSaid' is the law's where the arguments, and the package variables that the reading takes, are together of bulk at most 1048576: NARROWER than '..Said'. Prove '..Said' where nothing that the law and all that it calls make is longer than what came in: it says more and counts as full. Else prove '..UptoSaid'. A law counts once. -/
mutual
def uptoBulk {H : Type} : DataW H → Nat
  | .lit (.string bytes) => bytes.length + 1
  | .lit _ => 1
  | .nil => 1
  | .ptr d => uptoBulk d + 1
  | .slice elems spare => uptoBulkAll elems + uptoBulkAll spare + 1
  | .agg parts => uptoBulkAll parts + 1
  | .iface _ d => uptoBulk d + 1
  | .map entries => uptoBulkEntries entries + 1
  | .held _ => 1
def uptoBulkAll {H : Type} : List (DataW H) → Nat
  | [] => 0
  | d :: r => uptoBulk d + uptoBulkAll r
def uptoBulkEntries {H : Type} : List (Lit × DataW H) → Nat
  | [] => 0
  | x :: r => uptoBulkEntry x + uptoBulkEntries r
def uptoBulkEntry {H : Type} : Lit × DataW H → Nat
  | (.string bytes, d) => bytes.length + uptoBulk d + 1
  | (_, d) => uptoBulk d + 1
 end
def uptoSmall : (H : Type) → List (DataW H) → Bool := fun _ ds => decide (uptoBulkAll ds ≤ 1048576)
def OpenSpec.upto (s : _root_.Go.ChangeSpec) : _root_.Go.OpenSpec := { _root_.Go.OpenSpec.ofChange s with cond := some uptoSmall }

/-- 'chroniclelaw11.EcdsaKeys', WHERE WHAT IT READS IS OF BULK AT MOST 1048576: true; the input reads as it did. -/
def ecdsaKeysUptoRow : OpenClaim := { program := "ytmigakanbeckpaagreatdoor", sum := "c6ef78e73e59c9e53ab26b20404c7b9a25cdb6cd4dc064f1aded38e1229dfcf5", func := "chronicle/chroniclelaw11.EcdsaKeys", spec := "ecdsaKeys", inPlace := ["math/bits.Add64", "math/bits.Sub64"], unfollowed := true, recurses := true, named := ["chronicle/field.moduli", "math/bits.divideError", "math/bits.overflowError", "chronicle/p256.curveB", "chronicle/sha256.first", "chronicle/sha256.constants"], apart := false, laid := [("chronicle/sha256.first", laid_chronicle_sha256_first), ("chronicle/sha256.constants", laid_chronicle_sha256_constants), ("chronicle/field.moduli", laid_chronicle_field_moduli), ("chronicle/p256.curveB", laid_chronicle_p256_curveB)], narrowed := true }
def EcdsaKeysUptoSaid : Prop := ecdsaKeysUptoRow.holds Tryz.pinned (OpenSpec.upto ecdsaKeysSpec)

/-- 'chroniclelaw11.EcdsaVerifies', WHERE WHAT IT READS IS OF BULK AT MOST 1048576: true; the input reads as it did. -/
def ecdsaVerifiesUptoRow : OpenClaim := { program := "ytmigakanbeckpaagreatdoor", sum := "c6ef78e73e59c9e53ab26b20404c7b9a25cdb6cd4dc064f1aded38e1229dfcf5", func := "chronicle/chroniclelaw11.EcdsaVerifies", spec := "ecdsaVerifies", inPlace := ["math/bits.Add64", "math/bits.Sub64"], unfollowed := true, recurses := true, named := ["chronicle/field.moduli", "math/bits.divideError", "math/bits.overflowError", "chronicle/p256.curveB", "chronicle/der.errByte", "chronicle/sha256.first", "chronicle/sha256.constants"], apart := false, laid := [("chronicle/sha256.first", laid_chronicle_sha256_first), ("chronicle/sha256.constants", laid_chronicle_sha256_constants), ("chronicle/field.moduli", laid_chronicle_field_moduli), ("chronicle/p256.curveB", laid_chronicle_p256_curveB), ("chronicle/der.errByte", laid_chronicle_der_errByte)], narrowed := true }
def EcdsaVerifiesUptoSaid : Prop := ecdsaVerifiesUptoRow.holds Tryz.pinned (OpenSpec.upto ecdsaVerifiesSpec)

/-- 'chroniclelaw11.EcdsaSigns', WHERE WHAT IT READS IS OF BULK AT MOST 1048576: true; the input reads as it did. -/
def ecdsaSignsUptoRow : OpenClaim := { program := "ytmigakanbeckpaagreatdoor", sum := "c6ef78e73e59c9e53ab26b20404c7b9a25cdb6cd4dc064f1aded38e1229dfcf5", func := "chronicle/chroniclelaw11.EcdsaSigns", spec := "ecdsaSigns", inPlace := ["math/bits.Add64", "math/bits.Sub64"], unfollowed := true, recurses := true, named := ["chronicle/field.moduli", "math/bits.divideError", "math/bits.overflowError", "chronicle/p256.curveB", "chronicle/sha256.first", "chronicle/sha256.constants", "chronicle/der.errByte"], apart := false, laid := [("chronicle/sha256.first", laid_chronicle_sha256_first), ("chronicle/sha256.constants", laid_chronicle_sha256_constants), ("chronicle/field.moduli", laid_chronicle_field_moduli), ("chronicle/p256.curveB", laid_chronicle_p256_curveB), ("chronicle/der.errByte", laid_chronicle_der_errByte)], narrowed := true }
def EcdsaSignsUptoSaid : Prop := ecdsaSignsUptoRow.holds Tryz.pinned (OpenSpec.upto ecdsaSignsSpec)

/-- 'chroniclelaw11.EcdsaMirror', WHERE WHAT IT READS IS OF BULK AT MOST 1048576: true; the input reads as it did. -/
def ecdsaMirrorUptoRow : OpenClaim := { program := "ytmigakanbeckpaagreatdoor", sum := "c6ef78e73e59c9e53ab26b20404c7b9a25cdb6cd4dc064f1aded38e1229dfcf5", func := "chronicle/chroniclelaw11.EcdsaMirror", spec := "ecdsaMirror", inPlace := ["math/bits.Add64", "math/bits.Sub64"], unfollowed := true, recurses := true, named := ["chronicle/sha256.first", "chronicle/sha256.constants", "chronicle/field.moduli", "math/bits.divideError", "math/bits.overflowError", "chronicle/p256.curveB", "chronicle/der.errByte"], apart := false, laid := [("chronicle/sha256.first", laid_chronicle_sha256_first), ("chronicle/sha256.constants", laid_chronicle_sha256_constants), ("chronicle/field.moduli", laid_chronicle_field_moduli), ("chronicle/p256.curveB", laid_chronicle_p256_curveB), ("chronicle/der.errByte", laid_chronicle_der_errByte)], narrowed := true }
def EcdsaMirrorUptoSaid : Prop := ecdsaMirrorUptoRow.holds Tryz.pinned (OpenSpec.upto ecdsaMirrorSpec)

/-- 'chroniclelaw11.EcdsaNone', WHERE WHAT IT READS IS OF BULK AT MOST 1048576: true; the input reads as it did. -/
def ecdsaNoneUptoRow : OpenClaim := { program := "ytmigakanbeckpaagreatdoor", sum := "c6ef78e73e59c9e53ab26b20404c7b9a25cdb6cd4dc064f1aded38e1229dfcf5", func := "chronicle/chroniclelaw11.EcdsaNone", spec := "ecdsaNone", inPlace := ["math/bits.Add64", "math/bits.Sub64"], unfollowed := true, recurses := true, named := ["chronicle/field.moduli", "math/bits.divideError", "math/bits.overflowError", "chronicle/p256.curveB", "chronicle/sha256.first", "chronicle/sha256.constants", "chronicle/der.errByte"], apart := false, laid := [("chronicle/sha256.first", laid_chronicle_sha256_first), ("chronicle/sha256.constants", laid_chronicle_sha256_constants), ("chronicle/field.moduli", laid_chronicle_field_moduli), ("chronicle/p256.curveB", laid_chronicle_p256_curveB), ("chronicle/der.errByte", laid_chronicle_der_errByte)], narrowed := true }
def EcdsaNoneUptoSaid : Prop := ecdsaNoneUptoRow.holds Tryz.pinned (OpenSpec.upto ecdsaNoneSpec)

end Rows
end Go.Proofs.YtmigakanbeckpaaGreatDoor
