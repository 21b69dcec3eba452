/-
  NARROWER THAN 'FOR EVERY INPUT', by the rows' own cells (each row's printed sentence says how): P256Adds: laid · P256Multiplies: laid · P256Both: laid · P256Group: laid · P256Order: laid · P256Bytes: laid.
  DERIVED. THE GIVEN ROWS OF THIS SEAT. 6 by the template 'for every input the law returns true; each argument reads behind the call as it read before'; 0 by the template 'total and deterministic' (their statements: YtimaaendbfjblaaDoorTotals.lean).
  GIVEN WITH THE SEED: the statements are not yours to turn. If you find one false, say at which input.
  Laid BY PROGRAM, IN A SANDBOX (cutbox-rows.mjs): the forced cells as the released guide's own fill.sh prints them over the translation f5f3405e0fdcd084… (all of the seat's roots in one cut). By AI agents, Wed Nov 11 2026. No macro, syntax, notation, axiom, sorry.
-/
import Derived.Test.YtimaaendbfjblaaDoorChecked
import GoSem.Claim
import GoSem.ClaimJoined
import GoSem.ClaimMapViews
import Derived.JoinedTies
import Derived.KernelRfl
namespace Go.Proofs.YtimaaendbfjblaaDoor
/- THE CELL 'sum', in the pinned program and in every row, IS THE sha256 OF THE DUMP (.gsa) THAT YtimaaendbfjblaaDoorProg.lean LOADS. Nothing in Lean hashes anything: it is a label: what it is worth is what the hold of that sum in a sandbox is worth. -/
noncomputable def Tryd.pinned : Pinned := { name := "ytimaaendbfjblaadoor", sum := "f5f3405e0fdcd084515cf797e53e45587b62cfd668261148c8af5e453250030a", checked := Tryd.checked }
namespace Rows
def none {H : Type} : Left H := { results := [], args := [] }

/- WHAT THE LISTED PACKAGE-LEVEL VARIABLES READ AS WHEN THE CALL BEGINS. Each datum BY PROGRAM (the guide's laid-datum.mjs) off the statement by which the dump's own 'gosem.cut.vars' lays the variable. In a bare row this is a premise. The card (YtimaaendbfjblaaDoorCards.lean) ties it to the program's text. -/
def laid_chronicle_field_moduli {H : Type} : DataW H := .agg [.agg [.lit (.int .u64 18446744073709551615), .lit (.int .u64 4294967295), .lit (.int .u64 0), .lit (.int .u64 18446744069414584321)], .agg [.lit (.int .u64 17562291160714782033), .lit (.int .u64 13611842547513532036), .lit (.int .u64 18446744073709551615), .lit (.int .u64 18446744069414584320)], .agg [.lit (.int .u64 18446744073709551597), .lit (.int .u64 18446744073709551615), .lit (.int .u64 18446744073709551615), .lit (.int .u64 9223372036854775807)], .agg [.lit (.int .u64 6346243789798364141), .lit (.int .u64 1503914060200516822), .lit (.int .u64 0), .lit (.int .u64 1152921504606846976)]]
def laid_chronicle_p256_curveB {H : Type} : DataW H := .agg [.lit (.int .u64 4309448131093880907), .lit (.int .u64 7285987128567378166), .lit (.int .u64 12964664127075681980), .lit (.int .u64 6540974713487397863)]

/-- 'chroniclelaw08.P256Adds': WHATEVER THE INPUT: true; the input reads as it did. -/
def p256AddsSpec : ChangeSpec := { name := "p256Adds", fn := fun _ => fun
  | [d1, d2] => { results := [.lit (.bool true)], args := [d1, d2] }
  | _ => none }
def p256AddsRow : OpenClaim := { program := "ytimaaendbfjblaadoor", sum := "f5f3405e0fdcd084515cf797e53e45587b62cfd668261148c8af5e453250030a", func := "chronicle/chroniclelaw08.P256Adds", spec := "p256Adds", inPlace := ["math/bits.Add64", "math/bits.Sub64"], unfollowed := true, recurses := true, named := ["chronicle/field.moduli", "math/bits.divideError", "math/bits.overflowError", "chronicle/p256.curveB"], apart := false, laid := [("chronicle/field.moduli", laid_chronicle_field_moduli), ("chronicle/p256.curveB", laid_chronicle_p256_curveB)] }
def P256AddsSaid : Prop := p256AddsRow.holds Tryd.pinned (OpenSpec.ofChange p256AddsSpec)

/-- ITS FALSE NEIGHBOUR: 'it returns false'. Refute it at one input. -/
def p256AddsWrong : ChangeSpec := { name := "p256Adds", fn := fun _ => fun
  | [d1, d2] => { results := [.lit (.bool false)], args := [d1, d2] }
  | _ => none }
def P256AddsWrongFalsely : Prop := p256AddsRow.holds Tryd.pinned (OpenSpec.ofChange p256AddsWrong)

/-- 'chroniclelaw08.P256Multiplies': WHATEVER THE INPUT: true; the input reads as it did. -/
def p256MultipliesSpec : ChangeSpec := { name := "p256Multiplies", fn := fun _ => fun
  | [d1, d2] => { results := [.lit (.bool true)], args := [d1, d2] }
  | _ => none }
def p256MultipliesRow : OpenClaim := { program := "ytimaaendbfjblaadoor", sum := "f5f3405e0fdcd084515cf797e53e45587b62cfd668261148c8af5e453250030a", func := "chronicle/chroniclelaw08.P256Multiplies", spec := "p256Multiplies", inPlace := ["math/bits.Add64", "math/bits.Sub64"], unfollowed := true, recurses := true, named := ["chronicle/field.moduli", "math/bits.divideError", "math/bits.overflowError", "chronicle/p256.curveB"], apart := false, laid := [("chronicle/field.moduli", laid_chronicle_field_moduli), ("chronicle/p256.curveB", laid_chronicle_p256_curveB)] }
def P256MultipliesSaid : Prop := p256MultipliesRow.holds Tryd.pinned (OpenSpec.ofChange p256MultipliesSpec)

/-- ITS FALSE NEIGHBOUR: 'it returns false'. Refute it at one input. -/
def p256MultipliesWrong : ChangeSpec := { name := "p256Multiplies", fn := fun _ => fun
  | [d1, d2] => { results := [.lit (.bool false)], args := [d1, d2] }
  | _ => none }
def P256MultipliesWrongFalsely : Prop := p256MultipliesRow.holds Tryd.pinned (OpenSpec.ofChange p256MultipliesWrong)

/-- 'chroniclelaw08.P256Both': WHATEVER THE INPUT: true; the input reads as it did. -/
def p256BothSpec : ChangeSpec := { name := "p256Both", fn := fun _ => fun
  | [d1, d2, d3] => { results := [.lit (.bool true)], args := [d1, d2, d3] }
  | _ => none }
def p256BothRow : OpenClaim := { program := "ytimaaendbfjblaadoor", sum := "f5f3405e0fdcd084515cf797e53e45587b62cfd668261148c8af5e453250030a", func := "chronicle/chroniclelaw08.P256Both", spec := "p256Both", inPlace := ["math/bits.Add64", "math/bits.Sub64"], unfollowed := true, recurses := true, named := ["chronicle/field.moduli", "math/bits.divideError", "math/bits.overflowError", "chronicle/p256.curveB"], apart := false, laid := [("chronicle/field.moduli", laid_chronicle_field_moduli), ("chronicle/p256.curveB", laid_chronicle_p256_curveB)] }
def P256BothSaid : Prop := p256BothRow.holds Tryd.pinned (OpenSpec.ofChange p256BothSpec)

/-- ITS FALSE NEIGHBOUR: 'it returns false'. Refute it at one input. -/
def p256BothWrong : ChangeSpec := { name := "p256Both", fn := fun _ => fun
  | [d1, d2, d3] => { results := [.lit (.bool false)], args := [d1, d2, d3] }
  | _ => none }
def P256BothWrongFalsely : Prop := p256BothRow.holds Tryd.pinned (OpenSpec.ofChange p256BothWrong)

/-- 'chroniclelaw08.P256Group': WHATEVER THE INPUT: true; the input reads as it did. -/
def p256GroupSpec : ChangeSpec := { name := "p256Group", fn := fun _ => fun
  | [d1, d2, d3] => { results := [.lit (.bool true)], args := [d1, d2, d3] }
  | _ => none }
def p256GroupRow : OpenClaim := { program := "ytimaaendbfjblaadoor", sum := "f5f3405e0fdcd084515cf797e53e45587b62cfd668261148c8af5e453250030a", func := "chronicle/chroniclelaw08.P256Group", spec := "p256Group", inPlace := ["math/bits.Add64", "math/bits.Sub64"], unfollowed := true, recurses := true, named := ["chronicle/field.moduli", "math/bits.divideError", "math/bits.overflowError", "chronicle/p256.curveB"], apart := false, laid := [("chronicle/field.moduli", laid_chronicle_field_moduli), ("chronicle/p256.curveB", laid_chronicle_p256_curveB)] }
def P256GroupSaid : Prop := p256GroupRow.holds Tryd.pinned (OpenSpec.ofChange p256GroupSpec)

/-- ITS FALSE NEIGHBOUR: 'it returns false'. Refute it at one input. -/
def p256GroupWrong : ChangeSpec := { name := "p256Group", fn := fun _ => fun
  | [d1, d2, d3] => { results := [.lit (.bool false)], args := [d1, d2, d3] }
  | _ => none }
def P256GroupWrongFalsely : Prop := p256GroupRow.holds Tryd.pinned (OpenSpec.ofChange p256GroupWrong)

/-- 'chroniclelaw08.P256Order': WHATEVER THE INPUT: true; the input reads as it did. -/
def p256OrderSpec : ChangeSpec := { name := "p256Order", fn := fun _ => fun
  | [d] => { results := [.lit (.bool true)], args := [d] }
  | _ => none }
def p256OrderRow : OpenClaim := { program := "ytimaaendbfjblaadoor", sum := "f5f3405e0fdcd084515cf797e53e45587b62cfd668261148c8af5e453250030a", func := "chronicle/chroniclelaw08.P256Order", spec := "p256Order", inPlace := ["math/bits.Add64", "math/bits.Sub64"], unfollowed := true, recurses := true, named := ["chronicle/field.moduli", "math/bits.divideError", "math/bits.overflowError", "chronicle/p256.curveB"], apart := false, laid := [("chronicle/field.moduli", laid_chronicle_field_moduli), ("chronicle/p256.curveB", laid_chronicle_p256_curveB)] }
def P256OrderSaid : Prop := p256OrderRow.holds Tryd.pinned (OpenSpec.ofChange p256OrderSpec)

/-- ITS FALSE NEIGHBOUR: 'it returns false'. Refute it at one input. -/
def p256OrderWrong : ChangeSpec := { name := "p256Order", fn := fun _ => fun
  | [d] => { results := [.lit (.bool false)], args := [d] }
  | _ => none }
def P256OrderWrongFalsely : Prop := p256OrderRow.holds Tryd.pinned (OpenSpec.ofChange p256OrderWrong)

/-- 'chroniclelaw08.P256Bytes': WHATEVER THE INPUT: true; the input reads as it did. -/
def p256BytesSpec : ChangeSpec := { name := "p256Bytes", fn := fun _ => fun
  | [d1, d2] => { results := [.lit (.bool true)], args := [d1, d2] }
  | _ => none }
def p256BytesRow : OpenClaim := { program := "ytimaaendbfjblaadoor", sum := "f5f3405e0fdcd084515cf797e53e45587b62cfd668261148c8af5e453250030a", func := "chronicle/chroniclelaw08.P256Bytes", spec := "p256Bytes", inPlace := ["math/bits.Add64", "math/bits.Sub64"], named := ["chronicle/field.moduli", "math/bits.divideError", "math/bits.overflowError", "chronicle/p256.curveB"], apart := false, laid := [("chronicle/field.moduli", laid_chronicle_field_moduli), ("chronicle/p256.curveB", laid_chronicle_p256_curveB)] }
def P256BytesSaid : Prop := p256BytesRow.holds Tryd.pinned (OpenSpec.ofChange p256BytesSpec)

/-- ITS FALSE NEIGHBOUR: 'it returns false'. Refute it at one input. -/
def p256BytesWrong : ChangeSpec := { name := "p256Bytes", fn := fun _ => fun
  | [d1, d2] => { results := [.lit (.bool false)], args := [d1, d2] }
  | _ => none }
def P256BytesWrongFalsely : Prop := p256BytesRow.holds Tryd.pinned (OpenSpec.ofChange p256BytesWrong)

/- THE SECOND FORM. 'bulk': how many values and letters a reading holds, each counted each time it is reached (what is shared counts as often as it is met; a slice's spare places count too). A statement '..UptoSaid' is the law's where the arguments, and the package variables that the reading takes, are together of bulk at most 1048576: NARROWER than '..Said'. Prove '..Said' where nothing that the law and all that it calls make is longer than what came in: it says more and counts as full. Else prove '..UptoSaid'. A law counts once. -/
mutual
def uptoBulk {H : Type} : DataW H → Nat
  | .lit (.string bytes) => bytes.length + 1
  | .lit _ => 1
  | .nil => 1
  | .ptr d => uptoBulk d + 1
  | .slice elems spare => uptoBulkAll elems + uptoBulkAll spare + 1
  | .agg parts => uptoBulkAll parts + 1
  | .iface _ d => uptoBulk d + 1
  | .map entries => uptoBulkEntries entries + 1
  | .held _ => 1
def uptoBulkAll {H : Type} : List (DataW H) → Nat
  | [] => 0
  | d :: r => uptoBulk d + uptoBulkAll r
def uptoBulkEntries {H : Type} : List (Lit × DataW H) → Nat
  | [] => 0
  | x :: r => uptoBulkEntry x + uptoBulkEntries r
def uptoBulkEntry {H : Type} : Lit × DataW H → Nat
  | (.string bytes, d) => bytes.length + uptoBulk d + 1
  | (_, d) => uptoBulk d + 1
 end
def uptoSmall : (H : Type) → List (DataW H) → Bool := fun _ ds => decide (uptoBulkAll ds ≤ 1048576)
def OpenSpec.upto (s : _root_.Go.ChangeSpec) : _root_.Go.OpenSpec := { _root_.Go.OpenSpec.ofChange s with cond := some uptoSmall }

/-- 'chroniclelaw08.P256Adds', WHERE WHAT IT READS IS OF BULK AT MOST 1048576: true; the input reads as it did. -/
def p256AddsUptoRow : OpenClaim := { program := "ytimaaendbfjblaadoor", sum := "f5f3405e0fdcd084515cf797e53e45587b62cfd668261148c8af5e453250030a", func := "chronicle/chroniclelaw08.P256Adds", spec := "p256Adds", inPlace := ["math/bits.Add64", "math/bits.Sub64"], unfollowed := true, recurses := true, named := ["chronicle/field.moduli", "math/bits.divideError", "math/bits.overflowError", "chronicle/p256.curveB"], apart := false, laid := [("chronicle/field.moduli", laid_chronicle_field_moduli), ("chronicle/p256.curveB", laid_chronicle_p256_curveB)], narrowed := true }
def P256AddsUptoSaid : Prop := p256AddsUptoRow.holds Tryd.pinned (OpenSpec.upto p256AddsSpec)

/-- 'chroniclelaw08.P256Multiplies', WHERE WHAT IT READS IS OF BULK AT MOST 1048576: true; the input reads as it did. -/
def p256MultipliesUptoRow : OpenClaim := { program := "ytimaaendbfjblaadoor", sum := "f5f3405e0fdcd084515cf797e53e45587b62cfd668261148c8af5e453250030a", func := "chronicle/chroniclelaw08.P256Multiplies", spec := "p256Multiplies", inPlace := ["math/bits.Add64", "math/bits.Sub64"], unfollowed := true, recurses := true, named := ["chronicle/field.moduli", "math/bits.divideError", "math/bits.overflowError", "chronicle/p256.curveB"], apart := false, laid := [("chronicle/field.moduli", laid_chronicle_field_moduli), ("chronicle/p256.curveB", laid_chronicle_p256_curveB)], narrowed := true }
def P256MultipliesUptoSaid : Prop := p256MultipliesUptoRow.holds Tryd.pinned (OpenSpec.upto p256MultipliesSpec)

/-- 'chroniclelaw08.P256Both', WHERE WHAT IT READS IS OF BULK AT MOST 1048576: true; the input reads as it did. -/
def p256BothUptoRow : OpenClaim := { program := "ytimaaendbfjblaadoor", sum := "f5f3405e0fdcd084515cf797e53e45587b62cfd668261148c8af5e453250030a", func := "chronicle/chroniclelaw08.P256Both", spec := "p256Both", inPlace := ["math/bits.Add64", "math/bits.Sub64"], unfollowed := true, recurses := true, named := ["chronicle/field.moduli", "math/bits.divideError", "math/bits.overflowError", "chronicle/p256.curveB"], apart := false, laid := [("chronicle/field.moduli", laid_chronicle_field_moduli), ("chronicle/p256.curveB", laid_chronicle_p256_curveB)], narrowed := true }
def P256BothUptoSaid : Prop := p256BothUptoRow.holds Tryd.pinned (OpenSpec.upto p256BothSpec)

/-- 'chroniclelaw08.P256Group', WHERE WHAT IT READS IS OF BULK AT MOST 1048576: true; the input reads as it did. -/
def p256GroupUptoRow : OpenClaim := { program := "ytimaaendbfjblaadoor", sum := "f5f3405e0fdcd084515cf797e53e45587b62cfd668261148c8af5e453250030a", func := "chronicle/chroniclelaw08.P256Group", spec := "p256Group", inPlace := ["math/bits.Add64", "math/bits.Sub64"], unfollowed := true, recurses := true, named := ["chronicle/field.moduli", "math/bits.divideError", "math/bits.overflowError", "chronicle/p256.curveB"], apart := false, laid := [("chronicle/field.moduli", laid_chronicle_field_moduli), ("chronicle/p256.curveB", laid_chronicle_p256_curveB)], narrowed := true }
def P256GroupUptoSaid : Prop := p256GroupUptoRow.holds Tryd.pinned (OpenSpec.upto p256GroupSpec)

/-- 'chroniclelaw08.P256Order', WHERE WHAT IT READS IS OF BULK AT MOST 1048576: true; the input reads as it did. -/
def p256OrderUptoRow : OpenClaim := { program := "ytimaaendbfjblaadoor", sum := "f5f3405e0fdcd084515cf797e53e45587b62cfd668261148c8af5e453250030a", func := "chronicle/chroniclelaw08.P256Order", spec := "p256Order", inPlace := ["math/bits.Add64", "math/bits.Sub64"], unfollowed := true, recurses := true, named := ["chronicle/field.moduli", "math/bits.divideError", "math/bits.overflowError", "chronicle/p256.curveB"], apart := false, laid := [("chronicle/field.moduli", laid_chronicle_field_moduli), ("chronicle/p256.curveB", laid_chronicle_p256_curveB)], narrowed := true }
def P256OrderUptoSaid : Prop := p256OrderUptoRow.holds Tryd.pinned (OpenSpec.upto p256OrderSpec)

/-- 'chroniclelaw08.P256Bytes', WHERE WHAT IT READS IS OF BULK AT MOST 1048576: true; the input reads as it did. -/
def p256BytesUptoRow : OpenClaim := { program := "ytimaaendbfjblaadoor", sum := "f5f3405e0fdcd084515cf797e53e45587b62cfd668261148c8af5e453250030a", func := "chronicle/chroniclelaw08.P256Bytes", spec := "p256Bytes", inPlace := ["math/bits.Add64", "math/bits.Sub64"], named := ["chronicle/field.moduli", "math/bits.divideError", "math/bits.overflowError", "chronicle/p256.curveB"], apart := false, laid := [("chronicle/field.moduli", laid_chronicle_field_moduli), ("chronicle/p256.curveB", laid_chronicle_p256_curveB)], narrowed := true }
def P256BytesUptoSaid : Prop := p256BytesUptoRow.holds Tryd.pinned (OpenSpec.upto p256BytesSpec)

end Rows
end Go.Proofs.YtimaaendbfjblaaDoor
