/-
  NARROWER THAN 'FOR EVERY INPUT', by the rows' own cells (each row's printed sentence says how): P256Twice: laid · P256Stray: laid.
  DERIVED. THE GIVEN ROWS OF THIS SEAT. 2 by the template 'for every input the law returns true; each argument reads behind the call as it read before'; 0 by the template 'total and deterministic' (their statements: YtimaaendbfjblabDoorTotals.lean).
  GIVEN WITH THE SEED: the statements are not yours to turn. If you find one false, say at which input.
  Laid BY PROGRAM, IN A SANDBOX (cutbox-rows.mjs): the forced cells as the released guide's own fill.sh prints them over the translation ca7b2908067bcf4f… (all of the seat's roots in one cut). By AI agents, Wed Nov 11 2026. No macro, syntax, notation, axiom, sorry.
-/
import Derived.Test.YtimaaendbfjblabDoorChecked
import GoSem.Claim
import GoSem.ClaimJoined
import GoSem.ClaimMapViews
import Derived.JoinedTies
import Derived.KernelRfl
namespace Go.Proofs.YtimaaendbfjblabDoor
/- THE CELL 'sum', in the pinned program and in every row, IS THE sha256 OF THE DUMP (.gsa) THAT YtimaaendbfjblabDoorProg.lean LOADS. Nothing in Lean hashes anything: it is a label: what it is worth is what the hold of that sum in a sandbox is worth. -/
noncomputable def Tryd.pinned : Pinned := { name := "ytimaaendbfjblabdoor", sum := "ca7b2908067bcf4fa4dd44353abfbc1bb03a98644160f2d500e956f0eb75182f", checked := Tryd.checked }
namespace Rows
def none {H : Type} : Left H := { results := [], args := [] }

/- WHAT THE LISTED PACKAGE-LEVEL VARIABLES READ AS WHEN THE CALL BEGINS. Each datum BY PROGRAM (the guide's laid-datum.mjs) off the statement by which the dump's own 'gosem.cut.vars' lays the variable. In a bare row this is a premise. The card (YtimaaendbfjblabDoorCards.lean) ties it to the program's text. -/
def laid_chronicle_field_moduli {H : Type} : DataW H := .agg [.agg [.lit (.int .u64 18446744073709551615), .lit (.int .u64 4294967295), .lit (.int .u64 0), .lit (.int .u64 18446744069414584321)], .agg [.lit (.int .u64 17562291160714782033), .lit (.int .u64 13611842547513532036), .lit (.int .u64 18446744073709551615), .lit (.int .u64 18446744069414584320)], .agg [.lit (.int .u64 18446744073709551597), .lit (.int .u64 18446744073709551615), .lit (.int .u64 18446744073709551615), .lit (.int .u64 9223372036854775807)], .agg [.lit (.int .u64 6346243789798364141), .lit (.int .u64 1503914060200516822), .lit (.int .u64 0), .lit (.int .u64 1152921504606846976)]]
def laid_chronicle_p256_curveB {H : Type} : DataW H := .agg [.lit (.int .u64 4309448131093880907), .lit (.int .u64 7285987128567378166), .lit (.int .u64 12964664127075681980), .lit (.int .u64 6540974713487397863)]

/-- 'chroniclelaw08.P256Twice': WHATEVER THE INPUT: true; the input reads as it did. -/
def p256TwiceSpec : ChangeSpec := { name := "p256Twice", fn := fun _ => fun
  | [d1, d2] => { results := [.lit (.bool true)], args := [d1, d2] }
  | _ => none }
def p256TwiceRow : OpenClaim := { program := "ytimaaendbfjblabdoor", sum := "ca7b2908067bcf4fa4dd44353abfbc1bb03a98644160f2d500e956f0eb75182f", func := "chronicle/chroniclelaw08.P256Twice", spec := "p256Twice", inPlace := ["math/bits.Add64", "math/bits.Sub64"], unfollowed := true, recurses := true, named := ["chronicle/field.moduli", "math/bits.divideError", "math/bits.overflowError", "chronicle/p256.curveB"], apart := false, laid := [("chronicle/field.moduli", laid_chronicle_field_moduli), ("chronicle/p256.curveB", laid_chronicle_p256_curveB)] }
def P256TwiceSaid : Prop := p256TwiceRow.holds Tryd.pinned (OpenSpec.ofChange p256TwiceSpec)

/-- ITS FALSE NEIGHBOUR: 'it returns false'. Refute it at one input. -/
def p256TwiceWrong : ChangeSpec := { name := "p256Twice", fn := fun _ => fun
  | [d1, d2] => { results := [.lit (.bool false)], args := [d1, d2] }
  | _ => none }
def P256TwiceWrongFalsely : Prop := p256TwiceRow.holds Tryd.pinned (OpenSpec.ofChange p256TwiceWrong)

/-- 'chroniclelaw08.P256Stray': WHATEVER THE INPUT: true; the input reads as it did. -/
def p256StraySpec : ChangeSpec := { name := "p256Stray", fn := fun _ => fun
  | [d1, d2] => { results := [.lit (.bool true)], args := [d1, d2] }
  | _ => none }
def p256StrayRow : OpenClaim := { program := "ytimaaendbfjblabdoor", sum := "ca7b2908067bcf4fa4dd44353abfbc1bb03a98644160f2d500e956f0eb75182f", func := "chronicle/chroniclelaw08.P256Stray", spec := "p256Stray", inPlace := ["math/bits.Add64", "math/bits.Sub64"], unfollowed := true, recurses := true, named := ["chronicle/field.moduli", "math/bits.divideError", "math/bits.overflowError", "chronicle/p256.curveB"], apart := false, laid := [("chronicle/field.moduli", laid_chronicle_field_moduli), ("chronicle/p256.curveB", laid_chronicle_p256_curveB)] }
def P256StraySaid : Prop := p256StrayRow.holds Tryd.pinned (OpenSpec.ofChange p256StraySpec)

/-- ITS FALSE NEIGHBOUR: 'it returns false'. Refute it at one input. -/
def p256StrayWrong : ChangeSpec := { name := "p256Stray", fn := fun _ => fun
  | [d1, d2] => { results := [.lit (.bool false)], args := [d1, d2] }
  | _ => none }
def P256StrayWrongFalsely : Prop := p256StrayRow.holds Tryd.pinned (OpenSpec.ofChange p256StrayWrong)

/- THE SECOND FORM. 'bulk': how many values and letters a reading holds, each counted each time it is reached (what is shared counts as often as it is met; a slice's spare places count too). A statement '..UptoSaid' is the law's where the arguments, and the package variables that the reading takes, are together of bulk at most 1048576: NARROWER than '..Said'. Prove '..Said' where nothing that the law and all that it calls make is longer than what came in: it says more and counts as full. Else prove '..UptoSaid'. A law counts once. -/
mutual
def uptoBulk {H : Type} : DataW H → Nat
  | .lit (.string bytes) => bytes.length + 1
  | .lit _ => 1
  | .nil => 1
  | .ptr d => uptoBulk d + 1
  | .slice elems spare => uptoBulkAll elems + uptoBulkAll spare + 1
  | .agg parts => uptoBulkAll parts + 1
  | .iface _ d => uptoBulk d + 1
  | .map entries => uptoBulkEntries entries + 1
  | .held _ => 1
def uptoBulkAll {H : Type} : List (DataW H) → Nat
  | [] => 0
  | d :: r => uptoBulk d + uptoBulkAll r
def uptoBulkEntries {H : Type} : List (Lit × DataW H) → Nat
  | [] => 0
  | x :: r => uptoBulkEntry x + uptoBulkEntries r
def uptoBulkEntry {H : Type} : Lit × DataW H → Nat
  | (.string bytes, d) => bytes.length + uptoBulk d + 1
  | (_, d) => uptoBulk d + 1
 end
def uptoSmall : (H : Type) → List (DataW H) → Bool := fun _ ds => decide (uptoBulkAll ds ≤ 1048576)
def OpenSpec.upto (s : _root_.Go.ChangeSpec) : _root_.Go.OpenSpec := { _root_.Go.OpenSpec.ofChange s with cond := some uptoSmall }

/-- 'chroniclelaw08.P256Twice', WHERE WHAT IT READS IS OF BULK AT MOST 1048576: true; the input reads as it did. -/
def p256TwiceUptoRow : OpenClaim := { program := "ytimaaendbfjblabdoor", sum := "ca7b2908067bcf4fa4dd44353abfbc1bb03a98644160f2d500e956f0eb75182f", func := "chronicle/chroniclelaw08.P256Twice", spec := "p256Twice", inPlace := ["math/bits.Add64", "math/bits.Sub64"], unfollowed := true, recurses := true, named := ["chronicle/field.moduli", "math/bits.divideError", "math/bits.overflowError", "chronicle/p256.curveB"], apart := false, laid := [("chronicle/field.moduli", laid_chronicle_field_moduli), ("chronicle/p256.curveB", laid_chronicle_p256_curveB)], narrowed := true }
def P256TwiceUptoSaid : Prop := p256TwiceUptoRow.holds Tryd.pinned (OpenSpec.upto p256TwiceSpec)

/-- 'chroniclelaw08.P256Stray', WHERE WHAT IT READS IS OF BULK AT MOST 1048576: true; the input reads as it did. -/
def p256StrayUptoRow : OpenClaim := { program := "ytimaaendbfjblabdoor", sum := "ca7b2908067bcf4fa4dd44353abfbc1bb03a98644160f2d500e956f0eb75182f", func := "chronicle/chroniclelaw08.P256Stray", spec := "p256Stray", inPlace := ["math/bits.Add64", "math/bits.Sub64"], unfollowed := true, recurses := true, named := ["chronicle/field.moduli", "math/bits.divideError", "math/bits.overflowError", "chronicle/p256.curveB"], apart := false, laid := [("chronicle/field.moduli", laid_chronicle_field_moduli), ("chronicle/p256.curveB", laid_chronicle_p256_curveB)], narrowed := true }
def P256StrayUptoSaid : Prop := p256StrayUptoRow.holds Tryd.pinned (OpenSpec.upto p256StraySpec)

end Rows
end Go.Proofs.YtimaaendbfjblabDoor
