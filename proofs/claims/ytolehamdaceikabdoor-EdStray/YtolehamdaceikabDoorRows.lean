/-
  NARROWER THAN 'FOR EVERY INPUT', by the rows' own cells (each row's printed sentence says how): EdTwice: laid · EdStray: laid.
  DERIVED. THE GIVEN ROWS OF THIS SEAT. 2 by the template 'for every input the law returns true; each argument reads behind the call as it read before'; 0 by the template 'total and deterministic' (their statements: YtolehamdaceikabDoorTotals.lean).
  GIVEN WITH THE SEED: the statements are not yours to turn. If you find one false, say at which input.
  Laid BY PROGRAM, IN A SANDBOX (cutbox-rows.mjs): the forced cells as the released guide's own fill.sh prints them over the translation cfa0c47c043321eb… (all of the seat's roots in one cut). By AI agents, Wed Nov 11 2026. No macro, syntax, notation, axiom, sorry.
-/
import Derived.Test.YtolehamdaceikabDoorChecked
import GoSem.Claim
import GoSem.ClaimJoined
import GoSem.ClaimMapViews
import Derived.JoinedTies
import Derived.KernelRfl
namespace Go.Proofs.YtolehamdaceikabDoor
/- THE CELL 'sum', in the pinned program and in every row, IS THE sha256 OF THE DUMP (.gsa) THAT YtolehamdaceikabDoorProg.lean LOADS. Nothing in Lean hashes anything: it is a label: what it is worth is what the hold of that sum in a sandbox is worth. -/
noncomputable def Tryd.pinned : Pinned := { name := "ytolehamdaceikabdoor", sum := "cfa0c47c043321eb0a93bcb9df23f5a2d05d27921ec1c17502eef4f42d165d93", checked := Tryd.checked }
namespace Rows
def none {H : Type} : Left H := { results := [], args := [] }

/- WHAT THE LISTED PACKAGE-LEVEL VARIABLES READ AS WHEN THE CALL BEGINS. Each datum BY PROGRAM (the guide's laid-datum.mjs) off the statement by which the dump's own 'gosem.cut.vars' lays the variable. In a bare row this is a premise. The card (YtolehamdaceikabDoorCards.lean) ties it to the program's text. -/
def laid_chronicle_field_moduli {H : Type} : DataW H := .agg [.agg [.lit (.int .u64 18446744073709551615), .lit (.int .u64 4294967295), .lit (.int .u64 0), .lit (.int .u64 18446744069414584321)], .agg [.lit (.int .u64 17562291160714782033), .lit (.int .u64 13611842547513532036), .lit (.int .u64 18446744073709551615), .lit (.int .u64 18446744069414584320)], .agg [.lit (.int .u64 18446744073709551597), .lit (.int .u64 18446744073709551615), .lit (.int .u64 18446744073709551615), .lit (.int .u64 9223372036854775807)], .agg [.lit (.int .u64 6346243789798364141), .lit (.int .u64 1503914060200516822), .lit (.int .u64 0), .lit (.int .u64 1152921504606846976)]]
def laid_chronicle_ed_curveD {H : Type} : DataW H := .agg [.lit (.int .u64 8496970652267935907), .lit (.int .u64 31536524315187371), .lit (.int .u64 10144147576115030168), .lit (.int .u64 5909686906226998899)]

/-- 'chroniclelaw09.EdTwice': WHATEVER THE INPUT: true; the input reads as it did. -/
def edTwiceSpec : ChangeSpec := { name := "edTwice", fn := fun _ => fun
  | [d1, d2] => { results := [.lit (.bool true)], args := [d1, d2] }
  | _ => none }
def edTwiceRow : OpenClaim := { program := "ytolehamdaceikabdoor", sum := "cfa0c47c043321eb0a93bcb9df23f5a2d05d27921ec1c17502eef4f42d165d93", func := "chronicle/chroniclelaw09.EdTwice", spec := "edTwice", inPlace := ["math/bits.Add64", "math/bits.Sub64"], unfollowed := true, recurses := true, named := ["chronicle/ed.curveD", "chronicle/field.moduli", "math/bits.divideError", "math/bits.overflowError"], apart := false, laid := [("chronicle/field.moduli", laid_chronicle_field_moduli), ("chronicle/ed.curveD", laid_chronicle_ed_curveD)] }
def EdTwiceSaid : Prop := edTwiceRow.holds Tryd.pinned (OpenSpec.ofChange edTwiceSpec)

/-- ITS FALSE NEIGHBOUR: 'it returns false'. Refute it at one input. -/
def edTwiceWrong : ChangeSpec := { name := "edTwice", fn := fun _ => fun
  | [d1, d2] => { results := [.lit (.bool false)], args := [d1, d2] }
  | _ => none }
def EdTwiceWrongFalsely : Prop := edTwiceRow.holds Tryd.pinned (OpenSpec.ofChange edTwiceWrong)

/-- 'chroniclelaw09.EdStray': WHATEVER THE INPUT: true; the input reads as it did. -/
def edStraySpec : ChangeSpec := { name := "edStray", fn := fun _ => fun
  | [d1, d2] => { results := [.lit (.bool true)], args := [d1, d2] }
  | _ => none }
def edStrayRow : OpenClaim := { program := "ytolehamdaceikabdoor", sum := "cfa0c47c043321eb0a93bcb9df23f5a2d05d27921ec1c17502eef4f42d165d93", func := "chronicle/chroniclelaw09.EdStray", spec := "edStray", inPlace := ["math/bits.Add64", "math/bits.Sub64"], unfollowed := true, recurses := true, named := ["chronicle/ed.curveD", "chronicle/field.moduli", "math/bits.divideError", "math/bits.overflowError"], apart := false, laid := [("chronicle/field.moduli", laid_chronicle_field_moduli), ("chronicle/ed.curveD", laid_chronicle_ed_curveD)] }
def EdStraySaid : Prop := edStrayRow.holds Tryd.pinned (OpenSpec.ofChange edStraySpec)

/-- ITS FALSE NEIGHBOUR: 'it returns false'. Refute it at one input. -/
def edStrayWrong : ChangeSpec := { name := "edStray", fn := fun _ => fun
  | [d1, d2] => { results := [.lit (.bool false)], args := [d1, d2] }
  | _ => none }
def EdStrayWrongFalsely : Prop := edStrayRow.holds Tryd.pinned (OpenSpec.ofChange edStrayWrong)

/- THE SECOND FORM. 'bulk': how many values and letters a reading holds, each counted each time it is reached (what is shared counts as often as it is met; a slice's spare places count too). A statement '..UptoSaid' is the law's where the arguments, and the package variables that the reading takes, are together of bulk at most 1048576: NARROWER than '..Said'. Prove '..Said' where nothing that the law and all that it calls make is longer than what came in: it says more and counts as full. Else prove '..UptoSaid'. A law counts once. -/
mutual
def uptoBulk {H : Type} : DataW H → Nat
  | .lit (.string bytes) => bytes.length + 1
  | .lit _ => 1
  | .nil => 1
  | .ptr d => uptoBulk d + 1
  | .slice elems spare => uptoBulkAll elems + uptoBulkAll spare + 1
  | .agg parts => uptoBulkAll parts + 1
  | .iface _ d => uptoBulk d + 1
  | .map entries => uptoBulkEntries entries + 1
  | .held _ => 1
def uptoBulkAll {H : Type} : List (DataW H) → Nat
  | [] => 0
  | d :: r => uptoBulk d + uptoBulkAll r
def uptoBulkEntries {H : Type} : List (Lit × DataW H) → Nat
  | [] => 0
  | x :: r => uptoBulkEntry x + uptoBulkEntries r
def uptoBulkEntry {H : Type} : Lit × DataW H → Nat
  | (.string bytes, d) => bytes.length + uptoBulk d + 1
  | (_, d) => uptoBulk d + 1
 end
def uptoSmall : (H : Type) → List (DataW H) → Bool := fun _ ds => decide (uptoBulkAll ds ≤ 1048576)
def OpenSpec.upto (s : _root_.Go.ChangeSpec) : _root_.Go.OpenSpec := { _root_.Go.OpenSpec.ofChange s with cond := some uptoSmall }

/-- 'chroniclelaw09.EdTwice', WHERE WHAT IT READS IS OF BULK AT MOST 1048576: true; the input reads as it did. -/
def edTwiceUptoRow : OpenClaim := { program := "ytolehamdaceikabdoor", sum := "cfa0c47c043321eb0a93bcb9df23f5a2d05d27921ec1c17502eef4f42d165d93", func := "chronicle/chroniclelaw09.EdTwice", spec := "edTwice", inPlace := ["math/bits.Add64", "math/bits.Sub64"], unfollowed := true, recurses := true, named := ["chronicle/ed.curveD", "chronicle/field.moduli", "math/bits.divideError", "math/bits.overflowError"], apart := false, laid := [("chronicle/field.moduli", laid_chronicle_field_moduli), ("chronicle/ed.curveD", laid_chronicle_ed_curveD)], narrowed := true }
def EdTwiceUptoSaid : Prop := edTwiceUptoRow.holds Tryd.pinned (OpenSpec.upto edTwiceSpec)

/-- 'chroniclelaw09.EdStray', WHERE WHAT IT READS IS OF BULK AT MOST 1048576: true; the input reads as it did. -/
def edStrayUptoRow : OpenClaim := { program := "ytolehamdaceikabdoor", sum := "cfa0c47c043321eb0a93bcb9df23f5a2d05d27921ec1c17502eef4f42d165d93", func := "chronicle/chroniclelaw09.EdStray", spec := "edStray", inPlace := ["math/bits.Add64", "math/bits.Sub64"], unfollowed := true, recurses := true, named := ["chronicle/ed.curveD", "chronicle/field.moduli", "math/bits.divideError", "math/bits.overflowError"], apart := false, laid := [("chronicle/field.moduli", laid_chronicle_field_moduli), ("chronicle/ed.curveD", laid_chronicle_ed_curveD)], narrowed := true }
def EdStrayUptoSaid : Prop := edStrayUptoRow.holds Tryd.pinned (OpenSpec.upto edStraySpec)

end Rows
end Go.Proofs.YtolehamdaceikabDoor
