/- Layer 18: the document's own turned and Path. Layer 18: the document's own Path. Layer 18: the document's own Proof. Layer 17: parts with their sizes, and how one more is joined to them (no function of the program is named). Layer 18: what paths and proofs hang on; how many bits a number has (no function of the program is named). Layer 18: the document's own Path and Proof where there is none. -/
import Derived.Test.YtkpkkjcfodjifaaDoorMA06
namespace Go.Proofs.YtkpkkjcfodjifaaDoor
set_option maxRecDepth 100000
open Go.RowKit
attribute [local go_sem ↓] Go.wp_at_zero Go.wp_at_succ

end Go.Proofs.YtkpkkjcfodjifaaDoor
namespace Go.Proofs.YtkpkkjcfodjifaaDoor
set_option maxRecDepth 100000
open Go.RowKit
attribute [local go_sem ↓] Go.wp_at_zero Go.wp_at_succ

/-- What is told with no error. -/
def PthP (w : World) (L : List (Nat → Nat)) (e : Ending) (w' : World) : Prop := ∃ v, e = .returned (.tuple #[v, .int .i64 0]) ∧ OH w' w.heap.size v L.length (lF L) ∧ Below w.heap.size w w'
end Go.Proofs.YtkpkkjcfodjifaaDoor
namespace Go.Proofs.YtkpkkjcfodjifaaDoor
set_option maxRecDepth 100000
open Go.RowKit
attribute [local go_sem ↓] Go.wp_at_zero Go.wp_at_succ

end Go.Proofs.YtkpkkjcfodjifaaDoor
namespace Go.Proofs.YtkpkkjcfodjifaaDoor
set_option maxRecDepth 100000
open Go.RowKit

end Go.Proofs.YtkpkkjcfodjifaaDoor
namespace Go.Proofs.YtkpkkjcfodjifaaDoor
set_option maxRecDepth 100000
open Go.RowKit

/-- While bits are counted: b are counted, x is left of k. -/
def BtR (k x b : Nat) : Prop := k < (x + 1) * 2 ^ b
theorem BtR.start (k : Nat) : BtR k k 0 := by unfold BtR; omega
end Go.Proofs.YtkpkkjcfodjifaaDoor
namespace Go.Proofs.YtkpkkjcfodjifaaDoor
set_option maxRecDepth 100000
open Go.RowKit
attribute [local go_sem ↓] Go.wp_at_zero Go.wp_at_succ

end Go.Proofs.YtkpkkjcfodjifaaDoor
