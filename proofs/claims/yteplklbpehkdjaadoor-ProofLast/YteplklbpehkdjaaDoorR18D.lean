/- Layer 18: the document's own Path and Proof where there is none. -/
import Derived.Test.YteplklbpehkdjaaDoorR18C
import Derived.Test.YteplklbpehkdjaaDoorM18B
namespace Go.Proofs.YteplklbpehkdjaaDoor
set_option maxRecDepth 100000
open Go.RowKit
attribute [local go_sem ↓] Go.wp_at_zero Go.wp_at_succ

/-- What is told with the error ErrRange. -/
def PthE (w : World) (e : Ending) (w' : World) : Prop := e = .returned (.tuple #[.slice none 0 0, .int .i64 3]) ∧ Below w.heap.size w w'
theorem refPath_er {w : World} {x : Option Addr} {n c : Nat} {m : Int} (h : m < 0 ∨ (n : Int) ≤ m) : Calls Tryd.prog 10 #[.slice x n c, .int .i64 m] w (PthE w) := by
  by_cases h0 : m < 0
  · clear h
    go_enter Tryd.func10, Tryd.ntmps10
    go_wp2_with fail
    go_ret2
    exact ⟨rfl, Below.refl _ _⟩
  · have h1 : (n : Int) ≤ m := h.resolve_left h0
    clear h
    go_enter Tryd.func10, Tryd.ntmps10
    go_wp2_with fail
    go_ret2
    exact ⟨rfl, Below.refl _ _⟩
theorem refProof_er {w : World} {x : Option Addr} {n c : Nat} {m : Int} (h : m < 1 ∨ (n : Int) < m) : Calls Tryd.prog 13 #[.slice x n c, .int .i64 m] w (PthE w) := by
  by_cases h0 : m < 1
  · clear h
    go_enter Tryd.func13, Tryd.ntmps13
    go_wp2_with fail
    go_ret2
    exact ⟨rfl, Below.refl _ _⟩
  · have h1 : (n : Int) < m := h.resolve_left h0
    clear h
    go_enter Tryd.func13, Tryd.ntmps13
    go_wp2_with fail
    go_ret2
    exact ⟨rfl, Below.refl _ _⟩
end Go.Proofs.YteplklbpehkdjaaDoor
