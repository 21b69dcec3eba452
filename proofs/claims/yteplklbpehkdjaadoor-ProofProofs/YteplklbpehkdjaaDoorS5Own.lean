/- Rows of bytes of one's own, as bytes that are handed on. -/
import Derived.Test.YteplklbpehkdjaaDoorS5Cat
import Derived.Test.YteplklbpehkdjaaDoorS5Sum
import Derived.Test.YteplklbpehkdjaaDoorS5Eq
namespace Go.Proofs.YteplklbpehkdjaaDoor
set_option maxRecDepth 100000
open Go.RowKit

theorem refSum_hA {x : Option Addr} {n c : Nat} {f : Nat → Nat} {w : World} (h : BA w x n f) (hn : n ≤ 100000) :
    Calls Tryd.prog 19 #[.slice x n c] w fun e w' => e = .returned (.agg (hA f n)) ∧ Below w.heap.size w w' := by
  unfold hA
  exact refSum_any h hn
/-- A hash's block, as bytes. -/
theorem RowB.ba {w : World} {b n : Nat} {f : Nat → Nat} (h : RowB w b n f) (hf : ∀ i, f i < 256) : BA w (some ⟨b, 0, none⟩) n f := ⟨hf, Or.inr ⟨b, 0, rfl, Row8.rd h⟩⟩
theorem hByte_lt (s : St) (i : Nat) : hByte s i < 256 := Nat.mod_lt _ (by omega)
end Go.Proofs.YteplklbpehkdjaaDoor
