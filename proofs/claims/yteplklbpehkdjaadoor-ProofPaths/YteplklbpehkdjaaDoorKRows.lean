/- Rows of bytes in memory. -/
import Derived.Test.YteplklbpehkdjaaDoorKBase
namespace Go.Proofs.YteplklbpehkdjaaDoor
set_option maxRecDepth 100000
open Go.RowKit

/-- n bytes lie from an address on. -/
structure Rd (w : World) (b o n : Nat) (f : Nat → Int) : Prop where
  c : ∀ i, i < n → w.cell? ⟨b, o + i, none⟩ = some (.int .u8 (f i))
/-- A row of n bytes of its own, that may be written. -/
structure Row8 (w : World) (b n : Nat) (f : Nat → Int) : Prop where
  lt : b < w.heap.size
  c : ∀ i, i < n → w.cell? ⟨b, i, none⟩ = some (.int .u8 (f i))
  z : ∀ i, i < n → w.frozen? ⟨b, i, none⟩ = false
theorem Rd.keep {W w1 : World} {b o n : Nat} {f : Nat → Int} (h : Rd W b o n f) (hb : Below W.heap.size W w1) : Rd w1 b o n f :=
  ⟨fun i hi => later hb (h.c i hi)⟩
theorem Rd.part {w : World} {b o n : Nat} {f : Nat → Int} (h : Rd w b o n f) (k m : Nat) (hk : k + m ≤ n) : Rd w b (o + k) m (fun i => f (k + i)) :=
  ⟨fun i hi => by have := h.c (k + i) (by omega); rwa [← Nat.add_assoc] at this⟩
theorem Rd.congr {w : World} {b o n : Nat} {f g : Nat → Int} (h : Rd w b o n f) (e : ∀ i, i < n → f i = g i) : Rd w b o n g :=
  ⟨fun i hi => by rw [← e i hi]; exact h.c i hi⟩
theorem Row8.keep {W w1 : World} {b n : Nat} {f : Nat → Int} (h : Row8 W b n f) (hb : Below W.heap.size W w1) : Row8 w1 b n f :=
  ⟨Nat.lt_of_lt_of_le h.lt hb.size, fun i hi => later hb (h.c i hi), fun i hi => (hb.frozen (p := ⟨b, i, none⟩) h.lt).trans (h.z i hi)⟩
theorem Row8.rd {w : World} {b n : Nat} {f : Nat → Int} (h : Row8 w b n f) : Rd w b 0 n f := ⟨fun i hi => by rw [Nat.zero_add]; exact h.c i hi⟩
theorem Row8.congr {w : World} {b n : Nat} {f g : Nat → Int} (h : Row8 w b n f) (e : ∀ i, i < n → f i = g i) : Row8 w b n g :=
  ⟨h.lt, fun i hi => by rw [← e i hi]; exact h.c i hi, h.z⟩
theorem Row8.store {w : World} {b n : Nat} {f : Nat → Int} (h : Row8 w b n f) (k : Nat) (hk : k < n) (v : Int) : Row8 (w.setCell ⟨b, k, none⟩ (.int .u8 v)) b n (fun i => if i = k then v else f i) := by
  refine ⟨by simpa using h.lt, fun i hi => ?_, fun i hi => by rw [World.frozen?_setCell]; exact h.z i hi⟩
  have hc := h.c i hi
  have hcs := h.c k hk
  by_cases e : i = k
  · subst e; simp [go_sem, hc]
  · simp [go_sem, hc, e]
end Go.Proofs.YteplklbpehkdjaaDoor
