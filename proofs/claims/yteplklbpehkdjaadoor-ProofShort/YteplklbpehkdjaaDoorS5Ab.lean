/- Rows of bytes as cells. -/
import Derived.Test.YteplklbpehkdjaaDoorS5K
namespace Go.Proofs.YteplklbpehkdjaaDoor
set_option maxRecDepth 100000
open Go.RowKit

/-- n bytes, as cells. -/
def ab (f : Nat → Nat) (n : Nat) : List Value := (List.range n).map (fun t => Value.int .u8 ((f t : Nat) : Int))
theorem ab_len (f : Nat → Nat) (n : Nat) : (ab f n).length = n := by simp [ab]
theorem ab_at (f : Nat → Nat) {n i : Nat} (h : i < n) : (ab f n)[i]? = some (.int .u8 ((f i : Nat) : Int)) := by simp [ab, h]
theorem ab_one (f : Nat → Nat) (n : Nat) : ∀ v ∈ ab f n, v.oneCell' = true := by
  intro v hv
  simp only [ab, List.mem_map] at hv
  obtain ⟨i, _, rfl⟩ := hv
  rfl
abbrev RowB (w : World) (b n : Nat) (f : Nat → Nat) : Prop := Row8 w b n (fun i => ((f i : Nat) : Int))
theorem RowB.range {w : World} {b n : Nat} {f : Nat → Nat} (h : RowB w b n f) : w.rangeAt b 0 (ab f n) := fun j v hv => by
  have hj : j < n := by
    rcases Nat.lt_or_ge j n with h' | h'
    · exact h'
    · rw [List.getElem?_eq_none (by rw [ab_len]; exact h')] at hv; cases hv
  rw [ab_at f hj] at hv
  rw [Nat.zero_add, h.c j hj]; exact hv
theorem RowB.there {w : World} {b n : Nat} {f : Nat → Nat} (h : RowB w b n f) (g : Nat → Nat) : w.there b 0 (ab g n).toArray.size := by
  rw [List.size_toArray, ab_len]
  intro j hj
  rw [Nat.zero_add, h.c j hj, h.z j hj]; exact ⟨rfl, rfl⟩
theorem RowB.stored {w : World} {b n : Nat} {f : Nat → Nat} (h : RowB w b n f) (g : Nat → Nat) : RowB (w.setCells b 0 (ab g n)) b n g := by
  have ht := h.there g
  rw [List.size_toArray] at ht
  have hr := World.rangeAt_setCells_same w b 0 (ab g n) ht
  refine ⟨by rw [size_setCells]; exact h.lt, fun i hi => ?_, fun i hi => by rw [World.frozen?_setCells]; exact h.z i hi⟩
  have := hr i _ (ab_at g hi)
  rwa [Nat.zero_add] at this
theorem Row8.apart {w : World} {b n : Nat} {f : Nat → Int} (h : Row8 w b n f) {g : Nat} (hg : b ≠ g) (o : Nat) (vs : List Value) : Row8 (w.setCells g o vs) b n f :=
  ⟨by rw [size_setCells]; exact h.lt, fun i hi => by rw [World.cell?_setCells_out g vs o w ⟨b, i, none⟩ (fun e _ => absurd e hg)]; exact h.c i hi, fun i hi => by rw [World.frozen?_setCells]; exact h.z i hi⟩
theorem Rd.apart {w : World} {b o n : Nat} {f : Nat → Int} (h : Rd w b o n f) {g : Nat} (hg : b ≠ g) (u : Nat) (vs : List Value) : Rd (w.setCells g u vs) b o n f :=
  ⟨fun i hi => by rw [World.cell?_setCells_out g vs u w ⟨b, o + i, none⟩ (fun e _ => absurd e hg)]; exact h.c i hi⟩
theorem RowB.made (w : World) (t : TypeId) (n : Nat) (f : Nat → Nat) (cs : Array Value) (h : cs = (ab f n).toArray) : RowB (w.alloc (.cells cs t)) w.heap.size n f := by
  subst h
  refine ⟨by simp, fun i hi => ?_, fun i _ => ?_⟩
  · rw [cell_of_row _ _ _ _ _ _ (heap_alloc_new w _)]
    have := ab_at f hi
    simpa using this
  · exact frozen_of_row _ _ _ _ _ (heap_alloc_new w _)
theorem row8_other {w : World} {b n : Nat} {f : Nat → Int} (h : Row8 w b n f) {g : Nat} (hg : b ≠ g) (k : Nat) (v : Value) : Row8 (w.setCell ⟨g, k, none⟩ v) b n f :=
  ⟨by simpa using h.lt, fun i hi => by rw [World.cell?_setCell_other _ _ _ _ (by intro e; injection e with e1; exact hg e1.symm)]; exact h.c i hi, fun i hi => by rw [World.frozen?_setCell]; exact h.z i hi⟩
theorem zeros32 : (#[.int .u8 0, .int .u8 0, .int .u8 0, .int .u8 0, .int .u8 0, .int .u8 0, .int .u8 0, .int .u8 0, .int .u8 0, .int .u8 0, .int .u8 0, .int .u8 0, .int .u8 0, .int .u8 0, .int .u8 0, .int .u8 0, .int .u8 0, .int .u8 0, .int .u8 0, .int .u8 0, .int .u8 0, .int .u8 0, .int .u8 0, .int .u8 0, .int .u8 0, .int .u8 0, .int .u8 0, .int .u8 0, .int .u8 0, .int .u8 0, .int .u8 0, .int .u8 0] : Array Value) = (ab (fun _ => 0) 32).toArray := by kernel_rfl
theorem infoH : (Tryd.prog.info? 32).map (·.size) = some 32 := by kernel_rfl
theorem inH (f : Nat → Nat) : (Tryd.prog.info? 32).map (·.size) = some (ab f 32).toArray.size := by rw [List.size_toArray, ab_len]; exact infoH
theorem ilH (f : Nat → Nat) : (Tryd.prog.info? 32).map (·.size) = some (ab f 32).length := by rw [ab_len]; exact infoH
end Go.Proofs.YteplklbpehkdjaaDoor
