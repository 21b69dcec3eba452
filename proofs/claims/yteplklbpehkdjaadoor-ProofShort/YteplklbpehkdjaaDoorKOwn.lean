/- Rows of bytes that may grow. -/
import Derived.Test.YteplklbpehkdjaaDoorKRows
import Derived.Deep.AppendLies
import Derived.OwnWalk
namespace Go.Proofs.YteplklbpehkdjaaDoor
set_option maxRecDepth 100000
open Go.RowKit

theorem info8 : (Tryd.prog.info? 5).map (fun i => (i.zero, i.size, i.bytes)) = some (some (.int .u8 0), 1, 1) := by kernel_rfl
def cells8 (l : List Nat) : List Value := l.map (fun (x : Nat) => Value.int .u8 (x : Int))
theorem own_keep {w w' : World} {base n : Nat} {v : Value} {xs : List Value} (h : w.ownsRow base 5 1 v n xs) (hb : Below w.heap.size w w') : w'.ownsRow base 5 1 v n xs := by
  refine ⟨h.1, ?_⟩
  rcases h.2 with h0 | ⟨g, cap, cur, rfl, hg, hh, h1, h2, h3, h4⟩
  · exact Or.inl h0
  · exact Or.inr ⟨g, cap, cur, rfl, hg, by rw [hb.block g (h.lt g rfl).2]; exact hh, h1, h2, h3, h4⟩

theorem own_shape {w : World} {base n : Nat} {v : Value} {xs : List Value} (h : w.ownsRow base 5 1 v n xs) : ∃ a cap, v = .slice a n cap := by
  rcases h.2 with ⟨rfl, rfl⟩ | ⟨g, cap, cur, rfl, _⟩
  · exact ⟨_, _, rfl⟩
  · exact ⟨_, _, rfl⟩
theorem own_rd {w : World} {base n : Nat} {v : Value} {f : Nat → Int} {xs : List Value} (h : w.ownsRow base 5 1 v n xs) (hx : ∀ j, j < n → xs[j]? = some (.int .u8 (f j))) (hn : 0 < n) : ∃ g cap, v = .slice (some ⟨g, 0, none⟩) n cap ∧ base ≤ g ∧ Row8 w g n f := by
  rcases h.2 with ⟨_, h0⟩ | ⟨g, cap, cur, rfl, hg, _⟩
  · omega
  · refine ⟨g, cap, rfl, hg, (h.lt g rfl).2, fun j hj => ?_, fun j _ => h.frozenAt j⟩
    rw [h.cellAt j (by omega)]; exact hx j hj
theorem own_cap {w : World} {base n g cap : Nat} {xs : List Value} (h : w.ownsRow base 5 1 (.slice (some ⟨g, 0, none⟩) n cap) n xs) : n ≤ cap := by
  rcases h.2 with ⟨h1, _⟩ | ⟨g', cap', cur, h1, _, _, hle, _⟩
  · cases h1
  · cases h1; exact hle


theorem cells8_at (l : List Nat) (i : Nat) (h : i < l.length) : (cells8 l)[i]? = some (Value.int .u8 ((l.getD i 0 : Nat) : Int)) := by
  simp [cells8, h]
theorem getD_lt {l : List Nat} (h : ∀ x ∈ l, x < 256) (i : Nat) : l.getD i 0 < 256 := by
  rw [List.getD_eq_getElem?_getD]
  by_cases hi : i < l.length
  · rw [List.getElem?_eq_getElem hi]; exact h _ (List.getElem_mem hi)
  · rw [List.getElem?_eq_none (by omega)]; simp
theorem Rd.first {w : World} {b o n : Nat} {f : Nat → Int} (h : Rd w b o n f) (m : Nat) (hm : m ≤ n) : Rd w b o m f := ⟨fun i hi => h.c i (by omega)⟩
/-- A text's bytes, laid anew. -/
theorem rd_bytes (w : World) (s : ByteArray) (c : Nat) (z : Nat × Nat) : Rd (w.drew.alloc (.cells (bytesRow s c) 5 z)) w.heap.size 0 s.size (fun i => ((s.data.toList.getD i 0).toNat : Int)) := by
  refine ⟨fun i hi => ?_⟩
  have hb := bytesRow_at s c i hi
  have hh : (w.drew.alloc (.cells (bytesRow s c) 5 z)).heap[w.heap.size]? = some (.cells (bytesRow s c) 5 z) := by
    show (w.heap.push (.cells (bytesRow s c) 5 z))[w.heap.size]? = _
    simp
  have hg : s.data.toList.getD i 0 = s.data[i] := by
    rw [List.getD_eq_getElem?_getD, List.getElem?_eq_getElem (by simpa using hi)]
    rfl
  rw [Nat.zero_add, hg, ← hb]
  unfold World.cell?
  dsimp only
  rw [hh]
  first | rfl | simp
end Go.Proofs.YteplklbpehkdjaaDoor
