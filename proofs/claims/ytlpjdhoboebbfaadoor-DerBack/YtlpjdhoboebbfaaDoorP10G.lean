/- What slices.Grow answers of nothing: a row of one's own with no bytes. -/
import Derived.Test.YtlpjdhoboebbfaaDoorVQ7
namespace Go.Proofs.YtlpjdhoboebbfaaDoor
open Go.RowKit

theorem row_zero {w w' : World} {g cap : Nat} {cur : Array Value} (hg : w.heap.size ≤ g) (h : w'.heap[g]? = some (.cells cur 5 (0, 0))) (hc : cap ≤ maxLen) (hs : cur.size = cap * 1) : w'.ownsRow w.heap.size 5 1 (.slice (some ⟨g, 0, none⟩) 0 cap) 0 [] :=
  ⟨rfl, Or.inr ⟨g, cap, cur, rfl, hg, h, Nat.zero_le _, hc, hs, by simp⟩⟩
set_option maxHeartbeats 4000000 in
set_option maxRecDepth 100000 in
theorem grow_nil {k : Nat} (h0 : 0 < k) (hk : k ≤ 1000000) (w : World) : Calls Tryd.prog 23 #[.slice none 0 0, .int .i64 (k : Int)] w fun e w' => ∃ v, e = .returned v ∧ w'.ownsRow w.heap.size 5 1 v 0 (cells8 []) ∧ Below w.heap.size w w' := by
  obtain ⟨i0, hi, hz0, hz1, hz2⟩ := info_parts info8
  have h1 : ¬ ((k : Int) < 0) := by omega
  have h3 : wrap64 ((k : Int)) = (k : Int) := by unfold wrap64; omega
  have h4 : (k : Int) > 0 := by omega
  have hrz : ∀ ty, (Builtin.append_ #[22, 3] ty #[.slice none 0 0, .int .i64 (k : Int)]).run Tryd.prog w =
      .ok (.slice (some ⟨w.heap.size, 0, none⟩) (0 + k) (grownCap w (0 + k) 0 5)) (w.drew.alloc (.cells (([] : List Value).toArray ++ Builtin.zeroCells (Value.int .u8 0).cells k ++ Builtin.zeroCells (Value.int .u8 0).cells (grownCap w (0 + k) 0 5 - (0 + k))) 5)) := fun ty =>
    Lib.run_append_grow_zeros w 22 3 ty 5 i0 (.int .u8 0) .i64 .i64 Tryd.underlying22 Tryd.underlying3 hi hz0 none 0 0 [] (run_firstCells_none w.drew i0.size 0 0 0) k h0 (by rw [hz1]; decide) (by omega) (by omega) (by rw [hz2]; omega) (growslice_fits (by omega) (by rw [hz2]; omega))
  have hG63 : grownCap w (0 + k) 0 5 ≤ maxLen := grownCap_le_maxLen w (0 + k) 0 5 (by unfold maxLen; omega)
  have hGn : 0 + k ≤ grownCap w (0 + k) 0 5 := grownCap_ge w _ _ _
  obtain ⟨G, hG⟩ : ∃ G, G = grownCap w (0 + k) 0 5 := ⟨_, rfl⟩
  rw [← hG] at hrz hGn hG63
  have hsz : (([] : List Value).toArray ++ Builtin.zeroCells (Value.int .u8 0).cells k ++ Builtin.zeroCells (Value.int .u8 0).cells (G - (0 + k))).size = G * 1 := by
    simp [Builtin.zeroCells, Value.cells]
    omega
  obtain ⟨C, hC⟩ : ∃ C, C = (([] : List Value).toArray ++ Builtin.zeroCells (Value.int .u8 0).cells k ++ Builtin.zeroCells (Value.int .u8 0).cells (G - (0 + k))) := ⟨_, rfl⟩
  rw [← hC] at hrz hsz
  have hG64 : G ≤ 9223372036854775807 := by unfold maxLen at hG63; omega
  clear hC hG
  go_enter Tryd.func23, Tryd.ntmps23
  go_wp2_with (at_builtin; refine Lib.wpList_append_run _ rfl _ _ _ _ rfl _ _ rfl rfl _ _ (hrz _) ?_)
  all_goals
    go_ret
    exact ⟨_, rfl, row_zero (Nat.le_refl _) (Array.getElem?_push_size ..) hG63 hsz, Below.alloc (Below.refl _ w).drew (by simp) _⟩
end Go.Proofs.YtlpjdhoboebbfaaDoor
