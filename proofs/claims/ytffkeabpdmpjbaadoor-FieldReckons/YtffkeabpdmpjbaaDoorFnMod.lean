/- What field.Modulus answers. -/
import Derived.Test.YtffkeabpdmpjbaaDoorFld
namespace Go.Proofs.YtffkeabpdmpjbaaDoor
open Go.RowKit
attribute [local go_sem ↓] Go.wp_at_zero Go.wp_at_succ

set_option maxHeartbeats 1000000 in
theorem f_mod (k : Int) {w : World} (hT : Tab w) : Calls Tryd.prog 6 #[.int .i64 k] w fun e w' => e = .returned (.agg #[.int .u64 (L 0 (md k)), .int .u64 (L 1 (md k)), .int .u64 (L 2 (md k)), .int .u64 (L 3 (md k))]) ∧ Below w.heap.size w w' := by
  go_enter Tryd.func6, Tryd.ntmps6
  go_wp2_with fail
  with_reducible refine Calls.mono (modOf_any k (hT.keep (K.alloc (Below.refl _ _) _))) ?_
  rintro e w1 ⟨rfl, hb1⟩
  have ⟨kr, kr0, kr1, kr2, kr3, kf0, kf1, kf2, kf3⟩ := (ArrW.new w w.heap.size rfl 24 0 0 0 0).keep hb1
  have hw1 : Below w.heap.size w w1 := K.call (K.alloc (Below.refl _ w) _) hb1
  go_wp2_with fail
  exact bodyPost_ret (v := .agg #[.int .u64 (L 0 (md k)), .int .u64 (L 1 (md k)), .int .u64 (L 2 (md k)), .int .u64 (L 3 (md k))]) (by simp [results, Tryd.results6, go_sem, kr0, kr1, kr2, kr3]) rfl ⟨rfl, K.set4 hw1 (by omega) _ _ _ _⟩
end Go.Proofs.YtffkeabpdmpjbaaDoor
