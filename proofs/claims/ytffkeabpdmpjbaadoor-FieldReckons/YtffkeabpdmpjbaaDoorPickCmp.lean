/- What limb.Pick and limb.Cmp answer, for all numbers. -/
import Derived.Test.YtffkeabpdmpjbaaDoorAddSub
import Derived.BigQuiet
import Derived.Deep.QuietTactic
namespace Go.Proofs.YtffkeabpdmpjbaaDoor
open Go.RowKit
attribute [local go_sem ↓] Go.wp_at_zero Go.wp_at_succ

set_option maxHeartbeats 1000000 in
theorem pick_true (x0 x1 x2 x3 y0 y1 y2 y3 : Int) (w : World) :
    Calls Tryd.prog 27 #[.bool true, .agg #[.int .u64 x0, .int .u64 x1, .int .u64 x2, .int .u64 x3], .agg #[.int .u64 y0, .int .u64 y1, .int .u64 y2, .int .u64 y3]] w fun e w' =>
      e = .returned (.agg #[.int .u64 x0, .int .u64 x1, .int .u64 x2, .int .u64 x3]) ∧ Below w.heap.size w w' := by
  go_enter Tryd.func27, Tryd.ntmps27
  go_wp2
  go_returns
  refine ⟨rfl, ?_⟩
  go_grown
set_option maxHeartbeats 1000000 in
theorem pick_false (x0 x1 x2 x3 y0 y1 y2 y3 : Int) (w : World) :
    Calls Tryd.prog 27 #[.bool false, .agg #[.int .u64 x0, .int .u64 x1, .int .u64 x2, .int .u64 x3], .agg #[.int .u64 y0, .int .u64 y1, .int .u64 y2, .int .u64 y3]] w fun e w' =>
      e = .returned (.agg #[.int .u64 y0, .int .u64 y1, .int .u64 y2, .int .u64 y3]) ∧ Below w.heap.size w w' := by
  go_enter Tryd.func27, Tryd.ntmps27
  go_wp2
  go_returns
  refine ⟨rfl, ?_⟩
  go_grown


/-- Words are compared from the greatest down. -/
def cmpW (x0 x1 x2 x3 y0 y1 y2 y3 : Int) : Int :=
  if x3 < y3 then -1 else if y3 < x3 then 1 else if x2 < y2 then -1 else if y2 < x2 then 1 else if x1 < y1 then -1 else if y1 < x1 then 1 else if x0 < y0 then -1 else if y0 < x0 then 1 else 0

set_option maxHeartbeats 2000000 in
theorem cmp_walk (x0 x1 x2 x3 y0 y1 y2 y3 : Int) (w : World) :
    Calls Tryd.prog 35 #[.agg #[.int .u64 x0, .int .u64 x1, .int .u64 x2, .int .u64 x3], .agg #[.int .u64 y0, .int .u64 y1, .int .u64 y2, .int .u64 y3]] w fun e w' =>
      e = .returned (.int .i64 (cmpW x0 x1 x2 x3 y0 y1 y2 y3)) ∧ Below w.heap.size w w' := by
  go_enter Tryd.func35, Tryd.ntmps35
  go_wp2
  refine wp_loop_rounds 5 ?_
  rw [rounds_succ]
  go_wp2
  go_quiet (fail)
  go_wp2
  · go_ret
    exact ⟨ret_int (by unfold cmpW; (repeat' split) <;> omega), by repeat' (first | exact Below.refl _ _ | refine K.drewN ?_ _ | refine Below.drew ?_ | refine K.alloc ?_ _)⟩
  go_quiet (fail)
  go_wp2
  · go_ret
    exact ⟨ret_int (by unfold cmpW; (repeat' split) <;> omega), by repeat' (first | exact Below.refl _ _ | refine K.drewN ?_ _ | refine Below.drew ?_ | refine K.alloc ?_ _)⟩
  rw [rounds_succ]
  go_wp2
  go_quiet (fail)
  go_wp2
  · go_ret
    exact ⟨ret_int (by unfold cmpW; (repeat' split) <;> omega), by repeat' (first | exact Below.refl _ _ | refine K.drewN ?_ _ | refine Below.drew ?_ | refine K.alloc ?_ _)⟩
  go_quiet (fail)
  go_wp2
  · go_ret
    exact ⟨ret_int (by unfold cmpW; (repeat' split) <;> omega), by repeat' (first | exact Below.refl _ _ | refine K.drewN ?_ _ | refine Below.drew ?_ | refine K.alloc ?_ _)⟩
  rw [rounds_succ]
  go_wp2
  go_quiet (fail)
  go_wp2
  · go_ret
    exact ⟨ret_int (by unfold cmpW; (repeat' split) <;> omega), by repeat' (first | exact Below.refl _ _ | refine K.drewN ?_ _ | refine Below.drew ?_ | refine K.alloc ?_ _)⟩
  go_quiet (fail)
  go_wp2
  · go_ret
    exact ⟨ret_int (by unfold cmpW; (repeat' split) <;> omega), by repeat' (first | exact Below.refl _ _ | refine K.drewN ?_ _ | refine Below.drew ?_ | refine K.alloc ?_ _)⟩
  rw [rounds_succ]
  go_wp2
  go_quiet (fail)
  go_wp2
  · go_ret
    exact ⟨ret_int (by unfold cmpW; (repeat' split) <;> omega), by repeat' (first | exact Below.refl _ _ | refine K.drewN ?_ _ | refine Below.drew ?_ | refine K.alloc ?_ _)⟩
  go_quiet (fail)
  go_wp2
  · go_ret
    exact ⟨ret_int (by unfold cmpW; (repeat' split) <;> omega), by repeat' (first | exact Below.refl _ _ | refine K.drewN ?_ _ | refine Below.drew ?_ | refine K.alloc ?_ _)⟩
  rw [rounds_succ]
  go_wp2
  go_ret
  exact ⟨ret_int (by unfold cmpW; (repeat' split) <;> omega), by repeat' (first | exact Below.refl _ _ | refine K.drewN ?_ _ | refine Below.drew ?_ | refine K.alloc ?_ _)⟩
end Go.Proofs.YtffkeabpdmpjbaaDoor
