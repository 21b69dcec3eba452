/- What limb.Cmp answers. -/
import Derived.Test.YtnfgkflhanjjcaaDoorBase
namespace Go.Proofs.YtnfgkflhanjjcaaDoor
open Go.RowKit
attribute [local go_sem ↓] Go.wp_at_zero Go.wp_at_succ

/-- Words are compared from the greatest down. -/
def cmpW (x0 x1 x2 x3 y0 y1 y2 y3 : Int) : Int :=
  if x3 < y3 then -1 else if y3 < x3 then 1 else if x2 < y2 then -1 else if y2 < x2 then 1 else if x1 < y1 then -1 else if y1 < x1 then 1 else if x0 < y0 then -1 else if y0 < x0 then 1 else 0

set_option maxHeartbeats 2000000 in
theorem cmp_walk (x0 x1 x2 x3 y0 y1 y2 y3 : Int) (w : World) :
    Calls Tryd.prog 14 #[.agg #[.int .u64 x0, .int .u64 x1, .int .u64 x2, .int .u64 x3], .agg #[.int .u64 y0, .int .u64 y1, .int .u64 y2, .int .u64 y3]] w fun e w' =>
      e = .returned (.int .i64 (cmpW x0 x1 x2 x3 y0 y1 y2 y3)) ∧ Below w.heap.size w w' := by
  go_enter Tryd.func14, Tryd.ntmps14
  go_wp2
  refine wp_loop_rounds 5 ?_
  rw [rounds_succ]
  go_wp2
  go_quiet (fail)
  go_wp2
  · go_ret
    exact ⟨ret_int (by unfold cmpW; (repeat' split) <;> omega), by repeat' (first | exact Below.refl _ _ | refine K.drewN ?_ _ | refine Below.drew ?_ | refine K.alloc ?_ _)⟩
  go_quiet (fail)
  go_wp2
  · go_ret
    exact ⟨ret_int (by unfold cmpW; (repeat' split) <;> omega), by repeat' (first | exact Below.refl _ _ | refine K.drewN ?_ _ | refine Below.drew ?_ | refine K.alloc ?_ _)⟩
  rw [rounds_succ]
  go_wp2
  go_quiet (fail)
  go_wp2
  · go_ret
    exact ⟨ret_int (by unfold cmpW; (repeat' split) <;> omega), by repeat' (first | exact Below.refl _ _ | refine K.drewN ?_ _ | refine Below.drew ?_ | refine K.alloc ?_ _)⟩
  go_quiet (fail)
  go_wp2
  · go_ret
    exact ⟨ret_int (by unfold cmpW; (repeat' split) <;> omega), by repeat' (first | exact Below.refl _ _ | refine K.drewN ?_ _ | refine Below.drew ?_ | refine K.alloc ?_ _)⟩
  rw [rounds_succ]
  go_wp2
  go_quiet (fail)
  go_wp2
  · go_ret
    exact ⟨ret_int (by unfold cmpW; (repeat' split) <;> omega), by repeat' (first | exact Below.refl _ _ | refine K.drewN ?_ _ | refine Below.drew ?_ | refine K.alloc ?_ _)⟩
  go_quiet (fail)
  go_wp2
  · go_ret
    exact ⟨ret_int (by unfold cmpW; (repeat' split) <;> omega), by repeat' (first | exact Below.refl _ _ | refine K.drewN ?_ _ | refine Below.drew ?_ | refine K.alloc ?_ _)⟩
  rw [rounds_succ]
  go_wp2
  go_quiet (fail)
  go_wp2
  · go_ret
    exact ⟨ret_int (by unfold cmpW; (repeat' split) <;> omega), by repeat' (first | exact Below.refl _ _ | refine K.drewN ?_ _ | refine Below.drew ?_ | refine K.alloc ?_ _)⟩
  go_quiet (fail)
  go_wp2
  · go_ret
    exact ⟨ret_int (by unfold cmpW; (repeat' split) <;> omega), by repeat' (first | exact Below.refl _ _ | refine K.drewN ?_ _ | refine Below.drew ?_ | refine K.alloc ?_ _)⟩
  rw [rounds_succ]
  go_wp2
  go_ret
  exact ⟨ret_int (by unfold cmpW; (repeat' split) <;> omega), by repeat' (first | exact Below.refl _ _ | refine K.drewN ?_ _ | refine Below.drew ?_ | refine K.alloc ?_ _)⟩
def cmp (a b : Int) : Int := if a < b then -1 else if b < a then 1 else 0
theorem cmpW_eq {a b : Int} (ha : Num a) (hb : Num b) : cmpW (L 0 a) (L 1 a) (L 2 a) (L 3 a) (L 0 b) (L 1 b) (L 2 b) (L 3 b) = cmp a b := by
  obtain ⟨a1, a2⟩ := ha
  obtain ⟨b1, b2⟩ := hb
  rw [L0, L1, L2, L3, L0, L1, L2, L3]
  unfold cmpW cmp
  unfold M at *
  (repeat' split) <;> omega
theorem cmp_any {a b : Int} (ha : Num a) (hb : Num b) (w : World) :
    Calls Tryd.prog 14 #[.agg #[.int .u64 (L 0 a), .int .u64 (L 1 a), .int .u64 (L 2 a), .int .u64 (L 3 a)], .agg #[.int .u64 (L 0 b), .int .u64 (L 1 b), .int .u64 (L 2 b), .int .u64 (L 3 b)]] w fun e w' =>
      e = .returned (.int .i64 (cmp a b)) ∧ Below w.heap.size w w' := by
  rw [← cmpW_eq ha hb]; exact cmp_walk _ _ _ _ _ _ _ _ w
theorem cmp_lt {a b : Int} (h : a < b) : cmp a b = -1 := by unfold cmp; rw [if_pos h]
theorem cmp_gt {a b : Int} (h : b < a) : cmp a b = 1 := by unfold cmp; rw [if_neg (by omega), if_pos h]
theorem cmp_eq (a : Int) : cmp a a = 0 := by unfold cmp; simp
end Go.Proofs.YtnfgkflhanjjcaaDoor
