/- What the document's own Less answers, for all numbers. -/
import Derived.Test.YtffkeabpdmpjbaaDoorBase
namespace Go.Proofs.YtffkeabpdmpjbaaDoor
open Go.RowKit
attribute [local go_sem ↓] Go.wp_at_zero Go.wp_at_succ

def lessW (x0 x1 x2 x3 y0 y1 y2 y3 : Int) : Bool :=
  if x3 = y3 then if x2 = y2 then if x1 = y1 then if x0 = y0 then false else decide (x0 < y0) else decide (x1 < y1) else decide (x2 < y2) else decide (x3 < y3)

set_option maxHeartbeats 2000000 in
theorem less_walk (x0 x1 x2 x3 y0 y1 y2 y3 : Int) (w : World) :
    Calls Tryd.prog 23 #[.agg #[.int .u64 x0, .int .u64 x1, .int .u64 x2, .int .u64 x3], .agg #[.int .u64 y0, .int .u64 y1, .int .u64 y2, .int .u64 y3]] w fun e w' => e = .returned (.bool (lessW x0 x1 x2 x3 y0 y1 y2 y3)) ∧ Below w.heap.size w w' := by
  go_enter Tryd.func23, Tryd.ntmps23
  go_wp2
  refine wp_loop_rounds 5 ?_
  by_cases g3 : x3 = y3
  case neg =>
    have b3 : (x3 == y3) = false := by simpa using g3
    have n3 : (x3 != y3) = true := by simpa using g3
    rw [rounds_succ]
    go_wp2
    go_quiet (fail)
    go_wp2
    go_quiet (fail)
    go_wp2
    go_ret
    refine ⟨ret_bool (by unfold lessW; simp [*]), ?_⟩
    repeat' (first | (with_reducible exact Below.refl _ _) | (with_reducible refine K.drewN ?_ _) | (with_reducible refine K.drew ?_) | (with_reducible refine K.alloc ?_ _) | (with_reducible refine K.set ?_ ?_ _) | (simp; done) | (simp; omega))
  subst g3
  rw [rounds_succ]
  go_wp2
  go_quiet (fail)
  go_wp2
  by_cases g2 : x2 = y2
  case neg =>
    have b2 : (x2 == y2) = false := by simpa using g2
    have n2 : (x2 != y2) = true := by simpa using g2
    rw [rounds_succ]
    go_wp2
    go_quiet (fail)
    go_wp2
    go_quiet (fail)
    go_wp2
    go_ret
    refine ⟨ret_bool (by unfold lessW; simp [*]), ?_⟩
    repeat' (first | (with_reducible exact Below.refl _ _) | (with_reducible refine K.drewN ?_ _) | (with_reducible refine K.drew ?_) | (with_reducible refine K.alloc ?_ _) | (with_reducible refine K.set ?_ ?_ _) | (simp; done) | (simp; omega))
  subst g2
  rw [rounds_succ]
  go_wp2
  go_quiet (fail)
  go_wp2
  by_cases g1 : x1 = y1
  case neg =>
    have b1 : (x1 == y1) = false := by simpa using g1
    have n1 : (x1 != y1) = true := by simpa using g1
    rw [rounds_succ]
    go_wp2
    go_quiet (fail)
    go_wp2
    go_quiet (fail)
    go_wp2
    go_ret
    refine ⟨ret_bool (by unfold lessW; simp [*]), ?_⟩
    repeat' (first | (with_reducible exact Below.refl _ _) | (with_reducible refine K.drewN ?_ _) | (with_reducible refine K.drew ?_) | (with_reducible refine K.alloc ?_ _) | (with_reducible refine K.set ?_ ?_ _) | (simp; done) | (simp; omega))
  subst g1
  rw [rounds_succ]
  go_wp2
  go_quiet (fail)
  go_wp2
  by_cases g0 : x0 = y0
  case neg =>
    have b0 : (x0 == y0) = false := by simpa using g0
    have n0 : (x0 != y0) = true := by simpa using g0
    rw [rounds_succ]
    go_wp2
    go_quiet (fail)
    go_wp2
    go_quiet (fail)
    go_wp2
    go_ret
    refine ⟨ret_bool (by unfold lessW; simp [*]), ?_⟩
    repeat' (first | (with_reducible exact Below.refl _ _) | (with_reducible refine K.drewN ?_ _) | (with_reducible refine K.drew ?_) | (with_reducible refine K.alloc ?_ _) | (with_reducible refine K.set ?_ ?_ _) | (simp; done) | (simp; omega))
  subst g0
  rw [rounds_succ]
  go_wp2
  go_quiet (fail)
  go_wp2
  rw [rounds_succ]
  go_wp2
  go_ret
  refine ⟨ret_bool (by unfold lessW; simp), ?_⟩
  repeat' (first | (with_reducible exact Below.refl _ _) | (with_reducible refine K.drewN ?_ _) | (with_reducible refine K.drew ?_) | (with_reducible refine K.alloc ?_ _) | (with_reducible refine K.set ?_ ?_ _) | (simp; done) | (simp; omega))

theorem lessW_eq {a b : Int} (ha : Num a) (hb : Num b) : lessW (L 0 a) (L 1 a) (L 2 a) (L 3 a) (L 0 b) (L 1 b) (L 2 b) (L 3 b) = decide (a < b) := by
  obtain ⟨a1, a2⟩ := ha
  obtain ⟨b1, b2⟩ := hb
  rw [L0, L1, L2, L3, L0, L1, L2, L3]
  unfold lessW
  unfold M at *
  (repeat' split) <;> (first | (symm; rw [decide_eq_false_iff_not]; omega) | (rw [decide_eq_decide]; omega))
theorem less_any {a b : Int} (ha : Num a) (hb : Num b) (w : World) :
    Calls Tryd.prog 23 #[.agg #[.int .u64 (L 0 a), .int .u64 (L 1 a), .int .u64 (L 2 a), .int .u64 (L 3 a)], .agg #[.int .u64 (L 0 b), .int .u64 (L 1 b), .int .u64 (L 2 b), .int .u64 (L 3 b)]] w fun e w' => e = .returned (.bool (decide (a < b))) ∧ Below w.heap.size w w' := by
  rw [← lessW_eq ha hb]; exact less_walk _ _ _ _ _ _ _ _ w
theorem less_true {a b : Int} (ha : Num a) (hb : Num b) (h : a < b) (w : World) :
    Calls Tryd.prog 23 #[.agg #[.int .u64 (L 0 a), .int .u64 (L 1 a), .int .u64 (L 2 a), .int .u64 (L 3 a)], .agg #[.int .u64 (L 0 b), .int .u64 (L 1 b), .int .u64 (L 2 b), .int .u64 (L 3 b)]] w fun e w' => e = .returned (.bool true) ∧ Below w.heap.size w w' := by
  have g := less_any ha hb w
  rw [decide_eq_true h] at g
  exact g
theorem less_false {a b : Int} (ha : Num a) (hb : Num b) (h : ¬ a < b) (w : World) :
    Calls Tryd.prog 23 #[.agg #[.int .u64 (L 0 a), .int .u64 (L 1 a), .int .u64 (L 2 a), .int .u64 (L 3 a)], .agg #[.int .u64 (L 0 b), .int .u64 (L 1 b), .int .u64 (L 2 b), .int .u64 (L 3 b)]] w fun e w' => e = .returned (.bool false) ∧ Below w.heap.size w w' := by
  have g := less_any ha hb w
  rw [decide_eq_false h] at g
  exact g

end Go.Proofs.YtffkeabpdmpjbaaDoor
