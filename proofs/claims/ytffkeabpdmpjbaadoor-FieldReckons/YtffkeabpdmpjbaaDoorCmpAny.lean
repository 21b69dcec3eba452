/- What limb.Cmp answers, told of numbers. -/
import Derived.Test.YtffkeabpdmpjbaaDoorPickCmp
namespace Go.Proofs.YtffkeabpdmpjbaaDoor
open Go.RowKit

def cmp (a b : Int) : Int := if a < b then -1 else if b < a then 1 else 0
theorem cmpW_eq {a b : Int} (ha : Num a) (hb : Num b) : cmpW (L 0 a) (L 1 a) (L 2 a) (L 3 a) (L 0 b) (L 1 b) (L 2 b) (L 3 b) = cmp a b := by
  obtain ⟨a1, a2⟩ := ha
  obtain ⟨b1, b2⟩ := hb
  rw [L0, L1, L2, L3, L0, L1, L2, L3]
  unfold cmpW cmp
  unfold M at *
  (repeat' split) <;> omega
theorem cmp_any {a b : Int} (ha : Num a) (hb : Num b) (w : World) :
    Calls Tryd.prog 35 #[.agg #[.int .u64 (L 0 a), .int .u64 (L 1 a), .int .u64 (L 2 a), .int .u64 (L 3 a)], .agg #[.int .u64 (L 0 b), .int .u64 (L 1 b), .int .u64 (L 2 b), .int .u64 (L 3 b)]] w fun e w' =>
      e = .returned (.int .i64 (cmp a b)) ∧ Below w.heap.size w w' := by
  rw [← cmpW_eq ha hb]; exact cmp_walk _ _ _ _ _ _ _ _ w
theorem cmp_lt {a b : Int} (h : a < b) : cmp a b = -1 := by unfold cmp; rw [if_pos h]
theorem cmp_gt {a b : Int} (h : b < a) : cmp a b = 1 := by unfold cmp; rw [if_neg (by omega), if_pos h]
theorem cmp_eq (a : Int) : cmp a a = 0 := by unfold cmp; simp
end Go.Proofs.YtffkeabpdmpjbaaDoor
