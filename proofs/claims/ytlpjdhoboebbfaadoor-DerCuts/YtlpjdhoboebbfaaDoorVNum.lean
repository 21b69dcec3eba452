/- Numbers of four words as they lie in memory. -/
import Derived.Test.YtlpjdhoboebbfaaDoorVWalk
import Derived.Test.YtlpjdhoboebbfaaDoorVT
import Derived.Test.YtlpjdhoboebbfaaDoorBase
namespace Go.Proofs.YtlpjdhoboebbfaaDoor
open Go.RowKit

/-- The words of a number. -/
def nc (a : Int) : List Value := [.int .u64 (L 0 a), .int .u64 (L 1 a), .int .u64 (L 2 a), .int .u64 (L 3 a)]
def nz : List Value := [.int .u64 0, .int .u64 0, .int .u64 0, .int .u64 0]
theorem nz_nc : nz = nc 0 := by kernel_rfl
/-- Numbers are held against each other. -/
theorem nc_eq {a b : Int} (ha : Num a) (hb : Num b) : (L 0 a == L 0 b && (L 1 a == L 1 b && (L 2 a == L 2 b && (L 3 a == L 3 b && true)))) = decide (a = b) := by
  by_cases h : a = b
  · subst h; simp
  · rw [decide_eq_false h]
    cases hh : (L 0 a == L 0 b && (L 1 a == L 1 b && (L 2 a == L 2 b && (L 3 a == L 3 b && true)))) with
    | false => rfl
    | true =>
      simp only [Bool.and_eq_true, beq_iff_eq, and_true] at hh
      exact absurd (num_ext ha hb hh.1 hh.2.1 hh.2.2.1 hh.2.2.2) h
theorem eq_nc {a b : Int} (ha : Num a) (hb : Num b) (w : World) : (Op.equalIn 10000 26 (.agg (nc a).toArray) (.agg (nc b).toArray)).run Tryd.prog w = .ok (decide (a = b)) w := by
  rw [← nc_eq ha hb]
  exact eq4 _ _ _ _ _ _ _ _ w
end Go.Proofs.YtlpjdhoboebbfaaDoor
