/- What math/bits.Mul64 and limb.mulAdd answer: the two words of the product, and of the product and two words more. -/
import Derived.Test.YtffkeabpdmpjbaaDoorAddSub
import Derived.WalkSmall
import Derived.Laws.MathBits
import Derived.Laws.BitsAllLaws
namespace Go.Proofs.YtffkeabpdmpjbaaDoor
open Go.RowKit
attribute [local go_sem ↓] Go.wp_at_zero Go.wp_at_succ

set_option maxHeartbeats 2000000 in
theorem mul64_any (x y : Int) (hx : 0 ≤ x) (hx2 : x < 18446744073709551616) (hy : 0 ≤ y) (hy2 : y < 18446744073709551616) (w : World) :
    Calls Tryd.prog 43 #[.int .u64 x, .int .u64 y] w fun e w' => e = .returned (.tuple #[.int .u64 (x * y / 18446744073709551616), .int .u64 (x * y % 18446744073709551616)]) ∧ w' = w := by
  go_enter Tryd.func43, Tryd.ntmps43
  go_wp2
  go_ret2
  refine ⟨?_, rfl⟩
  rw [and_low32 x hx hx2, and_low32 y hy hy2]
  simp only [IntKind.wrap_u64]
  rw [and_low32 _ (Int.emod_nonneg _ (by omega)) (Int.emod_lt_of_pos _ (by omega)), mul64_arith x y hx hx2 hy hy2]
  rfl

theorem prod_le (x y : Int) (hx : 0 ≤ x) (hx2 : x < 18446744073709551616) (hy : 0 ≤ y) (hy2 : y < 18446744073709551616) : 0 ≤ x * y ∧ x * y ≤ 340282366920938463426481119284349108225 := by
  refine ⟨Int.mul_nonneg hx hy, ?_⟩
  have h := Int.mul_le_mul (show x ≤ 18446744073709551615 by omega) (show y ≤ 18446744073709551615 by omega) hy (by omega)
  omega
theorem add64_z (x y : Int) (hx : 0 ≤ x) (hy : 0 ≤ y) (w : World) : (callFunc 36 #[.int .u64 x, .int .u64 y, .int .u64 0]).run Tryd.prog w =
    .ok (.value (.tuple #[.int .u64 ((x + y) % 18446744073709551616), .int .u64 ((x + y) / 18446744073709551616)])) w := by
  have := add64 x y 0 hx hy (by omega) (by omega) w
  rwa [Int.add_zero] at this
/-- The upper word of a product and two words more. -/
def hiW (x y c d : Int) : Int := (x * y + c + d) / 18446744073709551616
/-- The lower word. -/
def loW (x y c d : Int) : Int := (x * y + c + d) % 18446744073709551616
def mHi (x y : Int) : Int := x * y / 18446744073709551616
def mLo (x y : Int) : Int := x * y % 18446744073709551616
def t1 (x y c : Int) : Int := (mLo x y + c) % 18446744073709551616
def u1 (x y c : Int) : Int := (mLo x y + c) / 18446744073709551616
def u2 (x y c d : Int) : Int := (t1 x y c + d) / 18446744073709551616
theorem t2_eq (x y c d : Int) : (t1 x y c + d) % 18446744073709551616 = loW x y c d := by
  unfold t1 mLo loW
  generalize x * y = p
  omega
theorem hi_eq (x y c d : Int) (hx : 0 ≤ x) (hx2 : x < 18446744073709551616) (hy : 0 ≤ y) (hy2 : y < 18446744073709551616) (hc : 0 ≤ c) (hc2 : c < 18446744073709551616) (hd : 0 ≤ d) (hd2 : d < 18446744073709551616) :
    IntKind.u64.wrap (IntKind.u64.wrap (mHi x y + u1 x y c) + u2 x y c d) = hiW x y c d := by
  obtain ⟨p1, p2⟩ := prod_le x y hx hx2 hy hy2
  unfold hiW u2 u1 t1 mHi mLo
  simp only [IntKind.wrap_u64]
  generalize x * y = p at *
  omega
theorem mul64_told (x y : Int) (hx : 0 ≤ x) (hx2 : x < 18446744073709551616) (hy : 0 ≤ y) (hy2 : y < 18446744073709551616) (w : World) :
    Calls Tryd.prog 43 #[.int .u64 x, .int .u64 y] w fun e w' => e = .returned (.tuple #[.int .u64 (mHi x y), .int .u64 (mLo x y)]) ∧ w' = w := mul64_any x y hx hx2 hy hy2 w
theorem add64_t1 (x y c : Int) (hc : 0 ≤ c) (w : World) : (callFunc 36 #[.int .u64 (mLo x y), .int .u64 c, .int .u64 0]).run Tryd.prog w =
    .ok (.value (.tuple #[.int .u64 (t1 x y c), .int .u64 (u1 x y c)])) w := add64_z _ _ (by unfold mLo; omega) hc w
theorem add64_t2 (x y c d : Int) (hd : 0 ≤ d) (w : World) : (callFunc 36 #[.int .u64 (t1 x y c), .int .u64 d, .int .u64 0]).run Tryd.prog w =
    .ok (.value (.tuple #[.int .u64 (loW x y c d), .int .u64 (u2 x y c d)])) w := by
  rw [← t2_eq]; exact add64_z _ _ (by unfold t1; omega) hd w
theorem hiW_lo (x y c d : Int) (hx : 0 ≤ x) (hy : 0 ≤ y) (hc : 0 ≤ c) (hd : 0 ≤ d) : 0 ≤ hiW x y c d := by
  have := Int.mul_nonneg hx hy
  unfold hiW
  generalize x * y = p at *
  omega
theorem hiW_hi (x y c d : Int) (hx : 0 ≤ x) (hx2 : x < 18446744073709551616) (hy : 0 ≤ y) (hy2 : y < 18446744073709551616) (hc2 : c < 18446744073709551616) (hd2 : d < 18446744073709551616) : hiW x y c d < 18446744073709551616 := by
  obtain ⟨p1, p2⟩ := prod_le x y hx hx2 hy hy2
  unfold hiW
  generalize x * y = p at *
  omega
theorem loW_lo (x y c d : Int) : 0 ≤ loW x y c d := by unfold loW; omega
theorem loW_hi (x y c d : Int) : loW x y c d < 18446744073709551616 := by unfold loW; omega
theorem hilo (x y c d : Int) : hiW x y c d * 18446744073709551616 + loW x y c d = x * y + c + d := by unfold hiW loW; omega

set_option maxHeartbeats 2000000 in
theorem mulAdd_any (x y c d : Int) (hx : 0 ≤ x) (hx2 : x < 18446744073709551616) (hy : 0 ≤ y) (hy2 : y < 18446744073709551616) (hc : 0 ≤ c) (hc2 : c < 18446744073709551616) (hd : 0 ≤ d) (hd2 : d < 18446744073709551616) (w : World) :
    Calls Tryd.prog 41 #[.int .u64 x, .int .u64 y, .int .u64 c, .int .u64 d] w fun e w' => e = .returned (.tuple #[.int .u64 (hiW x y c d), .int .u64 (loW x y c d)]) ∧ w' = w := by
  have F1 := hi_eq x y c d hx hx2 hy hy2 hc hc2 hd hd2
  go_enter Tryd.func41, Tryd.ntmps41
  go_wp2_with (first | (go_at_call 43; with_reducible refine Calls.mono (mul64_told x y hx hx2 hy hy2 _) ?_; rintro e w' ⟨rfl, rfl⟩) | simp only [add64_t1 x y c hc] | simp only [add64_t2 x y c d hd])
  go_ret2
  exact ⟨rfl, rfl⟩
end Go.Proofs.YtffkeabpdmpjbaaDoor
