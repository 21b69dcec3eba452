/- What math/bits.LeadingZeros64 and Div64 answer at the greatest words of the moduli. -/
import Derived.Test.YtffkeabpdmpjbaaDoorBase
import Derived.Test.YtffkeabpdmpjbaaDoorMd
import Derived.Laws.MathBits
namespace Go.Proofs.YtffkeabpdmpjbaaDoor
open Go.RowKit
attribute [local go_sem ↓] Go.wp_at_zero Go.wp_at_succ

set_option maxRecDepth 100000 in
set_option maxHeartbeats 1000000 in
theorem lead_0 (w : World) : Calls Tryd.prog 45 #[.int .u64 18446744069414584321] w fun e w' => e = .returned (.int .i64 0) ∧ w' = w := by
  go_enter Tryd.func45, Tryd.ntmps45
  go_wp2
  go_ret
  exact ⟨by kernel_rfl, rfl⟩

set_option maxRecDepth 100000 in
set_option maxHeartbeats 1000000 in
theorem lead_1 (w : World) : Calls Tryd.prog 45 #[.int .u64 18446744069414584320] w fun e w' => e = .returned (.int .i64 0) ∧ w' = w := by
  go_enter Tryd.func45, Tryd.ntmps45
  go_wp2
  go_ret
  exact ⟨by kernel_rfl, rfl⟩

set_option maxRecDepth 100000 in
set_option maxHeartbeats 1000000 in
theorem lead_2 (w : World) : Calls Tryd.prog 45 #[.int .u64 9223372036854775807] w fun e w' => e = .returned (.int .i64 1) ∧ w' = w := by
  go_enter Tryd.func45, Tryd.ntmps45
  go_wp2
  go_ret
  exact ⟨by kernel_rfl, rfl⟩

set_option maxRecDepth 100000 in
set_option maxHeartbeats 1000000 in
theorem lead_3 (w : World) : Calls Tryd.prog 45 #[.int .u64 1152921504606846976] w fun e w' => e = .returned (.int .i64 3) ∧ w' = w := by
  go_enter Tryd.func45, Tryd.ntmps45
  go_wp2
  go_ret
  exact ⟨by kernel_rfl, rfl⟩
theorem or_apart (x d : Int) (s : Nat) (hx : 0 ≤ x) (hd : 0 ≤ d) (hd2 : d < 2 ^ s) (h : x * 2 ^ s + d < 18446744073709551616) : bits .or .u64 (x * 2 ^ s) d = x * 2 ^ s + d := by
  obtain ⟨x, rfl⟩ := Int.eq_ofNat_of_zero_le hx
  obtain ⟨d, rfl⟩ := Int.eq_ofNat_of_zero_le hd
  have hd3 : d < 2 ^ s := by exact_mod_cast hd2
  have e : ((x : Int) * 2 ^ s) = ((x * 2 ^ s : Nat) : Int) := by simp
  rw [e] at h ⊢
  have h3 : x * 2 ^ s + d < 18446744073709551616 := by omega
  rw [u64_or_nat _ _ (by omega) (by omega), Nat.mul_comm, ← Nat.two_pow_add_eq_or_of_lt hd3]
  simp
theorem or_nothing (x : Int) (hx : 0 ≤ x) (h : x < 18446744073709551616) : bits .or .u64 x 0 = x := by
  obtain ⟨x, rfl⟩ := Int.eq_ofNat_of_zero_le hx
  have := u64_or_nat x 0 (by omega) (by omega)
  rwa [Nat.or_zero] at this
theorem tdiv_pos {u y : Int} (hu : 0 ≤ u) : u.tdiv y = u / y := Int.tdiv_eq_ediv_of_nonneg hu
end Go.Proofs.YtffkeabpdmpjbaaDoor
