/- What the program's guess answers, and how near it comes. -/
import Derived.Test.YtffkeabpdmpjbaaDoorDiv0
import Derived.Test.YtffkeabpdmpjbaaDoorDiv1
import Derived.Test.YtffkeabpdmpjbaaDoorDiv2
import Derived.Test.YtffkeabpdmpjbaaDoorDiv3
namespace Go.Proofs.YtffkeabpdmpjbaaDoor
open Go.RowKit
attribute [local go_sem ↓] Go.wp_at_zero Go.wp_at_succ

/-- The digit that is guessed. -/
def gs (k x3 x2 : Int) : Int := if L 3 (md k) ≤ x3 then 18446744073709551615 else (x3 * 18446744073709551616 + x2) / L 3 (md k)

set_option maxHeartbeats 2000000 in
theorem div_0_none (lo : Int) (l0 : 0 ≤ lo) (l1 : lo < 18446744073709551616) (w : World) :
    Calls Tryd.prog 44 #[.int .u64 0, .int .u64 lo, .int .u64 18446744069414584321] w fun e w' => ∃ r, e = .returned (.tuple #[.int .u64 ((0 * 18446744073709551616 + lo) / 18446744069414584321), .int .u64 r]) ∧ Below w.heap.size w w' := by
  rw [show 0 * 18446744073709551616 + lo = lo by omega]
  go_enter Tryd.func44, Tryd.ntmps44
  go_wp2
  go_quiet (fail)
  go_wp2
  go_ret2
  exact ⟨_, rfl, by repeat' (first | exact Below.refl _ _ | refine K.drewN ?_ _ | refine Below.drew ?_)⟩
theorem div_0 (hi lo : Int) (h0 : 0 ≤ hi) (h1 : hi < 18446744069414584321) (l0 : 0 ≤ lo) (l1 : lo < 18446744073709551616) (w : World) :
    Calls Tryd.prog 44 #[.int .u64 hi, .int .u64 lo, .int .u64 18446744069414584321] w fun e w' => ∃ r, e = .returned (.tuple #[.int .u64 ((hi * 18446744073709551616 + lo) / 18446744069414584321), .int .u64 r]) ∧ Below w.heap.size w w' := by
  by_cases h : hi = 0
  · subst h; exact div_0_none lo l0 l1 w
  · refine (div_0_main hi lo (by omega) h1 l0 l1 w).mono ?_
    rintro e w' ⟨r, rfl, rfl⟩
    exact ⟨r, rfl, Below.refl _ _⟩
set_option maxHeartbeats 2000000 in
theorem guess_0 (x0 x1 x2 x3 : Int) (a0 : 0 ≤ x2) (a1 : x2 < 18446744073709551616) (b0 : 0 ≤ x3) (w : World) :
    Calls Tryd.prog 42 #[.agg #[.int .u64 (L 0 (md 0)), .int .u64 (L 1 (md 0)), .int .u64 (L 2 (md 0)), .int .u64 (L 3 (md 0))], .agg #[.int .u64 x0, .int .u64 x1, .int .u64 x2, .int .u64 x3]] w fun e w' => e = .returned (.int .u64 (gs 0 x3 x2)) ∧ Below w.heap.size w w' := by
  unfold gs
  rw [md_0_3]
  by_cases h : 18446744069414584321 ≤ x3
  · rw [if_pos h]
    go_enter Tryd.func42, Tryd.ntmps42
    go_wp2
    go_ret
    refine ⟨rfl, ?_⟩
    go_grown
  · rw [if_neg h]
    go_enter Tryd.func42, Tryd.ntmps42
    go_wp2_with (go_at_call 44; with_reducible refine Calls.mono (div_0 x3 x2 b0 (by omega) a0 a1 _) ?_; rintro e w' ⟨r, rfl, hk⟩)
    go_ret
    exact ⟨rfl, K.call (K.alloc (K.alloc (Below.refl _ _) _) _) hk⟩

set_option maxHeartbeats 2000000 in
theorem div_1_none (lo : Int) (l0 : 0 ≤ lo) (l1 : lo < 18446744073709551616) (w : World) :
    Calls Tryd.prog 44 #[.int .u64 0, .int .u64 lo, .int .u64 18446744069414584320] w fun e w' => ∃ r, e = .returned (.tuple #[.int .u64 ((0 * 18446744073709551616 + lo) / 18446744069414584320), .int .u64 r]) ∧ Below w.heap.size w w' := by
  rw [show 0 * 18446744073709551616 + lo = lo by omega]
  go_enter Tryd.func44, Tryd.ntmps44
  go_wp2
  go_quiet (fail)
  go_wp2
  go_ret2
  exact ⟨_, rfl, by repeat' (first | exact Below.refl _ _ | refine K.drewN ?_ _ | refine Below.drew ?_)⟩
theorem div_1 (hi lo : Int) (h0 : 0 ≤ hi) (h1 : hi < 18446744069414584320) (l0 : 0 ≤ lo) (l1 : lo < 18446744073709551616) (w : World) :
    Calls Tryd.prog 44 #[.int .u64 hi, .int .u64 lo, .int .u64 18446744069414584320] w fun e w' => ∃ r, e = .returned (.tuple #[.int .u64 ((hi * 18446744073709551616 + lo) / 18446744069414584320), .int .u64 r]) ∧ Below w.heap.size w w' := by
  by_cases h : hi = 0
  · subst h; exact div_1_none lo l0 l1 w
  · refine (div_1_main hi lo (by omega) h1 l0 l1 w).mono ?_
    rintro e w' ⟨r, rfl, rfl⟩
    exact ⟨r, rfl, Below.refl _ _⟩
set_option maxHeartbeats 2000000 in
theorem guess_1 (x0 x1 x2 x3 : Int) (a0 : 0 ≤ x2) (a1 : x2 < 18446744073709551616) (b0 : 0 ≤ x3) (w : World) :
    Calls Tryd.prog 42 #[.agg #[.int .u64 (L 0 (md 1)), .int .u64 (L 1 (md 1)), .int .u64 (L 2 (md 1)), .int .u64 (L 3 (md 1))], .agg #[.int .u64 x0, .int .u64 x1, .int .u64 x2, .int .u64 x3]] w fun e w' => e = .returned (.int .u64 (gs 1 x3 x2)) ∧ Below w.heap.size w w' := by
  unfold gs
  rw [md_1_3]
  by_cases h : 18446744069414584320 ≤ x3
  · rw [if_pos h]
    go_enter Tryd.func42, Tryd.ntmps42
    go_wp2
    go_ret
    refine ⟨rfl, ?_⟩
    go_grown
  · rw [if_neg h]
    go_enter Tryd.func42, Tryd.ntmps42
    go_wp2_with (go_at_call 44; with_reducible refine Calls.mono (div_1 x3 x2 b0 (by omega) a0 a1 _) ?_; rintro e w' ⟨r, rfl, hk⟩)
    go_ret
    exact ⟨rfl, K.call (K.alloc (K.alloc (Below.refl _ _) _) _) hk⟩

set_option maxHeartbeats 2000000 in
theorem div_2_none (lo : Int) (l0 : 0 ≤ lo) (l1 : lo < 18446744073709551616) (w : World) :
    Calls Tryd.prog 44 #[.int .u64 0, .int .u64 lo, .int .u64 9223372036854775807] w fun e w' => ∃ r, e = .returned (.tuple #[.int .u64 ((0 * 18446744073709551616 + lo) / 9223372036854775807), .int .u64 r]) ∧ Below w.heap.size w w' := by
  rw [show 0 * 18446744073709551616 + lo = lo by omega]
  go_enter Tryd.func44, Tryd.ntmps44
  go_wp2
  go_quiet (fail)
  go_wp2
  go_ret2
  exact ⟨_, rfl, by repeat' (first | exact Below.refl _ _ | refine K.drewN ?_ _ | refine Below.drew ?_)⟩
theorem div_2 (hi lo : Int) (h0 : 0 ≤ hi) (h1 : hi < 9223372036854775807) (l0 : 0 ≤ lo) (l1 : lo < 18446744073709551616) (w : World) :
    Calls Tryd.prog 44 #[.int .u64 hi, .int .u64 lo, .int .u64 9223372036854775807] w fun e w' => ∃ r, e = .returned (.tuple #[.int .u64 ((hi * 18446744073709551616 + lo) / 9223372036854775807), .int .u64 r]) ∧ Below w.heap.size w w' := by
  by_cases h : hi = 0
  · subst h; exact div_2_none lo l0 l1 w
  · refine (div_2_main hi lo (by omega) h1 l0 l1 w).mono ?_
    rintro e w' ⟨r, rfl, rfl⟩
    exact ⟨r, rfl, Below.refl _ _⟩
set_option maxHeartbeats 2000000 in
theorem guess_2 (x0 x1 x2 x3 : Int) (a0 : 0 ≤ x2) (a1 : x2 < 18446744073709551616) (b0 : 0 ≤ x3) (w : World) :
    Calls Tryd.prog 42 #[.agg #[.int .u64 (L 0 (md 2)), .int .u64 (L 1 (md 2)), .int .u64 (L 2 (md 2)), .int .u64 (L 3 (md 2))], .agg #[.int .u64 x0, .int .u64 x1, .int .u64 x2, .int .u64 x3]] w fun e w' => e = .returned (.int .u64 (gs 2 x3 x2)) ∧ Below w.heap.size w w' := by
  unfold gs
  rw [md_2_3]
  by_cases h : 9223372036854775807 ≤ x3
  · rw [if_pos h]
    go_enter Tryd.func42, Tryd.ntmps42
    go_wp2
    go_ret
    refine ⟨rfl, ?_⟩
    go_grown
  · rw [if_neg h]
    go_enter Tryd.func42, Tryd.ntmps42
    go_wp2_with (go_at_call 44; with_reducible refine Calls.mono (div_2 x3 x2 b0 (by omega) a0 a1 _) ?_; rintro e w' ⟨r, rfl, hk⟩)
    go_ret
    exact ⟨rfl, K.call (K.alloc (K.alloc (Below.refl _ _) _) _) hk⟩

set_option maxHeartbeats 2000000 in
theorem div_3_none (lo : Int) (l0 : 0 ≤ lo) (l1 : lo < 18446744073709551616) (w : World) :
    Calls Tryd.prog 44 #[.int .u64 0, .int .u64 lo, .int .u64 1152921504606846976] w fun e w' => ∃ r, e = .returned (.tuple #[.int .u64 ((0 * 18446744073709551616 + lo) / 1152921504606846976), .int .u64 r]) ∧ Below w.heap.size w w' := by
  rw [show 0 * 18446744073709551616 + lo = lo by omega]
  go_enter Tryd.func44, Tryd.ntmps44
  go_wp2
  go_quiet (fail)
  go_wp2
  go_ret2
  exact ⟨_, rfl, by repeat' (first | exact Below.refl _ _ | refine K.drewN ?_ _ | refine Below.drew ?_)⟩
theorem div_3 (hi lo : Int) (h0 : 0 ≤ hi) (h1 : hi < 1152921504606846976) (l0 : 0 ≤ lo) (l1 : lo < 18446744073709551616) (w : World) :
    Calls Tryd.prog 44 #[.int .u64 hi, .int .u64 lo, .int .u64 1152921504606846976] w fun e w' => ∃ r, e = .returned (.tuple #[.int .u64 ((hi * 18446744073709551616 + lo) / 1152921504606846976), .int .u64 r]) ∧ Below w.heap.size w w' := by
  by_cases h : hi = 0
  · subst h; exact div_3_none lo l0 l1 w
  · refine (div_3_main hi lo (by omega) h1 l0 l1 w).mono ?_
    rintro e w' ⟨r, rfl, rfl⟩
    exact ⟨r, rfl, Below.refl _ _⟩
set_option maxHeartbeats 2000000 in
theorem guess_3 (x0 x1 x2 x3 : Int) (a0 : 0 ≤ x2) (a1 : x2 < 18446744073709551616) (b0 : 0 ≤ x3) (w : World) :
    Calls Tryd.prog 42 #[.agg #[.int .u64 (L 0 (md 3)), .int .u64 (L 1 (md 3)), .int .u64 (L 2 (md 3)), .int .u64 (L 3 (md 3))], .agg #[.int .u64 x0, .int .u64 x1, .int .u64 x2, .int .u64 x3]] w fun e w' => e = .returned (.int .u64 (gs 3 x3 x2)) ∧ Below w.heap.size w w' := by
  unfold gs
  rw [md_3_3]
  by_cases h : 1152921504606846976 ≤ x3
  · rw [if_pos h]
    go_enter Tryd.func42, Tryd.ntmps42
    go_wp2
    go_ret
    refine ⟨rfl, ?_⟩
    go_grown
  · rw [if_neg h]
    go_enter Tryd.func42, Tryd.ntmps42
    go_wp2_with (go_at_call 44; with_reducible refine Calls.mono (div_3 x3 x2 b0 (by omega) a0 a1 _) ?_; rintro e w' ⟨r, rfl, hk⟩)
    go_ret
    exact ⟨rfl, K.call (K.alloc (K.alloc (Below.refl _ _) _) _) hk⟩

theorem guess_any {k : Int} (hk : 0 ≤ k ∧ k ≤ 3) (x0 x1 x2 x3 : Int) (a0 : 0 ≤ x2) (a1 : x2 < 18446744073709551616) (b0 : 0 ≤ x3) (w : World) :
    Calls Tryd.prog 42 #[.agg #[.int .u64 (L 0 (md k)), .int .u64 (L 1 (md k)), .int .u64 (L 2 (md k)), .int .u64 (L 3 (md k))], .agg #[.int .u64 x0, .int .u64 x1, .int .u64 x2, .int .u64 x3]] w fun e w' => e = .returned (.int .u64 (gs k x3 x2)) ∧ Below w.heap.size w w' := by
  rcases md_cases hk with rfl | rfl | rfl | rfl
  · exact guess_0 x0 x1 x2 x3 a0 a1 b0 w
  · exact guess_1 x0 x1 x2 x3 a0 a1 b0 w
  · exact guess_2 x0 x1 x2 x3 a0 a1 b0 w
  · exact guess_3 x0 x1 x2 x3 a0 a1 b0 w
theorem gs_lo {k : Int} (hk : 0 ≤ k ∧ k ≤ 3) {x3 x2 : Int} (a0 : 0 ≤ x2) (b0 : 0 ≤ x3) : 0 ≤ gs k x3 x2 := by
  unfold gs
  rcases md_cases hk with rfl | rfl | rfl | rfl
  · rw [md_0_3]; split <;> omega
  · rw [md_1_3]; split <;> omega
  · rw [md_2_3]; split <;> omega
  · rw [md_3_3]; split <;> omega
theorem gs_hi {k : Int} (hk : 0 ≤ k ∧ k ≤ 3) {x3 x2 : Int} (a1 : x2 < 18446744073709551616) : gs k x3 x2 < 18446744073709551616 := by
  unfold gs
  rcases md_cases hk with rfl | rfl | rfl | rfl
  · rw [md_0_3]; split <;> omega
  · rw [md_1_3]; split <;> omega
  · rw [md_2_3]; split <;> omega
  · rw [md_3_3]; split <;> omega
theorem md0 : md 0 = 115792089210356248762697446949407573530086143415290314195533631308867097853951 := by decide
theorem md1 : md 1 = 115792089210356248762697446949407573529996955224135760342422259061068512044369 := by decide
theorem md2 : md 2 = 57896044618658097711785492504343953926634992332820282019728792003956564819949 := by decide
theorem md3 : md 3 = 7237005577332262213973186563042994240857116359379907606001950938285454250989 := by decide
/-- How near the guess comes: what is left is below the modulus, and not below four of it under nothing. -/
theorem gs_near {k X x3 x2 : Int} (hk : 0 ≤ k ∧ k ≤ 3) (h0 : 0 ≤ X) (h1 : X < md k * 18446744073709551616) (e3 : x3 = X / 115792089237316195423570985008687907853269984665640564039457584007913129639936) (e2 : x2 = X / 6277101735386680763835789423207666416102355444464034512896 % 18446744073709551616) :
    X - gs k x3 x2 * md k < md k ∧ 0 ≤ X - gs k x3 x2 * md k + 4 * md k := by
  unfold gs
  subst e3 e2
  rcases md_cases hk with rfl | rfl | rfl | rfl
  · rw [md_0_3]; rw [md0] at *; split <;> constructor <;> omega
  · rw [md_1_3]; rw [md1] at *; split <;> constructor <;> omega
  · rw [md_2_3]; rw [md2] at *; split <;> constructor <;> omega
  · rw [md_3_3]; rw [md3] at *; split <;> constructor <;> omega
end Go.Proofs.YtffkeabpdmpjbaaDoor
