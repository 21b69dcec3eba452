/- What text.cut answers. -/
import Derived.Test.YtloboidolhpogaaKOwn
import Derived.Deep.LoopGhost
import Derived.Deep.DeepCutAuto
namespace Go.Proofs.Ytloboidolhpogaa
open Go.RowKit
attribute [local go_sem ↓] Go.wp_at_zero Go.wp_at_succ

set_option maxHeartbeats 1000000 in
theorem cut6_0 (v : Int) (h0 : 0 ≤ v) (h1 : v < 16777216) (w : World) : Calls Try.prog 15 #[.int .u32 v, .int .i64 0, .int .i64 6] w fun e w' => e = .returned (.int .u32 (v / 262144 % 64)) ∧ Below w.heap.size w w' := by
  go_enter Try.func15, Try.ntmps15
  go_upto_region 1 with fail
  go_quiet (fail)
  go_wp2_with fail
  go_ret
  exact ⟨rfl, K.drewN (Below.refl _ _) _⟩
set_option maxHeartbeats 1000000 in
theorem cut6_1 (v : Int) (h0 : 0 ≤ v) (h1 : v < 16777216) (w : World) : Calls Try.prog 15 #[.int .u32 v, .int .i64 1, .int .i64 6] w fun e w' => e = .returned (.int .u32 (v / 4096 % 64)) ∧ Below w.heap.size w w' := by
  go_enter Try.func15, Try.ntmps15
  go_upto_region 1 with fail
  go_quiet (fail)
  go_wp2_with fail
  go_ret
  exact ⟨rfl, K.drewN (Below.refl _ _) _⟩
set_option maxHeartbeats 1000000 in
theorem cut6_2 (v : Int) (h0 : 0 ≤ v) (h1 : v < 16777216) (w : World) : Calls Try.prog 15 #[.int .u32 v, .int .i64 2, .int .i64 6] w fun e w' => e = .returned (.int .u32 (v / 64 % 64)) ∧ Below w.heap.size w w' := by
  go_enter Try.func15, Try.ntmps15
  go_upto_region 1 with fail
  go_quiet (fail)
  go_wp2_with fail
  go_ret
  exact ⟨rfl, K.drewN (Below.refl _ _) _⟩
set_option maxHeartbeats 1000000 in
theorem cut6_3 (v : Int) (h0 : 0 ≤ v) (h1 : v < 16777216) (w : World) : Calls Try.prog 15 #[.int .u32 v, .int .i64 3, .int .i64 6] w fun e w' => e = .returned (.int .u32 (v % 64)) ∧ Below w.heap.size w w' := by
  go_enter Try.func15, Try.ntmps15
  go_upto_region 1 with fail
  go_quiet (fail)
  go_wp2_with fail
  go_ret
  exact ⟨rfl, K.drewN (Below.refl _ _) _⟩
/-- The piece at place r. -/
theorem cut6_any (v : Nat) (h1 : v < 16777216) (r : Nat) (hr : r < 4) (w : World) : Calls Try.prog 15 #[.int .u32 (v : Int), .int .i64 (r : Int), .int .i64 6] w fun e w' => e = .returned (.int .u32 ((v / 64 ^ (3 - r) % 64 : Nat) : Int)) ∧ Below w.heap.size w w' := by
  rcases (show r = 0 ∨ r = 1 ∨ r = 2 ∨ r = 3 by omega) with rfl | rfl | rfl | rfl
  · refine (cut6_0 (v : Int) (by omega) (by omega) w).mono ?_
    rintro e w1 ⟨rfl, hb⟩
    exact ⟨ret_int (by omega), hb⟩
  · refine (cut6_1 (v : Int) (by omega) (by omega) w).mono ?_
    rintro e w1 ⟨rfl, hb⟩
    exact ⟨ret_int (by omega), hb⟩
  · refine (cut6_2 (v : Int) (by omega) (by omega) w).mono ?_
    rintro e w1 ⟨rfl, hb⟩
    exact ⟨ret_int (by omega), hb⟩
  · refine (cut6_3 (v : Int) (by omega) (by omega) w).mono ?_
    rintro e w1 ⟨rfl, hb⟩
    exact ⟨ret_int (by omega), hb⟩
set_option maxHeartbeats 1000000 in
theorem cut8_0 (v : Int) (h0 : 0 ≤ v) (h1 : v < 16777216) (w : World) : Calls Try.prog 15 #[.int .u32 v, .int .i64 0, .int .i64 8] w fun e w' => e = .returned (.int .u32 (v / 65536 % 256)) ∧ Below w.heap.size w w' := by
  go_enter Try.func15, Try.ntmps15
  go_upto_region 1 with fail
  go_quiet (fail)
  go_wp2_with fail
  go_ret
  exact ⟨rfl, K.drewN (Below.refl _ _) _⟩
set_option maxHeartbeats 1000000 in
theorem cut8_1 (v : Int) (h0 : 0 ≤ v) (h1 : v < 16777216) (w : World) : Calls Try.prog 15 #[.int .u32 v, .int .i64 1, .int .i64 8] w fun e w' => e = .returned (.int .u32 (v / 256 % 256)) ∧ Below w.heap.size w w' := by
  go_enter Try.func15, Try.ntmps15
  go_upto_region 1 with fail
  go_quiet (fail)
  go_wp2_with fail
  go_ret
  exact ⟨rfl, K.drewN (Below.refl _ _) _⟩
set_option maxHeartbeats 1000000 in
theorem cut8_2 (v : Int) (h0 : 0 ≤ v) (h1 : v < 16777216) (w : World) : Calls Try.prog 15 #[.int .u32 v, .int .i64 2, .int .i64 8] w fun e w' => e = .returned (.int .u32 (v % 256)) ∧ Below w.heap.size w w' := by
  go_enter Try.func15, Try.ntmps15
  go_upto_region 1 with fail
  go_quiet (fail)
  go_wp2_with fail
  go_ret
  exact ⟨rfl, K.drewN (Below.refl _ _) _⟩
/-- The piece at place r. -/
theorem cut8_any (v : Nat) (h1 : v < 16777216) (r : Nat) (hr : r < 3) (w : World) : Calls Try.prog 15 #[.int .u32 (v : Int), .int .i64 (r : Int), .int .i64 8] w fun e w' => e = .returned (.int .u32 ((v / 256 ^ (2 - r) % 256 : Nat) : Int)) ∧ Below w.heap.size w w' := by
  rcases (show r = 0 ∨ r = 1 ∨ r = 2 by omega) with rfl | rfl | rfl
  · refine (cut8_0 (v : Int) (by omega) (by omega) w).mono ?_
    rintro e w1 ⟨rfl, hb⟩
    exact ⟨ret_int (by omega), hb⟩
  · refine (cut8_1 (v : Int) (by omega) (by omega) w).mono ?_
    rintro e w1 ⟨rfl, hb⟩
    exact ⟨ret_int (by omega), hb⟩
  · refine (cut8_2 (v : Int) (by omega) (by omega) w).mono ?_
    rintro e w1 ⟨rfl, hb⟩
    exact ⟨ret_int (by omega), hb⟩
end Go.Proofs.Ytloboidolhpogaa
