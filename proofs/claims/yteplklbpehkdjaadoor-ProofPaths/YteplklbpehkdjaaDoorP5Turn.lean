/- What the program's own right, choice and majority answer. -/
import Derived.Test.YteplklbpehkdjaaDoorS5W
namespace Go.Proofs.YteplklbpehkdjaaDoor
set_option maxRecDepth 100000
open Go.RowKit
attribute [local go_sem ↓] Go.wp_at_zero Go.wp_at_succ
attribute [local go_sem] wn_or wn_and

theorem rot_of (x : Wd) (n : Nat) : wor (wshl x (32 - n)) (wshr x n) = rotr x n := by
  unfold wor wshl wshr rotr; exact BitVec.or_comm _ _
/-- A word that is shifted by a byte, and a byte laid behind it. -/
theorem shl8_or (x : Wd) (v : Nat) (hv : v < 256) : wor (wshl x 8) (BitVec.ofNat 32 v) = wadd (wmul x 256) (BitVec.ofNat 32 v) := by
  apply BitVec.eq_of_toNat_eq
  unfold wor wshl wadd wmul
  have hx := x.isLt
  rw [BitVec.toNat_or, BitVec.toNat_shiftLeft, BitVec.toNat_add, BitVec.toNat_mul, BitVec.toNat_ofNat, BitVec.toNat_ofNat, Nat.shiftLeft_eq, Nat.mod_eq_of_lt (show v < 2 ^ 32 by omega)]
  have e : x.toNat * 2 ^ 8 % 2 ^ 32 = (x.toNat % 16777216) <<< 8 := by rw [Nat.shiftLeft_eq]; omega
  rw [e, ← Nat.shiftLeft_add_eq_or_of_lt (show v < 2 ^ 8 by omega), Nat.shiftLeft_eq]
  omega
set_option maxHeartbeats 1000000 in
theorem rotl_2 (x : Wd) (w : World) : Calls Tryd.prog 44 #[.int .u32 (wn x), .int .i64 (-2)] w fun e w' => e = .returned (.int .u32 (wn (rotr x 2))) ∧ w' = w := by
  rw [← rot_of x 2]
  have h1 : wn x / 4 = wn (wshr x 2) := wn_shr x 2
  have h2 : wn x <<< 30 % 4294967296 = wn (wshl x 30) := wn_shl' x 30
  have h3 : wn x * 1073741824 % 4294967296 = wn (wshl x 30) := wn_shl x 30
  have hlo := wn_nn x
  have hhi := wn_lt x
  have hb : bits .and .u64 (IntKind.u64.wrap (-2)) 31 = 30 := by kernel_rfl
  go_enter Tryd.func44, Tryd.ntmps44
  go_wp2_with fail
  go_ret
  exact ⟨rfl, rfl⟩
set_option maxHeartbeats 1000000 in
theorem right_2 (x : Wd) (w : World) : Calls Tryd.prog 41 #[.int .u32 (wn x), .int .i64 2] w fun e w' => e = .returned (.int .u32 (wn (rotr x 2))) ∧ w' = w := by
  go_enter Tryd.func41, Tryd.ntmps41
  go_wp2_with (go_at_call 44; with_reducible refine Calls.mono (rotl_2 x _) ?_; rintro e w' ⟨rfl, rfl⟩)
  go_ret
  exact ⟨rfl, rfl⟩
set_option maxHeartbeats 1000000 in
theorem rotl_6 (x : Wd) (w : World) : Calls Tryd.prog 44 #[.int .u32 (wn x), .int .i64 (-6)] w fun e w' => e = .returned (.int .u32 (wn (rotr x 6))) ∧ w' = w := by
  rw [← rot_of x 6]
  have h1 : wn x / 64 = wn (wshr x 6) := wn_shr x 6
  have h2 : wn x <<< 26 % 4294967296 = wn (wshl x 26) := wn_shl' x 26
  have h3 : wn x * 67108864 % 4294967296 = wn (wshl x 26) := wn_shl x 26
  have hlo := wn_nn x
  have hhi := wn_lt x
  have hb : bits .and .u64 (IntKind.u64.wrap (-6)) 31 = 26 := by kernel_rfl
  go_enter Tryd.func44, Tryd.ntmps44
  go_wp2_with fail
  go_ret
  exact ⟨rfl, rfl⟩
set_option maxHeartbeats 1000000 in
theorem right_6 (x : Wd) (w : World) : Calls Tryd.prog 41 #[.int .u32 (wn x), .int .i64 6] w fun e w' => e = .returned (.int .u32 (wn (rotr x 6))) ∧ w' = w := by
  go_enter Tryd.func41, Tryd.ntmps41
  go_wp2_with (go_at_call 44; with_reducible refine Calls.mono (rotl_6 x _) ?_; rintro e w' ⟨rfl, rfl⟩)
  go_ret
  exact ⟨rfl, rfl⟩
set_option maxHeartbeats 1000000 in
theorem rotl_7 (x : Wd) (w : World) : Calls Tryd.prog 44 #[.int .u32 (wn x), .int .i64 (-7)] w fun e w' => e = .returned (.int .u32 (wn (rotr x 7))) ∧ w' = w := by
  rw [← rot_of x 7]
  have h1 : wn x / 128 = wn (wshr x 7) := wn_shr x 7
  have h2 : wn x <<< 25 % 4294967296 = wn (wshl x 25) := wn_shl' x 25
  have h3 : wn x * 33554432 % 4294967296 = wn (wshl x 25) := wn_shl x 25
  have hlo := wn_nn x
  have hhi := wn_lt x
  have hb : bits .and .u64 (IntKind.u64.wrap (-7)) 31 = 25 := by kernel_rfl
  go_enter Tryd.func44, Tryd.ntmps44
  go_wp2_with fail
  go_ret
  exact ⟨rfl, rfl⟩
set_option maxHeartbeats 1000000 in
theorem right_7 (x : Wd) (w : World) : Calls Tryd.prog 41 #[.int .u32 (wn x), .int .i64 7] w fun e w' => e = .returned (.int .u32 (wn (rotr x 7))) ∧ w' = w := by
  go_enter Tryd.func41, Tryd.ntmps41
  go_wp2_with (go_at_call 44; with_reducible refine Calls.mono (rotl_7 x _) ?_; rintro e w' ⟨rfl, rfl⟩)
  go_ret
  exact ⟨rfl, rfl⟩
set_option maxHeartbeats 1000000 in
theorem rotl_11 (x : Wd) (w : World) : Calls Tryd.prog 44 #[.int .u32 (wn x), .int .i64 (-11)] w fun e w' => e = .returned (.int .u32 (wn (rotr x 11))) ∧ w' = w := by
  rw [← rot_of x 11]
  have h1 : wn x / 2048 = wn (wshr x 11) := wn_shr x 11
  have h2 : wn x <<< 21 % 4294967296 = wn (wshl x 21) := wn_shl' x 21
  have h3 : wn x * 2097152 % 4294967296 = wn (wshl x 21) := wn_shl x 21
  have hlo := wn_nn x
  have hhi := wn_lt x
  have hb : bits .and .u64 (IntKind.u64.wrap (-11)) 31 = 21 := by kernel_rfl
  go_enter Tryd.func44, Tryd.ntmps44
  go_wp2_with fail
  go_ret
  exact ⟨rfl, rfl⟩
set_option maxHeartbeats 1000000 in
theorem right_11 (x : Wd) (w : World) : Calls Tryd.prog 41 #[.int .u32 (wn x), .int .i64 11] w fun e w' => e = .returned (.int .u32 (wn (rotr x 11))) ∧ w' = w := by
  go_enter Tryd.func41, Tryd.ntmps41
  go_wp2_with (go_at_call 44; with_reducible refine Calls.mono (rotl_11 x _) ?_; rintro e w' ⟨rfl, rfl⟩)
  go_ret
  exact ⟨rfl, rfl⟩
set_option maxHeartbeats 1000000 in
theorem rotl_13 (x : Wd) (w : World) : Calls Tryd.prog 44 #[.int .u32 (wn x), .int .i64 (-13)] w fun e w' => e = .returned (.int .u32 (wn (rotr x 13))) ∧ w' = w := by
  rw [← rot_of x 13]
  have h1 : wn x / 8192 = wn (wshr x 13) := wn_shr x 13
  have h2 : wn x <<< 19 % 4294967296 = wn (wshl x 19) := wn_shl' x 19
  have h3 : wn x * 524288 % 4294967296 = wn (wshl x 19) := wn_shl x 19
  have hlo := wn_nn x
  have hhi := wn_lt x
  have hb : bits .and .u64 (IntKind.u64.wrap (-13)) 31 = 19 := by kernel_rfl
  go_enter Tryd.func44, Tryd.ntmps44
  go_wp2_with fail
  go_ret
  exact ⟨rfl, rfl⟩
set_option maxHeartbeats 1000000 in
theorem right_13 (x : Wd) (w : World) : Calls Tryd.prog 41 #[.int .u32 (wn x), .int .i64 13] w fun e w' => e = .returned (.int .u32 (wn (rotr x 13))) ∧ w' = w := by
  go_enter Tryd.func41, Tryd.ntmps41
  go_wp2_with (go_at_call 44; with_reducible refine Calls.mono (rotl_13 x _) ?_; rintro e w' ⟨rfl, rfl⟩)
  go_ret
  exact ⟨rfl, rfl⟩
set_option maxHeartbeats 1000000 in
theorem rotl_17 (x : Wd) (w : World) : Calls Tryd.prog 44 #[.int .u32 (wn x), .int .i64 (-17)] w fun e w' => e = .returned (.int .u32 (wn (rotr x 17))) ∧ w' = w := by
  rw [← rot_of x 17]
  have h1 : wn x / 131072 = wn (wshr x 17) := wn_shr x 17
  have h2 : wn x <<< 15 % 4294967296 = wn (wshl x 15) := wn_shl' x 15
  have h3 : wn x * 32768 % 4294967296 = wn (wshl x 15) := wn_shl x 15
  have hlo := wn_nn x
  have hhi := wn_lt x
  have hb : bits .and .u64 (IntKind.u64.wrap (-17)) 31 = 15 := by kernel_rfl
  go_enter Tryd.func44, Tryd.ntmps44
  go_wp2_with fail
  go_ret
  exact ⟨rfl, rfl⟩
set_option maxHeartbeats 1000000 in
theorem right_17 (x : Wd) (w : World) : Calls Tryd.prog 41 #[.int .u32 (wn x), .int .i64 17] w fun e w' => e = .returned (.int .u32 (wn (rotr x 17))) ∧ w' = w := by
  go_enter Tryd.func41, Tryd.ntmps41
  go_wp2_with (go_at_call 44; with_reducible refine Calls.mono (rotl_17 x _) ?_; rintro e w' ⟨rfl, rfl⟩)
  go_ret
  exact ⟨rfl, rfl⟩
set_option maxHeartbeats 1000000 in
theorem rotl_18 (x : Wd) (w : World) : Calls Tryd.prog 44 #[.int .u32 (wn x), .int .i64 (-18)] w fun e w' => e = .returned (.int .u32 (wn (rotr x 18))) ∧ w' = w := by
  rw [← rot_of x 18]
  have h1 : wn x / 262144 = wn (wshr x 18) := wn_shr x 18
  have h2 : wn x <<< 14 % 4294967296 = wn (wshl x 14) := wn_shl' x 14
  have h3 : wn x * 16384 % 4294967296 = wn (wshl x 14) := wn_shl x 14
  have hlo := wn_nn x
  have hhi := wn_lt x
  have hb : bits .and .u64 (IntKind.u64.wrap (-18)) 31 = 14 := by kernel_rfl
  go_enter Tryd.func44, Tryd.ntmps44
  go_wp2_with fail
  go_ret
  exact ⟨rfl, rfl⟩
set_option maxHeartbeats 1000000 in
theorem right_18 (x : Wd) (w : World) : Calls Tryd.prog 41 #[.int .u32 (wn x), .int .i64 18] w fun e w' => e = .returned (.int .u32 (wn (rotr x 18))) ∧ w' = w := by
  go_enter Tryd.func41, Tryd.ntmps41
  go_wp2_with (go_at_call 44; with_reducible refine Calls.mono (rotl_18 x _) ?_; rintro e w' ⟨rfl, rfl⟩)
  go_ret
  exact ⟨rfl, rfl⟩
set_option maxHeartbeats 1000000 in
theorem rotl_19 (x : Wd) (w : World) : Calls Tryd.prog 44 #[.int .u32 (wn x), .int .i64 (-19)] w fun e w' => e = .returned (.int .u32 (wn (rotr x 19))) ∧ w' = w := by
  rw [← rot_of x 19]
  have h1 : wn x / 524288 = wn (wshr x 19) := wn_shr x 19
  have h2 : wn x <<< 13 % 4294967296 = wn (wshl x 13) := wn_shl' x 13
  have h3 : wn x * 8192 % 4294967296 = wn (wshl x 13) := wn_shl x 13
  have hlo := wn_nn x
  have hhi := wn_lt x
  have hb : bits .and .u64 (IntKind.u64.wrap (-19)) 31 = 13 := by kernel_rfl
  go_enter Tryd.func44, Tryd.ntmps44
  go_wp2_with fail
  go_ret
  exact ⟨rfl, rfl⟩
set_option maxHeartbeats 1000000 in
theorem right_19 (x : Wd) (w : World) : Calls Tryd.prog 41 #[.int .u32 (wn x), .int .i64 19] w fun e w' => e = .returned (.int .u32 (wn (rotr x 19))) ∧ w' = w := by
  go_enter Tryd.func41, Tryd.ntmps41
  go_wp2_with (go_at_call 44; with_reducible refine Calls.mono (rotl_19 x _) ?_; rintro e w' ⟨rfl, rfl⟩)
  go_ret
  exact ⟨rfl, rfl⟩
set_option maxHeartbeats 1000000 in
theorem rotl_22 (x : Wd) (w : World) : Calls Tryd.prog 44 #[.int .u32 (wn x), .int .i64 (-22)] w fun e w' => e = .returned (.int .u32 (wn (rotr x 22))) ∧ w' = w := by
  rw [← rot_of x 22]
  have h1 : wn x / 4194304 = wn (wshr x 22) := wn_shr x 22
  have h2 : wn x <<< 10 % 4294967296 = wn (wshl x 10) := wn_shl' x 10
  have h3 : wn x * 1024 % 4294967296 = wn (wshl x 10) := wn_shl x 10
  have hlo := wn_nn x
  have hhi := wn_lt x
  have hb : bits .and .u64 (IntKind.u64.wrap (-22)) 31 = 10 := by kernel_rfl
  go_enter Tryd.func44, Tryd.ntmps44
  go_wp2_with fail
  go_ret
  exact ⟨rfl, rfl⟩
set_option maxHeartbeats 1000000 in
theorem right_22 (x : Wd) (w : World) : Calls Tryd.prog 41 #[.int .u32 (wn x), .int .i64 22] w fun e w' => e = .returned (.int .u32 (wn (rotr x 22))) ∧ w' = w := by
  go_enter Tryd.func41, Tryd.ntmps41
  go_wp2_with (go_at_call 44; with_reducible refine Calls.mono (rotl_22 x _) ?_; rintro e w' ⟨rfl, rfl⟩)
  go_ret
  exact ⟨rfl, rfl⟩
set_option maxHeartbeats 1000000 in
theorem rotl_25 (x : Wd) (w : World) : Calls Tryd.prog 44 #[.int .u32 (wn x), .int .i64 (-25)] w fun e w' => e = .returned (.int .u32 (wn (rotr x 25))) ∧ w' = w := by
  rw [← rot_of x 25]
  have h1 : wn x / 33554432 = wn (wshr x 25) := wn_shr x 25
  have h2 : wn x <<< 7 % 4294967296 = wn (wshl x 7) := wn_shl' x 7
  have h3 : wn x * 128 % 4294967296 = wn (wshl x 7) := wn_shl x 7
  have hlo := wn_nn x
  have hhi := wn_lt x
  have hb : bits .and .u64 (IntKind.u64.wrap (-25)) 31 = 7 := by kernel_rfl
  go_enter Tryd.func44, Tryd.ntmps44
  go_wp2_with fail
  go_ret
  exact ⟨rfl, rfl⟩
set_option maxHeartbeats 1000000 in
theorem right_25 (x : Wd) (w : World) : Calls Tryd.prog 41 #[.int .u32 (wn x), .int .i64 25] w fun e w' => e = .returned (.int .u32 (wn (rotr x 25))) ∧ w' = w := by
  go_enter Tryd.func41, Tryd.ntmps41
  go_wp2_with (go_at_call 44; with_reducible refine Calls.mono (rotl_25 x _) ?_; rintro e w' ⟨rfl, rfl⟩)
  go_ret
  exact ⟨rfl, rfl⟩
theorem wn_not' (x : Wd) : bits .xor .u32 IntKind.u32.max (wn x) = wn (wnot x) := by
  have h : IntKind.u32.max = wn (4294967295#32) := by kernel_rfl
  rw [h, wn_xor]
  congr 1
set_option maxHeartbeats 1000000 in
theorem choice_any (x y z : Wd) (w : World) : Calls Tryd.prog 42 #[.int .u32 (wn x), .int .u32 (wn y), .int .u32 (wn z)] w fun e w' => e = .returned (.int .u32 (wn (chW x y z))) ∧ w' = w := by
  have n2 := wn_not' x
  go_enter Tryd.func42, Tryd.ntmps42
  go_wp2_with fail
  go_ret
  exact ⟨rfl, rfl⟩
set_option maxHeartbeats 1000000 in
theorem majority_any (x y z : Wd) (w : World) : Calls Tryd.prog 43 #[.int .u32 (wn x), .int .u32 (wn y), .int .u32 (wn z)] w fun e w' => e = .returned (.int .u32 (wn (majW x y z))) ∧ w' = w := by
  go_enter Tryd.func43, Tryd.ntmps43
  go_wp2_with fail
  go_ret
  exact ⟨rfl, rfl⟩
end Go.Proofs.YteplklbpehkdjaaDoor
