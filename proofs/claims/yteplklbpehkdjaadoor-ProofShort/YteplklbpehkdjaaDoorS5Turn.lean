/- What the document's own turned answers. -/
import Derived.Test.YteplklbpehkdjaaDoorS5W
namespace Go.Proofs.YteplklbpehkdjaaDoor
set_option maxRecDepth 100000
open Go.RowKit
attribute [local go_sem ↓] Go.wp_at_zero Go.wp_at_succ
attribute [local go_sem] wn_or

set_option maxHeartbeats 1000000 in
theorem turned_2 (x : Wd) (w : World) : Calls Tryd.prog 32 #[.int .u32 (wn x), .int .u32 2] w fun e w' => e = .returned (.int .u32 (wn (rotr x 2))) ∧ w' = w := by
  have h1 : wn x / 4 = wn (wshr x 2) := wn_shr x 2
  have h2 : wn x <<< 30 % 4294967296 = wn (wshl x 30) := wn_shl' x 30
  have h3 : wn x * 1073741824 % 4294967296 = wn (wshl x 30) := wn_shl x 30
  have hlo := wn_nn x
  have hhi := wn_lt x
  go_enter Tryd.func32, Tryd.ntmps32
  go_wp2_with fail
  go_ret
  exact ⟨rfl, rfl⟩
set_option maxHeartbeats 1000000 in
theorem turned_6 (x : Wd) (w : World) : Calls Tryd.prog 32 #[.int .u32 (wn x), .int .u32 6] w fun e w' => e = .returned (.int .u32 (wn (rotr x 6))) ∧ w' = w := by
  have h1 : wn x / 64 = wn (wshr x 6) := wn_shr x 6
  have h2 : wn x <<< 26 % 4294967296 = wn (wshl x 26) := wn_shl' x 26
  have h3 : wn x * 67108864 % 4294967296 = wn (wshl x 26) := wn_shl x 26
  have hlo := wn_nn x
  have hhi := wn_lt x
  go_enter Tryd.func32, Tryd.ntmps32
  go_wp2_with fail
  go_ret
  exact ⟨rfl, rfl⟩
set_option maxHeartbeats 1000000 in
theorem turned_7 (x : Wd) (w : World) : Calls Tryd.prog 32 #[.int .u32 (wn x), .int .u32 7] w fun e w' => e = .returned (.int .u32 (wn (rotr x 7))) ∧ w' = w := by
  have h1 : wn x / 128 = wn (wshr x 7) := wn_shr x 7
  have h2 : wn x <<< 25 % 4294967296 = wn (wshl x 25) := wn_shl' x 25
  have h3 : wn x * 33554432 % 4294967296 = wn (wshl x 25) := wn_shl x 25
  have hlo := wn_nn x
  have hhi := wn_lt x
  go_enter Tryd.func32, Tryd.ntmps32
  go_wp2_with fail
  go_ret
  exact ⟨rfl, rfl⟩
set_option maxHeartbeats 1000000 in
theorem turned_11 (x : Wd) (w : World) : Calls Tryd.prog 32 #[.int .u32 (wn x), .int .u32 11] w fun e w' => e = .returned (.int .u32 (wn (rotr x 11))) ∧ w' = w := by
  have h1 : wn x / 2048 = wn (wshr x 11) := wn_shr x 11
  have h2 : wn x <<< 21 % 4294967296 = wn (wshl x 21) := wn_shl' x 21
  have h3 : wn x * 2097152 % 4294967296 = wn (wshl x 21) := wn_shl x 21
  have hlo := wn_nn x
  have hhi := wn_lt x
  go_enter Tryd.func32, Tryd.ntmps32
  go_wp2_with fail
  go_ret
  exact ⟨rfl, rfl⟩
set_option maxHeartbeats 1000000 in
theorem turned_13 (x : Wd) (w : World) : Calls Tryd.prog 32 #[.int .u32 (wn x), .int .u32 13] w fun e w' => e = .returned (.int .u32 (wn (rotr x 13))) ∧ w' = w := by
  have h1 : wn x / 8192 = wn (wshr x 13) := wn_shr x 13
  have h2 : wn x <<< 19 % 4294967296 = wn (wshl x 19) := wn_shl' x 19
  have h3 : wn x * 524288 % 4294967296 = wn (wshl x 19) := wn_shl x 19
  have hlo := wn_nn x
  have hhi := wn_lt x
  go_enter Tryd.func32, Tryd.ntmps32
  go_wp2_with fail
  go_ret
  exact ⟨rfl, rfl⟩
set_option maxHeartbeats 1000000 in
theorem turned_17 (x : Wd) (w : World) : Calls Tryd.prog 32 #[.int .u32 (wn x), .int .u32 17] w fun e w' => e = .returned (.int .u32 (wn (rotr x 17))) ∧ w' = w := by
  have h1 : wn x / 131072 = wn (wshr x 17) := wn_shr x 17
  have h2 : wn x <<< 15 % 4294967296 = wn (wshl x 15) := wn_shl' x 15
  have h3 : wn x * 32768 % 4294967296 = wn (wshl x 15) := wn_shl x 15
  have hlo := wn_nn x
  have hhi := wn_lt x
  go_enter Tryd.func32, Tryd.ntmps32
  go_wp2_with fail
  go_ret
  exact ⟨rfl, rfl⟩
set_option maxHeartbeats 1000000 in
theorem turned_18 (x : Wd) (w : World) : Calls Tryd.prog 32 #[.int .u32 (wn x), .int .u32 18] w fun e w' => e = .returned (.int .u32 (wn (rotr x 18))) ∧ w' = w := by
  have h1 : wn x / 262144 = wn (wshr x 18) := wn_shr x 18
  have h2 : wn x <<< 14 % 4294967296 = wn (wshl x 14) := wn_shl' x 14
  have h3 : wn x * 16384 % 4294967296 = wn (wshl x 14) := wn_shl x 14
  have hlo := wn_nn x
  have hhi := wn_lt x
  go_enter Tryd.func32, Tryd.ntmps32
  go_wp2_with fail
  go_ret
  exact ⟨rfl, rfl⟩
set_option maxHeartbeats 1000000 in
theorem turned_19 (x : Wd) (w : World) : Calls Tryd.prog 32 #[.int .u32 (wn x), .int .u32 19] w fun e w' => e = .returned (.int .u32 (wn (rotr x 19))) ∧ w' = w := by
  have h1 : wn x / 524288 = wn (wshr x 19) := wn_shr x 19
  have h2 : wn x <<< 13 % 4294967296 = wn (wshl x 13) := wn_shl' x 13
  have h3 : wn x * 8192 % 4294967296 = wn (wshl x 13) := wn_shl x 13
  have hlo := wn_nn x
  have hhi := wn_lt x
  go_enter Tryd.func32, Tryd.ntmps32
  go_wp2_with fail
  go_ret
  exact ⟨rfl, rfl⟩
set_option maxHeartbeats 1000000 in
theorem turned_22 (x : Wd) (w : World) : Calls Tryd.prog 32 #[.int .u32 (wn x), .int .u32 22] w fun e w' => e = .returned (.int .u32 (wn (rotr x 22))) ∧ w' = w := by
  have h1 : wn x / 4194304 = wn (wshr x 22) := wn_shr x 22
  have h2 : wn x <<< 10 % 4294967296 = wn (wshl x 10) := wn_shl' x 10
  have h3 : wn x * 1024 % 4294967296 = wn (wshl x 10) := wn_shl x 10
  have hlo := wn_nn x
  have hhi := wn_lt x
  go_enter Tryd.func32, Tryd.ntmps32
  go_wp2_with fail
  go_ret
  exact ⟨rfl, rfl⟩
set_option maxHeartbeats 1000000 in
theorem turned_25 (x : Wd) (w : World) : Calls Tryd.prog 32 #[.int .u32 (wn x), .int .u32 25] w fun e w' => e = .returned (.int .u32 (wn (rotr x 25))) ∧ w' = w := by
  have h1 : wn x / 33554432 = wn (wshr x 25) := wn_shr x 25
  have h2 : wn x <<< 7 % 4294967296 = wn (wshl x 7) := wn_shl' x 7
  have h3 : wn x * 128 % 4294967296 = wn (wshl x 7) := wn_shl x 7
  have hlo := wn_nn x
  have hhi := wn_lt x
  go_enter Tryd.func32, Tryd.ntmps32
  go_wp2_with fail
  go_ret
  exact ⟨rfl, rfl⟩
end Go.Proofs.YteplklbpehkdjaaDoor
