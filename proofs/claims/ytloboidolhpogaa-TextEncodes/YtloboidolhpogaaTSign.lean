/- What the document's own sign answers. -/
import Derived.Test.YtloboidolhpogaaTTx
namespace Go.Proofs.Ytloboidolhpogaa
open Go.RowKit
attribute [local go_sem ↓] Go.wp_at_zero Go.wp_at_succ

set_option maxHeartbeats 1000000 in
theorem sign_any (n : Nat) (h : n < 64) (w : World) : Calls Try.prog 18 #[.int .i64 n] w fun e w' => e = .returned (.string (tx [sgn n])) ∧ w' = w := by
  have hc := sgn_cut n h
  have hi : (n : Int) < 64 := by omega
  go_enter Try.func18, Try.ntmps18
  go_wp2
  go_ret
  exact ⟨congrArg (fun s => Ending.returned (.string s)) hc, rfl⟩

end Go.Proofs.Ytloboidolhpogaa
