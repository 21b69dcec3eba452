/- What text.Decode answers of the empty text, and of one whose length is no multiple of four. -/
import Derived.Test.YtloboidolhpogaaPDec
namespace Go.Proofs.Ytloboidolhpogaa
open Go.RowKit
attribute [local go_sem ↓] Go.wp_at_zero Go.wp_at_succ
attribute [local go_sem] tx_size

set_option maxHeartbeats 1000000 in
theorem decode_odd (l : List UInt8) (h4 : l.length % 4 ≠ 0) (w : World) :
    Calls Try.prog 8 #[.string (tx l)] w fun e w' => e = .returned (.tuple #[.slice none 0 0, .bool false]) ∧ w' = w := by
  have hb : ((l.length : Int) % 4 == 0) = false := beq_eq_false_iff_ne.2 (by omega)
  go_enter Try.func8, Try.ntmps8
  go_wp2_with fail
  go_ret2
  exact ⟨rfl, rfl⟩

set_option maxHeartbeats 2000000 in
theorem decode_none (w : World) :
    Calls Try.prog 8 #[.string (tx [])] w fun e w' => (∃ a cap, e = .returned (.tuple #[.slice a 0 cap, .bool true])) ∧ Below w.heap.size w w' := by
  obtain ⟨i0, hi, hz0, hz1, hz2⟩ := info_parts info8
  have hT : Hid (∀ w, Calls Try.prog 13 #[.string (tx []), .string ⟨#[61]⟩] w fun e w' => e = .returned (.string (tx [])) ∧ w' = w) := fun w => trim_any [] (by decide) w
  have hsz : (tx ([] : List UInt8)).size = 0 := rfl
  go_enter Try.func8, Try.ntmps8
  go_wp2_with fail
  with_reducible refine Calls.mono (hT.out _) ?_
  rintro e w1 ⟨rfl, rfl⟩
  go_wp2_with fail
  with_reducible refine Calls.mono (hT.out _) ?_
  rintro e w2 ⟨rfl, rfl⟩
  go_wp2_with (at_make; refine wpList_make_own _ rfl _ _ 22 rfl w2.heap.size 5 i0 (.int .u8 0) 1 Try.underlying22 hi hz0 hz1 .i64 .i64 _ 0 rfl rfl (by omega) (by omega) (by unfold maxLen; omega) (by simp) ?_; intro w1 hown hgrow)
  have hB1 : Below w2.heap.size w2 w1 := (Below.refl _ w2).grown hgrow (Nat.le_refl _) (fun k hk => by cases hk)
  clear hown hgrow
  refine wp_loop_rounds 1 ?_
  rw [rounds_succ]
  go_wp2_with fail
  go_ret2
  exact ⟨⟨_, _, rfl⟩, hB1⟩
end Go.Proofs.Ytloboidolhpogaa
