/- The statements' own question whether the program does anything is answered with yes; the functions at numbers that are written out. -/
import Derived.Test.YtffkeabpdmpjbaaDoorFnAdd
namespace Go.Proofs.YtffkeabpdmpjbaaDoor
open Go.RowKit
attribute [local go_sem ↓] Go.wp_at_zero Go.wp_at_succ
attribute [local go_sem] eq4

theorem mul_3_5 {w : World} (hT : Tab w) : Calls Tryd.prog 12 #[.int .i64 2, .agg #[.int .u64 3, .int .u64 0, .int .u64 0, .int .u64 0], .agg #[.int .u64 5, .int .u64 0, .int .u64 0, .int .u64 0]] w fun e w' => e = .returned (.agg #[.int .u64 15, .int .u64 0, .int .u64 0, .int .u64 0]) ∧ Below w.heap.size w w' := by
  have h := f_mul (k := 2) (a := 3) (b := 5) ⟨by decide, by decide⟩ ⟨by decide, by decide⟩ ⟨by decide, by decide⟩ hT
  have a0 : L 0 3 = 3 := by decide
  have a1 : L 1 3 = 0 := by decide
  have a2 : L 2 3 = 0 := by decide
  have a3 : L 3 3 = 0 := by decide
  have b0 : L 0 5 = 5 := by decide
  have b1 : L 1 5 = 0 := by decide
  have b2 : L 2 5 = 0 := by decide
  have b3 : L 3 5 = 0 := by decide
  have c0 : L 0 (3 * 5 % md 2) = 15 := by decide
  have c1 : L 1 (3 * 5 % md 2) = 0 := by decide
  have c2 : L 2 (3 * 5 % md 2) = 0 := by decide
  have c3 : L 3 (3 * 5 % md 2) = 0 := by decide
  rw [a0, a1, a2, a3, b0, b1, b2, b3, c0, c1, c2, c3] at h
  exact h
set_option maxHeartbeats 1000000 in
theorem awake_any {w : World} (hT : Tab w) : Calls Tryd.prog 5 #[] w fun e w' => e = .returned (.bool true) ∧ Below w.heap.size w w' := by
  go_enter Tryd.func5, Tryd.ntmps5
  go_wp2_with (go_at_call 12; with_reducible refine Calls.mono (mul_3_5 hT) ?_; rintro e w' ⟨rfl, hb⟩)
  go_ret
  exact ⟨rfl, hb⟩
theorem f_sub_z {k b : Int} (hkk : 0 ≤ k ∧ k ≤ 3) (hb : Num b) {w : World} (hT : Tab w) : Calls Tryd.prog 11 #[.int .i64 k, .agg #[.int .u64 0, .int .u64 0, .int .u64 0, .int .u64 0], .agg #[.int .u64 (L 0 b), .int .u64 (L 1 b), .int .u64 (L 2 b), .int .u64 (L 3 b)]] w fun e w' => e = .returned (.agg #[.int .u64 (L 0 ((0 - b) % md k)), .int .u64 (L 1 ((0 - b) % md k)), .int .u64 (L 2 ((0 - b) % md k)), .int .u64 (L 3 ((0 - b) % md k))]) ∧ Below w.heap.size w w' := by
  have h := f_sub (a := 0) hkk ⟨by decide, by decide⟩ hb hT
  rw [L_zero, L_zero, L_zero, L_zero] at h
  exact h
theorem f_mul_1 {k a : Int} (hkk : 0 ≤ k ∧ k ≤ 3) (ha : Num a) {w : World} (hT : Tab w) : Calls Tryd.prog 12 #[.int .i64 k, .agg #[.int .u64 (L 0 a), .int .u64 (L 1 a), .int .u64 (L 2 a), .int .u64 (L 3 a)], .agg #[.int .u64 1, .int .u64 0, .int .u64 0, .int .u64 0]] w fun e w' => e = .returned (.agg #[.int .u64 (L 0 (a % md k)), .int .u64 (L 1 (a % md k)), .int .u64 (L 2 (a % md k)), .int .u64 (L 3 (a % md k))]) ∧ Below w.heap.size w w' := by
  have h := f_mul (b := 1) hkk ha ⟨by decide, by decide⟩ hT
  have b0 : L 0 1 = 1 := by decide
  have b1 : L 1 1 = 0 := by decide
  have b2 : L 2 1 = 0 := by decide
  have b3 : L 3 1 = 0 := by decide
  rw [b0, b1, b2, b3, Int.mul_one] at h
  exact h
theorem mul_mod_l (x b m : Int) : (x % m * b) % m = (x * b) % m := by rw [Int.mul_emod, Int.emod_emod, ← Int.mul_emod]
theorem mul_mod_r (x b m : Int) : (x * (b % m)) % m = (x * b) % m := by rw [Int.mul_emod, Int.emod_emod, ← Int.mul_emod]
theorem num_f {k a : Int} (hkk : 0 ≤ k ∧ k ≤ 3) : Num (a % md k) := num_mod (md_num k) (md_pos hkk)
/-- The statements' own number of a modulus. -/
theorem k_four (k : Int) : 0 ≤ k % 4 ∧ k % 4 ≤ 3 := by omega
end Go.Proofs.YtffkeabpdmpjbaaDoor
