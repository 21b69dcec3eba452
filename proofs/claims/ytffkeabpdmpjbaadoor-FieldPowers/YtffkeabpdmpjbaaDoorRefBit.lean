/- What the document's own Bit answers, for all numbers: the same as limb's. -/
import Derived.Test.YtffkeabpdmpjbaaDoorHalfBit
namespace Go.Proofs.YtffkeabpdmpjbaaDoor
open Go.RowKit
attribute [local go_sem ↓] Go.wp_at_zero Go.wp_at_succ

theorem half_pow (x : Int) (n : Nat) : x / 2 ^ n / 2 = x / 2 ^ (n + 1) := by
  rw [Int.pow_succ, Int.ediv_ediv_of_nonneg (Int.le_of_lt (Int.pow_pos (by omega)))]
theorem ref_bit_word (a i : Int) (k : Nat) (h0 : 0 ≤ i) (h1 : i < 256) (hq : i / 64 = k) : L k a / 2 ^ (i % 64).toNat % 2 = bt a i := by
  rw [word_bit _ _ _ (by omega), bt_in _ _ h0 h1, show 64 * k + (i % 64).toNat = i.toNat by omega]
set_option maxHeartbeats 1000000 in
theorem ref_bit_in0 (a i : Int) (h0 : 0 ≤ i) (h1 : i < 256) (hq : i / 64 = 0) (w : World) :
    Calls Tryd.prog 34 #[.agg #[.int .u64 (L 0 a), .int .u64 (L 1 a), .int .u64 (L 2 a), .int .u64 (L 3 a)], .int .i64 i] w fun e w' => e = .returned (.int .i64 (bt a i)) ∧ Below w.heap.size w w' := by
  have fin : Hid (L 0 a / 2 ^ (i % 64).toNat % 2 = bt a i) := ref_bit_word a i 0 h0 h1 hq
  go_enter Tryd.func34, Tryd.ntmps34
  go_wp2
  go_loop [5, 6] (fun x k => ∃ n : Nat, n ≤ (i % 64).toNat ∧ k = .int .i64 n ∧ x = .int .u64 (L 0 a / 2 ^ n)) (fun _ k => 64 - (intOf k).toNat)
  case atStart => exact ⟨0, Nat.zero_le _, rfl, by simp⟩
  case round =>
    obtain ⟨n, hn, rfl, rfl⟩ := hrel
    have d0 : 0 ≤ L 0 a / 2 ^ n := Int.ediv_nonneg (L_lo _ _) (Int.le_of_lt (Int.pow_pos (by omega)))
    have d1 : L 0 a / 2 ^ n < 18446744073709551616 := Int.lt_of_le_of_lt (Int.ediv_le_self _ (L_lo _ _)) (L_hi _ _)
    by_cases hlt : (n : Int) < i % 64
    · go_wp2
      go_round
      case rel => exact ⟨n + 1, by omega, by go_num, by rw [← half_pow]⟩
      case measure => simp [intOf]; omega
    · have e : n = (i % 64).toNat := by omega
      have F : Hid (L 0 a / 2 ^ n % 2 = bt a i) := by rw [e]; exact fin
      clear e fin
      go_wp2
      go_ret
      refine ⟨congrArg (fun x => Ending.returned (.int .i64 x)) F.out, ?_⟩
      go_grown
set_option maxHeartbeats 1000000 in
theorem ref_bit_in1 (a i : Int) (h0 : 0 ≤ i) (h1 : i < 256) (hq : i / 64 = 1) (w : World) :
    Calls Tryd.prog 34 #[.agg #[.int .u64 (L 0 a), .int .u64 (L 1 a), .int .u64 (L 2 a), .int .u64 (L 3 a)], .int .i64 i] w fun e w' => e = .returned (.int .i64 (bt a i)) ∧ Below w.heap.size w w' := by
  have fin : Hid (L 1 a / 2 ^ (i % 64).toNat % 2 = bt a i) := ref_bit_word a i 1 h0 h1 hq
  go_enter Tryd.func34, Tryd.ntmps34
  go_wp2
  go_loop [5, 6] (fun x k => ∃ n : Nat, n ≤ (i % 64).toNat ∧ k = .int .i64 n ∧ x = .int .u64 (L 1 a / 2 ^ n)) (fun _ k => 64 - (intOf k).toNat)
  case atStart => exact ⟨0, Nat.zero_le _, rfl, by simp⟩
  case round =>
    obtain ⟨n, hn, rfl, rfl⟩ := hrel
    have d0 : 0 ≤ L 1 a / 2 ^ n := Int.ediv_nonneg (L_lo _ _) (Int.le_of_lt (Int.pow_pos (by omega)))
    have d1 : L 1 a / 2 ^ n < 18446744073709551616 := Int.lt_of_le_of_lt (Int.ediv_le_self _ (L_lo _ _)) (L_hi _ _)
    by_cases hlt : (n : Int) < i % 64
    · go_wp2
      go_round
      case rel => exact ⟨n + 1, by omega, by go_num, by rw [← half_pow]⟩
      case measure => simp [intOf]; omega
    · have e : n = (i % 64).toNat := by omega
      have F : Hid (L 1 a / 2 ^ n % 2 = bt a i) := by rw [e]; exact fin
      clear e fin
      go_wp2
      go_ret
      refine ⟨congrArg (fun x => Ending.returned (.int .i64 x)) F.out, ?_⟩
      go_grown
set_option maxHeartbeats 1000000 in
theorem ref_bit_in2 (a i : Int) (h0 : 0 ≤ i) (h1 : i < 256) (hq : i / 64 = 2) (w : World) :
    Calls Tryd.prog 34 #[.agg #[.int .u64 (L 0 a), .int .u64 (L 1 a), .int .u64 (L 2 a), .int .u64 (L 3 a)], .int .i64 i] w fun e w' => e = .returned (.int .i64 (bt a i)) ∧ Below w.heap.size w w' := by
  have fin : Hid (L 2 a / 2 ^ (i % 64).toNat % 2 = bt a i) := ref_bit_word a i 2 h0 h1 hq
  go_enter Tryd.func34, Tryd.ntmps34
  go_wp2
  go_loop [5, 6] (fun x k => ∃ n : Nat, n ≤ (i % 64).toNat ∧ k = .int .i64 n ∧ x = .int .u64 (L 2 a / 2 ^ n)) (fun _ k => 64 - (intOf k).toNat)
  case atStart => exact ⟨0, Nat.zero_le _, rfl, by simp⟩
  case round =>
    obtain ⟨n, hn, rfl, rfl⟩ := hrel
    have d0 : 0 ≤ L 2 a / 2 ^ n := Int.ediv_nonneg (L_lo _ _) (Int.le_of_lt (Int.pow_pos (by omega)))
    have d1 : L 2 a / 2 ^ n < 18446744073709551616 := Int.lt_of_le_of_lt (Int.ediv_le_self _ (L_lo _ _)) (L_hi _ _)
    by_cases hlt : (n : Int) < i % 64
    · go_wp2
      go_round
      case rel => exact ⟨n + 1, by omega, by go_num, by rw [← half_pow]⟩
      case measure => simp [intOf]; omega
    · have e : n = (i % 64).toNat := by omega
      have F : Hid (L 2 a / 2 ^ n % 2 = bt a i) := by rw [e]; exact fin
      clear e fin
      go_wp2
      go_ret
      refine ⟨congrArg (fun x => Ending.returned (.int .i64 x)) F.out, ?_⟩
      go_grown
set_option maxHeartbeats 1000000 in
theorem ref_bit_in3 (a i : Int) (h0 : 0 ≤ i) (h1 : i < 256) (hq : i / 64 = 3) (w : World) :
    Calls Tryd.prog 34 #[.agg #[.int .u64 (L 0 a), .int .u64 (L 1 a), .int .u64 (L 2 a), .int .u64 (L 3 a)], .int .i64 i] w fun e w' => e = .returned (.int .i64 (bt a i)) ∧ Below w.heap.size w w' := by
  have fin : Hid (L 3 a / 2 ^ (i % 64).toNat % 2 = bt a i) := ref_bit_word a i 3 h0 h1 hq
  go_enter Tryd.func34, Tryd.ntmps34
  go_wp2
  go_loop [5, 6] (fun x k => ∃ n : Nat, n ≤ (i % 64).toNat ∧ k = .int .i64 n ∧ x = .int .u64 (L 3 a / 2 ^ n)) (fun _ k => 64 - (intOf k).toNat)
  case atStart => exact ⟨0, Nat.zero_le _, rfl, by simp⟩
  case round =>
    obtain ⟨n, hn, rfl, rfl⟩ := hrel
    have d0 : 0 ≤ L 3 a / 2 ^ n := Int.ediv_nonneg (L_lo _ _) (Int.le_of_lt (Int.pow_pos (by omega)))
    have d1 : L 3 a / 2 ^ n < 18446744073709551616 := Int.lt_of_le_of_lt (Int.ediv_le_self _ (L_lo _ _)) (L_hi _ _)
    by_cases hlt : (n : Int) < i % 64
    · go_wp2
      go_round
      case rel => exact ⟨n + 1, by omega, by go_num, by rw [← half_pow]⟩
      case measure => simp [intOf]; omega
    · have e : n = (i % 64).toNat := by omega
      have F : Hid (L 3 a / 2 ^ n % 2 = bt a i) := by rw [e]; exact fin
      clear e fin
      go_wp2
      go_ret
      refine ⟨congrArg (fun x => Ending.returned (.int .i64 x)) F.out, ?_⟩
      go_grown
set_option maxHeartbeats 1000000 in
theorem ref_bit_below (a i : Int) (h0 : i < 0) (w : World) :
    Calls Tryd.prog 34 #[.agg #[.int .u64 (L 0 a), .int .u64 (L 1 a), .int .u64 (L 2 a), .int .u64 (L 3 a)], .int .i64 i] w fun e w' => e = .returned (.int .i64 0) ∧ Below w.heap.size w w' := by
  go_enter Tryd.func34, Tryd.ntmps34
  go_wp2
  go_ret
  refine ⟨rfl, ?_⟩
  go_grown
set_option maxHeartbeats 1000000 in
theorem ref_bit_above (a i : Int) (h0 : 256 ≤ i) (w : World) :
    Calls Tryd.prog 34 #[.agg #[.int .u64 (L 0 a), .int .u64 (L 1 a), .int .u64 (L 2 a), .int .u64 (L 3 a)], .int .i64 i] w fun e w' => e = .returned (.int .i64 0) ∧ Below w.heap.size w w' := by
  have h1 : 255 < i := by omega
  go_enter Tryd.func34, Tryd.ntmps34
  go_wp2
  go_ret
  refine ⟨rfl, ?_⟩
  go_grown
theorem ref_bit_any (a i : Int) (w : World) :
    Calls Tryd.prog 34 #[.agg #[.int .u64 (L 0 a), .int .u64 (L 1 a), .int .u64 (L 2 a), .int .u64 (L 3 a)], .int .i64 i] w fun e w' => e = .returned (.int .i64 (bt a i)) ∧ Below w.heap.size w w' := by
  by_cases h0 : i < 0
  · rw [bt_low a i h0]; exact ref_bit_below a i h0 w
  by_cases h1 : 256 ≤ i
  · rw [bt_high a i h1]; exact ref_bit_above a i h1 w
  have hq : i / 64 = 0 ∨ i / 64 = 1 ∨ i / 64 = 2 ∨ i / 64 = 3 := by omega
  rcases hq with hq | hq | hq | hq
  · exact ref_bit_in0 a i (by omega) (by omega) hq w
  · exact ref_bit_in1 a i (by omega) (by omega) hq w
  · exact ref_bit_in2 a i (by omega) (by omega) hq w
  · exact ref_bit_in3 a i (by omega) (by omega) hq w
end Go.Proofs.YtffkeabpdmpjbaaDoor
