/- What the document's own Half and Bit answer, for all numbers: the same as limb's. -/
import Derived.Test.YtehlkgpoekpllaaHalfBit
namespace Go.Proofs.Ytehlkgpoekpllaa
open Go.RowKit
attribute [local go_sem ↓] Go.wp_at_zero Go.wp_at_succ

theorem ref_half0_0 (a : Int) (h : L 1 a % 2 = 0) : L 0 a / 2 = L 0 (a / 2) := by
  rw [L1] at h
  rw [L0, L0]
  omega
theorem ref_half0_1 (a : Int) (h : L 1 a % 2 = 1) : IntKind.u64.wrap (L 0 a / 2 + 9223372036854775808) = L 0 (a / 2) := by
  rw [L1] at h
  rw [IntKind.wrap_u64, L0, L0]
  omega
theorem ref_half1_0 (a : Int) (h : L 2 a % 2 = 0) : L 1 a / 2 = L 1 (a / 2) := by
  rw [L2] at h
  rw [L1, L1]
  omega
theorem ref_half1_1 (a : Int) (h : L 2 a % 2 = 1) : IntKind.u64.wrap (L 1 a / 2 + 9223372036854775808) = L 1 (a / 2) := by
  rw [L2] at h
  rw [IntKind.wrap_u64, L1, L1]
  omega
theorem ref_half2_0 (a : Int) (h : L 3 a % 2 = 0) : L 2 a / 2 = L 2 (a / 2) := by
  rw [L3] at h
  rw [L2, L2]
  omega
theorem ref_half2_1 (a : Int) (h : L 3 a % 2 = 1) : IntKind.u64.wrap (L 2 a / 2 + 9223372036854775808) = L 2 (a / 2) := by
  rw [L3] at h
  rw [IntKind.wrap_u64, L2, L2]
  omega
theorem ref_half3 {a : Int} (h : Num a) : L 3 a / 2 = L 3 (a / 2) := by
  obtain ⟨h1, h2⟩ := h
  unfold M at h2
  rw [L3, L3]
  omega

set_option maxHeartbeats 4000000 in
theorem ref_half_any {a : Int} (h : Num a) (w : World) :
    Calls Try.prog 19 #[.agg #[.int .u64 (L 0 a), .int .u64 (L 1 a), .int .u64 (L 2 a), .int .u64 (L 3 a)]] w fun e w' => e = .returned (.agg #[.int .u64 (L 0 (a / 2)), .int .u64 (L 1 (a / 2)), .int .u64 (L 2 (a / 2)), .int .u64 (L 3 (a / 2))]) ∧ Below w.heap.size w w' := by
  have l0 := L_lo 0 a
  have l1 := L_lo 1 a
  have l2 := L_lo 2 a
  have l3 := L_lo 3 a
  have m0 := L_hi 0 a
  have m1 := L_hi 1 a
  have m2 := L_hi 2 a
  have m3 := L_hi 3 a
  have q3 := ref_half3 h
  have p1 : L 1 a % 2 = 0 ∨ L 1 a % 2 = 1 := by omega
  have p2 : L 2 a % 2 = 0 ∨ L 2 a % 2 = 1 := by omega
  have p3 : L 3 a % 2 = 0 ∨ L 3 a % 2 = 1 := by omega
  rcases p1 with p1 | p1
  · have q0 := ref_half0_0 a p1
    rcases p2 with p2 | p2
    · have q1 := ref_half1_0 a p2
      rcases p3 with p3 | p3
      · have q2 := ref_half2_0 a p3
        go_enter Try.func19, Try.ntmps19
        go_wp2
        refine wp_loop_rounds 5 ?_
        rw [rounds_succ]
        go_wp2
        rw [rounds_succ]
        go_wp2
        rw [rounds_succ]
        go_wp2
        rw [rounds_succ]
        go_wp2
        rw [rounds_succ]
        go_wp2
        go_returns
        refine ⟨rfl, ?_⟩
        repeat' (first | (with_reducible exact Below.refl _ _) | (with_reducible refine K.drewN ?_ _) | (with_reducible refine K.drew ?_) | (with_reducible refine K.alloc ?_ _) | (with_reducible refine K.set ?_ ?_ _) | (simp; done) | (simp; omega))
      · have q2 := ref_half2_1 a p3
        go_enter Try.func19, Try.ntmps19
        go_wp2
        refine wp_loop_rounds 5 ?_
        rw [rounds_succ]
        go_wp2
        rw [rounds_succ]
        go_wp2
        rw [rounds_succ]
        go_wp2
        rw [rounds_succ]
        go_wp2
        rw [rounds_succ]
        go_wp2
        go_returns
        refine ⟨rfl, ?_⟩
        repeat' (first | (with_reducible exact Below.refl _ _) | (with_reducible refine K.drewN ?_ _) | (with_reducible refine K.drew ?_) | (with_reducible refine K.alloc ?_ _) | (with_reducible refine K.set ?_ ?_ _) | (simp; done) | (simp; omega))
    · have q1 := ref_half1_1 a p2
      rcases p3 with p3 | p3
      · have q2 := ref_half2_0 a p3
        go_enter Try.func19, Try.ntmps19
        go_wp2
        refine wp_loop_rounds 5 ?_
        rw [rounds_succ]
        go_wp2
        rw [rounds_succ]
        go_wp2
        rw [rounds_succ]
        go_wp2
        rw [rounds_succ]
        go_wp2
        rw [rounds_succ]
        go_wp2
        go_returns
        refine ⟨rfl, ?_⟩
        repeat' (first | (with_reducible exact Below.refl _ _) | (with_reducible refine K.drewN ?_ _) | (with_reducible refine K.drew ?_) | (with_reducible refine K.alloc ?_ _) | (with_reducible refine K.set ?_ ?_ _) | (simp; done) | (simp; omega))
      · have q2 := ref_half2_1 a p3
        go_enter Try.func19, Try.ntmps19
        go_wp2
        refine wp_loop_rounds 5 ?_
        rw [rounds_succ]
        go_wp2
        rw [rounds_succ]
        go_wp2
        rw [rounds_succ]
        go_wp2
        rw [rounds_succ]
        go_wp2
        rw [rounds_succ]
        go_wp2
        go_returns
        refine ⟨rfl, ?_⟩
        repeat' (first | (with_reducible exact Below.refl _ _) | (with_reducible refine K.drewN ?_ _) | (with_reducible refine K.drew ?_) | (with_reducible refine K.alloc ?_ _) | (with_reducible refine K.set ?_ ?_ _) | (simp; done) | (simp; omega))
  · have q0 := ref_half0_1 a p1
    rcases p2 with p2 | p2
    · have q1 := ref_half1_0 a p2
      rcases p3 with p3 | p3
      · have q2 := ref_half2_0 a p3
        go_enter Try.func19, Try.ntmps19
        go_wp2
        refine wp_loop_rounds 5 ?_
        rw [rounds_succ]
        go_wp2
        rw [rounds_succ]
        go_wp2
        rw [rounds_succ]
        go_wp2
        rw [rounds_succ]
        go_wp2
        rw [rounds_succ]
        go_wp2
        go_returns
        refine ⟨rfl, ?_⟩
        repeat' (first | (with_reducible exact Below.refl _ _) | (with_reducible refine K.drewN ?_ _) | (with_reducible refine K.drew ?_) | (with_reducible refine K.alloc ?_ _) | (with_reducible refine K.set ?_ ?_ _) | (simp; done) | (simp; omega))
      · have q2 := ref_half2_1 a p3
        go_enter Try.func19, Try.ntmps19
        go_wp2
        refine wp_loop_rounds 5 ?_
        rw [rounds_succ]
        go_wp2
        rw [rounds_succ]
        go_wp2
        rw [rounds_succ]
        go_wp2
        rw [rounds_succ]
        go_wp2
        rw [rounds_succ]
        go_wp2
        go_returns
        refine ⟨rfl, ?_⟩
        repeat' (first | (with_reducible exact Below.refl _ _) | (with_reducible refine K.drewN ?_ _) | (with_reducible refine K.drew ?_) | (with_reducible refine K.alloc ?_ _) | (with_reducible refine K.set ?_ ?_ _) | (simp; done) | (simp; omega))
    · have q1 := ref_half1_1 a p2
      rcases p3 with p3 | p3
      · have q2 := ref_half2_0 a p3
        go_enter Try.func19, Try.ntmps19
        go_wp2
        refine wp_loop_rounds 5 ?_
        rw [rounds_succ]
        go_wp2
        rw [rounds_succ]
        go_wp2
        rw [rounds_succ]
        go_wp2
        rw [rounds_succ]
        go_wp2
        rw [rounds_succ]
        go_wp2
        go_returns
        refine ⟨rfl, ?_⟩
        repeat' (first | (with_reducible exact Below.refl _ _) | (with_reducible refine K.drewN ?_ _) | (with_reducible refine K.drew ?_) | (with_reducible refine K.alloc ?_ _) | (with_reducible refine K.set ?_ ?_ _) | (simp; done) | (simp; omega))
      · have q2 := ref_half2_1 a p3
        go_enter Try.func19, Try.ntmps19
        go_wp2
        refine wp_loop_rounds 5 ?_
        rw [rounds_succ]
        go_wp2
        rw [rounds_succ]
        go_wp2
        rw [rounds_succ]
        go_wp2
        rw [rounds_succ]
        go_wp2
        rw [rounds_succ]
        go_wp2
        go_returns
        refine ⟨rfl, ?_⟩
        repeat' (first | (with_reducible exact Below.refl _ _) | (with_reducible refine K.drewN ?_ _) | (with_reducible refine K.drew ?_) | (with_reducible refine K.alloc ?_ _) | (with_reducible refine K.set ?_ ?_ _) | (simp; done) | (simp; omega))

theorem half_pow (x : Int) (n : Nat) : x / 2 ^ n / 2 = x / 2 ^ (n + 1) := by
  rw [Int.pow_succ, Int.ediv_ediv_of_nonneg (Int.le_of_lt (Int.pow_pos (by omega)))]
theorem ref_bit_word (a i : Int) (k : Nat) (h0 : 0 ≤ i) (h1 : i < 256) (hq : i / 64 = k) : L k a / 2 ^ (i % 64).toNat % 2 = bt a i := by
  rw [word_bit _ _ _ (by omega), bt_in _ _ h0 h1, show 64 * k + (i % 64).toNat = i.toNat by omega]
set_option maxHeartbeats 1000000 in
theorem ref_bit_in0 (a i : Int) (h0 : 0 ≤ i) (h1 : i < 256) (hq : i / 64 = 0) (w : World) :
    Calls Try.prog 21 #[.agg #[.int .u64 (L 0 a), .int .u64 (L 1 a), .int .u64 (L 2 a), .int .u64 (L 3 a)], .int .i64 i] w fun e w' => e = .returned (.int .i64 (bt a i)) ∧ Below w.heap.size w w' := by
  have fin : Hid (L 0 a / 2 ^ (i % 64).toNat % 2 = bt a i) := ref_bit_word a i 0 h0 h1 hq
  go_enter Try.func21, Try.ntmps21
  go_wp2
  go_loop [5, 6] (fun x k => ∃ n : Nat, n ≤ (i % 64).toNat ∧ k = .int .i64 n ∧ x = .int .u64 (L 0 a / 2 ^ n)) (fun _ k => 64 - (intOf k).toNat)
  case atStart => exact ⟨0, Nat.zero_le _, rfl, by simp⟩
  case round =>
    obtain ⟨n, hn, rfl, rfl⟩ := hrel
    have d0 : 0 ≤ L 0 a / 2 ^ n := Int.ediv_nonneg (L_lo _ _) (Int.le_of_lt (Int.pow_pos (by omega)))
    have d1 : L 0 a / 2 ^ n < 18446744073709551616 := Int.lt_of_le_of_lt (Int.ediv_le_self _ (L_lo _ _)) (L_hi _ _)
    by_cases hlt : (n : Int) < i % 64
    · go_wp2
      go_round
      case rel => exact ⟨n + 1, by omega, by go_num, by rw [← half_pow]⟩
      case measure => simp [intOf]; omega
    · have e : n = (i % 64).toNat := by omega
      have F : Hid (L 0 a / 2 ^ n % 2 = bt a i) := by rw [e]; exact fin
      clear e fin
      go_wp2
      go_ret
      refine ⟨congrArg (fun x => Ending.returned (.int .i64 x)) F.out, ?_⟩
      go_grown
set_option maxHeartbeats 1000000 in
theorem ref_bit_in1 (a i : Int) (h0 : 0 ≤ i) (h1 : i < 256) (hq : i / 64 = 1) (w : World) :
    Calls Try.prog 21 #[.agg #[.int .u64 (L 0 a), .int .u64 (L 1 a), .int .u64 (L 2 a), .int .u64 (L 3 a)], .int .i64 i] w fun e w' => e = .returned (.int .i64 (bt a i)) ∧ Below w.heap.size w w' := by
  have fin : Hid (L 1 a / 2 ^ (i % 64).toNat % 2 = bt a i) := ref_bit_word a i 1 h0 h1 hq
  go_enter Try.func21, Try.ntmps21
  go_wp2
  go_loop [5, 6] (fun x k => ∃ n : Nat, n ≤ (i % 64).toNat ∧ k = .int .i64 n ∧ x = .int .u64 (L 1 a / 2 ^ n)) (fun _ k => 64 - (intOf k).toNat)
  case atStart => exact ⟨0, Nat.zero_le _, rfl, by simp⟩
  case round =>
    obtain ⟨n, hn, rfl, rfl⟩ := hrel
    have d0 : 0 ≤ L 1 a / 2 ^ n := Int.ediv_nonneg (L_lo _ _) (Int.le_of_lt (Int.pow_pos (by omega)))
    have d1 : L 1 a / 2 ^ n < 18446744073709551616 := Int.lt_of_le_of_lt (Int.ediv_le_self _ (L_lo _ _)) (L_hi _ _)
    by_cases hlt : (n : Int) < i % 64
    · go_wp2
      go_round
      case rel => exact ⟨n + 1, by omega, by go_num, by rw [← half_pow]⟩
      case measure => simp [intOf]; omega
    · have e : n = (i % 64).toNat := by omega
      have F : Hid (L 1 a / 2 ^ n % 2 = bt a i) := by rw [e]; exact fin
      clear e fin
      go_wp2
      go_ret
      refine ⟨congrArg (fun x => Ending.returned (.int .i64 x)) F.out, ?_⟩
      go_grown
set_option maxHeartbeats 1000000 in
theorem ref_bit_in2 (a i : Int) (h0 : 0 ≤ i) (h1 : i < 256) (hq : i / 64 = 2) (w : World) :
    Calls Try.prog 21 #[.agg #[.int .u64 (L 0 a), .int .u64 (L 1 a), .int .u64 (L 2 a), .int .u64 (L 3 a)], .int .i64 i] w fun e w' => e = .returned (.int .i64 (bt a i)) ∧ Below w.heap.size w w' := by
  have fin : Hid (L 2 a / 2 ^ (i % 64).toNat % 2 = bt a i) := ref_bit_word a i 2 h0 h1 hq
  go_enter Try.func21, Try.ntmps21
  go_wp2
  go_loop [5, 6] (fun x k => ∃ n : Nat, n ≤ (i % 64).toNat ∧ k = .int .i64 n ∧ x = .int .u64 (L 2 a / 2 ^ n)) (fun _ k => 64 - (intOf k).toNat)
  case atStart => exact ⟨0, Nat.zero_le _, rfl, by simp⟩
  case round =>
    obtain ⟨n, hn, rfl, rfl⟩ := hrel
    have d0 : 0 ≤ L 2 a / 2 ^ n := Int.ediv_nonneg (L_lo _ _) (Int.le_of_lt (Int.pow_pos (by omega)))
    have d1 : L 2 a / 2 ^ n < 18446744073709551616 := Int.lt_of_le_of_lt (Int.ediv_le_self _ (L_lo _ _)) (L_hi _ _)
    by_cases hlt : (n : Int) < i % 64
    · go_wp2
      go_round
      case rel => exact ⟨n + 1, by omega, by go_num, by rw [← half_pow]⟩
      case measure => simp [intOf]; omega
    · have e : n = (i % 64).toNat := by omega
      have F : Hid (L 2 a / 2 ^ n % 2 = bt a i) := by rw [e]; exact fin
      clear e fin
      go_wp2
      go_ret
      refine ⟨congrArg (fun x => Ending.returned (.int .i64 x)) F.out, ?_⟩
      go_grown
set_option maxHeartbeats 1000000 in
theorem ref_bit_in3 (a i : Int) (h0 : 0 ≤ i) (h1 : i < 256) (hq : i / 64 = 3) (w : World) :
    Calls Try.prog 21 #[.agg #[.int .u64 (L 0 a), .int .u64 (L 1 a), .int .u64 (L 2 a), .int .u64 (L 3 a)], .int .i64 i] w fun e w' => e = .returned (.int .i64 (bt a i)) ∧ Below w.heap.size w w' := by
  have fin : Hid (L 3 a / 2 ^ (i % 64).toNat % 2 = bt a i) := ref_bit_word a i 3 h0 h1 hq
  go_enter Try.func21, Try.ntmps21
  go_wp2
  go_loop [5, 6] (fun x k => ∃ n : Nat, n ≤ (i % 64).toNat ∧ k = .int .i64 n ∧ x = .int .u64 (L 3 a / 2 ^ n)) (fun _ k => 64 - (intOf k).toNat)
  case atStart => exact ⟨0, Nat.zero_le _, rfl, by simp⟩
  case round =>
    obtain ⟨n, hn, rfl, rfl⟩ := hrel
    have d0 : 0 ≤ L 3 a / 2 ^ n := Int.ediv_nonneg (L_lo _ _) (Int.le_of_lt (Int.pow_pos (by omega)))
    have d1 : L 3 a / 2 ^ n < 18446744073709551616 := Int.lt_of_le_of_lt (Int.ediv_le_self _ (L_lo _ _)) (L_hi _ _)
    by_cases hlt : (n : Int) < i % 64
    · go_wp2
      go_round
      case rel => exact ⟨n + 1, by omega, by go_num, by rw [← half_pow]⟩
      case measure => simp [intOf]; omega
    · have e : n = (i % 64).toNat := by omega
      have F : Hid (L 3 a / 2 ^ n % 2 = bt a i) := by rw [e]; exact fin
      clear e fin
      go_wp2
      go_ret
      refine ⟨congrArg (fun x => Ending.returned (.int .i64 x)) F.out, ?_⟩
      go_grown
set_option maxHeartbeats 1000000 in
theorem ref_bit_below (a i : Int) (h0 : i < 0) (w : World) :
    Calls Try.prog 21 #[.agg #[.int .u64 (L 0 a), .int .u64 (L 1 a), .int .u64 (L 2 a), .int .u64 (L 3 a)], .int .i64 i] w fun e w' => e = .returned (.int .i64 0) ∧ Below w.heap.size w w' := by
  go_enter Try.func21, Try.ntmps21
  go_wp2
  go_ret
  refine ⟨rfl, ?_⟩
  go_grown
set_option maxHeartbeats 1000000 in
theorem ref_bit_above (a i : Int) (h0 : 256 ≤ i) (w : World) :
    Calls Try.prog 21 #[.agg #[.int .u64 (L 0 a), .int .u64 (L 1 a), .int .u64 (L 2 a), .int .u64 (L 3 a)], .int .i64 i] w fun e w' => e = .returned (.int .i64 0) ∧ Below w.heap.size w w' := by
  have h1 : 255 < i := by omega
  go_enter Try.func21, Try.ntmps21
  go_wp2
  go_ret
  refine ⟨rfl, ?_⟩
  go_grown
theorem ref_bit_any (a i : Int) (w : World) :
    Calls Try.prog 21 #[.agg #[.int .u64 (L 0 a), .int .u64 (L 1 a), .int .u64 (L 2 a), .int .u64 (L 3 a)], .int .i64 i] w fun e w' => e = .returned (.int .i64 (bt a i)) ∧ Below w.heap.size w w' := by
  by_cases h0 : i < 0
  · rw [bt_low a i h0]; exact ref_bit_below a i h0 w
  by_cases h1 : 256 ≤ i
  · rw [bt_high a i h1]; exact ref_bit_above a i h1 w
  have hq : i / 64 = 0 ∨ i / 64 = 1 ∨ i / 64 = 2 ∨ i / 64 = 3 := by omega
  rcases hq with hq | hq | hq | hq
  · exact ref_bit_in0 a i (by omega) (by omega) hq w
  · exact ref_bit_in1 a i (by omega) (by omega) hq w
  · exact ref_bit_in2 a i (by omega) (by omega) hq w
  · exact ref_bit_in3 a i (by omega) (by omega) hq w
end Go.Proofs.Ytehlkgpoekpllaa
