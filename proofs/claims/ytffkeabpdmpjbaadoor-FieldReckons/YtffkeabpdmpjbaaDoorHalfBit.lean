/- What limb.Half and limb.Bit answer, for all numbers: half of it, rounded down, and the bit that stands for 2^i. -/
import Derived.Test.YtffkeabpdmpjbaaDoorAddSub
import Derived.WalkSmall
import Derived.Laws.BitsAllLaws
namespace Go.Proofs.YtffkeabpdmpjbaaDoor
open Go.RowKit
attribute [local go_sem ↓] Go.wp_at_zero Go.wp_at_succ

theorem or_top (x d : Int) (hx : 0 ≤ x) (hx2 : x < 18446744073709551616) (hd : 0 ≤ d) (hd2 : d ≤ 1) : bits .or .u64 (x / 2) (IntKind.u64.wrap (d * 9223372036854775808)) = x / 2 + d * 9223372036854775808 := by
  rw [IntWalk.u64_in _ (by omega), u64_or _ _ (by omega) (by omega) (by omega) (by omega)]
  obtain ⟨n, hn⟩ := Int.eq_ofNat_of_zero_le (show 0 ≤ x / 2 by omega)
  obtain ⟨m, rfl⟩ := Int.eq_ofNat_of_zero_le hd
  rw [hn]
  have hlt : n < 2 ^ 63 := by omega
  have e1 : ((m : Int) * 9223372036854775808).toNat = 2 ^ 63 * m := by omega
  rw [e1, Int.toNat_natCast, Nat.or_comm, ← Nat.two_pow_add_eq_or_of_lt hlt]
  omega

theorem or_zero (x : Int) (hx : 0 ≤ x) (hx2 : x < 18446744073709551616) : bits .or .u64 (x / 2) 0 = x / 2 := by
  have h := or_top x 0 hx hx2 (by omega) (by omega)
  rw [Int.zero_mul, IntWalk.u64_in _ (by omega)] at h
  omega

theorem half3 {a : Int} (h : Num a) : bits .or .u64 (L 3 a / 2) 0 = L 3 (a / 2) := by
  rw [or_zero _ (L_lo _ _) (L_hi _ _), L3, L3]
  obtain ⟨h1, h2⟩ := h
  unfold M at h2
  omega
theorem half2 (a : Int) : bits .or .u64 (L 2 a / 2) (IntKind.u64.wrap (bits .and .u64 (L 3 a) 1 * 9223372036854775808)) = L 2 (a / 2) := by
  have h1 := L_lo 3 a
  have h2 := L_hi 3 a
  rw [and_one_u64 _ h1 (by omega), or_top _ _ (L_lo _ _) (L_hi _ _) (by omega) (by omega), L3, L2, L2]
  omega
theorem half1 (a : Int) : bits .or .u64 (L 1 a / 2) (IntKind.u64.wrap (bits .and .u64 (L 2 a) 1 * 9223372036854775808)) = L 1 (a / 2) := by
  have h1 := L_lo 2 a
  have h2 := L_hi 2 a
  rw [and_one_u64 _ h1 (by omega), or_top _ _ (L_lo _ _) (L_hi _ _) (by omega) (by omega), L2, L1, L1]
  omega
theorem half0 (a : Int) : bits .or .u64 (L 0 a / 2) (IntKind.u64.wrap (bits .and .u64 (L 1 a) 1 * 9223372036854775808)) = L 0 (a / 2) := by
  have h1 := L_lo 1 a
  have h2 := L_hi 1 a
  rw [and_one_u64 _ h1 (by omega), or_top _ _ (L_lo _ _) (L_hi _ _) (by omega) (by omega), L1, L0, L0]
  omega

set_option maxHeartbeats 1000000 in
theorem half_any {a : Int} (h : Num a) (w : World) :
    Calls Tryd.prog 30 #[.agg #[.int .u64 (L 0 a), .int .u64 (L 1 a), .int .u64 (L 2 a), .int .u64 (L 3 a)]] w fun e w' =>
      e = .returned (.agg #[.int .u64 (L 0 (a / 2)), .int .u64 (L 1 (a / 2)), .int .u64 (L 2 (a / 2)), .int .u64 (L 3 (a / 2))]) ∧ Below w.heap.size w w' := by
  have a0 := L_lo 0 a
  have b0 := L_hi 0 a
  have a1 := L_lo 1 a
  have b1 := L_hi 1 a
  have a2 := L_lo 2 a
  have b2 := L_hi 2 a
  have a3 := L_lo 3 a
  have b3 := L_hi 3 a
  go_enter Tryd.func30, Tryd.ntmps30
  go_wp2
  refine wp_loop_rounds 5 ?_
  rw [rounds_succ]
  go_wp2
  rw [half3 h, rounds_succ]
  go_wp2
  rw [half2, rounds_succ]
  go_wp2
  rw [half1, rounds_succ]
  go_wp2
  rw [half0, rounds_succ]
  go_wp2
  go_returns
  refine ⟨rfl, ?_⟩
  go_grown

/-- The bit that stands for 2^i; 0 outside 0 to 255. -/
def bt (a i : Int) : Int := if 0 ≤ i ∧ i < 256 then a / 2 ^ i.toNat % 2 else 0
theorem bt_in (a i : Int) (h0 : 0 ≤ i) (h1 : i < 256) : bt a i = a / 2 ^ i.toNat % 2 := by unfold bt; rw [if_pos ⟨h0, h1⟩]
theorem bt_low (a i : Int) (h : i < 0) : bt a i = 0 := by unfold bt; rw [if_neg (by omega)]
theorem bt_high (a i : Int) (h : 256 ≤ i) : bt a i = 0 := by unfold bt; rw [if_neg (by omega)]
theorem bt_lo (a i : Int) : 0 ≤ bt a i := by unfold bt; split <;> omega
theorem bt_hi (a i : Int) : bt a i ≤ 1 := by unfold bt; split <;> omega

theorem div_pow_mod (x : Int) (r s : Nat) : x % 2 ^ (r + s + 1) / 2 ^ r % 2 = x / 2 ^ r % 2 := by
  have hp : (0 : Int) < 2 ^ r := Int.pow_pos (by omega)
  have e : x % 2 ^ (r + s + 1) = x - 2 ^ r * (2 * (2 ^ s * (x / 2 ^ (r + s + 1)))) := by
    rw [Int.emod_def, Int.pow_succ, Int.pow_add]
    generalize x / ((2 : Int) ^ r * 2 ^ s * 2) = q
    congr 1
    rw [Int.mul_assoc, Int.mul_assoc, Int.mul_left_comm ((2 : Int) ^ s) 2 q]
  rw [e, show x - 2 ^ r * (2 * (2 ^ s * (x / 2 ^ (r + s + 1)))) = x + 2 ^ r * (-(2 * (2 ^ s * (x / 2 ^ (r + s + 1))))) by rw [Int.mul_neg]; omega, Int.add_mul_ediv_left _ _ (by omega)]
  generalize (2 : Int) ^ s * (x / 2 ^ (r + s + 1)) = z
  omega
theorem word_bit (a : Int) (k r : Nat) (hr : r < 64) : L k a / 2 ^ r % 2 = a / 2 ^ (64 * k + r) % 2 := by
  obtain ⟨s, hs⟩ : ∃ s, 64 = r + s + 1 := ⟨63 - r, by omega⟩
  have eB : B = 2 ^ (r + s + 1) := by rw [← hs]; rfl
  have eK : B ^ k = 2 ^ (64 * k) := by rw [Int.pow_mul]; rfl
  unfold L
  rw [eK, eB, div_pow_mod, Int.ediv_ediv_of_nonneg (Int.le_of_lt (Int.pow_pos (by omega))), ← Int.pow_add]

theorem bit_word (a i : Int) (k : Nat) (h0 : 0 ≤ i) (h1 : i < 256) (hq : i / 64 = k) : wrap64 (bits BinOp.and IntKind.u64 (L k a / 2 ^ (i % 64).toNat) 1) = bt a i := by
  have hp : (0 : Int) < 2 ^ (i % 64).toNat := Int.pow_pos (by omega)
  have l1 := L_lo k a
  have l2 := L_hi k a
  have d1 : 0 ≤ L k a / 2 ^ (i % 64).toNat := Int.ediv_nonneg l1 (Int.le_of_lt hp)
  have d2 : L k a / 2 ^ (i % 64).toNat ≤ L k a := Int.ediv_le_self _ l1
  rw [and_one_u64 _ d1 (by omega), IntWalk.wrap64_in _ (by omega), word_bit _ _ _ (by omega), bt_in _ _ h0 h1]
  rw [show 64 * k + (i % 64).toNat = i.toNat by omega]

set_option maxHeartbeats 1000000 in
theorem bit_in0 (a i : Int) (h0 : 0 ≤ i) (h1 : i < 256) (hq : i / 64 = 0) (w : World) :
    Calls Tryd.prog 29 #[.agg #[.int .u64 (L 0 a), .int .u64 (L 1 a), .int .u64 (L 2 a), .int .u64 (L 3 a)], .int .i64 i] w fun e w' =>
      e = .returned (.int .i64 (bt a i)) ∧ Below w.heap.size w w' := by
  have l1 := L_lo 0 a
  have l2 := L_hi 0 a
  go_enter Tryd.func29, Tryd.ntmps29
  go_wp2
  go_ret
  refine ⟨congrArg (fun x => Ending.returned (.int .i64 x)) (bit_word a i 0 h0 h1 hq), ?_⟩
  go_grown
set_option maxHeartbeats 1000000 in
theorem bit_in1 (a i : Int) (h0 : 0 ≤ i) (h1 : i < 256) (hq : i / 64 = 1) (w : World) :
    Calls Tryd.prog 29 #[.agg #[.int .u64 (L 0 a), .int .u64 (L 1 a), .int .u64 (L 2 a), .int .u64 (L 3 a)], .int .i64 i] w fun e w' =>
      e = .returned (.int .i64 (bt a i)) ∧ Below w.heap.size w w' := by
  have l1 := L_lo 1 a
  have l2 := L_hi 1 a
  go_enter Tryd.func29, Tryd.ntmps29
  go_wp2
  go_ret
  refine ⟨congrArg (fun x => Ending.returned (.int .i64 x)) (bit_word a i 1 h0 h1 hq), ?_⟩
  go_grown
set_option maxHeartbeats 1000000 in
theorem bit_in2 (a i : Int) (h0 : 0 ≤ i) (h1 : i < 256) (hq : i / 64 = 2) (w : World) :
    Calls Tryd.prog 29 #[.agg #[.int .u64 (L 0 a), .int .u64 (L 1 a), .int .u64 (L 2 a), .int .u64 (L 3 a)], .int .i64 i] w fun e w' =>
      e = .returned (.int .i64 (bt a i)) ∧ Below w.heap.size w w' := by
  have l1 := L_lo 2 a
  have l2 := L_hi 2 a
  go_enter Tryd.func29, Tryd.ntmps29
  go_wp2
  go_ret
  refine ⟨congrArg (fun x => Ending.returned (.int .i64 x)) (bit_word a i 2 h0 h1 hq), ?_⟩
  go_grown
set_option maxHeartbeats 1000000 in
theorem bit_in3 (a i : Int) (h0 : 0 ≤ i) (h1 : i < 256) (hq : i / 64 = 3) (w : World) :
    Calls Tryd.prog 29 #[.agg #[.int .u64 (L 0 a), .int .u64 (L 1 a), .int .u64 (L 2 a), .int .u64 (L 3 a)], .int .i64 i] w fun e w' =>
      e = .returned (.int .i64 (bt a i)) ∧ Below w.heap.size w w' := by
  have l1 := L_lo 3 a
  have l2 := L_hi 3 a
  go_enter Tryd.func29, Tryd.ntmps29
  go_wp2
  go_ret
  refine ⟨congrArg (fun x => Ending.returned (.int .i64 x)) (bit_word a i 3 h0 h1 hq), ?_⟩
  go_grown
set_option maxHeartbeats 1000000 in
theorem bit_below (a i : Int) (h0 : i < 0) (w : World) :
    Calls Tryd.prog 29 #[.agg #[.int .u64 (L 0 a), .int .u64 (L 1 a), .int .u64 (L 2 a), .int .u64 (L 3 a)], .int .i64 i] w fun e w' =>
      e = .returned (.int .i64 0) ∧ Below w.heap.size w w' := by
  go_enter Tryd.func29, Tryd.ntmps29
  go_wp2
  go_ret
  refine ⟨rfl, ?_⟩
  go_grown
set_option maxHeartbeats 1000000 in
theorem bit_above (a i : Int) (h0 : 256 ≤ i) (w : World) :
    Calls Tryd.prog 29 #[.agg #[.int .u64 (L 0 a), .int .u64 (L 1 a), .int .u64 (L 2 a), .int .u64 (L 3 a)], .int .i64 i] w fun e w' =>
      e = .returned (.int .i64 0) ∧ Below w.heap.size w w' := by
  go_enter Tryd.func29, Tryd.ntmps29
  go_wp2
  go_ret
  refine ⟨rfl, ?_⟩
  go_grown
theorem bit_any (a i : Int) (w : World) :
    Calls Tryd.prog 29 #[.agg #[.int .u64 (L 0 a), .int .u64 (L 1 a), .int .u64 (L 2 a), .int .u64 (L 3 a)], .int .i64 i] w fun e w' =>
      e = .returned (.int .i64 (bt a i)) ∧ Below w.heap.size w w' := by
  by_cases h0 : i < 0
  · rw [bt_low a i h0]; exact bit_below a i h0 w
  by_cases h1 : 256 ≤ i
  · rw [bt_high a i h1]; exact bit_above a i h1 w
  have hq : i / 64 = 0 ∨ i / 64 = 1 ∨ i / 64 = 2 ∨ i / 64 = 3 := by omega
  rcases hq with hq | hq | hq | hq
  · exact bit_in0 a i (by omega) (by omega) hq w
  · exact bit_in1 a i (by omega) (by omega) hq w
  · exact bit_in2 a i (by omega) (by omega) hq w
  · exact bit_in3 a i (by omega) (by omega) hq w
end Go.Proofs.YtffkeabpdmpjbaaDoor
