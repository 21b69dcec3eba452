/- The statements' own question whether the program does anything is answered with yes; the functions at numbers that are written out. What limb.Half and limb.Bit answer, for all numbers: half of it, rounded down, and the bit that stands for 2^i. What field.Pow answers: the power, bit by bit from the lowest on. What field.Modulus answers. What field.Inv answers: the number that makes 1 with the given one, by Fermat. Numbers modulo the modulus 2 as they lie in memory, and what the program's own sums and products do with them. What codec.Below answers. The types of layer 9, and what the small functions of the document answer. Multiples on the second curve, as the document reckons them; its sum and its multiple are the curve's. Points of the second curve held against each other, and what else the document's own answers. Points of four numbers (X : Y : Z : T) with X Y = Z T, added by one formula: they are the points of the second curve. What the program's own functions of layer 9 answer. -/
import Derived.Test.YtolehamdaceikabDoorM17
import Derived.Test.YtolehamdaceikabDoorM08
import Derived.Test.YtolehamdaceikabDoorM15
import Derived.Test.YtolehamdaceikabDoorM03
import Derived.Test.YtolehamdaceikabDoorM02
import Derived.Test.YtolehamdaceikabDoorM14
import Derived.WalkSmall
import Derived.Laws.BitsAllLaws
import Derived.Deep.LoopGhost
import Derived.Deep.DeepCutAuto
import Derived.Deep.RegionHeld3
namespace Go.Proofs.YtolehamdaceikabDoor
open Go.RowKit
attribute [local go_sem ↓] Go.wp_at_zero Go.wp_at_succ
attribute [local go_sem] eq4

theorem f_sub_z {k b : Int} (hkk : 0 ≤ k ∧ k ≤ 3) (hb : Num b) {w : World} (hT : Tab w) : Calls Tryd.prog 36 #[.int .i64 k, .agg #[.int .u64 0, .int .u64 0, .int .u64 0, .int .u64 0], .agg #[.int .u64 (L 0 b), .int .u64 (L 1 b), .int .u64 (L 2 b), .int .u64 (L 3 b)]] w fun e w' => e = .returned (.agg #[.int .u64 (L 0 ((0 - b) % md k)), .int .u64 (L 1 ((0 - b) % md k)), .int .u64 (L 2 ((0 - b) % md k)), .int .u64 (L 3 ((0 - b) % md k))]) ∧ Below w.heap.size w w' := by
  have h := f_sub (a := 0) hkk ⟨by decide, by decide⟩ hb hT
  rw [L_zero, L_zero, L_zero, L_zero] at h
  exact h
theorem f_mul_1 {k a : Int} (hkk : 0 ≤ k ∧ k ≤ 3) (ha : Num a) {w : World} (hT : Tab w) : Calls Tryd.prog 35 #[.int .i64 k, .agg #[.int .u64 (L 0 a), .int .u64 (L 1 a), .int .u64 (L 2 a), .int .u64 (L 3 a)], .agg #[.int .u64 1, .int .u64 0, .int .u64 0, .int .u64 0]] w fun e w' => e = .returned (.agg #[.int .u64 (L 0 (a % md k)), .int .u64 (L 1 (a % md k)), .int .u64 (L 2 (a % md k)), .int .u64 (L 3 (a % md k))]) ∧ Below w.heap.size w w' := by
  have h := f_mul (b := 1) hkk ha ⟨by decide, by decide⟩ hT
  have b0 : L 0 1 = 1 := by decide
  have b1 : L 1 1 = 0 := by decide
  have b2 : L 2 1 = 0 := by decide
  have b3 : L 3 1 = 0 := by decide
  rw [b0, b1, b2, b3, Int.mul_one] at h
  exact h
theorem mul_mod_l (x b m : Int) : (x % m * b) % m = (x * b) % m := by rw [Int.mul_emod, Int.emod_emod, ← Int.mul_emod]
theorem mul_mod_r (x b m : Int) : (x * (b % m)) % m = (x * b) % m := by rw [Int.mul_emod, Int.emod_emod, ← Int.mul_emod]
theorem num_f {k a : Int} (hkk : 0 ≤ k ∧ k ≤ 3) : Num (a % md k) := num_mod (md_num k) (md_pos hkk)
/-- The statements' own number of a modulus. -/
theorem k_four (k : Int) : 0 ≤ k % 4 ∧ k % 4 ≤ 3 := by omega
end Go.Proofs.YtolehamdaceikabDoor
namespace Go.Proofs.YtolehamdaceikabDoor
open Go.RowKit
attribute [local go_sem ↓] Go.wp_at_zero Go.wp_at_succ

theorem or_top (x d : Int) (hx : 0 ≤ x) (hx2 : x < 18446744073709551616) (hd : 0 ≤ d) (hd2 : d ≤ 1) : bits .or .u64 (x / 2) (IntKind.u64.wrap (d * 9223372036854775808)) = x / 2 + d * 9223372036854775808 := by
  rw [IntWalk.u64_in _ (by omega), u64_or _ _ (by omega) (by omega) (by omega) (by omega)]
  obtain ⟨n, hn⟩ := Int.eq_ofNat_of_zero_le (show 0 ≤ x / 2 by omega)
  obtain ⟨m, rfl⟩ := Int.eq_ofNat_of_zero_le hd
  rw [hn]
  have hlt : n < 2 ^ 63 := by omega
  have e1 : ((m : Int) * 9223372036854775808).toNat = 2 ^ 63 * m := by omega
  rw [e1, Int.toNat_natCast, Nat.or_comm, ← Nat.two_pow_add_eq_or_of_lt hlt]
  omega

theorem or_zero (x : Int) (hx : 0 ≤ x) (hx2 : x < 18446744073709551616) : bits .or .u64 (x / 2) 0 = x / 2 := by
  have h := or_top x 0 hx hx2 (by omega) (by omega)
  rw [Int.zero_mul, IntWalk.u64_in _ (by omega)] at h
  omega

theorem half3 {a : Int} (h : Num a) : bits .or .u64 (L 3 a / 2) 0 = L 3 (a / 2) := by
  rw [or_zero _ (L_lo _ _) (L_hi _ _), L3, L3]
  obtain ⟨h1, h2⟩ := h
  unfold M at h2
  omega
theorem half2 (a : Int) : bits .or .u64 (L 2 a / 2) (IntKind.u64.wrap (bits .and .u64 (L 3 a) 1 * 9223372036854775808)) = L 2 (a / 2) := by
  have h1 := L_lo 3 a
  have h2 := L_hi 3 a
  rw [and_one_u64 _ h1 (by omega), or_top _ _ (L_lo _ _) (L_hi _ _) (by omega) (by omega), L3, L2, L2]
  omega
theorem half1 (a : Int) : bits .or .u64 (L 1 a / 2) (IntKind.u64.wrap (bits .and .u64 (L 2 a) 1 * 9223372036854775808)) = L 1 (a / 2) := by
  have h1 := L_lo 2 a
  have h2 := L_hi 2 a
  rw [and_one_u64 _ h1 (by omega), or_top _ _ (L_lo _ _) (L_hi _ _) (by omega) (by omega), L2, L1, L1]
  omega
theorem half0 (a : Int) : bits .or .u64 (L 0 a / 2) (IntKind.u64.wrap (bits .and .u64 (L 1 a) 1 * 9223372036854775808)) = L 0 (a / 2) := by
  have h1 := L_lo 1 a
  have h2 := L_hi 1 a
  rw [and_one_u64 _ h1 (by omega), or_top _ _ (L_lo _ _) (L_hi _ _) (by omega) (by omega), L1, L0, L0]
  omega

set_option maxHeartbeats 1000000 in
theorem half_any {a : Int} (h : Num a) (w : World) :
    Calls Tryd.prog 47 #[.agg #[.int .u64 (L 0 a), .int .u64 (L 1 a), .int .u64 (L 2 a), .int .u64 (L 3 a)]] w fun e w' =>
      e = .returned (.agg #[.int .u64 (L 0 (a / 2)), .int .u64 (L 1 (a / 2)), .int .u64 (L 2 (a / 2)), .int .u64 (L 3 (a / 2))]) ∧ Below w.heap.size w w' := by
  have a0 := L_lo 0 a
  have b0 := L_hi 0 a
  have a1 := L_lo 1 a
  have b1 := L_hi 1 a
  have a2 := L_lo 2 a
  have b2 := L_hi 2 a
  have a3 := L_lo 3 a
  have b3 := L_hi 3 a
  go_enter Tryd.func47, Tryd.ntmps47
  go_wp2
  refine wp_loop_rounds 5 ?_
  rw [rounds_succ]
  go_wp2
  rw [half3 h, rounds_succ]
  go_wp2
  rw [half2, rounds_succ]
  go_wp2
  rw [half1, rounds_succ]
  go_wp2
  rw [half0, rounds_succ]
  go_wp2
  go_returns
  refine ⟨rfl, ?_⟩
  go_grown

/-- The bit that stands for 2^i; 0 outside 0 to 255. -/
def bt (a i : Int) : Int := if 0 ≤ i ∧ i < 256 then a / 2 ^ i.toNat % 2 else 0
theorem bt_in (a i : Int) (h0 : 0 ≤ i) (h1 : i < 256) : bt a i = a / 2 ^ i.toNat % 2 := by unfold bt; rw [if_pos ⟨h0, h1⟩]
theorem bt_low (a i : Int) (h : i < 0) : bt a i = 0 := by unfold bt; rw [if_neg (by omega)]
theorem bt_high (a i : Int) (h : 256 ≤ i) : bt a i = 0 := by unfold bt; rw [if_neg (by omega)]
theorem bt_lo (a i : Int) : 0 ≤ bt a i := by unfold bt; split <;> omega
theorem bt_hi (a i : Int) : bt a i ≤ 1 := by unfold bt; split <;> omega

theorem div_pow_mod (x : Int) (r s : Nat) : x % 2 ^ (r + s + 1) / 2 ^ r % 2 = x / 2 ^ r % 2 := by
  have hp : (0 : Int) < 2 ^ r := Int.pow_pos (by omega)
  have e : x % 2 ^ (r + s + 1) = x - 2 ^ r * (2 * (2 ^ s * (x / 2 ^ (r + s + 1)))) := by
    rw [Int.emod_def, Int.pow_succ, Int.pow_add]
    generalize x / ((2 : Int) ^ r * 2 ^ s * 2) = q
    congr 1
    rw [Int.mul_assoc, Int.mul_assoc, Int.mul_left_comm ((2 : Int) ^ s) 2 q]
  rw [e, show x - 2 ^ r * (2 * (2 ^ s * (x / 2 ^ (r + s + 1)))) = x + 2 ^ r * (-(2 * (2 ^ s * (x / 2 ^ (r + s + 1))))) by rw [Int.mul_neg]; omega, Int.add_mul_ediv_left _ _ (by omega)]
  generalize (2 : Int) ^ s * (x / 2 ^ (r + s + 1)) = z
  omega
theorem word_bit (a : Int) (k r : Nat) (hr : r < 64) : L k a / 2 ^ r % 2 = a / 2 ^ (64 * k + r) % 2 := by
  obtain ⟨s, hs⟩ : ∃ s, 64 = r + s + 1 := ⟨63 - r, by omega⟩
  have eB : B = 2 ^ (r + s + 1) := by rw [← hs]; rfl
  have eK : B ^ k = 2 ^ (64 * k) := by rw [Int.pow_mul]; rfl
  unfold L
  rw [eK, eB, div_pow_mod, Int.ediv_ediv_of_nonneg (Int.le_of_lt (Int.pow_pos (by omega))), ← Int.pow_add]

theorem bit_word (a i : Int) (k : Nat) (h0 : 0 ≤ i) (h1 : i < 256) (hq : i / 64 = k) : wrap64 (bits BinOp.and IntKind.u64 (L k a / 2 ^ (i % 64).toNat) 1) = bt a i := by
  have hp : (0 : Int) < 2 ^ (i % 64).toNat := Int.pow_pos (by omega)
  have l1 := L_lo k a
  have l2 := L_hi k a
  have d1 : 0 ≤ L k a / 2 ^ (i % 64).toNat := Int.ediv_nonneg l1 (Int.le_of_lt hp)
  have d2 : L k a / 2 ^ (i % 64).toNat ≤ L k a := Int.ediv_le_self _ l1
  rw [and_one_u64 _ d1 (by omega), IntWalk.wrap64_in _ (by omega), word_bit _ _ _ (by omega), bt_in _ _ h0 h1]
  rw [show 64 * k + (i % 64).toNat = i.toNat by omega]

set_option maxHeartbeats 1000000 in
theorem bit_in0 (a i : Int) (h0 : 0 ≤ i) (h1 : i < 256) (hq : i / 64 = 0) (w : World) :
    Calls Tryd.prog 29 #[.agg #[.int .u64 (L 0 a), .int .u64 (L 1 a), .int .u64 (L 2 a), .int .u64 (L 3 a)], .int .i64 i] w fun e w' =>
      e = .returned (.int .i64 (bt a i)) ∧ Below w.heap.size w w' := by
  have l1 := L_lo 0 a
  have l2 := L_hi 0 a
  go_enter Tryd.func29, Tryd.ntmps29
  go_wp2
  go_ret
  refine ⟨congrArg (fun x => Ending.returned (.int .i64 x)) (bit_word a i 0 h0 h1 hq), ?_⟩
  go_grown
set_option maxHeartbeats 1000000 in
theorem bit_in1 (a i : Int) (h0 : 0 ≤ i) (h1 : i < 256) (hq : i / 64 = 1) (w : World) :
    Calls Tryd.prog 29 #[.agg #[.int .u64 (L 0 a), .int .u64 (L 1 a), .int .u64 (L 2 a), .int .u64 (L 3 a)], .int .i64 i] w fun e w' =>
      e = .returned (.int .i64 (bt a i)) ∧ Below w.heap.size w w' := by
  have l1 := L_lo 1 a
  have l2 := L_hi 1 a
  go_enter Tryd.func29, Tryd.ntmps29
  go_wp2
  go_ret
  refine ⟨congrArg (fun x => Ending.returned (.int .i64 x)) (bit_word a i 1 h0 h1 hq), ?_⟩
  go_grown
set_option maxHeartbeats 1000000 in
theorem bit_in2 (a i : Int) (h0 : 0 ≤ i) (h1 : i < 256) (hq : i / 64 = 2) (w : World) :
    Calls Tryd.prog 29 #[.agg #[.int .u64 (L 0 a), .int .u64 (L 1 a), .int .u64 (L 2 a), .int .u64 (L 3 a)], .int .i64 i] w fun e w' =>
      e = .returned (.int .i64 (bt a i)) ∧ Below w.heap.size w w' := by
  have l1 := L_lo 2 a
  have l2 := L_hi 2 a
  go_enter Tryd.func29, Tryd.ntmps29
  go_wp2
  go_ret
  refine ⟨congrArg (fun x => Ending.returned (.int .i64 x)) (bit_word a i 2 h0 h1 hq), ?_⟩
  go_grown
set_option maxHeartbeats 1000000 in
theorem bit_in3 (a i : Int) (h0 : 0 ≤ i) (h1 : i < 256) (hq : i / 64 = 3) (w : World) :
    Calls Tryd.prog 29 #[.agg #[.int .u64 (L 0 a), .int .u64 (L 1 a), .int .u64 (L 2 a), .int .u64 (L 3 a)], .int .i64 i] w fun e w' =>
      e = .returned (.int .i64 (bt a i)) ∧ Below w.heap.size w w' := by
  have l1 := L_lo 3 a
  have l2 := L_hi 3 a
  go_enter Tryd.func29, Tryd.ntmps29
  go_wp2
  go_ret
  refine ⟨congrArg (fun x => Ending.returned (.int .i64 x)) (bit_word a i 3 h0 h1 hq), ?_⟩
  go_grown
set_option maxHeartbeats 1000000 in
theorem bit_below (a i : Int) (h0 : i < 0) (w : World) :
    Calls Tryd.prog 29 #[.agg #[.int .u64 (L 0 a), .int .u64 (L 1 a), .int .u64 (L 2 a), .int .u64 (L 3 a)], .int .i64 i] w fun e w' =>
      e = .returned (.int .i64 0) ∧ Below w.heap.size w w' := by
  go_enter Tryd.func29, Tryd.ntmps29
  go_wp2
  go_ret
  refine ⟨rfl, ?_⟩
  go_grown
set_option maxHeartbeats 1000000 in
theorem bit_above (a i : Int) (h0 : 256 ≤ i) (w : World) :
    Calls Tryd.prog 29 #[.agg #[.int .u64 (L 0 a), .int .u64 (L 1 a), .int .u64 (L 2 a), .int .u64 (L 3 a)], .int .i64 i] w fun e w' =>
      e = .returned (.int .i64 0) ∧ Below w.heap.size w w' := by
  go_enter Tryd.func29, Tryd.ntmps29
  go_wp2
  go_ret
  refine ⟨rfl, ?_⟩
  go_grown
theorem bit_any (a i : Int) (w : World) :
    Calls Tryd.prog 29 #[.agg #[.int .u64 (L 0 a), .int .u64 (L 1 a), .int .u64 (L 2 a), .int .u64 (L 3 a)], .int .i64 i] w fun e w' =>
      e = .returned (.int .i64 (bt a i)) ∧ Below w.heap.size w w' := by
  by_cases h0 : i < 0
  · rw [bt_low a i h0]; exact bit_below a i h0 w
  by_cases h1 : 256 ≤ i
  · rw [bt_high a i h1]; exact bit_above a i h1 w
  have hq : i / 64 = 0 ∨ i / 64 = 1 ∨ i / 64 = 2 ∨ i / 64 = 3 := by omega
  rcases hq with hq | hq | hq | hq
  · exact bit_in0 a i (by omega) (by omega) hq w
  · exact bit_in1 a i (by omega) (by omega) hq w
  · exact bit_in2 a i (by omega) (by omega) hq w
  · exact bit_in3 a i (by omega) (by omega) hq w
end Go.Proofs.YtolehamdaceikabDoor
namespace Go.Proofs.YtolehamdaceikabDoor
open Go.RowKit
attribute [local go_sem ↓] Go.wp_at_zero Go.wp_at_succ

/-- A power. -/
def pw (x e : Int) : Int := x ^ e.toNat
theorem pw_zero (x : Int) : pw x 0 = 1 := by simp [pw]
theorem pow_mod_any (x m : Int) : ∀ k : Nat, (x % m) ^ k % m = x ^ k % m
  | 0 => by simp
  | k + 1 => by rw [Int.pow_succ, Int.pow_succ, mul_mod_r, Int.mul_emod, pow_mod_any x m k, ← Int.mul_emod]
theorem pw_mod (x e m : Int) : pw (x % m) e % m = pw x e % m := pow_mod_any x m e.toNat
theorem pw_even {x e m : Int} (h : e % 2 = 0) : pw x e % m = pw (x * x % m) (e / 2) % m := by
  rw [pw_mod]
  unfold pw
  have e1 : e.toNat = 2 * (e / 2).toNat := by omega
  rw [e1, Int.pow_mul, Int.pow_succ, Int.pow_succ, Int.pow_zero, Int.one_mul]
theorem pw_odd {x e m : Int} (h0 : 0 < e) (h : e % 2 = 1) : pw x e % m = x * pw (x * x % m) (e / 2) % m := by
  rw [← mul_mod_r, pw_mod, mul_mod_r]
  unfold pw
  have e1 : e.toNat = 2 * (e / 2).toNat + 1 := by omega
  rw [e1, Int.pow_succ, Int.pow_mul, Int.pow_succ, Int.pow_succ, Int.pow_zero, Int.one_mul, Int.mul_comm]
theorem inv_even {x y e m : Int} (h : e % 2 = 0) : y * pw (x * x % m) (e / 2) % m = y * pw x e % m := by
  rw [← mul_mod_r y (pw x e), pw_even h, mul_mod_r]
theorem inv_odd {x y e m : Int} (h0 : 0 < e) (h : e % 2 = 1) : (y * x % m) * pw (x * x % m) (e / 2) % m = y * pw x e % m := by
  rw [mul_mod_l, ← mul_mod_r y (pw x e), pw_odd h0 h, mul_mod_r, Int.mul_assoc]
theorem bt_0 (f : Int) : bt f 0 = f % 2 := by unfold bt; simp
theorem words_not {f : Int} (h : Num f) (hf : f ≠ 0) : (L 0 f == 0 && (L 1 f == 0 && (L 2 f == 0 && (L 3 f == 0 && true)))) = false := by
  cases hb : (L 0 f == 0 && (L 1 f == 0 && (L 2 f == 0 && (L 3 f == 0 && true)))) with
  | false => rfl
  | true =>
    simp only [Bool.and_eq_true, beq_iff_eq, and_true] at hb
    have := num_val h
    omega

/-- What the loop keeps: the number, the exponent, the place of the answer, the power. -/
structure PowS (w wr : World) (n : Nat) (x f y : Int) : Prop where
  below : Below w.heap.size w wr
  X : ArrW wr w.heap.size (L 0 x) (L 1 x) (L 2 x) (L 3 x)
  E : ArrW wr (w.heap.size + 1) (L 0 f) (L 1 f) (L 2 f) (L 3 f)
  R : ArrW wr (w.heap.size + 1 + 1) 0 0 0 0
  P : ArrW wr n (L 0 y) (L 1 y) (L 2 y) (L 3 y)
theorem PowS.call {w wr w1 : World} {n : Nat} {x f y : Int} (h : PowS w wr n x f y) (hk : Below wr.heap.size wr w1) : PowS w w1 n x f y :=
  ⟨K.call h.below hk, h.X.keep hk, h.E.keep hk, h.R.keep hk, h.P.keep hk⟩
theorem PowS.storeP {w wr : World} {n : Nat} {x f y : Int} (h : PowS w wr n x f y) (hn : w.heap.size + 1 + 1 < n) (z : Int) : PowS w ((((wr.setCell ⟨n, 0, none⟩ (.int .u64 (L 0 z))).setCell ⟨n, 1, none⟩ (.int .u64 (L 1 z))).setCell ⟨n, 2, none⟩ (.int .u64 (L 2 z))).setCell ⟨n, 3, none⟩ (.int .u64 (L 3 z))) n x f z :=
  ⟨K.set4 h.below (by omega) _ _ _ _, h.X.set4 (by omega) _ _ _ _, h.E.set4 (by omega) _ _ _ _, h.R.set4 (by omega) _ _ _ _, h.P.stored _ _ _ _⟩
theorem PowS.storeA {w wr : World} {n : Nat} {x f y : Int} (h : PowS w wr n x f y) (hn : w.heap.size + 1 + 1 < n) (z : Int) : PowS w ((((wr.setCell ⟨w.heap.size, 0, none⟩ (.int .u64 (L 0 z))).setCell ⟨w.heap.size, 1, none⟩ (.int .u64 (L 1 z))).setCell ⟨w.heap.size, 2, none⟩ (.int .u64 (L 2 z))).setCell ⟨w.heap.size, 3, none⟩ (.int .u64 (L 3 z))) n z f y :=
  ⟨K.set4 h.below (by omega) _ _ _ _, h.X.stored _ _ _ _, h.E.set4 (by omega) _ _ _ _, h.R.set4 (by omega) _ _ _ _, h.P.set4 (by omega) _ _ _ _⟩
theorem PowS.storeE {w wr : World} {n : Nat} {x f y : Int} (h : PowS w wr n x f y) (hn : w.heap.size + 1 + 1 < n) (z : Int) : PowS w ((((wr.setCell ⟨(w.heap.size + 1), 0, none⟩ (.int .u64 (L 0 z))).setCell ⟨(w.heap.size + 1), 1, none⟩ (.int .u64 (L 1 z))).setCell ⟨(w.heap.size + 1), 2, none⟩ (.int .u64 (L 2 z))).setCell ⟨(w.heap.size + 1), 3, none⟩ (.int .u64 (L 3 z))) n x z y :=
  ⟨K.set4 h.below (by omega) _ _ _ _, h.X.set4 (by omega) _ _ _ _, h.E.stored _ _ _ _, h.R.set4 (by omega) _ _ _ _, h.P.set4 (by omega) _ _ _ _⟩

set_option maxHeartbeats 8000000 in
theorem f_pow {k a ex : Int} (hkk : 0 ≤ k ∧ k ≤ 3) (ha : Num a) (he : Num ex) {w : World} (hT : Tab w) :
    Calls Tryd.prog 40 #[.int .i64 k, .agg #[.int .u64 (L 0 a), .int .u64 (L 1 a), .int .u64 (L 2 a), .int .u64 (L 3 a)], .agg #[.int .u64 (L 0 ex), .int .u64 (L 1 ex), .int .u64 (L 2 ex), .int .u64 (L 3 ex)]] w fun e w' => e = .returned (.agg #[.int .u64 (L 0 (pw a ex % md k)), .int .u64 (L 1 (pw a ex % md k)), .int .u64 (L 2 (pw a ex % md k)), .int .u64 (L 3 (pw a ex % md k))]) ∧ Below w.heap.size w w' := by
  have nm := md_num k
  have hp := md_pos hkk
  have HF : Hid (∀ w, Calls Tryd.prog 43 #[.agg #[.int .u64 (L 0 (md k)), .int .u64 (L 1 (md k)), .int .u64 (L 2 (md k)), .int .u64 (L 3 (md k))], .agg #[.int .u64 1, .int .u64 0, .int .u64 0, .int .u64 0]] w fun e w' => e = .returned (.agg #[.int .u64 (L 0 (1 % md k)), .int .u64 (L 1 (1 % md k)), .int .u64 (L 2 (1 % md k)), .int .u64 (L 3 (1 % md k))]) ∧ Below w.heap.size w w') := by
    intro w
    have h := fold_any (a := 1) hkk ⟨by decide, by decide⟩ w
    have b0 : L 0 1 = 1 := by decide
    have b1 : L 1 1 = 0 := by decide
    have b2 : L 2 1 = 0 := by decide
    have b3 : L 3 1 = 0 := by decide
    rw [b0, b1, b2, b3] at h
    exact h
  have HPR : Hid (∀ a b w, Num a → Num b → Calls Tryd.prog 42 #[.agg #[.int .u64 (L 0 (md k)), .int .u64 (L 1 (md k)), .int .u64 (L 2 (md k)), .int .u64 (L 3 (md k))], .agg #[.int .u64 (L 0 a), .int .u64 (L 1 a), .int .u64 (L 2 a), .int .u64 (L 3 a)], .agg #[.int .u64 (L 0 b), .int .u64 (L 1 b), .int .u64 (L 2 b), .int .u64 (L 3 b)]] w fun e w' => e = .returned (.agg #[.int .u64 (L 0 (a * b % md k)), .int .u64 (L 1 (a * b % md k)), .int .u64 (L 2 (a * b % md k)), .int .u64 (L 3 (a * b % md k))]) ∧ Below w.heap.size w w') := fun a b w ha hb => prod_any hkk ha hb w
  have HMO : Hid (∀ w, Tab w → Calls Tryd.prog 41 #[.int .i64 k] w fun e w' => e = .returned (.agg #[.int .u64 (L 0 (md k)), .int .u64 (L 1 (md k)), .int .u64 (L 2 (md k)), .int .u64 (L 3 (md k))]) ∧ Below w.heap.size w w') := fun w hT => modOf_any k hT
  have H0 : Hid (Num a ∧ Num ex ∧ 0 ≤ 1 % md k ∧ 1 % md k < md k ∧ Num (1 % md k)) := ⟨ha, he, Int.emod_nonneg _ (by omega), Int.emod_lt_of_pos _ hp, num_f hkk⟩
  have HNM : Hid (Num (md k) ∧ 0 < md k) := ⟨nm, hp⟩
  clear ha he hp nm hkk
  generalize md k = m at *
  go_enter Tryd.func40, Tryd.ntmps40
  go_wp2_with fail
  with_reducible refine Calls.mono (HMO.out _ (hT.keep (K.alloc (K.alloc (K.alloc (Below.refl _ _) _) _) _))) ?_
  rintro e w1 ⟨rfl, hb1⟩
  clear HMO
  have X1 := (((ArrW.new w w.heap.size rfl 24 (L 0 a) (L 1 a) (L 2 a) (L 3 a)).alloc _).alloc _).keep hb1 |>.alloc (.cells #[.int .u64 (L 0 m), .int .u64 (L 1 m), .int .u64 (L 2 m), .int .u64 (L 3 m)] 56)
  have E1 := ((ArrW.new _ (w.heap.size + 1) (by simp) 24 (L 0 ex) (L 1 ex) (L 2 ex) (L 3 ex)).alloc _).keep hb1 |>.alloc (.cells #[.int .u64 (L 0 m), .int .u64 (L 1 m), .int .u64 (L 2 m), .int .u64 (L 3 m)] 56)
  have R1 := (ArrW.new _ (w.heap.size + 1 + 1) (by simp) 24 0 0 0 0).keep hb1 |>.alloc (.cells #[.int .u64 (L 0 m), .int .u64 (L 1 m), .int .u64 (L 2 m), .int .u64 (L 3 m)] 56)
  have M1 := Arr.new w1 w1.heap.size rfl 56 (L 0 m) (L 1 m) (L 2 m) (L 3 m)
  have hw1 : Below w.heap.size w (w1.alloc (.cells #[.int .u64 (L 0 m), .int .u64 (L 1 m), .int .u64 (L 2 m), .int .u64 (L 3 m)] 56)) := K.alloc (K.call (K.alloc (K.alloc (K.alloc (Below.refl _ w) _) _) _) hb1) _
  clear hb1 hT
  go_wp2_with fail
  with_reducible refine Calls.mono (HF.out _) ?_
  rintro e w2 ⟨rfl, hb2⟩
  generalize h1m : 1 % m = y0 at *
  have HY : Hid (1 % m = y0) := h1m
  clear h1m
  have hS1 : PowS w (w2.alloc (.cells #[.int .u64 (L 0 y0), .int .u64 (L 1 y0), .int .u64 (L 2 y0), .int .u64 (L 3 y0)] 24)) w2.heap.size a ex y0 :=
    ⟨K.alloc (K.call hw1 hb2) _, (X1.keep hb2).alloc _, (E1.keep hb2).alloc _, (R1.keep hb2).alloc _, ArrW.new w2 w2.heap.size rfl 24 _ _ _ _⟩
  have hn : w.heap.size + 1 + 1 < w2.heap.size := by have := R1.lt; have := hb2.size; omega
  clear hb2 X1 E1 R1 M1 hw1 HF
  go_wp2_with fail
  go_loopg [] ex.toNat (fun g wr => ∃ x y f : Int, g = f.toNat ∧ Num f ∧ Num x ∧ Num y ∧ (0 ≤ y ∧ y < m) ∧ y * pw x f % m = pw a ex % m ∧ PowS w wr w2.heap.size x f y)
  case atStart =>
    have h := H0.out
    exact ⟨a, y0, ex, rfl, h.2.1, h.1, h.2.2.2.2, ⟨h.2.2.1, h.2.2.2.1⟩, by rw [← HY.out, mul_mod_l, Int.one_mul], hS1⟩
  case round =>
    clear hS1
    obtain ⟨x, y, f, hg, nf, nx, ny, hy, hinv, hS⟩ := hrel
    have hS0 := hS
    obtain ⟨hbw, ⟨al, a0, a1, a2, a3, af0, af1, af2, af3⟩, ⟨el, e0, e1, e2, e3, ef0, ef1, ef2, ef3⟩, ⟨rl, r0, r1, r2, r3, rf0, rf1, rf2, rf3⟩, ⟨pl, p0, p1, p2, p3, pf0, pf1, pf2, pf3⟩⟩ := hS0
    by_cases hf : f = 0
    · have HV : Hid (y = pw a ex % m) := by rw [← hinv, hf, pw_zero, Int.mul_one]; exact (Int.emod_eq_of_lt hy.1 hy.2).symm
      have HE : ∀ w, (Op.equalIn 10000 24 (.agg #[.int .u64 (L 0 f), .int .u64 (L 1 f), .int .u64 (L 2 f), .int .u64 (L 3 f)]) (.agg #[.int .u64 0, .int .u64 0, .int .u64 0, .int .u64 0])).run Tryd.prog w = .ok true w := by
        intro w; rw [eq4, hf, L_zero, L_zero, L_zero, L_zero]; rfl
      clear hg hinv hy nf nx ny hf
      go_wp2_with fail
      refine bodyPost_ret (v := .agg #[.int .u64 (L 0 y), .int .u64 (L 1 y), .int .u64 (L 2 y), .int .u64 (L 3 y)]) (by simp [results, Tryd.results40, go_sem, r0, r1, r2, r3]) rfl ⟨by rw [← HV.out], K.set4 hS.below (by omega) _ _ _ _⟩
    · have HE : ∀ w, (Op.equalIn 10000 24 (.agg #[.int .u64 (L 0 f), .int .u64 (L 1 f), .int .u64 (L 2 f), .int .u64 (L 3 f)]) (.agg #[.int .u64 0, .int .u64 0, .int .u64 0, .int .u64 0])).run Tryd.prog w = .ok false w := by
        intro w; rw [eq4, words_not nf hf]
      have hm := HNM.out
      have HH : Hid (∀ w, Calls Tryd.prog 47 #[.agg #[.int .u64 (L 0 f), .int .u64 (L 1 f), .int .u64 (L 2 f), .int .u64 (L 3 f)]] w fun e w' => e = .returned (.agg #[.int .u64 (L 0 (f / 2)), .int .u64 (L 1 (f / 2)), .int .u64 (L 2 (f / 2)), .int .u64 (L 3 (f / 2))]) ∧ Below w.heap.size w w') := fun w => half_any nf w
      have HP2 : Hid (∀ w, Calls Tryd.prog 42 #[.agg #[.int .u64 (L 0 m), .int .u64 (L 1 m), .int .u64 (L 2 m), .int .u64 (L 3 m)], .agg #[.int .u64 (L 0 x), .int .u64 (L 1 x), .int .u64 (L 2 x), .int .u64 (L 3 x)], .agg #[.int .u64 (L 0 x), .int .u64 (L 1 x), .int .u64 (L 2 x), .int .u64 (L 3 x)]] w fun e w' => e = .returned (.agg #[.int .u64 (L 0 (x * x % m)), .int .u64 (L 1 (x * x % m)), .int .u64 (L 2 (x * x % m)), .int .u64 (L 3 (x * x % m))]) ∧ Below w.heap.size w w') := fun w => HPR.out x x w nx nx
      have fl := nf.lo
      have fh := nf.hi
      have nx' : Num (x * x % m) := num_mod hm.1 hm.2
      have nf' : Num (f / 2) := ⟨by omega, by omega⟩
      by_cases ho : f % 2 = 1
      · have HB : ∀ w, Calls Tryd.prog 29 #[.agg #[.int .u64 (L 0 f), .int .u64 (L 1 f), .int .u64 (L 2 f), .int .u64 (L 3 f)], .int .i64 0] w fun e w' => e = .returned (.int .i64 1) ∧ Below w.heap.size w w' := by
          intro w; have h := bit_any f 0 w; rwa [bt_0, ho] at h
        have HP1 : Hid (∀ w, Calls Tryd.prog 42 #[.agg #[.int .u64 (L 0 m), .int .u64 (L 1 m), .int .u64 (L 2 m), .int .u64 (L 3 m)], .agg #[.int .u64 (L 0 y), .int .u64 (L 1 y), .int .u64 (L 2 y), .int .u64 (L 3 y)], .agg #[.int .u64 (L 0 x), .int .u64 (L 1 x), .int .u64 (L 2 x), .int .u64 (L 3 x)]] w fun e w' => e = .returned (.agg #[.int .u64 (L 0 (y * x % m)), .int .u64 (L 1 (y * x % m)), .int .u64 (L 2 (y * x % m)), .int .u64 (L 3 (y * x % m))]) ∧ Below w.heap.size w w') := fun w => HPR.out y x w ny nx
        have HI : Hid (Num (f / 2) ∧ Num (x * x % m) ∧ Num (y * x % m) ∧ (0 ≤ y * x % m ∧ y * x % m < m) ∧ (y * x % m) * pw (x * x % m) (f / 2) % m = pw a ex % m ∧ 0 < f ∧ gk = f.toNat) :=
          ⟨nf', nx', num_mod hm.1 hm.2, ⟨Int.emod_nonneg _ (by omega), Int.emod_lt_of_pos _ hm.2⟩, by rw [inv_odd (by omega) ho, hinv], by omega, hg⟩
        clear hg hinv hy nf nx ny hf nx' nf' ho fl fh hm
        generalize x * x % m = x' at *
        generalize y * x % m = y' at *
        go_wp2_with fail
        with_reducible refine Calls.mono (HB _) ?_
        clear hbw al a0 a1 a2 a3 af0 af1 af2 af3 el e0 e1 e2 e3 ef0 ef1 ef2 ef3 rl r0 r1 r2 r3 rf0 rf1 rf2 rf3 pl p0 p1 p2 p3 pf0 pf1 pf2 pf3
        rintro e w3 ⟨rfl, hb⟩
        have hS3 := hS.call hb
        clear hb hS
        have hS0 := hS3
        obtain ⟨hbw, ⟨al, a0, a1, a2, a3, af0, af1, af2, af3⟩, ⟨el, e0, e1, e2, e3, ef0, ef1, ef2, ef3⟩, ⟨rl, r0, r1, r2, r3, rf0, rf1, rf2, rf3⟩, ⟨pl, p0, p1, p2, p3, pf0, pf1, pf2, pf3⟩⟩ := hS0
        go_wp2_with fail
        with_reducible refine Calls.mono (HP1.out _) ?_
        clear hbw al a0 a1 a2 a3 af0 af1 af2 af3 el e0 e1 e2 e3 ef0 ef1 ef2 ef3 rl r0 r1 r2 r3 rf0 rf1 rf2 rf3 pl p0 p1 p2 p3 pf0 pf1 pf2 pf3
        rintro e w4 ⟨rfl, hb⟩
        have hS4 := hS3.call hb
        clear hb hS3
        have hS0 := hS4
        obtain ⟨hbw, ⟨al, a0, a1, a2, a3, af0, af1, af2, af3⟩, ⟨el, e0, e1, e2, e3, ef0, ef1, ef2, ef3⟩, ⟨rl, r0, r1, r2, r3, rf0, rf1, rf2, rf3⟩, ⟨pl, p0, p1, p2, p3, pf0, pf1, pf2, pf3⟩⟩ := hS0
        go_upto_region 7 with fail
        refine wp_world (fun W => PowS w W w2.heap.size x f y') (hS4.storeP hn y') ?_
        clear hbw al a0 a1 a2 a3 af0 af1 af2 af3 el e0 e1 e2 e3 ef0 ef1 ef2 ef3 rl r0 r1 r2 r3 rf0 rf1 rf2 rf3 pl p0 p1 p2 p3 pf0 pf1 pf2 pf3 hS4
        intro w5 hS5
        have hS0 := hS5
        obtain ⟨hbw, ⟨al, a0, a1, a2, a3, af0, af1, af2, af3⟩, ⟨el, e0, e1, e2, e3, ef0, ef1, ef2, ef3⟩, ⟨rl, r0, r1, r2, r3, rf0, rf1, rf2, rf3⟩, ⟨pl, p0, p1, p2, p3, pf0, pf1, pf2, pf3⟩⟩ := hS0
        go_wp2_with fail
        with_reducible refine Calls.mono (HP2.out _) ?_
        clear hbw al a0 a1 a2 a3 af0 af1 af2 af3 el e0 e1 e2 e3 ef0 ef1 ef2 ef3 rl r0 r1 r2 r3 rf0 rf1 rf2 rf3 pl p0 p1 p2 p3 pf0 pf1 pf2 pf3
        rintro e w6 ⟨rfl, hb⟩
        have hS6 := hS5.call hb
        clear hb hS5
        have hS0 := hS6
        obtain ⟨hbw, ⟨al, a0, a1, a2, a3, af0, af1, af2, af3⟩, ⟨el, e0, e1, e2, e3, ef0, ef1, ef2, ef3⟩, ⟨rl, r0, r1, r2, r3, rf0, rf1, rf2, rf3⟩, ⟨pl, p0, p1, p2, p3, pf0, pf1, pf2, pf3⟩⟩ := hS0
        go_upto_region 8 with fail
        refine wp_world (fun W => PowS w W w2.heap.size x' f y') (hS6.storeA hn x') ?_
        clear hbw al a0 a1 a2 a3 af0 af1 af2 af3 el e0 e1 e2 e3 ef0 ef1 ef2 ef3 rl r0 r1 r2 r3 rf0 rf1 rf2 rf3 pl p0 p1 p2 p3 pf0 pf1 pf2 pf3 hS6
        intro w7 hS7
        have hS0 := hS7
        obtain ⟨hbw, ⟨al, a0, a1, a2, a3, af0, af1, af2, af3⟩, ⟨el, e0, e1, e2, e3, ef0, ef1, ef2, ef3⟩, ⟨rl, r0, r1, r2, r3, rf0, rf1, rf2, rf3⟩, ⟨pl, p0, p1, p2, p3, pf0, pf1, pf2, pf3⟩⟩ := hS0
        go_wp2_with fail
        with_reducible refine Calls.mono (HH.out _) ?_
        clear hbw al a0 a1 a2 a3 af0 af1 af2 af3 el e0 e1 e2 e3 ef0 ef1 ef2 ef3 rl r0 r1 r2 r3 rf0 rf1 rf2 rf3 pl p0 p1 p2 p3 pf0 pf1 pf2 pf3
        rintro e w8 ⟨rfl, hb⟩
        have hS8 := hS7.call hb
        clear hb hS7
        have hS0 := hS8
        obtain ⟨hbw, ⟨al, a0, a1, a2, a3, af0, af1, af2, af3⟩, ⟨el, e0, e1, e2, e3, ef0, ef1, ef2, ef3⟩, ⟨rl, r0, r1, r2, r3, rf0, rf1, rf2, rf3⟩, ⟨pl, p0, p1, p2, p3, pf0, pf1, pf2, pf3⟩⟩ := hS0
        go_wp2_with fail
        go_roundg (f / 2).toNat
        case measure => have := HI.out; omega
        case rel => exact ⟨x', y', f / 2, rfl, HI.out.1, HI.out.2.1, HI.out.2.2.1, HI.out.2.2.2.1, HI.out.2.2.2.2.1, hS8.storeE hn (f / 2)⟩
      · have hz : f % 2 = 0 := by omega
        have HB : ∀ w, Calls Tryd.prog 29 #[.agg #[.int .u64 (L 0 f), .int .u64 (L 1 f), .int .u64 (L 2 f), .int .u64 (L 3 f)], .int .i64 0] w fun e w' => e = .returned (.int .i64 0) ∧ Below w.heap.size w w' := by
          intro w; have h := bit_any f 0 w; rwa [bt_0, hz] at h
        have HI : Hid (Num (f / 2) ∧ Num (x * x % m) ∧ Num y ∧ (0 ≤ y ∧ y < m) ∧ y * pw (x * x % m) (f / 2) % m = pw a ex % m ∧ 0 < f ∧ gk = f.toNat) :=
          ⟨nf', nx', ny, hy, by rw [inv_even hz, hinv], by omega, hg⟩
        clear hg hinv hy nf nx ny hf nx' nf' ho hz fl fh hm
        generalize x * x % m = x' at *
        go_wp2_with fail
        with_reducible refine Calls.mono (HB _) ?_
        clear hbw al a0 a1 a2 a3 af0 af1 af2 af3 el e0 e1 e2 e3 ef0 ef1 ef2 ef3 rl r0 r1 r2 r3 rf0 rf1 rf2 rf3 pl p0 p1 p2 p3 pf0 pf1 pf2 pf3
        rintro e w3 ⟨rfl, hb⟩
        have hS3 := hS.call hb
        clear hb hS
        have hS0 := hS3
        obtain ⟨hbw, ⟨al, a0, a1, a2, a3, af0, af1, af2, af3⟩, ⟨el, e0, e1, e2, e3, ef0, ef1, ef2, ef3⟩, ⟨rl, r0, r1, r2, r3, rf0, rf1, rf2, rf3⟩, ⟨pl, p0, p1, p2, p3, pf0, pf1, pf2, pf3⟩⟩ := hS0
        go_wp2_with fail
        with_reducible refine Calls.mono (HP2.out _) ?_
        clear hbw al a0 a1 a2 a3 af0 af1 af2 af3 el e0 e1 e2 e3 ef0 ef1 ef2 ef3 rl r0 r1 r2 r3 rf0 rf1 rf2 rf3 pl p0 p1 p2 p3 pf0 pf1 pf2 pf3
        rintro e w6 ⟨rfl, hb⟩
        have hS6 := hS3.call hb
        clear hb hS3
        have hS0 := hS6
        obtain ⟨hbw, ⟨al, a0, a1, a2, a3, af0, af1, af2, af3⟩, ⟨el, e0, e1, e2, e3, ef0, ef1, ef2, ef3⟩, ⟨rl, r0, r1, r2, r3, rf0, rf1, rf2, rf3⟩, ⟨pl, p0, p1, p2, p3, pf0, pf1, pf2, pf3⟩⟩ := hS0
        go_upto_region 8 with fail
        refine wp_world (fun W => PowS w W w2.heap.size x' f y) (hS6.storeA hn x') ?_
        clear hbw al a0 a1 a2 a3 af0 af1 af2 af3 el e0 e1 e2 e3 ef0 ef1 ef2 ef3 rl r0 r1 r2 r3 rf0 rf1 rf2 rf3 pl p0 p1 p2 p3 pf0 pf1 pf2 pf3 hS6
        intro w7 hS7
        have hS0 := hS7
        obtain ⟨hbw, ⟨al, a0, a1, a2, a3, af0, af1, af2, af3⟩, ⟨el, e0, e1, e2, e3, ef0, ef1, ef2, ef3⟩, ⟨rl, r0, r1, r2, r3, rf0, rf1, rf2, rf3⟩, ⟨pl, p0, p1, p2, p3, pf0, pf1, pf2, pf3⟩⟩ := hS0
        go_wp2_with fail
        with_reducible refine Calls.mono (HH.out _) ?_
        clear hbw al a0 a1 a2 a3 af0 af1 af2 af3 el e0 e1 e2 e3 ef0 ef1 ef2 ef3 rl r0 r1 r2 r3 rf0 rf1 rf2 rf3 pl p0 p1 p2 p3 pf0 pf1 pf2 pf3
        rintro e w8 ⟨rfl, hb⟩
        have hS8 := hS7.call hb
        clear hb hS7
        have hS0 := hS8
        obtain ⟨hbw, ⟨al, a0, a1, a2, a3, af0, af1, af2, af3⟩, ⟨el, e0, e1, e2, e3, ef0, ef1, ef2, ef3⟩, ⟨rl, r0, r1, r2, r3, rf0, rf1, rf2, rf3⟩, ⟨pl, p0, p1, p2, p3, pf0, pf1, pf2, pf3⟩⟩ := hS0
        go_wp2_with fail
        go_roundg (f / 2).toNat
        case measure => have := HI.out; omega
        case rel => exact ⟨x', y, f / 2, rfl, HI.out.1, HI.out.2.1, HI.out.2.2.1, HI.out.2.2.2.1, HI.out.2.2.2.2.1, hS8.storeE hn (f / 2)⟩
end Go.Proofs.YtolehamdaceikabDoor
namespace Go.Proofs.YtolehamdaceikabDoor
open Go.RowKit
attribute [local go_sem ↓] Go.wp_at_zero Go.wp_at_succ

set_option maxHeartbeats 1000000 in
theorem f_mod (k : Int) {w : World} (hT : Tab w) : Calls Tryd.prog 34 #[.int .i64 k] w fun e w' => e = .returned (.agg #[.int .u64 (L 0 (md k)), .int .u64 (L 1 (md k)), .int .u64 (L 2 (md k)), .int .u64 (L 3 (md k))]) ∧ Below w.heap.size w w' := by
  go_enter Tryd.func34, Tryd.ntmps34
  go_wp2_with fail
  with_reducible refine Calls.mono (modOf_any k (hT.keep (K.alloc (Below.refl _ _) _))) ?_
  rintro e w1 ⟨rfl, hb1⟩
  have ⟨kr, kr0, kr1, kr2, kr3, kf0, kf1, kf2, kf3⟩ := (ArrW.new w w.heap.size rfl 24 0 0 0 0).keep hb1
  have hw1 : Below w.heap.size w w1 := K.call (K.alloc (Below.refl _ w) _) hb1
  go_wp2_with fail
  exact bodyPost_ret (v := .agg #[.int .u64 (L 0 (md k)), .int .u64 (L 1 (md k)), .int .u64 (L 2 (md k)), .int .u64 (L 3 (md k))]) (by simp [results, Tryd.results34, go_sem, kr0, kr1, kr2, kr3]) rfl ⟨rfl, K.set4 hw1 (by omega) _ _ _ _⟩
end Go.Proofs.YtolehamdaceikabDoor
namespace Go.Proofs.YtolehamdaceikabDoor
open Go.RowKit
attribute [local go_sem ↓] Go.wp_at_zero Go.wp_at_succ

theorem full_md {k : Int} (hk : 0 ≤ k ∧ k ≤ 3) : Full (md k).toNat := by
  rcases md_cases hk with rfl | rfl | rfl | rfl
  · exact mod0_full
  · exact mod1_full
  · exact mod2_full
  · exact mod3_full
theorem md_big {k : Int} (hk : 0 ≤ k ∧ k ≤ 3) : 4 < md k := by
  rcases md_cases hk with rfl | rfl | rfl | rfl <;> decide
theorem fermat_int {k a : Int} (hk : 0 ≤ k ∧ k ≤ 3) (ha : 0 ≤ a) (h : a % md k ≠ 0) : a ^ ((md k).toNat - 1) % md k = 1 := by
  have hb := md_big hk
  have F := full_md hk
  obtain ⟨m, hm⟩ := Int.eq_ofNat_of_zero_le (show 0 ≤ md k by omega)
  rw [hm] at h F ⊢
  obtain ⟨a, rfl⟩ := Int.eq_ofNat_of_zero_le ha
  simp only [Int.toNat_natCast] at F ⊢
  have hd : ¬ m ∣ a := fun hd => h (by have := Nat.mod_eq_zero_of_dvd hd; omega)
  have e := F.fermat a hd
  have e2 : ((a ^ (m - 1) % m : Nat) : Int) = 1 := by rw [e]; rfl
  rw [Int.natCast_emod, Int.natCast_pow] at e2
  exact e2
theorem inv_one {k a : Int} (hk : 0 ≤ k ∧ k ≤ 3) (ha : 0 ≤ a) (h : a % md k ≠ 0) : a * (pw a (md k - 2) % md k) % md k = 1 := by
  have hb := md_big hk
  rw [mul_mod_r]
  unfold pw
  have e : (md k).toNat - 1 = (md k - 2).toNat + 1 := by omega
  have f := fermat_int hk ha h
  rw [e, Int.pow_succ, Int.mul_comm] at f
  exact f
theorem inv_back {k a : Int} (hk : 0 ≤ k ∧ k ≤ 3) (ha : 0 ≤ a) (h : a % md k ≠ 0) : pw (pw a (md k - 2) % md k) (md k - 2) % md k = a % md k := by
  have hb := md_big hk
  rw [pw_mod]
  unfold pw
  obtain ⟨s, hs⟩ : ∃ s, (md k - 2).toNat = s + 1 := ⟨(md k - 2).toNat - 1, by omega⟩
  have e : (md k).toNat - 1 = s + 2 := by omega
  have f := fermat_int hk ha h
  rw [e] at f
  rw [hs, ← Int.pow_mul, show (s + 1) * (s + 1) = (s + 2) * s + 1 by rw [Nat.add_mul, Nat.mul_add, Nat.add_mul]; omega, Int.pow_succ, Int.pow_mul, ← mul_mod_l, ← pow_mod_any, f, Int.one_pow, mul_mod_l, Int.one_mul]
theorem inv_none {k a : Int} (hk : 0 ≤ k ∧ k ≤ 3) (h : a % md k = 0) : pw a (md k - 2) % md k = 0 := by
  have hb := md_big hk
  rw [← pw_mod, h]
  unfold pw
  obtain ⟨s, hs⟩ : ∃ s, (md k - 2).toNat = s + 1 := ⟨(md k - 2).toNat - 1, by omega⟩
  rw [hs, Int.pow_succ, Int.mul_zero, Int.zero_emod]

set_option maxHeartbeats 2000000 in
theorem f_inv {k a : Int} (hkk : 0 ≤ k ∧ k ≤ 3) (ha : Num a) {w : World} (hT : Tab w) : Calls Tryd.prog 28 #[.int .i64 k, .agg #[.int .u64 (L 0 a), .int .u64 (L 1 a), .int .u64 (L 2 a), .int .u64 (L 3 a)]] w fun e w' => e = .returned (.agg #[.int .u64 (L 0 (pw a (md k - 2) % md k)), .int .u64 (L 1 (pw a (md k - 2) % md k)), .int .u64 (L 2 (pw a (md k - 2) % md k)), .int .u64 (L 3 (pw a (md k - 2) % md k))]) ∧ Below w.heap.size w w' := by
  have hb := md_big hkk
  have nm := md_num k
  have ne : Num (md k - 2) := ⟨by omega, by have := nm.hi; omega⟩
  have HS : Hid (∀ w, Calls Tryd.prog 39 #[.agg #[.int .u64 (L 0 (md k)), .int .u64 (L 1 (md k)), .int .u64 (L 2 (md k)), .int .u64 (L 3 (md k))], .agg #[.int .u64 2, .int .u64 0, .int .u64 0, .int .u64 0]] w fun e w' => e = .returned (.tuple #[.agg #[.int .u64 (L 0 (md k - 2)), .int .u64 (L 1 (md k - 2)), .int .u64 (L 2 (md k - 2)), .int .u64 (L 3 (md k - 2))], .bool (D (md k) 2 4 == 1)]) ∧ Below w.heap.size w w') := by
    intro w
    have h := sub_walk (md k) 2 w
    have b0 : L 0 2 = 2 := by decide
    have b1 : L 1 2 = 0 := by decide
    have b2 : L 2 2 = 0 := by decide
    have b3 : L 3 2 = 0 := by decide
    rw [b0, b1, b2, b3] at h
    exact h
  have HP : Hid (∀ w, Tab w → Calls Tryd.prog 40 #[.int .i64 k, .agg #[.int .u64 (L 0 a), .int .u64 (L 1 a), .int .u64 (L 2 a), .int .u64 (L 3 a)], .agg #[.int .u64 (L 0 (md k - 2)), .int .u64 (L 1 (md k - 2)), .int .u64 (L 2 (md k - 2)), .int .u64 (L 3 (md k - 2))]] w fun e w' => e = .returned (.agg #[.int .u64 (L 0 (pw a (md k - 2) % md k)), .int .u64 (L 1 (pw a (md k - 2) % md k)), .int .u64 (L 2 (pw a (md k - 2) % md k)), .int .u64 (L 3 (pw a (md k - 2) % md k))]) ∧ Below w.heap.size w w') := fun w hT => f_pow hkk ha ne hT
  have HM : Hid (∀ w, Tab w → Calls Tryd.prog 34 #[.int .i64 k] w fun e w' => e = .returned (.agg #[.int .u64 (L 0 (md k)), .int .u64 (L 1 (md k)), .int .u64 (L 2 (md k)), .int .u64 (L 3 (md k))]) ∧ Below w.heap.size w w') := fun w hT => f_mod k hT
  clear hkk ha ne nm hb
  generalize pw a (md k - 2) % md k = i at *
  generalize md k - 2 = ex at *
  generalize md k = m at *
  generalize (D m 2 4 == 1) = u at *
  go_enter Tryd.func28, Tryd.ntmps28
  go_wp2_with fail
  with_reducible refine Calls.mono (HM.out _ (hT.keep (K.alloc (K.alloc (Below.refl _ _) _) _))) ?_
  rintro e w1 ⟨rfl, hb1⟩
  have A1 := ((Arr.new w w.heap.size rfl 24 (L 0 a) (L 1 a) (L 2 a) (L 3 a)).alloc _).keep hb1
  have R1 := (ArrW.new _ (w.heap.size + 1) (by simp) 24 0 0 0 0).keep hb1
  have hw1 : Below w.heap.size w w1 := K.call (K.alloc (K.alloc (Below.refl _ w) _) _) hb1
  clear hb1
  go_wp2_with fail
  with_reducible refine Calls.mono (HS.out _) ?_
  rintro e w2 ⟨rfl, hb2⟩
  have A2 := (A1.keep hb2).alloc (.cells #[.int .u64 (L 0 ex), .int .u64 (L 1 ex), .int .u64 (L 2 ex), .int .u64 (L 3 ex)] 24)
  have R2 := (R1.keep hb2).alloc (.cells #[.int .u64 (L 0 ex), .int .u64 (L 1 ex), .int .u64 (L 2 ex), .int .u64 (L 3 ex)] 24)
  have E2 := Arr.new w2 w2.heap.size rfl 24 (L 0 ex) (L 1 ex) (L 2 ex) (L 3 ex)
  have hw2 : Below w.heap.size w (w2.alloc (.cells #[.int .u64 (L 0 ex), .int .u64 (L 1 ex), .int .u64 (L 2 ex), .int .u64 (L 3 ex)] 24)) := K.alloc (K.call hw1 hb2) _
  have hT2 := hT.keep hw2
  clear hb2 A1 R1 hw1 hT
  have ⟨ka, ka0, ka1, ka2, ka3⟩ := A2
  have ⟨ke, ke0, ke1, ke2, ke3⟩ := E2
  go_wp2_with fail
  with_reducible refine Calls.mono (HP.out _ hT2) ?_
  clear ka ka0 ka1 ka2 ka3 ke ke0 ke1 ke2 ke3
  rintro e w3 ⟨rfl, hb3⟩
  have ⟨kr, kr0, kr1, kr2, kr3, kf0, kf1, kf2, kf3⟩ := R2.keep hb3
  have hw3 : Below w.heap.size w w3 := K.call hw2 hb3
  go_wp2_with fail
  exact bodyPost_ret (v := .agg #[.int .u64 (L 0 i), .int .u64 (L 1 i), .int .u64 (L 2 i), .int .u64 (L 3 i)]) (by simp [results, Tryd.results28, go_sem, kr0, kr1, kr2, kr3]) rfl ⟨rfl, K.set4 hw3 (by omega) _ _ _ _⟩
end Go.Proofs.YtolehamdaceikabDoor
namespace Go.Proofs.YtolehamdaceikabDoor
open Go.RowKit

def gc (x : Fin m2) : List Value := nc (x.val : Int)
theorem nz_gc : nz = gc 0 := by kernel_rfl
theorem md_m2 : md 2 = (m2 : Int) := by kernel_rfl
theorem gin_num (x : Fin m2) : Num (x.val : Int) := ⟨by omega, by have := x.isLt; unfold m2 q2 at this; unfold M; omega⟩
theorem gc_mul (x y : Fin m2) : gc (x * y) = nc ((x.val : Int) * y.val % md 2) := by
  rw [gc, Fin.val_mul, Int.natCast_emod, Int.natCast_mul, md_m2]
theorem gc_add (x y : Fin m2) : gc (x + y) = nc (((x.val : Int) + y.val) % md 2) := by
  rw [gc, Fin.val_add, Int.natCast_emod, Int.natCast_add, md_m2]
theorem gc_sub (x y : Fin m2) : gc (x - y) = nc (((x.val : Int) - y.val) % md 2) := by
  rw [gc, md_m2]
  congr 1
  have h := kc_sub (p := m2) (x.val : Int) (y.val : Int)
  rw [kc_self, kc_self] at h
  rw [← h, kc_val]
theorem gc_inv (x : Fin m2) : gc (fiv x) = nc (pw (x.val : Int) (md 2 - 2) % md 2) := by
  rw [gc, fiv, kc_val, md_m2]
  unfold pw
  rw [show ((m2 : Int) - 2).toNat = m2 - 2 by unfold m2 q2; omega]
theorem d_add {w : World} (hT : Tab w) (x y : Fin m2) : Calls Tryd.prog 37 [.int .i64 2, .agg (gc x).toArray, .agg (gc y).toArray].toArray w fun e w' => e = .returned (.agg (gc (x + y)).toArray) ∧ Below w.heap.size w w' := by
  rw [gc_add]
  exact f_add (k := 2) ⟨by decide, by decide⟩ (gin_num x) (gin_num y) hT
theorem d_sub {w : World} (hT : Tab w) (x y : Fin m2) : Calls Tryd.prog 36 [.int .i64 2, .agg (gc x).toArray, .agg (gc y).toArray].toArray w fun e w' => e = .returned (.agg (gc (x - y)).toArray) ∧ Below w.heap.size w w' := by
  rw [gc_sub]
  exact f_sub (k := 2) ⟨by decide, by decide⟩ (gin_num x) (gin_num y) hT
theorem d_mul {w : World} (hT : Tab w) (x y : Fin m2) : Calls Tryd.prog 35 [.int .i64 2, .agg (gc x).toArray, .agg (gc y).toArray].toArray w fun e w' => e = .returned (.agg (gc (x * y)).toArray) ∧ Below w.heap.size w w' := by
  rw [gc_mul]
  exact f_mul (k := 2) ⟨by decide, by decide⟩ (gin_num x) (gin_num y) hT
theorem d_inv {w : World} (hT : Tab w) (x : Fin m2) : Calls Tryd.prog 28 [.int .i64 2, .agg (gc x).toArray].toArray w fun e w' => e = .returned (.agg (gc (fiv x)).toArray) ∧ Below w.heap.size w w' := by
  rw [gc_inv]
  exact f_inv (k := 2) ⟨by decide, by decide⟩ (gin_num x) hT
theorem eq_gc (x y : Fin m2) (w : World) : (Op.equalIn 10000 24 (.agg (gc x).toArray) (.agg (gc y).toArray)).run Tryd.prog w = .ok (decide (x = y)) w := by
  rw [gc, gc, eq_nc (gin_num x) (gin_num y)]
  have : ((x.val : Int) = (y.val : Int)) = (x = y) := by
    apply propext
    constructor
    · intro h; exact Fin.ext (by omega)
    · intro h; rw [h]
  simp only [this]
theorem eqg_t {x y : Fin m2} (h : x = y) (w : World) : (Op.equalIn 10000 24 (.agg (gc x).toArray) (.agg (gc y).toArray)).run Tryd.prog w = .ok true w := by rw [eq_gc, decide_eq_true h]
theorem eqg_f {x y : Fin m2} (h : ¬ x = y) (w : World) : (Op.equalIn 10000 24 (.agg (gc x).toArray) (.agg (gc y).toArray)).run Tryd.prog w = .ok false w := by rw [eq_gc, decide_eq_false h]
theorem eqgz_t {x : Fin m2} (h : x = 0) (w : World) : (Op.equalIn 10000 24 (.agg (gc x).toArray) (.agg nz.toArray)).run Tryd.prog w = .ok true w := by rw [nz_gc]; exact eqg_t h w
theorem eqgz_f {x : Fin m2} (h : ¬ x = 0) (w : World) : (Op.equalIn 10000 24 (.agg (gc x).toArray) (.agg nz.toArray)).run Tryd.prog w = .ok false w := by rw [nz_gc]; exact eqg_f h w
end Go.Proofs.YtolehamdaceikabDoor
namespace Go.Proofs.YtolehamdaceikabDoor
open Go.RowKit
attribute [local go_sem ↓] Go.wp_at_zero Go.wp_at_succ

set_option maxHeartbeats 2000000 in
theorem below_walk {k a m : Int} {c : Int} {w : World}
    (H1 : Hid (∀ w1, Below w.heap.size w w1 → Calls Tryd.prog 34 #[.int .i64 k] w1 fun e w' => e = .returned (.agg #[.int .u64 (L 0 m), .int .u64 (L 1 m), .int .u64 (L 2 m), .int .u64 (L 3 m)]) ∧ Below w1.heap.size w1 w'))
    (H2 : Hid (∀ w, Calls Tryd.prog 33 #[.agg #[.int .u64 (L 0 a), .int .u64 (L 1 a), .int .u64 (L 2 a), .int .u64 (L 3 a)], .agg #[.int .u64 (L 0 m), .int .u64 (L 1 m), .int .u64 (L 2 m), .int .u64 (L 3 m)]] w fun e w' => e = .returned (.int .i64 c) ∧ Below w.heap.size w w')) :
    Calls Tryd.prog 20 #[.int .i64 k, .agg #[.int .u64 (L 0 a), .int .u64 (L 1 a), .int .u64 (L 2 a), .int .u64 (L 3 a)]] w fun e w' => e = .returned (.bool (decide (c < 0))) ∧ Below w.heap.size w w' := by
  have A1 := Arr.new w w.heap.size rfl 24 (L 0 a) (L 1 a) (L 2 a) (L 3 a)
  have hw : Below w.heap.size w (w.alloc (.cells #[.int .u64 (L 0 a), .int .u64 (L 1 a), .int .u64 (L 2 a), .int .u64 (L 3 a)] 24)) := K.alloc (Below.refl _ _) _
  go_enter Tryd.func20, Tryd.ntmps20
  go_wp2_with fail
  generalize w.alloc (.cells #[.int .u64 (L 0 a), .int .u64 (L 1 a), .int .u64 (L 2 a), .int .u64 (L 3 a)] 24) = W0 at *
  have ⟨ka, ka0, ka1, ka2, ka3⟩ := A1
  have hS : Hid (∀ w', Below W0.heap.size W0 w' → (Below W0.heap.size W0 w' ∧ w'.cell? ⟨w.heap.size, 0, none⟩ = some (.int .u64 (L 0 a)) ∧ w'.cell? ⟨w.heap.size, 1, none⟩ = some (.int .u64 (L 1 a)) ∧ w'.cell? ⟨w.heap.size, 2, none⟩ = some (.int .u64 (L 2 a)) ∧ w'.cell? ⟨w.heap.size, 3, none⟩ = some (.int .u64 (L 3 a)))) := fun w' hB => ⟨hB, later hB ka0, later hB ka1, later hB ka2, later hB ka3⟩
  clear ka ka0 ka1 ka2 ka3
  go_region_held3 (fun w' => Below W0.heap.size W0 w' ∧ w'.cell? ⟨w.heap.size, 0, none⟩ = some (.int .u64 (L 0 a)) ∧ w'.cell? ⟨w.heap.size, 1, none⟩ = some (.int .u64 (L 1 a)) ∧ w'.cell? ⟨w.heap.size, 2, none⟩ = some (.int .u64 (L 2 a)) ∧ w'.cell? ⟨w.heap.size, 3, none⟩ = some (.int .u64 (L 3 a)))
    ((refine hS.out _ ?_; first | (with_reducible exact K.drew (Below.refl _ _)) | (with_reducible exact K.drew (K.alloc (Below.refl _ _) _)) | (with_reducible exact Below.refl _ _) | (with_reducible exact K.call (by go_split_ands; assumption) hk) | (with_reducible exact K.alloc (by go_split_ands; assumption) _) | (with_reducible exact K.again (by go_split_ands; assumption) (by omega) _) | (with_reducible exact K.set (by go_split_ands; assumption) (by first | omega | (simp; done) | (simp; omega)) _) | (with_reducible exact K.set (K.set (K.set (K.set (by go_split_ands; assumption) (by first | omega | (simp; done) | (simp; omega)) _) (by first | omega | (simp; done) | (simp; omega)) _) (by first | omega | (simp; done) | (simp; omega)) _) (by first | omega | (simp; done) | (simp; omega)) _)))
    (first
      | (go_at_call 34; with_reducible refine Calls.mono (H1.out _ (K.call hw (by go_split_ands; with_reducible assumption))) ?_; rintro e w' ⟨rfl, hk⟩)
      | (go_at_call 33; with_reducible refine Calls.mono (H2.out _) ?_; rintro e w' ⟨rfl, hk⟩))
  all_goals
    have hH := ‹Below _ _ _ ∧ _›
    go_wp2_with fail
    go_ret
    exact ⟨ret_bool (by simp), K.call hw hH.1⟩

theorem cmp_neg (a m : Int) : decide (cmp a m < 0) = decide (a < m) := by
  unfold cmp
  by_cases h : a < m
  · rw [if_pos h]; simp [h]
  · rw [if_neg h]; split <;> simp [h]
theorem below_any {k a : Int} (ha : Num a) {w : World} (hT : Tab w) :
    Calls Tryd.prog 20 #[.int .i64 k, .agg #[.int .u64 (L 0 a), .int .u64 (L 1 a), .int .u64 (L 2 a), .int .u64 (L 3 a)]] w fun e w' => e = .returned (.bool (decide (a < md k))) ∧ Below w.heap.size w w' := by
  have h := below_walk (k := k) (a := a) (m := md k) (c := cmp a (md k)) (w := w) (fun w1 hb => f_mod k (hT.keep hb)) (fun w => cmp_any ha (md_num k) w)
  rw [cmp_neg] at h
  exact h
end Go.Proofs.YtolehamdaceikabDoor
namespace Go.Proofs.YtolehamdaceikabDoor
open Go.RowKit

theorem i24 : (Tryd.prog.info? 24).map (·.size) = some 4 := by kernel_rfl
theorem i26 : (Tryd.prog.info? 26).map (·.size) = some 9 := by kernel_rfl
theorem i4 : (Tryd.prog.info? 4).map (·.size) = some 1 := by kernel_rfl
theorem z24 : (Tryd.prog.info? 24).map (·.zero) = some (some (.agg (nz).toArray)) := by kernel_rfl
theorem z26 : (Tryd.prog.info? 26).map (·.zero) = some (some (.agg (nz ++ nz ++ [Value.bool false]).toArray)) := by kernel_rfl
theorem hm : Tryd.prog.follows .mixedOrders = true := by kernel_rfl
theorem g_bN0 : Tryd.prog.built 24 [] = some nz.toArray := by kernel_rfl
theorem g_bN4 (a b c d : Int) : Tryd.prog.built 24 [(0, .int .u64 a), (1, .int .u64 b), (2, .int .u64 c), (3, .int .u64 d)] = some ([Value.int .u64 a] ++ [Value.int .u64 b] ++ [Value.int .u64 c] ++ [Value.int .u64 d]).toArray := by kernel_rfl
theorem g_bP (x y : Fin m2) : Tryd.prog.built 26 [(0, .agg (gc x).toArray), (1, .agg (gc y).toArray)] = some (gc x ++ gc y ++ [Value.bool false]).toArray := by kernel_rfl
theorem g_bY (y : Fin m2) : Tryd.prog.built 26 [(1, .agg (gc y).toArray)] = some (nz ++ gc y ++ [Value.bool false]).toArray := by kernel_rfl
theorem g_bPc (a b c d e f g h : Int) : Tryd.prog.built 26 [(0, .agg ([Value.int .u64 a] ++ [Value.int .u64 b] ++ [Value.int .u64 c] ++ [Value.int .u64 d]).toArray), (1, .agg ([Value.int .u64 e] ++ [Value.int .u64 f] ++ [Value.int .u64 g] ++ [Value.int .u64 h]).toArray)] = some ([Value.int .u64 a] ++ [Value.int .u64 b] ++ [Value.int .u64 c] ++ [Value.int .u64 d] ++ [Value.int .u64 e] ++ [Value.int .u64 f] ++ [Value.int .u64 g] ++ [Value.int .u64 h] ++ [Value.bool false]).toArray := by kernel_rfl
/-- Three numbers as they lie in memory; a point. -/
def fjc (p : P3 (Fin m2)) : List Value := gc p.x ++ gc p.y ++ gc p.z
def pcE (a : Ep m2) : List Value := gc a.x ++ gc a.y ++ [Value.bool false]
theorem cE37 (vs : List Value) : ∀ w, (callFunc 37 vs.toArray).run Tryd.prog w = .ok (.enter 37 vs.toArray) w := callFunc_enter Tryd.func37 (by kernel_rfl) (by kernel_rfl) _
theorem cE36 (vs : List Value) : ∀ w, (callFunc 36 vs.toArray).run Tryd.prog w = .ok (.enter 36 vs.toArray) w := callFunc_enter Tryd.func36 (by kernel_rfl) (by kernel_rfl) _
theorem cE35 (vs : List Value) : ∀ w, (callFunc 35 vs.toArray).run Tryd.prog w = .ok (.enter 35 vs.toArray) w := callFunc_enter Tryd.func35 (by kernel_rfl) (by kernel_rfl) _
theorem cE28 (vs : List Value) : ∀ w, (callFunc 28 vs.toArray).run Tryd.prog w = .ok (.enter 28 vs.toArray) w := callFunc_enter Tryd.func28 (by kernel_rfl) (by kernel_rfl) _
theorem cE15 (vs : List Value) : ∀ w, (callFunc 15 vs.toArray).run Tryd.prog w = .ok (.enter 15 vs.toArray) w := callFunc_enter Tryd.func15 (by kernel_rfl) (by kernel_rfl) _
theorem gc_one : gc 1 = [Value.int .u64 1] ++ [Value.int .u64 0] ++ [Value.int .u64 0] ++ [Value.int .u64 0] := by kernel_rfl
theorem gc_ed : gc ed = [Value.int .u64 8496970652267935907] ++ [Value.int .u64 31536524315187371] ++ [Value.int .u64 10144147576115030168] ++ [Value.int .u64 5909686906226998899] := by kernel_rfl
theorem gin_lt (x : Fin m2) : decide ((x.val : Int) < md 2) = true := by
  rw [md_m2]
  have := x.isLt
  exact decide_eq_true (by omega)
end Go.Proofs.YtolehamdaceikabDoor
namespace Go.Proofs.YtolehamdaceikabDoor
open Go.RowKit

/-- The point that two numbers and a truth stand for. -/
def rpE (X Y : Int) (t : Bool) : Ep m2 := if t = false ∧ X < md 2 ∧ Y < md 2 ∧ (kc Y : Fin m2) * kc Y - kc X * kc X = 1 + ed * (kc X * kc X * (kc Y * kc Y)) then ⟨kc X, kc Y⟩ else Ep.o m2
theorem rpE_on (X Y : Int) (t : Bool) : (rpE X Y t).on ed := by
  unfold rpE
  split
  · rename_i h; exact h.2.2.2
  · exact Ep.o_on ed
theorem nc_gc {X : Int} (h0 : 0 ≤ X) (h : X < md 2) : nc X = gc (kc X) := by
  rw [gc, kc_val, ← md_m2, Int.emod_eq_of_lt h0 h]
def rc (X Y : Int) (t : Bool) : List Value := nc X ++ nc Y ++ [Value.bool t]
theorem pcE_G : pcE eG = [Value.int .u64 14507833142362363162] ++ [Value.int .u64 7578651490590762930] ++ [Value.int .u64 13881468655802702940] ++ [Value.int .u64 2407515759118799870] ++ [Value.int .u64 7378697629483820632] ++ [Value.int .u64 7378697629483820646] ++ [Value.int .u64 7378697629483820646] ++ [Value.int .u64 7378697629483820646] ++ [Value.bool false] := by kernel_rfl
set_option maxRecDepth 100000 in
set_option maxHeartbeats 4000000 in
theorem s_Base {w : World}  : Calls Tryd.prog 15 [].toArray w fun e w' => e = .returned (.agg (pcE eG).toArray) ∧ Below w.heap.size w w' := by
  refine enter (args := []) Tryd.func15 rfl 4 rfl (lk rfl) (fun a h => ?_)
  refine go_region h hm [eN 0 (nz ++ nz ++ [Value.bool false])] (by kernel_rfl) ⟨
    fun L u => u_alloc u (gd0 rfl) 26 rfl 0 rfl rfl z26 _ rfl,
    trivial⟩ [(0, .ptr 0 0)] [(0, nz ++ nz ++ [Value.bool false])] ⟨rfl, trivial⟩ ⟨rfl, trivial⟩ rfl (fun a w h => ?_)
  refine go_region h hm [eS 1 (.val (.agg ([(Value.int IntKind.u64 14507833142362363162)] ++ [(Value.int IntKind.u64 7578651490590762930)] ++ [(Value.int IntKind.u64 13881468655802702940)] ++ [(Value.int IntKind.u64 2407515759118799870)]).toArray)), eS 2 (.val (.agg ([(Value.int IntKind.u64 7378697629483820632)] ++ [(Value.int IntKind.u64 7378697629483820646)] ++ [(Value.int IntKind.u64 7378697629483820646)] ++ [(Value.int IntKind.u64 7378697629483820646)]).toArray)), eS 3 (.val (.agg ([(Value.int IntKind.u64 14507833142362363162)] ++ [(Value.int IntKind.u64 7578651490590762930)] ++ [(Value.int IntKind.u64 13881468655802702940)] ++ [(Value.int IntKind.u64 2407515759118799870)] ++ [(Value.int IntKind.u64 7378697629483820632)] ++ [(Value.int IntKind.u64 7378697629483820646)] ++ [(Value.int IntKind.u64 7378697629483820646)] ++ [(Value.int IntKind.u64 7378697629483820646)] ++ [Value.bool false]).toArray)), eM 0 ([(Value.int IntKind.u64 14507833142362363162)] ++ [(Value.int IntKind.u64 7578651490590762930)] ++ [(Value.int IntKind.u64 13881468655802702940)] ++ [(Value.int IntKind.u64 2407515759118799870)] ++ [(Value.int IntKind.u64 7378697629483820632)] ++ [(Value.int IntKind.u64 7378697629483820646)] ++ [(Value.int IntKind.u64 7378697629483820646)] ++ [(Value.int IntKind.u64 7378697629483820646)] ++ [Value.bool false])] (by kernel_rfl) ⟨
    fun L u => u_build u (gd0 rfl) 1 rfl 24 #[(0, (.const (.int .u64 14507833142362363162))), (1, (.const (.int .u64 7578651490590762930))), (2, (.const (.int .u64 13881468655802702940))), (3, (.const (.int .u64 2407515759118799870)))] rfl [(0, (Value.int IntKind.u64 14507833142362363162)), (1, (Value.int IntKind.u64 7578651490590762930)), (2, (Value.int IntKind.u64 13881468655802702940)), (3, (Value.int IntKind.u64 2407515759118799870))] rfl ([(Value.int IntKind.u64 14507833142362363162)] ++ [(Value.int IntKind.u64 7578651490590762930)] ++ [(Value.int IntKind.u64 13881468655802702940)] ++ [(Value.int IntKind.u64 2407515759118799870)]) (g_bN4 _ _ _ _),
    fun L u => u_build u (gd0 rfl) 2 rfl 24 #[(0, (.const (.int .u64 7378697629483820632))), (1, (.const (.int .u64 7378697629483820646))), (2, (.const (.int .u64 7378697629483820646))), (3, (.const (.int .u64 7378697629483820646)))] rfl [(0, (Value.int IntKind.u64 7378697629483820632)), (1, (Value.int IntKind.u64 7378697629483820646)), (2, (Value.int IntKind.u64 7378697629483820646)), (3, (Value.int IntKind.u64 7378697629483820646))] rfl ([(Value.int IntKind.u64 7378697629483820632)] ++ [(Value.int IntKind.u64 7378697629483820646)] ++ [(Value.int IntKind.u64 7378697629483820646)] ++ [(Value.int IntKind.u64 7378697629483820646)]) (g_bN4 _ _ _ _),
    fun L u => u_build u (gd0 rfl) 3 rfl 26 #[(0, (.tmp 1)), (1, (.tmp 2))] rfl [(0, .agg ([(Value.int IntKind.u64 14507833142362363162)] ++ [(Value.int IntKind.u64 7578651490590762930)] ++ [(Value.int IntKind.u64 13881468655802702940)] ++ [(Value.int IntKind.u64 2407515759118799870)]).toArray), (1, .agg ([(Value.int IntKind.u64 7378697629483820632)] ++ [(Value.int IntKind.u64 7378697629483820646)] ++ [(Value.int IntKind.u64 7378697629483820646)] ++ [(Value.int IntKind.u64 7378697629483820646)]).toArray)] rfl ([(Value.int IntKind.u64 14507833142362363162)] ++ [(Value.int IntKind.u64 7578651490590762930)] ++ [(Value.int IntKind.u64 13881468655802702940)] ++ [(Value.int IntKind.u64 2407515759118799870)] ++ [(Value.int IntKind.u64 7378697629483820632)] ++ [(Value.int IntKind.u64 7378697629483820646)] ++ [(Value.int IntKind.u64 7378697629483820646)] ++ [(Value.int IntKind.u64 7378697629483820646)] ++ [Value.bool false]) (g_bPc _ _ _ _ _ _ _ _),
    fun L u => u_store u (gd0 rfl) 26 (.tmp 0) (.tmp 3) rfl rfl rfl (vs := [(Value.int IntKind.u64 14507833142362363162)] ++ [(Value.int IntKind.u64 7578651490590762930)] ++ [(Value.int IntKind.u64 13881468655802702940)] ++ [(Value.int IntKind.u64 2407515759118799870)] ++ [(Value.int IntKind.u64 7378697629483820632)] ++ [(Value.int IntKind.u64 7378697629483820646)] ++ [(Value.int IntKind.u64 7378697629483820646)] ++ [(Value.int IntKind.u64 7378697629483820646)] ++ [Value.bool false]) rfl rfl i26 (lk rfl) rfl _ rfl,
    trivial⟩ [(0, .ptr 0 0)] [(0, [(Value.int IntKind.u64 14507833142362363162)] ++ [(Value.int IntKind.u64 7578651490590762930)] ++ [(Value.int IntKind.u64 13881468655802702940)] ++ [(Value.int IntKind.u64 2407515759118799870)] ++ [(Value.int IntKind.u64 7378697629483820632)] ++ [(Value.int IntKind.u64 7378697629483820646)] ++ [(Value.int IntKind.u64 7378697629483820646)] ++ [(Value.int IntKind.u64 7378697629483820646)] ++ [Value.bool false])] ⟨rfl, trivial⟩ ⟨rfl, trivial⟩ rfl (fun a w h => ?_)
  refine wp_ret ?_
  refine ret_row h 0 26 rfl (lk rfl) 0 rfl ([(Value.int IntKind.u64 14507833142362363162)] ++ [(Value.int IntKind.u64 7578651490590762930)] ++ [(Value.int IntKind.u64 13881468655802702940)] ++ [(Value.int IntKind.u64 2407515759118799870)] ++ [(Value.int IntKind.u64 7378697629483820632)] ++ [(Value.int IntKind.u64 7378697629483820646)] ++ [(Value.int IntKind.u64 7378697629483820646)] ++ [(Value.int IntKind.u64 7378697629483820646)] ++ [Value.bool false]) rfl _ Tryd.underlying26 rfl i26 ?_
  exact ⟨by rw [pcE_G], h.grows⟩
end Go.Proofs.YtolehamdaceikabDoor
namespace Go.Proofs.YtolehamdaceikabDoor
open Go.RowKit

/-- Two points are held against each other, number by number. -/
theorem fields26 : Tryd.prog.fieldsOf 26 = #[{ name := "X", type := 24, offset := 0, embedded := false, tag := "", pkgPath := "", byteOffset := 0 }, { name := "Y", type := 24, offset := 4, embedded := false, tag := "", pkgPath := "", byteOffset := 32 }, { name := "None", type := 4, offset := 8, embedded := false, tag := "", pkgPath := "", byteOffset := 64 }] := by kernel_rfl
theorem isAgg24 (w : World) : (isAgg 24).run Tryd.prog w = .ok true w := by
  unfold isAgg
  rw [Sem.run_bind, run_underlying Tryd.underlying24 w]
  rfl
theorem isAgg4 (w : World) : (isAgg 4).run Tryd.prog w = .ok false w := by
  unfold isAgg
  rw [Sem.run_bind, run_underlying Tryd.underlying4 w]
  rfl
theorem size24 (w : World) : (sizeOf 24).run Tryd.prog w = .ok 4 w := by
  have h := i24
  cases hq : Tryd.prog.info? 24 with
  | none => rw [hq] at h; cases h
  | some i =>
    rw [hq] at h
    simp at h
    simp [sizeOf, typeInfo, hq, h]
theorem its_cons (xs ys : Array Value) (j : Nat) (js : List Nat) (x y : Int) (r : Bool) (hx : xs[j]? = some (.int .u64 x)) (hy : ys[j]? = some (.int .u64 y)) (w : World)
    (h : (Op.eqItems 9998 22 1 xs ys js).run Tryd.prog w = .ok r w) : (Op.eqItems 9998 22 1 xs ys (j :: js)).run Tryd.prog w = .ok (x == y && r) w := by
  have he : Tryd.prog.plainKey 22 = true := by kernel_rfl
  simp only [Op.eqItems, Sem.run_bind, Nat.mul_one, run_part_plain w he hx, run_part_plain w he hy, Result.andThen_ok, run_equalIn_int w 9997 22 .u64 .u64 x y Tryd.underlying22]
  cases x == y <;> simp [h]
theorem eq_in {a b : Int} (ha : Num a) (hb : Num b) (w : World) : (Op.equalIn 9999 24 (.agg (nc a).toArray) (.agg (nc b).toArray)).run Tryd.prog w = .ok (decide (a = b)) w := by
  rw [← nc_eq ha hb]
  obtain ⟨i, hi⟩ := Option.isSome_iff_exists.1 (show (Tryd.prog.info? 22).isSome = true by kernel_rfl)
  rw [run_equalIn_array w 9998 _ _ Tryd.underlying24 hi]
  have hc : Tryd.prog.cellsOf 22 = 1 := by kernel_rfl
  have r4 : List.range 4 = [0, 1, 2, 3] := rfl
  rw [hc, r4]
  exact its_cons _ _ 0 _ _ _ _ rfl rfl w (its_cons _ _ 1 _ _ _ _ rfl rfl w (its_cons _ _ 2 _ _ _ _ rfl rfl w (its_cons _ _ 3 _ _ _ _ rfl rfl w rfl)))
theorem eqf_cons {dd : Nat} {xs ys : Array Value} {f : Field} {fs : List Field} {a b : Value} {r s : Bool} {w : World} (hn : f.name ≠ "_") (h1 : (part f.type xs f.offset).run Tryd.prog w = .ok a w) (h2 : (part f.type ys f.offset).run Tryd.prog w = .ok b w) (h3 : (Op.equalIn dd f.type a b).run Tryd.prog w = .ok r w) (h4 : (Op.eqFields dd xs ys fs).run Tryd.prog w = .ok s w) : (Op.eqFields dd xs ys (f :: fs)).run Tryd.prog w = .ok (r && s) w := by
  rw [Op.eqFields, if_pos hn]
  simp only [Sem.run_bind, h1, h2, h3, Result.andThen_ok]
  cases r
  · rfl
  · exact h4
theorem eq_pt {a b c d : Int} (ha : Num a) (hb : Num b) (hc : Num c) (hd : Num d) (s t : Bool) (w : World) : (Op.equalIn 10000 26 (.agg (nc a ++ nc b ++ [Value.bool s]).toArray) (.agg (nc c ++ nc d ++ [Value.bool t]).toArray)).run Tryd.prog w = .ok (decide (a = c ∧ b = d ∧ s = t)) w := by
  have e1 : ∀ w, (part 24 (nc a ++ nc b ++ [Value.bool s]).toArray 0).run Tryd.prog w = .ok (.agg (nc a).toArray) w := fun w => by unfold part; simp only [Sem.run_bind, isAgg24, Result.andThen_ok, if_true, size24, Sem.run_pure]; rfl
  have e2 : ∀ w, (part 24 (nc c ++ nc d ++ [Value.bool t]).toArray 0).run Tryd.prog w = .ok (.agg (nc c).toArray) w := fun w => by unfold part; simp only [Sem.run_bind, isAgg24, Result.andThen_ok, if_true, size24, Sem.run_pure]; rfl
  have e3 : ∀ w, (part 24 (nc a ++ nc b ++ [Value.bool s]).toArray 4).run Tryd.prog w = .ok (.agg (nc b).toArray) w := fun w => by unfold part; simp only [Sem.run_bind, isAgg24, Result.andThen_ok, if_true, size24, Sem.run_pure]; rfl
  have e4 : ∀ w, (part 24 (nc c ++ nc d ++ [Value.bool t]).toArray 4).run Tryd.prog w = .ok (.agg (nc d).toArray) w := fun w => by unfold part; simp only [Sem.run_bind, isAgg24, Result.andThen_ok, if_true, size24, Sem.run_pure]; rfl
  have e5 : ∀ w, (part 4 (nc a ++ nc b ++ [Value.bool s]).toArray 8).run Tryd.prog w = .ok (.bool s) w := fun w => by unfold part; simp only [Sem.run_bind, isAgg4, Result.andThen_ok, Bool.false_eq_true, if_false]; rfl
  have e6 : ∀ w, (part 4 (nc c ++ nc d ++ [Value.bool t]).toArray 8).run Tryd.prog w = .ok (.bool t) w := fun w => by unfold part; simp only [Sem.run_bind, isAgg4, Result.andThen_ok, Bool.false_eq_true, if_false]; rfl
  have hf : Tryd.prog.underlying 26 = some (.struct (Tryd.prog.fieldsOf 26)) := by rw [fields26]; exact Tryd.underlying26
  rw [run_equalIn_struct w 9999 26 _ _ hf Tryd.stoodInHeld26, fields26]
  have hb' := fun w => run_equalIn_bool' (P := Tryd.prog) w 9998 4 s t Tryd.underlying4
  refine Eq.trans (eqf_cons (by decide) (e1 w) (e2 w) (eq_in ha hc w) (eqf_cons (by decide) (e3 w) (e4 w) (eq_in hb hd w) (eqf_cons (by decide) (e5 w) (e6 w) (hb' w) rfl))) ?_
  congr 1
  by_cases h1 : a = c
  · by_cases h2 : b = d
    · subst h1 h2
      cases s <;> cases t <;> simp
    · simp [h2]
  · simp [h1]
/-- Is it formed? -/
def fmdE (X Y : Int) (t : Bool) : Bool := decide (t = false ∧ X < md 2 ∧ Y < md 2 ∧ (kc Y : Fin m2) * kc Y - kc X * kc X = 1 + ed * (kc X * kc X * (kc Y * kc Y)))
theorem eq_pcE_same (a : Ep m2) (w : World) : (Op.equalIn 10000 26 (.agg (pcE a).toArray) (.agg (pcE a).toArray)).run Tryd.prog w = .ok true w := by
  have h := eq_pt (gin_num a.x) (gin_num a.y) (gin_num a.x) (gin_num a.y) false false w
  rw [decide_eq_true ⟨rfl, rfl, rfl⟩] at h
  exact h
theorem rpE_pc {a : Ep m2} (h : a.on ed) : rpE (a.x.val : Int) (a.y.val : Int) false = a := by
  obtain ⟨x, y⟩ := a
  have hc : y * y - x * x = 1 + ed * (x * x * (y * y)) := h
  have e : rpE (x.val : Int) (y.val : Int) false = ⟨kc (x.val : Int), kc (y.val : Int)⟩ := if_pos ⟨rfl, of_decide_eq_true (gin_lt x), of_decide_eq_true (gin_lt y), by rw [kc_self, kc_self]; exact hc⟩
  rw [kc_self, kc_self] at e
  exact e
theorem fmdE_pc {a : Ep m2} (h : a.on ed) : fmdE (a.x.val : Int) (a.y.val : Int) false = true := by
  obtain ⟨x, y⟩ := a
  have hc : y * y - x * x = 1 + ed * (x * x * (y * y)) := h
  exact decide_eq_true ⟨rfl, of_decide_eq_true (gin_lt x), of_decide_eq_true (gin_lt y), by rw [kc_self, kc_self]; exact hc⟩
theorem fmdE_rp {X Y : Int} {t : Bool} (h : fmdE X Y t = false) : rpE X Y t = Ep.o m2 := if_neg (of_decide_eq_false h)
end Go.Proofs.YtolehamdaceikabDoor
namespace Go.Proofs.YtolehamdaceikabDoor

structure X4 : Type where
  x : Fin m2
  y : Fin m2
  z : Fin m2
  t : Fin m2
def xdrop (p : X4) : Ep m2 := ⟨p.x * fiv p.z, p.y * fiv p.z⟩
def xlift (a : Ep m2) : X4 := ⟨a.x, a.y, 1, a.x * a.y⟩
/-- The one formula. -/
def xadd (p q : X4) : X4 :=
  ⟨(p.x * q.y + q.x * p.y) * (p.z * q.z - ed * (p.t * q.t)), (p.z * q.z + ed * (p.t * q.t)) * (p.y * q.y + p.x * q.x),
    (p.z * q.z - ed * (p.t * q.t)) * (p.z * q.z + ed * (p.t * q.t)), (p.x * q.y + q.x * p.y) * (p.y * q.y + p.x * q.x)⟩
/-- Four numbers stand for a point of the curve. -/
structure Xo (p : X4) : Prop where
  z : p.z ≠ 0
  t : p.x * p.y = p.z * p.t
  on : (xdrop p).on ed
def X4.three (p : X4) : P3 (Fin m2) := ⟨p.x, p.y, p.z⟩
theorem xdrop_three (p : X4) : fdrop p.three = xdrop p := rfl
theorem Xo.fo {p : X4} (h : Xo p) : Fo p.three := ⟨h.z, h.on⟩
theorem xdrop_lift (a : Ep m2) : xdrop (xlift a) = a := fdrop_lift a
theorem xo_lift {a : Ep m2} (h : a.on ed) : Xo (xlift a) := ⟨fld2.one, by simp only [xlift]; grobner, by rw [xdrop_lift]; exact h⟩
/-- The same point, at another scale. -/
theorem fdrop_sc {k x y z : Fin m2} (hk : k ≠ 0) (hz : z ≠ 0) : fdrop ⟨k * x, k * y, k * z⟩ = fdrop ⟨x, y, z⟩ := by
  have i1 := fld2.inv _ hz
  have i2 := fld2.inv _ (fld2.ne hk hz)
  simp only [fdrop]
  generalize fiv z = i at *
  generalize fiv (k * z) = j at *
  clear hk hz
  have e : k * j = i := by
    have : k * j * (z * i) = k * z * j * i := by clear i1 i2; grobner
    rw [i1, i2] at this
    rw [show k * j = k * j * 1 by clear i1 i2 this; grobner, this]
    clear i1 i2 this
    grobner
  clear i1 i2
  congr 1
  · rw [show k * x * j = x * (k * j) by clear e; grobner, e]
  · rw [show k * y * j = y * (k * j) by clear e; grobner, e]
theorem xo_sc {k : Fin m2} (hk : k ≠ 0) {p : X4} (h : Xo p) : Xo ⟨k * p.x, k * p.y, k * p.z, k * p.t⟩ ∧ xdrop ⟨k * p.x, k * p.y, k * p.z, k * p.t⟩ = xdrop p := by
  have e : xdrop ⟨k * p.x, k * p.y, k * p.z, k * p.t⟩ = xdrop p := fdrop_sc hk h.z
  refine ⟨⟨fld2.ne hk h.z, ?_, by rw [e]; exact h.on⟩, e⟩
  show k * p.x * (k * p.y) = k * p.z * (k * p.t)
  rw [show k * p.x * (k * p.y) = k * k * (p.x * p.y) by grobner, h.t]
  grobner
theorem xadd_three {p q : X4} (hp : Xo p) (hq : Xo q) : fadd p.three q.three = ⟨p.z * q.z * (p.z * q.z) * (xadd p q).x, p.z * q.z * (p.z * q.z) * (xadd p q).y, p.z * q.z * (p.z * q.z) * (xadd p q).z⟩ := by
  have h1 := hp.t
  have h2 := hq.t
  have e : ed * (p.x * q.x * (p.y * q.y)) = p.z * q.z * (ed * (p.t * q.t)) := by
    rw [show p.x * q.x * (p.y * q.y) = p.x * p.y * (q.x * q.y) by clear h1 h2; grobner, h1, h2]
    clear h1 h2
    grobner
  clear h1 h2
  simp only [fadd, X4.three, xadd, e]
  clear e hp hq
  congr 1 <;> grobner
theorem xadd_ok {p q : X4} (hp : Xo p) (hq : Xo q) : Xo (xadd p q) ∧ xdrop (xadd p q) = eadd (xdrop p) (xdrop q) := by
  have hf := fadd_ok hp.fo hq.fo
  have hc := fld2.ne (fld2.ne hp.z hq.z) (fld2.ne hp.z hq.z)
  rw [xadd_three hp hq] at hf
  have nz : (xadd p q).z ≠ 0 := fun h => hf.1.z (by
    show p.z * q.z * (p.z * q.z) * (xadd p q).z = 0
    rw [h]
    grobner)
  have key : xdrop (xadd p q) = eadd (xdrop p) (xdrop q) := (fdrop_sc hc nz).symm.trans hf.2
  refine ⟨⟨nz, ?_, by rw [key]; exact egr.mem hp.on hq.on⟩, key⟩
  simp only [xadd]
  clear hf hc nz key hp hq
  grobner
/-- A sum of four numbers that is the curve's. -/
structure Sums (A : X4 → X4 → X4) : Prop where
  ok : ∀ {p q : X4}, Xo p → Xo q → Xo (A p q) ∧ xdrop (A p q) = eadd (xdrop p) (xdrop q)
theorem xadd_sums : Sums xadd := ⟨xadd_ok⟩
theorem sums_sc {A : X4 → X4 → X4} {k : Fin m2} (hk : k ≠ 0) (h : ∀ p q, A p q = ⟨k * (xadd p q).x, k * (xadd p q).y, k * (xadd p q).z, k * (xadd p q).t⟩) : Sums A := ⟨fun {p q} hp hq => by
  obtain ⟨h1, h2⟩ := xadd_ok hp hq
  obtain ⟨g1, g2⟩ := xo_sc hk h1
  rw [h]
  exact ⟨g1, g2.trans h2⟩⟩
/-- Multiples, bit by bit from the highest on. -/
def xm (A : X4 → X4 → X4) (k : Nat) (p : X4) : Nat → X4
  | 0 => xlift (Ep.o m2)
  | n + 1 => if k / 2 ^ (255 - n) % 2 = 1 then A (A (xm A k p n) (xm A k p n)) p else A (xm A k p n) (xm A k p n)
theorem xm_mt {A : X4 → X4 → X4} (hA : Sums A) {k : Nat} {p : X4} (hp : Xo p) : ∀ n, n ≤ 256 → Xo (xm A k p n) ∧ xdrop (xm A k p n) = mt eadd (Ep.o m2) (xdrop p) (k / 2 ^ (256 - n) % 2 ^ n)
  | 0, _ => by
    rw [show k / 2 ^ (256 - 0) % 2 ^ 0 = 0 by rw [Nat.pow_zero, Nat.mod_one]]
    exact ⟨xo_lift egr.zero, xdrop_lift _⟩
  | n + 1, hn => by
    obtain ⟨h1, h2⟩ := xm_mt hA (k := k) hp n (by omega)
    have e1 : k / 2 ^ (256 - (n + 1)) % 2 ^ (n + 1) = 2 * (k / 2 ^ (256 - n) % 2 ^ n) + k / 2 ^ (255 - n) % 2 := by
      rw [show 256 - (n + 1) = 255 - n by omega]
      have e2 : k / 2 ^ (256 - n) = k / 2 ^ (255 - n) / 2 := by
        rw [Nat.div_div_eq_div_mul, ← Nat.pow_succ]
        congr 2
        omega
      rw [e2]
      generalize k / 2 ^ (255 - n) = m
      rw [Nat.pow_succ, Nat.mul_comm (2 ^ n) 2, Nat.mod_mul]
      omega
    obtain ⟨g1, g2⟩ := hA.ok h1 h1
    rw [h2, ← mt_two egr hp.on] at g2
    rw [e1]
    by_cases hb : k / 2 ^ (255 - n) % 2 = 1
    · rw [show xm A k p (n + 1) = _ from if_pos hb]
      obtain ⟨f1, f2⟩ := hA.ok g1 hp
      refine ⟨f1, ?_⟩
      rw [f2, g2, hb]
      rfl
    · rw [show xm A k p (n + 1) = _ from if_neg hb]
      refine ⟨g1, ?_⟩
      rw [g2, show k / 2 ^ (255 - n) % 2 = 0 by omega]
      rfl
theorem xm_all {A : X4 → X4 → X4} (hA : Sums A) {k : Nat} (hk : k < 2 ^ 256) {p : X4} (hp : Xo p) : xdrop (xm A k p 256) = mt eadd (Ep.o m2) (xdrop p) k := by
  rw [(xm_mt hA (k := k) hp 256 (Nat.le_refl _)).2, Nat.sub_self, Nat.pow_zero, Nat.div_one, Nat.mod_eq_of_lt hk]
end Go.Proofs.YtolehamdaceikabDoor
namespace Go.Proofs.YtolehamdaceikabDoor
open Go.RowKit

theorem i39 : (Tryd.prog.info? 39).map (·.size) = some 16 := by kernel_rfl
theorem z39 : (Tryd.prog.info? 39).map (·.zero) = some (some (.agg (nz ++ nz ++ nz ++ nz).toArray)) := by kernel_rfl
theorem g_bN1 : Tryd.prog.built 24 [(0, .int .u64 1)] = some (gc 1).toArray := by kernel_rfl
theorem g_bN1x {one : Fin m2} (h : one = 1) : Tryd.prog.built 24 [(0, .int .u64 1)] = some (gc one).toArray := by rw [h]; exact g_bN1
theorem g_bX (x y z t : Fin m2) : Tryd.prog.built 39 [(0, .agg (gc x).toArray), (1, .agg (gc y).toArray), (2, .agg (gc z).toArray), (3, .agg (gc t).toArray)] = some (gc x ++ gc y ++ gc z ++ gc t).toArray := by kernel_rfl
/-- Four numbers as they lie in memory. -/
def xc (p : X4) : List Value := gc p.x ++ gc p.y ++ gc p.z ++ gc p.t
theorem cE23 (vs : List Value) : ∀ w, (callFunc 23 vs.toArray).run Tryd.prog w = .ok (.enter 23 vs.toArray) w := callFunc_enter Tryd.func23 (by kernel_rfl) (by kernel_rfl) _
theorem cE22 (vs : List Value) : ∀ w, (callFunc 22 vs.toArray).run Tryd.prog w = .ok (.enter 22 vs.toArray) w := callFunc_enter Tryd.func22 (by kernel_rfl) (by kernel_rfl) _
theorem cE21 (vs : List Value) : ∀ w, (callFunc 21 vs.toArray).run Tryd.prog w = .ok (.enter 21 vs.toArray) w := callFunc_enter Tryd.func21 (by kernel_rfl) (by kernel_rfl) _
theorem cE24 (vs : List Value) : ∀ w, (callFunc 24 vs.toArray).run Tryd.prog w = .ok (.enter 24 vs.toArray) w := callFunc_enter Tryd.func24 (by kernel_rfl) (by kernel_rfl) _
theorem cE27 (vs : List Value) : ∀ w, (callFunc 27 vs.toArray).run Tryd.prog w = .ok (.enter 27 vs.toArray) w := callFunc_enter Tryd.func27 (by kernel_rfl) (by kernel_rfl) _
theorem cE25 (vs : List Value) : ∀ w, (callFunc 25 vs.toArray).run Tryd.prog w = .ok (.enter 25 vs.toArray) w := callFunc_enter Tryd.func25 (by kernel_rfl) (by kernel_rfl) _
theorem cE14 (vs : List Value) : ∀ w, (callFunc 14 vs.toArray).run Tryd.prog w = .ok (.enter 14 vs.toArray) w := callFunc_enter Tryd.func14 (by kernel_rfl) (by kernel_rfl) _
theorem cE12 (vs : List Value) : ∀ w, (callFunc 12 vs.toArray).run Tryd.prog w = .ok (.enter 12 vs.toArray) w := callFunc_enter Tryd.func12 (by kernel_rfl) (by kernel_rfl) _
theorem cE19 (vs : List Value) : ∀ w, (callFunc 19 vs.toArray).run Tryd.prog w = .ok (.enter 19 vs.toArray) w := callFunc_enter Tryd.func19 (by kernel_rfl) (by kernel_rfl) _
theorem cE13 (vs : List Value) : ∀ w, (callFunc 13 vs.toArray).run Tryd.prog w = .ok (.enter 13 vs.toArray) w := callFunc_enter Tryd.func13 (by kernel_rfl) (by kernel_rfl) _
theorem cE6 (vs : List Value) : ∀ w, (callFunc 6 vs.toArray).run Tryd.prog w = .ok (.enter 6 vs.toArray) w := callFunc_enter Tryd.func6 (by kernel_rfl) (by kernel_rfl) _
theorem cE10 (vs : List Value) : ∀ w, (callFunc 10 vs.toArray).run Tryd.prog w = .ok (.enter 10 vs.toArray) w := callFunc_enter Tryd.func10 (by kernel_rfl) (by kernel_rfl) _
theorem cE9 (vs : List Value) : ∀ w, (callFunc 9 vs.toArray).run Tryd.prog w = .ok (.enter 9 vs.toArray) w := callFunc_enter Tryd.func9 (by kernel_rfl) (by kernel_rfl) _
theorem cE5 (vs : List Value) : ∀ w, (callFunc 5 vs.toArray).run Tryd.prog w = .ok (.enter 5 vs.toArray) w := callFunc_enter Tryd.func5 (by kernel_rfl) (by kernel_rfl) _
theorem cE20 (vs : List Value) : ∀ w, (callFunc 20 vs.toArray).run Tryd.prog w = .ok (.enter 20 vs.toArray) w := callFunc_enter Tryd.func20 (by kernel_rfl) (by kernel_rfl) _
theorem cE29 (vs : List Value) : ∀ w, (callFunc 29 vs.toArray).run Tryd.prog w = .ok (.enter 29 vs.toArray) w := callFunc_enter Tryd.func29 (by kernel_rfl) (by kernel_rfl) _
set_option maxRecDepth 100000 in
set_option maxHeartbeats 4000000 in
theorem e_add {w : World} (hT : Tab w) (x y : Fin m2) : Calls Tryd.prog 23 [.agg (gc (x)).toArray, .agg (gc (y)).toArray].toArray w fun e w' => e = .returned (.agg (gc (x + y)).toArray) ∧ Below w.heap.size w w' := by
  refine enter (args := [.agg (gc (x)).toArray, .agg (gc (y)).toArray]) Tryd.func23 rfl 8 rfl (lk rfl) (fun a h => ?_)
  refine go_region h hm [eN 2 (gc (x)), eN 3 (gc (y)), eN 4 (nz)] (by kernel_rfl) ⟨
    fun L u => u_box u (gd0 rfl) 24 (.tmp 0) rfl 2 rfl rfl rfl _ rfl,
    fun L u => u_box u (gd0 rfl) 24 (.tmp 1) rfl 3 rfl rfl rfl _ rfl,
    fun L u => u_alloc u (gd0 rfl) 24 rfl 4 rfl rfl z24 _ rfl,
    trivial⟩ [(2, .ptr 2 0), (3, .ptr 3 0), (4, .ptr 4 0)] [(2, gc (x)), (3, gc (y)), (4, nz)] ⟨rfl, rfl, rfl, trivial⟩ ⟨rfl, rfl, rfl, trivial⟩ rfl (fun a w h => ?_)
  refine go_region h hm [eS 5 (.val (.agg (gc (x)).toArray)), eS 6 (.val (.agg (gc (y)).toArray)), eS 7 (.val (.agg (gc ((x) + (y))).toArray)), eM 4 (gc ((x) + (y)))] (by kernel_rfl) ⟨
    fun L u => u_load u (gd0 rfl) 5 rfl 24 (.tmp 2) rfl rfl rfl Tryd.underlying24 rfl i24 (lk rfl) _ rfl,
    fun L u => u_load u (gd0 rfl) 6 rfl 24 (.tmp 3) rfl rfl rfl Tryd.underlying24 rfl i24 (lk rfl) _ rfl,
    fun L u => u_call u (gd0 rfl) 7 rfl 37 #[(.const (.int .i64 2)), (.tmp 5), (.tmp 6)] #[3, 24, 24] rfl [(Value.int IntKind.i64 2), .agg (gc (x)).toArray, .agg (gc (y)).toArray] rfl (cE37 _) (.agg (gc ((x) + (y))).toArray) (fun w hb => d_add (hT.keep (Bs.kp_of hb)) _ _),
    fun L u => u_store u (gd0 rfl) 24 (.tmp 4) (.tmp 7) rfl rfl rfl (vs := gc ((x) + (y))) rfl rfl i24 (lk rfl) rfl _ rfl,
    trivial⟩ [(4, .ptr 4 0)] [(4, gc ((x) + (y)))] ⟨rfl, trivial⟩ ⟨rfl, trivial⟩ rfl (fun a w h => ?_)
  refine wp_ret ?_
  refine ret_row h 4 24 rfl (lk rfl) 4 rfl (gc ((x) + (y))) rfl _ Tryd.underlying24 rfl i24 ?_
  exact ⟨rfl, h.grows⟩
set_option maxRecDepth 100000 in
set_option maxHeartbeats 4000000 in
theorem e_sub {w : World} (hT : Tab w) (x y : Fin m2) : Calls Tryd.prog 22 [.agg (gc (x)).toArray, .agg (gc (y)).toArray].toArray w fun e w' => e = .returned (.agg (gc (x - y)).toArray) ∧ Below w.heap.size w w' := by
  refine enter (args := [.agg (gc (x)).toArray, .agg (gc (y)).toArray]) Tryd.func22 rfl 8 rfl (lk rfl) (fun a h => ?_)
  refine go_region h hm [eN 2 (gc (x)), eN 3 (gc (y)), eN 4 (nz)] (by kernel_rfl) ⟨
    fun L u => u_box u (gd0 rfl) 24 (.tmp 0) rfl 2 rfl rfl rfl _ rfl,
    fun L u => u_box u (gd0 rfl) 24 (.tmp 1) rfl 3 rfl rfl rfl _ rfl,
    fun L u => u_alloc u (gd0 rfl) 24 rfl 4 rfl rfl z24 _ rfl,
    trivial⟩ [(2, .ptr 2 0), (3, .ptr 3 0), (4, .ptr 4 0)] [(2, gc (x)), (3, gc (y)), (4, nz)] ⟨rfl, rfl, rfl, trivial⟩ ⟨rfl, rfl, rfl, trivial⟩ rfl (fun a w h => ?_)
  refine go_region h hm [eS 5 (.val (.agg (gc (x)).toArray)), eS 6 (.val (.agg (gc (y)).toArray)), eS 7 (.val (.agg (gc ((x) - (y))).toArray)), eM 4 (gc ((x) - (y)))] (by kernel_rfl) ⟨
    fun L u => u_load u (gd0 rfl) 5 rfl 24 (.tmp 2) rfl rfl rfl Tryd.underlying24 rfl i24 (lk rfl) _ rfl,
    fun L u => u_load u (gd0 rfl) 6 rfl 24 (.tmp 3) rfl rfl rfl Tryd.underlying24 rfl i24 (lk rfl) _ rfl,
    fun L u => u_call u (gd0 rfl) 7 rfl 36 #[(.const (.int .i64 2)), (.tmp 5), (.tmp 6)] #[3, 24, 24] rfl [(Value.int IntKind.i64 2), .agg (gc (x)).toArray, .agg (gc (y)).toArray] rfl (cE36 _) (.agg (gc ((x) - (y))).toArray) (fun w hb => d_sub (hT.keep (Bs.kp_of hb)) _ _),
    fun L u => u_store u (gd0 rfl) 24 (.tmp 4) (.tmp 7) rfl rfl rfl (vs := gc ((x) - (y))) rfl rfl i24 (lk rfl) rfl _ rfl,
    trivial⟩ [(4, .ptr 4 0)] [(4, gc ((x) - (y)))] ⟨rfl, trivial⟩ ⟨rfl, trivial⟩ rfl (fun a w h => ?_)
  refine wp_ret ?_
  refine ret_row h 4 24 rfl (lk rfl) 4 rfl (gc ((x) - (y))) rfl _ Tryd.underlying24 rfl i24 ?_
  exact ⟨rfl, h.grows⟩
set_option maxRecDepth 100000 in
set_option maxHeartbeats 4000000 in
theorem e_mul {w : World} (hT : Tab w) (x y : Fin m2) : Calls Tryd.prog 21 [.agg (gc (x)).toArray, .agg (gc (y)).toArray].toArray w fun e w' => e = .returned (.agg (gc (x * y)).toArray) ∧ Below w.heap.size w w' := by
  refine enter (args := [.agg (gc (x)).toArray, .agg (gc (y)).toArray]) Tryd.func21 rfl 8 rfl (lk rfl) (fun a h => ?_)
  refine go_region h hm [eN 2 (gc (x)), eN 3 (gc (y)), eN 4 (nz)] (by kernel_rfl) ⟨
    fun L u => u_box u (gd0 rfl) 24 (.tmp 0) rfl 2 rfl rfl rfl _ rfl,
    fun L u => u_box u (gd0 rfl) 24 (.tmp 1) rfl 3 rfl rfl rfl _ rfl,
    fun L u => u_alloc u (gd0 rfl) 24 rfl 4 rfl rfl z24 _ rfl,
    trivial⟩ [(2, .ptr 2 0), (3, .ptr 3 0), (4, .ptr 4 0)] [(2, gc (x)), (3, gc (y)), (4, nz)] ⟨rfl, rfl, rfl, trivial⟩ ⟨rfl, rfl, rfl, trivial⟩ rfl (fun a w h => ?_)
  refine go_region h hm [eS 5 (.val (.agg (gc (x)).toArray)), eS 6 (.val (.agg (gc (y)).toArray)), eS 7 (.val (.agg (gc ((x) * (y))).toArray)), eM 4 (gc ((x) * (y)))] (by kernel_rfl) ⟨
    fun L u => u_load u (gd0 rfl) 5 rfl 24 (.tmp 2) rfl rfl rfl Tryd.underlying24 rfl i24 (lk rfl) _ rfl,
    fun L u => u_load u (gd0 rfl) 6 rfl 24 (.tmp 3) rfl rfl rfl Tryd.underlying24 rfl i24 (lk rfl) _ rfl,
    fun L u => u_call u (gd0 rfl) 7 rfl 35 #[(.const (.int .i64 2)), (.tmp 5), (.tmp 6)] #[3, 24, 24] rfl [(Value.int IntKind.i64 2), .agg (gc (x)).toArray, .agg (gc (y)).toArray] rfl (cE35 _) (.agg (gc ((x) * (y))).toArray) (fun w hb => d_mul (hT.keep (Bs.kp_of hb)) _ _),
    fun L u => u_store u (gd0 rfl) 24 (.tmp 4) (.tmp 7) rfl rfl rfl (vs := gc ((x) * (y))) rfl rfl i24 (lk rfl) rfl _ rfl,
    trivial⟩ [(4, .ptr 4 0)] [(4, gc ((x) * (y)))] ⟨rfl, trivial⟩ ⟨rfl, trivial⟩ rfl (fun a w h => ?_)
  refine wp_ret ?_
  refine ret_row h 4 24 rfl (lk rfl) 4 rfl (gc ((x) * (y))) rfl _ Tryd.underlying24 rfl i24 ?_
  exact ⟨rfl, h.grows⟩
theorem Tab.ed {w : World} (h : Tab w) : w.rangeAt 0 0 (gc ed) := by
  rw [gc_ed]
  intro j v hj
  match j, hj with
  | 0, hj => cases hj; exact h.ccurveD0
  | 1, hj => cases hj; exact h.ccurveD1
  | 2, hj => cases hj; exact h.ccurveD2
  | 3, hj => cases hj; exact h.ccurveD3
  | j + 4, hj => cases hj
set_option maxRecDepth 100000 in
set_option maxHeartbeats 4000000 in
theorem e_one {w : World} {one : Fin m2} (hone : one = 1) : Calls Tryd.prog 24 [].toArray w fun e w' => e = .returned (.agg (gc one).toArray) ∧ Below w.heap.size w w' := by
  refine enter (args := []) Tryd.func24 rfl 2 rfl (lk rfl) (fun a h => ?_)
  refine go_region h hm [eN 0 (nz)] (by kernel_rfl) ⟨
    fun L u => u_alloc u (gd0 rfl) 24 rfl 0 rfl rfl z24 _ rfl,
    trivial⟩ [(0, .ptr 0 0)] [(0, nz)] ⟨rfl, trivial⟩ ⟨rfl, trivial⟩ rfl (fun a w h => ?_)
  refine go_region h hm [eS 1 (.val (.agg (gc (one)).toArray)), eM 0 (gc (one))] (by kernel_rfl) ⟨
    fun L u => u_build u (gd0 rfl) 1 rfl 24 #[(0, (.const (.int .u64 1)))] rfl [(0, (Value.int IntKind.u64 1))] rfl (gc (one)) (g_bN1x hone),
    fun L u => u_store u (gd0 rfl) 24 (.tmp 0) (.tmp 1) rfl rfl rfl (vs := gc (one)) rfl rfl i24 (lk rfl) rfl _ rfl,
    trivial⟩ [(0, .ptr 0 0)] [(0, gc (one))] ⟨rfl, trivial⟩ ⟨rfl, trivial⟩ rfl (fun a w h => ?_)
  refine wp_ret ?_
  refine ret_row h 0 24 rfl (lk rfl) 0 rfl (gc (one)) rfl _ Tryd.underlying24 rfl i24 ?_
  exact ⟨rfl, h.grows⟩
theorem o_cells : pcE (Ep.o m2) = gc 0 ++ gc 1 ++ [Value.bool false] := rfl
set_option maxRecDepth 100000 in
set_option maxHeartbeats 4000000 in
theorem e_neutral {w : World}  : Calls Tryd.prog 25 [].toArray w fun e w' => e = .returned (.agg (pcE (Ep.o m2)).toArray) ∧ Below w.heap.size w w' := by
  obtain ⟨one, hone⟩ : ∃ z : Fin m2, z = 1 := ⟨_, rfl⟩
  refine enter (args := []) Tryd.func25 rfl 3 rfl (lk rfl) (fun a h => ?_)
  refine go_region h hm [eN 0 (nz ++ nz ++ [Value.bool false])] (by kernel_rfl) ⟨
    fun L u => u_alloc u (gd0 rfl) 26 rfl 0 rfl rfl z26 _ rfl,
    trivial⟩ [(0, .ptr 0 0)] [(0, nz ++ nz ++ [Value.bool false])] ⟨rfl, trivial⟩ ⟨rfl, trivial⟩ rfl (fun a w h => ?_)
  refine go_region h hm [eS 1 (.val (.agg (gc (one)).toArray)), eS 2 (.val (.agg (nz ++ gc (one) ++ [Value.bool false]).toArray)), eM 0 (nz ++ gc (one) ++ [Value.bool false])] (by kernel_rfl) ⟨
    fun L u => u_call u (gd0 rfl) 1 rfl 24 #[] #[] rfl [] rfl (cE24 _) (.agg (gc (one)).toArray) (fun w hb => e_one hone),
    fun L u => u_build u (gd0 rfl) 2 rfl 26 #[(1, (.tmp 1))] rfl [(1, .agg (gc (one)).toArray)] rfl (nz ++ gc (one) ++ [Value.bool false]) (g_bY _),
    fun L u => u_store u (gd0 rfl) 26 (.tmp 0) (.tmp 2) rfl rfl rfl (vs := nz ++ gc (one) ++ [Value.bool false]) rfl rfl i26 (lk rfl) rfl _ rfl,
    trivial⟩ [(0, .ptr 0 0)] [(0, nz ++ gc (one) ++ [Value.bool false])] ⟨rfl, trivial⟩ ⟨rfl, trivial⟩ rfl (fun a w h => ?_)
  refine wp_ret ?_
  refine ret_row h 0 26 rfl (lk rfl) 0 rfl (nz ++ gc (one) ++ [Value.bool false]) rfl _ Tryd.underlying26 rfl i26 ?_
  exact ⟨by rw [o_cells, hone, nz_gc], h.grows⟩
theorem xplus_poly {p : Nat} [NeZero p] (d x1 y1 z1 t1 x2 y2 z2 t2 : Fin p) {v1 : Fin p} (ev1 : v1 = x1 * x2) {v2 : Fin p} (ev2 : v2 = y1 * y2) {v3 : Fin p} (ev3 : v3 = z1 * z2) {v4 : Fin p} (ev4 : v4 = t1 * t2) {v5 : Fin p} (ev5 : v5 = d * v4) {v6 : Fin p} (ev6 : v6 = x1 * y2) {v7 : Fin p} (ev7 : v7 = x2 * y1) {v8 : Fin p} (ev8 : v8 = v6 + v7) {v9 : Fin p} (ev9 : v9 = v2 + v1) {v10 : Fin p} (ev10 : v10 = v3 + v5) {v11 : Fin p} (ev11 : v11 = v3 - v5) {v12 : Fin p} (ev12 : v12 = v8 * v11) {v13 : Fin p} (ev13 : v13 = v9 * v10) {v14 : Fin p} (ev14 : v14 = v10 * v11) {v15 : Fin p} (ev15 : v15 = v8 * v9) : v12 = (x1 * y2 + x2 * y1) * (z1 * z2 - d * (t1 * t2)) ∧ v13 = (z1 * z2 + d * (t1 * t2)) * (y1 * y2 + x1 * x2) ∧ v14 = (z1 * z2 - d * (t1 * t2)) * (z1 * z2 + d * (t1 * t2)) ∧ v15 = (x1 * y2 + x2 * y1) * (y1 * y2 + x1 * x2) := by
  subst ev1 ev2 ev3 ev4 ev5 ev6 ev7 ev8 ev9 ev10 ev11 ev12 ev13 ev14 ev15
  refine ⟨?_, ?_, ?_, ?_⟩ <;> grobner
set_option maxRecDepth 100000 in
set_option maxHeartbeats 8000000 in
theorem e_plus {w : World} (hT : Tab w) (x1 y1 z1 t1 x2 y2 z2 t2 : Fin m2) : Calls Tryd.prog 19 [.agg (gc (x1) ++ gc (y1) ++ gc (z1) ++ gc (t1)).toArray, .agg (gc (x2) ++ gc (y2) ++ gc (z2) ++ gc (t2)).toArray].toArray w fun e w' => e = .returned (.agg (xc (xadd ⟨x1, y1, z1, t1⟩ ⟨x2, y2, z2, t2⟩)).toArray) ∧ Below w.heap.size w w' := by
  obtain ⟨v1, ev1⟩ : ∃ z : Fin m2, z = x1 * x2 := ⟨_, rfl⟩
  obtain ⟨v2, ev2⟩ : ∃ z : Fin m2, z = y1 * y2 := ⟨_, rfl⟩
  obtain ⟨v3, ev3⟩ : ∃ z : Fin m2, z = z1 * z2 := ⟨_, rfl⟩
  obtain ⟨v4, ev4⟩ : ∃ z : Fin m2, z = t1 * t2 := ⟨_, rfl⟩
  obtain ⟨v5, ev5⟩ : ∃ z : Fin m2, z = ed * v4 := ⟨_, rfl⟩
  obtain ⟨v6, ev6⟩ : ∃ z : Fin m2, z = x1 * y2 := ⟨_, rfl⟩
  obtain ⟨v7, ev7⟩ : ∃ z : Fin m2, z = x2 * y1 := ⟨_, rfl⟩
  obtain ⟨v8, ev8⟩ : ∃ z : Fin m2, z = v6 + v7 := ⟨_, rfl⟩
  obtain ⟨v9, ev9⟩ : ∃ z : Fin m2, z = v2 + v1 := ⟨_, rfl⟩
  obtain ⟨v10, ev10⟩ : ∃ z : Fin m2, z = v3 + v5 := ⟨_, rfl⟩
  obtain ⟨v11, ev11⟩ : ∃ z : Fin m2, z = v3 - v5 := ⟨_, rfl⟩
  obtain ⟨v12, ev12⟩ : ∃ z : Fin m2, z = v8 * v11 := ⟨_, rfl⟩
  obtain ⟨v13, ev13⟩ : ∃ z : Fin m2, z = v9 * v10 := ⟨_, rfl⟩
  obtain ⟨v14, ev14⟩ : ∃ z : Fin m2, z = v10 * v11 := ⟨_, rfl⟩
  obtain ⟨v15, ev15⟩ : ∃ z : Fin m2, z = v8 * v9 := ⟨_, rfl⟩
  have hpp := xplus_poly ed x1 y1 z1 t1 x2 y2 z2 t2 ev1 ev2 ev3 ev4 ev5 ev6 ev7 ev8 ev9 ev10 ev11 ev12 ev13 ev14 ev15
  refine enter (args := [.agg (gc (x1) ++ gc (y1) ++ gc (z1) ++ gc (t1)).toArray, .agg (gc (x2) ++ gc (y2) ++ gc (z2) ++ gc (t2)).toArray]) Tryd.func19 rfl 68 rfl (lk rfl) (fun a h => ?_)
  refine go_region h hm [eN 2 (gc (x1) ++ gc (y1) ++ gc (z1) ++ gc (t1)), eN 3 (gc (x2) ++ gc (y2) ++ gc (z2) ++ gc (t2)), eN 4 (nz ++ nz ++ nz ++ nz)] (by kernel_rfl) ⟨
    fun L u => u_box u (gd0 rfl) 39 (.tmp 0) rfl 2 rfl rfl rfl _ rfl,
    fun L u => u_box u (gd0 rfl) 39 (.tmp 1) rfl 3 rfl rfl rfl _ rfl,
    fun L u => u_alloc u (gd0 rfl) 39 rfl 4 rfl rfl z39 _ rfl,
    trivial⟩ [(2, .ptr 2 0), (3, .ptr 3 0), (4, .ptr 4 0)] [(2, gc (x1) ++ gc (y1) ++ gc (z1) ++ gc (t1)), (3, gc (x2) ++ gc (y2) ++ gc (z2) ++ gc (t2)), (4, nz ++ nz ++ nz ++ nz)] ⟨rfl, rfl, rfl, trivial⟩ ⟨rfl, rfl, rfl, trivial⟩ rfl (fun a w h => ?_)
  refine go_region h hm [eS 13 (.ptr 2 0), eS 14 (.val (.agg (gc (x1)).toArray)), eS 15 (.ptr 3 0), eS 16 (.val (.agg (gc (x2)).toArray)), eS 17 (.val (.agg (gc (v1)).toArray)), eS 18 (.ptr 2 4), eS 19 (.val (.agg (gc (y1)).toArray)), eS 20 (.ptr 3 4), eS 21 (.val (.agg (gc (y2)).toArray)), eS 22 (.val (.agg (gc (v2)).toArray)), eS 23 (.ptr 2 8), eS 24 (.val (.agg (gc (z1)).toArray)), eS 25 (.ptr 3 8), eS 26 (.val (.agg (gc (z2)).toArray)), eS 27 (.val (.agg (gc (v3)).toArray)), eN 5 (nz), eN 6 (nz), eN 7 (nz), eM 5 (gc (v1)), eM 6 (gc (v2)), eM 7 (gc (v3))] (by kernel_rfl) ⟨
    fun L u => u_field u (gd0 rfl) 13 rfl 39 (.tmp 2) 0 rfl rfl rfl Tryd.underlying39 rfl i24 _ rfl,
    fun L u => u_load u (gd0 rfl) 14 rfl 24 (.tmp 13) rfl rfl rfl Tryd.underlying24 rfl i24 (lk rfl) _ rfl,
    fun L u => u_field u (gd0 rfl) 15 rfl 39 (.tmp 3) 0 rfl rfl rfl Tryd.underlying39 rfl i24 _ rfl,
    fun L u => u_load u (gd0 rfl) 16 rfl 24 (.tmp 15) rfl rfl rfl Tryd.underlying24 rfl i24 (lk rfl) _ rfl,
    fun L u => u_call u (gd0 rfl) 17 rfl 21 #[(.tmp 14), (.tmp 16)] #[24, 24] rfl [.agg (gc (x1)).toArray, .agg (gc (x2)).toArray] rfl (cE21 _) (.agg (gc (v1)).toArray) (fun w hb => by have g := e_mul (hT.keep (Bs.kp_of hb)) x1 x2; rw [← ev1] at g; exact g),
    fun L u => u_field u (gd0 rfl) 18 rfl 39 (.tmp 2) 1 rfl rfl rfl Tryd.underlying39 rfl i24 _ rfl,
    fun L u => u_load u (gd0 rfl) 19 rfl 24 (.tmp 18) rfl rfl rfl Tryd.underlying24 rfl i24 (lk rfl) _ rfl,
    fun L u => u_field u (gd0 rfl) 20 rfl 39 (.tmp 3) 1 rfl rfl rfl Tryd.underlying39 rfl i24 _ rfl,
    fun L u => u_load u (gd0 rfl) 21 rfl 24 (.tmp 20) rfl rfl rfl Tryd.underlying24 rfl i24 (lk rfl) _ rfl,
    fun L u => u_call u (gd0 rfl) 22 rfl 21 #[(.tmp 19), (.tmp 21)] #[24, 24] rfl [.agg (gc (y1)).toArray, .agg (gc (y2)).toArray] rfl (cE21 _) (.agg (gc (v2)).toArray) (fun w hb => by have g := e_mul (hT.keep (Bs.kp_of hb)) y1 y2; rw [← ev2] at g; exact g),
    fun L u => u_field u (gd0 rfl) 23 rfl 39 (.tmp 2) 2 rfl rfl rfl Tryd.underlying39 rfl i24 _ rfl,
    fun L u => u_load u (gd0 rfl) 24 rfl 24 (.tmp 23) rfl rfl rfl Tryd.underlying24 rfl i24 (lk rfl) _ rfl,
    fun L u => u_field u (gd0 rfl) 25 rfl 39 (.tmp 3) 2 rfl rfl rfl Tryd.underlying39 rfl i24 _ rfl,
    fun L u => u_load u (gd0 rfl) 26 rfl 24 (.tmp 25) rfl rfl rfl Tryd.underlying24 rfl i24 (lk rfl) _ rfl,
    fun L u => u_call u (gd0 rfl) 27 rfl 21 #[(.tmp 24), (.tmp 26)] #[24, 24] rfl [.agg (gc (z1)).toArray, .agg (gc (z2)).toArray] rfl (cE21 _) (.agg (gc (v3)).toArray) (fun w hb => by have g := e_mul (hT.keep (Bs.kp_of hb)) z1 z2; rw [← ev3] at g; exact g),
    fun L u => u_alloc u (gd0 rfl) 24 rfl 5 rfl rfl z24 _ rfl,
    fun L u => u_alloc u (gd0 rfl) 24 rfl 6 rfl rfl z24 _ rfl,
    fun L u => u_alloc u (gd0 rfl) 24 rfl 7 rfl rfl z24 _ rfl,
    fun L u => u_store u (gd0 rfl) 24 (.tmp 5) (.tmp 17) rfl rfl rfl (vs := gc (v1)) rfl rfl i24 (lk rfl) rfl _ rfl,
    fun L u => u_store u (gd0 rfl) 24 (.tmp 6) (.tmp 22) rfl rfl rfl (vs := gc (v2)) rfl rfl i24 (lk rfl) rfl _ rfl,
    fun L u => u_store u (gd0 rfl) 24 (.tmp 7) (.tmp 27) rfl rfl rfl (vs := gc (v3)) rfl rfl i24 (lk rfl) rfl _ rfl,
    trivial⟩ [(2, .ptr 2 0), (3, .ptr 3 0), (4, .ptr 4 0), (5, .ptr 5 0), (6, .ptr 6 0), (7, .ptr 7 0)] [(2, gc (x1) ++ gc (y1) ++ gc (z1) ++ gc (t1)), (3, gc (x2) ++ gc (y2) ++ gc (z2) ++ gc (t2)), (4, nz ++ nz ++ nz ++ nz), (5, gc (v1)), (6, gc (v2)), (7, gc (v3))] ⟨rfl, rfl, rfl, rfl, rfl, rfl, trivial⟩ ⟨rfl, rfl, rfl, rfl, rfl, rfl, trivial⟩ rfl (fun a w h => ?_)
  refine go_region h hm [eS 28 (.val (.agg (gc (ed)).toArray)), eS 29 (.ptr 2 12), eS 30 (.val (.agg (gc (t1)).toArray)), eS 31 (.ptr 3 12), eS 32 (.val (.agg (gc (t2)).toArray)), eS 33 (.val (.agg (gc (v4)).toArray)), eS 34 (.val (.agg (gc (v5)).toArray)), eN 8 (nz), eM 8 (gc (v5))] (by kernel_rfl) ⟨
    fun L u => u_loadXR u (gd0 rfl) 28 rfl 24 (.global 0) rfl rfl Tryd.underlying24 rfl (gc (ed)) i24 rfl (hT.ed) rfl,
    fun L u => u_field u (gd0 rfl) 29 rfl 39 (.tmp 2) 3 rfl rfl rfl Tryd.underlying39 rfl i24 _ rfl,
    fun L u => u_load u (gd0 rfl) 30 rfl 24 (.tmp 29) rfl rfl rfl Tryd.underlying24 rfl i24 (lk rfl) _ rfl,
    fun L u => u_field u (gd0 rfl) 31 rfl 39 (.tmp 3) 3 rfl rfl rfl Tryd.underlying39 rfl i24 _ rfl,
    fun L u => u_load u (gd0 rfl) 32 rfl 24 (.tmp 31) rfl rfl rfl Tryd.underlying24 rfl i24 (lk rfl) _ rfl,
    fun L u => u_call u (gd0 rfl) 33 rfl 21 #[(.tmp 30), (.tmp 32)] #[24, 24] rfl [.agg (gc (t1)).toArray, .agg (gc (t2)).toArray] rfl (cE21 _) (.agg (gc (v4)).toArray) (fun w hb => by have g := e_mul (hT.keep (Bs.kp_of hb)) t1 t2; rw [← ev4] at g; exact g),
    fun L u => u_call u (gd0 rfl) 34 rfl 21 #[(.tmp 28), (.tmp 33)] #[24, 24] rfl [.agg (gc (ed)).toArray, .agg (gc (v4)).toArray] rfl (cE21 _) (.agg (gc (v5)).toArray) (fun w hb => by have g := e_mul (hT.keep (Bs.kp_of hb)) ed v4; rw [← ev5] at g; exact g),
    fun L u => u_alloc u (gd0 rfl) 24 rfl 8 rfl rfl z24 _ rfl,
    fun L u => u_store u (gd0 rfl) 24 (.tmp 8) (.tmp 34) rfl rfl rfl (vs := gc (v5)) rfl rfl i24 (lk rfl) rfl _ rfl,
    trivial⟩ [(2, .ptr 2 0), (3, .ptr 3 0), (4, .ptr 4 0), (5, .ptr 5 0), (6, .ptr 6 0), (7, .ptr 7 0), (8, .ptr 8 0)] [(2, gc (x1) ++ gc (y1) ++ gc (z1) ++ gc (t1)), (3, gc (x2) ++ gc (y2) ++ gc (z2) ++ gc (t2)), (4, nz ++ nz ++ nz ++ nz), (5, gc (v1)), (6, gc (v2)), (7, gc (v3)), (8, gc (v5))] ⟨rfl, rfl, rfl, rfl, rfl, rfl, rfl, trivial⟩ ⟨rfl, rfl, rfl, rfl, rfl, rfl, rfl, trivial⟩ rfl (fun a w h => ?_)
  refine go_region h hm [eS 35 (.ptr 2 0), eS 36 (.val (.agg (gc (x1)).toArray)), eS 37 (.ptr 3 4), eS 38 (.val (.agg (gc (y2)).toArray)), eS 39 (.val (.agg (gc (v6)).toArray)), eS 40 (.ptr 3 0), eS 41 (.val (.agg (gc (x2)).toArray)), eS 42 (.ptr 2 4), eS 43 (.val (.agg (gc (y1)).toArray)), eS 44 (.val (.agg (gc (v7)).toArray)), eS 45 (.val (.agg (gc (v8)).toArray)), eN 9 (nz), eM 9 (gc (v8))] (by kernel_rfl) ⟨
    fun L u => u_field u (gd0 rfl) 35 rfl 39 (.tmp 2) 0 rfl rfl rfl Tryd.underlying39 rfl i24 _ rfl,
    fun L u => u_load u (gd0 rfl) 36 rfl 24 (.tmp 35) rfl rfl rfl Tryd.underlying24 rfl i24 (lk rfl) _ rfl,
    fun L u => u_field u (gd0 rfl) 37 rfl 39 (.tmp 3) 1 rfl rfl rfl Tryd.underlying39 rfl i24 _ rfl,
    fun L u => u_load u (gd0 rfl) 38 rfl 24 (.tmp 37) rfl rfl rfl Tryd.underlying24 rfl i24 (lk rfl) _ rfl,
    fun L u => u_call u (gd0 rfl) 39 rfl 21 #[(.tmp 36), (.tmp 38)] #[24, 24] rfl [.agg (gc (x1)).toArray, .agg (gc (y2)).toArray] rfl (cE21 _) (.agg (gc (v6)).toArray) (fun w hb => by have g := e_mul (hT.keep (Bs.kp_of hb)) x1 y2; rw [← ev6] at g; exact g),
    fun L u => u_field u (gd0 rfl) 40 rfl 39 (.tmp 3) 0 rfl rfl rfl Tryd.underlying39 rfl i24 _ rfl,
    fun L u => u_load u (gd0 rfl) 41 rfl 24 (.tmp 40) rfl rfl rfl Tryd.underlying24 rfl i24 (lk rfl) _ rfl,
    fun L u => u_field u (gd0 rfl) 42 rfl 39 (.tmp 2) 1 rfl rfl rfl Tryd.underlying39 rfl i24 _ rfl,
    fun L u => u_load u (gd0 rfl) 43 rfl 24 (.tmp 42) rfl rfl rfl Tryd.underlying24 rfl i24 (lk rfl) _ rfl,
    fun L u => u_call u (gd0 rfl) 44 rfl 21 #[(.tmp 41), (.tmp 43)] #[24, 24] rfl [.agg (gc (x2)).toArray, .agg (gc (y1)).toArray] rfl (cE21 _) (.agg (gc (v7)).toArray) (fun w hb => by have g := e_mul (hT.keep (Bs.kp_of hb)) x2 y1; rw [← ev7] at g; exact g),
    fun L u => u_call u (gd0 rfl) 45 rfl 23 #[(.tmp 39), (.tmp 44)] #[24, 24] rfl [.agg (gc (v6)).toArray, .agg (gc (v7)).toArray] rfl (cE23 _) (.agg (gc (v8)).toArray) (fun w hb => by have g := e_add (hT.keep (Bs.kp_of hb)) v6 v7; rw [← ev8] at g; exact g),
    fun L u => u_alloc u (gd0 rfl) 24 rfl 9 rfl rfl z24 _ rfl,
    fun L u => u_store u (gd0 rfl) 24 (.tmp 9) (.tmp 45) rfl rfl rfl (vs := gc (v8)) rfl rfl i24 (lk rfl) rfl _ rfl,
    trivial⟩ [(4, .ptr 4 0), (5, .ptr 5 0), (6, .ptr 6 0), (7, .ptr 7 0), (8, .ptr 8 0), (9, .ptr 9 0)] [(4, nz ++ nz ++ nz ++ nz), (5, gc (v1)), (6, gc (v2)), (7, gc (v3)), (8, gc (v5)), (9, gc (v8))] ⟨rfl, rfl, rfl, rfl, rfl, rfl, trivial⟩ ⟨rfl, rfl, rfl, rfl, rfl, rfl, trivial⟩ rfl (fun a w h => ?_)
  refine go_region h hm [eS 46 (.val (.agg (gc (v2)).toArray)), eS 47 (.val (.agg (gc (v1)).toArray)), eS 48 (.val (.agg (gc (v9)).toArray)), eN 10 (nz), eM 10 (gc (v9))] (by kernel_rfl) ⟨
    fun L u => u_load u (gd0 rfl) 46 rfl 24 (.tmp 6) rfl rfl rfl Tryd.underlying24 rfl i24 (lk rfl) _ rfl,
    fun L u => u_load u (gd0 rfl) 47 rfl 24 (.tmp 5) rfl rfl rfl Tryd.underlying24 rfl i24 (lk rfl) _ rfl,
    fun L u => u_call u (gd0 rfl) 48 rfl 23 #[(.tmp 46), (.tmp 47)] #[24, 24] rfl [.agg (gc (v2)).toArray, .agg (gc (v1)).toArray] rfl (cE23 _) (.agg (gc (v9)).toArray) (fun w hb => by have g := e_add (hT.keep (Bs.kp_of hb)) v2 v1; rw [← ev9] at g; exact g),
    fun L u => u_alloc u (gd0 rfl) 24 rfl 10 rfl rfl z24 _ rfl,
    fun L u => u_store u (gd0 rfl) 24 (.tmp 10) (.tmp 48) rfl rfl rfl (vs := gc (v9)) rfl rfl i24 (lk rfl) rfl _ rfl,
    trivial⟩ [(4, .ptr 4 0), (7, .ptr 7 0), (8, .ptr 8 0), (9, .ptr 9 0), (10, .ptr 10 0)] [(4, nz ++ nz ++ nz ++ nz), (7, gc (v3)), (8, gc (v5)), (9, gc (v8)), (10, gc (v9))] ⟨rfl, rfl, rfl, rfl, rfl, trivial⟩ ⟨rfl, rfl, rfl, rfl, rfl, trivial⟩ rfl (fun a w h => ?_)
  refine go_region h hm [eS 49 (.val (.agg (gc (v3)).toArray)), eS 50 (.val (.agg (gc (v5)).toArray)), eS 51 (.val (.agg (gc (v10)).toArray)), eS 52 (.val (.agg (gc (v3)).toArray)), eS 53 (.val (.agg (gc (v5)).toArray)), eS 54 (.val (.agg (gc (v11)).toArray)), eN 11 (nz), eN 12 (nz), eM 11 (gc (v10)), eM 12 (gc (v11))] (by kernel_rfl) ⟨
    fun L u => u_load u (gd0 rfl) 49 rfl 24 (.tmp 7) rfl rfl rfl Tryd.underlying24 rfl i24 (lk rfl) _ rfl,
    fun L u => u_load u (gd0 rfl) 50 rfl 24 (.tmp 8) rfl rfl rfl Tryd.underlying24 rfl i24 (lk rfl) _ rfl,
    fun L u => u_call u (gd0 rfl) 51 rfl 23 #[(.tmp 49), (.tmp 50)] #[24, 24] rfl [.agg (gc (v3)).toArray, .agg (gc (v5)).toArray] rfl (cE23 _) (.agg (gc (v10)).toArray) (fun w hb => by have g := e_add (hT.keep (Bs.kp_of hb)) v3 v5; rw [← ev10] at g; exact g),
    fun L u => u_load u (gd0 rfl) 52 rfl 24 (.tmp 7) rfl rfl rfl Tryd.underlying24 rfl i24 (lk rfl) _ rfl,
    fun L u => u_load u (gd0 rfl) 53 rfl 24 (.tmp 8) rfl rfl rfl Tryd.underlying24 rfl i24 (lk rfl) _ rfl,
    fun L u => u_call u (gd0 rfl) 54 rfl 22 #[(.tmp 52), (.tmp 53)] #[24, 24] rfl [.agg (gc (v3)).toArray, .agg (gc (v5)).toArray] rfl (cE22 _) (.agg (gc (v11)).toArray) (fun w hb => by have g := e_sub (hT.keep (Bs.kp_of hb)) v3 v5; rw [← ev11] at g; exact g),
    fun L u => u_alloc u (gd0 rfl) 24 rfl 11 rfl rfl z24 _ rfl,
    fun L u => u_alloc u (gd0 rfl) 24 rfl 12 rfl rfl z24 _ rfl,
    fun L u => u_store u (gd0 rfl) 24 (.tmp 11) (.tmp 51) rfl rfl rfl (vs := gc (v10)) rfl rfl i24 (lk rfl) rfl _ rfl,
    fun L u => u_store u (gd0 rfl) 24 (.tmp 12) (.tmp 54) rfl rfl rfl (vs := gc (v11)) rfl rfl i24 (lk rfl) rfl _ rfl,
    trivial⟩ [(4, .ptr 4 0), (9, .ptr 9 0), (10, .ptr 10 0), (11, .ptr 11 0), (12, .ptr 12 0)] [(4, nz ++ nz ++ nz ++ nz), (9, gc (v8)), (10, gc (v9)), (11, gc (v10)), (12, gc (v11))] ⟨rfl, rfl, rfl, rfl, rfl, trivial⟩ ⟨rfl, rfl, rfl, rfl, rfl, trivial⟩ rfl (fun a w h => ?_)
  refine go_region h hm [eS 55 (.val (.agg (gc (v8)).toArray)), eS 56 (.val (.agg (gc (v11)).toArray)), eS 57 (.val (.agg (gc (v12)).toArray)), eS 58 (.val (.agg (gc (v9)).toArray)), eS 59 (.val (.agg (gc (v10)).toArray)), eS 60 (.val (.agg (gc (v13)).toArray)), eS 61 (.val (.agg (gc (v10)).toArray)), eS 62 (.val (.agg (gc (v11)).toArray)), eS 63 (.val (.agg (gc (v14)).toArray)), eS 64 (.val (.agg (gc (v8)).toArray)), eS 65 (.val (.agg (gc (v9)).toArray)), eS 66 (.val (.agg (gc (v15)).toArray)), eS 67 (.val (.agg (gc (v12) ++ gc (v13) ++ gc (v14) ++ gc (v15)).toArray)), eM 4 (gc (v12) ++ gc (v13) ++ gc (v14) ++ gc (v15))] (by kernel_rfl) ⟨
    fun L u => u_load u (gd0 rfl) 55 rfl 24 (.tmp 9) rfl rfl rfl Tryd.underlying24 rfl i24 (lk rfl) _ rfl,
    fun L u => u_load u (gd0 rfl) 56 rfl 24 (.tmp 12) rfl rfl rfl Tryd.underlying24 rfl i24 (lk rfl) _ rfl,
    fun L u => u_call u (gd0 rfl) 57 rfl 21 #[(.tmp 55), (.tmp 56)] #[24, 24] rfl [.agg (gc (v8)).toArray, .agg (gc (v11)).toArray] rfl (cE21 _) (.agg (gc (v12)).toArray) (fun w hb => by have g := e_mul (hT.keep (Bs.kp_of hb)) v8 v11; rw [← ev12] at g; exact g),
    fun L u => u_load u (gd0 rfl) 58 rfl 24 (.tmp 10) rfl rfl rfl Tryd.underlying24 rfl i24 (lk rfl) _ rfl,
    fun L u => u_load u (gd0 rfl) 59 rfl 24 (.tmp 11) rfl rfl rfl Tryd.underlying24 rfl i24 (lk rfl) _ rfl,
    fun L u => u_call u (gd0 rfl) 60 rfl 21 #[(.tmp 58), (.tmp 59)] #[24, 24] rfl [.agg (gc (v9)).toArray, .agg (gc (v10)).toArray] rfl (cE21 _) (.agg (gc (v13)).toArray) (fun w hb => by have g := e_mul (hT.keep (Bs.kp_of hb)) v9 v10; rw [← ev13] at g; exact g),
    fun L u => u_load u (gd0 rfl) 61 rfl 24 (.tmp 11) rfl rfl rfl Tryd.underlying24 rfl i24 (lk rfl) _ rfl,
    fun L u => u_load u (gd0 rfl) 62 rfl 24 (.tmp 12) rfl rfl rfl Tryd.underlying24 rfl i24 (lk rfl) _ rfl,
    fun L u => u_call u (gd0 rfl) 63 rfl 21 #[(.tmp 61), (.tmp 62)] #[24, 24] rfl [.agg (gc (v10)).toArray, .agg (gc (v11)).toArray] rfl (cE21 _) (.agg (gc (v14)).toArray) (fun w hb => by have g := e_mul (hT.keep (Bs.kp_of hb)) v10 v11; rw [← ev14] at g; exact g),
    fun L u => u_load u (gd0 rfl) 64 rfl 24 (.tmp 9) rfl rfl rfl Tryd.underlying24 rfl i24 (lk rfl) _ rfl,
    fun L u => u_load u (gd0 rfl) 65 rfl 24 (.tmp 10) rfl rfl rfl Tryd.underlying24 rfl i24 (lk rfl) _ rfl,
    fun L u => u_call u (gd0 rfl) 66 rfl 21 #[(.tmp 64), (.tmp 65)] #[24, 24] rfl [.agg (gc (v8)).toArray, .agg (gc (v9)).toArray] rfl (cE21 _) (.agg (gc (v15)).toArray) (fun w hb => by have g := e_mul (hT.keep (Bs.kp_of hb)) v8 v9; rw [← ev15] at g; exact g),
    fun L u => u_build u (gd0 rfl) 67 rfl 39 #[(0, (.tmp 57)), (1, (.tmp 60)), (2, (.tmp 63)), (3, (.tmp 66))] rfl [(0, .agg (gc (v12)).toArray), (1, .agg (gc (v13)).toArray), (2, .agg (gc (v14)).toArray), (3, .agg (gc (v15)).toArray)] rfl (gc (v12) ++ gc (v13) ++ gc (v14) ++ gc (v15)) (g_bX _ _ _ _),
    fun L u => u_store u (gd0 rfl) 39 (.tmp 4) (.tmp 67) rfl rfl rfl (vs := gc (v12) ++ gc (v13) ++ gc (v14) ++ gc (v15)) rfl rfl i39 (lk rfl) rfl _ rfl,
    trivial⟩ [(4, .ptr 4 0)] [(4, gc (v12) ++ gc (v13) ++ gc (v14) ++ gc (v15))] ⟨rfl, trivial⟩ ⟨rfl, trivial⟩ rfl (fun a w h => ?_)
  refine wp_ret ?_
  refine ret_row h 4 39 rfl (lk rfl) 4 rfl (gc (v12) ++ gc (v13) ++ gc (v14) ++ gc (v15)) rfl _ Tryd.underlying39 rfl i39 ?_
  exact ⟨by rw [hpp.1, hpp.2.1, hpp.2.2.1, hpp.2.2.2]; rfl, h.grows⟩
end Go.Proofs.YtolehamdaceikabDoor
