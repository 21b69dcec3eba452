/- The statements' own question whether the program does anything is answered with yes; the functions at numbers that are written out. What limb.Half and limb.Bit answer, for all numbers: half of it, rounded down, and the bit that stands for 2^i. What field.Pow answers: the power, bit by bit from the lowest on. What field.Modulus answers. What field.Inv answers: the number that makes 1 with the given one, by Fermat. Numbers modulo the modulus 2 as they lie in memory, and what the program's own sums and products do with them. What the document's own Bit answers, for all numbers: the same as limb's. What the document's own Less answers, for all numbers. What codec.Below and the document's own answer. -/
import Derived.Test.YtolehamdaceikaaDoorB17
import Derived.Test.YtolehamdaceikaaDoorB08
import Derived.Test.YtolehamdaceikaaDoorB15
import Derived.Test.YtolehamdaceikaaDoorB03
import Derived.Test.YtolehamdaceikaaDoorB02
import Derived.Test.YtolehamdaceikaaDoorB14
import Derived.WalkSmall
import Derived.Laws.BitsAllLaws
import Derived.Deep.LoopGhost
import Derived.Deep.DeepCutAuto
import Derived.Deep.RegionHeld3
namespace Go.Proofs.YtolehamdaceikaaDoor
open Go.RowKit
attribute [local go_sem ↓] Go.wp_at_zero Go.wp_at_succ
attribute [local go_sem] eq4

theorem f_sub_z {k b : Int} (hkk : 0 ≤ k ∧ k ≤ 3) (hb : Num b) {w : World} (hT : Tab w) : Calls Tryd.prog 66 #[.int .i64 k, .agg #[.int .u64 0, .int .u64 0, .int .u64 0, .int .u64 0], .agg #[.int .u64 (L 0 b), .int .u64 (L 1 b), .int .u64 (L 2 b), .int .u64 (L 3 b)]] w fun e w' => e = .returned (.agg #[.int .u64 (L 0 ((0 - b) % md k)), .int .u64 (L 1 ((0 - b) % md k)), .int .u64 (L 2 ((0 - b) % md k)), .int .u64 (L 3 ((0 - b) % md k))]) ∧ Below w.heap.size w w' := by
  have h := f_sub (a := 0) hkk ⟨by decide, by decide⟩ hb hT
  rw [L_zero, L_zero, L_zero, L_zero] at h
  exact h
theorem f_mul_1 {k a : Int} (hkk : 0 ≤ k ∧ k ≤ 3) (ha : Num a) {w : World} (hT : Tab w) : Calls Tryd.prog 65 #[.int .i64 k, .agg #[.int .u64 (L 0 a), .int .u64 (L 1 a), .int .u64 (L 2 a), .int .u64 (L 3 a)], .agg #[.int .u64 1, .int .u64 0, .int .u64 0, .int .u64 0]] w fun e w' => e = .returned (.agg #[.int .u64 (L 0 (a % md k)), .int .u64 (L 1 (a % md k)), .int .u64 (L 2 (a % md k)), .int .u64 (L 3 (a % md k))]) ∧ Below w.heap.size w w' := by
  have h := f_mul (b := 1) hkk ha ⟨by decide, by decide⟩ hT
  have b0 : L 0 1 = 1 := by decide
  have b1 : L 1 1 = 0 := by decide
  have b2 : L 2 1 = 0 := by decide
  have b3 : L 3 1 = 0 := by decide
  rw [b0, b1, b2, b3, Int.mul_one] at h
  exact h
theorem mul_mod_l (x b m : Int) : (x % m * b) % m = (x * b) % m := by rw [Int.mul_emod, Int.emod_emod, ← Int.mul_emod]
theorem mul_mod_r (x b m : Int) : (x * (b % m)) % m = (x * b) % m := by rw [Int.mul_emod, Int.emod_emod, ← Int.mul_emod]
theorem num_f {k a : Int} (hkk : 0 ≤ k ∧ k ≤ 3) : Num (a % md k) := num_mod (md_num k) (md_pos hkk)
/-- The statements' own number of a modulus. -/
theorem k_four (k : Int) : 0 ≤ k % 4 ∧ k % 4 ≤ 3 := by omega
end Go.Proofs.YtolehamdaceikaaDoor
namespace Go.Proofs.YtolehamdaceikaaDoor
open Go.RowKit
attribute [local go_sem ↓] Go.wp_at_zero Go.wp_at_succ

theorem or_top (x d : Int) (hx : 0 ≤ x) (hx2 : x < 18446744073709551616) (hd : 0 ≤ d) (hd2 : d ≤ 1) : bits .or .u64 (x / 2) (IntKind.u64.wrap (d * 9223372036854775808)) = x / 2 + d * 9223372036854775808 := by
  rw [IntWalk.u64_in _ (by omega), u64_or _ _ (by omega) (by omega) (by omega) (by omega)]
  obtain ⟨n, hn⟩ := Int.eq_ofNat_of_zero_le (show 0 ≤ x / 2 by omega)
  obtain ⟨m, rfl⟩ := Int.eq_ofNat_of_zero_le hd
  rw [hn]
  have hlt : n < 2 ^ 63 := by omega
  have e1 : ((m : Int) * 9223372036854775808).toNat = 2 ^ 63 * m := by omega
  rw [e1, Int.toNat_natCast, Nat.or_comm, ← Nat.two_pow_add_eq_or_of_lt hlt]
  omega

theorem or_zero (x : Int) (hx : 0 ≤ x) (hx2 : x < 18446744073709551616) : bits .or .u64 (x / 2) 0 = x / 2 := by
  have h := or_top x 0 hx hx2 (by omega) (by omega)
  rw [Int.zero_mul, IntWalk.u64_in _ (by omega)] at h
  omega

theorem half3 {a : Int} (h : Num a) : bits .or .u64 (L 3 a / 2) 0 = L 3 (a / 2) := by
  rw [or_zero _ (L_lo _ _) (L_hi _ _), L3, L3]
  obtain ⟨h1, h2⟩ := h
  unfold M at h2
  omega
theorem half2 (a : Int) : bits .or .u64 (L 2 a / 2) (IntKind.u64.wrap (bits .and .u64 (L 3 a) 1 * 9223372036854775808)) = L 2 (a / 2) := by
  have h1 := L_lo 3 a
  have h2 := L_hi 3 a
  rw [and_one_u64 _ h1 (by omega), or_top _ _ (L_lo _ _) (L_hi _ _) (by omega) (by omega), L3, L2, L2]
  omega
theorem half1 (a : Int) : bits .or .u64 (L 1 a / 2) (IntKind.u64.wrap (bits .and .u64 (L 2 a) 1 * 9223372036854775808)) = L 1 (a / 2) := by
  have h1 := L_lo 2 a
  have h2 := L_hi 2 a
  rw [and_one_u64 _ h1 (by omega), or_top _ _ (L_lo _ _) (L_hi _ _) (by omega) (by omega), L2, L1, L1]
  omega
theorem half0 (a : Int) : bits .or .u64 (L 0 a / 2) (IntKind.u64.wrap (bits .and .u64 (L 1 a) 1 * 9223372036854775808)) = L 0 (a / 2) := by
  have h1 := L_lo 1 a
  have h2 := L_hi 1 a
  rw [and_one_u64 _ h1 (by omega), or_top _ _ (L_lo _ _) (L_hi _ _) (by omega) (by omega), L1, L0, L0]
  omega

set_option maxHeartbeats 1000000 in
theorem half_any {a : Int} (h : Num a) (w : World) :
    Calls Tryd.prog 76 #[.agg #[.int .u64 (L 0 a), .int .u64 (L 1 a), .int .u64 (L 2 a), .int .u64 (L 3 a)]] w fun e w' =>
      e = .returned (.agg #[.int .u64 (L 0 (a / 2)), .int .u64 (L 1 (a / 2)), .int .u64 (L 2 (a / 2)), .int .u64 (L 3 (a / 2))]) ∧ Below w.heap.size w w' := by
  have a0 := L_lo 0 a
  have b0 := L_hi 0 a
  have a1 := L_lo 1 a
  have b1 := L_hi 1 a
  have a2 := L_lo 2 a
  have b2 := L_hi 2 a
  have a3 := L_lo 3 a
  have b3 := L_hi 3 a
  go_enter Tryd.func76, Tryd.ntmps76
  go_wp2
  refine wp_loop_rounds 5 ?_
  rw [rounds_succ]
  go_wp2
  rw [half3 h, rounds_succ]
  go_wp2
  rw [half2, rounds_succ]
  go_wp2
  rw [half1, rounds_succ]
  go_wp2
  rw [half0, rounds_succ]
  go_wp2
  go_returns
  refine ⟨rfl, ?_⟩
  go_grown

/-- The bit that stands for 2^i; 0 outside 0 to 255. -/
def bt (a i : Int) : Int := if 0 ≤ i ∧ i < 256 then a / 2 ^ i.toNat % 2 else 0
theorem bt_in (a i : Int) (h0 : 0 ≤ i) (h1 : i < 256) : bt a i = a / 2 ^ i.toNat % 2 := by unfold bt; rw [if_pos ⟨h0, h1⟩]
theorem bt_low (a i : Int) (h : i < 0) : bt a i = 0 := by unfold bt; rw [if_neg (by omega)]
theorem bt_high (a i : Int) (h : 256 ≤ i) : bt a i = 0 := by unfold bt; rw [if_neg (by omega)]
theorem bt_lo (a i : Int) : 0 ≤ bt a i := by unfold bt; split <;> omega
theorem bt_hi (a i : Int) : bt a i ≤ 1 := by unfold bt; split <;> omega

theorem div_pow_mod (x : Int) (r s : Nat) : x % 2 ^ (r + s + 1) / 2 ^ r % 2 = x / 2 ^ r % 2 := by
  have hp : (0 : Int) < 2 ^ r := Int.pow_pos (by omega)
  have e : x % 2 ^ (r + s + 1) = x - 2 ^ r * (2 * (2 ^ s * (x / 2 ^ (r + s + 1)))) := by
    rw [Int.emod_def, Int.pow_succ, Int.pow_add]
    generalize x / ((2 : Int) ^ r * 2 ^ s * 2) = q
    congr 1
    rw [Int.mul_assoc, Int.mul_assoc, Int.mul_left_comm ((2 : Int) ^ s) 2 q]
  rw [e, show x - 2 ^ r * (2 * (2 ^ s * (x / 2 ^ (r + s + 1)))) = x + 2 ^ r * (-(2 * (2 ^ s * (x / 2 ^ (r + s + 1))))) by rw [Int.mul_neg]; omega, Int.add_mul_ediv_left _ _ (by omega)]
  generalize (2 : Int) ^ s * (x / 2 ^ (r + s + 1)) = z
  omega
theorem word_bit (a : Int) (k r : Nat) (hr : r < 64) : L k a / 2 ^ r % 2 = a / 2 ^ (64 * k + r) % 2 := by
  obtain ⟨s, hs⟩ : ∃ s, 64 = r + s + 1 := ⟨63 - r, by omega⟩
  have eB : B = 2 ^ (r + s + 1) := by rw [← hs]; rfl
  have eK : B ^ k = 2 ^ (64 * k) := by rw [Int.pow_mul]; rfl
  unfold L
  rw [eK, eB, div_pow_mod, Int.ediv_ediv_of_nonneg (Int.le_of_lt (Int.pow_pos (by omega))), ← Int.pow_add]

theorem bit_word (a i : Int) (k : Nat) (h0 : 0 ≤ i) (h1 : i < 256) (hq : i / 64 = k) : wrap64 (bits BinOp.and IntKind.u64 (L k a / 2 ^ (i % 64).toNat) 1) = bt a i := by
  have hp : (0 : Int) < 2 ^ (i % 64).toNat := Int.pow_pos (by omega)
  have l1 := L_lo k a
  have l2 := L_hi k a
  have d1 : 0 ≤ L k a / 2 ^ (i % 64).toNat := Int.ediv_nonneg l1 (Int.le_of_lt hp)
  have d2 : L k a / 2 ^ (i % 64).toNat ≤ L k a := Int.ediv_le_self _ l1
  rw [and_one_u64 _ d1 (by omega), IntWalk.wrap64_in _ (by omega), word_bit _ _ _ (by omega), bt_in _ _ h0 h1]
  rw [show 64 * k + (i % 64).toNat = i.toNat by omega]

set_option maxHeartbeats 1000000 in
theorem bit_in0 (a i : Int) (h0 : 0 ≤ i) (h1 : i < 256) (hq : i / 64 = 0) (w : World) :
    Calls Tryd.prog 52 #[.agg #[.int .u64 (L 0 a), .int .u64 (L 1 a), .int .u64 (L 2 a), .int .u64 (L 3 a)], .int .i64 i] w fun e w' =>
      e = .returned (.int .i64 (bt a i)) ∧ Below w.heap.size w w' := by
  have l1 := L_lo 0 a
  have l2 := L_hi 0 a
  go_enter Tryd.func52, Tryd.ntmps52
  go_wp2
  go_ret
  refine ⟨congrArg (fun x => Ending.returned (.int .i64 x)) (bit_word a i 0 h0 h1 hq), ?_⟩
  go_grown
set_option maxHeartbeats 1000000 in
theorem bit_in1 (a i : Int) (h0 : 0 ≤ i) (h1 : i < 256) (hq : i / 64 = 1) (w : World) :
    Calls Tryd.prog 52 #[.agg #[.int .u64 (L 0 a), .int .u64 (L 1 a), .int .u64 (L 2 a), .int .u64 (L 3 a)], .int .i64 i] w fun e w' =>
      e = .returned (.int .i64 (bt a i)) ∧ Below w.heap.size w w' := by
  have l1 := L_lo 1 a
  have l2 := L_hi 1 a
  go_enter Tryd.func52, Tryd.ntmps52
  go_wp2
  go_ret
  refine ⟨congrArg (fun x => Ending.returned (.int .i64 x)) (bit_word a i 1 h0 h1 hq), ?_⟩
  go_grown
set_option maxHeartbeats 1000000 in
theorem bit_in2 (a i : Int) (h0 : 0 ≤ i) (h1 : i < 256) (hq : i / 64 = 2) (w : World) :
    Calls Tryd.prog 52 #[.agg #[.int .u64 (L 0 a), .int .u64 (L 1 a), .int .u64 (L 2 a), .int .u64 (L 3 a)], .int .i64 i] w fun e w' =>
      e = .returned (.int .i64 (bt a i)) ∧ Below w.heap.size w w' := by
  have l1 := L_lo 2 a
  have l2 := L_hi 2 a
  go_enter Tryd.func52, Tryd.ntmps52
  go_wp2
  go_ret
  refine ⟨congrArg (fun x => Ending.returned (.int .i64 x)) (bit_word a i 2 h0 h1 hq), ?_⟩
  go_grown
set_option maxHeartbeats 1000000 in
theorem bit_in3 (a i : Int) (h0 : 0 ≤ i) (h1 : i < 256) (hq : i / 64 = 3) (w : World) :
    Calls Tryd.prog 52 #[.agg #[.int .u64 (L 0 a), .int .u64 (L 1 a), .int .u64 (L 2 a), .int .u64 (L 3 a)], .int .i64 i] w fun e w' =>
      e = .returned (.int .i64 (bt a i)) ∧ Below w.heap.size w w' := by
  have l1 := L_lo 3 a
  have l2 := L_hi 3 a
  go_enter Tryd.func52, Tryd.ntmps52
  go_wp2
  go_ret
  refine ⟨congrArg (fun x => Ending.returned (.int .i64 x)) (bit_word a i 3 h0 h1 hq), ?_⟩
  go_grown
set_option maxHeartbeats 1000000 in
theorem bit_below (a i : Int) (h0 : i < 0) (w : World) :
    Calls Tryd.prog 52 #[.agg #[.int .u64 (L 0 a), .int .u64 (L 1 a), .int .u64 (L 2 a), .int .u64 (L 3 a)], .int .i64 i] w fun e w' =>
      e = .returned (.int .i64 0) ∧ Below w.heap.size w w' := by
  go_enter Tryd.func52, Tryd.ntmps52
  go_wp2
  go_ret
  refine ⟨rfl, ?_⟩
  go_grown
set_option maxHeartbeats 1000000 in
theorem bit_above (a i : Int) (h0 : 256 ≤ i) (w : World) :
    Calls Tryd.prog 52 #[.agg #[.int .u64 (L 0 a), .int .u64 (L 1 a), .int .u64 (L 2 a), .int .u64 (L 3 a)], .int .i64 i] w fun e w' =>
      e = .returned (.int .i64 0) ∧ Below w.heap.size w w' := by
  go_enter Tryd.func52, Tryd.ntmps52
  go_wp2
  go_ret
  refine ⟨rfl, ?_⟩
  go_grown
theorem bit_any (a i : Int) (w : World) :
    Calls Tryd.prog 52 #[.agg #[.int .u64 (L 0 a), .int .u64 (L 1 a), .int .u64 (L 2 a), .int .u64 (L 3 a)], .int .i64 i] w fun e w' =>
      e = .returned (.int .i64 (bt a i)) ∧ Below w.heap.size w w' := by
  by_cases h0 : i < 0
  · rw [bt_low a i h0]; exact bit_below a i h0 w
  by_cases h1 : 256 ≤ i
  · rw [bt_high a i h1]; exact bit_above a i h1 w
  have hq : i / 64 = 0 ∨ i / 64 = 1 ∨ i / 64 = 2 ∨ i / 64 = 3 := by omega
  rcases hq with hq | hq | hq | hq
  · exact bit_in0 a i (by omega) (by omega) hq w
  · exact bit_in1 a i (by omega) (by omega) hq w
  · exact bit_in2 a i (by omega) (by omega) hq w
  · exact bit_in3 a i (by omega) (by omega) hq w
end Go.Proofs.YtolehamdaceikaaDoor
namespace Go.Proofs.YtolehamdaceikaaDoor
open Go.RowKit
attribute [local go_sem ↓] Go.wp_at_zero Go.wp_at_succ

/-- A power. -/
def pw (x e : Int) : Int := x ^ e.toNat
theorem pw_zero (x : Int) : pw x 0 = 1 := by simp [pw]
theorem pow_mod_any (x m : Int) : ∀ k : Nat, (x % m) ^ k % m = x ^ k % m
  | 0 => by simp
  | k + 1 => by rw [Int.pow_succ, Int.pow_succ, mul_mod_r, Int.mul_emod, pow_mod_any x m k, ← Int.mul_emod]
theorem pw_mod (x e m : Int) : pw (x % m) e % m = pw x e % m := pow_mod_any x m e.toNat
theorem pw_even {x e m : Int} (h : e % 2 = 0) : pw x e % m = pw (x * x % m) (e / 2) % m := by
  rw [pw_mod]
  unfold pw
  have e1 : e.toNat = 2 * (e / 2).toNat := by omega
  rw [e1, Int.pow_mul, Int.pow_succ, Int.pow_succ, Int.pow_zero, Int.one_mul]
theorem pw_odd {x e m : Int} (h0 : 0 < e) (h : e % 2 = 1) : pw x e % m = x * pw (x * x % m) (e / 2) % m := by
  rw [← mul_mod_r, pw_mod, mul_mod_r]
  unfold pw
  have e1 : e.toNat = 2 * (e / 2).toNat + 1 := by omega
  rw [e1, Int.pow_succ, Int.pow_mul, Int.pow_succ, Int.pow_succ, Int.pow_zero, Int.one_mul, Int.mul_comm]
theorem inv_even {x y e m : Int} (h : e % 2 = 0) : y * pw (x * x % m) (e / 2) % m = y * pw x e % m := by
  rw [← mul_mod_r y (pw x e), pw_even h, mul_mod_r]
theorem inv_odd {x y e m : Int} (h0 : 0 < e) (h : e % 2 = 1) : (y * x % m) * pw (x * x % m) (e / 2) % m = y * pw x e % m := by
  rw [mul_mod_l, ← mul_mod_r y (pw x e), pw_odd h0 h, mul_mod_r, Int.mul_assoc]
theorem bt_0 (f : Int) : bt f 0 = f % 2 := by unfold bt; simp
theorem words_not {f : Int} (h : Num f) (hf : f ≠ 0) : (L 0 f == 0 && (L 1 f == 0 && (L 2 f == 0 && (L 3 f == 0 && true)))) = false := by
  cases hb : (L 0 f == 0 && (L 1 f == 0 && (L 2 f == 0 && (L 3 f == 0 && true)))) with
  | false => rfl
  | true =>
    simp only [Bool.and_eq_true, beq_iff_eq, and_true] at hb
    have := num_val h
    omega

/-- What the loop keeps: the number, the exponent, the place of the answer, the power. -/
structure PowS (w wr : World) (n : Nat) (x f y : Int) : Prop where
  below : Below w.heap.size w wr
  X : ArrW wr w.heap.size (L 0 x) (L 1 x) (L 2 x) (L 3 x)
  E : ArrW wr (w.heap.size + 1) (L 0 f) (L 1 f) (L 2 f) (L 3 f)
  R : ArrW wr (w.heap.size + 1 + 1) 0 0 0 0
  P : ArrW wr n (L 0 y) (L 1 y) (L 2 y) (L 3 y)
theorem PowS.call {w wr w1 : World} {n : Nat} {x f y : Int} (h : PowS w wr n x f y) (hk : Below wr.heap.size wr w1) : PowS w w1 n x f y :=
  ⟨K.call h.below hk, h.X.keep hk, h.E.keep hk, h.R.keep hk, h.P.keep hk⟩
theorem PowS.storeP {w wr : World} {n : Nat} {x f y : Int} (h : PowS w wr n x f y) (hn : w.heap.size + 1 + 1 < n) (z : Int) : PowS w ((((wr.setCell ⟨n, 0, none⟩ (.int .u64 (L 0 z))).setCell ⟨n, 1, none⟩ (.int .u64 (L 1 z))).setCell ⟨n, 2, none⟩ (.int .u64 (L 2 z))).setCell ⟨n, 3, none⟩ (.int .u64 (L 3 z))) n x f z :=
  ⟨K.set4 h.below (by omega) _ _ _ _, h.X.set4 (by omega) _ _ _ _, h.E.set4 (by omega) _ _ _ _, h.R.set4 (by omega) _ _ _ _, h.P.stored _ _ _ _⟩
theorem PowS.storeA {w wr : World} {n : Nat} {x f y : Int} (h : PowS w wr n x f y) (hn : w.heap.size + 1 + 1 < n) (z : Int) : PowS w ((((wr.setCell ⟨w.heap.size, 0, none⟩ (.int .u64 (L 0 z))).setCell ⟨w.heap.size, 1, none⟩ (.int .u64 (L 1 z))).setCell ⟨w.heap.size, 2, none⟩ (.int .u64 (L 2 z))).setCell ⟨w.heap.size, 3, none⟩ (.int .u64 (L 3 z))) n z f y :=
  ⟨K.set4 h.below (by omega) _ _ _ _, h.X.stored _ _ _ _, h.E.set4 (by omega) _ _ _ _, h.R.set4 (by omega) _ _ _ _, h.P.set4 (by omega) _ _ _ _⟩
theorem PowS.storeE {w wr : World} {n : Nat} {x f y : Int} (h : PowS w wr n x f y) (hn : w.heap.size + 1 + 1 < n) (z : Int) : PowS w ((((wr.setCell ⟨(w.heap.size + 1), 0, none⟩ (.int .u64 (L 0 z))).setCell ⟨(w.heap.size + 1), 1, none⟩ (.int .u64 (L 1 z))).setCell ⟨(w.heap.size + 1), 2, none⟩ (.int .u64 (L 2 z))).setCell ⟨(w.heap.size + 1), 3, none⟩ (.int .u64 (L 3 z))) n x z y :=
  ⟨K.set4 h.below (by omega) _ _ _ _, h.X.set4 (by omega) _ _ _ _, h.E.stored _ _ _ _, h.R.set4 (by omega) _ _ _ _, h.P.set4 (by omega) _ _ _ _⟩

set_option maxHeartbeats 8000000 in
theorem f_pow {k a ex : Int} (hkk : 0 ≤ k ∧ k ≤ 3) (ha : Num a) (he : Num ex) {w : World} (hT : Tab w) :
    Calls Tryd.prog 59 #[.int .i64 k, .agg #[.int .u64 (L 0 a), .int .u64 (L 1 a), .int .u64 (L 2 a), .int .u64 (L 3 a)], .agg #[.int .u64 (L 0 ex), .int .u64 (L 1 ex), .int .u64 (L 2 ex), .int .u64 (L 3 ex)]] w fun e w' => e = .returned (.agg #[.int .u64 (L 0 (pw a ex % md k)), .int .u64 (L 1 (pw a ex % md k)), .int .u64 (L 2 (pw a ex % md k)), .int .u64 (L 3 (pw a ex % md k))]) ∧ Below w.heap.size w w' := by
  have nm := md_num k
  have hp := md_pos hkk
  have HF : Hid (∀ w, Calls Tryd.prog 75 #[.agg #[.int .u64 (L 0 (md k)), .int .u64 (L 1 (md k)), .int .u64 (L 2 (md k)), .int .u64 (L 3 (md k))], .agg #[.int .u64 1, .int .u64 0, .int .u64 0, .int .u64 0]] w fun e w' => e = .returned (.agg #[.int .u64 (L 0 (1 % md k)), .int .u64 (L 1 (1 % md k)), .int .u64 (L 2 (1 % md k)), .int .u64 (L 3 (1 % md k))]) ∧ Below w.heap.size w w') := by
    intro w
    have h := fold_any (a := 1) hkk ⟨by decide, by decide⟩ w
    have b0 : L 0 1 = 1 := by decide
    have b1 : L 1 1 = 0 := by decide
    have b2 : L 2 1 = 0 := by decide
    have b3 : L 3 1 = 0 := by decide
    rw [b0, b1, b2, b3] at h
    exact h
  have HPR : Hid (∀ a b w, Num a → Num b → Calls Tryd.prog 74 #[.agg #[.int .u64 (L 0 (md k)), .int .u64 (L 1 (md k)), .int .u64 (L 2 (md k)), .int .u64 (L 3 (md k))], .agg #[.int .u64 (L 0 a), .int .u64 (L 1 a), .int .u64 (L 2 a), .int .u64 (L 3 a)], .agg #[.int .u64 (L 0 b), .int .u64 (L 1 b), .int .u64 (L 2 b), .int .u64 (L 3 b)]] w fun e w' => e = .returned (.agg #[.int .u64 (L 0 (a * b % md k)), .int .u64 (L 1 (a * b % md k)), .int .u64 (L 2 (a * b % md k)), .int .u64 (L 3 (a * b % md k))]) ∧ Below w.heap.size w w') := fun a b w ha hb => prod_any hkk ha hb w
  have HMO : Hid (∀ w, Tab w → Calls Tryd.prog 73 #[.int .i64 k] w fun e w' => e = .returned (.agg #[.int .u64 (L 0 (md k)), .int .u64 (L 1 (md k)), .int .u64 (L 2 (md k)), .int .u64 (L 3 (md k))]) ∧ Below w.heap.size w w') := fun w hT => modOf_any k hT
  have H0 : Hid (Num a ∧ Num ex ∧ 0 ≤ 1 % md k ∧ 1 % md k < md k ∧ Num (1 % md k)) := ⟨ha, he, Int.emod_nonneg _ (by omega), Int.emod_lt_of_pos _ hp, num_f hkk⟩
  have HNM : Hid (Num (md k) ∧ 0 < md k) := ⟨nm, hp⟩
  clear ha he hp nm hkk
  generalize md k = m at *
  go_enter Tryd.func59, Tryd.ntmps59
  go_wp2_with fail
  with_reducible refine Calls.mono (HMO.out _ (hT.keep (K.alloc (K.alloc (K.alloc (Below.refl _ _) _) _) _))) ?_
  rintro e w1 ⟨rfl, hb1⟩
  clear HMO
  have X1 := (((ArrW.new w w.heap.size rfl 24 (L 0 a) (L 1 a) (L 2 a) (L 3 a)).alloc _).alloc _).keep hb1 |>.alloc (.cells #[.int .u64 (L 0 m), .int .u64 (L 1 m), .int .u64 (L 2 m), .int .u64 (L 3 m)] 75)
  have E1 := ((ArrW.new _ (w.heap.size + 1) (by simp) 24 (L 0 ex) (L 1 ex) (L 2 ex) (L 3 ex)).alloc _).keep hb1 |>.alloc (.cells #[.int .u64 (L 0 m), .int .u64 (L 1 m), .int .u64 (L 2 m), .int .u64 (L 3 m)] 75)
  have R1 := (ArrW.new _ (w.heap.size + 1 + 1) (by simp) 24 0 0 0 0).keep hb1 |>.alloc (.cells #[.int .u64 (L 0 m), .int .u64 (L 1 m), .int .u64 (L 2 m), .int .u64 (L 3 m)] 75)
  have M1 := Arr.new w1 w1.heap.size rfl 75 (L 0 m) (L 1 m) (L 2 m) (L 3 m)
  have hw1 : Below w.heap.size w (w1.alloc (.cells #[.int .u64 (L 0 m), .int .u64 (L 1 m), .int .u64 (L 2 m), .int .u64 (L 3 m)] 75)) := K.alloc (K.call (K.alloc (K.alloc (K.alloc (Below.refl _ w) _) _) _) hb1) _
  clear hb1 hT
  go_wp2_with fail
  with_reducible refine Calls.mono (HF.out _) ?_
  rintro e w2 ⟨rfl, hb2⟩
  generalize h1m : 1 % m = y0 at *
  have HY : Hid (1 % m = y0) := h1m
  clear h1m
  have hS1 : PowS w (w2.alloc (.cells #[.int .u64 (L 0 y0), .int .u64 (L 1 y0), .int .u64 (L 2 y0), .int .u64 (L 3 y0)] 24)) w2.heap.size a ex y0 :=
    ⟨K.alloc (K.call hw1 hb2) _, (X1.keep hb2).alloc _, (E1.keep hb2).alloc _, (R1.keep hb2).alloc _, ArrW.new w2 w2.heap.size rfl 24 _ _ _ _⟩
  have hn : w.heap.size + 1 + 1 < w2.heap.size := by have := R1.lt; have := hb2.size; omega
  clear hb2 X1 E1 R1 M1 hw1 HF
  go_wp2_with fail
  go_loopg [] ex.toNat (fun g wr => ∃ x y f : Int, g = f.toNat ∧ Num f ∧ Num x ∧ Num y ∧ (0 ≤ y ∧ y < m) ∧ y * pw x f % m = pw a ex % m ∧ PowS w wr w2.heap.size x f y)
  case atStart =>
    have h := H0.out
    exact ⟨a, y0, ex, rfl, h.2.1, h.1, h.2.2.2.2, ⟨h.2.2.1, h.2.2.2.1⟩, by rw [← HY.out, mul_mod_l, Int.one_mul], hS1⟩
  case round =>
    clear hS1
    obtain ⟨x, y, f, hg, nf, nx, ny, hy, hinv, hS⟩ := hrel
    have hS0 := hS
    obtain ⟨hbw, ⟨al, a0, a1, a2, a3, af0, af1, af2, af3⟩, ⟨el, e0, e1, e2, e3, ef0, ef1, ef2, ef3⟩, ⟨rl, r0, r1, r2, r3, rf0, rf1, rf2, rf3⟩, ⟨pl, p0, p1, p2, p3, pf0, pf1, pf2, pf3⟩⟩ := hS0
    by_cases hf : f = 0
    · have HV : Hid (y = pw a ex % m) := by rw [← hinv, hf, pw_zero, Int.mul_one]; exact (Int.emod_eq_of_lt hy.1 hy.2).symm
      have HE : ∀ w, (Op.equalIn 10000 24 (.agg #[.int .u64 (L 0 f), .int .u64 (L 1 f), .int .u64 (L 2 f), .int .u64 (L 3 f)]) (.agg #[.int .u64 0, .int .u64 0, .int .u64 0, .int .u64 0])).run Tryd.prog w = .ok true w := by
        intro w; rw [eq4, hf, L_zero, L_zero, L_zero, L_zero]; rfl
      clear hg hinv hy nf nx ny hf
      go_wp2_with fail
      refine bodyPost_ret (v := .agg #[.int .u64 (L 0 y), .int .u64 (L 1 y), .int .u64 (L 2 y), .int .u64 (L 3 y)]) (by simp [results, Tryd.results59, go_sem, r0, r1, r2, r3]) rfl ⟨by rw [← HV.out], K.set4 hS.below (by omega) _ _ _ _⟩
    · have HE : ∀ w, (Op.equalIn 10000 24 (.agg #[.int .u64 (L 0 f), .int .u64 (L 1 f), .int .u64 (L 2 f), .int .u64 (L 3 f)]) (.agg #[.int .u64 0, .int .u64 0, .int .u64 0, .int .u64 0])).run Tryd.prog w = .ok false w := by
        intro w; rw [eq4, words_not nf hf]
      have hm := HNM.out
      have HH : Hid (∀ w, Calls Tryd.prog 76 #[.agg #[.int .u64 (L 0 f), .int .u64 (L 1 f), .int .u64 (L 2 f), .int .u64 (L 3 f)]] w fun e w' => e = .returned (.agg #[.int .u64 (L 0 (f / 2)), .int .u64 (L 1 (f / 2)), .int .u64 (L 2 (f / 2)), .int .u64 (L 3 (f / 2))]) ∧ Below w.heap.size w w') := fun w => half_any nf w
      have HP2 : Hid (∀ w, Calls Tryd.prog 74 #[.agg #[.int .u64 (L 0 m), .int .u64 (L 1 m), .int .u64 (L 2 m), .int .u64 (L 3 m)], .agg #[.int .u64 (L 0 x), .int .u64 (L 1 x), .int .u64 (L 2 x), .int .u64 (L 3 x)], .agg #[.int .u64 (L 0 x), .int .u64 (L 1 x), .int .u64 (L 2 x), .int .u64 (L 3 x)]] w fun e w' => e = .returned (.agg #[.int .u64 (L 0 (x * x % m)), .int .u64 (L 1 (x * x % m)), .int .u64 (L 2 (x * x % m)), .int .u64 (L 3 (x * x % m))]) ∧ Below w.heap.size w w') := fun w => HPR.out x x w nx nx
      have fl := nf.lo
      have fh := nf.hi
      have nx' : Num (x * x % m) := num_mod hm.1 hm.2
      have nf' : Num (f / 2) := ⟨by omega, by omega⟩
      by_cases ho : f % 2 = 1
      · have HB : ∀ w, Calls Tryd.prog 52 #[.agg #[.int .u64 (L 0 f), .int .u64 (L 1 f), .int .u64 (L 2 f), .int .u64 (L 3 f)], .int .i64 0] w fun e w' => e = .returned (.int .i64 1) ∧ Below w.heap.size w w' := by
          intro w; have h := bit_any f 0 w; rwa [bt_0, ho] at h
        have HP1 : Hid (∀ w, Calls Tryd.prog 74 #[.agg #[.int .u64 (L 0 m), .int .u64 (L 1 m), .int .u64 (L 2 m), .int .u64 (L 3 m)], .agg #[.int .u64 (L 0 y), .int .u64 (L 1 y), .int .u64 (L 2 y), .int .u64 (L 3 y)], .agg #[.int .u64 (L 0 x), .int .u64 (L 1 x), .int .u64 (L 2 x), .int .u64 (L 3 x)]] w fun e w' => e = .returned (.agg #[.int .u64 (L 0 (y * x % m)), .int .u64 (L 1 (y * x % m)), .int .u64 (L 2 (y * x % m)), .int .u64 (L 3 (y * x % m))]) ∧ Below w.heap.size w w') := fun w => HPR.out y x w ny nx
        have HI : Hid (Num (f / 2) ∧ Num (x * x % m) ∧ Num (y * x % m) ∧ (0 ≤ y * x % m ∧ y * x % m < m) ∧ (y * x % m) * pw (x * x % m) (f / 2) % m = pw a ex % m ∧ 0 < f ∧ gk = f.toNat) :=
          ⟨nf', nx', num_mod hm.1 hm.2, ⟨Int.emod_nonneg _ (by omega), Int.emod_lt_of_pos _ hm.2⟩, by rw [inv_odd (by omega) ho, hinv], by omega, hg⟩
        clear hg hinv hy nf nx ny hf nx' nf' ho fl fh hm
        generalize x * x % m = x' at *
        generalize y * x % m = y' at *
        go_wp2_with fail
        with_reducible refine Calls.mono (HB _) ?_
        clear hbw al a0 a1 a2 a3 af0 af1 af2 af3 el e0 e1 e2 e3 ef0 ef1 ef2 ef3 rl r0 r1 r2 r3 rf0 rf1 rf2 rf3 pl p0 p1 p2 p3 pf0 pf1 pf2 pf3
        rintro e w3 ⟨rfl, hb⟩
        have hS3 := hS.call hb
        clear hb hS
        have hS0 := hS3
        obtain ⟨hbw, ⟨al, a0, a1, a2, a3, af0, af1, af2, af3⟩, ⟨el, e0, e1, e2, e3, ef0, ef1, ef2, ef3⟩, ⟨rl, r0, r1, r2, r3, rf0, rf1, rf2, rf3⟩, ⟨pl, p0, p1, p2, p3, pf0, pf1, pf2, pf3⟩⟩ := hS0
        go_wp2_with fail
        with_reducible refine Calls.mono (HP1.out _) ?_
        clear hbw al a0 a1 a2 a3 af0 af1 af2 af3 el e0 e1 e2 e3 ef0 ef1 ef2 ef3 rl r0 r1 r2 r3 rf0 rf1 rf2 rf3 pl p0 p1 p2 p3 pf0 pf1 pf2 pf3
        rintro e w4 ⟨rfl, hb⟩
        have hS4 := hS3.call hb
        clear hb hS3
        have hS0 := hS4
        obtain ⟨hbw, ⟨al, a0, a1, a2, a3, af0, af1, af2, af3⟩, ⟨el, e0, e1, e2, e3, ef0, ef1, ef2, ef3⟩, ⟨rl, r0, r1, r2, r3, rf0, rf1, rf2, rf3⟩, ⟨pl, p0, p1, p2, p3, pf0, pf1, pf2, pf3⟩⟩ := hS0
        go_upto_region 7 with fail
        refine wp_world (fun W => PowS w W w2.heap.size x f y') (hS4.storeP hn y') ?_
        clear hbw al a0 a1 a2 a3 af0 af1 af2 af3 el e0 e1 e2 e3 ef0 ef1 ef2 ef3 rl r0 r1 r2 r3 rf0 rf1 rf2 rf3 pl p0 p1 p2 p3 pf0 pf1 pf2 pf3 hS4
        intro w5 hS5
        have hS0 := hS5
        obtain ⟨hbw, ⟨al, a0, a1, a2, a3, af0, af1, af2, af3⟩, ⟨el, e0, e1, e2, e3, ef0, ef1, ef2, ef3⟩, ⟨rl, r0, r1, r2, r3, rf0, rf1, rf2, rf3⟩, ⟨pl, p0, p1, p2, p3, pf0, pf1, pf2, pf3⟩⟩ := hS0
        go_wp2_with fail
        with_reducible refine Calls.mono (HP2.out _) ?_
        clear hbw al a0 a1 a2 a3 af0 af1 af2 af3 el e0 e1 e2 e3 ef0 ef1 ef2 ef3 rl r0 r1 r2 r3 rf0 rf1 rf2 rf3 pl p0 p1 p2 p3 pf0 pf1 pf2 pf3
        rintro e w6 ⟨rfl, hb⟩
        have hS6 := hS5.call hb
        clear hb hS5
        have hS0 := hS6
        obtain ⟨hbw, ⟨al, a0, a1, a2, a3, af0, af1, af2, af3⟩, ⟨el, e0, e1, e2, e3, ef0, ef1, ef2, ef3⟩, ⟨rl, r0, r1, r2, r3, rf0, rf1, rf2, rf3⟩, ⟨pl, p0, p1, p2, p3, pf0, pf1, pf2, pf3⟩⟩ := hS0
        go_upto_region 8 with fail
        refine wp_world (fun W => PowS w W w2.heap.size x' f y') (hS6.storeA hn x') ?_
        clear hbw al a0 a1 a2 a3 af0 af1 af2 af3 el e0 e1 e2 e3 ef0 ef1 ef2 ef3 rl r0 r1 r2 r3 rf0 rf1 rf2 rf3 pl p0 p1 p2 p3 pf0 pf1 pf2 pf3 hS6
        intro w7 hS7
        have hS0 := hS7
        obtain ⟨hbw, ⟨al, a0, a1, a2, a3, af0, af1, af2, af3⟩, ⟨el, e0, e1, e2, e3, ef0, ef1, ef2, ef3⟩, ⟨rl, r0, r1, r2, r3, rf0, rf1, rf2, rf3⟩, ⟨pl, p0, p1, p2, p3, pf0, pf1, pf2, pf3⟩⟩ := hS0
        go_wp2_with fail
        with_reducible refine Calls.mono (HH.out _) ?_
        clear hbw al a0 a1 a2 a3 af0 af1 af2 af3 el e0 e1 e2 e3 ef0 ef1 ef2 ef3 rl r0 r1 r2 r3 rf0 rf1 rf2 rf3 pl p0 p1 p2 p3 pf0 pf1 pf2 pf3
        rintro e w8 ⟨rfl, hb⟩
        have hS8 := hS7.call hb
        clear hb hS7
        have hS0 := hS8
        obtain ⟨hbw, ⟨al, a0, a1, a2, a3, af0, af1, af2, af3⟩, ⟨el, e0, e1, e2, e3, ef0, ef1, ef2, ef3⟩, ⟨rl, r0, r1, r2, r3, rf0, rf1, rf2, rf3⟩, ⟨pl, p0, p1, p2, p3, pf0, pf1, pf2, pf3⟩⟩ := hS0
        go_wp2_with fail
        go_roundg (f / 2).toNat
        case measure => have := HI.out; omega
        case rel => exact ⟨x', y', f / 2, rfl, HI.out.1, HI.out.2.1, HI.out.2.2.1, HI.out.2.2.2.1, HI.out.2.2.2.2.1, hS8.storeE hn (f / 2)⟩
      · have hz : f % 2 = 0 := by omega
        have HB : ∀ w, Calls Tryd.prog 52 #[.agg #[.int .u64 (L 0 f), .int .u64 (L 1 f), .int .u64 (L 2 f), .int .u64 (L 3 f)], .int .i64 0] w fun e w' => e = .returned (.int .i64 0) ∧ Below w.heap.size w w' := by
          intro w; have h := bit_any f 0 w; rwa [bt_0, hz] at h
        have HI : Hid (Num (f / 2) ∧ Num (x * x % m) ∧ Num y ∧ (0 ≤ y ∧ y < m) ∧ y * pw (x * x % m) (f / 2) % m = pw a ex % m ∧ 0 < f ∧ gk = f.toNat) :=
          ⟨nf', nx', ny, hy, by rw [inv_even hz, hinv], by omega, hg⟩
        clear hg hinv hy nf nx ny hf nx' nf' ho hz fl fh hm
        generalize x * x % m = x' at *
        go_wp2_with fail
        with_reducible refine Calls.mono (HB _) ?_
        clear hbw al a0 a1 a2 a3 af0 af1 af2 af3 el e0 e1 e2 e3 ef0 ef1 ef2 ef3 rl r0 r1 r2 r3 rf0 rf1 rf2 rf3 pl p0 p1 p2 p3 pf0 pf1 pf2 pf3
        rintro e w3 ⟨rfl, hb⟩
        have hS3 := hS.call hb
        clear hb hS
        have hS0 := hS3
        obtain ⟨hbw, ⟨al, a0, a1, a2, a3, af0, af1, af2, af3⟩, ⟨el, e0, e1, e2, e3, ef0, ef1, ef2, ef3⟩, ⟨rl, r0, r1, r2, r3, rf0, rf1, rf2, rf3⟩, ⟨pl, p0, p1, p2, p3, pf0, pf1, pf2, pf3⟩⟩ := hS0
        go_wp2_with fail
        with_reducible refine Calls.mono (HP2.out _) ?_
        clear hbw al a0 a1 a2 a3 af0 af1 af2 af3 el e0 e1 e2 e3 ef0 ef1 ef2 ef3 rl r0 r1 r2 r3 rf0 rf1 rf2 rf3 pl p0 p1 p2 p3 pf0 pf1 pf2 pf3
        rintro e w6 ⟨rfl, hb⟩
        have hS6 := hS3.call hb
        clear hb hS3
        have hS0 := hS6
        obtain ⟨hbw, ⟨al, a0, a1, a2, a3, af0, af1, af2, af3⟩, ⟨el, e0, e1, e2, e3, ef0, ef1, ef2, ef3⟩, ⟨rl, r0, r1, r2, r3, rf0, rf1, rf2, rf3⟩, ⟨pl, p0, p1, p2, p3, pf0, pf1, pf2, pf3⟩⟩ := hS0
        go_upto_region 8 with fail
        refine wp_world (fun W => PowS w W w2.heap.size x' f y) (hS6.storeA hn x') ?_
        clear hbw al a0 a1 a2 a3 af0 af1 af2 af3 el e0 e1 e2 e3 ef0 ef1 ef2 ef3 rl r0 r1 r2 r3 rf0 rf1 rf2 rf3 pl p0 p1 p2 p3 pf0 pf1 pf2 pf3 hS6
        intro w7 hS7
        have hS0 := hS7
        obtain ⟨hbw, ⟨al, a0, a1, a2, a3, af0, af1, af2, af3⟩, ⟨el, e0, e1, e2, e3, ef0, ef1, ef2, ef3⟩, ⟨rl, r0, r1, r2, r3, rf0, rf1, rf2, rf3⟩, ⟨pl, p0, p1, p2, p3, pf0, pf1, pf2, pf3⟩⟩ := hS0
        go_wp2_with fail
        with_reducible refine Calls.mono (HH.out _) ?_
        clear hbw al a0 a1 a2 a3 af0 af1 af2 af3 el e0 e1 e2 e3 ef0 ef1 ef2 ef3 rl r0 r1 r2 r3 rf0 rf1 rf2 rf3 pl p0 p1 p2 p3 pf0 pf1 pf2 pf3
        rintro e w8 ⟨rfl, hb⟩
        have hS8 := hS7.call hb
        clear hb hS7
        have hS0 := hS8
        obtain ⟨hbw, ⟨al, a0, a1, a2, a3, af0, af1, af2, af3⟩, ⟨el, e0, e1, e2, e3, ef0, ef1, ef2, ef3⟩, ⟨rl, r0, r1, r2, r3, rf0, rf1, rf2, rf3⟩, ⟨pl, p0, p1, p2, p3, pf0, pf1, pf2, pf3⟩⟩ := hS0
        go_wp2_with fail
        go_roundg (f / 2).toNat
        case measure => have := HI.out; omega
        case rel => exact ⟨x', y, f / 2, rfl, HI.out.1, HI.out.2.1, HI.out.2.2.1, HI.out.2.2.2.1, HI.out.2.2.2.2.1, hS8.storeE hn (f / 2)⟩
end Go.Proofs.YtolehamdaceikaaDoor
namespace Go.Proofs.YtolehamdaceikaaDoor
open Go.RowKit
attribute [local go_sem ↓] Go.wp_at_zero Go.wp_at_succ

set_option maxHeartbeats 1000000 in
theorem f_mod (k : Int) {w : World} (hT : Tab w) : Calls Tryd.prog 64 #[.int .i64 k] w fun e w' => e = .returned (.agg #[.int .u64 (L 0 (md k)), .int .u64 (L 1 (md k)), .int .u64 (L 2 (md k)), .int .u64 (L 3 (md k))]) ∧ Below w.heap.size w w' := by
  go_enter Tryd.func64, Tryd.ntmps64
  go_wp2_with fail
  with_reducible refine Calls.mono (modOf_any k (hT.keep (K.alloc (Below.refl _ _) _))) ?_
  rintro e w1 ⟨rfl, hb1⟩
  have ⟨kr, kr0, kr1, kr2, kr3, kf0, kf1, kf2, kf3⟩ := (ArrW.new w w.heap.size rfl 24 0 0 0 0).keep hb1
  have hw1 : Below w.heap.size w w1 := K.call (K.alloc (Below.refl _ w) _) hb1
  go_wp2_with fail
  exact bodyPost_ret (v := .agg #[.int .u64 (L 0 (md k)), .int .u64 (L 1 (md k)), .int .u64 (L 2 (md k)), .int .u64 (L 3 (md k))]) (by simp [results, Tryd.results64, go_sem, kr0, kr1, kr2, kr3]) rfl ⟨rfl, K.set4 hw1 (by omega) _ _ _ _⟩
end Go.Proofs.YtolehamdaceikaaDoor
namespace Go.Proofs.YtolehamdaceikaaDoor
open Go.RowKit
attribute [local go_sem ↓] Go.wp_at_zero Go.wp_at_succ

theorem full_md {k : Int} (hk : 0 ≤ k ∧ k ≤ 3) : Full (md k).toNat := by
  rcases md_cases hk with rfl | rfl | rfl | rfl
  · exact mod0_full
  · exact mod1_full
  · exact mod2_full
  · exact mod3_full
theorem md_big {k : Int} (hk : 0 ≤ k ∧ k ≤ 3) : 4 < md k := by
  rcases md_cases hk with rfl | rfl | rfl | rfl <;> decide
theorem fermat_int {k a : Int} (hk : 0 ≤ k ∧ k ≤ 3) (ha : 0 ≤ a) (h : a % md k ≠ 0) : a ^ ((md k).toNat - 1) % md k = 1 := by
  have hb := md_big hk
  have F := full_md hk
  obtain ⟨m, hm⟩ := Int.eq_ofNat_of_zero_le (show 0 ≤ md k by omega)
  rw [hm] at h F ⊢
  obtain ⟨a, rfl⟩ := Int.eq_ofNat_of_zero_le ha
  simp only [Int.toNat_natCast] at F ⊢
  have hd : ¬ m ∣ a := fun hd => h (by have := Nat.mod_eq_zero_of_dvd hd; omega)
  have e := F.fermat a hd
  have e2 : ((a ^ (m - 1) % m : Nat) : Int) = 1 := by rw [e]; rfl
  rw [Int.natCast_emod, Int.natCast_pow] at e2
  exact e2
theorem inv_one {k a : Int} (hk : 0 ≤ k ∧ k ≤ 3) (ha : 0 ≤ a) (h : a % md k ≠ 0) : a * (pw a (md k - 2) % md k) % md k = 1 := by
  have hb := md_big hk
  rw [mul_mod_r]
  unfold pw
  have e : (md k).toNat - 1 = (md k - 2).toNat + 1 := by omega
  have f := fermat_int hk ha h
  rw [e, Int.pow_succ, Int.mul_comm] at f
  exact f
theorem inv_back {k a : Int} (hk : 0 ≤ k ∧ k ≤ 3) (ha : 0 ≤ a) (h : a % md k ≠ 0) : pw (pw a (md k - 2) % md k) (md k - 2) % md k = a % md k := by
  have hb := md_big hk
  rw [pw_mod]
  unfold pw
  obtain ⟨s, hs⟩ : ∃ s, (md k - 2).toNat = s + 1 := ⟨(md k - 2).toNat - 1, by omega⟩
  have e : (md k).toNat - 1 = s + 2 := by omega
  have f := fermat_int hk ha h
  rw [e] at f
  rw [hs, ← Int.pow_mul, show (s + 1) * (s + 1) = (s + 2) * s + 1 by rw [Nat.add_mul, Nat.mul_add, Nat.add_mul]; omega, Int.pow_succ, Int.pow_mul, ← mul_mod_l, ← pow_mod_any, f, Int.one_pow, mul_mod_l, Int.one_mul]
theorem inv_none {k a : Int} (hk : 0 ≤ k ∧ k ≤ 3) (h : a % md k = 0) : pw a (md k - 2) % md k = 0 := by
  have hb := md_big hk
  rw [← pw_mod, h]
  unfold pw
  obtain ⟨s, hs⟩ : ∃ s, (md k - 2).toNat = s + 1 := ⟨(md k - 2).toNat - 1, by omega⟩
  rw [hs, Int.pow_succ, Int.mul_zero, Int.zero_emod]

set_option maxHeartbeats 2000000 in
theorem f_inv {k a : Int} (hkk : 0 ≤ k ∧ k ≤ 3) (ha : Num a) {w : World} (hT : Tab w) : Calls Tryd.prog 58 #[.int .i64 k, .agg #[.int .u64 (L 0 a), .int .u64 (L 1 a), .int .u64 (L 2 a), .int .u64 (L 3 a)]] w fun e w' => e = .returned (.agg #[.int .u64 (L 0 (pw a (md k - 2) % md k)), .int .u64 (L 1 (pw a (md k - 2) % md k)), .int .u64 (L 2 (pw a (md k - 2) % md k)), .int .u64 (L 3 (pw a (md k - 2) % md k))]) ∧ Below w.heap.size w w' := by
  have hb := md_big hkk
  have nm := md_num k
  have ne : Num (md k - 2) := ⟨by omega, by have := nm.hi; omega⟩
  have HS : Hid (∀ w, Calls Tryd.prog 72 #[.agg #[.int .u64 (L 0 (md k)), .int .u64 (L 1 (md k)), .int .u64 (L 2 (md k)), .int .u64 (L 3 (md k))], .agg #[.int .u64 2, .int .u64 0, .int .u64 0, .int .u64 0]] w fun e w' => e = .returned (.tuple #[.agg #[.int .u64 (L 0 (md k - 2)), .int .u64 (L 1 (md k - 2)), .int .u64 (L 2 (md k - 2)), .int .u64 (L 3 (md k - 2))], .bool (D (md k) 2 4 == 1)]) ∧ Below w.heap.size w w') := by
    intro w
    have h := sub_walk (md k) 2 w
    have b0 : L 0 2 = 2 := by decide
    have b1 : L 1 2 = 0 := by decide
    have b2 : L 2 2 = 0 := by decide
    have b3 : L 3 2 = 0 := by decide
    rw [b0, b1, b2, b3] at h
    exact h
  have HP : Hid (∀ w, Tab w → Calls Tryd.prog 59 #[.int .i64 k, .agg #[.int .u64 (L 0 a), .int .u64 (L 1 a), .int .u64 (L 2 a), .int .u64 (L 3 a)], .agg #[.int .u64 (L 0 (md k - 2)), .int .u64 (L 1 (md k - 2)), .int .u64 (L 2 (md k - 2)), .int .u64 (L 3 (md k - 2))]] w fun e w' => e = .returned (.agg #[.int .u64 (L 0 (pw a (md k - 2) % md k)), .int .u64 (L 1 (pw a (md k - 2) % md k)), .int .u64 (L 2 (pw a (md k - 2) % md k)), .int .u64 (L 3 (pw a (md k - 2) % md k))]) ∧ Below w.heap.size w w') := fun w hT => f_pow hkk ha ne hT
  have HM : Hid (∀ w, Tab w → Calls Tryd.prog 64 #[.int .i64 k] w fun e w' => e = .returned (.agg #[.int .u64 (L 0 (md k)), .int .u64 (L 1 (md k)), .int .u64 (L 2 (md k)), .int .u64 (L 3 (md k))]) ∧ Below w.heap.size w w') := fun w hT => f_mod k hT
  clear hkk ha ne nm hb
  generalize pw a (md k - 2) % md k = i at *
  generalize md k - 2 = ex at *
  generalize md k = m at *
  generalize (D m 2 4 == 1) = u at *
  go_enter Tryd.func58, Tryd.ntmps58
  go_wp2_with fail
  with_reducible refine Calls.mono (HM.out _ (hT.keep (K.alloc (K.alloc (Below.refl _ _) _) _))) ?_
  rintro e w1 ⟨rfl, hb1⟩
  have A1 := ((Arr.new w w.heap.size rfl 24 (L 0 a) (L 1 a) (L 2 a) (L 3 a)).alloc _).keep hb1
  have R1 := (ArrW.new _ (w.heap.size + 1) (by simp) 24 0 0 0 0).keep hb1
  have hw1 : Below w.heap.size w w1 := K.call (K.alloc (K.alloc (Below.refl _ w) _) _) hb1
  clear hb1
  go_wp2_with fail
  with_reducible refine Calls.mono (HS.out _) ?_
  rintro e w2 ⟨rfl, hb2⟩
  have A2 := (A1.keep hb2).alloc (.cells #[.int .u64 (L 0 ex), .int .u64 (L 1 ex), .int .u64 (L 2 ex), .int .u64 (L 3 ex)] 24)
  have R2 := (R1.keep hb2).alloc (.cells #[.int .u64 (L 0 ex), .int .u64 (L 1 ex), .int .u64 (L 2 ex), .int .u64 (L 3 ex)] 24)
  have E2 := Arr.new w2 w2.heap.size rfl 24 (L 0 ex) (L 1 ex) (L 2 ex) (L 3 ex)
  have hw2 : Below w.heap.size w (w2.alloc (.cells #[.int .u64 (L 0 ex), .int .u64 (L 1 ex), .int .u64 (L 2 ex), .int .u64 (L 3 ex)] 24)) := K.alloc (K.call hw1 hb2) _
  have hT2 := hT.keep hw2
  clear hb2 A1 R1 hw1 hT
  have ⟨ka, ka0, ka1, ka2, ka3⟩ := A2
  have ⟨ke, ke0, ke1, ke2, ke3⟩ := E2
  go_wp2_with fail
  with_reducible refine Calls.mono (HP.out _ hT2) ?_
  clear ka ka0 ka1 ka2 ka3 ke ke0 ke1 ke2 ke3
  rintro e w3 ⟨rfl, hb3⟩
  have ⟨kr, kr0, kr1, kr2, kr3, kf0, kf1, kf2, kf3⟩ := R2.keep hb3
  have hw3 : Below w.heap.size w w3 := K.call hw2 hb3
  go_wp2_with fail
  exact bodyPost_ret (v := .agg #[.int .u64 (L 0 i), .int .u64 (L 1 i), .int .u64 (L 2 i), .int .u64 (L 3 i)]) (by simp [results, Tryd.results58, go_sem, kr0, kr1, kr2, kr3]) rfl ⟨rfl, K.set4 hw3 (by omega) _ _ _ _⟩
end Go.Proofs.YtolehamdaceikaaDoor
namespace Go.Proofs.YtolehamdaceikaaDoor
open Go.RowKit

def gc (x : Fin m2) : List Value := nc (x.val : Int)
theorem nz_gc : nz = gc 0 := by kernel_rfl
theorem md_m2 : md 2 = (m2 : Int) := by kernel_rfl
theorem gin_num (x : Fin m2) : Num (x.val : Int) := ⟨by omega, by have := x.isLt; unfold m2 q2 at this; unfold M; omega⟩
theorem gc_mul (x y : Fin m2) : gc (x * y) = nc ((x.val : Int) * y.val % md 2) := by
  rw [gc, Fin.val_mul, Int.natCast_emod, Int.natCast_mul, md_m2]
theorem gc_add (x y : Fin m2) : gc (x + y) = nc (((x.val : Int) + y.val) % md 2) := by
  rw [gc, Fin.val_add, Int.natCast_emod, Int.natCast_add, md_m2]
theorem gc_sub (x y : Fin m2) : gc (x - y) = nc (((x.val : Int) - y.val) % md 2) := by
  rw [gc, md_m2]
  congr 1
  have h := kc_sub (p := m2) (x.val : Int) (y.val : Int)
  rw [kc_self, kc_self] at h
  rw [← h, kc_val]
theorem gc_inv (x : Fin m2) : gc (fiv x) = nc (pw (x.val : Int) (md 2 - 2) % md 2) := by
  rw [gc, fiv, kc_val, md_m2]
  unfold pw
  rw [show ((m2 : Int) - 2).toNat = m2 - 2 by unfold m2 q2; omega]
theorem d_add {w : World} (hT : Tab w) (x y : Fin m2) : Calls Tryd.prog 67 [.int .i64 2, .agg (gc x).toArray, .agg (gc y).toArray].toArray w fun e w' => e = .returned (.agg (gc (x + y)).toArray) ∧ Below w.heap.size w w' := by
  rw [gc_add]
  exact f_add (k := 2) ⟨by decide, by decide⟩ (gin_num x) (gin_num y) hT
theorem d_sub {w : World} (hT : Tab w) (x y : Fin m2) : Calls Tryd.prog 66 [.int .i64 2, .agg (gc x).toArray, .agg (gc y).toArray].toArray w fun e w' => e = .returned (.agg (gc (x - y)).toArray) ∧ Below w.heap.size w w' := by
  rw [gc_sub]
  exact f_sub (k := 2) ⟨by decide, by decide⟩ (gin_num x) (gin_num y) hT
theorem d_mul {w : World} (hT : Tab w) (x y : Fin m2) : Calls Tryd.prog 65 [.int .i64 2, .agg (gc x).toArray, .agg (gc y).toArray].toArray w fun e w' => e = .returned (.agg (gc (x * y)).toArray) ∧ Below w.heap.size w w' := by
  rw [gc_mul]
  exact f_mul (k := 2) ⟨by decide, by decide⟩ (gin_num x) (gin_num y) hT
theorem d_inv {w : World} (hT : Tab w) (x : Fin m2) : Calls Tryd.prog 58 [.int .i64 2, .agg (gc x).toArray].toArray w fun e w' => e = .returned (.agg (gc (fiv x)).toArray) ∧ Below w.heap.size w w' := by
  rw [gc_inv]
  exact f_inv (k := 2) ⟨by decide, by decide⟩ (gin_num x) hT
theorem eq_gc (x y : Fin m2) (w : World) : (Op.equalIn 10000 24 (.agg (gc x).toArray) (.agg (gc y).toArray)).run Tryd.prog w = .ok (decide (x = y)) w := by
  rw [gc, gc, eq_nc (gin_num x) (gin_num y)]
  have : ((x.val : Int) = (y.val : Int)) = (x = y) := by
    apply propext
    constructor
    · intro h; exact Fin.ext (by omega)
    · intro h; rw [h]
  simp only [this]
theorem eqg_t {x y : Fin m2} (h : x = y) (w : World) : (Op.equalIn 10000 24 (.agg (gc x).toArray) (.agg (gc y).toArray)).run Tryd.prog w = .ok true w := by rw [eq_gc, decide_eq_true h]
theorem eqg_f {x y : Fin m2} (h : ¬ x = y) (w : World) : (Op.equalIn 10000 24 (.agg (gc x).toArray) (.agg (gc y).toArray)).run Tryd.prog w = .ok false w := by rw [eq_gc, decide_eq_false h]
theorem eqgz_t {x : Fin m2} (h : x = 0) (w : World) : (Op.equalIn 10000 24 (.agg (gc x).toArray) (.agg nz.toArray)).run Tryd.prog w = .ok true w := by rw [nz_gc]; exact eqg_t h w
theorem eqgz_f {x : Fin m2} (h : ¬ x = 0) (w : World) : (Op.equalIn 10000 24 (.agg (gc x).toArray) (.agg nz.toArray)).run Tryd.prog w = .ok false w := by rw [nz_gc]; exact eqg_f h w
end Go.Proofs.YtolehamdaceikaaDoor
namespace Go.Proofs.YtolehamdaceikaaDoor
open Go.RowKit
attribute [local go_sem ↓] Go.wp_at_zero Go.wp_at_succ

theorem half_pow (x : Int) (n : Nat) : x / 2 ^ n / 2 = x / 2 ^ (n + 1) := by
  rw [Int.pow_succ, Int.ediv_ediv_of_nonneg (Int.le_of_lt (Int.pow_pos (by omega)))]
theorem ref_bit_word (a i : Int) (k : Nat) (h0 : 0 ≤ i) (h1 : i < 256) (hq : i / 64 = k) : L k a / 2 ^ (i % 64).toNat % 2 = bt a i := by
  rw [word_bit _ _ _ (by omega), bt_in _ _ h0 h1, show 64 * k + (i % 64).toNat = i.toNat by omega]
set_option maxHeartbeats 1000000 in
theorem ref_bit_in0 (a i : Int) (h0 : 0 ≤ i) (h1 : i < 256) (hq : i / 64 = 0) (w : World) :
    Calls Tryd.prog 69 #[.agg #[.int .u64 (L 0 a), .int .u64 (L 1 a), .int .u64 (L 2 a), .int .u64 (L 3 a)], .int .i64 i] w fun e w' => e = .returned (.int .i64 (bt a i)) ∧ Below w.heap.size w w' := by
  have fin : Hid (L 0 a / 2 ^ (i % 64).toNat % 2 = bt a i) := ref_bit_word a i 0 h0 h1 hq
  go_enter Tryd.func69, Tryd.ntmps69
  go_wp2
  go_loop [5, 6] (fun x k => ∃ n : Nat, n ≤ (i % 64).toNat ∧ k = .int .i64 n ∧ x = .int .u64 (L 0 a / 2 ^ n)) (fun _ k => 64 - (intOf k).toNat)
  case atStart => exact ⟨0, Nat.zero_le _, rfl, by simp⟩
  case round =>
    obtain ⟨n, hn, rfl, rfl⟩ := hrel
    have d0 : 0 ≤ L 0 a / 2 ^ n := Int.ediv_nonneg (L_lo _ _) (Int.le_of_lt (Int.pow_pos (by omega)))
    have d1 : L 0 a / 2 ^ n < 18446744073709551616 := Int.lt_of_le_of_lt (Int.ediv_le_self _ (L_lo _ _)) (L_hi _ _)
    by_cases hlt : (n : Int) < i % 64
    · go_wp2
      go_round
      case rel => exact ⟨n + 1, by omega, by go_num, by rw [← half_pow]⟩
      case measure => simp [intOf]; omega
    · have e : n = (i % 64).toNat := by omega
      have F : Hid (L 0 a / 2 ^ n % 2 = bt a i) := by rw [e]; exact fin
      clear e fin
      go_wp2
      go_ret
      refine ⟨congrArg (fun x => Ending.returned (.int .i64 x)) F.out, ?_⟩
      go_grown
set_option maxHeartbeats 1000000 in
theorem ref_bit_in1 (a i : Int) (h0 : 0 ≤ i) (h1 : i < 256) (hq : i / 64 = 1) (w : World) :
    Calls Tryd.prog 69 #[.agg #[.int .u64 (L 0 a), .int .u64 (L 1 a), .int .u64 (L 2 a), .int .u64 (L 3 a)], .int .i64 i] w fun e w' => e = .returned (.int .i64 (bt a i)) ∧ Below w.heap.size w w' := by
  have fin : Hid (L 1 a / 2 ^ (i % 64).toNat % 2 = bt a i) := ref_bit_word a i 1 h0 h1 hq
  go_enter Tryd.func69, Tryd.ntmps69
  go_wp2
  go_loop [5, 6] (fun x k => ∃ n : Nat, n ≤ (i % 64).toNat ∧ k = .int .i64 n ∧ x = .int .u64 (L 1 a / 2 ^ n)) (fun _ k => 64 - (intOf k).toNat)
  case atStart => exact ⟨0, Nat.zero_le _, rfl, by simp⟩
  case round =>
    obtain ⟨n, hn, rfl, rfl⟩ := hrel
    have d0 : 0 ≤ L 1 a / 2 ^ n := Int.ediv_nonneg (L_lo _ _) (Int.le_of_lt (Int.pow_pos (by omega)))
    have d1 : L 1 a / 2 ^ n < 18446744073709551616 := Int.lt_of_le_of_lt (Int.ediv_le_self _ (L_lo _ _)) (L_hi _ _)
    by_cases hlt : (n : Int) < i % 64
    · go_wp2
      go_round
      case rel => exact ⟨n + 1, by omega, by go_num, by rw [← half_pow]⟩
      case measure => simp [intOf]; omega
    · have e : n = (i % 64).toNat := by omega
      have F : Hid (L 1 a / 2 ^ n % 2 = bt a i) := by rw [e]; exact fin
      clear e fin
      go_wp2
      go_ret
      refine ⟨congrArg (fun x => Ending.returned (.int .i64 x)) F.out, ?_⟩
      go_grown
set_option maxHeartbeats 1000000 in
theorem ref_bit_in2 (a i : Int) (h0 : 0 ≤ i) (h1 : i < 256) (hq : i / 64 = 2) (w : World) :
    Calls Tryd.prog 69 #[.agg #[.int .u64 (L 0 a), .int .u64 (L 1 a), .int .u64 (L 2 a), .int .u64 (L 3 a)], .int .i64 i] w fun e w' => e = .returned (.int .i64 (bt a i)) ∧ Below w.heap.size w w' := by
  have fin : Hid (L 2 a / 2 ^ (i % 64).toNat % 2 = bt a i) := ref_bit_word a i 2 h0 h1 hq
  go_enter Tryd.func69, Tryd.ntmps69
  go_wp2
  go_loop [5, 6] (fun x k => ∃ n : Nat, n ≤ (i % 64).toNat ∧ k = .int .i64 n ∧ x = .int .u64 (L 2 a / 2 ^ n)) (fun _ k => 64 - (intOf k).toNat)
  case atStart => exact ⟨0, Nat.zero_le _, rfl, by simp⟩
  case round =>
    obtain ⟨n, hn, rfl, rfl⟩ := hrel
    have d0 : 0 ≤ L 2 a / 2 ^ n := Int.ediv_nonneg (L_lo _ _) (Int.le_of_lt (Int.pow_pos (by omega)))
    have d1 : L 2 a / 2 ^ n < 18446744073709551616 := Int.lt_of_le_of_lt (Int.ediv_le_self _ (L_lo _ _)) (L_hi _ _)
    by_cases hlt : (n : Int) < i % 64
    · go_wp2
      go_round
      case rel => exact ⟨n + 1, by omega, by go_num, by rw [← half_pow]⟩
      case measure => simp [intOf]; omega
    · have e : n = (i % 64).toNat := by omega
      have F : Hid (L 2 a / 2 ^ n % 2 = bt a i) := by rw [e]; exact fin
      clear e fin
      go_wp2
      go_ret
      refine ⟨congrArg (fun x => Ending.returned (.int .i64 x)) F.out, ?_⟩
      go_grown
set_option maxHeartbeats 1000000 in
theorem ref_bit_in3 (a i : Int) (h0 : 0 ≤ i) (h1 : i < 256) (hq : i / 64 = 3) (w : World) :
    Calls Tryd.prog 69 #[.agg #[.int .u64 (L 0 a), .int .u64 (L 1 a), .int .u64 (L 2 a), .int .u64 (L 3 a)], .int .i64 i] w fun e w' => e = .returned (.int .i64 (bt a i)) ∧ Below w.heap.size w w' := by
  have fin : Hid (L 3 a / 2 ^ (i % 64).toNat % 2 = bt a i) := ref_bit_word a i 3 h0 h1 hq
  go_enter Tryd.func69, Tryd.ntmps69
  go_wp2
  go_loop [5, 6] (fun x k => ∃ n : Nat, n ≤ (i % 64).toNat ∧ k = .int .i64 n ∧ x = .int .u64 (L 3 a / 2 ^ n)) (fun _ k => 64 - (intOf k).toNat)
  case atStart => exact ⟨0, Nat.zero_le _, rfl, by simp⟩
  case round =>
    obtain ⟨n, hn, rfl, rfl⟩ := hrel
    have d0 : 0 ≤ L 3 a / 2 ^ n := Int.ediv_nonneg (L_lo _ _) (Int.le_of_lt (Int.pow_pos (by omega)))
    have d1 : L 3 a / 2 ^ n < 18446744073709551616 := Int.lt_of_le_of_lt (Int.ediv_le_self _ (L_lo _ _)) (L_hi _ _)
    by_cases hlt : (n : Int) < i % 64
    · go_wp2
      go_round
      case rel => exact ⟨n + 1, by omega, by go_num, by rw [← half_pow]⟩
      case measure => simp [intOf]; omega
    · have e : n = (i % 64).toNat := by omega
      have F : Hid (L 3 a / 2 ^ n % 2 = bt a i) := by rw [e]; exact fin
      clear e fin
      go_wp2
      go_ret
      refine ⟨congrArg (fun x => Ending.returned (.int .i64 x)) F.out, ?_⟩
      go_grown
set_option maxHeartbeats 1000000 in
theorem ref_bit_below (a i : Int) (h0 : i < 0) (w : World) :
    Calls Tryd.prog 69 #[.agg #[.int .u64 (L 0 a), .int .u64 (L 1 a), .int .u64 (L 2 a), .int .u64 (L 3 a)], .int .i64 i] w fun e w' => e = .returned (.int .i64 0) ∧ Below w.heap.size w w' := by
  go_enter Tryd.func69, Tryd.ntmps69
  go_wp2
  go_ret
  refine ⟨rfl, ?_⟩
  go_grown
set_option maxHeartbeats 1000000 in
theorem ref_bit_above (a i : Int) (h0 : 256 ≤ i) (w : World) :
    Calls Tryd.prog 69 #[.agg #[.int .u64 (L 0 a), .int .u64 (L 1 a), .int .u64 (L 2 a), .int .u64 (L 3 a)], .int .i64 i] w fun e w' => e = .returned (.int .i64 0) ∧ Below w.heap.size w w' := by
  have h1 : 255 < i := by omega
  go_enter Tryd.func69, Tryd.ntmps69
  go_wp2
  go_ret
  refine ⟨rfl, ?_⟩
  go_grown
theorem ref_bit_any (a i : Int) (w : World) :
    Calls Tryd.prog 69 #[.agg #[.int .u64 (L 0 a), .int .u64 (L 1 a), .int .u64 (L 2 a), .int .u64 (L 3 a)], .int .i64 i] w fun e w' => e = .returned (.int .i64 (bt a i)) ∧ Below w.heap.size w w' := by
  by_cases h0 : i < 0
  · rw [bt_low a i h0]; exact ref_bit_below a i h0 w
  by_cases h1 : 256 ≤ i
  · rw [bt_high a i h1]; exact ref_bit_above a i h1 w
  have hq : i / 64 = 0 ∨ i / 64 = 1 ∨ i / 64 = 2 ∨ i / 64 = 3 := by omega
  rcases hq with hq | hq | hq | hq
  · exact ref_bit_in0 a i (by omega) (by omega) hq w
  · exact ref_bit_in1 a i (by omega) (by omega) hq w
  · exact ref_bit_in2 a i (by omega) (by omega) hq w
  · exact ref_bit_in3 a i (by omega) (by omega) hq w
end Go.Proofs.YtolehamdaceikaaDoor
namespace Go.Proofs.YtolehamdaceikaaDoor
open Go.RowKit
attribute [local go_sem ↓] Go.wp_at_zero Go.wp_at_succ

def lessW (x0 x1 x2 x3 y0 y1 y2 y3 : Int) : Bool :=
  if x3 = y3 then if x2 = y2 then if x1 = y1 then if x0 = y0 then false else decide (x0 < y0) else decide (x1 < y1) else decide (x2 < y2) else decide (x3 < y3)

set_option maxHeartbeats 2000000 in
theorem less_walk (x0 x1 x2 x3 y0 y1 y2 y3 : Int) (w : World) :
    Calls Tryd.prog 47 #[.agg #[.int .u64 x0, .int .u64 x1, .int .u64 x2, .int .u64 x3], .agg #[.int .u64 y0, .int .u64 y1, .int .u64 y2, .int .u64 y3]] w fun e w' => e = .returned (.bool (lessW x0 x1 x2 x3 y0 y1 y2 y3)) ∧ Below w.heap.size w w' := by
  go_enter Tryd.func47, Tryd.ntmps47
  go_wp2
  refine wp_loop_rounds 5 ?_
  by_cases g3 : x3 = y3
  case neg =>
    have b3 : (x3 == y3) = false := by simpa using g3
    have n3 : (x3 != y3) = true := by simpa using g3
    rw [rounds_succ]
    go_wp2
    go_quiet (fail)
    go_wp2
    go_quiet (fail)
    go_wp2
    go_ret
    refine ⟨ret_bool (by unfold lessW; simp [*]), ?_⟩
    repeat' (first | (with_reducible exact Below.refl _ _) | (with_reducible refine K.drewN ?_ _) | (with_reducible refine K.drew ?_) | (with_reducible refine K.alloc ?_ _) | (with_reducible refine K.set ?_ ?_ _) | (simp; done) | (simp; omega))
  subst g3
  rw [rounds_succ]
  go_wp2
  go_quiet (fail)
  go_wp2
  by_cases g2 : x2 = y2
  case neg =>
    have b2 : (x2 == y2) = false := by simpa using g2
    have n2 : (x2 != y2) = true := by simpa using g2
    rw [rounds_succ]
    go_wp2
    go_quiet (fail)
    go_wp2
    go_quiet (fail)
    go_wp2
    go_ret
    refine ⟨ret_bool (by unfold lessW; simp [*]), ?_⟩
    repeat' (first | (with_reducible exact Below.refl _ _) | (with_reducible refine K.drewN ?_ _) | (with_reducible refine K.drew ?_) | (with_reducible refine K.alloc ?_ _) | (with_reducible refine K.set ?_ ?_ _) | (simp; done) | (simp; omega))
  subst g2
  rw [rounds_succ]
  go_wp2
  go_quiet (fail)
  go_wp2
  by_cases g1 : x1 = y1
  case neg =>
    have b1 : (x1 == y1) = false := by simpa using g1
    have n1 : (x1 != y1) = true := by simpa using g1
    rw [rounds_succ]
    go_wp2
    go_quiet (fail)
    go_wp2
    go_quiet (fail)
    go_wp2
    go_ret
    refine ⟨ret_bool (by unfold lessW; simp [*]), ?_⟩
    repeat' (first | (with_reducible exact Below.refl _ _) | (with_reducible refine K.drewN ?_ _) | (with_reducible refine K.drew ?_) | (with_reducible refine K.alloc ?_ _) | (with_reducible refine K.set ?_ ?_ _) | (simp; done) | (simp; omega))
  subst g1
  rw [rounds_succ]
  go_wp2
  go_quiet (fail)
  go_wp2
  by_cases g0 : x0 = y0
  case neg =>
    have b0 : (x0 == y0) = false := by simpa using g0
    have n0 : (x0 != y0) = true := by simpa using g0
    rw [rounds_succ]
    go_wp2
    go_quiet (fail)
    go_wp2
    go_quiet (fail)
    go_wp2
    go_ret
    refine ⟨ret_bool (by unfold lessW; simp [*]), ?_⟩
    repeat' (first | (with_reducible exact Below.refl _ _) | (with_reducible refine K.drewN ?_ _) | (with_reducible refine K.drew ?_) | (with_reducible refine K.alloc ?_ _) | (with_reducible refine K.set ?_ ?_ _) | (simp; done) | (simp; omega))
  subst g0
  rw [rounds_succ]
  go_wp2
  go_quiet (fail)
  go_wp2
  rw [rounds_succ]
  go_wp2
  go_ret
  refine ⟨ret_bool (by unfold lessW; simp), ?_⟩
  repeat' (first | (with_reducible exact Below.refl _ _) | (with_reducible refine K.drewN ?_ _) | (with_reducible refine K.drew ?_) | (with_reducible refine K.alloc ?_ _) | (with_reducible refine K.set ?_ ?_ _) | (simp; done) | (simp; omega))

theorem lessW_eq {a b : Int} (ha : Num a) (hb : Num b) : lessW (L 0 a) (L 1 a) (L 2 a) (L 3 a) (L 0 b) (L 1 b) (L 2 b) (L 3 b) = decide (a < b) := by
  obtain ⟨a1, a2⟩ := ha
  obtain ⟨b1, b2⟩ := hb
  rw [L0, L1, L2, L3, L0, L1, L2, L3]
  unfold lessW
  unfold M at *
  (repeat' split) <;> (first | (symm; rw [decide_eq_false_iff_not]; omega) | (rw [decide_eq_decide]; omega))
theorem less_any {a b : Int} (ha : Num a) (hb : Num b) (w : World) :
    Calls Tryd.prog 47 #[.agg #[.int .u64 (L 0 a), .int .u64 (L 1 a), .int .u64 (L 2 a), .int .u64 (L 3 a)], .agg #[.int .u64 (L 0 b), .int .u64 (L 1 b), .int .u64 (L 2 b), .int .u64 (L 3 b)]] w fun e w' => e = .returned (.bool (decide (a < b))) ∧ Below w.heap.size w w' := by
  rw [← lessW_eq ha hb]; exact less_walk _ _ _ _ _ _ _ _ w
theorem less_true {a b : Int} (ha : Num a) (hb : Num b) (h : a < b) (w : World) :
    Calls Tryd.prog 47 #[.agg #[.int .u64 (L 0 a), .int .u64 (L 1 a), .int .u64 (L 2 a), .int .u64 (L 3 a)], .agg #[.int .u64 (L 0 b), .int .u64 (L 1 b), .int .u64 (L 2 b), .int .u64 (L 3 b)]] w fun e w' => e = .returned (.bool true) ∧ Below w.heap.size w w' := by
  have g := less_any ha hb w
  rw [decide_eq_true h] at g
  exact g
theorem less_false {a b : Int} (ha : Num a) (hb : Num b) (h : ¬ a < b) (w : World) :
    Calls Tryd.prog 47 #[.agg #[.int .u64 (L 0 a), .int .u64 (L 1 a), .int .u64 (L 2 a), .int .u64 (L 3 a)], .agg #[.int .u64 (L 0 b), .int .u64 (L 1 b), .int .u64 (L 2 b), .int .u64 (L 3 b)]] w fun e w' => e = .returned (.bool false) ∧ Below w.heap.size w w' := by
  have g := less_any ha hb w
  rw [decide_eq_false h] at g
  exact g

end Go.Proofs.YtolehamdaceikaaDoor
namespace Go.Proofs.YtolehamdaceikaaDoor
open Go.RowKit
attribute [local go_sem ↓] Go.wp_at_zero Go.wp_at_succ

set_option maxHeartbeats 1000000 in
theorem ref_mod_0 (w : World) : Calls Tryd.prog 20 #[.int .i64 0] w fun e w' => e = .returned (.agg #[.int .u64 (L 0 (md 0)), .int .u64 (L 1 (md 0)), .int .u64 (L 2 (md 0)), .int .u64 (L 3 (md 0))]) ∧ Below w.heap.size w w' := by
  have e0 : L 0 (md 0) = 18446744073709551615 := by decide
  have e1 : L 1 (md 0) = 4294967295 := by decide
  have e2 : L 2 (md 0) = 0 := by decide
  have e3 : L 3 (md 0) = 18446744069414584321 := by decide
  rw [e0, e1, e2, e3]
  go_enter Tryd.func20, Tryd.ntmps20
  go_wp2
  go_returns
  refine ⟨rfl, ?_⟩
  go_grown
set_option maxHeartbeats 1000000 in
theorem ref_mod_1 (w : World) : Calls Tryd.prog 20 #[.int .i64 1] w fun e w' => e = .returned (.agg #[.int .u64 (L 0 (md 1)), .int .u64 (L 1 (md 1)), .int .u64 (L 2 (md 1)), .int .u64 (L 3 (md 1))]) ∧ Below w.heap.size w w' := by
  have e0 : L 0 (md 1) = 17562291160714782033 := by decide
  have e1 : L 1 (md 1) = 13611842547513532036 := by decide
  have e2 : L 2 (md 1) = 18446744073709551615 := by decide
  have e3 : L 3 (md 1) = 18446744069414584320 := by decide
  rw [e0, e1, e2, e3]
  go_enter Tryd.func20, Tryd.ntmps20
  go_wp2
  go_returns
  refine ⟨rfl, ?_⟩
  go_grown
set_option maxHeartbeats 1000000 in
theorem ref_mod_2 (w : World) : Calls Tryd.prog 20 #[.int .i64 2] w fun e w' => e = .returned (.agg #[.int .u64 (L 0 (md 2)), .int .u64 (L 1 (md 2)), .int .u64 (L 2 (md 2)), .int .u64 (L 3 (md 2))]) ∧ Below w.heap.size w w' := by
  have e0 : L 0 (md 2) = 18446744073709551597 := by decide
  have e1 : L 1 (md 2) = 18446744073709551615 := by decide
  have e2 : L 2 (md 2) = 18446744073709551615 := by decide
  have e3 : L 3 (md 2) = 9223372036854775807 := by decide
  rw [e0, e1, e2, e3]
  go_enter Tryd.func20, Tryd.ntmps20
  go_wp2
  go_returns
  refine ⟨rfl, ?_⟩
  go_grown
set_option maxHeartbeats 1000000 in
theorem ref_mod_3 (w : World) : Calls Tryd.prog 20 #[.int .i64 3] w fun e w' => e = .returned (.agg #[.int .u64 (L 0 (md 3)), .int .u64 (L 1 (md 3)), .int .u64 (L 2 (md 3)), .int .u64 (L 3 (md 3))]) ∧ Below w.heap.size w w' := by
  have e0 : L 0 (md 3) = 6346243789798364141 := by decide
  have e1 : L 1 (md 3) = 1503914060200516822 := by decide
  have e2 : L 2 (md 3) = 0 := by decide
  have e3 : L 3 (md 3) = 1152921504606846976 := by decide
  rw [e0, e1, e2, e3]
  go_enter Tryd.func20, Tryd.ntmps20
  go_wp2
  go_returns
  refine ⟨rfl, ?_⟩
  go_grown
set_option maxHeartbeats 1000000 in
theorem ref_mod_none (k : Int) (h : k < 0 ∨ 3 < k) (w : World) : Calls Tryd.prog 20 #[.int .i64 k] w fun e w' => e = .returned (.agg #[.int .u64 (L 0 (md k)), .int .u64 (L 1 (md k)), .int .u64 (L 2 (md k)), .int .u64 (L 3 (md k))]) ∧ Below w.heap.size w w' := by
  have e : md k = 0 := by unfold md; (repeat' split) <;> omega
  have z0 : L 0 0 = 0 := by decide
  have z1 : L 1 0 = 0 := by decide
  have z2 : L 2 0 = 0 := by decide
  have z3 : L 3 0 = 0 := by decide
  rw [e, z0, z1, z2, z3]
  have b0 : (k == 0) = false := beq_eq_false_iff_ne.2 (by omega)
  have b1 : (k == 1) = false := beq_eq_false_iff_ne.2 (by omega)
  have b2 : (k == 2) = false := beq_eq_false_iff_ne.2 (by omega)
  have b3 : (k == 3) = false := beq_eq_false_iff_ne.2 (by omega)
  clear h e z0 z1 z2 z3
  go_enter Tryd.func20, Tryd.ntmps20
  go_wp2
  go_returns
  refine ⟨rfl, ?_⟩
  go_grown
theorem ref_mod_any (k : Int) (w : World) : Calls Tryd.prog 20 #[.int .i64 k] w fun e w' => e = .returned (.agg #[.int .u64 (L 0 (md k)), .int .u64 (L 1 (md k)), .int .u64 (L 2 (md k)), .int .u64 (L 3 (md k))]) ∧ Below w.heap.size w w' := by
  have hk : k = 0 ∨ k = 1 ∨ k = 2 ∨ k = 3 ∨ (k < 0 ∨ 3 < k) := by omega
  rcases hk with rfl | rfl | rfl | rfl | hk
  · exact ref_mod_0 w
  · exact ref_mod_1 w
  · exact ref_mod_2 w
  · exact ref_mod_3 w
  · exact ref_mod_none k hk w


set_option maxHeartbeats 2000000 in
theorem below_walk {k a m : Int} {c : Int} {w : World}
    (H1 : Hid (∀ w1, Below w.heap.size w w1 → Calls Tryd.prog 64 #[.int .i64 k] w1 fun e w' => e = .returned (.agg #[.int .u64 (L 0 m), .int .u64 (L 1 m), .int .u64 (L 2 m), .int .u64 (L 3 m)]) ∧ Below w1.heap.size w1 w'))
    (H2 : Hid (∀ w, Calls Tryd.prog 63 #[.agg #[.int .u64 (L 0 a), .int .u64 (L 1 a), .int .u64 (L 2 a), .int .u64 (L 3 a)], .agg #[.int .u64 (L 0 m), .int .u64 (L 1 m), .int .u64 (L 2 m), .int .u64 (L 3 m)]] w fun e w' => e = .returned (.int .i64 c) ∧ Below w.heap.size w w')) :
    Calls Tryd.prog 28 #[.int .i64 k, .agg #[.int .u64 (L 0 a), .int .u64 (L 1 a), .int .u64 (L 2 a), .int .u64 (L 3 a)]] w fun e w' => e = .returned (.bool (decide (c < 0))) ∧ Below w.heap.size w w' := by
  have A1 := Arr.new w w.heap.size rfl 24 (L 0 a) (L 1 a) (L 2 a) (L 3 a)
  have hw : Below w.heap.size w (w.alloc (.cells #[.int .u64 (L 0 a), .int .u64 (L 1 a), .int .u64 (L 2 a), .int .u64 (L 3 a)] 24)) := K.alloc (Below.refl _ _) _
  go_enter Tryd.func28, Tryd.ntmps28
  go_wp2_with fail
  generalize w.alloc (.cells #[.int .u64 (L 0 a), .int .u64 (L 1 a), .int .u64 (L 2 a), .int .u64 (L 3 a)] 24) = W0 at *
  have ⟨ka, ka0, ka1, ka2, ka3⟩ := A1
  have hS : Hid (∀ w', Below W0.heap.size W0 w' → (Below W0.heap.size W0 w' ∧ w'.cell? ⟨w.heap.size, 0, none⟩ = some (.int .u64 (L 0 a)) ∧ w'.cell? ⟨w.heap.size, 1, none⟩ = some (.int .u64 (L 1 a)) ∧ w'.cell? ⟨w.heap.size, 2, none⟩ = some (.int .u64 (L 2 a)) ∧ w'.cell? ⟨w.heap.size, 3, none⟩ = some (.int .u64 (L 3 a)))) := fun w' hB => ⟨hB, later hB ka0, later hB ka1, later hB ka2, later hB ka3⟩
  clear ka ka0 ka1 ka2 ka3
  go_region_held3 (fun w' => Below W0.heap.size W0 w' ∧ w'.cell? ⟨w.heap.size, 0, none⟩ = some (.int .u64 (L 0 a)) ∧ w'.cell? ⟨w.heap.size, 1, none⟩ = some (.int .u64 (L 1 a)) ∧ w'.cell? ⟨w.heap.size, 2, none⟩ = some (.int .u64 (L 2 a)) ∧ w'.cell? ⟨w.heap.size, 3, none⟩ = some (.int .u64 (L 3 a)))
    ((refine hS.out _ ?_; first | (with_reducible exact K.drew (Below.refl _ _)) | (with_reducible exact K.drew (K.alloc (Below.refl _ _) _)) | (with_reducible exact Below.refl _ _) | (with_reducible exact K.call (by go_split_ands; assumption) hk) | (with_reducible exact K.alloc (by go_split_ands; assumption) _) | (with_reducible exact K.again (by go_split_ands; assumption) (by omega) _) | (with_reducible exact K.set (by go_split_ands; assumption) (by first | omega | (simp; done) | (simp; omega)) _) | (with_reducible exact K.set (K.set (K.set (K.set (by go_split_ands; assumption) (by first | omega | (simp; done) | (simp; omega)) _) (by first | omega | (simp; done) | (simp; omega)) _) (by first | omega | (simp; done) | (simp; omega)) _) (by first | omega | (simp; done) | (simp; omega)) _)))
    (first
      | (go_at_call 64; with_reducible refine Calls.mono (H1.out _ (K.call hw (by go_split_ands; with_reducible assumption))) ?_; rintro e w' ⟨rfl, hk⟩)
      | (go_at_call 63; with_reducible refine Calls.mono (H2.out _) ?_; rintro e w' ⟨rfl, hk⟩))
  all_goals
    have hH := ‹Below _ _ _ ∧ _›
    go_wp2_with fail
    go_ret
    exact ⟨ret_bool (by simp), K.call hw hH.1⟩

set_option maxHeartbeats 2000000 in
theorem refBelow_walk {k a m : Int} {c : Bool} {w : World}
    (H1 : Hid (∀ w1, Below w.heap.size w w1 → Calls Tryd.prog 20 #[.int .i64 k] w1 fun e w' => e = .returned (.agg #[.int .u64 (L 0 m), .int .u64 (L 1 m), .int .u64 (L 2 m), .int .u64 (L 3 m)]) ∧ Below w1.heap.size w1 w'))
    (H2 : Hid (∀ w, Calls Tryd.prog 47 #[.agg #[.int .u64 (L 0 a), .int .u64 (L 1 a), .int .u64 (L 2 a), .int .u64 (L 3 a)], .agg #[.int .u64 (L 0 m), .int .u64 (L 1 m), .int .u64 (L 2 m), .int .u64 (L 3 m)]] w fun e w' => e = .returned (.bool c) ∧ Below w.heap.size w w')) :
    Calls Tryd.prog 33 #[.int .i64 k, .agg #[.int .u64 (L 0 a), .int .u64 (L 1 a), .int .u64 (L 2 a), .int .u64 (L 3 a)]] w fun e w' => e = .returned (.bool c) ∧ Below w.heap.size w w' := by
  have A1 := Arr.new w w.heap.size rfl 24 (L 0 a) (L 1 a) (L 2 a) (L 3 a)
  have hw : Below w.heap.size w (w.alloc (.cells #[.int .u64 (L 0 a), .int .u64 (L 1 a), .int .u64 (L 2 a), .int .u64 (L 3 a)] 24)) := K.alloc (Below.refl _ _) _
  go_enter Tryd.func33, Tryd.ntmps33
  go_wp2_with fail
  generalize w.alloc (.cells #[.int .u64 (L 0 a), .int .u64 (L 1 a), .int .u64 (L 2 a), .int .u64 (L 3 a)] 24) = W0 at *
  have ⟨ka, ka0, ka1, ka2, ka3⟩ := A1
  have hS : Hid (∀ w', Below W0.heap.size W0 w' → (Below W0.heap.size W0 w' ∧ w'.cell? ⟨w.heap.size, 0, none⟩ = some (.int .u64 (L 0 a)) ∧ w'.cell? ⟨w.heap.size, 1, none⟩ = some (.int .u64 (L 1 a)) ∧ w'.cell? ⟨w.heap.size, 2, none⟩ = some (.int .u64 (L 2 a)) ∧ w'.cell? ⟨w.heap.size, 3, none⟩ = some (.int .u64 (L 3 a)))) := fun w' hB => ⟨hB, later hB ka0, later hB ka1, later hB ka2, later hB ka3⟩
  clear ka ka0 ka1 ka2 ka3
  go_region_held3 (fun w' => Below W0.heap.size W0 w' ∧ w'.cell? ⟨w.heap.size, 0, none⟩ = some (.int .u64 (L 0 a)) ∧ w'.cell? ⟨w.heap.size, 1, none⟩ = some (.int .u64 (L 1 a)) ∧ w'.cell? ⟨w.heap.size, 2, none⟩ = some (.int .u64 (L 2 a)) ∧ w'.cell? ⟨w.heap.size, 3, none⟩ = some (.int .u64 (L 3 a)))
    ((refine hS.out _ ?_; first | (with_reducible exact K.drew (Below.refl _ _)) | (with_reducible exact K.drew (K.alloc (Below.refl _ _) _)) | (with_reducible exact Below.refl _ _) | (with_reducible exact K.call (by go_split_ands; assumption) hk) | (with_reducible exact K.alloc (by go_split_ands; assumption) _) | (with_reducible exact K.again (by go_split_ands; assumption) (by omega) _) | (with_reducible exact K.set (by go_split_ands; assumption) (by first | omega | (simp; done) | (simp; omega)) _) | (with_reducible exact K.set (K.set (K.set (K.set (by go_split_ands; assumption) (by first | omega | (simp; done) | (simp; omega)) _) (by first | omega | (simp; done) | (simp; omega)) _) (by first | omega | (simp; done) | (simp; omega)) _) (by first | omega | (simp; done) | (simp; omega)) _)))
    (first
      | (go_at_call 20; with_reducible refine Calls.mono (H1.out _ (K.call hw (by go_split_ands; with_reducible assumption))) ?_; rintro e w' ⟨rfl, hk⟩)
      | (go_at_call 47; with_reducible refine Calls.mono (H2.out _) ?_; rintro e w' ⟨rfl, hk⟩))
  all_goals
    have hH := ‹Below _ _ _ ∧ _›
    go_wp2_with fail
    go_ret
    exact ⟨rfl, K.call hw hH.1⟩

theorem cmp_neg (a m : Int) : decide (cmp a m < 0) = decide (a < m) := by
  unfold cmp
  by_cases h : a < m
  · rw [if_pos h]; simp [h]
  · rw [if_neg h]; split <;> simp [h]
theorem below_any {k a : Int} (ha : Num a) {w : World} (hT : Tab w) :
    Calls Tryd.prog 28 #[.int .i64 k, .agg #[.int .u64 (L 0 a), .int .u64 (L 1 a), .int .u64 (L 2 a), .int .u64 (L 3 a)]] w fun e w' => e = .returned (.bool (decide (a < md k))) ∧ Below w.heap.size w w' := by
  have h := below_walk (k := k) (a := a) (m := md k) (c := cmp a (md k)) (w := w) (fun w1 hb => f_mod k (hT.keep hb)) (fun w => cmp_any ha (md_num k) w)
  rw [cmp_neg] at h
  exact h
theorem refBelow_any {k a : Int} (ha : Num a) (w : World) :
    Calls Tryd.prog 33 #[.int .i64 k, .agg #[.int .u64 (L 0 a), .int .u64 (L 1 a), .int .u64 (L 2 a), .int .u64 (L 3 a)]] w fun e w' => e = .returned (.bool (decide (a < md k))) ∧ Below w.heap.size w w' :=
  refBelow_walk (fun w1 _ => ref_mod_any k w1) (fun w => less_any ha (md_num k) w)
end Go.Proofs.YtolehamdaceikaaDoor
