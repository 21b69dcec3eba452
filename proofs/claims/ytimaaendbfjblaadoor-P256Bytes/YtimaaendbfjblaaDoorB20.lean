/- What the document's own Bit answers, for all numbers: the same as limb's. Multiples, as the document reckons them. What the document's own Less answers, for all numbers. What codec.Below and the document's own answer. What the document's own Formed, lift, Add, Mul and Both answer. -/
import Derived.Test.YtimaaendbfjblaaDoorB18
import Derived.Test.YtimaaendbfjblaaDoorB19
import Derived.Test.YtimaaendbfjblaaDoorB02
import Derived.Test.YtimaaendbfjblaaDoorB14
import Derived.Deep.RegionHeld3
namespace Go.Proofs.YtimaaendbfjblaaDoor
open Go.RowKit
attribute [local go_sem ↓] Go.wp_at_zero Go.wp_at_succ

theorem half_pow (x : Int) (n : Nat) : x / 2 ^ n / 2 = x / 2 ^ (n + 1) := by
  rw [Int.pow_succ, Int.ediv_ediv_of_nonneg (Int.le_of_lt (Int.pow_pos (by omega)))]
theorem ref_bit_word (a i : Int) (k : Nat) (h0 : 0 ≤ i) (h1 : i < 256) (hq : i / 64 = k) : L k a / 2 ^ (i % 64).toNat % 2 = bt a i := by
  rw [word_bit _ _ _ (by omega), bt_in _ _ h0 h1, show 64 * k + (i % 64).toNat = i.toNat by omega]
set_option maxHeartbeats 1000000 in
theorem ref_bit_in0 (a i : Int) (h0 : 0 ≤ i) (h1 : i < 256) (hq : i / 64 = 0) (w : World) :
    Calls Tryd.prog 67 #[.agg #[.int .u64 (L 0 a), .int .u64 (L 1 a), .int .u64 (L 2 a), .int .u64 (L 3 a)], .int .i64 i] w fun e w' => e = .returned (.int .i64 (bt a i)) ∧ Below w.heap.size w w' := by
  have fin : Hid (L 0 a / 2 ^ (i % 64).toNat % 2 = bt a i) := ref_bit_word a i 0 h0 h1 hq
  go_enter Tryd.func67, Tryd.ntmps67
  go_wp2
  go_loop [5, 6] (fun x k => ∃ n : Nat, n ≤ (i % 64).toNat ∧ k = .int .i64 n ∧ x = .int .u64 (L 0 a / 2 ^ n)) (fun _ k => 64 - (intOf k).toNat)
  case atStart => exact ⟨0, Nat.zero_le _, rfl, by simp⟩
  case round =>
    obtain ⟨n, hn, rfl, rfl⟩ := hrel
    have d0 : 0 ≤ L 0 a / 2 ^ n := Int.ediv_nonneg (L_lo _ _) (Int.le_of_lt (Int.pow_pos (by omega)))
    have d1 : L 0 a / 2 ^ n < 18446744073709551616 := Int.lt_of_le_of_lt (Int.ediv_le_self _ (L_lo _ _)) (L_hi _ _)
    by_cases hlt : (n : Int) < i % 64
    · go_wp2
      go_round
      case rel => exact ⟨n + 1, by omega, by go_num, by rw [← half_pow]⟩
      case measure => simp [intOf]; omega
    · have e : n = (i % 64).toNat := by omega
      have F : Hid (L 0 a / 2 ^ n % 2 = bt a i) := by rw [e]; exact fin
      clear e fin
      go_wp2
      go_ret
      refine ⟨congrArg (fun x => Ending.returned (.int .i64 x)) F.out, ?_⟩
      go_grown
set_option maxHeartbeats 1000000 in
theorem ref_bit_in1 (a i : Int) (h0 : 0 ≤ i) (h1 : i < 256) (hq : i / 64 = 1) (w : World) :
    Calls Tryd.prog 67 #[.agg #[.int .u64 (L 0 a), .int .u64 (L 1 a), .int .u64 (L 2 a), .int .u64 (L 3 a)], .int .i64 i] w fun e w' => e = .returned (.int .i64 (bt a i)) ∧ Below w.heap.size w w' := by
  have fin : Hid (L 1 a / 2 ^ (i % 64).toNat % 2 = bt a i) := ref_bit_word a i 1 h0 h1 hq
  go_enter Tryd.func67, Tryd.ntmps67
  go_wp2
  go_loop [5, 6] (fun x k => ∃ n : Nat, n ≤ (i % 64).toNat ∧ k = .int .i64 n ∧ x = .int .u64 (L 1 a / 2 ^ n)) (fun _ k => 64 - (intOf k).toNat)
  case atStart => exact ⟨0, Nat.zero_le _, rfl, by simp⟩
  case round =>
    obtain ⟨n, hn, rfl, rfl⟩ := hrel
    have d0 : 0 ≤ L 1 a / 2 ^ n := Int.ediv_nonneg (L_lo _ _) (Int.le_of_lt (Int.pow_pos (by omega)))
    have d1 : L 1 a / 2 ^ n < 18446744073709551616 := Int.lt_of_le_of_lt (Int.ediv_le_self _ (L_lo _ _)) (L_hi _ _)
    by_cases hlt : (n : Int) < i % 64
    · go_wp2
      go_round
      case rel => exact ⟨n + 1, by omega, by go_num, by rw [← half_pow]⟩
      case measure => simp [intOf]; omega
    · have e : n = (i % 64).toNat := by omega
      have F : Hid (L 1 a / 2 ^ n % 2 = bt a i) := by rw [e]; exact fin
      clear e fin
      go_wp2
      go_ret
      refine ⟨congrArg (fun x => Ending.returned (.int .i64 x)) F.out, ?_⟩
      go_grown
set_option maxHeartbeats 1000000 in
theorem ref_bit_in2 (a i : Int) (h0 : 0 ≤ i) (h1 : i < 256) (hq : i / 64 = 2) (w : World) :
    Calls Tryd.prog 67 #[.agg #[.int .u64 (L 0 a), .int .u64 (L 1 a), .int .u64 (L 2 a), .int .u64 (L 3 a)], .int .i64 i] w fun e w' => e = .returned (.int .i64 (bt a i)) ∧ Below w.heap.size w w' := by
  have fin : Hid (L 2 a / 2 ^ (i % 64).toNat % 2 = bt a i) := ref_bit_word a i 2 h0 h1 hq
  go_enter Tryd.func67, Tryd.ntmps67
  go_wp2
  go_loop [5, 6] (fun x k => ∃ n : Nat, n ≤ (i % 64).toNat ∧ k = .int .i64 n ∧ x = .int .u64 (L 2 a / 2 ^ n)) (fun _ k => 64 - (intOf k).toNat)
  case atStart => exact ⟨0, Nat.zero_le _, rfl, by simp⟩
  case round =>
    obtain ⟨n, hn, rfl, rfl⟩ := hrel
    have d0 : 0 ≤ L 2 a / 2 ^ n := Int.ediv_nonneg (L_lo _ _) (Int.le_of_lt (Int.pow_pos (by omega)))
    have d1 : L 2 a / 2 ^ n < 18446744073709551616 := Int.lt_of_le_of_lt (Int.ediv_le_self _ (L_lo _ _)) (L_hi _ _)
    by_cases hlt : (n : Int) < i % 64
    · go_wp2
      go_round
      case rel => exact ⟨n + 1, by omega, by go_num, by rw [← half_pow]⟩
      case measure => simp [intOf]; omega
    · have e : n = (i % 64).toNat := by omega
      have F : Hid (L 2 a / 2 ^ n % 2 = bt a i) := by rw [e]; exact fin
      clear e fin
      go_wp2
      go_ret
      refine ⟨congrArg (fun x => Ending.returned (.int .i64 x)) F.out, ?_⟩
      go_grown
set_option maxHeartbeats 1000000 in
theorem ref_bit_in3 (a i : Int) (h0 : 0 ≤ i) (h1 : i < 256) (hq : i / 64 = 3) (w : World) :
    Calls Tryd.prog 67 #[.agg #[.int .u64 (L 0 a), .int .u64 (L 1 a), .int .u64 (L 2 a), .int .u64 (L 3 a)], .int .i64 i] w fun e w' => e = .returned (.int .i64 (bt a i)) ∧ Below w.heap.size w w' := by
  have fin : Hid (L 3 a / 2 ^ (i % 64).toNat % 2 = bt a i) := ref_bit_word a i 3 h0 h1 hq
  go_enter Tryd.func67, Tryd.ntmps67
  go_wp2
  go_loop [5, 6] (fun x k => ∃ n : Nat, n ≤ (i % 64).toNat ∧ k = .int .i64 n ∧ x = .int .u64 (L 3 a / 2 ^ n)) (fun _ k => 64 - (intOf k).toNat)
  case atStart => exact ⟨0, Nat.zero_le _, rfl, by simp⟩
  case round =>
    obtain ⟨n, hn, rfl, rfl⟩ := hrel
    have d0 : 0 ≤ L 3 a / 2 ^ n := Int.ediv_nonneg (L_lo _ _) (Int.le_of_lt (Int.pow_pos (by omega)))
    have d1 : L 3 a / 2 ^ n < 18446744073709551616 := Int.lt_of_le_of_lt (Int.ediv_le_self _ (L_lo _ _)) (L_hi _ _)
    by_cases hlt : (n : Int) < i % 64
    · go_wp2
      go_round
      case rel => exact ⟨n + 1, by omega, by go_num, by rw [← half_pow]⟩
      case measure => simp [intOf]; omega
    · have e : n = (i % 64).toNat := by omega
      have F : Hid (L 3 a / 2 ^ n % 2 = bt a i) := by rw [e]; exact fin
      clear e fin
      go_wp2
      go_ret
      refine ⟨congrArg (fun x => Ending.returned (.int .i64 x)) F.out, ?_⟩
      go_grown
set_option maxHeartbeats 1000000 in
theorem ref_bit_below (a i : Int) (h0 : i < 0) (w : World) :
    Calls Tryd.prog 67 #[.agg #[.int .u64 (L 0 a), .int .u64 (L 1 a), .int .u64 (L 2 a), .int .u64 (L 3 a)], .int .i64 i] w fun e w' => e = .returned (.int .i64 0) ∧ Below w.heap.size w w' := by
  go_enter Tryd.func67, Tryd.ntmps67
  go_wp2
  go_ret
  refine ⟨rfl, ?_⟩
  go_grown
set_option maxHeartbeats 1000000 in
theorem ref_bit_above (a i : Int) (h0 : 256 ≤ i) (w : World) :
    Calls Tryd.prog 67 #[.agg #[.int .u64 (L 0 a), .int .u64 (L 1 a), .int .u64 (L 2 a), .int .u64 (L 3 a)], .int .i64 i] w fun e w' => e = .returned (.int .i64 0) ∧ Below w.heap.size w w' := by
  have h1 : 255 < i := by omega
  go_enter Tryd.func67, Tryd.ntmps67
  go_wp2
  go_ret
  refine ⟨rfl, ?_⟩
  go_grown
theorem ref_bit_any (a i : Int) (w : World) :
    Calls Tryd.prog 67 #[.agg #[.int .u64 (L 0 a), .int .u64 (L 1 a), .int .u64 (L 2 a), .int .u64 (L 3 a)], .int .i64 i] w fun e w' => e = .returned (.int .i64 (bt a i)) ∧ Below w.heap.size w w' := by
  by_cases h0 : i < 0
  · rw [bt_low a i h0]; exact ref_bit_below a i h0 w
  by_cases h1 : 256 ≤ i
  · rw [bt_high a i h1]; exact ref_bit_above a i h1 w
  have hq : i / 64 = 0 ∨ i / 64 = 1 ∨ i / 64 = 2 ∨ i / 64 = 3 := by omega
  rcases hq with hq | hq | hq | hq
  · exact ref_bit_in0 a i (by omega) (by omega) hq w
  · exact ref_bit_in1 a i (by omega) (by omega) hq w
  · exact ref_bit_in2 a i (by omega) (by omega) hq w
  · exact ref_bit_in3 a i (by omega) (by omega) hq w
end Go.Proofs.YtimaaendbfjblaaDoor
namespace Go.Proofs.YtimaaendbfjblaaDoor
open Go.RowKit

theorem r_bit {w : World} (k i : Nat) (hi : i < 256) : Calls Tryd.prog 67 [.agg (nc (k : Int)).toArray, .int .i64 (i : Int)].toArray w fun e w' => e = .returned (.int .i64 ((k / 2 ^ i % 2 : Nat) : Int)) ∧ Below w.heap.size w w' := by
  have h := ref_bit_any (k : Int) (i : Int) w
  have e : bt (k : Int) (i : Int) = ((k / 2 ^ i % 2 : Nat) : Int) := by
    unfold bt
    rw [if_pos (by omega), Int.toNat_natCast, Int.natCast_emod, Int.natCast_ediv, Int.natCast_pow]
    rfl
  rw [e] at h
  exact h
set_option maxRecDepth 100000 in
set_option maxHeartbeats 4000000 in
theorem r_mult {w : World} (hT : Tab w) (k : Nat) (x y z : Fin m0) : Calls Tryd.prog 46 [.agg (nc ((k : Int))).toArray, .agg (fc (x) ++ fc (y) ++ fc (z)).toArray].toArray w fun e w' => e = .returned (.agg (jc (jm k ⟨x, y, z⟩ 256)).toArray) ∧ Below w.heap.size w w' := by
  refine enter (args := [.agg (nc ((k : Int))).toArray, .agg (fc (x) ++ fc (y) ++ fc (z)).toArray]) Tryd.func46 rfl 21 rfl (lk rfl) (fun a h => ?_)
  refine go_region h hm [eN 2 (nc ((k : Int))), eN 3 (fc (x) ++ fc (y) ++ fc (z)), eN 4 (nz ++ nz ++ nz)] (by kernel_rfl) ⟨
    fun L u => u_box u (gd0 rfl) 24 (.tmp 0) rfl 2 rfl rfl rfl _ rfl,
    fun L u => u_box u (gd0 rfl) 60 (.tmp 1) rfl 3 rfl rfl rfl _ rfl,
    fun L u => u_alloc u (gd0 rfl) 60 rfl 4 rfl rfl z60 _ rfl,
    trivial⟩ [(2, .ptr 2 0), (3, .ptr 3 0), (4, .ptr 4 0)] [(2, nc ((k : Int))), (3, fc (x) ++ fc (y) ++ fc (z)), (4, nz ++ nz ++ nz)] ⟨rfl, rfl, rfl, trivial⟩ ⟨rfl, rfl, rfl, trivial⟩ rfl (fun a w h => ?_)
  refine go_region h hm [eN 5 (nz ++ nz ++ nz)] (by kernel_rfl) ⟨
    fun L u => u_alloc u (gd0 rfl) 60 rfl 5 rfl rfl z60 _ rfl,
    trivial⟩ [(2, .ptr 2 0), (3, .ptr 3 0), (4, .ptr 4 0), (5, .ptr 5 0)] [(2, nc ((k : Int))), (3, fc (x) ++ fc (y) ++ fc (z)), (4, nz ++ nz ++ nz), (5, nz ++ nz ++ nz)] ⟨rfl, rfl, rfl, rfl, trivial⟩ ⟨rfl, rfl, rfl, rfl, trivial⟩ rfl (fun a w h => ?_)
  refine wp_seq ?_
  refine go_region h hm [eS 6 (.val ((Value.int IntKind.i64 255)))] (by kernel_rfl) ⟨
    fun L u => u_move u (gd0 rfl) 6 rfl (.const (.int .i64 255)) (Or.inr rfl) rfl,
    trivial⟩ [(2, .ptr 2 0), (3, .ptr 3 0), (4, .ptr 4 0), (5, .ptr 5 0), (6, .val ((Value.int IntKind.i64 255)))] [(2, nc ((k : Int))), (3, fc (x) ++ fc (y) ++ fc (z)), (4, nz ++ nz ++ nz), (5, nz ++ nz ++ nz)] ⟨rfl, rfl, rfl, rfl, rfl, trivial⟩ ⟨rfl, rfl, rfl, rfl, trivial⟩ rfl (fun a w h => ?_)
  refine wp_block ?_
  refine go_loop (fun (j : Nat) => SS.mk' [(2, .ptr 2 0), (3, .ptr 3 0), (4, .ptr 4 0), (5, .ptr 5 0), (6, .val (Value.int .i64 (255 - ((j : Nat) : Int))))] [(2, nc ((k : Int))), (3, fc (x) ++ fc (y) ++ fc (z)), (4, nz ++ nz ++ nz), (5, fc ((jm k ⟨x, y, z⟩ (j)).x) ++ fc ((jm k ⟨x, y, z⟩ (j)).y) ++ fc ((jm k ⟨x, y, z⟩ (j)).z))]) (fun j => j ≤ 256) (fun j => 256 - j) (i := 0) (h.keep [(2, .ptr 2 0), (3, .ptr 3 0), (4, .ptr 4 0), (5, .ptr 5 0), (6, .val (Value.int .i64 (255 - ((0 : Nat) : Int))))] [(2, nc ((k : Int))), (3, fc (x) ++ fc (y) ++ fc (z)), (4, nz ++ nz ++ nz), (5, fc ((jm k ⟨x, y, z⟩ (0)).x) ++ fc ((jm k ⟨x, y, z⟩ (0)).y) ++ fc ((jm k ⟨x, y, z⟩ (0)).z))] ⟨rfl, rfl, rfl, rfl, rfl, trivial⟩ ⟨rfl, rfl, rfl, (congrArg (fun z => some (z ++ z ++ z)) nz_fc), trivial⟩ rfl) (Nat.zero_le _) (fun j a w hG h => ?_)
  by_cases hs : j < 256
  · skip
    by_cases hb : k / 2 ^ (255 - j) % 2 = 1
    · skip
      refine wp_seq ?_
      refine go_region h hm [eS 7 (.val (Value.int .i64 (255 - ((j : Nat) : Int)))), eS 8 (.val (Value.bool true))] (by kernel_rfl) ⟨
        fun L u => u_move u (gd0 rfl) 7 rfl (.tmp 6) (Or.inl rfl) rfl,
        fun L u => u_bin u (gd0 rfl) 8 rfl .geq 3 3 (.tmp 7) (.const (.int .i64 0)) rfl rfl rfl (eqg_int _ _ _ _ _ _ _ _) (Value.bool true) (yes_of (fun w => i_geq _ _ _ _ w) (by omega)),
        trivial⟩ [(2, .ptr 2 0), (3, .ptr 3 0), (4, .ptr 4 0), (5, .ptr 5 0), (6, .val (Value.int .i64 (255 - ((j : Nat) : Int)))), (8, .val (Value.bool true))] [(2, nc ((k : Int))), (3, fc (x) ++ fc (y) ++ fc (z)), (4, nz ++ nz ++ nz), (5, fc ((jm k ⟨x, y, z⟩ (j)).x) ++ fc ((jm k ⟨x, y, z⟩ (j)).y) ++ fc ((jm k ⟨x, y, z⟩ (j)).z))] ⟨rfl, rfl, rfl, rfl, rfl, rfl, trivial⟩ ⟨rfl, rfl, rfl, rfl, trivial⟩ rfl (fun a w h => ?_)
      refine go_cond h true rfl (fun ht => ?_) (fun hf => ?_)
      case refine_2 => cases hf
      refine wp_skip ?_
      refine then_norm ?_
      refine wp_seq ?_
      refine wp_block ?_
      refine go_region h hm [eS 11 (.val (.agg (fc ((jm k ⟨x, y, z⟩ (j)).x) ++ fc ((jm k ⟨x, y, z⟩ (j)).y) ++ fc ((jm k ⟨x, y, z⟩ (j)).z)).toArray)), eS 12 (.val (.agg (fc ((jdbl ⟨(jm k ⟨x, y, z⟩ (j)).x, (jm k ⟨x, y, z⟩ (j)).y, (jm k ⟨x, y, z⟩ (j)).z⟩).x) ++ fc ((jdbl ⟨(jm k ⟨x, y, z⟩ (j)).x, (jm k ⟨x, y, z⟩ (j)).y, (jm k ⟨x, y, z⟩ (j)).z⟩).y) ++ fc ((jdbl ⟨(jm k ⟨x, y, z⟩ (j)).x, (jm k ⟨x, y, z⟩ (j)).y, (jm k ⟨x, y, z⟩ (j)).z⟩).z)).toArray)), eM 5 (fc ((jdbl ⟨(jm k ⟨x, y, z⟩ (j)).x, (jm k ⟨x, y, z⟩ (j)).y, (jm k ⟨x, y, z⟩ (j)).z⟩).x) ++ fc ((jdbl ⟨(jm k ⟨x, y, z⟩ (j)).x, (jm k ⟨x, y, z⟩ (j)).y, (jm k ⟨x, y, z⟩ (j)).z⟩).y) ++ fc ((jdbl ⟨(jm k ⟨x, y, z⟩ (j)).x, (jm k ⟨x, y, z⟩ (j)).y, (jm k ⟨x, y, z⟩ (j)).z⟩).z))] (by kernel_rfl) ⟨
        fun L u => u_load u (gd0 rfl) 11 rfl 60 (.tmp 5) rfl rfl rfl Tryd.underlying60 rfl i60 (lk rfl) _ rfl,
        fun L u => u_call u (gd0 rfl) 12 rfl 64 #[(.tmp 11)] #[60] rfl [.agg (fc ((jm k ⟨x, y, z⟩ (j)).x) ++ fc ((jm k ⟨x, y, z⟩ (j)).y) ++ fc ((jm k ⟨x, y, z⟩ (j)).z)).toArray] rfl (cE64 _) (.agg (fc ((jdbl ⟨(jm k ⟨x, y, z⟩ (j)).x, (jm k ⟨x, y, z⟩ (j)).y, (jm k ⟨x, y, z⟩ (j)).z⟩).x) ++ fc ((jdbl ⟨(jm k ⟨x, y, z⟩ (j)).x, (jm k ⟨x, y, z⟩ (j)).y, (jm k ⟨x, y, z⟩ (j)).z⟩).y) ++ fc ((jdbl ⟨(jm k ⟨x, y, z⟩ (j)).x, (jm k ⟨x, y, z⟩ (j)).y, (jm k ⟨x, y, z⟩ (j)).z⟩).z)).toArray) (fun w hb => r_dbl (hT.keep (Bs.kp_of hb)) _ _ _),
        fun L u => u_store u (gd0 rfl) 60 (.tmp 5) (.tmp 12) rfl rfl rfl (vs := fc ((jdbl ⟨(jm k ⟨x, y, z⟩ (j)).x, (jm k ⟨x, y, z⟩ (j)).y, (jm k ⟨x, y, z⟩ (j)).z⟩).x) ++ fc ((jdbl ⟨(jm k ⟨x, y, z⟩ (j)).x, (jm k ⟨x, y, z⟩ (j)).y, (jm k ⟨x, y, z⟩ (j)).z⟩).y) ++ fc ((jdbl ⟨(jm k ⟨x, y, z⟩ (j)).x, (jm k ⟨x, y, z⟩ (j)).y, (jm k ⟨x, y, z⟩ (j)).z⟩).z)) rfl rfl i60 (lk rfl) rfl _ rfl,
        trivial⟩ [(2, .ptr 2 0), (3, .ptr 3 0), (4, .ptr 4 0), (5, .ptr 5 0), (6, .val (Value.int .i64 (255 - ((j : Nat) : Int))))] [(2, nc ((k : Int))), (3, fc (x) ++ fc (y) ++ fc (z)), (4, nz ++ nz ++ nz), (5, fc ((jdbl ⟨(jm k ⟨x, y, z⟩ (j)).x, (jm k ⟨x, y, z⟩ (j)).y, (jm k ⟨x, y, z⟩ (j)).z⟩).x) ++ fc ((jdbl ⟨(jm k ⟨x, y, z⟩ (j)).x, (jm k ⟨x, y, z⟩ (j)).y, (jm k ⟨x, y, z⟩ (j)).z⟩).y) ++ fc ((jdbl ⟨(jm k ⟨x, y, z⟩ (j)).x, (jm k ⟨x, y, z⟩ (j)).y, (jm k ⟨x, y, z⟩ (j)).z⟩).z))] ⟨rfl, rfl, rfl, rfl, rfl, trivial⟩ ⟨rfl, rfl, rfl, rfl, trivial⟩ rfl (fun a w h => ?_)
      refine go_region h hm [eS 13 (.val (.agg (nc ((k : Int))).toArray)), eS 14 (.val (Value.int .i64 (255 - ((j : Nat) : Int)))), eS 15 (.val (Value.int .i64 ((k / 2 ^ (255 - j) % 2 : Nat) : Int))), eS 16 (.val (Value.bool true))] (by kernel_rfl) ⟨
        fun L u => u_load u (gd0 rfl) 13 rfl 24 (.tmp 2) rfl rfl rfl Tryd.underlying24 rfl i24 (lk rfl) _ rfl,
        fun L u => u_move u (gd0 rfl) 14 rfl (.tmp 6) (Or.inl rfl) rfl,
        fun L u => u_call u (gd0 rfl) 15 rfl 67 #[(.tmp 13), (.tmp 14)] #[24, 3] rfl [.agg (nc ((k : Int))).toArray, Value.int .i64 (255 - ((j : Nat) : Int))] rfl (cE67 _) (Value.int .i64 ((k / 2 ^ (255 - j) % 2 : Nat) : Int)) (fun w hb => by have := r_bit (w := w) k (255 - j) (by omega); rw [show (((255 - j : Nat)) : Int) = 255 - (j : Int) by omega] at this; exact this),
        fun L u => u_bin u (gd0 rfl) 16 rfl .eql 3 3 (.tmp 15) (.const (.int .i64 1)) rfl rfl rfl (eqg_int _ _ _ _ _ _ _ _) (Value.bool true) (yes_of (fun w => i_eql _ _ _ _ w) (by omega)),
        trivial⟩ [(2, .ptr 2 0), (3, .ptr 3 0), (4, .ptr 4 0), (5, .ptr 5 0), (6, .val (Value.int .i64 (255 - ((j : Nat) : Int)))), (16, .val (Value.bool true))] [(2, nc ((k : Int))), (3, fc (x) ++ fc (y) ++ fc (z)), (4, nz ++ nz ++ nz), (5, fc ((jdbl ⟨(jm k ⟨x, y, z⟩ (j)).x, (jm k ⟨x, y, z⟩ (j)).y, (jm k ⟨x, y, z⟩ (j)).z⟩).x) ++ fc ((jdbl ⟨(jm k ⟨x, y, z⟩ (j)).x, (jm k ⟨x, y, z⟩ (j)).y, (jm k ⟨x, y, z⟩ (j)).z⟩).y) ++ fc ((jdbl ⟨(jm k ⟨x, y, z⟩ (j)).x, (jm k ⟨x, y, z⟩ (j)).y, (jm k ⟨x, y, z⟩ (j)).z⟩).z))] ⟨rfl, rfl, rfl, rfl, rfl, rfl, trivial⟩ ⟨rfl, rfl, rfl, rfl, trivial⟩ rfl (fun a w h => ?_)
      refine go_cond h true rfl (fun ht => ?_) (fun hf => ?_)
      case refine_2 => cases hf
      refine go_end h hm [eS 17 (.val (.agg (fc ((jdbl ⟨(jm k ⟨x, y, z⟩ (j)).x, (jm k ⟨x, y, z⟩ (j)).y, (jm k ⟨x, y, z⟩ (j)).z⟩).x) ++ fc ((jdbl ⟨(jm k ⟨x, y, z⟩ (j)).x, (jm k ⟨x, y, z⟩ (j)).y, (jm k ⟨x, y, z⟩ (j)).z⟩).y) ++ fc ((jdbl ⟨(jm k ⟨x, y, z⟩ (j)).x, (jm k ⟨x, y, z⟩ (j)).y, (jm k ⟨x, y, z⟩ (j)).z⟩).z)).toArray)), eS 18 (.val (.agg (fc (x) ++ fc (y) ++ fc (z)).toArray)), eS 19 (.val (.agg (fc ((jadd ⟨(jdbl ⟨(jm k ⟨x, y, z⟩ (j)).x, (jm k ⟨x, y, z⟩ (j)).y, (jm k ⟨x, y, z⟩ (j)).z⟩).x, (jdbl ⟨(jm k ⟨x, y, z⟩ (j)).x, (jm k ⟨x, y, z⟩ (j)).y, (jm k ⟨x, y, z⟩ (j)).z⟩).y, (jdbl ⟨(jm k ⟨x, y, z⟩ (j)).x, (jm k ⟨x, y, z⟩ (j)).y, (jm k ⟨x, y, z⟩ (j)).z⟩).z⟩ ⟨x, y, z⟩).x) ++ fc ((jadd ⟨(jdbl ⟨(jm k ⟨x, y, z⟩ (j)).x, (jm k ⟨x, y, z⟩ (j)).y, (jm k ⟨x, y, z⟩ (j)).z⟩).x, (jdbl ⟨(jm k ⟨x, y, z⟩ (j)).x, (jm k ⟨x, y, z⟩ (j)).y, (jm k ⟨x, y, z⟩ (j)).z⟩).y, (jdbl ⟨(jm k ⟨x, y, z⟩ (j)).x, (jm k ⟨x, y, z⟩ (j)).y, (jm k ⟨x, y, z⟩ (j)).z⟩).z⟩ ⟨x, y, z⟩).y) ++ fc ((jadd ⟨(jdbl ⟨(jm k ⟨x, y, z⟩ (j)).x, (jm k ⟨x, y, z⟩ (j)).y, (jm k ⟨x, y, z⟩ (j)).z⟩).x, (jdbl ⟨(jm k ⟨x, y, z⟩ (j)).x, (jm k ⟨x, y, z⟩ (j)).y, (jm k ⟨x, y, z⟩ (j)).z⟩).y, (jdbl ⟨(jm k ⟨x, y, z⟩ (j)).x, (jm k ⟨x, y, z⟩ (j)).y, (jm k ⟨x, y, z⟩ (j)).z⟩).z⟩ ⟨x, y, z⟩).z)).toArray)), eM 5 (fc ((jadd ⟨(jdbl ⟨(jm k ⟨x, y, z⟩ (j)).x, (jm k ⟨x, y, z⟩ (j)).y, (jm k ⟨x, y, z⟩ (j)).z⟩).x, (jdbl ⟨(jm k ⟨x, y, z⟩ (j)).x, (jm k ⟨x, y, z⟩ (j)).y, (jm k ⟨x, y, z⟩ (j)).z⟩).y, (jdbl ⟨(jm k ⟨x, y, z⟩ (j)).x, (jm k ⟨x, y, z⟩ (j)).y, (jm k ⟨x, y, z⟩ (j)).z⟩).z⟩ ⟨x, y, z⟩).x) ++ fc ((jadd ⟨(jdbl ⟨(jm k ⟨x, y, z⟩ (j)).x, (jm k ⟨x, y, z⟩ (j)).y, (jm k ⟨x, y, z⟩ (j)).z⟩).x, (jdbl ⟨(jm k ⟨x, y, z⟩ (j)).x, (jm k ⟨x, y, z⟩ (j)).y, (jm k ⟨x, y, z⟩ (j)).z⟩).y, (jdbl ⟨(jm k ⟨x, y, z⟩ (j)).x, (jm k ⟨x, y, z⟩ (j)).y, (jm k ⟨x, y, z⟩ (j)).z⟩).z⟩ ⟨x, y, z⟩).y) ++ fc ((jadd ⟨(jdbl ⟨(jm k ⟨x, y, z⟩ (j)).x, (jm k ⟨x, y, z⟩ (j)).y, (jm k ⟨x, y, z⟩ (j)).z⟩).x, (jdbl ⟨(jm k ⟨x, y, z⟩ (j)).x, (jm k ⟨x, y, z⟩ (j)).y, (jm k ⟨x, y, z⟩ (j)).z⟩).y, (jdbl ⟨(jm k ⟨x, y, z⟩ (j)).x, (jm k ⟨x, y, z⟩ (j)).y, (jm k ⟨x, y, z⟩ (j)).z⟩).z⟩ ⟨x, y, z⟩).z))] (by kernel_rfl) ⟨
        fun L u => u_load u (gd0 rfl) 17 rfl 60 (.tmp 5) rfl rfl rfl Tryd.underlying60 rfl i60 (lk rfl) _ rfl,
        fun L u => u_load u (gd0 rfl) 18 rfl 60 (.tmp 3) rfl rfl rfl Tryd.underlying60 rfl i60 (lk rfl) _ rfl,
        fun L u => u_call u (gd0 rfl) 19 rfl 43 #[(.tmp 17), (.tmp 18)] #[60, 60] rfl [.agg (fc ((jdbl ⟨(jm k ⟨x, y, z⟩ (j)).x, (jm k ⟨x, y, z⟩ (j)).y, (jm k ⟨x, y, z⟩ (j)).z⟩).x) ++ fc ((jdbl ⟨(jm k ⟨x, y, z⟩ (j)).x, (jm k ⟨x, y, z⟩ (j)).y, (jm k ⟨x, y, z⟩ (j)).z⟩).y) ++ fc ((jdbl ⟨(jm k ⟨x, y, z⟩ (j)).x, (jm k ⟨x, y, z⟩ (j)).y, (jm k ⟨x, y, z⟩ (j)).z⟩).z)).toArray, .agg (fc (x) ++ fc (y) ++ fc (z)).toArray] rfl (cE43 _) (.agg (fc ((jadd ⟨(jdbl ⟨(jm k ⟨x, y, z⟩ (j)).x, (jm k ⟨x, y, z⟩ (j)).y, (jm k ⟨x, y, z⟩ (j)).z⟩).x, (jdbl ⟨(jm k ⟨x, y, z⟩ (j)).x, (jm k ⟨x, y, z⟩ (j)).y, (jm k ⟨x, y, z⟩ (j)).z⟩).y, (jdbl ⟨(jm k ⟨x, y, z⟩ (j)).x, (jm k ⟨x, y, z⟩ (j)).y, (jm k ⟨x, y, z⟩ (j)).z⟩).z⟩ ⟨x, y, z⟩).x) ++ fc ((jadd ⟨(jdbl ⟨(jm k ⟨x, y, z⟩ (j)).x, (jm k ⟨x, y, z⟩ (j)).y, (jm k ⟨x, y, z⟩ (j)).z⟩).x, (jdbl ⟨(jm k ⟨x, y, z⟩ (j)).x, (jm k ⟨x, y, z⟩ (j)).y, (jm k ⟨x, y, z⟩ (j)).z⟩).y, (jdbl ⟨(jm k ⟨x, y, z⟩ (j)).x, (jm k ⟨x, y, z⟩ (j)).y, (jm k ⟨x, y, z⟩ (j)).z⟩).z⟩ ⟨x, y, z⟩).y) ++ fc ((jadd ⟨(jdbl ⟨(jm k ⟨x, y, z⟩ (j)).x, (jm k ⟨x, y, z⟩ (j)).y, (jm k ⟨x, y, z⟩ (j)).z⟩).x, (jdbl ⟨(jm k ⟨x, y, z⟩ (j)).x, (jm k ⟨x, y, z⟩ (j)).y, (jm k ⟨x, y, z⟩ (j)).z⟩).y, (jdbl ⟨(jm k ⟨x, y, z⟩ (j)).x, (jm k ⟨x, y, z⟩ (j)).y, (jm k ⟨x, y, z⟩ (j)).z⟩).z⟩ ⟨x, y, z⟩).z)).toArray) (fun w hb => r_plus (hT.keep (Bs.kp_of hb)) _ _ _ _ _ _),
        fun L u => u_store u (gd0 rfl) 60 (.tmp 5) (.tmp 19) rfl rfl rfl (vs := fc ((jadd ⟨(jdbl ⟨(jm k ⟨x, y, z⟩ (j)).x, (jm k ⟨x, y, z⟩ (j)).y, (jm k ⟨x, y, z⟩ (j)).z⟩).x, (jdbl ⟨(jm k ⟨x, y, z⟩ (j)).x, (jm k ⟨x, y, z⟩ (j)).y, (jm k ⟨x, y, z⟩ (j)).z⟩).y, (jdbl ⟨(jm k ⟨x, y, z⟩ (j)).x, (jm k ⟨x, y, z⟩ (j)).y, (jm k ⟨x, y, z⟩ (j)).z⟩).z⟩ ⟨x, y, z⟩).x) ++ fc ((jadd ⟨(jdbl ⟨(jm k ⟨x, y, z⟩ (j)).x, (jm k ⟨x, y, z⟩ (j)).y, (jm k ⟨x, y, z⟩ (j)).z⟩).x, (jdbl ⟨(jm k ⟨x, y, z⟩ (j)).x, (jm k ⟨x, y, z⟩ (j)).y, (jm k ⟨x, y, z⟩ (j)).z⟩).y, (jdbl ⟨(jm k ⟨x, y, z⟩ (j)).x, (jm k ⟨x, y, z⟩ (j)).y, (jm k ⟨x, y, z⟩ (j)).z⟩).z⟩ ⟨x, y, z⟩).y) ++ fc ((jadd ⟨(jdbl ⟨(jm k ⟨x, y, z⟩ (j)).x, (jm k ⟨x, y, z⟩ (j)).y, (jm k ⟨x, y, z⟩ (j)).z⟩).x, (jdbl ⟨(jm k ⟨x, y, z⟩ (j)).x, (jm k ⟨x, y, z⟩ (j)).y, (jm k ⟨x, y, z⟩ (j)).z⟩).y, (jdbl ⟨(jm k ⟨x, y, z⟩ (j)).x, (jm k ⟨x, y, z⟩ (j)).y, (jm k ⟨x, y, z⟩ (j)).z⟩).z⟩ ⟨x, y, z⟩).z)) rfl rfl i60 (lk rfl) rfl _ rfl,
        trivial⟩ [(2, .ptr 2 0), (3, .ptr 3 0), (4, .ptr 4 0), (5, .ptr 5 0), (6, .val (Value.int .i64 (255 - ((j : Nat) : Int))))] [(2, nc ((k : Int))), (3, fc (x) ++ fc (y) ++ fc (z)), (4, nz ++ nz ++ nz), (5, fc ((jadd ⟨(jdbl ⟨(jm k ⟨x, y, z⟩ (j)).x, (jm k ⟨x, y, z⟩ (j)).y, (jm k ⟨x, y, z⟩ (j)).z⟩).x, (jdbl ⟨(jm k ⟨x, y, z⟩ (j)).x, (jm k ⟨x, y, z⟩ (j)).y, (jm k ⟨x, y, z⟩ (j)).z⟩).y, (jdbl ⟨(jm k ⟨x, y, z⟩ (j)).x, (jm k ⟨x, y, z⟩ (j)).y, (jm k ⟨x, y, z⟩ (j)).z⟩).z⟩ ⟨x, y, z⟩).x) ++ fc ((jadd ⟨(jdbl ⟨(jm k ⟨x, y, z⟩ (j)).x, (jm k ⟨x, y, z⟩ (j)).y, (jm k ⟨x, y, z⟩ (j)).z⟩).x, (jdbl ⟨(jm k ⟨x, y, z⟩ (j)).x, (jm k ⟨x, y, z⟩ (j)).y, (jm k ⟨x, y, z⟩ (j)).z⟩).y, (jdbl ⟨(jm k ⟨x, y, z⟩ (j)).x, (jm k ⟨x, y, z⟩ (j)).y, (jm k ⟨x, y, z⟩ (j)).z⟩).z⟩ ⟨x, y, z⟩).y) ++ fc ((jadd ⟨(jdbl ⟨(jm k ⟨x, y, z⟩ (j)).x, (jm k ⟨x, y, z⟩ (j)).y, (jm k ⟨x, y, z⟩ (j)).z⟩).x, (jdbl ⟨(jm k ⟨x, y, z⟩ (j)).x, (jm k ⟨x, y, z⟩ (j)).y, (jm k ⟨x, y, z⟩ (j)).z⟩).y, (jdbl ⟨(jm k ⟨x, y, z⟩ (j)).x, (jm k ⟨x, y, z⟩ (j)).y, (jm k ⟨x, y, z⟩ (j)).z⟩).z⟩ ⟨x, y, z⟩).z))] ⟨rfl, rfl, rfl, rfl, rfl, trivial⟩ ⟨rfl, rfl, rfl, rfl, trivial⟩ rfl (fun a w h => ?_)
      refine blk_norm ?_
      refine then_norm ?_
      refine go_end h hm [eS 9 (.val (Value.int .i64 (255 - ((j : Nat) : Int)))), eS 10 (.val (Value.int .i64 (255 - ((j + 1 : Nat) : Int)))), eS 6 (.val (Value.int .i64 (255 - ((j + 1 : Nat) : Int))))] (by kernel_rfl) ⟨
        fun L u => u_move u (gd0 rfl) 9 rfl (.tmp 6) (Or.inl rfl) rfl,
        fun L u => u_bin u (gd0 rfl) 10 rfl .sub 3 3 (.tmp 9) (.const (.int .i64 1)) rfl rfl rfl (eqg_int _ _ _ _ _ _ _ _) (Value.int .i64 (255 - ((j + 1 : Nat) : Int))) (fun w => i_sub _ _ _ _ (by omega) (by omega) w),
        fun L u => u_move u (gd0 rfl) 6 rfl (.tmp 10) (Or.inr rfl) rfl,
        trivial⟩ [(2, .ptr 2 0), (3, .ptr 3 0), (4, .ptr 4 0), (5, .ptr 5 0), (6, .val (Value.int .i64 (255 - ((j + 1 : Nat) : Int))))] [(2, nc ((k : Int))), (3, fc (x) ++ fc (y) ++ fc (z)), (4, nz ++ nz ++ nz), (5, fc ((jadd ⟨(jdbl ⟨(jm k ⟨x, y, z⟩ (j)).x, (jm k ⟨x, y, z⟩ (j)).y, (jm k ⟨x, y, z⟩ (j)).z⟩).x, (jdbl ⟨(jm k ⟨x, y, z⟩ (j)).x, (jm k ⟨x, y, z⟩ (j)).y, (jm k ⟨x, y, z⟩ (j)).z⟩).y, (jdbl ⟨(jm k ⟨x, y, z⟩ (j)).x, (jm k ⟨x, y, z⟩ (j)).y, (jm k ⟨x, y, z⟩ (j)).z⟩).z⟩ ⟨x, y, z⟩).x) ++ fc ((jadd ⟨(jdbl ⟨(jm k ⟨x, y, z⟩ (j)).x, (jm k ⟨x, y, z⟩ (j)).y, (jm k ⟨x, y, z⟩ (j)).z⟩).x, (jdbl ⟨(jm k ⟨x, y, z⟩ (j)).x, (jm k ⟨x, y, z⟩ (j)).y, (jm k ⟨x, y, z⟩ (j)).z⟩).y, (jdbl ⟨(jm k ⟨x, y, z⟩ (j)).x, (jm k ⟨x, y, z⟩ (j)).y, (jm k ⟨x, y, z⟩ (j)).z⟩).z⟩ ⟨x, y, z⟩).y) ++ fc ((jadd ⟨(jdbl ⟨(jm k ⟨x, y, z⟩ (j)).x, (jm k ⟨x, y, z⟩ (j)).y, (jm k ⟨x, y, z⟩ (j)).z⟩).x, (jdbl ⟨(jm k ⟨x, y, z⟩ (j)).x, (jm k ⟨x, y, z⟩ (j)).y, (jm k ⟨x, y, z⟩ (j)).z⟩).y, (jdbl ⟨(jm k ⟨x, y, z⟩ (j)).x, (jm k ⟨x, y, z⟩ (j)).y, (jm k ⟨x, y, z⟩ (j)).z⟩).z⟩ ⟨x, y, z⟩).z))] ⟨rfl, rfl, rfl, rfl, rfl, trivial⟩ ⟨rfl, rfl, rfl, rfl, trivial⟩ rfl (fun a w h => ?_)
      refine then_norm ?_
      exact ⟨j + 1, (by omega), (by omega), h.keep [(2, .ptr 2 0), (3, .ptr 3 0), (4, .ptr 4 0), (5, .ptr 5 0), (6, .val (Value.int .i64 (255 - ((j + 1 : Nat) : Int))))] [(2, nc ((k : Int))), (3, fc (x) ++ fc (y) ++ fc (z)), (4, nz ++ nz ++ nz), (5, fc ((jm k ⟨x, y, z⟩ (j + 1)).x) ++ fc ((jm k ⟨x, y, z⟩ (j + 1)).y) ++ fc ((jm k ⟨x, y, z⟩ (j + 1)).z))] ⟨rfl, rfl, rfl, rfl, rfl, trivial⟩ ⟨rfl, rfl, rfl, (congrArg (fun p : P3 (Fin m0) => some (fc p.x ++ fc p.y ++ fc p.z)) (show jm k ⟨x, y, z⟩ (j + 1) = _ from if_pos hb).symm), trivial⟩ rfl⟩
    · skip
      refine wp_seq ?_
      refine go_region h hm [eS 7 (.val (Value.int .i64 (255 - ((j : Nat) : Int)))), eS 8 (.val (Value.bool true))] (by kernel_rfl) ⟨
        fun L u => u_move u (gd0 rfl) 7 rfl (.tmp 6) (Or.inl rfl) rfl,
        fun L u => u_bin u (gd0 rfl) 8 rfl .geq 3 3 (.tmp 7) (.const (.int .i64 0)) rfl rfl rfl (eqg_int _ _ _ _ _ _ _ _) (Value.bool true) (yes_of (fun w => i_geq _ _ _ _ w) (by omega)),
        trivial⟩ [(2, .ptr 2 0), (3, .ptr 3 0), (4, .ptr 4 0), (5, .ptr 5 0), (6, .val (Value.int .i64 (255 - ((j : Nat) : Int)))), (8, .val (Value.bool true))] [(2, nc ((k : Int))), (3, fc (x) ++ fc (y) ++ fc (z)), (4, nz ++ nz ++ nz), (5, fc ((jm k ⟨x, y, z⟩ (j)).x) ++ fc ((jm k ⟨x, y, z⟩ (j)).y) ++ fc ((jm k ⟨x, y, z⟩ (j)).z))] ⟨rfl, rfl, rfl, rfl, rfl, rfl, trivial⟩ ⟨rfl, rfl, rfl, rfl, trivial⟩ rfl (fun a w h => ?_)
      refine go_cond h true rfl (fun ht => ?_) (fun hf => ?_)
      case refine_2 => cases hf
      refine wp_skip ?_
      refine then_norm ?_
      refine wp_seq ?_
      refine wp_block ?_
      refine go_region h hm [eS 11 (.val (.agg (fc ((jm k ⟨x, y, z⟩ (j)).x) ++ fc ((jm k ⟨x, y, z⟩ (j)).y) ++ fc ((jm k ⟨x, y, z⟩ (j)).z)).toArray)), eS 12 (.val (.agg (fc ((jdbl ⟨(jm k ⟨x, y, z⟩ (j)).x, (jm k ⟨x, y, z⟩ (j)).y, (jm k ⟨x, y, z⟩ (j)).z⟩).x) ++ fc ((jdbl ⟨(jm k ⟨x, y, z⟩ (j)).x, (jm k ⟨x, y, z⟩ (j)).y, (jm k ⟨x, y, z⟩ (j)).z⟩).y) ++ fc ((jdbl ⟨(jm k ⟨x, y, z⟩ (j)).x, (jm k ⟨x, y, z⟩ (j)).y, (jm k ⟨x, y, z⟩ (j)).z⟩).z)).toArray)), eM 5 (fc ((jdbl ⟨(jm k ⟨x, y, z⟩ (j)).x, (jm k ⟨x, y, z⟩ (j)).y, (jm k ⟨x, y, z⟩ (j)).z⟩).x) ++ fc ((jdbl ⟨(jm k ⟨x, y, z⟩ (j)).x, (jm k ⟨x, y, z⟩ (j)).y, (jm k ⟨x, y, z⟩ (j)).z⟩).y) ++ fc ((jdbl ⟨(jm k ⟨x, y, z⟩ (j)).x, (jm k ⟨x, y, z⟩ (j)).y, (jm k ⟨x, y, z⟩ (j)).z⟩).z))] (by kernel_rfl) ⟨
        fun L u => u_load u (gd0 rfl) 11 rfl 60 (.tmp 5) rfl rfl rfl Tryd.underlying60 rfl i60 (lk rfl) _ rfl,
        fun L u => u_call u (gd0 rfl) 12 rfl 64 #[(.tmp 11)] #[60] rfl [.agg (fc ((jm k ⟨x, y, z⟩ (j)).x) ++ fc ((jm k ⟨x, y, z⟩ (j)).y) ++ fc ((jm k ⟨x, y, z⟩ (j)).z)).toArray] rfl (cE64 _) (.agg (fc ((jdbl ⟨(jm k ⟨x, y, z⟩ (j)).x, (jm k ⟨x, y, z⟩ (j)).y, (jm k ⟨x, y, z⟩ (j)).z⟩).x) ++ fc ((jdbl ⟨(jm k ⟨x, y, z⟩ (j)).x, (jm k ⟨x, y, z⟩ (j)).y, (jm k ⟨x, y, z⟩ (j)).z⟩).y) ++ fc ((jdbl ⟨(jm k ⟨x, y, z⟩ (j)).x, (jm k ⟨x, y, z⟩ (j)).y, (jm k ⟨x, y, z⟩ (j)).z⟩).z)).toArray) (fun w hb => r_dbl (hT.keep (Bs.kp_of hb)) _ _ _),
        fun L u => u_store u (gd0 rfl) 60 (.tmp 5) (.tmp 12) rfl rfl rfl (vs := fc ((jdbl ⟨(jm k ⟨x, y, z⟩ (j)).x, (jm k ⟨x, y, z⟩ (j)).y, (jm k ⟨x, y, z⟩ (j)).z⟩).x) ++ fc ((jdbl ⟨(jm k ⟨x, y, z⟩ (j)).x, (jm k ⟨x, y, z⟩ (j)).y, (jm k ⟨x, y, z⟩ (j)).z⟩).y) ++ fc ((jdbl ⟨(jm k ⟨x, y, z⟩ (j)).x, (jm k ⟨x, y, z⟩ (j)).y, (jm k ⟨x, y, z⟩ (j)).z⟩).z)) rfl rfl i60 (lk rfl) rfl _ rfl,
        trivial⟩ [(2, .ptr 2 0), (3, .ptr 3 0), (4, .ptr 4 0), (5, .ptr 5 0), (6, .val (Value.int .i64 (255 - ((j : Nat) : Int))))] [(2, nc ((k : Int))), (3, fc (x) ++ fc (y) ++ fc (z)), (4, nz ++ nz ++ nz), (5, fc ((jdbl ⟨(jm k ⟨x, y, z⟩ (j)).x, (jm k ⟨x, y, z⟩ (j)).y, (jm k ⟨x, y, z⟩ (j)).z⟩).x) ++ fc ((jdbl ⟨(jm k ⟨x, y, z⟩ (j)).x, (jm k ⟨x, y, z⟩ (j)).y, (jm k ⟨x, y, z⟩ (j)).z⟩).y) ++ fc ((jdbl ⟨(jm k ⟨x, y, z⟩ (j)).x, (jm k ⟨x, y, z⟩ (j)).y, (jm k ⟨x, y, z⟩ (j)).z⟩).z))] ⟨rfl, rfl, rfl, rfl, rfl, trivial⟩ ⟨rfl, rfl, rfl, rfl, trivial⟩ rfl (fun a w h => ?_)
      refine go_region h hm [eS 13 (.val (.agg (nc ((k : Int))).toArray)), eS 14 (.val (Value.int .i64 (255 - ((j : Nat) : Int)))), eS 15 (.val (Value.int .i64 ((k / 2 ^ (255 - j) % 2 : Nat) : Int))), eS 16 (.val (Value.bool false))] (by kernel_rfl) ⟨
        fun L u => u_load u (gd0 rfl) 13 rfl 24 (.tmp 2) rfl rfl rfl Tryd.underlying24 rfl i24 (lk rfl) _ rfl,
        fun L u => u_move u (gd0 rfl) 14 rfl (.tmp 6) (Or.inl rfl) rfl,
        fun L u => u_call u (gd0 rfl) 15 rfl 67 #[(.tmp 13), (.tmp 14)] #[24, 3] rfl [.agg (nc ((k : Int))).toArray, Value.int .i64 (255 - ((j : Nat) : Int))] rfl (cE67 _) (Value.int .i64 ((k / 2 ^ (255 - j) % 2 : Nat) : Int)) (fun w hb => by have := r_bit (w := w) k (255 - j) (by omega); rw [show (((255 - j : Nat)) : Int) = 255 - (j : Int) by omega] at this; exact this),
        fun L u => u_bin u (gd0 rfl) 16 rfl .eql 3 3 (.tmp 15) (.const (.int .i64 1)) rfl rfl rfl (eqg_int _ _ _ _ _ _ _ _) (Value.bool false) (no_of (fun w => i_eql _ _ _ _ w) (by omega)),
        trivial⟩ [(2, .ptr 2 0), (3, .ptr 3 0), (4, .ptr 4 0), (5, .ptr 5 0), (6, .val (Value.int .i64 (255 - ((j : Nat) : Int)))), (16, .val (Value.bool false))] [(2, nc ((k : Int))), (3, fc (x) ++ fc (y) ++ fc (z)), (4, nz ++ nz ++ nz), (5, fc ((jdbl ⟨(jm k ⟨x, y, z⟩ (j)).x, (jm k ⟨x, y, z⟩ (j)).y, (jm k ⟨x, y, z⟩ (j)).z⟩).x) ++ fc ((jdbl ⟨(jm k ⟨x, y, z⟩ (j)).x, (jm k ⟨x, y, z⟩ (j)).y, (jm k ⟨x, y, z⟩ (j)).z⟩).y) ++ fc ((jdbl ⟨(jm k ⟨x, y, z⟩ (j)).x, (jm k ⟨x, y, z⟩ (j)).y, (jm k ⟨x, y, z⟩ (j)).z⟩).z))] ⟨rfl, rfl, rfl, rfl, rfl, rfl, trivial⟩ ⟨rfl, rfl, rfl, rfl, trivial⟩ rfl (fun a w h => ?_)
      refine go_cond h false rfl (fun ht => ?_) (fun hf => ?_)
      case refine_1 => cases ht
      refine wp_skip ?_
      refine blk_norm ?_
      refine then_norm ?_
      refine go_end h hm [eS 9 (.val (Value.int .i64 (255 - ((j : Nat) : Int)))), eS 10 (.val (Value.int .i64 (255 - ((j + 1 : Nat) : Int)))), eS 6 (.val (Value.int .i64 (255 - ((j + 1 : Nat) : Int))))] (by kernel_rfl) ⟨
        fun L u => u_move u (gd0 rfl) 9 rfl (.tmp 6) (Or.inl rfl) rfl,
        fun L u => u_bin u (gd0 rfl) 10 rfl .sub 3 3 (.tmp 9) (.const (.int .i64 1)) rfl rfl rfl (eqg_int _ _ _ _ _ _ _ _) (Value.int .i64 (255 - ((j + 1 : Nat) : Int))) (fun w => i_sub _ _ _ _ (by omega) (by omega) w),
        fun L u => u_move u (gd0 rfl) 6 rfl (.tmp 10) (Or.inr rfl) rfl,
        trivial⟩ [(2, .ptr 2 0), (3, .ptr 3 0), (4, .ptr 4 0), (5, .ptr 5 0), (6, .val (Value.int .i64 (255 - ((j + 1 : Nat) : Int))))] [(2, nc ((k : Int))), (3, fc (x) ++ fc (y) ++ fc (z)), (4, nz ++ nz ++ nz), (5, fc ((jdbl ⟨(jm k ⟨x, y, z⟩ (j)).x, (jm k ⟨x, y, z⟩ (j)).y, (jm k ⟨x, y, z⟩ (j)).z⟩).x) ++ fc ((jdbl ⟨(jm k ⟨x, y, z⟩ (j)).x, (jm k ⟨x, y, z⟩ (j)).y, (jm k ⟨x, y, z⟩ (j)).z⟩).y) ++ fc ((jdbl ⟨(jm k ⟨x, y, z⟩ (j)).x, (jm k ⟨x, y, z⟩ (j)).y, (jm k ⟨x, y, z⟩ (j)).z⟩).z))] ⟨rfl, rfl, rfl, rfl, rfl, trivial⟩ ⟨rfl, rfl, rfl, rfl, trivial⟩ rfl (fun a w h => ?_)
      refine then_norm ?_
      exact ⟨j + 1, (by omega), (by omega), h.keep [(2, .ptr 2 0), (3, .ptr 3 0), (4, .ptr 4 0), (5, .ptr 5 0), (6, .val (Value.int .i64 (255 - ((j + 1 : Nat) : Int))))] [(2, nc ((k : Int))), (3, fc (x) ++ fc (y) ++ fc (z)), (4, nz ++ nz ++ nz), (5, fc ((jm k ⟨x, y, z⟩ (j + 1)).x) ++ fc ((jm k ⟨x, y, z⟩ (j + 1)).y) ++ fc ((jm k ⟨x, y, z⟩ (j + 1)).z))] ⟨rfl, rfl, rfl, rfl, rfl, trivial⟩ ⟨rfl, rfl, rfl, (congrArg (fun p : P3 (Fin m0) => some (fc p.x ++ fc p.y ++ fc p.z)) (show jm k ⟨x, y, z⟩ (j + 1) = _ from if_neg hb).symm), trivial⟩ rfl⟩
  · skip
    refine wp_seq ?_
    refine go_region h hm [eS 7 (.val (Value.int .i64 (255 - ((j : Nat) : Int)))), eS 8 (.val (Value.bool false))] (by kernel_rfl) ⟨
      fun L u => u_move u (gd0 rfl) 7 rfl (.tmp 6) (Or.inl rfl) rfl,
      fun L u => u_bin u (gd0 rfl) 8 rfl .geq 3 3 (.tmp 7) (.const (.int .i64 0)) rfl rfl rfl (eqg_int _ _ _ _ _ _ _ _) (Value.bool false) (no_of (fun w => i_geq _ _ _ _ w) (by omega)),
      trivial⟩ [(2, .ptr 2 0), (3, .ptr 3 0), (4, .ptr 4 0), (5, .ptr 5 0), (6, .val (Value.int .i64 (255 - ((j : Nat) : Int)))), (8, .val (Value.bool false))] [(2, nc ((k : Int))), (3, fc (x) ++ fc (y) ++ fc (z)), (4, nz ++ nz ++ nz), (5, fc ((jm k ⟨x, y, z⟩ (j)).x) ++ fc ((jm k ⟨x, y, z⟩ (j)).y) ++ fc ((jm k ⟨x, y, z⟩ (j)).z))] ⟨rfl, rfl, rfl, rfl, rfl, rfl, trivial⟩ ⟨rfl, rfl, rfl, rfl, trivial⟩ rfl (fun a w h => ?_)
    refine go_cond h false rfl (fun ht => ?_) (fun hf => ?_)
    case refine_1 => cases ht
    refine wp_exit ?_
    refine then_exit ?_
    refine then_exit ?_
    refine blk_exit ?_
    refine then_norm ?_
    refine go_region h hm [eS 20 (.val (.agg (fc ((jm k ⟨x, y, z⟩ (j)).x) ++ fc ((jm k ⟨x, y, z⟩ (j)).y) ++ fc ((jm k ⟨x, y, z⟩ (j)).z)).toArray)), eM 4 (fc ((jm k ⟨x, y, z⟩ (j)).x) ++ fc ((jm k ⟨x, y, z⟩ (j)).y) ++ fc ((jm k ⟨x, y, z⟩ (j)).z))] (by kernel_rfl) ⟨
      fun L u => u_load u (gd0 rfl) 20 rfl 60 (.tmp 5) rfl rfl rfl Tryd.underlying60 rfl i60 (lk rfl) _ rfl,
      fun L u => u_store u (gd0 rfl) 60 (.tmp 4) (.tmp 20) rfl rfl rfl (vs := fc ((jm k ⟨x, y, z⟩ (j)).x) ++ fc ((jm k ⟨x, y, z⟩ (j)).y) ++ fc ((jm k ⟨x, y, z⟩ (j)).z)) rfl rfl i60 (lk rfl) rfl _ rfl,
      trivial⟩ [(4, .ptr 4 0)] [(4, fc ((jm k ⟨x, y, z⟩ (j)).x) ++ fc ((jm k ⟨x, y, z⟩ (j)).y) ++ fc ((jm k ⟨x, y, z⟩ (j)).z))] ⟨rfl, trivial⟩ ⟨rfl, trivial⟩ rfl (fun a w h => ?_)
    refine wp_ret ?_
    refine ret_row h 4 60 rfl (lk rfl) 4 rfl (fc ((jm k ⟨x, y, z⟩ (j)).x) ++ fc ((jm k ⟨x, y, z⟩ (j)).y) ++ fc ((jm k ⟨x, y, z⟩ (j)).z)) rfl _ Tryd.underlying60 rfl i60 ?_
    exact ⟨by rw [show j = 256 by omega]; rfl, h.grows⟩
end Go.Proofs.YtimaaendbfjblaaDoor
namespace Go.Proofs.YtimaaendbfjblaaDoor
open Go.RowKit
attribute [local go_sem ↓] Go.wp_at_zero Go.wp_at_succ

def lessW (x0 x1 x2 x3 y0 y1 y2 y3 : Int) : Bool :=
  if x3 = y3 then if x2 = y2 then if x1 = y1 then if x0 = y0 then false else decide (x0 < y0) else decide (x1 < y1) else decide (x2 < y2) else decide (x3 < y3)

set_option maxHeartbeats 2000000 in
theorem less_walk (x0 x1 x2 x3 y0 y1 y2 y3 : Int) (w : World) :
    Calls Tryd.prog 47 #[.agg #[.int .u64 x0, .int .u64 x1, .int .u64 x2, .int .u64 x3], .agg #[.int .u64 y0, .int .u64 y1, .int .u64 y2, .int .u64 y3]] w fun e w' => e = .returned (.bool (lessW x0 x1 x2 x3 y0 y1 y2 y3)) ∧ Below w.heap.size w w' := by
  go_enter Tryd.func47, Tryd.ntmps47
  go_wp2
  refine wp_loop_rounds 5 ?_
  by_cases g3 : x3 = y3
  case neg =>
    have b3 : (x3 == y3) = false := by simpa using g3
    have n3 : (x3 != y3) = true := by simpa using g3
    rw [rounds_succ]
    go_wp2
    go_quiet (fail)
    go_wp2
    go_quiet (fail)
    go_wp2
    go_ret
    refine ⟨ret_bool (by unfold lessW; simp [*]), ?_⟩
    repeat' (first | (with_reducible exact Below.refl _ _) | (with_reducible refine K.drewN ?_ _) | (with_reducible refine K.drew ?_) | (with_reducible refine K.alloc ?_ _) | (with_reducible refine K.set ?_ ?_ _) | (simp; done) | (simp; omega))
  subst g3
  rw [rounds_succ]
  go_wp2
  go_quiet (fail)
  go_wp2
  by_cases g2 : x2 = y2
  case neg =>
    have b2 : (x2 == y2) = false := by simpa using g2
    have n2 : (x2 != y2) = true := by simpa using g2
    rw [rounds_succ]
    go_wp2
    go_quiet (fail)
    go_wp2
    go_quiet (fail)
    go_wp2
    go_ret
    refine ⟨ret_bool (by unfold lessW; simp [*]), ?_⟩
    repeat' (first | (with_reducible exact Below.refl _ _) | (with_reducible refine K.drewN ?_ _) | (with_reducible refine K.drew ?_) | (with_reducible refine K.alloc ?_ _) | (with_reducible refine K.set ?_ ?_ _) | (simp; done) | (simp; omega))
  subst g2
  rw [rounds_succ]
  go_wp2
  go_quiet (fail)
  go_wp2
  by_cases g1 : x1 = y1
  case neg =>
    have b1 : (x1 == y1) = false := by simpa using g1
    have n1 : (x1 != y1) = true := by simpa using g1
    rw [rounds_succ]
    go_wp2
    go_quiet (fail)
    go_wp2
    go_quiet (fail)
    go_wp2
    go_ret
    refine ⟨ret_bool (by unfold lessW; simp [*]), ?_⟩
    repeat' (first | (with_reducible exact Below.refl _ _) | (with_reducible refine K.drewN ?_ _) | (with_reducible refine K.drew ?_) | (with_reducible refine K.alloc ?_ _) | (with_reducible refine K.set ?_ ?_ _) | (simp; done) | (simp; omega))
  subst g1
  rw [rounds_succ]
  go_wp2
  go_quiet (fail)
  go_wp2
  by_cases g0 : x0 = y0
  case neg =>
    have b0 : (x0 == y0) = false := by simpa using g0
    have n0 : (x0 != y0) = true := by simpa using g0
    rw [rounds_succ]
    go_wp2
    go_quiet (fail)
    go_wp2
    go_quiet (fail)
    go_wp2
    go_ret
    refine ⟨ret_bool (by unfold lessW; simp [*]), ?_⟩
    repeat' (first | (with_reducible exact Below.refl _ _) | (with_reducible refine K.drewN ?_ _) | (with_reducible refine K.drew ?_) | (with_reducible refine K.alloc ?_ _) | (with_reducible refine K.set ?_ ?_ _) | (simp; done) | (simp; omega))
  subst g0
  rw [rounds_succ]
  go_wp2
  go_quiet (fail)
  go_wp2
  rw [rounds_succ]
  go_wp2
  go_ret
  refine ⟨ret_bool (by unfold lessW; simp), ?_⟩
  repeat' (first | (with_reducible exact Below.refl _ _) | (with_reducible refine K.drewN ?_ _) | (with_reducible refine K.drew ?_) | (with_reducible refine K.alloc ?_ _) | (with_reducible refine K.set ?_ ?_ _) | (simp; done) | (simp; omega))

theorem lessW_eq {a b : Int} (ha : Num a) (hb : Num b) : lessW (L 0 a) (L 1 a) (L 2 a) (L 3 a) (L 0 b) (L 1 b) (L 2 b) (L 3 b) = decide (a < b) := by
  obtain ⟨a1, a2⟩ := ha
  obtain ⟨b1, b2⟩ := hb
  rw [L0, L1, L2, L3, L0, L1, L2, L3]
  unfold lessW
  unfold M at *
  (repeat' split) <;> (first | (symm; rw [decide_eq_false_iff_not]; omega) | (rw [decide_eq_decide]; omega))
theorem less_any {a b : Int} (ha : Num a) (hb : Num b) (w : World) :
    Calls Tryd.prog 47 #[.agg #[.int .u64 (L 0 a), .int .u64 (L 1 a), .int .u64 (L 2 a), .int .u64 (L 3 a)], .agg #[.int .u64 (L 0 b), .int .u64 (L 1 b), .int .u64 (L 2 b), .int .u64 (L 3 b)]] w fun e w' => e = .returned (.bool (decide (a < b))) ∧ Below w.heap.size w w' := by
  rw [← lessW_eq ha hb]; exact less_walk _ _ _ _ _ _ _ _ w
theorem less_true {a b : Int} (ha : Num a) (hb : Num b) (h : a < b) (w : World) :
    Calls Tryd.prog 47 #[.agg #[.int .u64 (L 0 a), .int .u64 (L 1 a), .int .u64 (L 2 a), .int .u64 (L 3 a)], .agg #[.int .u64 (L 0 b), .int .u64 (L 1 b), .int .u64 (L 2 b), .int .u64 (L 3 b)]] w fun e w' => e = .returned (.bool true) ∧ Below w.heap.size w w' := by
  have g := less_any ha hb w
  rw [decide_eq_true h] at g
  exact g
theorem less_false {a b : Int} (ha : Num a) (hb : Num b) (h : ¬ a < b) (w : World) :
    Calls Tryd.prog 47 #[.agg #[.int .u64 (L 0 a), .int .u64 (L 1 a), .int .u64 (L 2 a), .int .u64 (L 3 a)], .agg #[.int .u64 (L 0 b), .int .u64 (L 1 b), .int .u64 (L 2 b), .int .u64 (L 3 b)]] w fun e w' => e = .returned (.bool false) ∧ Below w.heap.size w w' := by
  have g := less_any ha hb w
  rw [decide_eq_false h] at g
  exact g

end Go.Proofs.YtimaaendbfjblaaDoor
namespace Go.Proofs.YtimaaendbfjblaaDoor
open Go.RowKit
attribute [local go_sem ↓] Go.wp_at_zero Go.wp_at_succ

set_option maxHeartbeats 1000000 in
theorem ref_mod_0 (w : World) : Calls Tryd.prog 19 #[.int .i64 0] w fun e w' => e = .returned (.agg #[.int .u64 (L 0 (md 0)), .int .u64 (L 1 (md 0)), .int .u64 (L 2 (md 0)), .int .u64 (L 3 (md 0))]) ∧ Below w.heap.size w w' := by
  have e0 : L 0 (md 0) = 18446744073709551615 := by decide
  have e1 : L 1 (md 0) = 4294967295 := by decide
  have e2 : L 2 (md 0) = 0 := by decide
  have e3 : L 3 (md 0) = 18446744069414584321 := by decide
  rw [e0, e1, e2, e3]
  go_enter Tryd.func19, Tryd.ntmps19
  go_wp2
  go_returns
  refine ⟨rfl, ?_⟩
  go_grown
set_option maxHeartbeats 1000000 in
theorem ref_mod_1 (w : World) : Calls Tryd.prog 19 #[.int .i64 1] w fun e w' => e = .returned (.agg #[.int .u64 (L 0 (md 1)), .int .u64 (L 1 (md 1)), .int .u64 (L 2 (md 1)), .int .u64 (L 3 (md 1))]) ∧ Below w.heap.size w w' := by
  have e0 : L 0 (md 1) = 17562291160714782033 := by decide
  have e1 : L 1 (md 1) = 13611842547513532036 := by decide
  have e2 : L 2 (md 1) = 18446744073709551615 := by decide
  have e3 : L 3 (md 1) = 18446744069414584320 := by decide
  rw [e0, e1, e2, e3]
  go_enter Tryd.func19, Tryd.ntmps19
  go_wp2
  go_returns
  refine ⟨rfl, ?_⟩
  go_grown
set_option maxHeartbeats 1000000 in
theorem ref_mod_2 (w : World) : Calls Tryd.prog 19 #[.int .i64 2] w fun e w' => e = .returned (.agg #[.int .u64 (L 0 (md 2)), .int .u64 (L 1 (md 2)), .int .u64 (L 2 (md 2)), .int .u64 (L 3 (md 2))]) ∧ Below w.heap.size w w' := by
  have e0 : L 0 (md 2) = 18446744073709551597 := by decide
  have e1 : L 1 (md 2) = 18446744073709551615 := by decide
  have e2 : L 2 (md 2) = 18446744073709551615 := by decide
  have e3 : L 3 (md 2) = 9223372036854775807 := by decide
  rw [e0, e1, e2, e3]
  go_enter Tryd.func19, Tryd.ntmps19
  go_wp2
  go_returns
  refine ⟨rfl, ?_⟩
  go_grown
set_option maxHeartbeats 1000000 in
theorem ref_mod_3 (w : World) : Calls Tryd.prog 19 #[.int .i64 3] w fun e w' => e = .returned (.agg #[.int .u64 (L 0 (md 3)), .int .u64 (L 1 (md 3)), .int .u64 (L 2 (md 3)), .int .u64 (L 3 (md 3))]) ∧ Below w.heap.size w w' := by
  have e0 : L 0 (md 3) = 6346243789798364141 := by decide
  have e1 : L 1 (md 3) = 1503914060200516822 := by decide
  have e2 : L 2 (md 3) = 0 := by decide
  have e3 : L 3 (md 3) = 1152921504606846976 := by decide
  rw [e0, e1, e2, e3]
  go_enter Tryd.func19, Tryd.ntmps19
  go_wp2
  go_returns
  refine ⟨rfl, ?_⟩
  go_grown
set_option maxHeartbeats 1000000 in
theorem ref_mod_none (k : Int) (h : k < 0 ∨ 3 < k) (w : World) : Calls Tryd.prog 19 #[.int .i64 k] w fun e w' => e = .returned (.agg #[.int .u64 (L 0 (md k)), .int .u64 (L 1 (md k)), .int .u64 (L 2 (md k)), .int .u64 (L 3 (md k))]) ∧ Below w.heap.size w w' := by
  have e : md k = 0 := by unfold md; (repeat' split) <;> omega
  have z0 : L 0 0 = 0 := by decide
  have z1 : L 1 0 = 0 := by decide
  have z2 : L 2 0 = 0 := by decide
  have z3 : L 3 0 = 0 := by decide
  rw [e, z0, z1, z2, z3]
  have b0 : (k == 0) = false := beq_eq_false_iff_ne.2 (by omega)
  have b1 : (k == 1) = false := beq_eq_false_iff_ne.2 (by omega)
  have b2 : (k == 2) = false := beq_eq_false_iff_ne.2 (by omega)
  have b3 : (k == 3) = false := beq_eq_false_iff_ne.2 (by omega)
  clear h e z0 z1 z2 z3
  go_enter Tryd.func19, Tryd.ntmps19
  go_wp2
  go_returns
  refine ⟨rfl, ?_⟩
  go_grown
theorem ref_mod_any (k : Int) (w : World) : Calls Tryd.prog 19 #[.int .i64 k] w fun e w' => e = .returned (.agg #[.int .u64 (L 0 (md k)), .int .u64 (L 1 (md k)), .int .u64 (L 2 (md k)), .int .u64 (L 3 (md k))]) ∧ Below w.heap.size w w' := by
  have hk : k = 0 ∨ k = 1 ∨ k = 2 ∨ k = 3 ∨ (k < 0 ∨ 3 < k) := by omega
  rcases hk with rfl | rfl | rfl | rfl | hk
  · exact ref_mod_0 w
  · exact ref_mod_1 w
  · exact ref_mod_2 w
  · exact ref_mod_3 w
  · exact ref_mod_none k hk w


set_option maxHeartbeats 2000000 in
theorem below_walk {k a m : Int} {c : Int} {w : World}
    (H1 : Hid (∀ w1, Below w.heap.size w w1 → Calls Tryd.prog 55 #[.int .i64 k] w1 fun e w' => e = .returned (.agg #[.int .u64 (L 0 m), .int .u64 (L 1 m), .int .u64 (L 2 m), .int .u64 (L 3 m)]) ∧ Below w1.heap.size w1 w'))
    (H2 : Hid (∀ w, Calls Tryd.prog 54 #[.agg #[.int .u64 (L 0 a), .int .u64 (L 1 a), .int .u64 (L 2 a), .int .u64 (L 3 a)], .agg #[.int .u64 (L 0 m), .int .u64 (L 1 m), .int .u64 (L 2 m), .int .u64 (L 3 m)]] w fun e w' => e = .returned (.int .i64 c) ∧ Below w.heap.size w w')) :
    Calls Tryd.prog 29 #[.int .i64 k, .agg #[.int .u64 (L 0 a), .int .u64 (L 1 a), .int .u64 (L 2 a), .int .u64 (L 3 a)]] w fun e w' => e = .returned (.bool (decide (c < 0))) ∧ Below w.heap.size w w' := by
  have A1 := Arr.new w w.heap.size rfl 24 (L 0 a) (L 1 a) (L 2 a) (L 3 a)
  have hw : Below w.heap.size w (w.alloc (.cells #[.int .u64 (L 0 a), .int .u64 (L 1 a), .int .u64 (L 2 a), .int .u64 (L 3 a)] 24)) := K.alloc (Below.refl _ _) _
  go_enter Tryd.func29, Tryd.ntmps29
  go_wp2_with fail
  generalize w.alloc (.cells #[.int .u64 (L 0 a), .int .u64 (L 1 a), .int .u64 (L 2 a), .int .u64 (L 3 a)] 24) = W0 at *
  have ⟨ka, ka0, ka1, ka2, ka3⟩ := A1
  have hS : Hid (∀ w', Below W0.heap.size W0 w' → (Below W0.heap.size W0 w' ∧ w'.cell? ⟨w.heap.size, 0, none⟩ = some (.int .u64 (L 0 a)) ∧ w'.cell? ⟨w.heap.size, 1, none⟩ = some (.int .u64 (L 1 a)) ∧ w'.cell? ⟨w.heap.size, 2, none⟩ = some (.int .u64 (L 2 a)) ∧ w'.cell? ⟨w.heap.size, 3, none⟩ = some (.int .u64 (L 3 a)))) := fun w' hB => ⟨hB, later hB ka0, later hB ka1, later hB ka2, later hB ka3⟩
  clear ka ka0 ka1 ka2 ka3
  go_region_held3 (fun w' => Below W0.heap.size W0 w' ∧ w'.cell? ⟨w.heap.size, 0, none⟩ = some (.int .u64 (L 0 a)) ∧ w'.cell? ⟨w.heap.size, 1, none⟩ = some (.int .u64 (L 1 a)) ∧ w'.cell? ⟨w.heap.size, 2, none⟩ = some (.int .u64 (L 2 a)) ∧ w'.cell? ⟨w.heap.size, 3, none⟩ = some (.int .u64 (L 3 a)))
    ((refine hS.out _ ?_; first | (with_reducible exact K.drew (Below.refl _ _)) | (with_reducible exact K.drew (K.alloc (Below.refl _ _) _)) | (with_reducible exact Below.refl _ _) | (with_reducible exact K.call (by go_split_ands; assumption) hk) | (with_reducible exact K.alloc (by go_split_ands; assumption) _) | (with_reducible exact K.again (by go_split_ands; assumption) (by omega) _) | (with_reducible exact K.set (by go_split_ands; assumption) (by first | omega | (simp; done) | (simp; omega)) _) | (with_reducible exact K.set (K.set (K.set (K.set (by go_split_ands; assumption) (by first | omega | (simp; done) | (simp; omega)) _) (by first | omega | (simp; done) | (simp; omega)) _) (by first | omega | (simp; done) | (simp; omega)) _) (by first | omega | (simp; done) | (simp; omega)) _)))
    (first
      | (go_at_call 55; with_reducible refine Calls.mono (H1.out _ (K.call hw (by go_split_ands; with_reducible assumption))) ?_; rintro e w' ⟨rfl, hk⟩)
      | (go_at_call 54; with_reducible refine Calls.mono (H2.out _) ?_; rintro e w' ⟨rfl, hk⟩))
  all_goals
    have hH := ‹Below _ _ _ ∧ _›
    go_wp2_with fail
    go_ret
    exact ⟨ret_bool (by simp), K.call hw hH.1⟩

set_option maxHeartbeats 2000000 in
theorem refBelow_walk {k a m : Int} {c : Bool} {w : World}
    (H1 : Hid (∀ w1, Below w.heap.size w w1 → Calls Tryd.prog 19 #[.int .i64 k] w1 fun e w' => e = .returned (.agg #[.int .u64 (L 0 m), .int .u64 (L 1 m), .int .u64 (L 2 m), .int .u64 (L 3 m)]) ∧ Below w1.heap.size w1 w'))
    (H2 : Hid (∀ w, Calls Tryd.prog 47 #[.agg #[.int .u64 (L 0 a), .int .u64 (L 1 a), .int .u64 (L 2 a), .int .u64 (L 3 a)], .agg #[.int .u64 (L 0 m), .int .u64 (L 1 m), .int .u64 (L 2 m), .int .u64 (L 3 m)]] w fun e w' => e = .returned (.bool c) ∧ Below w.heap.size w w')) :
    Calls Tryd.prog 33 #[.int .i64 k, .agg #[.int .u64 (L 0 a), .int .u64 (L 1 a), .int .u64 (L 2 a), .int .u64 (L 3 a)]] w fun e w' => e = .returned (.bool c) ∧ Below w.heap.size w w' := by
  have A1 := Arr.new w w.heap.size rfl 24 (L 0 a) (L 1 a) (L 2 a) (L 3 a)
  have hw : Below w.heap.size w (w.alloc (.cells #[.int .u64 (L 0 a), .int .u64 (L 1 a), .int .u64 (L 2 a), .int .u64 (L 3 a)] 24)) := K.alloc (Below.refl _ _) _
  go_enter Tryd.func33, Tryd.ntmps33
  go_wp2_with fail
  generalize w.alloc (.cells #[.int .u64 (L 0 a), .int .u64 (L 1 a), .int .u64 (L 2 a), .int .u64 (L 3 a)] 24) = W0 at *
  have ⟨ka, ka0, ka1, ka2, ka3⟩ := A1
  have hS : Hid (∀ w', Below W0.heap.size W0 w' → (Below W0.heap.size W0 w' ∧ w'.cell? ⟨w.heap.size, 0, none⟩ = some (.int .u64 (L 0 a)) ∧ w'.cell? ⟨w.heap.size, 1, none⟩ = some (.int .u64 (L 1 a)) ∧ w'.cell? ⟨w.heap.size, 2, none⟩ = some (.int .u64 (L 2 a)) ∧ w'.cell? ⟨w.heap.size, 3, none⟩ = some (.int .u64 (L 3 a)))) := fun w' hB => ⟨hB, later hB ka0, later hB ka1, later hB ka2, later hB ka3⟩
  clear ka ka0 ka1 ka2 ka3
  go_region_held3 (fun w' => Below W0.heap.size W0 w' ∧ w'.cell? ⟨w.heap.size, 0, none⟩ = some (.int .u64 (L 0 a)) ∧ w'.cell? ⟨w.heap.size, 1, none⟩ = some (.int .u64 (L 1 a)) ∧ w'.cell? ⟨w.heap.size, 2, none⟩ = some (.int .u64 (L 2 a)) ∧ w'.cell? ⟨w.heap.size, 3, none⟩ = some (.int .u64 (L 3 a)))
    ((refine hS.out _ ?_; first | (with_reducible exact K.drew (Below.refl _ _)) | (with_reducible exact K.drew (K.alloc (Below.refl _ _) _)) | (with_reducible exact Below.refl _ _) | (with_reducible exact K.call (by go_split_ands; assumption) hk) | (with_reducible exact K.alloc (by go_split_ands; assumption) _) | (with_reducible exact K.again (by go_split_ands; assumption) (by omega) _) | (with_reducible exact K.set (by go_split_ands; assumption) (by first | omega | (simp; done) | (simp; omega)) _) | (with_reducible exact K.set (K.set (K.set (K.set (by go_split_ands; assumption) (by first | omega | (simp; done) | (simp; omega)) _) (by first | omega | (simp; done) | (simp; omega)) _) (by first | omega | (simp; done) | (simp; omega)) _) (by first | omega | (simp; done) | (simp; omega)) _)))
    (first
      | (go_at_call 19; with_reducible refine Calls.mono (H1.out _ (K.call hw (by go_split_ands; with_reducible assumption))) ?_; rintro e w' ⟨rfl, hk⟩)
      | (go_at_call 47; with_reducible refine Calls.mono (H2.out _) ?_; rintro e w' ⟨rfl, hk⟩))
  all_goals
    have hH := ‹Below _ _ _ ∧ _›
    go_wp2_with fail
    go_ret
    exact ⟨rfl, K.call hw hH.1⟩

theorem cmp_neg (a m : Int) : decide (cmp a m < 0) = decide (a < m) := by
  unfold cmp
  by_cases h : a < m
  · rw [if_pos h]; simp [h]
  · rw [if_neg h]; split <;> simp [h]
theorem below_any {k a : Int} (ha : Num a) {w : World} (hT : Tab w) :
    Calls Tryd.prog 29 #[.int .i64 k, .agg #[.int .u64 (L 0 a), .int .u64 (L 1 a), .int .u64 (L 2 a), .int .u64 (L 3 a)]] w fun e w' => e = .returned (.bool (decide (a < md k))) ∧ Below w.heap.size w w' := by
  have h := below_walk (k := k) (a := a) (m := md k) (c := cmp a (md k)) (w := w) (fun w1 hb => f_mod k (hT.keep hb)) (fun w => cmp_any ha (md_num k) w)
  rw [cmp_neg] at h
  exact h
theorem refBelow_any {k a : Int} (ha : Num a) (w : World) :
    Calls Tryd.prog 33 #[.int .i64 k, .agg #[.int .u64 (L 0 a), .int .u64 (L 1 a), .int .u64 (L 2 a), .int .u64 (L 3 a)]] w fun e w' => e = .returned (.bool (decide (a < md k))) ∧ Below w.heap.size w w' :=
  refBelow_walk (fun w1 _ => ref_mod_any k w1) (fun w => less_any ha (md_num k) w)
end Go.Proofs.YtimaaendbfjblaaDoor
namespace Go.Proofs.YtimaaendbfjblaaDoor
open Go.RowKit

theorem r_below {a : Int} (ha : Num a) {t : Bool} (ht : decide (a < md 0) = t) {w : World} : Calls Tryd.prog 33 [.int .i64 0, .agg (nc a).toArray].toArray w fun e w' => e = .returned (.bool t) ∧ Below w.heap.size w w' := by
  rw [← ht]
  exact refBelow_any ha w
theorem fin_lt (x : Fin m0) : decide ((x.val : Int) < md 0) = true := by
  rw [md_m0]
  have := x.isLt
  exact decide_eq_true (by omega)
/-- Two points are held against each other, number by number. -/
theorem fields26 : Tryd.prog.fieldsOf 26 = #[{ name := "X", type := 24, offset := 0, embedded := false, tag := "", pkgPath := "", byteOffset := 0 }, { name := "Y", type := 24, offset := 4, embedded := false, tag := "", pkgPath := "", byteOffset := 32 }, { name := "None", type := 4, offset := 8, embedded := false, tag := "", pkgPath := "", byteOffset := 64 }] := by kernel_rfl
theorem isAgg24 (w : World) : (isAgg 24).run Tryd.prog w = .ok true w := by
  unfold isAgg
  rw [Sem.run_bind, run_underlying Tryd.underlying24 w]
  rfl
theorem isAgg4 (w : World) : (isAgg 4).run Tryd.prog w = .ok false w := by
  unfold isAgg
  rw [Sem.run_bind, run_underlying Tryd.underlying4 w]
  rfl
theorem size24 (w : World) : (sizeOf 24).run Tryd.prog w = .ok 4 w := by
  have h := i24
  cases hq : Tryd.prog.info? 24 with
  | none => rw [hq] at h; cases h
  | some i =>
    rw [hq] at h
    simp at h
    simp [sizeOf, typeInfo, hq, h]
theorem its_cons (xs ys : Array Value) (j : Nat) (js : List Nat) (x y : Int) (r : Bool) (hx : xs[j]? = some (.int .u64 x)) (hy : ys[j]? = some (.int .u64 y)) (w : World)
    (h : (Op.eqItems 9998 22 1 xs ys js).run Tryd.prog w = .ok r w) : (Op.eqItems 9998 22 1 xs ys (j :: js)).run Tryd.prog w = .ok (x == y && r) w := by
  have he : Tryd.prog.plainKey 22 = true := by kernel_rfl
  simp only [Op.eqItems, Sem.run_bind, Nat.mul_one, run_part_plain w he hx, run_part_plain w he hy, Result.andThen_ok, run_equalIn_int w 9997 22 .u64 .u64 x y Tryd.underlying22]
  cases x == y <;> simp [h]
theorem eq_in {a b : Int} (ha : Num a) (hb : Num b) (w : World) : (Op.equalIn 9999 24 (.agg (nc a).toArray) (.agg (nc b).toArray)).run Tryd.prog w = .ok (decide (a = b)) w := by
  rw [← nc_eq ha hb]
  obtain ⟨i, hi⟩ := Option.isSome_iff_exists.1 (show (Tryd.prog.info? 22).isSome = true by kernel_rfl)
  rw [run_equalIn_array w 9998 _ _ Tryd.underlying24 hi]
  have hc : Tryd.prog.cellsOf 22 = 1 := by kernel_rfl
  have r4 : List.range 4 = [0, 1, 2, 3] := rfl
  rw [hc, r4]
  exact its_cons _ _ 0 _ _ _ _ rfl rfl w (its_cons _ _ 1 _ _ _ _ rfl rfl w (its_cons _ _ 2 _ _ _ _ rfl rfl w (its_cons _ _ 3 _ _ _ _ rfl rfl w rfl)))
theorem eqf_cons {dd : Nat} {xs ys : Array Value} {f : Field} {fs : List Field} {a b : Value} {r s : Bool} {w : World} (hn : f.name ≠ "_") (h1 : (part f.type xs f.offset).run Tryd.prog w = .ok a w) (h2 : (part f.type ys f.offset).run Tryd.prog w = .ok b w) (h3 : (Op.equalIn dd f.type a b).run Tryd.prog w = .ok r w) (h4 : (Op.eqFields dd xs ys fs).run Tryd.prog w = .ok s w) : (Op.eqFields dd xs ys (f :: fs)).run Tryd.prog w = .ok (r && s) w := by
  rw [Op.eqFields, if_pos hn]
  simp only [Sem.run_bind, h1, h2, h3, Result.andThen_ok]
  cases r
  · rfl
  · exact h4
theorem eq_pt {a b c d : Int} (ha : Num a) (hb : Num b) (hc : Num c) (hd : Num d) (s t : Bool) (w : World) : (Op.equalIn 10000 26 (.agg (nc a ++ nc b ++ [Value.bool s]).toArray) (.agg (nc c ++ nc d ++ [Value.bool t]).toArray)).run Tryd.prog w = .ok (decide (a = c ∧ b = d ∧ s = t)) w := by
  have e1 : ∀ w, (part 24 (nc a ++ nc b ++ [Value.bool s]).toArray 0).run Tryd.prog w = .ok (.agg (nc a).toArray) w := fun w => by unfold part; simp only [Sem.run_bind, isAgg24, Result.andThen_ok, if_true, size24, Sem.run_pure]; rfl
  have e2 : ∀ w, (part 24 (nc c ++ nc d ++ [Value.bool t]).toArray 0).run Tryd.prog w = .ok (.agg (nc c).toArray) w := fun w => by unfold part; simp only [Sem.run_bind, isAgg24, Result.andThen_ok, if_true, size24, Sem.run_pure]; rfl
  have e3 : ∀ w, (part 24 (nc a ++ nc b ++ [Value.bool s]).toArray 4).run Tryd.prog w = .ok (.agg (nc b).toArray) w := fun w => by unfold part; simp only [Sem.run_bind, isAgg24, Result.andThen_ok, if_true, size24, Sem.run_pure]; rfl
  have e4 : ∀ w, (part 24 (nc c ++ nc d ++ [Value.bool t]).toArray 4).run Tryd.prog w = .ok (.agg (nc d).toArray) w := fun w => by unfold part; simp only [Sem.run_bind, isAgg24, Result.andThen_ok, if_true, size24, Sem.run_pure]; rfl
  have e5 : ∀ w, (part 4 (nc a ++ nc b ++ [Value.bool s]).toArray 8).run Tryd.prog w = .ok (.bool s) w := fun w => by unfold part; simp only [Sem.run_bind, isAgg4, Result.andThen_ok, Bool.false_eq_true, if_false]; rfl
  have e6 : ∀ w, (part 4 (nc c ++ nc d ++ [Value.bool t]).toArray 8).run Tryd.prog w = .ok (.bool t) w := fun w => by unfold part; simp only [Sem.run_bind, isAgg4, Result.andThen_ok, Bool.false_eq_true, if_false]; rfl
  have hf : Tryd.prog.underlying 26 = some (.struct (Tryd.prog.fieldsOf 26)) := by rw [fields26]; exact Tryd.underlying26
  rw [run_equalIn_struct w 9999 26 _ _ hf Tryd.stoodInHeld26, fields26]
  have hb' := fun w => run_equalIn_bool' (P := Tryd.prog) w 9998 4 s t Tryd.underlying4
  refine Eq.trans (eqf_cons (by decide) (e1 w) (e2 w) (eq_in ha hc w) (eqf_cons (by decide) (e3 w) (e4 w) (eq_in hb hd w) (eqf_cons (by decide) (e5 w) (e6 w) (hb' w) rfl))) ?_
  congr 1
  by_cases h1 : a = c
  · by_cases h2 : b = d
    · subst h1 h2
      cases s <;> cases t <;> simp
    · simp [h2]
  · simp [h1]
/-- The neutral point's numbers. -/
theorem eq_none {a b : Int} (ha : Num a) (hb : Num b) (w : World) : (Op.equalIn 10000 26 (.agg (nc a ++ nc b ++ [Value.bool true]).toArray) (.agg (nz ++ nz ++ [Value.bool true]).toArray)).run Tryd.prog w = .ok (decide (a = 0 ∧ b = 0)) w := by
  have h := eq_pt ha hb (c := 0) (d := 0) ⟨by decide, by decide⟩ ⟨by decide, by decide⟩ true true w
  rw [← nz_nc] at h
  rw [h]
  simp
set_option maxRecDepth 100000 in
set_option maxHeartbeats 4000000 in
theorem r_formed_none {w : World} {X Y : Int} (hX : Num X) (hY : Num Y) : Calls Tryd.prog 11 [.agg (nc (X) ++ nc (Y) ++ [Value.bool true]).toArray].toArray w fun e w' => e = .returned (.bool (decide (X = 0 ∧ Y = 0))) ∧ Below w.heap.size w w' := by
  refine enter (args := [.agg (nc (X) ++ nc (Y) ++ [Value.bool true]).toArray]) Tryd.func11 rfl 40 rfl (lk rfl) (fun a h => ?_)
  refine go_region h hm [eN 1 (nc (X) ++ nc (Y) ++ [Value.bool true]), eS 2 (.val (Value.bool false))] (by kernel_rfl) ⟨
    fun L u => u_box u (gd0 rfl) 26 (.tmp 0) rfl 1 rfl rfl rfl _ rfl,
    fun L u => u_move u (gd0 rfl) 2 rfl (.const (.bool false)) (Or.inr rfl) rfl,
    trivial⟩ [(1, .ptr 1 0)] [(1, nc (X) ++ nc (Y) ++ [Value.bool true])] ⟨rfl, trivial⟩ ⟨rfl, trivial⟩ rfl (fun a w h => ?_)
  refine wp_seq ?_
  refine go_region h hm [eS 4 (.ptr 1 8), eS 5 (.val (Value.bool true))] (by kernel_rfl) ⟨
    fun L u => u_field u (gd0 rfl) 4 rfl 26 (.tmp 1) 2 rfl rfl rfl Tryd.underlying26 rfl i4 _ rfl,
    fun L u => u_load1 u (gd0 rfl) 5 rfl 4 (.tmp 4) rfl rfl rfl Tryd.underlying4 rfl _ rfl,
    trivial⟩ [(1, .ptr 1 0), (5, .val (Value.bool true))] [(1, nc (X) ++ nc (Y) ++ [Value.bool true])] ⟨rfl, rfl, trivial⟩ ⟨rfl, trivial⟩ rfl (fun a w h => ?_)
  refine go_cond h true rfl (fun ht => ?_) (fun hf => ?_)
  case refine_2 => cases hf
  refine go_region h hm [eS 6 (.val (.agg (nc (X) ++ nc (Y) ++ [Value.bool true]).toArray)), eS 7 (.val (.agg (nz ++ nz ++ [Value.bool true]).toArray)), eS 8 (.val (Value.bool (decide (X = 0 ∧ Y = 0)))), eS 2 (.val (Value.bool (decide (X = 0 ∧ Y = 0))))] (by kernel_rfl) ⟨
    fun L u => u_load u (gd0 rfl) 6 rfl 26 (.tmp 1) rfl rfl rfl Tryd.underlying26 rfl i26 (lk rfl) _ rfl,
    fun L u => u_call u (gd0 rfl) 7 rfl 32 #[] #[] rfl [] rfl (cE32 _) (.agg (nz ++ nz ++ [Value.bool true]).toArray) (fun w hb => r_None),
    fun L u => u_eql u (gd0 rfl) 8 rfl 26 26 (.tmp 6) (.tmp 7) rfl rfl rfl Tryd.eqGuardType26 (decide (X = 0 ∧ Y = 0)) (fun w => eq_none hX hY w),
    fun L u => u_move u (gd0 rfl) 2 rfl (.tmp 8) (Or.inr rfl) rfl,
    trivial⟩ [(2, .val (Value.bool (decide (X = 0 ∧ Y = 0))))] [] ⟨rfl, trivial⟩ trivial rfl (fun a w h => ?_)
  refine wp_ret ?_
  refine then_ret ?_
  refine ret_slot h 2 rfl (lk rfl) (Value.bool (decide (X = 0 ∧ Y = 0))) rfl ?_
  exact ⟨rfl, h.grows⟩
set_option maxRecDepth 100000 in
set_option maxHeartbeats 4000000 in
theorem r_formed_x {w : World} {X Y : Int} (hX : Num X) (bX : decide (X < md 0) = false) : Calls Tryd.prog 11 [.agg (nc (X) ++ nc (Y) ++ [Value.bool false]).toArray].toArray w fun e w' => e = .returned (.bool false) ∧ Below w.heap.size w w' := by
  refine enter (args := [.agg (nc (X) ++ nc (Y) ++ [Value.bool false]).toArray]) Tryd.func11 rfl 40 rfl (lk rfl) (fun a h => ?_)
  refine go_region h hm [eN 1 (nc (X) ++ nc (Y) ++ [Value.bool false]), eS 2 (.val (Value.bool false))] (by kernel_rfl) ⟨
    fun L u => u_box u (gd0 rfl) 26 (.tmp 0) rfl 1 rfl rfl rfl _ rfl,
    fun L u => u_move u (gd0 rfl) 2 rfl (.const (.bool false)) (Or.inr rfl) rfl,
    trivial⟩ [(1, .ptr 1 0)] [(1, nc (X) ++ nc (Y) ++ [Value.bool false])] ⟨rfl, trivial⟩ ⟨rfl, trivial⟩ rfl (fun a w h => ?_)
  refine wp_seq ?_
  refine go_region h hm [eS 4 (.ptr 1 8), eS 5 (.val (Value.bool false))] (by kernel_rfl) ⟨
    fun L u => u_field u (gd0 rfl) 4 rfl 26 (.tmp 1) 2 rfl rfl rfl Tryd.underlying26 rfl i4 _ rfl,
    fun L u => u_load1 u (gd0 rfl) 5 rfl 4 (.tmp 4) rfl rfl rfl Tryd.underlying4 rfl _ rfl,
    trivial⟩ [(1, .ptr 1 0), (5, .val (Value.bool false))] [(1, nc (X) ++ nc (Y) ++ [Value.bool false])] ⟨rfl, rfl, trivial⟩ ⟨rfl, trivial⟩ rfl (fun a w h => ?_)
  refine go_cond h false rfl (fun ht => ?_) (fun hf => ?_)
  case refine_1 => cases ht
  refine wp_skip ?_
  refine then_norm ?_
  refine wp_seq ?_
  refine go_region h hm [eS 9 (.ptr 1 0), eS 10 (.val (.agg (nc (X)).toArray)), eS 11 (.val (Value.bool false)), eS 12 (.val (Value.bool true)), eS 13 (.val (Value.bool true)), eS 14 (.val undef), eS 15 (.val undef), eS 16 (.val undef), eS 17 (.val undef), eS 18 (.val (Value.bool true))] (by kernel_rfl) ⟨
    fun L u => u_field u (gd0 rfl) 9 rfl 26 (.tmp 1) 0 rfl rfl rfl Tryd.underlying26 rfl i24 _ rfl,
    fun L u => u_load u (gd0 rfl) 10 rfl 24 (.tmp 9) rfl rfl rfl Tryd.underlying24 rfl i24 (lk rfl) _ rfl,
    fun L u => u_call u (gd0 rfl) 11 rfl 33 #[(.const (.int .i64 0)), (.tmp 10)] #[3, 24] rfl [(Value.int IntKind.i64 0), .agg (nc (X)).toArray] rfl (cE33 _) (Value.bool false) (fun w hb => r_below hX bX),
    fun L u => u_not u (gd0 rfl) 12 rfl 4 (.tmp 11) rfl rfl _ rfl,
    fun L u => u_move u (gd0 rfl) 13 rfl (.tmp 12) (Or.inl rfl) rfl,
    fun L u => u_no u 4 false rfl 13 rfl (lk rfl) rfl 14 rfl,
    fun L u => u_no u 4 false rfl 13 rfl (lk rfl) rfl 15 rfl,
    fun L u => u_no u 4 false rfl 13 rfl (lk rfl) rfl 16 rfl,
    fun L u => u_no u 4 false rfl 13 rfl (lk rfl) rfl 17 rfl,
    fun L u => u_pick u (gd0 rfl) 18 rfl (.tmp 13) (.const (.bool true)) (.tmp 17) rfl rfl rfl rfl _ rfl,
    trivial⟩ [(1, .ptr 1 0), (18, .val (Value.bool true))] [(1, nc (X) ++ nc (Y) ++ [Value.bool false])] ⟨rfl, rfl, trivial⟩ ⟨rfl, trivial⟩ rfl (fun a w h => ?_)
  refine go_cond h true rfl (fun ht => ?_) (fun hf => ?_)
  case refine_2 => cases hf
  refine go_region h hm [eS 2 (.val (Value.bool false))] (by kernel_rfl) ⟨
    fun L u => u_move u (gd0 rfl) 2 rfl (.const (.bool false)) (Or.inr rfl) rfl,
    trivial⟩ [(2, .val (Value.bool false))] [] ⟨rfl, trivial⟩ trivial rfl (fun a w h => ?_)
  refine wp_ret ?_
  refine then_ret ?_
  refine ret_slot h 2 rfl (lk rfl) (Value.bool false) rfl ?_
  exact ⟨rfl, h.grows⟩
set_option maxRecDepth 100000 in
set_option maxHeartbeats 4000000 in
theorem r_formed_y {w : World} {X Y : Int} (hX : Num X) (bX : decide (X < md 0) = true) (hY : Num Y) (bY : decide (Y < md 0) = false) : Calls Tryd.prog 11 [.agg (nc (X) ++ nc (Y) ++ [Value.bool false]).toArray].toArray w fun e w' => e = .returned (.bool false) ∧ Below w.heap.size w w' := by
  refine enter (args := [.agg (nc (X) ++ nc (Y) ++ [Value.bool false]).toArray]) Tryd.func11 rfl 40 rfl (lk rfl) (fun a h => ?_)
  refine go_region h hm [eN 1 (nc (X) ++ nc (Y) ++ [Value.bool false]), eS 2 (.val (Value.bool false))] (by kernel_rfl) ⟨
    fun L u => u_box u (gd0 rfl) 26 (.tmp 0) rfl 1 rfl rfl rfl _ rfl,
    fun L u => u_move u (gd0 rfl) 2 rfl (.const (.bool false)) (Or.inr rfl) rfl,
    trivial⟩ [(1, .ptr 1 0)] [(1, nc (X) ++ nc (Y) ++ [Value.bool false])] ⟨rfl, trivial⟩ ⟨rfl, trivial⟩ rfl (fun a w h => ?_)
  refine wp_seq ?_
  refine go_region h hm [eS 4 (.ptr 1 8), eS 5 (.val (Value.bool false))] (by kernel_rfl) ⟨
    fun L u => u_field u (gd0 rfl) 4 rfl 26 (.tmp 1) 2 rfl rfl rfl Tryd.underlying26 rfl i4 _ rfl,
    fun L u => u_load1 u (gd0 rfl) 5 rfl 4 (.tmp 4) rfl rfl rfl Tryd.underlying4 rfl _ rfl,
    trivial⟩ [(1, .ptr 1 0), (5, .val (Value.bool false))] [(1, nc (X) ++ nc (Y) ++ [Value.bool false])] ⟨rfl, rfl, trivial⟩ ⟨rfl, trivial⟩ rfl (fun a w h => ?_)
  refine go_cond h false rfl (fun ht => ?_) (fun hf => ?_)
  case refine_1 => cases ht
  refine wp_skip ?_
  refine then_norm ?_
  refine wp_seq ?_
  refine go_region h hm [eS 9 (.ptr 1 0), eS 10 (.val (.agg (nc (X)).toArray)), eS 11 (.val (Value.bool true)), eS 12 (.val (Value.bool false)), eS 13 (.val (Value.bool false)), eS 14 (.ptr 1 4), eS 15 (.val (.agg (nc (Y)).toArray)), eS 16 (.val (Value.bool false)), eS 17 (.val (Value.bool true)), eS 18 (.val (Value.bool true))] (by kernel_rfl) ⟨
    fun L u => u_field u (gd0 rfl) 9 rfl 26 (.tmp 1) 0 rfl rfl rfl Tryd.underlying26 rfl i24 _ rfl,
    fun L u => u_load u (gd0 rfl) 10 rfl 24 (.tmp 9) rfl rfl rfl Tryd.underlying24 rfl i24 (lk rfl) _ rfl,
    fun L u => u_call u (gd0 rfl) 11 rfl 33 #[(.const (.int .i64 0)), (.tmp 10)] #[3, 24] rfl [(Value.int IntKind.i64 0), .agg (nc (X)).toArray] rfl (cE33 _) (Value.bool true) (fun w hb => r_below hX bX),
    fun L u => u_not u (gd0 rfl) 12 rfl 4 (.tmp 11) rfl rfl _ rfl,
    fun L u => u_move u (gd0 rfl) 13 rfl (.tmp 12) (Or.inl rfl) rfl,
    fun L u => u_field u (gd1 u 4 false rfl 13 rfl (lk rfl) rfl) 14 rfl 26 (.tmp 1) 1 rfl rfl rfl Tryd.underlying26 rfl i24 _ rfl,
    fun L u => u_load u (gd1 u 4 false rfl 13 rfl (lk rfl) rfl) 15 rfl 24 (.tmp 14) rfl rfl rfl Tryd.underlying24 rfl i24 (lk rfl) _ rfl,
    fun L u => u_call u (gd1 u 4 false rfl 13 rfl (lk rfl) rfl) 16 rfl 33 #[(.const (.int .i64 0)), (.tmp 15)] #[3, 24] rfl [(Value.int IntKind.i64 0), .agg (nc (Y)).toArray] rfl (cE33 _) (Value.bool false) (fun w hb => r_below hY bY),
    fun L u => u_not u (gd1 u 4 false rfl 13 rfl (lk rfl) rfl) 17 rfl 4 (.tmp 16) rfl rfl _ rfl,
    fun L u => u_pick u (gd0 rfl) 18 rfl (.tmp 13) (.const (.bool true)) (.tmp 17) rfl rfl rfl rfl _ rfl,
    trivial⟩ [(1, .ptr 1 0), (18, .val (Value.bool true))] [(1, nc (X) ++ nc (Y) ++ [Value.bool false])] ⟨rfl, rfl, trivial⟩ ⟨rfl, trivial⟩ rfl (fun a w h => ?_)
  refine go_cond h true rfl (fun ht => ?_) (fun hf => ?_)
  case refine_2 => cases hf
  refine go_region h hm [eS 2 (.val (Value.bool false))] (by kernel_rfl) ⟨
    fun L u => u_move u (gd0 rfl) 2 rfl (.const (.bool false)) (Or.inr rfl) rfl,
    trivial⟩ [(2, .val (Value.bool false))] [] ⟨rfl, trivial⟩ trivial rfl (fun a w h => ?_)
  refine wp_ret ?_
  refine then_ret ?_
  refine ret_slot h 2 rfl (lk rfl) (Value.bool false) rfl ?_
  exact ⟨rfl, h.grows⟩
set_option maxRecDepth 100000 in
set_option maxHeartbeats 4000000 in
theorem r_formed_at {w : World} (hT : Tab w) (x y : Fin m0) : Calls Tryd.prog 11 [.agg (fc (x) ++ fc (y) ++ [Value.bool false]).toArray].toArray w fun e w' => e = .returned (.bool (decide (y * y = x * (x * x) - tmN x 3 + wb))) ∧ Below w.heap.size w w' := by
  refine enter (args := [.agg (fc (x) ++ fc (y) ++ [Value.bool false]).toArray]) Tryd.func11 rfl 40 rfl (lk rfl) (fun a h => ?_)
  refine go_region h hm [eN 1 (fc (x) ++ fc (y) ++ [Value.bool false]), eS 2 (.val (Value.bool false))] (by kernel_rfl) ⟨
    fun L u => u_box u (gd0 rfl) 26 (.tmp 0) rfl 1 rfl rfl rfl _ rfl,
    fun L u => u_move u (gd0 rfl) 2 rfl (.const (.bool false)) (Or.inr rfl) rfl,
    trivial⟩ [(1, .ptr 1 0)] [(1, fc (x) ++ fc (y) ++ [Value.bool false])] ⟨rfl, trivial⟩ ⟨rfl, trivial⟩ rfl (fun a w h => ?_)
  refine wp_seq ?_
  refine go_region h hm [eS 4 (.ptr 1 8), eS 5 (.val (Value.bool false))] (by kernel_rfl) ⟨
    fun L u => u_field u (gd0 rfl) 4 rfl 26 (.tmp 1) 2 rfl rfl rfl Tryd.underlying26 rfl i4 _ rfl,
    fun L u => u_load1 u (gd0 rfl) 5 rfl 4 (.tmp 4) rfl rfl rfl Tryd.underlying4 rfl _ rfl,
    trivial⟩ [(1, .ptr 1 0), (5, .val (Value.bool false))] [(1, fc (x) ++ fc (y) ++ [Value.bool false])] ⟨rfl, rfl, trivial⟩ ⟨rfl, trivial⟩ rfl (fun a w h => ?_)
  refine go_cond h false rfl (fun ht => ?_) (fun hf => ?_)
  case refine_1 => cases ht
  refine wp_skip ?_
  refine then_norm ?_
  refine wp_seq ?_
  refine go_region h hm [eS 9 (.ptr 1 0), eS 10 (.val (.agg (fc (x)).toArray)), eS 11 (.val (Value.bool true)), eS 12 (.val (Value.bool false)), eS 13 (.val (Value.bool false)), eS 14 (.ptr 1 4), eS 15 (.val (.agg (fc (y)).toArray)), eS 16 (.val (Value.bool true)), eS 17 (.val (Value.bool false)), eS 18 (.val (Value.bool false))] (by kernel_rfl) ⟨
    fun L u => u_field u (gd0 rfl) 9 rfl 26 (.tmp 1) 0 rfl rfl rfl Tryd.underlying26 rfl i24 _ rfl,
    fun L u => u_load u (gd0 rfl) 10 rfl 24 (.tmp 9) rfl rfl rfl Tryd.underlying24 rfl i24 (lk rfl) _ rfl,
    fun L u => u_call u (gd0 rfl) 11 rfl 33 #[(.const (.int .i64 0)), (.tmp 10)] #[3, 24] rfl [(Value.int IntKind.i64 0), .agg (fc (x)).toArray] rfl (cE33 _) (Value.bool true) (fun w hb => r_below (fin_num _) (fin_lt _)),
    fun L u => u_not u (gd0 rfl) 12 rfl 4 (.tmp 11) rfl rfl _ rfl,
    fun L u => u_move u (gd0 rfl) 13 rfl (.tmp 12) (Or.inl rfl) rfl,
    fun L u => u_field u (gd1 u 4 false rfl 13 rfl (lk rfl) rfl) 14 rfl 26 (.tmp 1) 1 rfl rfl rfl Tryd.underlying26 rfl i24 _ rfl,
    fun L u => u_load u (gd1 u 4 false rfl 13 rfl (lk rfl) rfl) 15 rfl 24 (.tmp 14) rfl rfl rfl Tryd.underlying24 rfl i24 (lk rfl) _ rfl,
    fun L u => u_call u (gd1 u 4 false rfl 13 rfl (lk rfl) rfl) 16 rfl 33 #[(.const (.int .i64 0)), (.tmp 15)] #[3, 24] rfl [(Value.int IntKind.i64 0), .agg (fc (y)).toArray] rfl (cE33 _) (Value.bool true) (fun w hb => r_below (fin_num _) (fin_lt _)),
    fun L u => u_not u (gd1 u 4 false rfl 13 rfl (lk rfl) rfl) 17 rfl 4 (.tmp 16) rfl rfl _ rfl,
    fun L u => u_pick u (gd0 rfl) 18 rfl (.tmp 13) (.const (.bool true)) (.tmp 17) rfl rfl rfl rfl _ rfl,
    trivial⟩ [(1, .ptr 1 0), (18, .val (Value.bool false))] [(1, fc (x) ++ fc (y) ++ [Value.bool false])] ⟨rfl, rfl, trivial⟩ ⟨rfl, trivial⟩ rfl (fun a w h => ?_)
  refine go_cond h false rfl (fun ht => ?_) (fun hf => ?_)
  case refine_1 => cases ht
  refine wp_skip ?_
  refine then_norm ?_
  refine go_region h hm [eS 19 (.ptr 1 0), eS 20 (.val (.agg (fc (x)).toArray)), eS 21 (.ptr 1 0), eS 22 (.val (.agg (fc (x)).toArray)), eS 23 (.ptr 1 0), eS 24 (.val (.agg (fc (x)).toArray)), eS 25 (.val (.agg (fc ((x) * (x))).toArray)), eS 26 (.val (.agg (fc ((x) * ((x) * (x)))).toArray)), eS 27 (.ptr 1 0), eS 28 (.val (.agg (fc (x)).toArray)), eS 29 (.val (.agg (fc (tmN (x) 3)).toArray)), eS 30 (.val (.agg (fc (((x) * ((x) * (x))) - (tmN (x) 3))).toArray)), eS 31 (.val (.agg (fc (wb)).toArray)), eS 32 (.val (.agg (fc ((((x) * ((x) * (x))) - (tmN (x) 3)) + (wb))).toArray)), eN 3 (nz), eM 3 (fc ((((x) * ((x) * (x))) - (tmN (x) 3)) + (wb)))] (by kernel_rfl) ⟨
    fun L u => u_field u (gd0 rfl) 19 rfl 26 (.tmp 1) 0 rfl rfl rfl Tryd.underlying26 rfl i24 _ rfl,
    fun L u => u_load u (gd0 rfl) 20 rfl 24 (.tmp 19) rfl rfl rfl Tryd.underlying24 rfl i24 (lk rfl) _ rfl,
    fun L u => u_field u (gd0 rfl) 21 rfl 26 (.tmp 1) 0 rfl rfl rfl Tryd.underlying26 rfl i24 _ rfl,
    fun L u => u_load u (gd0 rfl) 22 rfl 24 (.tmp 21) rfl rfl rfl Tryd.underlying24 rfl i24 (lk rfl) _ rfl,
    fun L u => u_field u (gd0 rfl) 23 rfl 26 (.tmp 1) 0 rfl rfl rfl Tryd.underlying26 rfl i24 _ rfl,
    fun L u => u_load u (gd0 rfl) 24 rfl 24 (.tmp 23) rfl rfl rfl Tryd.underlying24 rfl i24 (lk rfl) _ rfl,
    fun L u => u_call u (gd0 rfl) 25 rfl 36 #[(.tmp 22), (.tmp 24)] #[24, 24] rfl [.agg (fc (x)).toArray, .agg (fc (x)).toArray] rfl (cE36 _) (.agg (fc ((x) * (x))).toArray) (fun w hb => r_mul (hT.keep (Bs.kp_of hb)) _ _),
    fun L u => u_call u (gd0 rfl) 26 rfl 36 #[(.tmp 20), (.tmp 25)] #[24, 24] rfl [.agg (fc (x)).toArray, .agg (fc ((x) * (x))).toArray] rfl (cE36 _) (.agg (fc ((x) * ((x) * (x)))).toArray) (fun w hb => r_mul (hT.keep (Bs.kp_of hb)) _ _),
    fun L u => u_field u (gd0 rfl) 27 rfl 26 (.tmp 1) 0 rfl rfl rfl Tryd.underlying26 rfl i24 _ rfl,
    fun L u => u_load u (gd0 rfl) 28 rfl 24 (.tmp 27) rfl rfl rfl Tryd.underlying24 rfl i24 (lk rfl) _ rfl,
    fun L u => u_call u (gd0 rfl) 29 rfl 37 #[(.const (.int .i64 3)), (.tmp 28)] #[3, 24] rfl [(Value.int IntKind.i64 3), .agg (fc (x)).toArray] rfl (cE37 _) (.agg (fc (tmN (x) 3)).toArray) (fun w hb => r_times (hT.keep (Bs.kp_of hb)) _ 3 (by decide)),
    fun L u => u_call u (gd0 rfl) 30 rfl 35 #[(.tmp 26), (.tmp 29)] #[24, 24] rfl [.agg (fc ((x) * ((x) * (x)))).toArray, .agg (fc (tmN (x) 3)).toArray] rfl (cE35 _) (.agg (fc (((x) * ((x) * (x))) - (tmN (x) 3))).toArray) (fun w hb => r_sub (hT.keep (Bs.kp_of hb)) _ _),
    fun L u => u_call u (gd0 rfl) 31 rfl 38 #[] #[] rfl [] rfl (cE38 _) (.agg (fc (wb)).toArray) (fun w hb => r_B),
    fun L u => u_call u (gd0 rfl) 32 rfl 34 #[(.tmp 30), (.tmp 31)] #[24, 24] rfl [.agg (fc (((x) * ((x) * (x))) - (tmN (x) 3))).toArray, .agg (fc (wb)).toArray] rfl (cE34 _) (.agg (fc ((((x) * ((x) * (x))) - (tmN (x) 3)) + (wb))).toArray) (fun w hb => r_add (hT.keep (Bs.kp_of hb)) _ _),
    fun L u => u_alloc u (gd0 rfl) 24 rfl 3 rfl rfl z24 _ rfl,
    fun L u => u_store u (gd0 rfl) 24 (.tmp 3) (.tmp 32) rfl rfl rfl (vs := fc ((((x) * ((x) * (x))) - (tmN (x) 3)) + (wb))) rfl rfl i24 (lk rfl) rfl _ rfl,
    trivial⟩ [(1, .ptr 1 0), (3, .ptr 3 0)] [(1, fc (x) ++ fc (y) ++ [Value.bool false]), (3, fc ((((x) * ((x) * (x))) - (tmN (x) 3)) + (wb)))] ⟨rfl, rfl, trivial⟩ ⟨rfl, rfl, trivial⟩ rfl (fun a w h => ?_)
  refine go_region h hm [eS 33 (.ptr 1 4), eS 34 (.val (.agg (fc (y)).toArray)), eS 35 (.ptr 1 4), eS 36 (.val (.agg (fc (y)).toArray)), eS 37 (.val (.agg (fc ((y) * (y))).toArray)), eS 38 (.val (.agg (fc ((((x) * ((x) * (x))) - (tmN (x) 3)) + (wb))).toArray)), eS 39 (.val (Value.bool (decide ((y) * (y) = (((x) * ((x) * (x))) - (tmN (x) 3)) + (wb))))), eS 2 (.val (Value.bool (decide ((y) * (y) = (((x) * ((x) * (x))) - (tmN (x) 3)) + (wb)))))] (by kernel_rfl) ⟨
    fun L u => u_field u (gd0 rfl) 33 rfl 26 (.tmp 1) 1 rfl rfl rfl Tryd.underlying26 rfl i24 _ rfl,
    fun L u => u_load u (gd0 rfl) 34 rfl 24 (.tmp 33) rfl rfl rfl Tryd.underlying24 rfl i24 (lk rfl) _ rfl,
    fun L u => u_field u (gd0 rfl) 35 rfl 26 (.tmp 1) 1 rfl rfl rfl Tryd.underlying26 rfl i24 _ rfl,
    fun L u => u_load u (gd0 rfl) 36 rfl 24 (.tmp 35) rfl rfl rfl Tryd.underlying24 rfl i24 (lk rfl) _ rfl,
    fun L u => u_call u (gd0 rfl) 37 rfl 36 #[(.tmp 34), (.tmp 36)] #[24, 24] rfl [.agg (fc (y)).toArray, .agg (fc (y)).toArray] rfl (cE36 _) (.agg (fc ((y) * (y))).toArray) (fun w hb => r_mul (hT.keep (Bs.kp_of hb)) _ _),
    fun L u => u_load u (gd0 rfl) 38 rfl 24 (.tmp 3) rfl rfl rfl Tryd.underlying24 rfl i24 (lk rfl) _ rfl,
    fun L u => u_eql u (gd0 rfl) 39 rfl 24 24 (.tmp 37) (.tmp 38) rfl rfl rfl Tryd.eqGuardType24 (decide ((y) * (y) = (((x) * ((x) * (x))) - (tmN (x) 3)) + (wb))) (fun w => eq_fc _ _ w),
    fun L u => u_move u (gd0 rfl) 2 rfl (.tmp 39) (Or.inr rfl) rfl,
    trivial⟩ [(2, .val (Value.bool (decide ((y) * (y) = (((x) * ((x) * (x))) - (tmN (x) 3)) + (wb)))))] [] ⟨rfl, trivial⟩ trivial rfl (fun a w h => ?_)
  refine wp_ret ?_
  refine ret_slot h 2 rfl (lk rfl) (Value.bool (decide ((y) * (y) = (((x) * ((x) * (x))) - (tmN (x) 3)) + (wb)))) rfl ?_
  exact ⟨rfl, h.grows⟩
theorem fc_one : fc 1 = [Value.int .u64 1] ++ [Value.int .u64 0] ++ [Value.int .u64 0] ++ [Value.int .u64 0] := by kernel_rfl
set_option maxRecDepth 100000 in
set_option maxHeartbeats 4000000 in
theorem r_small1 {w : World}  : Calls Tryd.prog 65 [Value.int .u64 1].toArray w fun e w' => e = .returned (.agg (fc 1).toArray) ∧ Below w.heap.size w w' := by
  refine enter (args := [Value.int .u64 1]) Tryd.func65 rfl 5 rfl (lk rfl) (fun a h => ?_)
  refine go_region h hm [eN 2 (nz)] (by kernel_rfl) ⟨
    fun L u => u_alloc u (gd0 rfl) 24 rfl 2 rfl rfl z24 _ rfl,
    trivial⟩ [(0, .val (Value.int .u64 1)), (2, .ptr 2 0)] [(2, nz)] ⟨rfl, rfl, trivial⟩ ⟨rfl, trivial⟩ rfl (fun a w h => ?_)
  refine go_region h hm [eS 3 (.val (Value.int .u64 1)), eS 4 (.val (.agg ([Value.int .u64 1] ++ [(Value.int IntKind.u64 0)] ++ [(Value.int IntKind.u64 0)] ++ [(Value.int IntKind.u64 0)]).toArray)), eM 2 ([Value.int .u64 1] ++ [(Value.int IntKind.u64 0)] ++ [(Value.int IntKind.u64 0)] ++ [(Value.int IntKind.u64 0)])] (by kernel_rfl) ⟨
    fun L u => u_move u (gd0 rfl) 3 rfl (.tmp 0) (Or.inl rfl) rfl,
    fun L u => u_build u (gd0 rfl) 4 rfl 24 #[(0, (.tmp 3)), (1, (.const (.int .u64 0))), (2, (.const (.int .u64 0))), (3, (.const (.int .u64 0)))] rfl [(0, Value.int .u64 1), (1, (Value.int IntKind.u64 0)), (2, (Value.int IntKind.u64 0)), (3, (Value.int IntKind.u64 0))] rfl ([Value.int .u64 1] ++ [(Value.int IntKind.u64 0)] ++ [(Value.int IntKind.u64 0)] ++ [(Value.int IntKind.u64 0)]) (bN4 _ _ _ _),
    fun L u => u_store u (gd0 rfl) 24 (.tmp 2) (.tmp 4) rfl rfl rfl (vs := [Value.int .u64 1] ++ [(Value.int IntKind.u64 0)] ++ [(Value.int IntKind.u64 0)] ++ [(Value.int IntKind.u64 0)]) rfl rfl i24 (lk rfl) rfl _ rfl,
    trivial⟩ [(2, .ptr 2 0)] [(2, [Value.int .u64 1] ++ [(Value.int IntKind.u64 0)] ++ [(Value.int IntKind.u64 0)] ++ [(Value.int IntKind.u64 0)])] ⟨rfl, trivial⟩ ⟨rfl, trivial⟩ rfl (fun a w h => ?_)
  refine wp_ret ?_
  refine ret_row h 2 24 rfl (lk rfl) 2 rfl ([Value.int .u64 1] ++ [(Value.int IntKind.u64 0)] ++ [(Value.int IntKind.u64 0)] ++ [(Value.int IntKind.u64 0)]) rfl _ Tryd.underlying24 rfl i24 ?_
  exact ⟨by rw [fc_one], h.grows⟩
set_option maxRecDepth 100000 in
set_option maxHeartbeats 4000000 in
theorem r_lift_none {w : World} {X Y : Int} : Calls Tryd.prog 44 [.agg (nc (X) ++ nc (Y) ++ [Value.bool true]).toArray].toArray w fun e w' => e = .returned (.agg (jc (jlift none)).toArray) ∧ Below w.heap.size w w' := by
  refine enter (args := [.agg (nc (X) ++ nc (Y) ++ [Value.bool true]).toArray]) Tryd.func44 rfl 17 rfl (lk rfl) (fun a h => ?_)
  refine go_region h hm [eN 1 (nc (X) ++ nc (Y) ++ [Value.bool true]), eN 2 (nz ++ nz ++ nz)] (by kernel_rfl) ⟨
    fun L u => u_box u (gd0 rfl) 26 (.tmp 0) rfl 1 rfl rfl rfl _ rfl,
    fun L u => u_alloc u (gd0 rfl) 60 rfl 2 rfl rfl z60 _ rfl,
    trivial⟩ [(1, .ptr 1 0), (2, .ptr 2 0)] [(1, nc (X) ++ nc (Y) ++ [Value.bool true]), (2, nz ++ nz ++ nz)] ⟨rfl, rfl, trivial⟩ ⟨rfl, rfl, trivial⟩ rfl (fun a w h => ?_)
  refine wp_seq ?_
  refine go_region h hm [eS 3 (.ptr 1 8), eS 4 (.val (Value.bool true)), eS 5 (.val (Value.bool true)), eS 6 (.val undef), eS 7 (.val undef), eS 8 (.val undef), eS 9 (.val (Value.bool true))] (by kernel_rfl) ⟨
    fun L u => u_field u (gd0 rfl) 3 rfl 26 (.tmp 1) 2 rfl rfl rfl Tryd.underlying26 rfl i4 _ rfl,
    fun L u => u_load1 u (gd0 rfl) 4 rfl 4 (.tmp 3) rfl rfl rfl Tryd.underlying4 rfl _ rfl,
    fun L u => u_move u (gd0 rfl) 5 rfl (.tmp 4) (Or.inl rfl) rfl,
    fun L u => u_no u 2 false rfl 5 rfl (lk rfl) rfl 6 rfl,
    fun L u => u_no u 2 false rfl 5 rfl (lk rfl) rfl 7 rfl,
    fun L u => u_no u 2 false rfl 5 rfl (lk rfl) rfl 8 rfl,
    fun L u => u_pick u (gd0 rfl) 9 rfl (.tmp 5) (.const (.bool true)) (.tmp 8) rfl rfl rfl rfl _ rfl,
    trivial⟩ [(1, .ptr 1 0), (2, .ptr 2 0), (9, .val (Value.bool true))] [(1, nc (X) ++ nc (Y) ++ [Value.bool true]), (2, nz ++ nz ++ nz)] ⟨rfl, rfl, rfl, trivial⟩ ⟨rfl, rfl, trivial⟩ rfl (fun a w h => ?_)
  refine go_cond h true rfl (fun ht => ?_) (fun hf => ?_)
  case refine_2 => cases hf
  refine go_region h hm [eS 10 (.val (.agg (nz ++ nz ++ nz).toArray)), eM 2 (nz ++ nz ++ nz)] (by kernel_rfl) ⟨
    fun L u => u_build u (gd0 rfl) 10 rfl 60 #[] rfl [] rfl (nz ++ nz ++ nz) (bJ0),
    fun L u => u_store u (gd0 rfl) 60 (.tmp 2) (.tmp 10) rfl rfl rfl (vs := nz ++ nz ++ nz) rfl rfl i60 (lk rfl) rfl _ rfl,
    trivial⟩ [(2, .ptr 2 0)] [(2, nz ++ nz ++ nz)] ⟨rfl, trivial⟩ ⟨rfl, trivial⟩ rfl (fun a w h => ?_)
  refine wp_ret ?_
  refine then_ret ?_
  refine ret_row h 2 60 rfl (lk rfl) 2 rfl (nz ++ nz ++ nz) rfl _ Tryd.underlying60 rfl i60 ?_
  exact ⟨by rw [nz_fc]; rfl, h.grows⟩
set_option maxRecDepth 100000 in
set_option maxHeartbeats 4000000 in
theorem r_lift_x {w : World} {X Y : Int} (hX : Num X) (bX : decide (X < md 0) = false) : Calls Tryd.prog 44 [.agg (nc (X) ++ nc (Y) ++ [Value.bool false]).toArray].toArray w fun e w' => e = .returned (.agg (jc (jlift none)).toArray) ∧ Below w.heap.size w w' := by
  refine enter (args := [.agg (nc (X) ++ nc (Y) ++ [Value.bool false]).toArray]) Tryd.func44 rfl 17 rfl (lk rfl) (fun a h => ?_)
  refine go_region h hm [eN 1 (nc (X) ++ nc (Y) ++ [Value.bool false]), eN 2 (nz ++ nz ++ nz)] (by kernel_rfl) ⟨
    fun L u => u_box u (gd0 rfl) 26 (.tmp 0) rfl 1 rfl rfl rfl _ rfl,
    fun L u => u_alloc u (gd0 rfl) 60 rfl 2 rfl rfl z60 _ rfl,
    trivial⟩ [(1, .ptr 1 0), (2, .ptr 2 0)] [(1, nc (X) ++ nc (Y) ++ [Value.bool false]), (2, nz ++ nz ++ nz)] ⟨rfl, rfl, trivial⟩ ⟨rfl, rfl, trivial⟩ rfl (fun a w h => ?_)
  refine wp_seq ?_
  refine go_region h hm [eS 3 (.ptr 1 8), eS 4 (.val (Value.bool false)), eS 5 (.val (Value.bool false)), eS 6 (.val (.agg (nc (X) ++ nc (Y) ++ [Value.bool false]).toArray)), eS 7 (.val (Value.bool false)), eS 8 (.val (Value.bool true)), eS 9 (.val (Value.bool true))] (by kernel_rfl) ⟨
    fun L u => u_field u (gd0 rfl) 3 rfl 26 (.tmp 1) 2 rfl rfl rfl Tryd.underlying26 rfl i4 _ rfl,
    fun L u => u_load1 u (gd0 rfl) 4 rfl 4 (.tmp 3) rfl rfl rfl Tryd.underlying4 rfl _ rfl,
    fun L u => u_move u (gd0 rfl) 5 rfl (.tmp 4) (Or.inl rfl) rfl,
    fun L u => u_load u (gd1 u 2 false rfl 5 rfl (lk rfl) rfl) 6 rfl 26 (.tmp 1) rfl rfl rfl Tryd.underlying26 rfl i26 (lk rfl) _ rfl,
    fun L u => u_call u (gd1 u 2 false rfl 5 rfl (lk rfl) rfl) 7 rfl 11 #[(.tmp 6)] #[26] rfl [.agg (nc (X) ++ nc (Y) ++ [Value.bool false]).toArray] rfl (cE11 _) (Value.bool false) (fun w hb => r_formed_x hX bX),
    fun L u => u_not u (gd1 u 2 false rfl 5 rfl (lk rfl) rfl) 8 rfl 4 (.tmp 7) rfl rfl _ rfl,
    fun L u => u_pick u (gd0 rfl) 9 rfl (.tmp 5) (.const (.bool true)) (.tmp 8) rfl rfl rfl rfl _ rfl,
    trivial⟩ [(1, .ptr 1 0), (2, .ptr 2 0), (9, .val (Value.bool true))] [(1, nc (X) ++ nc (Y) ++ [Value.bool false]), (2, nz ++ nz ++ nz)] ⟨rfl, rfl, rfl, trivial⟩ ⟨rfl, rfl, trivial⟩ rfl (fun a w h => ?_)
  refine go_cond h true rfl (fun ht => ?_) (fun hf => ?_)
  case refine_2 => cases hf
  refine go_region h hm [eS 10 (.val (.agg (nz ++ nz ++ nz).toArray)), eM 2 (nz ++ nz ++ nz)] (by kernel_rfl) ⟨
    fun L u => u_build u (gd0 rfl) 10 rfl 60 #[] rfl [] rfl (nz ++ nz ++ nz) (bJ0),
    fun L u => u_store u (gd0 rfl) 60 (.tmp 2) (.tmp 10) rfl rfl rfl (vs := nz ++ nz ++ nz) rfl rfl i60 (lk rfl) rfl _ rfl,
    trivial⟩ [(2, .ptr 2 0)] [(2, nz ++ nz ++ nz)] ⟨rfl, trivial⟩ ⟨rfl, trivial⟩ rfl (fun a w h => ?_)
  refine wp_ret ?_
  refine then_ret ?_
  refine ret_row h 2 60 rfl (lk rfl) 2 rfl (nz ++ nz ++ nz) rfl _ Tryd.underlying60 rfl i60 ?_
  exact ⟨by rw [nz_fc]; rfl, h.grows⟩
set_option maxRecDepth 100000 in
set_option maxHeartbeats 4000000 in
theorem r_lift_y {w : World} {X Y : Int} (hX : Num X) (bX : decide (X < md 0) = true) (hY : Num Y) (bY : decide (Y < md 0) = false) : Calls Tryd.prog 44 [.agg (nc (X) ++ nc (Y) ++ [Value.bool false]).toArray].toArray w fun e w' => e = .returned (.agg (jc (jlift none)).toArray) ∧ Below w.heap.size w w' := by
  refine enter (args := [.agg (nc (X) ++ nc (Y) ++ [Value.bool false]).toArray]) Tryd.func44 rfl 17 rfl (lk rfl) (fun a h => ?_)
  refine go_region h hm [eN 1 (nc (X) ++ nc (Y) ++ [Value.bool false]), eN 2 (nz ++ nz ++ nz)] (by kernel_rfl) ⟨
    fun L u => u_box u (gd0 rfl) 26 (.tmp 0) rfl 1 rfl rfl rfl _ rfl,
    fun L u => u_alloc u (gd0 rfl) 60 rfl 2 rfl rfl z60 _ rfl,
    trivial⟩ [(1, .ptr 1 0), (2, .ptr 2 0)] [(1, nc (X) ++ nc (Y) ++ [Value.bool false]), (2, nz ++ nz ++ nz)] ⟨rfl, rfl, trivial⟩ ⟨rfl, rfl, trivial⟩ rfl (fun a w h => ?_)
  refine wp_seq ?_
  refine go_region h hm [eS 3 (.ptr 1 8), eS 4 (.val (Value.bool false)), eS 5 (.val (Value.bool false)), eS 6 (.val (.agg (nc (X) ++ nc (Y) ++ [Value.bool false]).toArray)), eS 7 (.val (Value.bool false)), eS 8 (.val (Value.bool true)), eS 9 (.val (Value.bool true))] (by kernel_rfl) ⟨
    fun L u => u_field u (gd0 rfl) 3 rfl 26 (.tmp 1) 2 rfl rfl rfl Tryd.underlying26 rfl i4 _ rfl,
    fun L u => u_load1 u (gd0 rfl) 4 rfl 4 (.tmp 3) rfl rfl rfl Tryd.underlying4 rfl _ rfl,
    fun L u => u_move u (gd0 rfl) 5 rfl (.tmp 4) (Or.inl rfl) rfl,
    fun L u => u_load u (gd1 u 2 false rfl 5 rfl (lk rfl) rfl) 6 rfl 26 (.tmp 1) rfl rfl rfl Tryd.underlying26 rfl i26 (lk rfl) _ rfl,
    fun L u => u_call u (gd1 u 2 false rfl 5 rfl (lk rfl) rfl) 7 rfl 11 #[(.tmp 6)] #[26] rfl [.agg (nc (X) ++ nc (Y) ++ [Value.bool false]).toArray] rfl (cE11 _) (Value.bool false) (fun w hb => r_formed_y hX bX hY bY),
    fun L u => u_not u (gd1 u 2 false rfl 5 rfl (lk rfl) rfl) 8 rfl 4 (.tmp 7) rfl rfl _ rfl,
    fun L u => u_pick u (gd0 rfl) 9 rfl (.tmp 5) (.const (.bool true)) (.tmp 8) rfl rfl rfl rfl _ rfl,
    trivial⟩ [(1, .ptr 1 0), (2, .ptr 2 0), (9, .val (Value.bool true))] [(1, nc (X) ++ nc (Y) ++ [Value.bool false]), (2, nz ++ nz ++ nz)] ⟨rfl, rfl, rfl, trivial⟩ ⟨rfl, rfl, trivial⟩ rfl (fun a w h => ?_)
  refine go_cond h true rfl (fun ht => ?_) (fun hf => ?_)
  case refine_2 => cases hf
  refine go_region h hm [eS 10 (.val (.agg (nz ++ nz ++ nz).toArray)), eM 2 (nz ++ nz ++ nz)] (by kernel_rfl) ⟨
    fun L u => u_build u (gd0 rfl) 10 rfl 60 #[] rfl [] rfl (nz ++ nz ++ nz) (bJ0),
    fun L u => u_store u (gd0 rfl) 60 (.tmp 2) (.tmp 10) rfl rfl rfl (vs := nz ++ nz ++ nz) rfl rfl i60 (lk rfl) rfl _ rfl,
    trivial⟩ [(2, .ptr 2 0)] [(2, nz ++ nz ++ nz)] ⟨rfl, trivial⟩ ⟨rfl, trivial⟩ rfl (fun a w h => ?_)
  refine wp_ret ?_
  refine then_ret ?_
  refine ret_row h 2 60 rfl (lk rfl) 2 rfl (nz ++ nz ++ nz) rfl _ Tryd.underlying60 rfl i60 ?_
  exact ⟨by rw [nz_fc]; rfl, h.grows⟩
set_option maxRecDepth 100000 in
set_option maxHeartbeats 4000000 in
theorem r_lift_off {w : World} (hT : Tab w) {x y : Fin m0} (hq : ¬ y * y = x * (x * x) - tmN x 3 + wb) : Calls Tryd.prog 44 [.agg (fc (x) ++ fc (y) ++ [Value.bool false]).toArray].toArray w fun e w' => e = .returned (.agg (jc (jlift none)).toArray) ∧ Below w.heap.size w w' := by
  refine enter (args := [.agg (fc (x) ++ fc (y) ++ [Value.bool false]).toArray]) Tryd.func44 rfl 17 rfl (lk rfl) (fun a h => ?_)
  refine go_region h hm [eN 1 (fc (x) ++ fc (y) ++ [Value.bool false]), eN 2 (nz ++ nz ++ nz)] (by kernel_rfl) ⟨
    fun L u => u_box u (gd0 rfl) 26 (.tmp 0) rfl 1 rfl rfl rfl _ rfl,
    fun L u => u_alloc u (gd0 rfl) 60 rfl 2 rfl rfl z60 _ rfl,
    trivial⟩ [(1, .ptr 1 0), (2, .ptr 2 0)] [(1, fc (x) ++ fc (y) ++ [Value.bool false]), (2, nz ++ nz ++ nz)] ⟨rfl, rfl, trivial⟩ ⟨rfl, rfl, trivial⟩ rfl (fun a w h => ?_)
  refine wp_seq ?_
  refine go_region h hm [eS 3 (.ptr 1 8), eS 4 (.val (Value.bool false)), eS 5 (.val (Value.bool false)), eS 6 (.val (.agg (fc (x) ++ fc (y) ++ [Value.bool false]).toArray)), eS 7 (.val (Value.bool false)), eS 8 (.val (Value.bool true)), eS 9 (.val (Value.bool true))] (by kernel_rfl) ⟨
    fun L u => u_field u (gd0 rfl) 3 rfl 26 (.tmp 1) 2 rfl rfl rfl Tryd.underlying26 rfl i4 _ rfl,
    fun L u => u_load1 u (gd0 rfl) 4 rfl 4 (.tmp 3) rfl rfl rfl Tryd.underlying4 rfl _ rfl,
    fun L u => u_move u (gd0 rfl) 5 rfl (.tmp 4) (Or.inl rfl) rfl,
    fun L u => u_load u (gd1 u 2 false rfl 5 rfl (lk rfl) rfl) 6 rfl 26 (.tmp 1) rfl rfl rfl Tryd.underlying26 rfl i26 (lk rfl) _ rfl,
    fun L u => u_call u (gd1 u 2 false rfl 5 rfl (lk rfl) rfl) 7 rfl 11 #[(.tmp 6)] #[26] rfl [.agg (fc (x) ++ fc (y) ++ [Value.bool false]).toArray] rfl (cE11 _) (Value.bool false) (fun w hb => by have f := r_formed_at (hT.keep (Bs.kp_of hb)) x y; rw [decide_eq_false hq] at f; exact f),
    fun L u => u_not u (gd1 u 2 false rfl 5 rfl (lk rfl) rfl) 8 rfl 4 (.tmp 7) rfl rfl _ rfl,
    fun L u => u_pick u (gd0 rfl) 9 rfl (.tmp 5) (.const (.bool true)) (.tmp 8) rfl rfl rfl rfl _ rfl,
    trivial⟩ [(1, .ptr 1 0), (2, .ptr 2 0), (9, .val (Value.bool true))] [(1, fc (x) ++ fc (y) ++ [Value.bool false]), (2, nz ++ nz ++ nz)] ⟨rfl, rfl, rfl, trivial⟩ ⟨rfl, rfl, trivial⟩ rfl (fun a w h => ?_)
  refine go_cond h true rfl (fun ht => ?_) (fun hf => ?_)
  case refine_2 => cases hf
  refine go_region h hm [eS 10 (.val (.agg (nz ++ nz ++ nz).toArray)), eM 2 (nz ++ nz ++ nz)] (by kernel_rfl) ⟨
    fun L u => u_build u (gd0 rfl) 10 rfl 60 #[] rfl [] rfl (nz ++ nz ++ nz) (bJ0),
    fun L u => u_store u (gd0 rfl) 60 (.tmp 2) (.tmp 10) rfl rfl rfl (vs := nz ++ nz ++ nz) rfl rfl i60 (lk rfl) rfl _ rfl,
    trivial⟩ [(2, .ptr 2 0)] [(2, nz ++ nz ++ nz)] ⟨rfl, trivial⟩ ⟨rfl, trivial⟩ rfl (fun a w h => ?_)
  refine wp_ret ?_
  refine then_ret ?_
  refine ret_row h 2 60 rfl (lk rfl) 2 rfl (nz ++ nz ++ nz) rfl _ Tryd.underlying60 rfl i60 ?_
  exact ⟨by rw [nz_fc]; rfl, h.grows⟩
set_option maxRecDepth 100000 in
set_option maxHeartbeats 4000000 in
theorem r_lift_on {w : World} (hT : Tab w) {x y : Fin m0} (hq : y * y = x * (x * x) - tmN x 3 + wb) : Calls Tryd.prog 44 [.agg (fc (x) ++ fc (y) ++ [Value.bool false]).toArray].toArray w fun e w' => e = .returned (.agg (jc (jlift (some (x, y)))).toArray) ∧ Below w.heap.size w w' := by
  refine enter (args := [.agg (fc (x) ++ fc (y) ++ [Value.bool false]).toArray]) Tryd.func44 rfl 17 rfl (lk rfl) (fun a h => ?_)
  refine go_region h hm [eN 1 (fc (x) ++ fc (y) ++ [Value.bool false]), eN 2 (nz ++ nz ++ nz)] (by kernel_rfl) ⟨
    fun L u => u_box u (gd0 rfl) 26 (.tmp 0) rfl 1 rfl rfl rfl _ rfl,
    fun L u => u_alloc u (gd0 rfl) 60 rfl 2 rfl rfl z60 _ rfl,
    trivial⟩ [(1, .ptr 1 0), (2, .ptr 2 0)] [(1, fc (x) ++ fc (y) ++ [Value.bool false]), (2, nz ++ nz ++ nz)] ⟨rfl, rfl, trivial⟩ ⟨rfl, rfl, trivial⟩ rfl (fun a w h => ?_)
  refine wp_seq ?_
  refine go_region h hm [eS 3 (.ptr 1 8), eS 4 (.val (Value.bool false)), eS 5 (.val (Value.bool false)), eS 6 (.val (.agg (fc (x) ++ fc (y) ++ [Value.bool false]).toArray)), eS 7 (.val (Value.bool true)), eS 8 (.val (Value.bool false)), eS 9 (.val (Value.bool false))] (by kernel_rfl) ⟨
    fun L u => u_field u (gd0 rfl) 3 rfl 26 (.tmp 1) 2 rfl rfl rfl Tryd.underlying26 rfl i4 _ rfl,
    fun L u => u_load1 u (gd0 rfl) 4 rfl 4 (.tmp 3) rfl rfl rfl Tryd.underlying4 rfl _ rfl,
    fun L u => u_move u (gd0 rfl) 5 rfl (.tmp 4) (Or.inl rfl) rfl,
    fun L u => u_load u (gd1 u 2 false rfl 5 rfl (lk rfl) rfl) 6 rfl 26 (.tmp 1) rfl rfl rfl Tryd.underlying26 rfl i26 (lk rfl) _ rfl,
    fun L u => u_call u (gd1 u 2 false rfl 5 rfl (lk rfl) rfl) 7 rfl 11 #[(.tmp 6)] #[26] rfl [.agg (fc (x) ++ fc (y) ++ [Value.bool false]).toArray] rfl (cE11 _) (Value.bool true) (fun w hb => by have f := r_formed_at (hT.keep (Bs.kp_of hb)) x y; rw [decide_eq_true hq] at f; exact f),
    fun L u => u_not u (gd1 u 2 false rfl 5 rfl (lk rfl) rfl) 8 rfl 4 (.tmp 7) rfl rfl _ rfl,
    fun L u => u_pick u (gd0 rfl) 9 rfl (.tmp 5) (.const (.bool true)) (.tmp 8) rfl rfl rfl rfl _ rfl,
    trivial⟩ [(1, .ptr 1 0), (2, .ptr 2 0), (9, .val (Value.bool false))] [(1, fc (x) ++ fc (y) ++ [Value.bool false]), (2, nz ++ nz ++ nz)] ⟨rfl, rfl, rfl, trivial⟩ ⟨rfl, rfl, trivial⟩ rfl (fun a w h => ?_)
  refine go_cond h false rfl (fun ht => ?_) (fun hf => ?_)
  case refine_1 => cases ht
  refine wp_skip ?_
  refine then_norm ?_
  refine go_region h hm [eS 11 (.ptr 1 0), eS 12 (.val (.agg (fc (x)).toArray)), eS 13 (.ptr 1 4), eS 14 (.val (.agg (fc (y)).toArray)), eS 15 (.val (.agg (fc (1)).toArray)), eS 16 (.val (.agg (fc (x) ++ fc (y) ++ fc (1)).toArray)), eM 2 (fc (x) ++ fc (y) ++ fc (1))] (by kernel_rfl) ⟨
    fun L u => u_field u (gd0 rfl) 11 rfl 26 (.tmp 1) 0 rfl rfl rfl Tryd.underlying26 rfl i24 _ rfl,
    fun L u => u_load u (gd0 rfl) 12 rfl 24 (.tmp 11) rfl rfl rfl Tryd.underlying24 rfl i24 (lk rfl) _ rfl,
    fun L u => u_field u (gd0 rfl) 13 rfl 26 (.tmp 1) 1 rfl rfl rfl Tryd.underlying26 rfl i24 _ rfl,
    fun L u => u_load u (gd0 rfl) 14 rfl 24 (.tmp 13) rfl rfl rfl Tryd.underlying24 rfl i24 (lk rfl) _ rfl,
    fun L u => u_call u (gd0 rfl) 15 rfl 65 #[(.const (.int .u64 1))] #[22] rfl [(Value.int IntKind.u64 1)] rfl (cE65 _) (.agg (fc (1)).toArray) (fun w hb => r_small1),
    fun L u => u_build u (gd0 rfl) 16 rfl 60 #[(0, (.tmp 12)), (1, (.tmp 14)), (2, (.tmp 15))] rfl [(0, .agg (fc (x)).toArray), (1, .agg (fc (y)).toArray), (2, .agg (fc (1)).toArray)] rfl (fc (x) ++ fc (y) ++ fc (1)) (bJ _ _ _),
    fun L u => u_store u (gd0 rfl) 60 (.tmp 2) (.tmp 16) rfl rfl rfl (vs := fc (x) ++ fc (y) ++ fc (1)) rfl rfl i60 (lk rfl) rfl _ rfl,
    trivial⟩ [(2, .ptr 2 0)] [(2, fc (x) ++ fc (y) ++ fc (1))] ⟨rfl, trivial⟩ ⟨rfl, trivial⟩ rfl (fun a w h => ?_)
  refine wp_ret ?_
  refine ret_row h 2 60 rfl (lk rfl) 2 rfl (fc (x) ++ fc (y) ++ fc (1)) rfl _ Tryd.underlying60 rfl i60 ?_
  exact ⟨rfl, h.grows⟩
theorem on_tm (x y : Fin m0) : (y * y = x * (x * x) - tmN x 3 + wb) = (y * y = x * x * x - 3 * x + wb) := by
  rw [tm3, show x * (x * x) - (x + x + x) + wb = x * x * x - 3 * x + wb by grobner]
/-- The point that two numbers and a truth stand for. -/
def rp (X Y : Int) (t : Bool) : Wp m0 := if t = false ∧ X < md 0 ∧ Y < md 0 ∧ kc Y * kc Y = kc X * kc X * kc X - 3 * kc X + wb then some (kc X, kc Y) else none
theorem rp_on (X Y : Int) (t : Bool) : (rp X Y t).on wb := by
  unfold rp
  split
  · rename_i h; exact h.2.2.2
  · trivial
theorem nc_kc {X : Int} (h0 : 0 ≤ X) (h : X < md 0) : nc X = fc (kc X) := by
  rw [fc, kc_val, ← md_m0, Int.emod_eq_of_lt h0 h]
def rc (X Y : Int) (t : Bool) : List Value := nc X ++ nc Y ++ [Value.bool t]
theorem r_lift {w : World} (hT : Tab w) {X Y : Int} (hX : Num X) (hY : Num Y) (t : Bool) : Calls Tryd.prog 44 [.agg (rc X Y t).toArray].toArray w fun e w' => e = .returned (.agg (jc (jlift (rp X Y t))).toArray) ∧ Below w.heap.size w w' := by
  cases t with
  | true => exact r_lift_none
  | false =>
    by_cases h1 : X < md 0
    · by_cases h2 : Y < md 0
      · have e1 := nc_kc hX.lo h1
        have e2 := nc_kc hY.lo h2
        rw [rc, e1, e2]
        by_cases h3 : (kc Y : Fin m0) * kc Y = kc X * kc X * kc X - 3 * kc X + wb
        · rw [show rp X Y false = some (kc X, kc Y) from if_pos ⟨rfl, h1, h2, h3⟩]
          exact r_lift_on hT (by rw [on_tm]; exact h3)
        · rw [show rp X Y false = none from if_neg (fun h => h3 h.2.2.2)]
          exact r_lift_off hT (by rw [on_tm]; exact h3)
      · rw [show rp X Y false = none from if_neg (fun h => h2 h.2.2.1)]
        exact r_lift_y hX (decide_eq_true h1) hY (decide_eq_false h2)
    · rw [show rp X Y false = none from if_neg (fun h => h1 h.2.1)]
      exact r_lift_x hX (decide_eq_false h1)
set_option maxRecDepth 100000 in
set_option maxHeartbeats 4000000 in
theorem r_Add0 {w : World} (hT : Tab w) {X Y X2 Y2 : Int} (hX : Num X) (hY : Num Y) (hX2 : Num X2) (hY2 : Num Y2) (t t2 : Bool) : Calls Tryd.prog 13 [.agg (rc X Y t).toArray, .agg (rc X2 Y2 t2).toArray].toArray w fun e w' => e = .returned (.agg (pc (jdrop (jadd (jlift (rp X Y t)) (jlift (rp X2 Y2 t2))))).toArray) ∧ Below w.heap.size w w' := by
  refine enter (args := [.agg (rc X Y t).toArray, .agg (rc X2 Y2 t2).toArray]) Tryd.func13 rfl 11 rfl (lk rfl) (fun a h => ?_)
  refine go_region h hm [eN 2 (rc X Y t), eN 3 (rc X2 Y2 t2), eN 4 (nz ++ nz ++ [Value.bool false])] (by kernel_rfl) ⟨
    fun L u => u_box u (gd0 rfl) 26 (.tmp 0) rfl 2 rfl rfl rfl _ rfl,
    fun L u => u_box u (gd0 rfl) 26 (.tmp 1) rfl 3 rfl rfl rfl _ rfl,
    fun L u => u_alloc u (gd0 rfl) 26 rfl 4 rfl rfl z26 _ rfl,
    trivial⟩ [(2, .ptr 2 0), (3, .ptr 3 0), (4, .ptr 4 0)] [(2, rc X Y t), (3, rc X2 Y2 t2), (4, nz ++ nz ++ [Value.bool false])] ⟨rfl, rfl, rfl, trivial⟩ ⟨rfl, rfl, rfl, trivial⟩ rfl (fun a w h => ?_)
  refine go_region h hm [eS 5 (.val (.agg (rc X Y t).toArray)), eS 6 (.val (.agg (fc ((jlift (rp X Y t)).x) ++ fc ((jlift (rp X Y t)).y) ++ fc ((jlift (rp X Y t)).z)).toArray)), eS 7 (.val (.agg (rc X2 Y2 t2).toArray)), eS 8 (.val (.agg (fc ((jlift (rp X2 Y2 t2)).x) ++ fc ((jlift (rp X2 Y2 t2)).y) ++ fc ((jlift (rp X2 Y2 t2)).z)).toArray)), eS 9 (.val (.agg (fc ((jadd ⟨(jlift (rp X Y t)).x, (jlift (rp X Y t)).y, (jlift (rp X Y t)).z⟩ ⟨(jlift (rp X2 Y2 t2)).x, (jlift (rp X2 Y2 t2)).y, (jlift (rp X2 Y2 t2)).z⟩).x) ++ fc ((jadd ⟨(jlift (rp X Y t)).x, (jlift (rp X Y t)).y, (jlift (rp X Y t)).z⟩ ⟨(jlift (rp X2 Y2 t2)).x, (jlift (rp X2 Y2 t2)).y, (jlift (rp X2 Y2 t2)).z⟩).y) ++ fc ((jadd ⟨(jlift (rp X Y t)).x, (jlift (rp X Y t)).y, (jlift (rp X Y t)).z⟩ ⟨(jlift (rp X2 Y2 t2)).x, (jlift (rp X2 Y2 t2)).y, (jlift (rp X2 Y2 t2)).z⟩).z)).toArray)), eS 10 (.val (.agg (pc (jdrop ⟨(jadd ⟨(jlift (rp X Y t)).x, (jlift (rp X Y t)).y, (jlift (rp X Y t)).z⟩ ⟨(jlift (rp X2 Y2 t2)).x, (jlift (rp X2 Y2 t2)).y, (jlift (rp X2 Y2 t2)).z⟩).x, (jadd ⟨(jlift (rp X Y t)).x, (jlift (rp X Y t)).y, (jlift (rp X Y t)).z⟩ ⟨(jlift (rp X2 Y2 t2)).x, (jlift (rp X2 Y2 t2)).y, (jlift (rp X2 Y2 t2)).z⟩).y, (jadd ⟨(jlift (rp X Y t)).x, (jlift (rp X Y t)).y, (jlift (rp X Y t)).z⟩ ⟨(jlift (rp X2 Y2 t2)).x, (jlift (rp X2 Y2 t2)).y, (jlift (rp X2 Y2 t2)).z⟩).z⟩)).toArray)), eM 4 (pc (jdrop ⟨(jadd ⟨(jlift (rp X Y t)).x, (jlift (rp X Y t)).y, (jlift (rp X Y t)).z⟩ ⟨(jlift (rp X2 Y2 t2)).x, (jlift (rp X2 Y2 t2)).y, (jlift (rp X2 Y2 t2)).z⟩).x, (jadd ⟨(jlift (rp X Y t)).x, (jlift (rp X Y t)).y, (jlift (rp X Y t)).z⟩ ⟨(jlift (rp X2 Y2 t2)).x, (jlift (rp X2 Y2 t2)).y, (jlift (rp X2 Y2 t2)).z⟩).y, (jadd ⟨(jlift (rp X Y t)).x, (jlift (rp X Y t)).y, (jlift (rp X Y t)).z⟩ ⟨(jlift (rp X2 Y2 t2)).x, (jlift (rp X2 Y2 t2)).y, (jlift (rp X2 Y2 t2)).z⟩).z⟩))] (by kernel_rfl) ⟨
    fun L u => u_load u (gd0 rfl) 5 rfl 26 (.tmp 2) rfl rfl rfl Tryd.underlying26 rfl i26 (lk rfl) _ rfl,
    fun L u => u_call u (gd0 rfl) 6 rfl 44 #[(.tmp 5)] #[26] rfl [.agg (rc X Y t).toArray] rfl (cE44 _) (.agg (fc ((jlift (rp X Y t)).x) ++ fc ((jlift (rp X Y t)).y) ++ fc ((jlift (rp X Y t)).z)).toArray) (fun w hb => r_lift (hT.keep (Bs.kp_of hb)) hX hY t),
    fun L u => u_load u (gd0 rfl) 7 rfl 26 (.tmp 3) rfl rfl rfl Tryd.underlying26 rfl i26 (lk rfl) _ rfl,
    fun L u => u_call u (gd0 rfl) 8 rfl 44 #[(.tmp 7)] #[26] rfl [.agg (rc X2 Y2 t2).toArray] rfl (cE44 _) (.agg (fc ((jlift (rp X2 Y2 t2)).x) ++ fc ((jlift (rp X2 Y2 t2)).y) ++ fc ((jlift (rp X2 Y2 t2)).z)).toArray) (fun w hb => r_lift (hT.keep (Bs.kp_of hb)) hX2 hY2 t2),
    fun L u => u_call u (gd0 rfl) 9 rfl 43 #[(.tmp 6), (.tmp 8)] #[60, 60] rfl [.agg (fc ((jlift (rp X Y t)).x) ++ fc ((jlift (rp X Y t)).y) ++ fc ((jlift (rp X Y t)).z)).toArray, .agg (fc ((jlift (rp X2 Y2 t2)).x) ++ fc ((jlift (rp X2 Y2 t2)).y) ++ fc ((jlift (rp X2 Y2 t2)).z)).toArray] rfl (cE43 _) (.agg (fc ((jadd ⟨(jlift (rp X Y t)).x, (jlift (rp X Y t)).y, (jlift (rp X Y t)).z⟩ ⟨(jlift (rp X2 Y2 t2)).x, (jlift (rp X2 Y2 t2)).y, (jlift (rp X2 Y2 t2)).z⟩).x) ++ fc ((jadd ⟨(jlift (rp X Y t)).x, (jlift (rp X Y t)).y, (jlift (rp X Y t)).z⟩ ⟨(jlift (rp X2 Y2 t2)).x, (jlift (rp X2 Y2 t2)).y, (jlift (rp X2 Y2 t2)).z⟩).y) ++ fc ((jadd ⟨(jlift (rp X Y t)).x, (jlift (rp X Y t)).y, (jlift (rp X Y t)).z⟩ ⟨(jlift (rp X2 Y2 t2)).x, (jlift (rp X2 Y2 t2)).y, (jlift (rp X2 Y2 t2)).z⟩).z)).toArray) (fun w hb => r_plus (hT.keep (Bs.kp_of hb)) _ _ _ _ _ _),
    fun L u => u_call u (gd0 rfl) 10 rfl 42 #[(.tmp 9)] #[60] rfl [.agg (fc ((jadd ⟨(jlift (rp X Y t)).x, (jlift (rp X Y t)).y, (jlift (rp X Y t)).z⟩ ⟨(jlift (rp X2 Y2 t2)).x, (jlift (rp X2 Y2 t2)).y, (jlift (rp X2 Y2 t2)).z⟩).x) ++ fc ((jadd ⟨(jlift (rp X Y t)).x, (jlift (rp X Y t)).y, (jlift (rp X Y t)).z⟩ ⟨(jlift (rp X2 Y2 t2)).x, (jlift (rp X2 Y2 t2)).y, (jlift (rp X2 Y2 t2)).z⟩).y) ++ fc ((jadd ⟨(jlift (rp X Y t)).x, (jlift (rp X Y t)).y, (jlift (rp X Y t)).z⟩ ⟨(jlift (rp X2 Y2 t2)).x, (jlift (rp X2 Y2 t2)).y, (jlift (rp X2 Y2 t2)).z⟩).z)).toArray] rfl (cE42 _) (.agg (pc (jdrop ⟨(jadd ⟨(jlift (rp X Y t)).x, (jlift (rp X Y t)).y, (jlift (rp X Y t)).z⟩ ⟨(jlift (rp X2 Y2 t2)).x, (jlift (rp X2 Y2 t2)).y, (jlift (rp X2 Y2 t2)).z⟩).x, (jadd ⟨(jlift (rp X Y t)).x, (jlift (rp X Y t)).y, (jlift (rp X Y t)).z⟩ ⟨(jlift (rp X2 Y2 t2)).x, (jlift (rp X2 Y2 t2)).y, (jlift (rp X2 Y2 t2)).z⟩).y, (jadd ⟨(jlift (rp X Y t)).x, (jlift (rp X Y t)).y, (jlift (rp X Y t)).z⟩ ⟨(jlift (rp X2 Y2 t2)).x, (jlift (rp X2 Y2 t2)).y, (jlift (rp X2 Y2 t2)).z⟩).z⟩)).toArray) (fun w hb => r_drop (hT.keep (Bs.kp_of hb)) _ _ _),
    fun L u => u_store u (gd0 rfl) 26 (.tmp 4) (.tmp 10) rfl rfl rfl (vs := pc (jdrop ⟨(jadd ⟨(jlift (rp X Y t)).x, (jlift (rp X Y t)).y, (jlift (rp X Y t)).z⟩ ⟨(jlift (rp X2 Y2 t2)).x, (jlift (rp X2 Y2 t2)).y, (jlift (rp X2 Y2 t2)).z⟩).x, (jadd ⟨(jlift (rp X Y t)).x, (jlift (rp X Y t)).y, (jlift (rp X Y t)).z⟩ ⟨(jlift (rp X2 Y2 t2)).x, (jlift (rp X2 Y2 t2)).y, (jlift (rp X2 Y2 t2)).z⟩).y, (jadd ⟨(jlift (rp X Y t)).x, (jlift (rp X Y t)).y, (jlift (rp X Y t)).z⟩ ⟨(jlift (rp X2 Y2 t2)).x, (jlift (rp X2 Y2 t2)).y, (jlift (rp X2 Y2 t2)).z⟩).z⟩)) rfl rfl i26 (lk rfl) rfl _ rfl,
    trivial⟩ [(4, .ptr 4 0)] [(4, pc (jdrop ⟨(jadd ⟨(jlift (rp X Y t)).x, (jlift (rp X Y t)).y, (jlift (rp X Y t)).z⟩ ⟨(jlift (rp X2 Y2 t2)).x, (jlift (rp X2 Y2 t2)).y, (jlift (rp X2 Y2 t2)).z⟩).x, (jadd ⟨(jlift (rp X Y t)).x, (jlift (rp X Y t)).y, (jlift (rp X Y t)).z⟩ ⟨(jlift (rp X2 Y2 t2)).x, (jlift (rp X2 Y2 t2)).y, (jlift (rp X2 Y2 t2)).z⟩).y, (jadd ⟨(jlift (rp X Y t)).x, (jlift (rp X Y t)).y, (jlift (rp X Y t)).z⟩ ⟨(jlift (rp X2 Y2 t2)).x, (jlift (rp X2 Y2 t2)).y, (jlift (rp X2 Y2 t2)).z⟩).z⟩))] ⟨rfl, trivial⟩ ⟨rfl, trivial⟩ rfl (fun a w h => ?_)
  refine wp_ret ?_
  refine ret_row h 4 26 rfl (lk rfl) 4 rfl (pc (jdrop ⟨(jadd ⟨(jlift (rp X Y t)).x, (jlift (rp X Y t)).y, (jlift (rp X Y t)).z⟩ ⟨(jlift (rp X2 Y2 t2)).x, (jlift (rp X2 Y2 t2)).y, (jlift (rp X2 Y2 t2)).z⟩).x, (jadd ⟨(jlift (rp X Y t)).x, (jlift (rp X Y t)).y, (jlift (rp X Y t)).z⟩ ⟨(jlift (rp X2 Y2 t2)).x, (jlift (rp X2 Y2 t2)).y, (jlift (rp X2 Y2 t2)).z⟩).y, (jadd ⟨(jlift (rp X Y t)).x, (jlift (rp X Y t)).y, (jlift (rp X Y t)).z⟩ ⟨(jlift (rp X2 Y2 t2)).x, (jlift (rp X2 Y2 t2)).y, (jlift (rp X2 Y2 t2)).z⟩).z⟩)) rfl _ Tryd.underlying26 rfl i26 ?_
  exact ⟨rfl, h.grows⟩
set_option maxRecDepth 100000 in
set_option maxHeartbeats 4000000 in
theorem r_Mul0 {w : World} (hT : Tab w) (k : Nat) {X Y : Int} (hX : Num X) (hY : Num Y) (t : Bool) : Calls Tryd.prog 15 [.agg (nc ((k : Int))).toArray, .agg (rc X Y t).toArray].toArray w fun e w' => e = .returned (.agg (pc (jdrop (jm k (jlift (rp X Y t)) 256))).toArray) ∧ Below w.heap.size w w' := by
  refine enter (args := [.agg (nc ((k : Int))).toArray, .agg (rc X Y t).toArray]) Tryd.func15 rfl 10 rfl (lk rfl) (fun a h => ?_)
  refine go_region h hm [eN 2 (nc ((k : Int))), eN 3 (rc X Y t), eN 4 (nz ++ nz ++ [Value.bool false])] (by kernel_rfl) ⟨
    fun L u => u_box u (gd0 rfl) 24 (.tmp 0) rfl 2 rfl rfl rfl _ rfl,
    fun L u => u_box u (gd0 rfl) 26 (.tmp 1) rfl 3 rfl rfl rfl _ rfl,
    fun L u => u_alloc u (gd0 rfl) 26 rfl 4 rfl rfl z26 _ rfl,
    trivial⟩ [(2, .ptr 2 0), (3, .ptr 3 0), (4, .ptr 4 0)] [(2, nc ((k : Int))), (3, rc X Y t), (4, nz ++ nz ++ [Value.bool false])] ⟨rfl, rfl, rfl, trivial⟩ ⟨rfl, rfl, rfl, trivial⟩ rfl (fun a w h => ?_)
  refine go_region h hm [eS 5 (.val (.agg (nc ((k : Int))).toArray)), eS 6 (.val (.agg (rc X Y t).toArray)), eS 7 (.val (.agg (fc ((jlift (rp X Y t)).x) ++ fc ((jlift (rp X Y t)).y) ++ fc ((jlift (rp X Y t)).z)).toArray)), eS 8 (.val (.agg (fc ((jm k ⟨(jlift (rp X Y t)).x, (jlift (rp X Y t)).y, (jlift (rp X Y t)).z⟩ 256).x) ++ fc ((jm k ⟨(jlift (rp X Y t)).x, (jlift (rp X Y t)).y, (jlift (rp X Y t)).z⟩ 256).y) ++ fc ((jm k ⟨(jlift (rp X Y t)).x, (jlift (rp X Y t)).y, (jlift (rp X Y t)).z⟩ 256).z)).toArray)), eS 9 (.val (.agg (pc (jdrop ⟨(jm k ⟨(jlift (rp X Y t)).x, (jlift (rp X Y t)).y, (jlift (rp X Y t)).z⟩ 256).x, (jm k ⟨(jlift (rp X Y t)).x, (jlift (rp X Y t)).y, (jlift (rp X Y t)).z⟩ 256).y, (jm k ⟨(jlift (rp X Y t)).x, (jlift (rp X Y t)).y, (jlift (rp X Y t)).z⟩ 256).z⟩)).toArray)), eM 4 (pc (jdrop ⟨(jm k ⟨(jlift (rp X Y t)).x, (jlift (rp X Y t)).y, (jlift (rp X Y t)).z⟩ 256).x, (jm k ⟨(jlift (rp X Y t)).x, (jlift (rp X Y t)).y, (jlift (rp X Y t)).z⟩ 256).y, (jm k ⟨(jlift (rp X Y t)).x, (jlift (rp X Y t)).y, (jlift (rp X Y t)).z⟩ 256).z⟩))] (by kernel_rfl) ⟨
    fun L u => u_load u (gd0 rfl) 5 rfl 24 (.tmp 2) rfl rfl rfl Tryd.underlying24 rfl i24 (lk rfl) _ rfl,
    fun L u => u_load u (gd0 rfl) 6 rfl 26 (.tmp 3) rfl rfl rfl Tryd.underlying26 rfl i26 (lk rfl) _ rfl,
    fun L u => u_call u (gd0 rfl) 7 rfl 44 #[(.tmp 6)] #[26] rfl [.agg (rc X Y t).toArray] rfl (cE44 _) (.agg (fc ((jlift (rp X Y t)).x) ++ fc ((jlift (rp X Y t)).y) ++ fc ((jlift (rp X Y t)).z)).toArray) (fun w hb => r_lift (hT.keep (Bs.kp_of hb)) hX hY t),
    fun L u => u_call u (gd0 rfl) 8 rfl 46 #[(.tmp 5), (.tmp 7)] #[24, 60] rfl [.agg (nc ((k : Int))).toArray, .agg (fc ((jlift (rp X Y t)).x) ++ fc ((jlift (rp X Y t)).y) ++ fc ((jlift (rp X Y t)).z)).toArray] rfl (cE46 _) (.agg (fc ((jm k ⟨(jlift (rp X Y t)).x, (jlift (rp X Y t)).y, (jlift (rp X Y t)).z⟩ 256).x) ++ fc ((jm k ⟨(jlift (rp X Y t)).x, (jlift (rp X Y t)).y, (jlift (rp X Y t)).z⟩ 256).y) ++ fc ((jm k ⟨(jlift (rp X Y t)).x, (jlift (rp X Y t)).y, (jlift (rp X Y t)).z⟩ 256).z)).toArray) (fun w hb => r_mult (hT.keep (Bs.kp_of hb)) _ _ _ _),
    fun L u => u_call u (gd0 rfl) 9 rfl 42 #[(.tmp 8)] #[60] rfl [.agg (fc ((jm k ⟨(jlift (rp X Y t)).x, (jlift (rp X Y t)).y, (jlift (rp X Y t)).z⟩ 256).x) ++ fc ((jm k ⟨(jlift (rp X Y t)).x, (jlift (rp X Y t)).y, (jlift (rp X Y t)).z⟩ 256).y) ++ fc ((jm k ⟨(jlift (rp X Y t)).x, (jlift (rp X Y t)).y, (jlift (rp X Y t)).z⟩ 256).z)).toArray] rfl (cE42 _) (.agg (pc (jdrop ⟨(jm k ⟨(jlift (rp X Y t)).x, (jlift (rp X Y t)).y, (jlift (rp X Y t)).z⟩ 256).x, (jm k ⟨(jlift (rp X Y t)).x, (jlift (rp X Y t)).y, (jlift (rp X Y t)).z⟩ 256).y, (jm k ⟨(jlift (rp X Y t)).x, (jlift (rp X Y t)).y, (jlift (rp X Y t)).z⟩ 256).z⟩)).toArray) (fun w hb => r_drop (hT.keep (Bs.kp_of hb)) _ _ _),
    fun L u => u_store u (gd0 rfl) 26 (.tmp 4) (.tmp 9) rfl rfl rfl (vs := pc (jdrop ⟨(jm k ⟨(jlift (rp X Y t)).x, (jlift (rp X Y t)).y, (jlift (rp X Y t)).z⟩ 256).x, (jm k ⟨(jlift (rp X Y t)).x, (jlift (rp X Y t)).y, (jlift (rp X Y t)).z⟩ 256).y, (jm k ⟨(jlift (rp X Y t)).x, (jlift (rp X Y t)).y, (jlift (rp X Y t)).z⟩ 256).z⟩)) rfl rfl i26 (lk rfl) rfl _ rfl,
    trivial⟩ [(4, .ptr 4 0)] [(4, pc (jdrop ⟨(jm k ⟨(jlift (rp X Y t)).x, (jlift (rp X Y t)).y, (jlift (rp X Y t)).z⟩ 256).x, (jm k ⟨(jlift (rp X Y t)).x, (jlift (rp X Y t)).y, (jlift (rp X Y t)).z⟩ 256).y, (jm k ⟨(jlift (rp X Y t)).x, (jlift (rp X Y t)).y, (jlift (rp X Y t)).z⟩ 256).z⟩))] ⟨rfl, trivial⟩ ⟨rfl, trivial⟩ rfl (fun a w h => ?_)
  refine wp_ret ?_
  refine ret_row h 4 26 rfl (lk rfl) 4 rfl (pc (jdrop ⟨(jm k ⟨(jlift (rp X Y t)).x, (jlift (rp X Y t)).y, (jlift (rp X Y t)).z⟩ 256).x, (jm k ⟨(jlift (rp X Y t)).x, (jlift (rp X Y t)).y, (jlift (rp X Y t)).z⟩ 256).y, (jm k ⟨(jlift (rp X Y t)).x, (jlift (rp X Y t)).y, (jlift (rp X Y t)).z⟩ 256).z⟩)) rfl _ Tryd.underlying26 rfl i26 ?_
  exact ⟨rfl, h.grows⟩
theorem jl_on {a : Wp m0} (h : a.on wb) : (jdrop (jlift a)).on wb := by rw [jdrop_lift]; exact h
/-- The document's sum, and its multiple, are the curve's. -/
theorem r_Add {w : World} (hT : Tab w) {X Y X2 Y2 : Int} (hX : Num X) (hY : Num Y) (hX2 : Num X2) (hY2 : Num Y2) (t t2 : Bool) : Calls Tryd.prog 13 [.agg (rc X Y t).toArray, .agg (rc X2 Y2 t2).toArray].toArray w fun e w' => e = .returned (.agg (pc (wplus (rp X Y t) (rp X2 Y2 t2))).toArray) ∧ Below w.heap.size w w' := by
  have h := r_Add0 hT hX hY hX2 hY2 t t2
  rw [jdrop_add (jl_on (rp_on X Y t)) (jl_on (rp_on X2 Y2 t2)), jdrop_lift, jdrop_lift] at h
  exact h
theorem r_Mul {w : World} (hT : Tab w) {k : Nat} (hk : k < 2 ^ 256) {X Y : Int} (hX : Num X) (hY : Num Y) (t : Bool) : Calls Tryd.prog 15 [.agg (nc (k : Int)).toArray, .agg (rc X Y t).toArray].toArray w fun e w' => e = .returned (.agg (pc (mt wplus Wp.o (rp X Y t) k)).toArray) ∧ Below w.heap.size w w' := by
  have h := r_Mul0 hT k hX hY t
  rw [jm_all hk (jl_on (rp_on X Y t)), jdrop_lift] at h
  exact h
/-- Is it formed? -/
def fmd (X Y : Int) (t : Bool) : Bool := if t = true then decide (X = 0 ∧ Y = 0) else decide (X < md 0 ∧ Y < md 0 ∧ (kc Y : Fin m0) * kc Y = kc X * kc X * kc X - 3 * kc X + wb)
theorem r_Formed {w : World} (hT : Tab w) {X Y : Int} (hX : Num X) (hY : Num Y) (t : Bool) : Calls Tryd.prog 11 [.agg (rc X Y t).toArray].toArray w fun e w' => e = .returned (.bool (fmd X Y t)) ∧ Below w.heap.size w w' := by
  cases t with
  | true => exact r_formed_none hX hY
  | false =>
    rw [show fmd X Y false = decide (X < md 0 ∧ Y < md 0 ∧ (kc Y : Fin m0) * kc Y = kc X * kc X * kc X - 3 * kc X + wb) from rfl]
    by_cases h1 : X < md 0
    · by_cases h2 : Y < md 0
      · have e1 := nc_kc hX.lo h1
        have e2 := nc_kc hY.lo h2
        have h := r_formed_at hT (kc X) (kc Y)
        rw [rc, e1, e2]
        have e3 : decide (X < md 0 ∧ Y < md 0 ∧ (kc Y : Fin m0) * kc Y = kc X * kc X * kc X - 3 * kc X + wb) = decide ((kc Y : Fin m0) * kc Y = kc X * (kc X * kc X) - tmN (kc X) 3 + wb) := by
          have : (X < md 0 ∧ Y < md 0 ∧ (kc Y : Fin m0) * kc Y = kc X * kc X * kc X - 3 * kc X + wb) = ((kc Y : Fin m0) * kc Y = kc X * (kc X * kc X) - tmN (kc X) 3 + wb) := by
            rw [on_tm]
            exact propext ⟨fun h => h.2.2, fun h => ⟨h1, h2, h⟩⟩
          simp only [this]
        rw [e3]
        exact h
      · rw [decide_eq_false (fun h => h2 h.2.1)]
        exact r_formed_y hX (decide_eq_true h1) hY (decide_eq_false h2)
    · rw [decide_eq_false (fun h => h1 h.1)]
      exact r_formed_x hX (decide_eq_false h1)
theorem pc_rc (a : Wp m0) : pc a = rc ((px a).val : Int) ((py a).val : Int) a.isNone := rfl
theorem eq_pc (a b : Wp m0) (w : World) : (Op.equalIn 10000 26 (.agg (pc a).toArray) (.agg (pc b).toArray)).run Tryd.prog w = .ok (decide ((px a).val = (px b).val ∧ (py a).val = (py b).val ∧ a.isNone = b.isNone)) w := by
  have h := eq_pt (fin_num (px a)) (fin_num (py a)) (fin_num (px b)) (fin_num (py b)) a.isNone b.isNone w
  refine h.trans ?_
  congr 1
  have : (((px a).val : Int) = ((px b).val : Int) ∧ ((py a).val : Int) = ((py b).val : Int) ∧ a.isNone = b.isNone) = ((px a).val = (px b).val ∧ (py a).val = (py b).val ∧ a.isNone = b.isNone) := by
    apply propext
    constructor
    · intro h; exact ⟨by omega, by omega, h.2.2⟩
    · intro h; exact ⟨by omega, by omega, h.2.2⟩
  simp only [this]
theorem eq_pc_same (a : Wp m0) (w : World) : (Op.equalIn 10000 26 (.agg (pc a).toArray) (.agg (pc a).toArray)).run Tryd.prog w = .ok true w := by
  rw [eq_pc]
  simp
theorem rp_pc {a : Wp m0} (h : a.on wb) : rp ((px a).val : Int) ((py a).val : Int) a.isNone = a := by
  cases a with
  | none => exact if_neg (fun h => by cases h.1)
  | some q =>
    obtain ⟨x, y⟩ := q
    have hc : y * y = x * x * x - 3 * x + wb := h
    have e : rp (x.val : Int) (y.val : Int) false = some (kc (x.val : Int), kc (y.val : Int)) := if_pos ⟨rfl, of_decide_eq_true (fin_lt x), of_decide_eq_true (fin_lt y), by rw [kc_self, kc_self]; exact hc⟩
    rw [kc_self, kc_self] at e
    exact e
theorem bPc (a b c d e f g h : Int) : Tryd.prog.built 26 [(0, .agg ([Value.int .u64 a] ++ [Value.int .u64 b] ++ [Value.int .u64 c] ++ [Value.int .u64 d]).toArray), (1, .agg ([Value.int .u64 e] ++ [Value.int .u64 f] ++ [Value.int .u64 g] ++ [Value.int .u64 h]).toArray)] = some ([Value.int .u64 a] ++ [Value.int .u64 b] ++ [Value.int .u64 c] ++ [Value.int .u64 d] ++ [Value.int .u64 e] ++ [Value.int .u64 f] ++ [Value.int .u64 g] ++ [Value.int .u64 h] ++ [Value.bool false]).toArray := by kernel_rfl
theorem pc_G : pc wG = [Value.int .u64 17627433388654248598] ++ [Value.int .u64 8575836109218198432] ++ [Value.int .u64 17923454489921339634] ++ [Value.int .u64 7716867327612699207] ++ [Value.int .u64 14678990851816772085] ++ [Value.int .u64 3156516839386865358] ++ [Value.int .u64 10297457778147434006] ++ [Value.int .u64 5756518291402817435] ++ [Value.bool false] := by kernel_rfl
set_option maxRecDepth 100000 in
set_option maxHeartbeats 4000000 in
theorem r_Base {w : World}  : Calls Tryd.prog 27 [].toArray w fun e w' => e = .returned (.agg (pc wG).toArray) ∧ Below w.heap.size w w' := by
  refine enter (args := []) Tryd.func27 rfl 4 rfl (lk rfl) (fun a h => ?_)
  refine go_region h hm [eN 0 (nz ++ nz ++ [Value.bool false])] (by kernel_rfl) ⟨
    fun L u => u_alloc u (gd0 rfl) 26 rfl 0 rfl rfl z26 _ rfl,
    trivial⟩ [(0, .ptr 0 0)] [(0, nz ++ nz ++ [Value.bool false])] ⟨rfl, trivial⟩ ⟨rfl, trivial⟩ rfl (fun a w h => ?_)
  refine go_region h hm [eS 1 (.val (.agg ([(Value.int IntKind.u64 17627433388654248598)] ++ [(Value.int IntKind.u64 8575836109218198432)] ++ [(Value.int IntKind.u64 17923454489921339634)] ++ [(Value.int IntKind.u64 7716867327612699207)]).toArray)), eS 2 (.val (.agg ([(Value.int IntKind.u64 14678990851816772085)] ++ [(Value.int IntKind.u64 3156516839386865358)] ++ [(Value.int IntKind.u64 10297457778147434006)] ++ [(Value.int IntKind.u64 5756518291402817435)]).toArray)), eS 3 (.val (.agg ([(Value.int IntKind.u64 17627433388654248598)] ++ [(Value.int IntKind.u64 8575836109218198432)] ++ [(Value.int IntKind.u64 17923454489921339634)] ++ [(Value.int IntKind.u64 7716867327612699207)] ++ [(Value.int IntKind.u64 14678990851816772085)] ++ [(Value.int IntKind.u64 3156516839386865358)] ++ [(Value.int IntKind.u64 10297457778147434006)] ++ [(Value.int IntKind.u64 5756518291402817435)] ++ [Value.bool false]).toArray)), eM 0 ([(Value.int IntKind.u64 17627433388654248598)] ++ [(Value.int IntKind.u64 8575836109218198432)] ++ [(Value.int IntKind.u64 17923454489921339634)] ++ [(Value.int IntKind.u64 7716867327612699207)] ++ [(Value.int IntKind.u64 14678990851816772085)] ++ [(Value.int IntKind.u64 3156516839386865358)] ++ [(Value.int IntKind.u64 10297457778147434006)] ++ [(Value.int IntKind.u64 5756518291402817435)] ++ [Value.bool false])] (by kernel_rfl) ⟨
    fun L u => u_build u (gd0 rfl) 1 rfl 24 #[(0, (.const (.int .u64 17627433388654248598))), (1, (.const (.int .u64 8575836109218198432))), (2, (.const (.int .u64 17923454489921339634))), (3, (.const (.int .u64 7716867327612699207)))] rfl [(0, (Value.int IntKind.u64 17627433388654248598)), (1, (Value.int IntKind.u64 8575836109218198432)), (2, (Value.int IntKind.u64 17923454489921339634)), (3, (Value.int IntKind.u64 7716867327612699207))] rfl ([(Value.int IntKind.u64 17627433388654248598)] ++ [(Value.int IntKind.u64 8575836109218198432)] ++ [(Value.int IntKind.u64 17923454489921339634)] ++ [(Value.int IntKind.u64 7716867327612699207)]) (bN4 _ _ _ _),
    fun L u => u_build u (gd0 rfl) 2 rfl 24 #[(0, (.const (.int .u64 14678990851816772085))), (1, (.const (.int .u64 3156516839386865358))), (2, (.const (.int .u64 10297457778147434006))), (3, (.const (.int .u64 5756518291402817435)))] rfl [(0, (Value.int IntKind.u64 14678990851816772085)), (1, (Value.int IntKind.u64 3156516839386865358)), (2, (Value.int IntKind.u64 10297457778147434006)), (3, (Value.int IntKind.u64 5756518291402817435))] rfl ([(Value.int IntKind.u64 14678990851816772085)] ++ [(Value.int IntKind.u64 3156516839386865358)] ++ [(Value.int IntKind.u64 10297457778147434006)] ++ [(Value.int IntKind.u64 5756518291402817435)]) (bN4 _ _ _ _),
    fun L u => u_build u (gd0 rfl) 3 rfl 26 #[(0, (.tmp 1)), (1, (.tmp 2))] rfl [(0, .agg ([(Value.int IntKind.u64 17627433388654248598)] ++ [(Value.int IntKind.u64 8575836109218198432)] ++ [(Value.int IntKind.u64 17923454489921339634)] ++ [(Value.int IntKind.u64 7716867327612699207)]).toArray), (1, .agg ([(Value.int IntKind.u64 14678990851816772085)] ++ [(Value.int IntKind.u64 3156516839386865358)] ++ [(Value.int IntKind.u64 10297457778147434006)] ++ [(Value.int IntKind.u64 5756518291402817435)]).toArray)] rfl ([(Value.int IntKind.u64 17627433388654248598)] ++ [(Value.int IntKind.u64 8575836109218198432)] ++ [(Value.int IntKind.u64 17923454489921339634)] ++ [(Value.int IntKind.u64 7716867327612699207)] ++ [(Value.int IntKind.u64 14678990851816772085)] ++ [(Value.int IntKind.u64 3156516839386865358)] ++ [(Value.int IntKind.u64 10297457778147434006)] ++ [(Value.int IntKind.u64 5756518291402817435)] ++ [Value.bool false]) (bPc _ _ _ _ _ _ _ _),
    fun L u => u_store u (gd0 rfl) 26 (.tmp 0) (.tmp 3) rfl rfl rfl (vs := [(Value.int IntKind.u64 17627433388654248598)] ++ [(Value.int IntKind.u64 8575836109218198432)] ++ [(Value.int IntKind.u64 17923454489921339634)] ++ [(Value.int IntKind.u64 7716867327612699207)] ++ [(Value.int IntKind.u64 14678990851816772085)] ++ [(Value.int IntKind.u64 3156516839386865358)] ++ [(Value.int IntKind.u64 10297457778147434006)] ++ [(Value.int IntKind.u64 5756518291402817435)] ++ [Value.bool false]) rfl rfl i26 (lk rfl) rfl _ rfl,
    trivial⟩ [(0, .ptr 0 0)] [(0, [(Value.int IntKind.u64 17627433388654248598)] ++ [(Value.int IntKind.u64 8575836109218198432)] ++ [(Value.int IntKind.u64 17923454489921339634)] ++ [(Value.int IntKind.u64 7716867327612699207)] ++ [(Value.int IntKind.u64 14678990851816772085)] ++ [(Value.int IntKind.u64 3156516839386865358)] ++ [(Value.int IntKind.u64 10297457778147434006)] ++ [(Value.int IntKind.u64 5756518291402817435)] ++ [Value.bool false])] ⟨rfl, trivial⟩ ⟨rfl, trivial⟩ rfl (fun a w h => ?_)
  refine wp_ret ?_
  refine ret_row h 0 26 rfl (lk rfl) 0 rfl ([(Value.int IntKind.u64 17627433388654248598)] ++ [(Value.int IntKind.u64 8575836109218198432)] ++ [(Value.int IntKind.u64 17923454489921339634)] ++ [(Value.int IntKind.u64 7716867327612699207)] ++ [(Value.int IntKind.u64 14678990851816772085)] ++ [(Value.int IntKind.u64 3156516839386865358)] ++ [(Value.int IntKind.u64 10297457778147434006)] ++ [(Value.int IntKind.u64 5756518291402817435)] ++ [Value.bool false]) rfl _ Tryd.underlying26 rfl i26 ?_
  exact ⟨by rw [pc_G], h.grows⟩
end Go.Proofs.YtimaaendbfjblaaDoor
