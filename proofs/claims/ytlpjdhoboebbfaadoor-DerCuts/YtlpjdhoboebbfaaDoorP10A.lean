/- What the program's own fewest, integer and Encode of layer 10 answer. -/
import Derived.Test.YtlpjdhoboebbfaaDoorP10C
namespace Go.Proofs.YtlpjdhoboebbfaaDoor
open Go.RowKit

theorem be_drop (A m k : Nat) (hk : k ≤ m) : (be A m).drop k = be A (m - k) := by
  apply List.ext_getElem?
  intro i
  rw [List.getElem?_drop]
  rcases Nat.lt_or_ge (k + i) m with h | h
  · rw [be_at A m (k + i) h, be_at A (m - k) i (by omega), show m - 1 - (k + i) = m - k - 1 - i by omega]
  · rw [List.getElem?_eq_none (by rw [be_len]; exact h), List.getElem?_eq_none (by rw [be_len]; omega)]
theorem few_33 {A : Nat} (hA : A < 2 ^ 256) : [0] ++ be A 32 = be A 33 := by
  have e : (2 : Nat) ^ 256 = 256 ^ 32 := by decide
  rw [e] at hA
  have h := be_head A 32 hA
  rw [List.singleton_append]
  exact h.symm
theorem few_lt (A : Nat) : ∀ x ∈ ([0] ++ be A 32), x < 256 := lt_app (fun x hx => by rw [List.mem_singleton.1 hx]; decide) (be_lt A 32)
theorem few_at {A i : Nat} (hA : A < 2 ^ 256) (hi : i ≤ 32) : ([0] ++ be A 32).getD i 0 = A / 256 ^ (32 - i) % 256 := by
  rw [few_33 hA, be_getD A (by omega), show 33 - 1 - i = 32 - i by omega]
/-- Where fewest ends. -/
theorem few_end {A k : Nat} (hA : A < 2 ^ 256) (hk : k ≤ 32) (hG : ∀ i, i < k → ([0] ++ be A 32).getD i 0 = 0 ∧ ([0] ++ be A 32).getD (i + 1) 0 < 128) (he : k = 32 ∨ ([0] ++ be A 32).getD k 0 ≠ 0 ∨ 128 ≤ ([0] ++ be A 32).getD (k + 1) 0) : msz A = 33 - k := by
  have pos : ∀ n, 0 < 256 ^ n := fun n => Nat.pow_pos (by decide)
  have low : ∀ j, j ≤ k → A < 128 * 256 ^ (32 - j) := by
    intro j
    induction j with
    | zero => intro _; exact Nat.lt_of_lt_of_le hA (by decide)
    | succ j ih =>
      intro hj
      have h1 := ih (by omega)
      obtain ⟨g1, g2⟩ := hG j (by omega)
      rw [few_at hA (by omega)] at g1
      rw [few_at hA (by omega)] at g2
      have d1 : A / 256 ^ (32 - j) < 128 := Nat.div_lt_of_lt_mul (by rw [Nat.mul_comm]; exact h1)
      have z1 : A / 256 ^ (32 - j) = 0 := by rw [Nat.mod_eq_of_lt (Nat.lt_trans d1 (by decide))] at g1; exact g1
      have l1 : A < 256 ^ (32 - j) := by
        rcases Nat.lt_or_ge A (256 ^ (32 - j)) with q | q
        · exact q
        · have := Nat.div_pos q (pos _); omega
      have e : 256 ^ (32 - j) = 256 ^ (32 - (j + 1)) * 256 := by rw [← Nat.pow_succ, show (32 - (j + 1)).succ = 32 - j by omega]
      have d2 : A / 256 ^ (32 - (j + 1)) < 256 := Nat.div_lt_of_lt_mul (by rw [← e]; exact l1)
      rw [Nat.mod_eq_of_lt d2] at g2
      rcases Nat.lt_or_ge A (128 * 256 ^ (32 - (j + 1))) with q | q
      · exact q
      · have := (Nat.le_div_iff_mul_le (pos (32 - (j + 1)))).2 q; omega
  refine msz_of hA (by rw [show 33 - k - 1 = 32 - k by omega]; exact low k (Nat.le_refl _)) ?_ (by omega)
  by_cases h32 : k = 32
  · left; omega
  · right
    have e : 256 ^ (32 - k) = 256 ^ (31 - k) * 256 := by rw [← Nat.pow_succ, show (31 - k).succ = 32 - k by omega]
    rw [show 33 - k - 2 = 31 - k by omega]
    rcases he with he | he | he
    · omega
    · rw [few_at hA (by omega)] at he
      have h1 : 1 ≤ A / 256 ^ (32 - k) := Nat.pos_of_ne_zero (fun z => he (by rw [z]))
      have h2 := (Nat.le_div_iff_mul_le (pos (32 - k))).1 h1
      omega
    · rw [few_at hA (by omega), show 32 - (k + 1) = 31 - k by omega] at he
      have h1 : 128 ≤ A / 256 ^ (31 - k) := Nat.le_trans he (Nat.mod_le _ _)
      exact (Nat.le_div_iff_mul_le (pos (31 - k))).1 h1
theorem few_tail {A k : Nat} (hk : k < 33) : Vr (rdPd (33 - k) (([0] ++ be A 32).drop k)) (fun v => tailV (1) (id v)) (33 - (k + 1)) (([0] ++ be A 32).drop (k + 1)) := by
  have h := vr_tail (vr_rd (n := 33 - k) (l := ([0] ++ be A 32).drop k)) 1 (by omega)
  rw [List.drop_drop] at h
  exact h
theorem few_byte (l : List Nat) (k j : Nat) : (l.drop k).getD j 0 = l.getD (k + j) 0 := by
  rw [List.getD_eq_getElem?_getD, List.getElem?_drop, ← List.getD_eq_getElem?_getD]
set_option maxRecDepth 100000 in
set_option maxHeartbeats 4000000 in
theorem few_any {A : Nat} (hA : A < 2 ^ 256) (w : World) : Calls Tryd.prog 24 [.agg (nc (A : Int)).toArray].toArray w fun e w' => ∃ v Fp, e = .returned v ∧ (rdPd (msz A) (be A (msz A))).p v Fp w' ∧ (∀ b, Fp b = true → w.heap.size ≤ b ∧ b < w'.heap.size) ∧ Below w.heap.size w w' := by
  refine enter (args := [.agg (nc (((A : Nat) : Int))).toArray]) Tryd.func24 rfl 27 rfl (lk rfl) (fun a h => ?_)
  refine a_region TT h hm [] [eN 1 (nc (((A : Nat) : Int))), eS 2 (.val ((Value.slice none 0 0)))] (by kernel_rfl) ⟨rfl, rfl, trivial⟩ [(1, .ptr 1 0)] [(1, nc (((A : Nat) : Int)))] ⟨rfl, trivial⟩ ⟨rfl, trivial⟩ rfl (fun a w h => ?_)
  refine a_regionQ TT h hm [0, 2, 3, 4, 5] [eQ 4 (rowPd 5 1 (1) (cells8 ([0]))), eS 5 (.val (.agg (nc (((A : Nat) : Int))).toArray)), eQ 6 (rdPd (32) (be A 32)), eB 7 (twoPd (1) ([0]) (32) (be A 32)) 4 6, eQ 8 (rowPd 5 1 (1 + (32)) (cells8 ([0] ++ (be A 32)))), eS 3 (.unk 8 id)] (by kernel_rfl) ⟨fun L u => u_litQ u (gd0 rfl) 4 rfl rfl 1 #[(0, (.const (.int .u8 0)))] rfl [(0, (Value.int IntKind.u8 0))] rfl (cells8 [0]) (by decide) rfl (by kernel_rfl), rfl, fun L u => u_callQ u (gd0 rfl) 6 rfl rfl 31 #[(.tmp 5)] #[26] rfl [.val (.agg (nc (((A : Nat) : Int))).toArray)] rfl (fun vs w => callFunc_enter Tryd.func31 (by kernel_rfl) (by kernel_rfl) vs w) (rdPd (32) (be A 32)) (fun β a w hr => putBig_rd A _), fun L u => u_two u (gd0 rfl) 7 rfl rfl (.tmp 4) (.tmp 6) rfl rfl rfl rfl rfl rfl rfl rfl (vr_row (l := [0]) (lt_lit (l := [0]) (by simp))) vr_rd, fun L u => u_callQ u (gd0 rfl) 8 rfl rfl 15 #[(.tmp 7)] #[49] rfl [.unk 7 id] rfl (fun vs w => callFunc_enter Tryd.func15 (by kernel_rfl) (by kernel_rfl) vs w) (rowPd 5 1 (1 + (32)) (cells8 ([0] ++ (be A 32)))) (fun β a w hr => con_two (by omega) (by omega) (hr.thing (x := 7) (p := twoPd (1) ([0]) (32) (be A 32)) (u.q rfl))), fun L u => u_copyQ u (gd0 rfl) 3 rfl (.tmp 8) (Or.inr rfl) rfl rfl, trivial⟩ [(3, .unk 8 id)] [] [(8, rowPd 5 1 (1 + (32)) (cells8 ([0] ++ (be A 32))))] ⟨rfl, trivial⟩ trivial ⟨rfl, trivial⟩ rfl (fun a w h => ?_)
  refine wp_seq ?_
  refine wp_block ?_
  replace h := h.reseat 8 8 3 (lk rfl) rfl (Or.inl rfl) rfl (m := 33 - 0) (l := ([0] ++ be A 32).drop 0) (vr_row (l := ([0] ++ be A 32)) (few_lt A)) [] trivial rfl
  replace h := h.keepQ [(3, .unk 8 id)] [] [(8, rdPd (33 - 0) (([0] ++ be A 32).drop 0))] ⟨rfl, trivial⟩ trivial ⟨rfl, trivial⟩ rfl
  refine go_loop (fun (k : Nat) => SS.mkQ [(3, .unk 8 id)] [] [(8, rdPd (33 - k) (([0] ++ be A 32).drop k))]) (fun k => k ≤ 32 ∧ ∀ i, i < k → ([0] ++ be A 32).getD i 0 = 0 ∧ ([0] ++ be A 32).getD (i + 1) 0 < 128) (fun k => 32 - k) (i := 0) (h.keepQ [(3, .unk 8 id)] [] [(8, rdPd (33 - (0)) (([0] ++ be A 32).drop (0)))] ⟨rfl, trivial⟩ trivial ⟨rfl, trivial⟩ rfl) ⟨by omega, fun i hi => by omega⟩ (fun k a w hG h => ?_)
  by_cases hs : k < 32
  · skip
    by_cases hz : ([0] ++ be A 32).getD k 0 = 0
    · skip
      by_cases hb : ([0] ++ be A 32).getD (k + 1) 0 < 128
      · skip
        refine wp_seq ?_
        refine a_regionQ TT h hm [0, 1, 2, 4, 5, 6, 7, 10, 11, 12, 13] [eS 9 (.unk 8 id), eS 10 (.val (Value.int .i64 ((33 - k : Nat) : Int))), eS 11 (.val (Value.bool true)), eS 12 (.val (Value.bool true)), eS 13 (.unk 8 id), eS 14 (.unk 8 (fun v => elemV (0) (id v))), eS 15 (.val (Value.int .u8 ((([0] ++ be A 32).getD (k) 0 : Nat) : Int))), eS 16 (.val (Value.bool true)), eS 17 (.val (Value.bool true)), eS 18 (.val (Value.bool true)), eS 19 (.unk 8 id), eS 20 (.unk 8 (fun v => elemV (1) (id v))), eS 21 (.val (Value.int .u8 ((([0] ++ be A 32).getD (k + 1) 0 : Nat) : Int))), eS 22 (.val (Value.bool true)), eS 23 (.val (Value.bool true))] (by kernel_rfl) ⟨fun L u => u_copyQ u (gd0 rfl) 9 rfl (.tmp 3) (Or.inl rfl) rfl rfl, fun L u => q_len u (gd0 rfl) 10 rfl (.tmp 9) rfl rfl rfl vw_rd, fun L u => u_bin u (gd0 rfl) 11 rfl .gtr 3 3 (.tmp 10) (.const (.int .i64 1)) rfl rfl rfl (eqg_int _ _ _ _ _ _ _ _) (Value.bool true) (yes_of (fun w => i_gtr _ _ _ _ w) (by omega)), rfl, fun L u => u_copyQ u (gd1 u 3 true rfl 12 rfl (lk rfl) rfl) 13 rfl (.tmp 3) (Or.inl rfl) rfl rfl, fun L u => q_at u (gd1 u 3 true rfl 12 rfl (lk rfl) rfl) 14 rfl (.tmp 13) (.const (.int .i64 0)) rfl rfl rfl vw_rd (0) rfl (by omega), fun L u => q_load u (gd1 u 3 true rfl 12 rfl (lk rfl) rfl) 15 rfl (.tmp 14) rfl rfl rfl vw_rd (by omega) (([0] ++ be A 32).getD (k) 0) (few_byte _ k 0), fun L u => u_bin u (gd1 u 3 true rfl 12 rfl (lk rfl) rfl) 16 rfl .eql 5 5 (.tmp 15) (.const (.int .u8 0)) rfl rfl rfl (eqg_int _ _ _ _ _ _ _ _) (Value.bool true) (yes_of (fun w => i_eql _ _ _ _ w) (by omega)), rfl, rfl, fun L u => u_copyQ u (gd1 u 9 true rfl 18 rfl (lk rfl) rfl) 19 rfl (.tmp 3) (Or.inl rfl) rfl rfl, fun L u => q_at u (gd1 u 9 true rfl 18 rfl (lk rfl) rfl) 20 rfl (.tmp 19) (.const (.int .i64 1)) rfl rfl rfl vw_rd (1) rfl (by omega), fun L u => q_load u (gd1 u 9 true rfl 18 rfl (lk rfl) rfl) 21 rfl (.tmp 20) rfl rfl rfl vw_rd (by omega) (([0] ++ be A 32).getD (k + 1) 0) (few_byte _ k 1), fun L u => u_bin u (gd1 u 9 true rfl 18 rfl (lk rfl) rfl) 22 rfl .lss 5 5 (.tmp 21) (.const (.int .u8 128)) rfl rfl rfl (eqg_int _ _ _ _ _ _ _ _) (Value.bool true) (yes_of (fun w => i_lss _ _ _ _ w) (by omega)), rfl, trivial⟩ [(3, .unk 8 id), (23, .val (Value.bool true))] [] [(8, rdPd (33 - k) (([0] ++ be A 32).drop k))] ⟨rfl, rfl, trivial⟩ trivial ⟨rfl, trivial⟩ rfl (fun a w h => ?_)
        refine go_cond h true rfl (fun ht => ?_) (fun hf => ?_)
        case refine_2 => cases hf
        refine wp_skip ?_
        refine then_norm ?_
        refine wp_block ?_
        refine a_endQ TT h hm [0, 1, 2] [eS 24 (.unk 8 id), eS 25 (.unk 8 (fun v => tailV (1) (id v))), eS 3 (.unk 8 (fun v => tailV (1) (id v)))] (by kernel_rfl) ⟨fun L u => u_copyQ u (gd0 rfl) 24 rfl (.tmp 3) (Or.inl rfl) rfl rfl, fun L u => q_tail u (gd0 rfl) 25 rfl (.tmp 24) (.const (.int .i64 1)) rfl rfl rfl vw_rd (1) rfl (by omega), fun L u => u_copyQ u (gd0 rfl) 3 rfl (.tmp 25) (Or.inr rfl) rfl rfl, trivial⟩ [(3, .unk 8 (fun v => tailV (1) (id v)))] [] [(8, rdPd (33 - k) (([0] ++ be A 32).drop k))] ⟨rfl, trivial⟩ trivial ⟨rfl, trivial⟩ rfl (fun a w h => ?_)
        replace h := h.reseat 8 8 3 (lk rfl) rfl (Or.inl rfl) rfl (m := 33 - (k + 1)) (l := ([0] ++ be A 32).drop (k + 1)) (few_tail (by omega)) [] trivial rfl
        replace h := h.keepQ [(3, .unk 8 id)] [] [(8, rdPd (33 - (k + 1)) (([0] ++ be A 32).drop (k + 1)))] ⟨rfl, trivial⟩ trivial ⟨rfl, trivial⟩ rfl
        refine blk_norm ?_
        refine then_norm ?_
        exact ⟨k + 1, ⟨by omega, fun i hi => by rcases Nat.lt_or_ge i k with h1 | h1; exact hG.2 i h1; rw [show i = k by omega]; exact ⟨hz, hb⟩⟩, (by omega), h.keepQ [(3, .unk 8 id)] [] [(8, rdPd (33 - (k + 1)) (([0] ++ be A 32).drop (k + 1)))] ⟨rfl, trivial⟩ trivial ⟨rfl, trivial⟩ rfl⟩
      · skip
        refine wp_seq ?_
        refine a_regionQ TT h hm [0, 1, 2, 4, 5, 6, 7, 10, 11, 12, 13] [eS 9 (.unk 8 id), eS 10 (.val (Value.int .i64 ((33 - k : Nat) : Int))), eS 11 (.val (Value.bool true)), eS 12 (.val (Value.bool true)), eS 13 (.unk 8 id), eS 14 (.unk 8 (fun v => elemV (0) (id v))), eS 15 (.val (Value.int .u8 ((([0] ++ be A 32).getD (k) 0 : Nat) : Int))), eS 16 (.val (Value.bool true)), eS 17 (.val (Value.bool true)), eS 18 (.val (Value.bool true)), eS 19 (.unk 8 id), eS 20 (.unk 8 (fun v => elemV (1) (id v))), eS 21 (.val (Value.int .u8 ((([0] ++ be A 32).getD (k + 1) 0 : Nat) : Int))), eS 22 (.val (Value.bool false)), eS 23 (.val (Value.bool false))] (by kernel_rfl) ⟨fun L u => u_copyQ u (gd0 rfl) 9 rfl (.tmp 3) (Or.inl rfl) rfl rfl, fun L u => q_len u (gd0 rfl) 10 rfl (.tmp 9) rfl rfl rfl vw_rd, fun L u => u_bin u (gd0 rfl) 11 rfl .gtr 3 3 (.tmp 10) (.const (.int .i64 1)) rfl rfl rfl (eqg_int _ _ _ _ _ _ _ _) (Value.bool true) (yes_of (fun w => i_gtr _ _ _ _ w) (by omega)), rfl, fun L u => u_copyQ u (gd1 u 3 true rfl 12 rfl (lk rfl) rfl) 13 rfl (.tmp 3) (Or.inl rfl) rfl rfl, fun L u => q_at u (gd1 u 3 true rfl 12 rfl (lk rfl) rfl) 14 rfl (.tmp 13) (.const (.int .i64 0)) rfl rfl rfl vw_rd (0) rfl (by omega), fun L u => q_load u (gd1 u 3 true rfl 12 rfl (lk rfl) rfl) 15 rfl (.tmp 14) rfl rfl rfl vw_rd (by omega) (([0] ++ be A 32).getD (k) 0) (few_byte _ k 0), fun L u => u_bin u (gd1 u 3 true rfl 12 rfl (lk rfl) rfl) 16 rfl .eql 5 5 (.tmp 15) (.const (.int .u8 0)) rfl rfl rfl (eqg_int _ _ _ _ _ _ _ _) (Value.bool true) (yes_of (fun w => i_eql _ _ _ _ w) (by omega)), rfl, rfl, fun L u => u_copyQ u (gd1 u 9 true rfl 18 rfl (lk rfl) rfl) 19 rfl (.tmp 3) (Or.inl rfl) rfl rfl, fun L u => q_at u (gd1 u 9 true rfl 18 rfl (lk rfl) rfl) 20 rfl (.tmp 19) (.const (.int .i64 1)) rfl rfl rfl vw_rd (1) rfl (by omega), fun L u => q_load u (gd1 u 9 true rfl 18 rfl (lk rfl) rfl) 21 rfl (.tmp 20) rfl rfl rfl vw_rd (by omega) (([0] ++ be A 32).getD (k + 1) 0) (few_byte _ k 1), fun L u => u_bin u (gd1 u 9 true rfl 18 rfl (lk rfl) rfl) 22 rfl .lss 5 5 (.tmp 21) (.const (.int .u8 128)) rfl rfl rfl (eqg_int _ _ _ _ _ _ _ _) (Value.bool false) (no_of (fun w => i_lss _ _ _ _ w) (by omega)), rfl, trivial⟩ [(3, .unk 8 id), (23, .val (Value.bool false))] [] [(8, rdPd (33 - k) (([0] ++ be A 32).drop k))] ⟨rfl, rfl, trivial⟩ trivial ⟨rfl, trivial⟩ rfl (fun a w h => ?_)
        refine go_cond h false rfl (fun ht => ?_) (fun hf => ?_)
        case refine_1 => cases ht
        refine wp_exit ?_
        refine then_exit ?_
        refine then_exit ?_
        refine blk_exit ?_
        refine then_norm ?_
        refine a_regionQ TT h hm [0, 1] [eS 26 (.unk 8 id), eS 2 (.unk 8 id)] (by kernel_rfl) ⟨fun L u => u_copyQ u (gd0 rfl) 26 rfl (.tmp 3) (Or.inl rfl) rfl rfl, fun L u => u_copyQ u (gd0 rfl) 2 rfl (.tmp 26) (Or.inr rfl) rfl rfl, trivial⟩ [(2, .unk 8 id)] [] [(8, rdPd (33 - k) (([0] ++ be A 32).drop k))] ⟨rfl, trivial⟩ trivial ⟨rfl, trivial⟩ rfl (fun a w h => ?_)
        refine wp_ret ?_
        refine ret_thing h 2 rfl (lk rfl) 8 id rfl rfl (fun v F hp hF => ?_)
        exact ⟨v, F, rfl, by replace hp : (rdPd (33 - k) (([0] ++ be A 32).drop k)).p v F w := hp; have e := few_end hA hG.1 hG.2 (Or.inr (Or.inr (by omega))); rw [few_33 hA, be_drop A 33 k (by omega), ← e] at hp; exact hp, hF, h.grows⟩
    · skip
      by_cases hb : ([0] ++ be A 32).getD (k + 1) 0 < 128
      · skip
        refine wp_seq ?_
        refine a_regionQ TT h hm [0, 1, 2, 4, 5, 6, 7] [eS 9 (.unk 8 id), eS 10 (.val (Value.int .i64 ((33 - k : Nat) : Int))), eS 11 (.val (Value.bool true)), eS 12 (.val (Value.bool true)), eS 13 (.unk 8 id), eS 14 (.unk 8 (fun v => elemV (0) (id v))), eS 15 (.val (Value.int .u8 ((([0] ++ be A 32).getD (k) 0 : Nat) : Int))), eS 16 (.val (Value.bool false)), eS 17 (.val (Value.bool false)), eS 18 (.val (Value.bool false)), eS 19 (.val undef), eS 20 (.val undef), eS 21 (.val undef), eS 22 (.val undef), eS 23 (.val (Value.bool false))] (by kernel_rfl) ⟨fun L u => u_copyQ u (gd0 rfl) 9 rfl (.tmp 3) (Or.inl rfl) rfl rfl, fun L u => q_len u (gd0 rfl) 10 rfl (.tmp 9) rfl rfl rfl vw_rd, fun L u => u_bin u (gd0 rfl) 11 rfl .gtr 3 3 (.tmp 10) (.const (.int .i64 1)) rfl rfl rfl (eqg_int _ _ _ _ _ _ _ _) (Value.bool true) (yes_of (fun w => i_gtr _ _ _ _ w) (by omega)), rfl, fun L u => u_copyQ u (gd1 u 3 true rfl 12 rfl (lk rfl) rfl) 13 rfl (.tmp 3) (Or.inl rfl) rfl rfl, fun L u => q_at u (gd1 u 3 true rfl 12 rfl (lk rfl) rfl) 14 rfl (.tmp 13) (.const (.int .i64 0)) rfl rfl rfl vw_rd (0) rfl (by omega), fun L u => q_load u (gd1 u 3 true rfl 12 rfl (lk rfl) rfl) 15 rfl (.tmp 14) rfl rfl rfl vw_rd (by omega) (([0] ++ be A 32).getD (k) 0) (few_byte _ k 0), fun L u => u_bin u (gd1 u 3 true rfl 12 rfl (lk rfl) rfl) 16 rfl .eql 5 5 (.tmp 15) (.const (.int .u8 0)) rfl rfl rfl (eqg_int _ _ _ _ _ _ _ _) (Value.bool false) (no_of (fun w => i_eql _ _ _ _ w) (by omega)), rfl, rfl, rfl, rfl, rfl, rfl, rfl, trivial⟩ [(3, .unk 8 id), (23, .val (Value.bool false))] [] [(8, rdPd (33 - k) (([0] ++ be A 32).drop k))] ⟨rfl, rfl, trivial⟩ trivial ⟨rfl, trivial⟩ rfl (fun a w h => ?_)
        refine go_cond h false rfl (fun ht => ?_) (fun hf => ?_)
        case refine_1 => cases ht
        refine wp_exit ?_
        refine then_exit ?_
        refine then_exit ?_
        refine blk_exit ?_
        refine then_norm ?_
        refine a_regionQ TT h hm [0, 1] [eS 26 (.unk 8 id), eS 2 (.unk 8 id)] (by kernel_rfl) ⟨fun L u => u_copyQ u (gd0 rfl) 26 rfl (.tmp 3) (Or.inl rfl) rfl rfl, fun L u => u_copyQ u (gd0 rfl) 2 rfl (.tmp 26) (Or.inr rfl) rfl rfl, trivial⟩ [(2, .unk 8 id)] [] [(8, rdPd (33 - k) (([0] ++ be A 32).drop k))] ⟨rfl, trivial⟩ trivial ⟨rfl, trivial⟩ rfl (fun a w h => ?_)
        refine wp_ret ?_
        refine ret_thing h 2 rfl (lk rfl) 8 id rfl rfl (fun v F hp hF => ?_)
        exact ⟨v, F, rfl, by replace hp : (rdPd (33 - k) (([0] ++ be A 32).drop k)).p v F w := hp; have e := few_end hA hG.1 hG.2 (Or.inr (Or.inl hz)); rw [few_33 hA, be_drop A 33 k (by omega), ← e] at hp; exact hp, hF, h.grows⟩
      · skip
        refine wp_seq ?_
        refine a_regionQ TT h hm [0, 1, 2, 4, 5, 6, 7] [eS 9 (.unk 8 id), eS 10 (.val (Value.int .i64 ((33 - k : Nat) : Int))), eS 11 (.val (Value.bool true)), eS 12 (.val (Value.bool true)), eS 13 (.unk 8 id), eS 14 (.unk 8 (fun v => elemV (0) (id v))), eS 15 (.val (Value.int .u8 ((([0] ++ be A 32).getD (k) 0 : Nat) : Int))), eS 16 (.val (Value.bool false)), eS 17 (.val (Value.bool false)), eS 18 (.val (Value.bool false)), eS 19 (.val undef), eS 20 (.val undef), eS 21 (.val undef), eS 22 (.val undef), eS 23 (.val (Value.bool false))] (by kernel_rfl) ⟨fun L u => u_copyQ u (gd0 rfl) 9 rfl (.tmp 3) (Or.inl rfl) rfl rfl, fun L u => q_len u (gd0 rfl) 10 rfl (.tmp 9) rfl rfl rfl vw_rd, fun L u => u_bin u (gd0 rfl) 11 rfl .gtr 3 3 (.tmp 10) (.const (.int .i64 1)) rfl rfl rfl (eqg_int _ _ _ _ _ _ _ _) (Value.bool true) (yes_of (fun w => i_gtr _ _ _ _ w) (by omega)), rfl, fun L u => u_copyQ u (gd1 u 3 true rfl 12 rfl (lk rfl) rfl) 13 rfl (.tmp 3) (Or.inl rfl) rfl rfl, fun L u => q_at u (gd1 u 3 true rfl 12 rfl (lk rfl) rfl) 14 rfl (.tmp 13) (.const (.int .i64 0)) rfl rfl rfl vw_rd (0) rfl (by omega), fun L u => q_load u (gd1 u 3 true rfl 12 rfl (lk rfl) rfl) 15 rfl (.tmp 14) rfl rfl rfl vw_rd (by omega) (([0] ++ be A 32).getD (k) 0) (few_byte _ k 0), fun L u => u_bin u (gd1 u 3 true rfl 12 rfl (lk rfl) rfl) 16 rfl .eql 5 5 (.tmp 15) (.const (.int .u8 0)) rfl rfl rfl (eqg_int _ _ _ _ _ _ _ _) (Value.bool false) (no_of (fun w => i_eql _ _ _ _ w) (by omega)), rfl, rfl, rfl, rfl, rfl, rfl, rfl, trivial⟩ [(3, .unk 8 id), (23, .val (Value.bool false))] [] [(8, rdPd (33 - k) (([0] ++ be A 32).drop k))] ⟨rfl, rfl, trivial⟩ trivial ⟨rfl, trivial⟩ rfl (fun a w h => ?_)
        refine go_cond h false rfl (fun ht => ?_) (fun hf => ?_)
        case refine_1 => cases ht
        refine wp_exit ?_
        refine then_exit ?_
        refine then_exit ?_
        refine blk_exit ?_
        refine then_norm ?_
        refine a_regionQ TT h hm [0, 1] [eS 26 (.unk 8 id), eS 2 (.unk 8 id)] (by kernel_rfl) ⟨fun L u => u_copyQ u (gd0 rfl) 26 rfl (.tmp 3) (Or.inl rfl) rfl rfl, fun L u => u_copyQ u (gd0 rfl) 2 rfl (.tmp 26) (Or.inr rfl) rfl rfl, trivial⟩ [(2, .unk 8 id)] [] [(8, rdPd (33 - k) (([0] ++ be A 32).drop k))] ⟨rfl, trivial⟩ trivial ⟨rfl, trivial⟩ rfl (fun a w h => ?_)
        refine wp_ret ?_
        refine ret_thing h 2 rfl (lk rfl) 8 id rfl rfl (fun v F hp hF => ?_)
        exact ⟨v, F, rfl, by replace hp : (rdPd (33 - k) (([0] ++ be A 32).drop k)).p v F w := hp; have e := few_end hA hG.1 hG.2 (Or.inr (Or.inl hz)); rw [few_33 hA, be_drop A 33 k (by omega), ← e] at hp; exact hp, hF, h.grows⟩
  · skip
    refine wp_seq ?_
    refine a_regionQ TT h hm [0, 1, 2] [eS 9 (.unk 8 id), eS 10 (.val (Value.int .i64 ((33 - k : Nat) : Int))), eS 11 (.val (Value.bool false)), eS 12 (.val (Value.bool false)), eS 13 (.val undef), eS 14 (.val undef), eS 15 (.val undef), eS 16 (.val undef), eS 17 (.val (Value.bool false)), eS 18 (.val (Value.bool false)), eS 19 (.val undef), eS 20 (.val undef), eS 21 (.val undef), eS 22 (.val undef), eS 23 (.val (Value.bool false))] (by kernel_rfl) ⟨fun L u => u_copyQ u (gd0 rfl) 9 rfl (.tmp 3) (Or.inl rfl) rfl rfl, fun L u => q_len u (gd0 rfl) 10 rfl (.tmp 9) rfl rfl rfl vw_rd, fun L u => u_bin u (gd0 rfl) 11 rfl .gtr 3 3 (.tmp 10) (.const (.int .i64 1)) rfl rfl rfl (eqg_int _ _ _ _ _ _ _ _) (Value.bool false) (no_of (fun w => i_gtr _ _ _ _ w) (by omega)), rfl, rfl, rfl, rfl, rfl, rfl, rfl, rfl, rfl, rfl, rfl, rfl, trivial⟩ [(3, .unk 8 id), (23, .val (Value.bool false))] [] [(8, rdPd (33 - k) (([0] ++ be A 32).drop k))] ⟨rfl, rfl, trivial⟩ trivial ⟨rfl, trivial⟩ rfl (fun a w h => ?_)
    refine go_cond h false rfl (fun ht => ?_) (fun hf => ?_)
    case refine_1 => cases ht
    refine wp_exit ?_
    refine then_exit ?_
    refine then_exit ?_
    refine blk_exit ?_
    refine then_norm ?_
    refine a_regionQ TT h hm [0, 1] [eS 26 (.unk 8 id), eS 2 (.unk 8 id)] (by kernel_rfl) ⟨fun L u => u_copyQ u (gd0 rfl) 26 rfl (.tmp 3) (Or.inl rfl) rfl rfl, fun L u => u_copyQ u (gd0 rfl) 2 rfl (.tmp 26) (Or.inr rfl) rfl rfl, trivial⟩ [(2, .unk 8 id)] [] [(8, rdPd (33 - k) (([0] ++ be A 32).drop k))] ⟨rfl, trivial⟩ trivial ⟨rfl, trivial⟩ rfl (fun a w h => ?_)
    refine wp_ret ?_
    refine ret_thing h 2 rfl (lk rfl) 8 id rfl rfl (fun v F hp hF => ?_)
    exact ⟨v, F, rfl, by replace hp : (rdPd (33 - k) (([0] ++ be A 32).drop k)).p v F w := hp; have e := few_end hA hG.1 hG.2 (Or.inl (by omega)); rw [few_33 hA, be_drop A 33 k (by omega), ← e] at hp; exact hp, hF, h.grows⟩
set_option maxRecDepth 100000 in
set_option maxHeartbeats 4000000 in
theorem e_int {A : Nat} (hA : A < 2 ^ 256) (w : World) : Calls Tryd.prog 16 [.agg (nc (A : Int)).toArray].toArray w fun e w' => ∃ v, e = .returned v ∧ w'.ownsRow w.heap.size 5 1 v (msz A + 2) (cells8 (dI A)) ∧ Below w.heap.size w w' := by
  have hmA := msz_spec hA
  refine enter (args := [.agg (nc (((A : Nat) : Int))).toArray]) Tryd.func16 rfl 13 rfl (lk rfl) (fun a h => ?_)
  refine a_region TT h hm [] [eN 1 (nc (((A : Nat) : Int))), eS 2 (.val ((Value.slice none 0 0)))] (by kernel_rfl) ⟨rfl, rfl, trivial⟩ [(1, .ptr 1 0)] [(1, nc (((A : Nat) : Int)))] ⟨rfl, trivial⟩ ⟨rfl, trivial⟩ rfl (fun a w h => ?_)
  refine a_regionQ TT h hm [1, 2] [eS 4 (.val (.agg (nc (((A : Nat) : Int))).toArray)), eQ 5 (rdPd (msz A) (be A (msz A))), eS 3 (.unk 5 id)] (by kernel_rfl) ⟨rfl, fun L u => u_callQ u (gd0 rfl) 5 rfl rfl 24 #[(.tmp 4)] #[26] rfl [.val (.agg (nc (((A : Nat) : Int))).toArray)] rfl (fun vs w => callFunc_enter Tryd.func24 (by kernel_rfl) (by kernel_rfl) vs w) (rdPd (msz A) (be A (msz A))) (fun β a w hr => few_any hA _), fun L u => u_copyQ u (gd0 rfl) 3 rfl (.tmp 5) (Or.inr rfl) rfl rfl, trivial⟩ [(3, .unk 5 id)] [] [(5, rdPd (msz A) (be A (msz A)))] ⟨rfl, trivial⟩ trivial ⟨rfl, trivial⟩ rfl (fun a w h => ?_)
  refine wp_seq ?_
  refine sq_begin [0, 1, 2, 3, 4, 5, 6, 7] rfl ?_
  refine sq_step h (i := 0) rfl (u_copyQ (xs := []) (up_seq (i := 0) (by kernel_rfl) rfl) (gd0 rfl) 6 rfl (.tmp 3) (Or.inl rfl) rfl rfl) (fun a w h => ?_)
  refine sq_step h (i := 1) rfl (q_len (xs := []) (up_seq (i := 1) (by kernel_rfl) rfl) (gd0 rfl) 7 rfl (.tmp 6) rfl rfl rfl vw_rd) (fun a w h => ?_)
  refine sq_step h (i := 2) rfl (u_conv (xs := []) (up_seq (i := 2) (by kernel_rfl) rfl) (gd0 rfl) 8 rfl 3 5 (.tmp 7) rfl rfl (Value.int .u8 ((msz A : Nat) : Int)) (fun w => c_u8 _ ⟨by omega, by omega⟩ w)) (fun a w h => ?_)
  refine sq_step h (i := 3) rfl (u_litQ (xs := []) (up_seq (i := 3) (by kernel_rfl) rfl) (gd0 rfl) 9 rfl rfl 2 #[(0, (.const (.int .u8 2))), (1, (.tmp 8))] rfl [(0, (Value.int IntKind.u8 2)), (1, Value.int .u8 ((msz A : Nat) : Int))] rfl (cells8 [2, msz A]) (by decide) rfl (by kernel_rfl)) (fun a w h => ?_)
  refine sq_step h (i := 4) rfl (u_copyQ (xs := []) (up_seq (i := 4) (by kernel_rfl) rfl) (gd0 rfl) 10 rfl (.tmp 3) (Or.inl rfl) rfl rfl) (fun a w h => ?_)
  refine sq_step h (i := 5) rfl (u_two (xs := []) (up_seq (i := 5) (by kernel_rfl) rfl) (gd0 rfl) 11 rfl rfl (.tmp 9) (.tmp 10) rfl rfl rfl rfl rfl rfl rfl rfl (vr_row (l := [2, msz A]) (lt_lit (l := [2, msz A]) (by intro x hx; simp at hx; omega))) vr_rd) (fun a w h => ?_)
  refine sq_step h (i := 6) rfl (u_callQ (xs := []) (up_seq (i := 6) (by kernel_rfl) rfl) (gd0 rfl) 12 rfl rfl 15 #[(.tmp 11)] #[49] rfl [.unk 11 id] rfl (fun vs w => callFunc_enter Tryd.func15 (by kernel_rfl) (by kernel_rfl) vs w) (rowPd 5 1 (2 + (msz A)) (cells8 ([2, msz A] ++ (be A (msz A))))) (fun β a w hr => con_two (by omega) (by omega) (hr.thing (x := 11) (p := twoPd (2) ([2, msz A]) (msz A) (be A (msz A))) rfl))) (fun a w h => ?_)
  refine sq_step h (i := 7) rfl (u_copyQ (xs := []) (up_seq (i := 7) (by kernel_rfl) rfl) (gd0 rfl) 2 rfl (.tmp 12) (Or.inr rfl) rfl rfl) (fun a w h => ?_)
  replace h := h.keepQ [(2, .unk 12 id)] [] [(12, rowPd 5 1 (2 + (msz A)) (cells8 ([2, msz A] ++ (be A (msz A)))))] ⟨rfl, trivial⟩ trivial ⟨rfl, trivial⟩ rfl
  refine sq_end ?_
  refine then_norm ?_
  refine wp_ret ?_
  refine ret_thing h 2 rfl (lk rfl) 12 id rfl rfl (fun v F hp hF => ?_)
  exact ⟨v, rfl, by have q := row_back hp hF; rw [show 2 + (msz A) = msz A + 2 by omega] at q; exact q, h.grows⟩
set_option maxRecDepth 100000 in
set_option maxHeartbeats 4000000 in
theorem e_Enc {A B : Nat} (hA : A < 2 ^ 256) (hB : B < 2 ^ 256) (w : World) : Calls Tryd.prog 9 [.agg (nc (A : Int)).toArray, .agg (nc (B : Int)).toArray].toArray w fun e w' => ∃ v, e = .returned v ∧ w'.ownsRow w.heap.size 5 1 v (msz A + msz B + 6) (cells8 (dE A B)) ∧ Below w.heap.size w w' := by
  have hmA := msz_spec hA
  have hmB := msz_spec hB
  refine enter (args := [.agg (nc (((A : Nat) : Int))).toArray, .agg (nc (((B : Nat) : Int))).toArray]) Tryd.func9 rfl 19 rfl (lk rfl) (fun a h => ?_)
  refine a_region TT h hm [] [eN 2 (nc (((A : Nat) : Int))), eN 3 (nc (((B : Nat) : Int))), eS 4 (.val ((Value.slice none 0 0)))] (by kernel_rfl) ⟨rfl, rfl, rfl, trivial⟩ [(2, .ptr 2 0), (3, .ptr 3 0)] [(2, nc (((A : Nat) : Int))), (3, nc (((B : Nat) : Int)))] ⟨rfl, rfl, trivial⟩ ⟨rfl, rfl, trivial⟩ rfl (fun a w h => ?_)
  refine a_regionQ TT h hm [1, 3, 4, 5, 6] [eS 6 (.val (.agg (nc (((A : Nat) : Int))).toArray)), eQ 7 (rowPd 5 1 (msz A + 2) (cells8 (dI A))), eS 8 (.val (.agg (nc (((B : Nat) : Int))).toArray)), eQ 9 (rowPd 5 1 (msz B + 2) (cells8 (dI B))), eB 10 (twoPd (msz A + 2) (dI A) (msz B + 2) (dI B)) 7 9, eQ 11 (rowPd 5 1 (msz A + 2 + (msz B + 2)) (cells8 (dI A ++ (dI B)))), eS 5 (.unk 11 id)] (by kernel_rfl) ⟨rfl, fun L u => u_callQ u (gd0 rfl) 7 rfl rfl 16 #[(.tmp 6)] #[26] rfl [.val (.agg (nc (((A : Nat) : Int))).toArray)] rfl (fun vs w => callFunc_enter Tryd.func16 (by kernel_rfl) (by kernel_rfl) vs w) (rowPd 5 1 (msz A + 2) (cells8 (dI A))) (fun β a w hr => thing_of (e_int hA _)), rfl, fun L u => u_callQ u (gd0 rfl) 9 rfl rfl 16 #[(.tmp 8)] #[26] rfl [.val (.agg (nc (((B : Nat) : Int))).toArray)] rfl (fun vs w => callFunc_enter Tryd.func16 (by kernel_rfl) (by kernel_rfl) vs w) (rowPd 5 1 (msz B + 2) (cells8 (dI B))) (fun β a w hr => thing_of (e_int hB _)), fun L u => u_two u (gd0 rfl) 10 rfl rfl (.tmp 7) (.tmp 9) rfl rfl rfl rfl rfl rfl rfl rfl (vr_row (l := dI A) (dI_lt hA)) (vr_row (l := dI B) (dI_lt hB)), fun L u => u_callQ u (gd0 rfl) 11 rfl rfl 15 #[(.tmp 10)] #[49] rfl [.unk 10 id] rfl (fun vs w => callFunc_enter Tryd.func15 (by kernel_rfl) (by kernel_rfl) vs w) (rowPd 5 1 (msz A + 2 + (msz B + 2)) (cells8 (dI A ++ (dI B)))) (fun β a w hr => con_two (by omega) (by omega) (hr.thing (x := 10) (p := twoPd (msz A + 2) (dI A) (msz B + 2) (dI B)) (u.q rfl))), fun L u => u_copyQ u (gd0 rfl) 5 rfl (.tmp 11) (Or.inr rfl) rfl rfl, trivial⟩ [(5, .unk 11 id)] [] [(11, rowPd 5 1 (msz A + 2 + (msz B + 2)) (cells8 (dI A ++ (dI B))))] ⟨rfl, trivial⟩ trivial ⟨rfl, trivial⟩ rfl (fun a w h => ?_)
  refine wp_seq ?_
  refine sq_begin [0, 1, 2, 3, 4, 5, 6, 7] rfl ?_
  refine sq_step h (i := 0) rfl (u_copyQ (xs := []) (up_seq (i := 0) (by kernel_rfl) rfl) (gd0 rfl) 12 rfl (.tmp 5) (Or.inl rfl) rfl rfl) (fun a w h => ?_)
  refine sq_step h (i := 1) rfl (q_len (xs := []) (up_seq (i := 1) (by kernel_rfl) rfl) (gd0 rfl) 13 rfl (.tmp 12) rfl rfl rfl (vw_row (l := dI A ++ (dI B)) (lt_app (dI_lt hA) (dI_lt hB)))) (fun a w h => ?_)
  refine sq_step h (i := 2) rfl (u_conv (xs := []) (up_seq (i := 2) (by kernel_rfl) rfl) (gd0 rfl) 14 rfl 3 5 (.tmp 13) rfl rfl (Value.int .u8 ((msz A + 2 + (msz B + 2) : Nat) : Int)) (fun w => c_u8 _ ⟨by omega, by omega⟩ w)) (fun a w h => ?_)
  refine sq_step h (i := 3) rfl (u_litQ (xs := []) (up_seq (i := 3) (by kernel_rfl) rfl) (gd0 rfl) 15 rfl rfl 2 #[(0, (.const (.int .u8 48))), (1, (.tmp 14))] rfl [(0, (Value.int IntKind.u8 48)), (1, Value.int .u8 ((msz A + 2 + (msz B + 2) : Nat) : Int))] rfl (cells8 [48, msz A + 2 + (msz B + 2)]) (by decide) rfl (by kernel_rfl)) (fun a w h => ?_)
  refine sq_step h (i := 4) rfl (u_copyQ (xs := []) (up_seq (i := 4) (by kernel_rfl) rfl) (gd0 rfl) 16 rfl (.tmp 5) (Or.inl rfl) rfl rfl) (fun a w h => ?_)
  refine sq_step h (i := 5) rfl (u_two (xs := []) (up_seq (i := 5) (by kernel_rfl) rfl) (gd0 rfl) 17 rfl rfl (.tmp 15) (.tmp 16) rfl rfl rfl rfl rfl rfl rfl rfl (vr_row (l := [48, msz A + 2 + (msz B + 2)]) (lt_lit (l := [48, msz A + 2 + (msz B + 2)]) (by intro x hx; simp at hx; omega))) (vr_row (l := dI A ++ (dI B)) (lt_app (dI_lt hA) (dI_lt hB)))) (fun a w h => ?_)
  refine sq_step h (i := 6) rfl (u_callQ (xs := []) (up_seq (i := 6) (by kernel_rfl) rfl) (gd0 rfl) 18 rfl rfl 15 #[(.tmp 17)] #[49] rfl [.unk 17 id] rfl (fun vs w => callFunc_enter Tryd.func15 (by kernel_rfl) (by kernel_rfl) vs w) (rowPd 5 1 (2 + (msz A + 2 + (msz B + 2))) (cells8 ([48, msz A + 2 + (msz B + 2)] ++ (dI A ++ (dI B))))) (fun β a w hr => con_two (by omega) (by omega) (hr.thing (x := 17) (p := twoPd (2) ([48, msz A + 2 + (msz B + 2)]) (msz A + 2 + (msz B + 2)) (dI A ++ (dI B))) rfl))) (fun a w h => ?_)
  refine sq_step h (i := 7) rfl (u_copyQ (xs := []) (up_seq (i := 7) (by kernel_rfl) rfl) (gd0 rfl) 4 rfl (.tmp 18) (Or.inr rfl) rfl rfl) (fun a w h => ?_)
  replace h := h.keepQ [(4, .unk 18 id)] [] [(18, rowPd 5 1 (2 + (msz A + 2 + (msz B + 2))) (cells8 ([48, msz A + 2 + (msz B + 2)] ++ (dI A ++ (dI B)))))] ⟨rfl, trivial⟩ trivial ⟨rfl, trivial⟩ rfl
  refine sq_end ?_
  refine then_norm ?_
  refine wp_ret ?_
  refine ret_thing h 4 rfl (lk rfl) 18 id rfl rfl (fun v F hp hF => ?_)
  exact ⟨v, rfl, by have q := row_back hp hF; rw [show [48, msz A + 2 + (msz B + 2)] ++ (dI A ++ (dI B)) = dE A B by simp [dE, dI_len], show 2 + (msz A + 2 + (msz B + 2)) = msz A + msz B + 6 by omega] at q; exact q, h.grows⟩
end Go.Proofs.YtlpjdhoboebbfaaDoor
