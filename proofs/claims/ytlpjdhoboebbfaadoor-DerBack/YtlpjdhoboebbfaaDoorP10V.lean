/- What the program's own value of layer 10, and slices.Equal, answer. -/
import Derived.Test.YtlpjdhoboebbfaaDoorP10B
namespace Go.Proofs.YtlpjdhoboebbfaaDoor
open Go.RowKit

theorem i42 : (Tryd.prog.info? 42).map (·.size) = some 1 := by kernel_rfl
theorem i56 : (Tryd.prog.info? 56).map (·.size) = some 32 := by kernel_rfl
theorem z56 : (Tryd.prog.info? 56).map (·.zero) = some (some (.agg (cells8 (List.replicate 32 0)).toArray)) := by kernel_rfl
theorem val_cells {m : Nat} (hm : m ≤ 32) (f : Nat → Nat) : cells8 (List.replicate (32 - m) 0 ++ fl f m) = splice (cells8 (List.replicate 32 0)) (if 32 = 32 - m then 0 else 32 - m) (cells8 (fl f m)) := by
  have hl : (cells8 (fl f m)).length = m := by rw [cells8_len, fl_len]
  have hc : ∀ k, (cells8 (List.replicate 32 0)).take k = cells8 ((List.replicate 32 0).take k) := fun k => by simp [cells8]
  by_cases h0 : m = 0
  · subst h0
    simp [splice, fl, cells8]
  · unfold splice
    rw [if_neg (by omega), hl, hc, List.take_replicate, show min (32 - m) 32 = 32 - m by omega, List.drop_of_length_le (by rw [cells8_len, List.length_replicate]; omega), List.append_nil]
    simp [cells8]
theorem val_lt {f : Nat → Nat} (hf : ∀ i, f i < 256) (k m : Nat) : ∀ x ∈ List.replicate k 0 ++ fl f m, x < 256 := lt_app (fun x hx => by rw [(List.mem_replicate.1 hx).2]; decide) (fl_lt hf m)
theorem cells_ba {w : World} {b n : Nat} {l : List Nat} (hl : ∀ x ∈ l, x < 256) (hn : l.length = n) (h : w.rangeAt b 0 (cells8 l)) : BA w (some ⟨b, 0, none⟩) n (fun i => l.getD i 0) := by
  refine ⟨fun i => ?_, Or.inr ⟨b, 0, rfl, ⟨fun i hi => ?_⟩⟩⟩
  · show l.getD i 0 < 256
    rw [List.getD_eq_getElem?_getD]
    cases hi : l[i]? with
    | none => simp
    | some x => simpa using hl x (List.mem_of_getElem? hi)
  · exact h i _ (cells8_at l i (by omega))
theorem val_num {n m : Nat} {f g : Nat → Nat} (hf : ∀ i, f i < 256) (hm : n - (n - 32) = m) (hg : ∀ i, g i = f (n - 32 + i)) : num (List.replicate (32 - m) 0 ++ fl g m) = num (fl f n) % 2 ^ 256 := by
  rw [num_app, num_zeros, Nat.zero_mul, Nat.zero_add]
  have e : fl g m = (fl f n).drop (n - 32) := by
    rw [fl_tail (by omega), hm, show g = fun i => f (n - 32 + i) from funext hg]
  rw [e]
  by_cases h : 32 ≤ n
  · have := num_last (fl_lt hf n) (by rw [fl_len]; exact h)
    rw [fl_len] at this
    exact this
  · rw [show n - 32 = 0 by omega, List.drop_zero, Nat.mod_eq_of_lt]
    have h1 := num_lt (fl_lt hf n)
    rw [fl_len] at h1
    have h2 : (256 : Nat) ^ n ≤ 256 ^ 32 := Nat.pow_le_pow_right (by decide) (by omega)
    have h3 : (2 : Nat) ^ 256 = 256 ^ 32 := by decide
    omega
theorem cE32 (vs : List Value) : ∀ w, (callFunc 32 vs.toArray).run Tryd.prog w = .ok (.enter 32 vs.toArray) w := callFunc_enter Tryd.func32 (by kernel_rfl) (by kernel_rfl) _
set_option maxRecDepth 100000 in
set_option maxHeartbeats 4000000 in
theorem val_at {w : World} {n c m cl U : Nat} {l : List Nat} {z zl : Option Addr} {g : Nat → Nat} (hmm : n - (n - 32) = m) (hll : l = List.replicate (32 - m) 0 ++ fl g m) (hlen : l.length = 32) (hlt : ∀ x ∈ l, x < 256) (hU : num l = U) (hzl : cutA z c (n - 32) = zl) (hcl : c - (n - 32) = cl) (hbl : ∀ w1, Below w.heap.size w w1 → BA w1 zl m g) (hn : n ≤ 1000) : Calls Tryd.prog 26 [Value.slice (z) (n) (c)].toArray w fun e w' => e = .returned (.agg (nc ((U : Nat) : Int)).toArray) ∧ Below w.heap.size w w' := by
  refine enter (args := [Value.slice (z) (n) (c)]) Tryd.func26 rfl 25 rfl (lk rfl) (fun a h => ?_)
  refine a_region TT h hm [] [eN 2 (nz)] (by kernel_rfl) ⟨rfl, trivial⟩ [(0, .val (Value.slice (z) (n) (c))), (2, .ptr 2 0)] [(2, nz)] ⟨rfl, rfl, trivial⟩ ⟨rfl, trivial⟩ rfl (fun a w h => ?_)
  refine a_region TT h hm [] [eN 3 (cells8 (List.replicate 32 0))] (by kernel_rfl) ⟨rfl, trivial⟩ [(0, .val (Value.slice (z) (n) (c))), (2, .ptr 2 0), (3, .ptr 3 0)] [(2, nz), (3, cells8 (List.replicate 32 0))] ⟨rfl, rfl, rfl, trivial⟩ ⟨rfl, rfl, trivial⟩ rfl (fun a w h => ?_)
  refine a_region TT h hm [2, 3, 4, 5] [eS 7 (.val (Value.slice (z) (n) (c))), eS 8 (.val (Value.slice (z) (n) (c))), eS 9 (.val (Value.int .i64 ((n : Nat) : Int))), eS 10 (.val (Value.int .i64 (((n : Nat) : Int) - 32))), eS 11 (.val (Value.int .i64 (((n - 32 : Nat) : Int)))), eS 12 (.val (Value.slice (zl) (m) (cl))), eS 4 (.val (Value.slice (zl) (m) (cl)))] (by kernel_rfl) ⟨rfl, rfl, fun L u => u_lenV u (gd0 rfl) 9 rfl (.tmp 8) 22 rfl rfl Tryd.underlying22, fun L u => u_bin u (gd0 rfl) 10 rfl .sub 3 3 (.tmp 9) (.const (.int .i64 32)) rfl rfl rfl (eqg_int _ _ _ _ _ _ _ _) (Value.int .i64 (((n : Nat) : Int) - 32)) (fun w => i_sub _ _ _ _ rfl ⟨by omega, by omega⟩ w), fun L u => u_max u (gd0 rfl) 11 rfl (.const (.int .i64 0)) (.tmp 10) #[3, 3] rfl rfl rfl (((n - 32 : Nat) : Int)) (by split <;> omega), fun L u => u_partT u (gd0 rfl) 12 rfl 22 (.tmp 7) (.tmp 11) rfl rfl rfl (Value.slice (zl) (m) (cl)) (fun w => by have q := run_fromS (a := z) (n := n) (c := c) (k := n - 32) (by omega) w; rw [hzl, hmm, hcl] at q; exact q), rfl, trivial⟩ [(2, .ptr 2 0), (3, .ptr 3 0), (4, .val (Value.slice (zl) (m) (cl)))] [(2, nz), (3, cells8 (List.replicate 32 0))] ⟨rfl, rfl, rfl, trivial⟩ ⟨rfl, rfl, trivial⟩ rfl (fun a w h => ?_)
  refine a_region TT h hm [1, 2, 3, 5] [eS 13 (.val (Value.slice (zl) (m) (cl))), eS 14 (.val (Value.int .i64 ((m : Nat) : Int))), eS 15 (.val (Value.int .i64 ((32 - m : Nat) : Int))), eS 16 (.sli 3 (if 32 = 32 - m then 0 else 32 - m) (32 - (32 - m)) (32 - (32 - m))), eS 17 (.val (Value.slice (zl) (m) (cl))), (⟨some (18, .val (Value.int .i64 ((m : Nat) : Int))), some (3, cells8 l), none, none, none⟩ : OE)] (by kernel_rfl) ⟨rfl, fun L u => u_lenV u (gd0 rfl) 14 rfl (.tmp 13) 22 rfl rfl Tryd.underlying22, fun L u => u_bin u (gd0 rfl) 15 rfl .sub 3 3 (.const (.int .i64 32)) (.tmp 14) rfl rfl rfl (eqg_int _ _ _ _ _ _ _ _) (Value.int .i64 ((32 - m : Nat) : Int)) (fun w => i_sub _ _ _ _ (by omega) ⟨by omega, by omega⟩ w), fun L u => u_sliceT u (gd0 rfl) 16 rfl 56 (.tmp 3) (.tmp 15) rfl rfl rfl Tryd.underlying56 i5 (off := 32 - m) rfl (by omega) (if 32 = 32 - m then 0 else 32 - m) rfl, rfl, fun L u => u_cpy u (gd0 rfl) 18 rfl (.tmp 16) (.tmp 17) rfl rfl rfl rfl (fun w hk => hbl w (Bs.kp_of hk)) (by omega) (by show (if 32 = 32 - m then 0 else 32 - m) + m ≤ (cells8 (List.replicate 32 0)).length; rw [cells8_len, List.length_replicate]; split <;> omega) (cells8 l) (by rw [hll]; exact val_cells (by omega) g), trivial⟩ [(2, .ptr 2 0), (3, .ptr 3 0)] [(2, nz), (3, cells8 l)] ⟨rfl, rfl, trivial⟩ ⟨rfl, rfl, trivial⟩ rfl (fun a w h => ?_)
  refine a_region TT h hm [0, 1] [eS 20 (.sli 3 0 32 32), eS 21 (.val (.tuple [Value.agg (nc (((U : Nat) : Int))).toArray, Value.bool true].toArray)), eS 19 (.val (.tuple [Value.agg (nc (((U : Nat) : Int))).toArray, Value.bool true].toArray)), eS 22 (.val (.agg (nc (((U : Nat) : Int))).toArray)), eS 23 (.val (Value.bool true)), eN 5 (nz), eM 5 (nc (((U : Nat) : Int))), eS 6 (.val (Value.bool true))] (by kernel_rfl) ⟨fun L u => u_slice u (gd0 rfl) 20 rfl 56 (.tmp 3) rfl rfl rfl Tryd.underlying56 i5, fun L u => u_callR u (gd0 rfl) 21 rfl 32 #[(.tmp 20)] #[22] rfl [.sli 3 0 32 32] rfl (fun vs w => callFunc_enter Tryd.func32 (by kernel_rfl) (by kernel_rfl) vs w) (.tuple [.agg (nc (((U : Nat) : Int))).toArray, Value.bool true].toArray) (fun β a w hr => by obtain ⟨_, _, c3, _⟩ := hr.va 3 (cells8 l) (u.m rfl); have q := big_num (c := 32) (l := l) hlen hlt (cells_ba hlt hlen c3); rw [hU] at q; exact q), rfl, rfl, rfl, rfl, rfl, rfl, trivial⟩ [(2, .ptr 2 0), (5, .ptr 5 0)] [(2, nz), (5, nc (((U : Nat) : Int)))] ⟨rfl, rfl, trivial⟩ ⟨rfl, rfl, trivial⟩ rfl (fun a w h => ?_)
  refine a_region TT h hm [] [eS 24 (.val (.agg (nc (((U : Nat) : Int))).toArray)), eM 2 (nc (((U : Nat) : Int)))] (by kernel_rfl) ⟨rfl, rfl, trivial⟩ [(2, .ptr 2 0)] [(2, nc (((U : Nat) : Int)))] ⟨rfl, trivial⟩ ⟨rfl, trivial⟩ rfl (fun a w h => ?_)
  refine wp_ret ?_
  refine ret_row h 2 26 rfl (lk rfl) 2 rfl (nc (((U : Nat) : Int))) rfl _ Tryd.underlying26 rfl i26 ?_
  exact ⟨rfl, h.grows⟩
theorem val_any {w : World} {n c : Nat} {z : Option Addr} {f : Nat → Nat} (hba : BA w z n f) (hnc : n ≤ c) (hn : n ≤ 1000) : Calls Tryd.prog 26 [Value.slice (z) (n) (c)].toArray w fun e w' => e = .returned (.agg (nc ((num (fl f n) % 2 ^ 256 : Nat) : Int)).toArray) ∧ Below w.heap.size w w' :=
  val_at (g := fun i => f (n - 32 + i)) rfl rfl (by rw [List.length_append, List.length_replicate, fl_len]; omega) (val_lt (fun i => hba.lt _) _ _) (val_num hba.lt rfl (fun _ => rfl)) rfl rfl (fun w1 hb => (hba.keep hb).cut c (n - 32) (n - (n - 32)) (by omega) hnc) hn
set_option maxRecDepth 100000 in
set_option maxHeartbeats 4000000 in
theorem eq_len {w : World} {n1 n2 c1 c2 : Nat} {z1 z2 : Option Addr} (hn : n1 ≠ n2) : Calls Tryd.prog 27 [Value.slice (z1) (n1) (c1), Value.slice (z2) (n2) (c2)].toArray w fun e w' => e = .returned (.bool false) ∧ Below w.heap.size w w' := by
  refine enter (args := [Value.slice (z1) (n1) (c1), Value.slice (z2) (n2) (c2)]) Tryd.func27 rfl 26 rfl (lk rfl) (fun a h => ?_)
  refine a_region TT h hm [] [eS 4 (.val (Value.bool false))] (by kernel_rfl) ⟨rfl, trivial⟩ [(0, .val (Value.slice (z1) (n1) (c1))), (1, .val (Value.slice (z2) (n2) (c2)))] [] ⟨rfl, rfl, trivial⟩ trivial rfl (fun a w h => ?_)
  refine wp_seq ?_
  refine a_region TT h hm [1, 3, 4] [eS 6 (.val (Value.slice (z1) (n1) (c1))), eS 7 (.val (Value.int .i64 ((n1 : Nat) : Int))), eS 8 (.val (Value.slice (z2) (n2) (c2))), eS 9 (.val (Value.int .i64 ((n2 : Nat) : Int))), eS 10 (.val (Value.bool true))] (by kernel_rfl) ⟨rfl, fun L u => u_lenV u (gd0 rfl) 7 rfl (.tmp 6) 22 rfl rfl Tryd.underlying22, rfl, fun L u => u_lenV u (gd0 rfl) 9 rfl (.tmp 8) 22 rfl rfl Tryd.underlying22, fun L u => u_bin u (gd0 rfl) 10 rfl .neq 3 3 (.tmp 7) (.tmp 9) rfl rfl rfl (eqg_int _ _ _ _ _ _ _ _) (Value.bool true) (yes_of (fun w => i_neq _ _ _ _ w) (by omega)), trivial⟩ [(0, .val (Value.slice (z1) (n1) (c1))), (1, .val (Value.slice (z2) (n2) (c2))), (10, .val (Value.bool true))] [] ⟨rfl, rfl, rfl, trivial⟩ trivial rfl (fun a w h => ?_)
  refine go_cond h true rfl (fun ht => ?_) (fun hf => ?_)
  case refine_2 => cases hf
  refine a_region TT h hm [] [eS 4 (.val (Value.bool false))] (by kernel_rfl) ⟨rfl, trivial⟩ [(4, .val (Value.bool false))] [] ⟨rfl, trivial⟩ trivial rfl (fun a w h => ?_)
  refine wp_ret ?_
  refine then_ret ?_
  refine ret_slot h 4 rfl (lk rfl) (Value.bool false) rfl ?_
  exact ⟨rfl, h.grows⟩
set_option maxRecDepth 100000 in
set_option maxHeartbeats 4000000 in
theorem eq_nil {w : World} {c1 c2 : Nat} {z1 z2 : Option Addr} : Calls Tryd.prog 27 [Value.slice (z1) (0) (c1), Value.slice (z2) (0) (c2)].toArray w fun e w' => e = .returned (.bool true) ∧ Below w.heap.size w w' := by
  refine enter (args := [Value.slice (z1) (0) (c1), Value.slice (z2) (0) (c2)]) Tryd.func27 rfl 26 rfl (lk rfl) (fun a h => ?_)
  refine a_region TT h hm [] [eS 4 (.val (Value.bool false))] (by kernel_rfl) ⟨rfl, trivial⟩ [(0, .val (Value.slice (z1) (0) (c1))), (1, .val (Value.slice (z2) (0) (c2)))] [] ⟨rfl, rfl, trivial⟩ trivial rfl (fun a w h => ?_)
  refine wp_seq ?_
  refine a_region TT h hm [1, 3, 4] [eS 6 (.val (Value.slice (z1) (0) (c1))), eS 7 (.val (Value.int .i64 ((0 : Nat) : Int))), eS 8 (.val (Value.slice (z2) (0) (c2))), eS 9 (.val (Value.int .i64 ((0 : Nat) : Int))), eS 10 (.val (Value.bool false))] (by kernel_rfl) ⟨rfl, fun L u => u_lenV u (gd0 rfl) 7 rfl (.tmp 6) 22 rfl rfl Tryd.underlying22, rfl, fun L u => u_lenV u (gd0 rfl) 9 rfl (.tmp 8) 22 rfl rfl Tryd.underlying22, fun L u => u_bin u (gd0 rfl) 10 rfl .neq 3 3 (.tmp 7) (.tmp 9) rfl rfl rfl (eqg_int _ _ _ _ _ _ _ _) (Value.bool false) (no_of (fun w => i_neq _ _ _ _ w) (by omega)), trivial⟩ [(0, .val (Value.slice (z1) (0) (c1))), (1, .val (Value.slice (z2) (0) (c2))), (10, .val (Value.bool false))] [] ⟨rfl, rfl, rfl, trivial⟩ trivial rfl (fun a w h => ?_)
  refine go_cond h false rfl (fun ht => ?_) (fun hf => ?_)
  case refine_1 => cases ht
  refine wp_skip ?_
  refine then_norm ?_
  refine wp_seq ?_
  refine a_region TT h hm [1] [eS 11 (.val (Value.slice (z1) (0) (c1))), eS 12 (.val (Value.int .i64 ((0 : Nat) : Int))), eS 13 (.val ((Value.int IntKind.i64 0)))] (by kernel_rfl) ⟨rfl, fun L u => u_lenV u (gd0 rfl) 12 rfl (.tmp 11) 22 rfl rfl Tryd.underlying22, rfl, trivial⟩ [(0, .val (Value.slice (z1) (0) (c1))), (1, .val (Value.slice (z2) (0) (c2))), (12, .val (Value.int .i64 ((0 : Nat) : Int))), (13, .val ((Value.int IntKind.i64 0)))] [] ⟨rfl, rfl, rfl, rfl, trivial⟩ trivial rfl (fun a w h => ?_)
  refine wp_block ?_
  refine wp_loop_rounds 1 ?_
  rw [rounds_succ]
  refine a_region TT h hm [0] [eS 14 (.val (Value.bool false))] (by kernel_rfl) ⟨fun L u => u_bin u (gd0 rfl) 14 rfl .lss 3 3 (.tmp 13) (.tmp 12) rfl rfl rfl (eqg_int _ _ _ _ _ _ _ _) (Value.bool false) (no_of (fun w => i_lss _ _ _ _ w) (by omega)), trivial⟩ [(0, .val (Value.slice (z1) (0) (c1))), (1, .val (Value.slice (z2) (0) (c2))), (12, .val (Value.int .i64 ((0 : Nat) : Int))), (13, .val ((Value.int IntKind.i64 0))), (14, .val (Value.bool false))] [] ⟨rfl, rfl, rfl, rfl, rfl, trivial⟩ trivial rfl (fun a w h => ?_)
  refine wp_seq ?_
  refine go_cond h false rfl (fun ht => ?_) (fun hf => ?_)
  case refine_1 => cases ht
  refine wp_exit ?_
  refine then_exit ?_
  refine then_exit ?_
  refine blk_exit ?_
  refine then_norm ?_
  refine a_region TT h hm [] [eS 4 (.val (Value.bool true))] (by kernel_rfl) ⟨rfl, trivial⟩ [(4, .val (Value.bool true))] [] ⟨rfl, trivial⟩ trivial rfl (fun a w h => ?_)
  refine wp_ret ?_
  refine ret_slot h 4 rfl (lk rfl) (Value.bool true) rfl ?_
  exact ⟨rfl, h.grows⟩
theorem fl_same {f g : Nat → Nat} {n : Nat} (h : ∀ i, i < n → f i = g i) : fl f n = fl g n := by
  apply List.ext_getElem?
  intro i
  rcases Nat.lt_or_ge i n with hi | hi
  · rw [fl_at f hi, fl_at g hi, h i hi]
  · rw [List.getElem?_eq_none (by rw [fl_len]; exact hi), List.getElem?_eq_none (by rw [fl_len]; exact hi)]
theorem fl_told {f g : Nat → Nat} {n i : Nat} (h : fl f n = fl g n) (hi : i < n) : f i = g i := by
  have e := congrArg (fun l => l[i]?) h
  simp only [fl_at f hi, fl_at g hi, Option.some.injEq] at e
  exact e
set_option maxRecDepth 100000 in
set_option maxHeartbeats 4000000 in
theorem eq_at {w : World} {n c1 c2 b1 o1 b2 o2 : Nat} {f g : Nat → Nat} (ha : BA w (some ⟨b1, o1, none⟩) n f) (hb : BA w (some ⟨b2, o2, none⟩) n g) (hn : n ≤ 1000000) : Calls Tryd.prog 27 [Value.slice (some ⟨b1, o1, none⟩) (n) (c1), Value.slice (some ⟨b2, o2, none⟩) (n) (c2)].toArray w fun e w' => e = .returned (.bool (decide (fl f n = fl g n))) ∧ Below w.heap.size w w' := by
  refine enter (args := [Value.slice (some ⟨b1, o1, none⟩) (n) (c1), Value.slice (some ⟨b2, o2, none⟩) (n) (c2)]) Tryd.func27 rfl 26 rfl (lk rfl) (fun a h => ?_)
  refine a_region TT h hm [] [eS 4 (.val (Value.bool false))] (by kernel_rfl) ⟨rfl, trivial⟩ [(0, .val (Value.slice (some ⟨b1, o1, none⟩) (n) (c1))), (1, .val (Value.slice (some ⟨b2, o2, none⟩) (n) (c2)))] [] ⟨rfl, rfl, trivial⟩ trivial rfl (fun a w h => ?_)
  refine wp_seq ?_
  refine a_region TT h hm [1, 3, 4] [eS 6 (.val (Value.slice (some ⟨b1, o1, none⟩) (n) (c1))), eS 7 (.val (Value.int .i64 ((n : Nat) : Int))), eS 8 (.val (Value.slice (some ⟨b2, o2, none⟩) (n) (c2))), eS 9 (.val (Value.int .i64 ((n : Nat) : Int))), eS 10 (.val (Value.bool false))] (by kernel_rfl) ⟨rfl, fun L u => u_lenV u (gd0 rfl) 7 rfl (.tmp 6) 22 rfl rfl Tryd.underlying22, rfl, fun L u => u_lenV u (gd0 rfl) 9 rfl (.tmp 8) 22 rfl rfl Tryd.underlying22, fun L u => u_bin u (gd0 rfl) 10 rfl .neq 3 3 (.tmp 7) (.tmp 9) rfl rfl rfl (eqg_int _ _ _ _ _ _ _ _) (Value.bool false) (no_of (fun w => i_neq _ _ _ _ w) (by omega)), trivial⟩ [(0, .val (Value.slice (some ⟨b1, o1, none⟩) (n) (c1))), (1, .val (Value.slice (some ⟨b2, o2, none⟩) (n) (c2))), (10, .val (Value.bool false))] [] ⟨rfl, rfl, rfl, trivial⟩ trivial rfl (fun a w h => ?_)
  refine go_cond h false rfl (fun ht => ?_) (fun hf => ?_)
  case refine_1 => cases ht
  refine wp_skip ?_
  refine then_norm ?_
  refine wp_seq ?_
  refine a_region TT h hm [1] [eS 11 (.val (Value.slice (some ⟨b1, o1, none⟩) (n) (c1))), eS 12 (.val (Value.int .i64 ((n : Nat) : Int))), eS 13 (.val ((Value.int IntKind.i64 0)))] (by kernel_rfl) ⟨rfl, fun L u => u_lenV u (gd0 rfl) 12 rfl (.tmp 11) 22 rfl rfl Tryd.underlying22, rfl, trivial⟩ [(0, .val (Value.slice (some ⟨b1, o1, none⟩) (n) (c1))), (1, .val (Value.slice (some ⟨b2, o2, none⟩) (n) (c2))), (12, .val (Value.int .i64 ((n : Nat) : Int))), (13, .val ((Value.int IntKind.i64 0)))] [] ⟨rfl, rfl, rfl, rfl, trivial⟩ trivial rfl (fun a w h => ?_)
  refine wp_block ?_
  refine go_loop (fun (k : Nat) => SS.mk' [(0, .val (Value.slice (some ⟨b1, o1, none⟩) (n) (c1))), (1, .val (Value.slice (some ⟨b2, o2, none⟩) (n) (c2))), (12, .val (Value.int .i64 ((n : Nat) : Int))), (13, .val (Value.int .i64 ((k : Nat) : Int)))] []) (fun k => k ≤ n ∧ ∀ i, i < k → f i = g i) (fun k => n - k) (i := 0) (h.keep [(0, .val (Value.slice (some ⟨b1, o1, none⟩) (n) (c1))), (1, .val (Value.slice (some ⟨b2, o2, none⟩) (n) (c2))), (12, .val (Value.int .i64 ((n : Nat) : Int))), (13, .val (Value.int .i64 ((0 : Nat) : Int)))] [] ⟨rfl, rfl, rfl, rfl, trivial⟩ trivial rfl) ⟨by omega, fun i hi => by omega⟩ (fun k a w hG h => ?_)
  by_cases hs : k < n
  · skip
    by_cases hz : f k = g k
    · skip
      refine a_region TT h hm [0] [eS 14 (.val (Value.bool true))] (by kernel_rfl) ⟨fun L u => u_bin u (gd0 rfl) 14 rfl .lss 3 3 (.tmp 13) (.tmp 12) rfl rfl rfl (eqg_int _ _ _ _ _ _ _ _) (Value.bool true) (yes_of (fun w => i_lss _ _ _ _ w) (by omega)), trivial⟩ [(0, .val (Value.slice (some ⟨b1, o1, none⟩) (n) (c1))), (1, .val (Value.slice (some ⟨b2, o2, none⟩) (n) (c2))), (12, .val (Value.int .i64 ((n : Nat) : Int))), (13, .val (Value.int .i64 ((k : Nat) : Int))), (14, .val (Value.bool true))] [] ⟨rfl, rfl, rfl, rfl, rfl, trivial⟩ trivial rfl (fun a w h => ?_)
      refine wp_seq ?_
      refine go_cond h true rfl (fun ht => ?_) (fun hf => ?_)
      case refine_2 => cases hf
      refine wp_skip ?_
      refine then_norm ?_
      refine wp_seq ?_
      refine wp_block ?_
      refine a_region TT h hm [] [eS 15 (.val (Value.int .i64 ((k : Nat) : Int))), eS 5 (.val (Value.int .i64 ((k : Nat) : Int)))] (by kernel_rfl) ⟨rfl, rfl, trivial⟩ [(0, .val (Value.slice (some ⟨b1, o1, none⟩) (n) (c1))), (1, .val (Value.slice (some ⟨b2, o2, none⟩) (n) (c2))), (5, .val (Value.int .i64 ((k : Nat) : Int))), (12, .val (Value.int .i64 ((n : Nat) : Int))), (13, .val (Value.int .i64 ((k : Nat) : Int)))] [] ⟨rfl, rfl, rfl, rfl, rfl, trivial⟩ trivial rfl (fun a w h => ?_)
      refine a_region TT h hm [2, 3, 6, 7, 8] [eS 16 (.val (Value.slice (some ⟨b1, o1, none⟩) (n) (c1))), eS 17 (.val (Value.int .i64 ((k : Nat) : Int))), eS 18 (.val (Value.pointer (some ⟨b1, o1 + (k), none⟩))), eS 19 (.val (Value.int .u8 ((f k : Nat) : Int))), eS 20 (.val (Value.slice (some ⟨b2, o2, none⟩) (n) (c2))), eS 21 (.val (Value.int .i64 ((k : Nat) : Int))), eS 22 (.val (Value.pointer (some ⟨b2, o2 + (k), none⟩))), eS 23 (.val (Value.int .u8 ((g k : Nat) : Int))), eS 24 (.val (Value.bool false))] (by kernel_rfl) ⟨rfl, rfl, fun L u => u_atX u (gd0 rfl) 18 rfl 22 (.tmp 16) (.tmp 17) rfl rfl (k := k) rfl Tryd.underlying22 i5 (by omega) (o1 + (k)) (by omega), fun L u => u_loadX u (gd0 rfl) 19 rfl 5 (.tmp 18) rfl rfl Tryd.underlying5 rfl (Value.int .u8 ((f k : Nat) : Int)) (ha.cellAt hs) rfl, rfl, rfl, fun L u => u_atX u (gd0 rfl) 22 rfl 22 (.tmp 20) (.tmp 21) rfl rfl (k := k) rfl Tryd.underlying22 i5 (by omega) (o2 + (k)) (by omega), fun L u => u_loadX u (gd0 rfl) 23 rfl 5 (.tmp 22) rfl rfl Tryd.underlying5 rfl (Value.int .u8 ((g k : Nat) : Int)) (hb.cellAt hs) rfl, fun L u => u_bin u (gd0 rfl) 24 rfl .neq 5 5 (.tmp 19) (.tmp 23) rfl rfl rfl (eqg_int _ _ _ _ _ _ _ _) (Value.bool false) (no_of (fun w => i_neq _ _ _ _ w) (by omega)), trivial⟩ [(0, .val (Value.slice (some ⟨b1, o1, none⟩) (n) (c1))), (1, .val (Value.slice (some ⟨b2, o2, none⟩) (n) (c2))), (12, .val (Value.int .i64 ((n : Nat) : Int))), (13, .val (Value.int .i64 ((k : Nat) : Int))), (24, .val (Value.bool false))] [] ⟨rfl, rfl, rfl, rfl, rfl, trivial⟩ trivial rfl (fun a w h => ?_)
      refine go_cond h false rfl (fun ht => ?_) (fun hf => ?_)
      case refine_1 => cases ht
      refine wp_skip ?_
      refine blk_norm ?_
      refine then_norm ?_
      refine a_end TT h hm [0] [eS 25 (.val (Value.int .i64 ((k + 1 : Nat) : Int))), eS 13 (.val (Value.int .i64 ((k + 1 : Nat) : Int)))] (by kernel_rfl) ⟨fun L u => u_bin u (gd0 rfl) 25 rfl .add 3 3 (.tmp 13) (.const (.int .i64 1)) rfl rfl rfl (eqg_int _ _ _ _ _ _ _ _) (Value.int .i64 ((k + 1 : Nat) : Int)) (fun w => i_add _ _ _ _ (by omega) ⟨by omega, by omega⟩ w), rfl, trivial⟩ [(0, .val (Value.slice (some ⟨b1, o1, none⟩) (n) (c1))), (1, .val (Value.slice (some ⟨b2, o2, none⟩) (n) (c2))), (12, .val (Value.int .i64 ((n : Nat) : Int))), (13, .val (Value.int .i64 ((k + 1 : Nat) : Int)))] [] ⟨rfl, rfl, rfl, rfl, trivial⟩ trivial rfl (fun a w h => ?_)
      refine then_norm ?_
      exact ⟨k + 1, ⟨by omega, fun i hi => by rcases Nat.lt_or_ge i k with h1 | h1; exact hG.2 i h1; rw [show i = k by omega]; exact hz⟩, (by omega), h.keep [(0, .val (Value.slice (some ⟨b1, o1, none⟩) (n) (c1))), (1, .val (Value.slice (some ⟨b2, o2, none⟩) (n) (c2))), (12, .val (Value.int .i64 ((n : Nat) : Int))), (13, .val (Value.int .i64 ((k + 1 : Nat) : Int)))] [] ⟨rfl, rfl, rfl, rfl, trivial⟩ trivial rfl⟩
    · skip
      refine a_region TT h hm [0] [eS 14 (.val (Value.bool true))] (by kernel_rfl) ⟨fun L u => u_bin u (gd0 rfl) 14 rfl .lss 3 3 (.tmp 13) (.tmp 12) rfl rfl rfl (eqg_int _ _ _ _ _ _ _ _) (Value.bool true) (yes_of (fun w => i_lss _ _ _ _ w) (by omega)), trivial⟩ [(0, .val (Value.slice (some ⟨b1, o1, none⟩) (n) (c1))), (1, .val (Value.slice (some ⟨b2, o2, none⟩) (n) (c2))), (12, .val (Value.int .i64 ((n : Nat) : Int))), (13, .val (Value.int .i64 ((k : Nat) : Int))), (14, .val (Value.bool true))] [] ⟨rfl, rfl, rfl, rfl, rfl, trivial⟩ trivial rfl (fun a w h => ?_)
      refine wp_seq ?_
      refine go_cond h true rfl (fun ht => ?_) (fun hf => ?_)
      case refine_2 => cases hf
      refine wp_skip ?_
      refine then_norm ?_
      refine wp_seq ?_
      refine wp_block ?_
      refine a_region TT h hm [] [eS 15 (.val (Value.int .i64 ((k : Nat) : Int))), eS 5 (.val (Value.int .i64 ((k : Nat) : Int)))] (by kernel_rfl) ⟨rfl, rfl, trivial⟩ [(0, .val (Value.slice (some ⟨b1, o1, none⟩) (n) (c1))), (1, .val (Value.slice (some ⟨b2, o2, none⟩) (n) (c2))), (5, .val (Value.int .i64 ((k : Nat) : Int))), (12, .val (Value.int .i64 ((n : Nat) : Int))), (13, .val (Value.int .i64 ((k : Nat) : Int)))] [] ⟨rfl, rfl, rfl, rfl, rfl, trivial⟩ trivial rfl (fun a w h => ?_)
      refine a_region TT h hm [2, 3, 6, 7, 8] [eS 16 (.val (Value.slice (some ⟨b1, o1, none⟩) (n) (c1))), eS 17 (.val (Value.int .i64 ((k : Nat) : Int))), eS 18 (.val (Value.pointer (some ⟨b1, o1 + (k), none⟩))), eS 19 (.val (Value.int .u8 ((f k : Nat) : Int))), eS 20 (.val (Value.slice (some ⟨b2, o2, none⟩) (n) (c2))), eS 21 (.val (Value.int .i64 ((k : Nat) : Int))), eS 22 (.val (Value.pointer (some ⟨b2, o2 + (k), none⟩))), eS 23 (.val (Value.int .u8 ((g k : Nat) : Int))), eS 24 (.val (Value.bool true))] (by kernel_rfl) ⟨rfl, rfl, fun L u => u_atX u (gd0 rfl) 18 rfl 22 (.tmp 16) (.tmp 17) rfl rfl (k := k) rfl Tryd.underlying22 i5 (by omega) (o1 + (k)) (by omega), fun L u => u_loadX u (gd0 rfl) 19 rfl 5 (.tmp 18) rfl rfl Tryd.underlying5 rfl (Value.int .u8 ((f k : Nat) : Int)) (ha.cellAt hs) rfl, rfl, rfl, fun L u => u_atX u (gd0 rfl) 22 rfl 22 (.tmp 20) (.tmp 21) rfl rfl (k := k) rfl Tryd.underlying22 i5 (by omega) (o2 + (k)) (by omega), fun L u => u_loadX u (gd0 rfl) 23 rfl 5 (.tmp 22) rfl rfl Tryd.underlying5 rfl (Value.int .u8 ((g k : Nat) : Int)) (hb.cellAt hs) rfl, fun L u => u_bin u (gd0 rfl) 24 rfl .neq 5 5 (.tmp 19) (.tmp 23) rfl rfl rfl (eqg_int _ _ _ _ _ _ _ _) (Value.bool true) (yes_of (fun w => i_neq _ _ _ _ w) (by omega)), trivial⟩ [(0, .val (Value.slice (some ⟨b1, o1, none⟩) (n) (c1))), (1, .val (Value.slice (some ⟨b2, o2, none⟩) (n) (c2))), (12, .val (Value.int .i64 ((n : Nat) : Int))), (13, .val (Value.int .i64 ((k : Nat) : Int))), (24, .val (Value.bool true))] [] ⟨rfl, rfl, rfl, rfl, rfl, trivial⟩ trivial rfl (fun a w h => ?_)
      refine go_cond h true rfl (fun ht => ?_) (fun hf => ?_)
      case refine_2 => cases hf
      refine a_region TT h hm [] [eS 4 (.val (Value.bool false))] (by kernel_rfl) ⟨rfl, trivial⟩ [(4, .val (Value.bool false))] [] ⟨rfl, trivial⟩ trivial rfl (fun a w h => ?_)
      refine wp_ret ?_
      refine blk_ret ?_
      refine then_ret ?_
      refine then_ret ?_
      refine blk_ret ?_
      refine then_ret ?_
      refine ret_slot h 4 rfl (lk rfl) (Value.bool false) rfl ?_
      exact ⟨by rw [decide_eq_false (fun e => hz (fl_told e hs))], h.grows⟩
  · skip
    refine a_region TT h hm [0] [eS 14 (.val (Value.bool false))] (by kernel_rfl) ⟨fun L u => u_bin u (gd0 rfl) 14 rfl .lss 3 3 (.tmp 13) (.tmp 12) rfl rfl rfl (eqg_int _ _ _ _ _ _ _ _) (Value.bool false) (no_of (fun w => i_lss _ _ _ _ w) (by omega)), trivial⟩ [(0, .val (Value.slice (some ⟨b1, o1, none⟩) (n) (c1))), (1, .val (Value.slice (some ⟨b2, o2, none⟩) (n) (c2))), (12, .val (Value.int .i64 ((n : Nat) : Int))), (13, .val (Value.int .i64 ((k : Nat) : Int))), (14, .val (Value.bool false))] [] ⟨rfl, rfl, rfl, rfl, rfl, trivial⟩ trivial rfl (fun a w h => ?_)
    refine wp_seq ?_
    refine go_cond h false rfl (fun ht => ?_) (fun hf => ?_)
    case refine_1 => cases ht
    refine wp_exit ?_
    refine then_exit ?_
    refine then_exit ?_
    refine blk_exit ?_
    refine then_norm ?_
    refine a_region TT h hm [] [eS 4 (.val (Value.bool true))] (by kernel_rfl) ⟨rfl, trivial⟩ [(4, .val (Value.bool true))] [] ⟨rfl, trivial⟩ trivial rfl (fun a w h => ?_)
    refine wp_ret ?_
    refine ret_slot h 4 rfl (lk rfl) (Value.bool true) rfl ?_
    exact ⟨by rw [decide_eq_true (fl_same (fun i hi => hG.2 i (by omega)))], h.grows⟩
theorem eq_any {w : World} {n1 n2 c1 c2 : Nat} {z1 z2 : Option Addr} {f g : Nat → Nat} (ha : BA w z1 n1 f) (hb : BA w z2 n2 g) (hn : n1 ≤ 1000000) : Calls Tryd.prog 27 [.slice z1 n1 c1, .slice z2 n2 c2].toArray w fun e w' => e = .returned (.bool (decide (fl f n1 = fl g n2))) ∧ Below w.heap.size w w' := by
  by_cases h : n1 = n2
  · subst h
    rcases ha.at_ with h0 | ⟨b1, o1, rfl, _⟩
    · subst h0
      exact eq_nil
    · rcases hb.at_ with h0 | ⟨b2, o2, rfl, _⟩
      · subst h0
        exact eq_nil
      · exact eq_at ha hb hn
  · rw [decide_eq_false (fun e => h (by have := congrArg List.length e; rw [fl_len, fl_len] at this; exact this))]
    exact eq_len h
end Go.Proofs.YtlpjdhoboebbfaaDoor
