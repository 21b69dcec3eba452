/- What the document's own number of layer 10 answers. -/
import Derived.Test.YtlpjdhoboebbfaaDoorD10Enc
import Derived.Test.YtlpjdhoboebbfaaDoorVQ4
import Derived.Test.YtlpjdhoboebbfaaDoorD10Num
import Derived.Test.YtlpjdhoboebbfaaDoorSameBA
namespace Go.Proofs.YtlpjdhoboebbfaaDoor
open Go.RowKit

theorem fl_cut {f : Nat → Nat} {n k m : Nat} (h : k + m ≤ n) : ((fl f n).drop k).take m = fl (fun i => f (k + i)) m := by
  apply List.ext_getElem?
  intro i
  rcases Nat.lt_or_ge i m with hi | hi
  · rw [fl_at _ hi, List.getElem?_take_of_lt hi, List.getElem?_drop, fl_at _ (by omega)]
  · rw [List.getElem?_eq_none (by rw [List.length_take]; omega), List.getElem?_eq_none (by rw [fl_len]; exact hi)]
theorem fl_tail {f : Nat → Nat} {n k : Nat} (h : k ≤ n) : (fl f n).drop k = fl (fun i => f (k + i)) (n - k) := by
  rw [← fl_cut (n := n) (by omega), List.take_of_length_le (by rw [List.length_drop, fl_len]; omega)]
theorem pad_lt {f : Nat → Nat} (hf : ∀ i, f i < 256) (k n : Nat) : ∀ x ∈ List.replicate k 0 ++ fl f n, x < 256 := by
  intro x hx
  rcases List.mem_append.1 hx with h | h
  · rw [(List.mem_replicate.1 h).2]; decide
  · exact fl_lt hf n x h
theorem refBig_tail {f : Nat → Nat} {n k c : Nat} {z : Option Addr} {w : World} (hf : ∀ i, f i < 256) (hk : 32 ≤ k + n) (hb : BA w z (k + n - (k + n - 32)) (fun i => (List.replicate k 0 ++ fl f n).getD (k + n - 32 + i) 0)) : Calls Tryd.prog 21 [.slice z (k + n - (k + n - 32)) c].toArray w fun e w' => e = .returned (.tuple [.agg (nc ((num (fl f n) % 2 ^ 256 : Nat) : Int)).toArray, .bool true].toArray) ∧ Below w.heap.size w w' := by
  have e32 : k + n - (k + n - 32) = 32 := by omega
  have hlen : (List.replicate k 0 ++ fl f n).length = k + n := by rw [List.length_append, List.length_replicate, fl_len]
  have hlt := pad_lt hf k n
  have hn : num ((List.replicate k 0 ++ fl f n).drop (k + n - 32)) = num (fl f n) % 2 ^ 256 := by
    rw [← hlen, num_last hlt (by omega), num_app, num_zeros, Nat.zero_mul, Nat.zero_add]
  rw [e32] at hb ⊢
  rw [← hn]
  have e : (fun i => (List.replicate k 0 ++ fl f n).getD (k + n - 32 + i) 0) = fun i => ((List.replicate k 0 ++ fl f n).drop (k + n - 32)).getD i 0 := by
    funext i
    rw [List.getD_eq_getElem?_getD, List.getD_eq_getElem?_getD, List.getElem?_drop]
  rw [e] at hb
  exact refBig_num (by rw [List.length_drop, hlen]; omega) (fun x hx => hlt x (List.mem_of_mem_drop hx)) hb
set_option maxRecDepth 100000 in
set_option maxHeartbeats 4000000 in
theorem refNum_any {A : Option Addr} {n c : Nat} {f : Nat → Nat} {w : World} (hba : BA w A n f) (hn : n ≤ 1000) : Calls Tryd.prog 13 [.slice A n c].toArray w fun e w' => e = .returned (.agg (nc ((num (fl f n) % 2 ^ 256 : Nat) : Int)).toArray) ∧ Below w.heap.size w w' := by
  refine enter (args := [Value.slice (A) (n) (c)]) Tryd.func13 rfl 29 rfl (lk rfl) (fun a h => ?_)
  refine a_region TT h hm [] [eN 2 (nz)] (by kernel_rfl) ⟨rfl, trivial⟩ [(0, .val (Value.slice (A) (n) (c))), (2, .ptr 2 0)] [(2, nz)] ⟨rfl, rfl, trivial⟩ ⟨rfl, trivial⟩ rfl (fun a w h => ?_)
  refine a_region TT h hm [] [eS 3 (.val ((Value.slice none 0 0)))] (by kernel_rfl) ⟨rfl, trivial⟩ [(0, .val (Value.slice (A) (n) (c))), (2, .ptr 2 0), (3, .val ((Value.slice none 0 0)))] [(2, nz)] ⟨rfl, rfl, rfl, trivial⟩ ⟨rfl, trivial⟩ rfl (fun a w h => ?_)
  refine wp_seq ?_
  refine a_region TT h hm [1] [eS 7 (.val (Value.slice (A) (n) (c))), eS 8 (.val (Value.int .i64 ((n : Nat) : Int))), eS 4 (.val (Value.int .i64 ((n : Nat) : Int)))] (by kernel_rfl) ⟨rfl, fun L u => u_lenV u (gd0 rfl) 8 rfl (.tmp 7) 22 rfl rfl Tryd.underlying22, rfl, trivial⟩ [(0, .val (Value.slice (A) (n) (c))), (2, .ptr 2 0), (3, .val ((Value.slice none 0 0))), (4, .val (Value.int .i64 ((n : Nat) : Int)))] [(2, nz)] ⟨rfl, rfl, rfl, rfl, trivial⟩ ⟨rfl, trivial⟩ rfl (fun a w h => ?_)
  refine wp_block ?_
  replace h := (h.nil 5 1 15 3 rfl rfl).keepQ [(0, .val (Value.slice (A) (n) (c))), (2, .ptr 2 0), (3, .unk 15 id), (4, .val (Value.int .i64 ((n : Nat) : Int)))] [(2, nz)] [(15, rowPd 5 1 0 [])] ⟨rfl, rfl, rfl, rfl, trivial⟩ ⟨rfl, trivial⟩ ⟨rfl, trivial⟩ rfl
  refine go_loop (fun (k : Nat) => SS.mkQ [(0, .val (Value.slice (A) (n) (c))), (2, .ptr 2 0), (3, .unk 15 id), (4, .val (Value.int .i64 ((n + k : Nat) : Int)))] [(2, nz)] [(15, rowPd 5 1 (k) (cells8 (List.replicate (k) 0)))]) (fun k => n + k ≤ 33 ∨ k = 0) (fun k => 33 - (n + k)) (i := 0) (h.keepQ [(0, .val (Value.slice (A) (n) (c))), (2, .ptr 2 0), (3, .unk 15 id), (4, .val (Value.int .i64 ((n + 0 : Nat) : Int)))] [(2, nz)] [(15, rowPd 5 1 (0) (cells8 (List.replicate (0) 0)))] ⟨rfl, rfl, rfl, rfl, trivial⟩ ⟨rfl, trivial⟩ ⟨rfl, trivial⟩ rfl) (Or.inr rfl) (fun k a w hG h => ?_)
  by_cases hs : n + k < 33
  · skip
    refine wp_seq ?_
    refine a_regionQ TT h hm [1] [eS 9 (.val (Value.int .i64 ((n + k : Nat) : Int))), eS 10 (.val (Value.bool true))] (by kernel_rfl) ⟨rfl, fun L u => u_bin u (gd0 rfl) 10 rfl .lss 3 3 (.tmp 9) (.const (.int .i64 33)) rfl rfl rfl (eqg_int _ _ _ _ _ _ _ _) (Value.bool true) (yes_of (fun w => i_lss _ _ _ _ w) (by omega)), trivial⟩ [(0, .val (Value.slice (A) (n) (c))), (2, .ptr 2 0), (3, .unk 15 id), (4, .val (Value.int .i64 ((n + k : Nat) : Int))), (10, .val (Value.bool true))] [(2, nz)] [(15, rowPd 5 1 (k) (cells8 (List.replicate (k) 0)))] ⟨rfl, rfl, rfl, rfl, rfl, trivial⟩ ⟨rfl, trivial⟩ ⟨rfl, trivial⟩ rfl (fun a w h => ?_)
    refine go_cond h true rfl (fun ht => ?_) (fun hf => ?_)
    case refine_2 => cases hf
    refine wp_skip ?_
    refine then_norm ?_
    refine wp_seq ?_
    refine wp_block ?_
    refine sq_begin [0, 1, 2, 3] rfl ?_
    refine sq_step h (i := 0) rfl (u_copyQ (xs := []) (up_seq (i := 0) (by kernel_rfl) rfl) (gd0 rfl) 13 rfl (.tmp 3) (Or.inl rfl) rfl rfl) (fun a w h => ?_)
    refine sq_step h (i := 1) rfl (u_litQ (xs := []) (up_seq (i := 1) (by kernel_rfl) rfl) (gd0 rfl) 14 rfl rfl 1 #[(0, (.const (.int .u8 0)))] rfl [(0, (Value.int IntKind.u8 0))] rfl (cells8 [0]) (by decide) rfl (by kernel_rfl)) (fun a w h => ?_)
    refine sq_appQ (k := k) (l := List.replicate (k) 0) h (i := 2) rfl (gq0 rfl) 15 rfl (.tmp 13) (.tmp 14) rfl 15 rfl rfl (Or.inl rfl) (m := 1) (f := (fun i => [0].getD i 0)) (fun β hr => by obtain ⟨z, c, hv, _, _, hb⟩ := row_ba (l := [0]) (hr.thing (x := 14) (p := rowPd 5 1 (1) (cells8 ([0]))) rfl) (fun x hx => by rw [List.mem_singleton.1 hx]; decide); exact ⟨z, c, (hr.eval (v := .unk 14 id) rfl).trans hv, hb⟩) (by omega) [(0, .val (Value.slice (A) (n) (c))), (2, .ptr 2 0), (4, .val (Value.int .i64 ((n + k : Nat) : Int)))] ⟨rfl, rfl, rfl, trivial⟩ rfl (fun a w h => ?_)
    replace h := h.keepQ [(0, .val (Value.slice (A) (n) (c))), (2, .ptr 2 0), (4, .val (Value.int .i64 ((n + k : Nat) : Int))), (15, .unk 15 id)] [(2, nz)] [(15, rowPd 5 1 (k + 1) (cells8 (List.replicate (k + 1) 0)))] ⟨rfl, rfl, rfl, rfl, trivial⟩ ⟨rfl, trivial⟩ ⟨(congrArg (fun z => some (rowPd 5 1 (k + 1) (cells8 z))) (show List.replicate (k) 0 ++ fl (fun i => [0].getD i 0) 1 = List.replicate (k + 1) 0 by rw [List.replicate_succ']; rfl)), trivial⟩ rfl
    refine sq_step h (i := 3) rfl (u_copyQ (xs := []) (up_seq (i := 3) (by kernel_rfl) rfl) (gd0 rfl) 3 rfl (.tmp 15) (Or.inr rfl) rfl rfl) (fun a w h => ?_)
    replace h := h.keepQ [(0, .val (Value.slice (A) (n) (c))), (2, .ptr 2 0), (3, .unk 15 id), (4, .val (Value.int .i64 ((n + k : Nat) : Int)))] [(2, nz)] [(15, rowPd 5 1 (k + 1) (cells8 (List.replicate (k + 1) 0)))] ⟨rfl, rfl, rfl, rfl, trivial⟩ ⟨rfl, trivial⟩ ⟨rfl, trivial⟩ rfl
    refine sq_end ?_
    refine blk_norm ?_
    refine then_norm ?_
    refine a_endQ TT h hm [1] [eS 11 (.val (Value.int .i64 ((n + k : Nat) : Int))), eS 12 (.val (Value.int .i64 ((n + (k + 1) : Nat) : Int))), eS 4 (.val (Value.int .i64 ((n + (k + 1) : Nat) : Int)))] (by kernel_rfl) ⟨rfl, fun L u => u_bin u (gd0 rfl) 12 rfl .add 3 3 (.tmp 11) (.const (.int .i64 1)) rfl rfl rfl (eqg_int _ _ _ _ _ _ _ _) (Value.int .i64 ((n + (k + 1) : Nat) : Int)) (fun w => i_add _ _ _ _ (by omega) ⟨by omega, by omega⟩ w), rfl, trivial⟩ [(0, .val (Value.slice (A) (n) (c))), (2, .ptr 2 0), (3, .unk 15 id), (4, .val (Value.int .i64 ((n + (k + 1) : Nat) : Int)))] [(2, nz)] [(15, rowPd 5 1 (k + 1) (cells8 (List.replicate (k + 1) 0)))] ⟨rfl, rfl, rfl, rfl, trivial⟩ ⟨rfl, trivial⟩ ⟨rfl, trivial⟩ rfl (fun a w h => ?_)
    refine then_norm ?_
    exact ⟨k + 1, (Or.inl (by omega)), (by omega), h.keepQ [(0, .val (Value.slice (A) (n) (c))), (2, .ptr 2 0), (3, .unk 15 id), (4, .val (Value.int .i64 ((n + k + 1 : Nat) : Int)))] [(2, nz)] [(15, rowPd 5 1 (k + 1) (cells8 (List.replicate (k + 1) 0)))] ⟨rfl, rfl, rfl, rfl, trivial⟩ ⟨rfl, trivial⟩ ⟨rfl, trivial⟩ rfl⟩
  · skip
    refine wp_seq ?_
    refine a_regionQ TT h hm [1] [eS 9 (.val (Value.int .i64 ((n + k : Nat) : Int))), eS 10 (.val (Value.bool false))] (by kernel_rfl) ⟨rfl, fun L u => u_bin u (gd0 rfl) 10 rfl .lss 3 3 (.tmp 9) (.const (.int .i64 33)) rfl rfl rfl (eqg_int _ _ _ _ _ _ _ _) (Value.bool false) (no_of (fun w => i_lss _ _ _ _ w) (by omega)), trivial⟩ [(0, .val (Value.slice (A) (n) (c))), (2, .ptr 2 0), (3, .unk 15 id), (4, .val (Value.int .i64 ((n + k : Nat) : Int))), (10, .val (Value.bool false))] [(2, nz)] [(15, rowPd 5 1 (k) (cells8 (List.replicate (k) 0)))] ⟨rfl, rfl, rfl, rfl, rfl, trivial⟩ ⟨rfl, trivial⟩ ⟨rfl, trivial⟩ rfl (fun a w h => ?_)
    refine go_cond h false rfl (fun ht => ?_) (fun hf => ?_)
    case refine_1 => cases ht
    refine wp_exit ?_
    refine then_exit ?_
    refine then_exit ?_
    refine blk_exit ?_
    refine then_norm ?_
    refine wp_seq ?_
    refine sq_begin [0, 1, 2, 3] rfl ?_
    refine sq_step h (i := 0) rfl (u_copyQ (xs := []) (up_seq (i := 0) (by kernel_rfl) rfl) (gd0 rfl) 16 rfl (.tmp 3) (Or.inl rfl) rfl rfl) (fun a w h => ?_)
    refine sq_step h (i := 1) rfl (u_move (xs := []) (up_seq (i := 1) (by kernel_rfl) rfl) (gd0 rfl) 17 rfl (.tmp 0) (Or.inl rfl) rfl) (fun a w h => ?_)
    refine sq_appQ (k := k) (l := List.replicate (k) 0) h (i := 2) rfl (gq0 rfl) 18 rfl (.tmp 16) (.tmp 17) rfl 15 rfl rfl (Or.inr rfl) (m := n) (f := f) (fun β hr => ⟨A, c, hr.eval (v := .val (.slice A n c)) rfl, hba.keep (Bs.kp_of hr.bl)⟩) (by omega) [(2, .ptr 2 0)] ⟨rfl, trivial⟩ rfl (fun a w h => ?_)
    replace h := h.keepQ [(2, .ptr 2 0), (18, .unk 18 id)] [(2, nz)] [(18, rowPd 5 1 (k + n) (cells8 (List.replicate k 0 ++ fl f n)))] ⟨rfl, rfl, trivial⟩ ⟨rfl, trivial⟩ ⟨rfl, trivial⟩ rfl
    refine sq_step h (i := 3) rfl (u_copyQ (xs := []) (up_seq (i := 3) (by kernel_rfl) rfl) (gd0 rfl) 3 rfl (.tmp 18) (Or.inr rfl) rfl rfl) (fun a w h => ?_)
    replace h := h.keepQ [(2, .ptr 2 0), (3, .unk 18 id)] [(2, nz)] [(18, rowPd 5 1 (k + n) (cells8 (List.replicate k 0 ++ fl f n)))] ⟨rfl, rfl, trivial⟩ ⟨rfl, trivial⟩ ⟨rfl, trivial⟩ rfl
    refine sq_end ?_
    refine then_norm ?_
    refine a_region TT h hm [0, 1, 2, 3, 4, 5] [eS 20 (.unk 18 id), eS 21 (.unk 18 id), eS 22 (.val (Value.int .i64 ((k + n : Nat) : Int))), eS 23 (.val (Value.int .i64 ((k + n - 32 : Nat) : Int))), eS 24 (.unk 18 (tailV (k + n - 32))), eS 25 (.val (.tuple [Value.agg (nc (((num (fl f n) % 2 ^ 256 : Nat) : Int))).toArray, Value.bool true].toArray)), eS 19 (.val (.tuple [Value.agg (nc (((num (fl f n) % 2 ^ 256 : Nat) : Int))).toArray, Value.bool true].toArray)), eS 26 (.val (.agg (nc (((num (fl f n) % 2 ^ 256 : Nat) : Int))).toArray)), eS 27 (.val (Value.bool true)), eN 5 (nz), eM 5 (nc (((num (fl f n) % 2 ^ 256 : Nat) : Int))), eS 6 (.val (Value.bool true))] (by kernel_rfl) ⟨fun L u => u_copyQ u (gd0 rfl) 20 rfl (.tmp 3) (Or.inl rfl) rfl rfl, fun L u => u_copyQ u (gd0 rfl) 21 rfl (.tmp 3) (Or.inl rfl) rfl rfl, fun L u => u_lenQ u (gd0 rfl) 22 rfl (.tmp 21) 22 rfl rfl rfl Tryd.underlying22, fun L u => u_bin u (gd0 rfl) 23 rfl .sub 3 3 (.tmp 22) (.const (.int .i64 32)) rfl rfl rfl (eqg_int _ _ _ _ _ _ _ _) (Value.int .i64 ((k + n - 32 : Nat) : Int)) (fun w => i_sub _ _ _ _ (by omega) ⟨by omega, by omega⟩ w), fun L u => u_tailQ u (gd0 rfl) 24 rfl (.tmp 20) (.tmp 23) rfl rfl rfl (k + n - 32) rfl (by omega), fun L u => u_callR u (gd0 rfl) 25 rfl 21 #[(.tmp 24)] #[22] rfl [.unk 18 (tailV (k + n - 32))] rfl (fun vs w => callFunc_enter Tryd.func21 (by kernel_rfl) (by kernel_rfl) vs w) (.tuple [.agg (nc (((num (fl f n) % 2 ^ 256 : Nat) : Int))).toArray, Value.bool true].toArray) (fun β a w hr => by obtain ⟨z, c, hv, hb⟩ := row_tail (hr.thing (x := 18) (p := rowPd 5 1 (k + n) (cells8 (List.replicate k 0 ++ fl f n))) (u.q rfl)) (pad_lt hba.lt k n) (k + n - 32) (by omega); show Calls _ _ [tailV (k + n - 32) (β 18).v].toArray _ _; rw [hv]; exact refBig_tail hba.lt (by omega) hb), rfl, rfl, rfl, rfl, rfl, rfl, trivial⟩ [(2, .ptr 2 0), (5, .ptr 5 0)] [(2, nz), (5, nc (((num (fl f n) % 2 ^ 256 : Nat) : Int)))] ⟨rfl, rfl, trivial⟩ ⟨rfl, rfl, trivial⟩ rfl (fun a w h => ?_)
    refine a_region TT h hm [] [eS 28 (.val (.agg (nc (((num (fl f n) % 2 ^ 256 : Nat) : Int))).toArray)), eM 2 (nc (((num (fl f n) % 2 ^ 256 : Nat) : Int)))] (by kernel_rfl) ⟨rfl, rfl, trivial⟩ [(2, .ptr 2 0)] [(2, nc (((num (fl f n) % 2 ^ 256 : Nat) : Int)))] ⟨rfl, trivial⟩ ⟨rfl, trivial⟩ rfl (fun a w h => ?_)
    refine wp_ret ?_
    refine ret_row h 2 26 rfl (lk rfl) 2 rfl (nc (((num (fl f n) % 2 ^ 256 : Nat) : Int))) rfl _ Tryd.underlying26 rfl i26 ?_
    exact ⟨rfl, h.grows⟩
end Go.Proofs.YtlpjdhoboebbfaaDoor
