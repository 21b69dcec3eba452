/- What slices.Concat answers: the parts, one behind the other. -/
import Derived.Test.YtlpjdhoboebbfaaDoorP10G
import Derived.Test.YtlpjdhoboebbfaaDoorP10Base
namespace Go.Proofs.YtlpjdhoboebbfaaDoor
open Go.RowKit

theorem i22 : (Tryd.prog.info? 22).map (·.size) = some 1 := by kernel_rfl
def sumN (N : Nat → Nat) : Nat → Nat
  | 0 => 0
  | k + 1 => sumN N k + N k
def catN (f : Nat → Nat → Nat) (N : Nat → Nat) : Nat → List Nat
  | 0 => []
  | k + 1 => catN f N k ++ fl (f k) (N k)
theorem sumN_le {N : Nat → Nat} {k m : Nat} (h : k ≤ m) : sumN N k ≤ sumN N m := by
  induction m with
  | zero => rw [show k = 0 by omega]; exact Nat.le_refl _
  | succ m ih =>
    by_cases e : k = m + 1
    · rw [e]; exact Nat.le_refl _
    · exact Nat.le_trans (ih (by omega)) (Nat.le_add_right _ _)
set_option maxRecDepth 100000 in
set_option maxHeartbeats 4000000 in
theorem concat_any {g m c : Nat} {Z : Nat → Option Addr} {N C : Nat → Nat} {f : Nat → Nat → Nat} {w : World} (hm2 : m ≤ 1000) (hcell : ∀ i, i < m → w.cell? ⟨g, 0 + i, none⟩ = some (.slice (Z i) (N i) (C i))) (hba : ∀ i, i < m → BA w (Z i) (N i) (f i)) (h0 : 0 < sumN N m) (hS : sumN N m ≤ 1000000) : Calls Tryd.prog 15 [.slice (some ⟨g, 0, none⟩) m c].toArray w fun e w' => ∃ v, e = .returned v ∧ w'.ownsRow w.heap.size 5 1 v (sumN N m) (cells8 (catN f N m)) ∧ Below w.heap.size w w' := by
  refine enter (args := [Value.slice (some ⟨g, 0, none⟩) (m) (c)]) Tryd.func15 rfl 36 rfl (lk rfl) (fun a h => ?_)
  refine a_region TT h hm [] [eS 2 (.val ((Value.slice none 0 0)))] (by kernel_rfl) ⟨rfl, trivial⟩ [(0, .val (Value.slice (some ⟨g, 0, none⟩) (m) (c)))] [] ⟨rfl, trivial⟩ trivial rfl (fun a w h => ?_)
  refine a_region TT h hm [] [eS 3 (.val ((Value.int IntKind.i64 0)))] (by kernel_rfl) ⟨rfl, trivial⟩ [(0, .val (Value.slice (some ⟨g, 0, none⟩) (m) (c))), (3, .val ((Value.int IntKind.i64 0)))] [] ⟨rfl, rfl, trivial⟩ trivial rfl (fun a w h => ?_)
  refine wp_seq ?_
  refine a_region TT h hm [1] [eS 9 (.val (Value.slice (some ⟨g, 0, none⟩) (m) (c))), eS 10 (.val (Value.int .i64 ((m : Nat) : Int))), eS 11 (.val ((Value.int IntKind.i64 0)))] (by kernel_rfl) ⟨rfl, fun L u => u_lenV u (gd0 rfl) 10 rfl (.tmp 9) 49 rfl rfl Tryd.underlying49, rfl, trivial⟩ [(0, .val (Value.slice (some ⟨g, 0, none⟩) (m) (c))), (3, .val ((Value.int IntKind.i64 0))), (9, .val (Value.slice (some ⟨g, 0, none⟩) (m) (c))), (10, .val (Value.int .i64 ((m : Nat) : Int))), (11, .val ((Value.int IntKind.i64 0)))] [] ⟨rfl, rfl, rfl, rfl, rfl, trivial⟩ trivial rfl (fun a w h => ?_)
  refine wp_block ?_
  refine go_loop (fun (k : Nat) => SS.mk' [(0, .val (Value.slice (some ⟨g, 0, none⟩) (m) (c))), (3, .val (Value.int .i64 ((sumN N k : Nat) : Int))), (9, .val (Value.slice (some ⟨g, 0, none⟩) (m) (c))), (10, .val (Value.int .i64 ((m : Nat) : Int))), (11, .val (Value.int .i64 ((k : Nat) : Int)))] []) (fun k => k ≤ m) (fun k => m - k) (i := 0) (h.keep [(0, .val (Value.slice (some ⟨g, 0, none⟩) (m) (c))), (3, .val (Value.int .i64 ((sumN N (0) : Nat) : Int))), (9, .val (Value.slice (some ⟨g, 0, none⟩) (m) (c))), (10, .val (Value.int .i64 ((m : Nat) : Int))), (11, .val (Value.int .i64 ((0 : Nat) : Int)))] [] ⟨rfl, rfl, rfl, rfl, rfl, trivial⟩ trivial rfl) (Nat.zero_le _) (fun k a w hG h => ?_)
  by_cases hs : k < m
  · skip
    have hS1 : sumN N (k + 1) = sumN N k + N k := rfl
    have hle := sumN_le (N := N) (show k + 1 ≤ m by omega)
    refine a_region TT h hm [0] [eS 12 (.val (Value.bool true))] (by kernel_rfl) ⟨fun L u => u_bin u (gd0 rfl) 12 rfl .lss 3 3 (.tmp 11) (.tmp 10) rfl rfl rfl (eqg_int _ _ _ _ _ _ _ _) (Value.bool true) (yes_of (fun w => i_lss _ _ _ _ w) (by omega)), trivial⟩ [(0, .val (Value.slice (some ⟨g, 0, none⟩) (m) (c))), (3, .val (Value.int .i64 ((sumN N k : Nat) : Int))), (9, .val (Value.slice (some ⟨g, 0, none⟩) (m) (c))), (10, .val (Value.int .i64 ((m : Nat) : Int))), (11, .val (Value.int .i64 ((k : Nat) : Int))), (12, .val (Value.bool true))] [] ⟨rfl, rfl, rfl, rfl, rfl, rfl, trivial⟩ trivial rfl (fun a w h => ?_)
    refine wp_seq ?_
    refine go_cond h true rfl (fun ht => ?_) (fun hf => ?_)
    case refine_2 => cases hf
    refine wp_skip ?_
    refine then_norm ?_
    refine wp_seq ?_
    refine wp_block ?_
    refine a_region TT h hm [0, 1] [eS 13 (.val (Value.pointer (some ⟨g, 0 + (k), none⟩))), eS 14 (.val (Value.slice (Z k) (N k) (C k))), eS 5 (.val (Value.slice (Z k) (N k) (C k)))] (by kernel_rfl) ⟨fun L u => u_atX u (gd0 rfl) 13 rfl 49 (.tmp 9) (.tmp 11) rfl rfl (k := k) rfl Tryd.underlying49 i22 (by omega) (0 + (k)) (by omega), fun L u => u_loadX u (gd0 rfl) 14 rfl 22 (.tmp 13) rfl rfl Tryd.underlying22 rfl (Value.slice (Z k) (N k) (C k)) (hcell k hs) rfl, rfl, trivial⟩ [(0, .val (Value.slice (some ⟨g, 0, none⟩) (m) (c))), (3, .val (Value.int .i64 ((sumN N k : Nat) : Int))), (5, .val (Value.slice (Z k) (N k) (C k))), (9, .val (Value.slice (some ⟨g, 0, none⟩) (m) (c))), (10, .val (Value.int .i64 ((m : Nat) : Int))), (11, .val (Value.int .i64 ((k : Nat) : Int)))] [] ⟨rfl, rfl, rfl, rfl, rfl, rfl, trivial⟩ trivial rfl (fun a w h => ?_)
    refine a_region TT h hm [2, 3] [eS 15 (.val (Value.int .i64 ((sumN N k : Nat) : Int))), eS 16 (.val (Value.slice (Z k) (N k) (C k))), eS 17 (.val (Value.int .i64 ((N k : Nat) : Int))), eS 18 (.val (Value.int .i64 ((sumN N (k + 1) : Nat) : Int))), eS 3 (.val (Value.int .i64 ((sumN N (k + 1) : Nat) : Int)))] (by kernel_rfl) ⟨rfl, rfl, fun L u => u_lenV u (gd0 rfl) 17 rfl (.tmp 16) 22 rfl rfl Tryd.underlying22, fun L u => u_bin u (gd0 rfl) 18 rfl .add 3 3 (.tmp 15) (.tmp 17) rfl rfl rfl (eqg_int _ _ _ _ _ _ _ _) (Value.int .i64 ((sumN N (k + 1) : Nat) : Int)) (fun w => i_add _ _ _ _ (by omega) ⟨by omega, by omega⟩ w), rfl, trivial⟩ [(0, .val (Value.slice (some ⟨g, 0, none⟩) (m) (c))), (3, .val (Value.int .i64 ((sumN N (k + 1) : Nat) : Int))), (9, .val (Value.slice (some ⟨g, 0, none⟩) (m) (c))), (10, .val (Value.int .i64 ((m : Nat) : Int))), (11, .val (Value.int .i64 ((k : Nat) : Int)))] [] ⟨rfl, rfl, rfl, rfl, rfl, trivial⟩ trivial rfl (fun a w h => ?_)
    refine a_region TT h hm [1] [eS 19 (.val (Value.int .i64 ((sumN N (k + 1) : Nat) : Int))), eS 20 (.val (Value.bool false))] (by kernel_rfl) ⟨rfl, fun L u => u_bin u (gd0 rfl) 20 rfl .lss 3 3 (.tmp 19) (.const (.int .i64 0)) rfl rfl rfl (eqg_int _ _ _ _ _ _ _ _) (Value.bool false) (no_of (fun w => i_lss _ _ _ _ w) (by omega)), trivial⟩ [(0, .val (Value.slice (some ⟨g, 0, none⟩) (m) (c))), (3, .val (Value.int .i64 ((sumN N (k + 1) : Nat) : Int))), (9, .val (Value.slice (some ⟨g, 0, none⟩) (m) (c))), (10, .val (Value.int .i64 ((m : Nat) : Int))), (11, .val (Value.int .i64 ((k : Nat) : Int))), (20, .val (Value.bool false))] [] ⟨rfl, rfl, rfl, rfl, rfl, rfl, trivial⟩ trivial rfl (fun a w h => ?_)
    refine go_cond h false rfl (fun ht => ?_) (fun hf => ?_)
    case refine_1 => cases ht
    refine wp_skip ?_
    refine blk_norm ?_
    refine then_norm ?_
    refine a_end TT h hm [0] [eS 22 (.val (Value.int .i64 ((k + 1 : Nat) : Int))), eS 11 (.val (Value.int .i64 ((k + 1 : Nat) : Int)))] (by kernel_rfl) ⟨fun L u => u_bin u (gd0 rfl) 22 rfl .add 3 3 (.tmp 11) (.const (.int .i64 1)) rfl rfl rfl (eqg_int _ _ _ _ _ _ _ _) (Value.int .i64 ((k + 1 : Nat) : Int)) (fun w => i_add _ _ _ _ (by omega) ⟨by omega, by omega⟩ w), rfl, trivial⟩ [(0, .val (Value.slice (some ⟨g, 0, none⟩) (m) (c))), (3, .val (Value.int .i64 ((sumN N (k + 1) : Nat) : Int))), (9, .val (Value.slice (some ⟨g, 0, none⟩) (m) (c))), (10, .val (Value.int .i64 ((m : Nat) : Int))), (11, .val (Value.int .i64 ((k + 1 : Nat) : Int)))] [] ⟨rfl, rfl, rfl, rfl, rfl, trivial⟩ trivial rfl (fun a w h => ?_)
    refine then_norm ?_
    exact ⟨k + 1, (by omega), (by omega), h.keep [(0, .val (Value.slice (some ⟨g, 0, none⟩) (m) (c))), (3, .val (Value.int .i64 ((sumN N (k + 1) : Nat) : Int))), (9, .val (Value.slice (some ⟨g, 0, none⟩) (m) (c))), (10, .val (Value.int .i64 ((m : Nat) : Int))), (11, .val (Value.int .i64 ((k + 1 : Nat) : Int)))] [] ⟨rfl, rfl, rfl, rfl, rfl, trivial⟩ trivial rfl⟩
  · skip
    have hkm : k = m := by omega
    refine a_region TT h hm [0] [eS 12 (.val (Value.bool false))] (by kernel_rfl) ⟨fun L u => u_bin u (gd0 rfl) 12 rfl .lss 3 3 (.tmp 11) (.tmp 10) rfl rfl rfl (eqg_int _ _ _ _ _ _ _ _) (Value.bool false) (no_of (fun w => i_lss _ _ _ _ w) (by omega)), trivial⟩ [(0, .val (Value.slice (some ⟨g, 0, none⟩) (m) (c))), (3, .val (Value.int .i64 ((sumN N k : Nat) : Int))), (9, .val (Value.slice (some ⟨g, 0, none⟩) (m) (c))), (10, .val (Value.int .i64 ((m : Nat) : Int))), (11, .val (Value.int .i64 ((k : Nat) : Int))), (12, .val (Value.bool false))] [] ⟨rfl, rfl, rfl, rfl, rfl, rfl, trivial⟩ trivial rfl (fun a w h => ?_)
    refine wp_seq ?_
    refine go_cond h false rfl (fun ht => ?_) (fun hf => ?_)
    case refine_1 => cases ht
    refine wp_exit ?_
    refine then_exit ?_
    refine then_exit ?_
    refine blk_exit ?_
    refine then_norm ?_
    refine a_regionQ TT h hm [1, 2] [eS 23 (.val (Value.int .i64 ((sumN N k : Nat) : Int))), eQ 24 (rowPd 5 1 (0) (cells8 ([]))), eS 6 (.unk 24 id)] (by kernel_rfl) ⟨rfl, fun L u => u_callQ u (gd0 rfl) 24 rfl rfl 23 #[(.const (.slice none 0 0)), (.tmp 23)] #[22, 3] rfl [.val ((Value.slice none 0 0)), .val (Value.int .i64 ((sumN N k : Nat) : Int))] rfl (fun vs w => callFunc_enter Tryd.func23 (by kernel_rfl) (by kernel_rfl) vs w) (rowPd 5 1 (0) (cells8 ([]))) (fun β a w hr => thing_of (grow_nil (by rw [hkm]; exact h0) (by rw [hkm]; exact hS) _)), fun L u => u_copyQ u (gd0 rfl) 6 rfl (.tmp 24) (Or.inr rfl) rfl rfl, trivial⟩ [(0, .val (Value.slice (some ⟨g, 0, none⟩) (m) (c))), (3, .val (Value.int .i64 ((sumN N k : Nat) : Int))), (6, .unk 24 id), (9, .val (Value.slice (some ⟨g, 0, none⟩) (m) (c))), (10, .val (Value.int .i64 ((m : Nat) : Int))), (11, .val (Value.int .i64 ((k : Nat) : Int)))] [] [(24, rowPd 5 1 (0) (cells8 ([])))] ⟨rfl, rfl, rfl, rfl, rfl, rfl, trivial⟩ trivial ⟨rfl, trivial⟩ rfl (fun a w h => ?_)
    refine wp_seq ?_
    refine a_regionQ TT h hm [1] [eS 25 (.val (Value.slice (some ⟨g, 0, none⟩) (m) (c))), eS 26 (.val (Value.int .i64 ((m : Nat) : Int))), eS 27 (.val ((Value.int IntKind.i64 0)))] (by kernel_rfl) ⟨rfl, fun L u => u_lenV u (gd0 rfl) 26 rfl (.tmp 25) 49 rfl rfl Tryd.underlying49, rfl, trivial⟩ [(0, .val (Value.slice (some ⟨g, 0, none⟩) (m) (c))), (3, .val (Value.int .i64 ((sumN N k : Nat) : Int))), (6, .unk 24 id), (9, .val (Value.slice (some ⟨g, 0, none⟩) (m) (c))), (10, .val (Value.int .i64 ((m : Nat) : Int))), (11, .val (Value.int .i64 ((k : Nat) : Int))), (25, .val (Value.slice (some ⟨g, 0, none⟩) (m) (c))), (26, .val (Value.int .i64 ((m : Nat) : Int))), (27, .val ((Value.int IntKind.i64 0)))] [] [(24, rowPd 5 1 (0) (cells8 ([])))] ⟨rfl, rfl, rfl, rfl, rfl, rfl, rfl, rfl, rfl, trivial⟩ trivial ⟨rfl, trivial⟩ rfl (fun a w h => ?_)
    refine wp_block ?_
    replace h := (h.rename 24 33 rfl rfl).keepQ [(0, .val (Value.slice (some ⟨g, 0, none⟩) (m) (c))), (3, .val (Value.int .i64 ((sumN N k : Nat) : Int))), (6, .unk 33 id), (9, .val (Value.slice (some ⟨g, 0, none⟩) (m) (c))), (10, .val (Value.int .i64 ((m : Nat) : Int))), (11, .val (Value.int .i64 ((k : Nat) : Int))), (25, .val (Value.slice (some ⟨g, 0, none⟩) (m) (c))), (26, .val (Value.int .i64 ((m : Nat) : Int))), (27, .val ((Value.int IntKind.i64 0)))] [] [(33, rowPd 5 1 (0) (cells8 ([])))] ⟨rfl, rfl, rfl, rfl, rfl, rfl, rfl, rfl, rfl, trivial⟩ trivial ⟨rfl, trivial⟩ rfl
    refine go_loop (fun (k2 : Nat) => SS.mkQ [(6, .unk 33 id), (25, .val (Value.slice (some ⟨g, 0, none⟩) (m) (c))), (26, .val (Value.int .i64 ((m : Nat) : Int))), (27, .val (Value.int .i64 ((k2 : Nat) : Int)))] [] [(33, rowPd 5 1 (sumN N (k2)) (cells8 (catN f N (k2))))]) (fun k2 => k2 ≤ m) (fun k2 => m - k2) (i := 0) (h.keepQ [(6, .unk 33 id), (25, .val (Value.slice (some ⟨g, 0, none⟩) (m) (c))), (26, .val (Value.int .i64 ((m : Nat) : Int))), (27, .val (Value.int .i64 ((0 : Nat) : Int)))] [] [(33, rowPd 5 1 (sumN N (0)) (cells8 (catN f N (0))))] ⟨rfl, rfl, rfl, rfl, trivial⟩ trivial ⟨rfl, trivial⟩ rfl) (Nat.zero_le _) (fun k2 a w hG h => ?_)
    by_cases hs2 : k2 < m
    · skip
      have hS2 : sumN N (k2 + 1) = sumN N k2 + N k2 := rfl
      have hle2 := sumN_le (N := N) (show k2 + 1 ≤ m by omega)
      refine a_regionQ TT h hm [0] [eS 28 (.val (Value.bool true))] (by kernel_rfl) ⟨fun L u => u_bin u (gd0 rfl) 28 rfl .lss 3 3 (.tmp 27) (.tmp 26) rfl rfl rfl (eqg_int _ _ _ _ _ _ _ _) (Value.bool true) (yes_of (fun w => i_lss _ _ _ _ w) (by omega)), trivial⟩ [(6, .unk 33 id), (25, .val (Value.slice (some ⟨g, 0, none⟩) (m) (c))), (26, .val (Value.int .i64 ((m : Nat) : Int))), (27, .val (Value.int .i64 ((k2 : Nat) : Int))), (28, .val (Value.bool true))] [] [(33, rowPd 5 1 (sumN N (k2)) (cells8 (catN f N (k2))))] ⟨rfl, rfl, rfl, rfl, rfl, trivial⟩ trivial ⟨rfl, trivial⟩ rfl (fun a w h => ?_)
      refine wp_seq ?_
      refine go_cond h true rfl (fun ht => ?_) (fun hf => ?_)
      case refine_2 => cases hf
      refine wp_skip ?_
      refine then_norm ?_
      refine wp_seq ?_
      refine wp_block ?_
      refine a_regionQ TT h hm [0, 1] [eS 29 (.val (Value.pointer (some ⟨g, 0 + (k2), none⟩))), eS 30 (.val (Value.slice (Z k2) (N k2) (C k2))), eS 8 (.val (Value.slice (Z k2) (N k2) (C k2)))] (by kernel_rfl) ⟨fun L u => u_atX u (gd0 rfl) 29 rfl 49 (.tmp 25) (.tmp 27) rfl rfl (k := k2) rfl Tryd.underlying49 i22 (by omega) (0 + (k2)) (by omega), fun L u => u_loadX u (gd0 rfl) 30 rfl 22 (.tmp 29) rfl rfl Tryd.underlying22 rfl (Value.slice (Z k2) (N k2) (C k2)) (hcell k2 hs2) rfl, rfl, trivial⟩ [(6, .unk 33 id), (8, .val (Value.slice (Z k2) (N k2) (C k2))), (25, .val (Value.slice (some ⟨g, 0, none⟩) (m) (c))), (26, .val (Value.int .i64 ((m : Nat) : Int))), (27, .val (Value.int .i64 ((k2 : Nat) : Int)))] [] [(33, rowPd 5 1 (sumN N (k2)) (cells8 (catN f N (k2))))] ⟨rfl, rfl, rfl, rfl, rfl, trivial⟩ trivial ⟨rfl, trivial⟩ rfl (fun a w h => ?_)
      refine sq_begin [0, 1, 2, 3] rfl ?_
      refine sq_step h (i := 0) rfl (u_copyQ (xs := []) (up_seq (i := 0) (by kernel_rfl) rfl) (gd0 rfl) 31 rfl (.tmp 6) (Or.inl rfl) rfl rfl) (fun a w h => ?_)
      refine sq_step h (i := 1) rfl (u_move (xs := []) (up_seq (i := 1) (by kernel_rfl) rfl) (gd0 rfl) 32 rfl (.tmp 8) (Or.inl rfl) rfl) (fun a w h => ?_)
      refine sq_appQ (k := sumN N (k2)) (l := catN f N (k2)) h (i := 2) rfl (gq0 rfl) 33 rfl (.tmp 31) (.tmp 32) rfl 33 rfl rfl (Or.inl rfl) (m := (N k2)) (f := (f k2)) (fun β hr => ⟨Z k2, C k2, hr.eval (v := .val (.slice (Z k2) (N k2) (C k2))) rfl, (hba k2 hs2).keep (Bs.kp_of hr.bl)⟩) (by omega) [(25, .val (Value.slice (some ⟨g, 0, none⟩) (m) (c))), (26, .val (Value.int .i64 ((m : Nat) : Int))), (27, .val (Value.int .i64 ((k2 : Nat) : Int)))] ⟨rfl, rfl, rfl, trivial⟩ rfl (fun a w h => ?_)
      replace h := h.keepQ [(25, .val (Value.slice (some ⟨g, 0, none⟩) (m) (c))), (26, .val (Value.int .i64 ((m : Nat) : Int))), (27, .val (Value.int .i64 ((k2 : Nat) : Int))), (33, .unk 33 id)] [] [(33, rowPd 5 1 (sumN N (k2 + 1)) (cells8 (catN f N (k2 + 1))))] ⟨rfl, rfl, rfl, rfl, trivial⟩ trivial ⟨rfl, trivial⟩ rfl
      refine sq_step h (i := 3) rfl (u_copyQ (xs := []) (up_seq (i := 3) (by kernel_rfl) rfl) (gd0 rfl) 6 rfl (.tmp 33) (Or.inr rfl) rfl rfl) (fun a w h => ?_)
      replace h := h.keepQ [(6, .unk 33 id), (25, .val (Value.slice (some ⟨g, 0, none⟩) (m) (c))), (26, .val (Value.int .i64 ((m : Nat) : Int))), (27, .val (Value.int .i64 ((k2 : Nat) : Int)))] [] [(33, rowPd 5 1 (sumN N (k2 + 1)) (cells8 (catN f N (k2 + 1))))] ⟨rfl, rfl, rfl, rfl, trivial⟩ trivial ⟨rfl, trivial⟩ rfl
      refine sq_end ?_
      refine blk_norm ?_
      refine then_norm ?_
      refine a_endQ TT h hm [0] [eS 34 (.val (Value.int .i64 ((k2 + 1 : Nat) : Int))), eS 27 (.val (Value.int .i64 ((k2 + 1 : Nat) : Int)))] (by kernel_rfl) ⟨fun L u => u_bin u (gd0 rfl) 34 rfl .add 3 3 (.tmp 27) (.const (.int .i64 1)) rfl rfl rfl (eqg_int _ _ _ _ _ _ _ _) (Value.int .i64 ((k2 + 1 : Nat) : Int)) (fun w => i_add _ _ _ _ (by omega) ⟨by omega, by omega⟩ w), rfl, trivial⟩ [(6, .unk 33 id), (25, .val (Value.slice (some ⟨g, 0, none⟩) (m) (c))), (26, .val (Value.int .i64 ((m : Nat) : Int))), (27, .val (Value.int .i64 ((k2 + 1 : Nat) : Int)))] [] [(33, rowPd 5 1 (sumN N (k2 + 1)) (cells8 (catN f N (k2 + 1))))] ⟨rfl, rfl, rfl, rfl, trivial⟩ trivial ⟨rfl, trivial⟩ rfl (fun a w h => ?_)
      refine then_norm ?_
      exact ⟨k2 + 1, (by omega), (by omega), h.keepQ [(6, .unk 33 id), (25, .val (Value.slice (some ⟨g, 0, none⟩) (m) (c))), (26, .val (Value.int .i64 ((m : Nat) : Int))), (27, .val (Value.int .i64 ((k2 + 1 : Nat) : Int)))] [] [(33, rowPd 5 1 (sumN N (k2 + 1)) (cells8 (catN f N (k2 + 1))))] ⟨rfl, rfl, rfl, rfl, trivial⟩ trivial ⟨rfl, trivial⟩ rfl⟩
    · skip
      have hkm2 : k2 = m := by omega
      refine a_regionQ TT h hm [0] [eS 28 (.val (Value.bool false))] (by kernel_rfl) ⟨fun L u => u_bin u (gd0 rfl) 28 rfl .lss 3 3 (.tmp 27) (.tmp 26) rfl rfl rfl (eqg_int _ _ _ _ _ _ _ _) (Value.bool false) (no_of (fun w => i_lss _ _ _ _ w) (by omega)), trivial⟩ [(6, .unk 33 id), (25, .val (Value.slice (some ⟨g, 0, none⟩) (m) (c))), (26, .val (Value.int .i64 ((m : Nat) : Int))), (27, .val (Value.int .i64 ((k2 : Nat) : Int))), (28, .val (Value.bool false))] [] [(33, rowPd 5 1 (sumN N (k2)) (cells8 (catN f N (k2))))] ⟨rfl, rfl, rfl, rfl, rfl, trivial⟩ trivial ⟨rfl, trivial⟩ rfl (fun a w h => ?_)
      refine wp_seq ?_
      refine go_cond h false rfl (fun ht => ?_) (fun hf => ?_)
      case refine_1 => cases ht
      refine wp_exit ?_
      refine then_exit ?_
      refine then_exit ?_
      refine blk_exit ?_
      refine then_norm ?_
      refine a_regionQ TT h hm [0, 1] [eS 35 (.unk 33 id), eS 2 (.unk 33 id)] (by kernel_rfl) ⟨fun L u => u_copyQ u (gd0 rfl) 35 rfl (.tmp 6) (Or.inl rfl) rfl rfl, fun L u => u_copyQ u (gd0 rfl) 2 rfl (.tmp 35) (Or.inr rfl) rfl rfl, trivial⟩ [(2, .unk 33 id)] [] [(33, rowPd 5 1 (sumN N (k2)) (cells8 (catN f N (k2))))] ⟨rfl, trivial⟩ trivial ⟨rfl, trivial⟩ rfl (fun a w h => ?_)
      refine wp_ret ?_
      refine ret_thing h 2 rfl (lk rfl) 33 id rfl rfl (fun v F hp hF => ?_)
      exact ⟨v, rfl, by have q := row_back hp hF; rw [hkm2] at q; exact q, h.grows⟩
/-- .. of two, as a thing. -/
theorem con_two {n1 n2 : Nat} {l1 l2 : List Nat} {v : Value} {F : Nat → Bool} {w : World} (h0 : 0 < n1 + n2) (hS : n1 + n2 ≤ 1000000) (h : (twoPd n1 l1 n2 l2).p v F w) : Calls Tryd.prog 15 [v].toArray w fun r w' => ∃ v Fp, r = .returned v ∧ (rowPd 5 1 (n1 + n2) (cells8 (l1 ++ l2))).p v Fp w' ∧ (∀ b, Fp b = true → w.heap.size ≤ b ∧ b < w'.heap.size) ∧ Below w.heap.size w w' := by
  obtain ⟨g, v1, v2, rfl, _, k1, k2, ⟨z1, c1, rfl, _, e1, b1, _⟩, ⟨z2, c2, rfl, _, e2, b2, _⟩⟩ := h
  have hs : sumN (fun i => if i = 0 then n1 else n2) 2 = n1 + n2 := by simp [sumN]
  have hc : catN (fun i => if i = 0 then (fun j => l1.getD j 0) else fun j => l2.getD j 0) (fun i => if i = 0 then n1 else n2) 2 = l1 ++ l2 := by
    show [] ++ fl (fun j => l1.getD j 0) n1 ++ fl (fun j => l2.getD j 0) n2 = _
    rw [fl_getD e1, fl_getD e2]
    rfl
  have hh := concat_any (g := g) (m := 2) (c := 2) (w := w) (Z := fun i => if i = 0 then z1 else z2) (N := fun i => if i = 0 then n1 else n2) (C := fun i => if i = 0 then c1 else c2) (f := fun i => if i = 0 then (fun j => l1.getD j 0) else fun j => l2.getD j 0) (by decide) (fun i hi => by
    match i, hi with
    | 0, _ => exact k1
    | 1, _ => exact k2) (fun i hi => by
    match i, hi with
    | 0, _ => exact b1
    | 1, _ => exact b2) (by rw [hs]; exact h0) (by rw [hs]; exact hS)
  rw [hs, hc] at hh
  exact thing_of hh
end Go.Proofs.YtlpjdhoboebbfaaDoor
