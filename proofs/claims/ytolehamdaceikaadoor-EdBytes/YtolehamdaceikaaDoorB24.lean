/- What the document's own Decode of layer 9 answers. What the document's own Decode of layer 9 answers: the point whose bytes these are, if there is one. -/
import Derived.Test.YtolehamdaceikaaDoorB23
import Derived.Test.YtolehamdaceikaaDoorB18
namespace Go.Proofs.YtolehamdaceikaaDoor
open Go.RowKit

theorem i69 : (Tryd.prog.info? 69).map (·.size) = some 16 := by kernel_rfl
theorem z69 : (Tryd.prog.info? 69).map (·.zero) = some (some (.agg (nz ++ nz ++ nz ++ nz).toArray)) := by kernel_rfl
theorem bT4 (a b c d : Fin m2) : Tryd.prog.built 69 [(0, .agg (gc a).toArray), (1, .agg (gc b).toArray), (2, .agg (gc c).toArray), (3, .agg (gc d).toArray)] = some (gc a ++ gc b ++ gc c ++ gc d).toArray := by kernel_rfl
theorem bPgn (a : Fin m2) (b : Int) : Tryd.prog.built 26 [(0, .agg (gc a).toArray), (1, .agg (nc b).toArray)] = some (gc a ++ nc b ++ [Value.bool false]).toArray := by kernel_rfl
theorem gc_im : gc im = [Value.int .u64 14190309331451158704] ++ [Value.int .u64 3405592160176694392] ++ [Value.int .u64 3120150775007532967] ++ [Value.int .u64 3135389899092516619] := by kernel_rfl
theorem bIm : Tryd.prog.built 24 [(0, .int .u64 14190309331451158704), (1, .int .u64 3405592160176694392), (2, .int .u64 3120150775007532967), (3, .int .u64 3135389899092516619)] = some (gc im).toArray := by rw [gc_im]; kernel_rfl
theorem nc_three : nc 3 = [Value.int .u64 3] ++ [Value.int .u64 0] ++ [Value.int .u64 0] ++ [Value.int .u64 0] := by kernel_rfl
theorem ex8_num : Num ((ex8 : Nat) : Int) := ⟨by decide +kernel, by decide +kernel⟩
theorem ex8_is : (md 2 + 3) / 2 / 2 / 2 = ((ex8 : Nat) : Int) := by decide +kernel
theorem gc_pow (x : Fin m2) (k : Nat) : gc (x ^ k) = nc (pw (x.val : Int) (k : Int) % md 2) := by
  have h : x ^ k = kc ((x.val : Int) ^ k) := by rw [kc_pow, kc_self]
  rw [gc, h, kc_val, md_m2]
  unfold pw
  rw [Int.toNat_natCast]
theorem d_pow {w : World} (hT : Tab w) (x : Fin m2) {k : Nat} (hk : Num (k : Int)) : Calls Tryd.prog 59 [.int .i64 2, .agg (gc x).toArray, .agg (nc (k : Int)).toArray].toArray w fun e w' => e = .returned (.agg (gc (x ^ k)).toArray) ∧ Below w.heap.size w w' := by
  rw [gc_pow]
  exact f_pow (k := 2) ⟨by decide, by decide⟩ (gin_num x) hk hT
theorem gc_mulR {V : Int} (y : Fin m2) (hy : y = kc V) : gc (y * y) = nc (V * V % md 2) := by
  rw [hy, ← kc_mul, gc, kc_val, md_m2]
theorem s_mulF {w : World} (hT : Tab w) {V : Int} (hV : Num V) {y : Fin m2} (hy : y = kc V) : Calls Tryd.prog 65 [.int .i64 2, .agg (nc V).toArray, .agg (nc V).toArray].toArray w fun e w' => e = .returned (.agg (gc (y * y)).toArray) ∧ Below w.heap.size w w' := by
  rw [gc_mulR y hy]
  exact f_mul (k := 2) ⟨by decide, by decide⟩ hV hV hT
theorem t_Little {w : World} {b c : Nat} {V : Int} (hc : 32 ≤ c) {cs : List Value} (hr : w.rangeAt b 0 cs) (hcs : cs = by32 (fun i => Y i V)) : Calls Tryd.prog 57 [.slice (some ⟨b, 0, none⟩) 32 c].toArray w fun e w' => e = .returned (.tuple [.agg (nc V).toArray, .bool true].toArray) ∧ Below w.heap.size w w' := by
  subst hcs
  have h := refLittle_any hc (fun i => ⟨Y_lo i V, Y_hi i V⟩) (rd_by hr)
  have w4 := E_words V
  rw [w4.1, w4.2.1, w4.2.2.1, w4.2.2.2] at h
  exact h
theorem t_Same {w : World} {b c b2 o2 c2 : Nat} {f g : Nat → Int} (h1 : w.rangeAt b 0 (by32 f)) (h2 : Rd w b2 o2 32 g) {t : Bool} (ht : sameB f g 32 = t) : Calls Tryd.prog 25 [.slice (some ⟨b, 0, none⟩) 32 c, .slice (some ⟨b2, o2, none⟩) 32 c2].toArray w fun e w' => e = .returned (.bool t) ∧ Below w.heap.size w w' := by
  rw [← ht]
  exact same_any (by omega) (rd_by h1) h2
theorem by32_cells (f : Nat → Nat) : by32 (fun i => ((f i : Nat) : Int)) = cells8 (fl f 32) := rfl
theorem tries_at (y : Fin m2) {j : Nat} (hj : j < 4) : gc (tr y j) = ((gc (rt y) ++ gc (rt y * im) ++ gc (0 - rt y) ++ gc (0 - rt y * im)).drop (j * 4)).take 4 := by
  match j, hj with
  | 0, _ => rfl
  | 1, _ => rfl
  | 2, _ => rfl
  | 3, _ => rfl
set_option maxRecDepth 100000 in
set_option maxHeartbeats 4000000 in
theorem s_small3 {w : World}  : Calls Tryd.prog 68 [Value.int .u64 3].toArray w fun e w' => e = .returned (.agg (nc 3).toArray) ∧ Below w.heap.size w w' := by
  refine enter (args := [Value.int .u64 3]) Tryd.func68 rfl 5 rfl (lk rfl) (fun a h => ?_)
  refine go_region h hm [eN 2 (nz)] (by kernel_rfl) ⟨
    fun L u => u_alloc u (gd0 rfl) 24 rfl 2 rfl rfl z24 _ rfl,
    trivial⟩ [(0, .val (Value.int .u64 3)), (2, .ptr 2 0)] [(2, nz)] ⟨rfl, rfl, trivial⟩ ⟨rfl, trivial⟩ rfl (fun a w h => ?_)
  refine go_region h hm [eS 3 (.val (Value.int .u64 3)), eS 4 (.val (.agg ([Value.int .u64 3] ++ [(Value.int IntKind.u64 0)] ++ [(Value.int IntKind.u64 0)] ++ [(Value.int IntKind.u64 0)]).toArray)), eM 2 ([Value.int .u64 3] ++ [(Value.int IntKind.u64 0)] ++ [(Value.int IntKind.u64 0)] ++ [(Value.int IntKind.u64 0)])] (by kernel_rfl) ⟨
    fun L u => u_move u (gd0 rfl) 3 rfl (.tmp 0) (Or.inl rfl) rfl,
    fun L u => u_build u (gd0 rfl) 4 rfl 24 #[(0, (.tmp 3)), (1, (.const (.int .u64 0))), (2, (.const (.int .u64 0))), (3, (.const (.int .u64 0)))] rfl [(0, Value.int .u64 3), (1, (Value.int IntKind.u64 0)), (2, (Value.int IntKind.u64 0)), (3, (Value.int IntKind.u64 0))] rfl ([Value.int .u64 3] ++ [(Value.int IntKind.u64 0)] ++ [(Value.int IntKind.u64 0)] ++ [(Value.int IntKind.u64 0)]) (g_bN4 _ _ _ _),
    fun L u => u_store u (gd0 rfl) 24 (.tmp 2) (.tmp 4) rfl rfl rfl (vs := [Value.int .u64 3] ++ [(Value.int IntKind.u64 0)] ++ [(Value.int IntKind.u64 0)] ++ [(Value.int IntKind.u64 0)]) rfl rfl i24 (lk rfl) rfl _ rfl,
    trivial⟩ [(2, .ptr 2 0)] [(2, [Value.int .u64 3] ++ [(Value.int IntKind.u64 0)] ++ [(Value.int IntKind.u64 0)] ++ [(Value.int IntKind.u64 0)])] ⟨rfl, trivial⟩ ⟨rfl, trivial⟩ rfl (fun a w h => ?_)
  refine wp_ret ?_
  refine ret_row h 2 24 rfl (lk rfl) 2 rfl ([Value.int .u64 3] ++ [(Value.int IntKind.u64 0)] ++ [(Value.int IntKind.u64 0)] ++ [(Value.int IntKind.u64 0)]) rfl _ Tryd.underlying24 rfl i24 ?_
  exact ⟨by rw [nc_three], h.grows⟩
set_option maxRecDepth 100000 in
set_option maxHeartbeats 4000000 in
theorem s_eighth {w : World} (hT : Tab w)  : Calls Tryd.prog 60 [].toArray w fun e w' => e = .returned (.agg (nc ((ex8 : Nat) : Int)).toArray) ∧ Below w.heap.size w w' := by
  obtain ⟨q3, hq3⟩ : ∃ z : Int, z = 3 := ⟨_, rfl⟩
  obtain ⟨q0, hq0⟩ : ∃ z : Int, z = md 2 := ⟨_, rfl⟩
  obtain ⟨q1, hq1⟩ : ∃ z : Int, z = q0 + q3 := ⟨_, rfl⟩
  obtain ⟨q4, hq4⟩ : ∃ z : Int, z = q1 / 2 := ⟨_, rfl⟩
  obtain ⟨q5, hq5⟩ : ∃ z : Int, z = q4 / 2 := ⟨_, rfl⟩
  obtain ⟨q6, hq6⟩ : ∃ z : Int, z = q5 / 2 := ⟨_, rfl⟩
  have nq1 : Num q1 := by rw [hq1, hq0, hq3]; exact ⟨by decide +kernel, by decide +kernel⟩
  have nq4 : Num q4 := ⟨by have := nq1.lo; omega, by have := nq1.lo; have := nq1.hi; omega⟩
  have nq5 : Num q5 := ⟨by have := nq4.lo; omega, by have := nq4.lo; have := nq4.hi; omega⟩
  refine enter (args := []) Tryd.func60 rfl 17 rfl (lk rfl) (fun a h => ?_)
  refine go_region h hm [eN 0 (nz)] (by kernel_rfl) ⟨
    fun L u => u_alloc u (gd0 rfl) 24 rfl 0 rfl rfl z24 _ rfl,
    trivial⟩ [(0, .ptr 0 0)] [(0, nz)] ⟨rfl, trivial⟩ ⟨rfl, trivial⟩ rfl (fun a w h => ?_)
  refine go_region h hm [eS 5 (.val (.agg (nc (q0)).toArray)), eS 6 (.val (.agg (nc (q3)).toArray)), eS 7 (.val (.tuple [.agg (nc (q1)).toArray, Value.bool (cb q0 q3 4)].toArray)), eS 4 (.val (.tuple [.agg (nc (q1)).toArray, Value.bool (cb q0 q3 4)].toArray)), eS 8 (.val (.agg (nc (q1)).toArray)), eS 9 (.val (Value.bool (cb q0 q3 4))), eN 1 (nz), eM 1 (nc (q1)), eS 2 (.val (Value.bool (cb q0 q3 4)))] (by kernel_rfl) ⟨
    fun L u => u_call u (gd0 rfl) 5 rfl 64 #[(.const (.int .i64 2))] #[3] rfl [(Value.int IntKind.i64 2)] rfl (cE64 _) (.agg (nc (q0)).toArray) (fun w hb => by have g := f_mod 2 (hT.keep (Bs.kp_of hb)); rw [← hq0] at g; exact g),
    fun L u => u_call u (gd0 rfl) 6 rfl 68 #[(.const (.int .u64 3))] #[22] rfl [(Value.int IntKind.u64 3)] rfl (cE68 _) (.agg (nc (q3)).toArray) (fun w hb => by rw [hq3]; exact s_small3),
    fun L u => u_call u (gd0 rfl) 7 rfl 18 #[(.tmp 5), (.tmp 6)] #[24, 24] rfl [.agg (nc (q0)).toArray, .agg (nc (q3)).toArray] rfl (cE18 _) (.tuple [.agg (nc (q1)).toArray, Value.bool (cb q0 q3 4)].toArray) (fun w hb => by have g := ref_add_walk q0 q3 w; rw [← hq1] at g; exact g),
    fun L u => u_move u (gd0 rfl) 4 rfl (.tmp 7) (Or.inl rfl) rfl,
    fun L u => u_part u (gd0 rfl) 8 rfl (.tmp 4) 0 rfl (vs := [.agg (nc (q1)).toArray, Value.bool (cb q0 q3 4)]) rfl _ rfl,
    fun L u => u_part u (gd0 rfl) 9 rfl (.tmp 4) 1 rfl (vs := [.agg (nc (q1)).toArray, Value.bool (cb q0 q3 4)]) rfl _ rfl,
    fun L u => u_alloc u (gd0 rfl) 24 rfl 1 rfl rfl z24 _ rfl,
    fun L u => u_store u (gd0 rfl) 24 (.tmp 1) (.tmp 8) rfl rfl rfl (vs := nc (q1)) rfl rfl i24 (lk rfl) rfl _ rfl,
    fun L u => u_move u (gd0 rfl) 2 rfl (.tmp 9) (Or.inr rfl) rfl,
    trivial⟩ [(0, .ptr 0 0), (1, .ptr 1 0)] [(0, nz), (1, nc (q1))] ⟨rfl, rfl, trivial⟩ ⟨rfl, rfl, trivial⟩ rfl (fun a w h => ?_)
  refine wp_seq ?_
  refine go_region h hm [eS 3 (.val ((Value.int IntKind.i64 0)))] (by kernel_rfl) ⟨
    fun L u => u_move u (gd0 rfl) 3 rfl (.const (.int .i64 0)) (Or.inr rfl) rfl,
    trivial⟩ [(0, .ptr 0 0), (1, .ptr 1 0), (3, .val ((Value.int IntKind.i64 0)))] [(0, nz), (1, nc (q1))] ⟨rfl, rfl, rfl, trivial⟩ ⟨rfl, rfl, trivial⟩ rfl (fun a w h => ?_)
  refine wp_block ?_
  refine wp_loop_rounds 4 ?_
  rw [rounds_succ]
  refine wp_seq ?_
  refine go_region h hm [eS 10 (.val ((Value.int IntKind.i64 0))), eS 11 (.val (Value.bool true))] (by kernel_rfl) ⟨
    fun L u => u_move u (gd0 rfl) 10 rfl (.tmp 3) (Or.inl rfl) rfl,
    fun L u => u_bin u (gd0 rfl) 11 rfl .lss 3 3 (.tmp 10) (.const (.int .i64 3)) rfl rfl rfl (eqg_int _ _ _ _ _ _ _ _) (Value.bool true) (yes_of (fun w => i_lss _ _ _ _ w) (by decide)),
    trivial⟩ [(0, .ptr 0 0), (1, .ptr 1 0), (3, .val ((Value.int IntKind.i64 0))), (11, .val (Value.bool true))] [(0, nz), (1, nc (q1))] ⟨rfl, rfl, rfl, rfl, trivial⟩ ⟨rfl, rfl, trivial⟩ rfl (fun a w h => ?_)
  refine go_cond h true rfl (fun ht => ?_) (fun hf => ?_)
  case refine_2 => cases hf
  refine wp_skip ?_
  refine then_norm ?_
  refine wp_seq ?_
  refine wp_block ?_
  refine go_end h hm [eS 14 (.val (.agg (nc (q1)).toArray)), eS 15 (.val (.agg (nc (q4)).toArray)), eM 1 (nc (q4))] (by kernel_rfl) ⟨
    fun L u => u_load u (gd0 rfl) 14 rfl 24 (.tmp 1) rfl rfl rfl Tryd.underlying24 rfl i24 (lk rfl) _ rfl,
    fun L u => u_call u (gd0 rfl) 15 rfl 77 #[(.tmp 14)] #[24] rfl [.agg (nc (q1)).toArray] rfl (cE77 _) (.agg (nc (q4)).toArray) (fun w hb => by have g := ref_half_any nq1 w; rw [← hq4] at g; exact g),
    fun L u => u_store u (gd0 rfl) 24 (.tmp 1) (.tmp 15) rfl rfl rfl (vs := nc (q4)) rfl rfl i24 (lk rfl) rfl _ rfl,
    trivial⟩ [(0, .ptr 0 0), (1, .ptr 1 0), (3, .val ((Value.int IntKind.i64 0)))] [(0, nz), (1, nc (q4))] ⟨rfl, rfl, rfl, trivial⟩ ⟨rfl, rfl, trivial⟩ rfl (fun a w h => ?_)
  refine blk_norm ?_
  refine then_norm ?_
  refine go_end h hm [eS 12 (.val ((Value.int IntKind.i64 0))), eS 13 (.val (Value.int .i64 1)), eS 3 (.val (Value.int .i64 1))] (by kernel_rfl) ⟨
    fun L u => u_move u (gd0 rfl) 12 rfl (.tmp 3) (Or.inl rfl) rfl,
    fun L u => u_bin u (gd0 rfl) 13 rfl .add 3 3 (.tmp 12) (.const (.int .i64 1)) rfl rfl rfl (eqg_int _ _ _ _ _ _ _ _) (Value.int .i64 1) (fun w => i_add _ _ _ _ (by decide) (by decide) w),
    fun L u => u_move u (gd0 rfl) 3 rfl (.tmp 13) (Or.inr rfl) rfl,
    trivial⟩ [(0, .ptr 0 0), (1, .ptr 1 0), (3, .val (Value.int .i64 1))] [(0, nz), (1, nc (q4))] ⟨rfl, rfl, rfl, trivial⟩ ⟨rfl, rfl, trivial⟩ rfl (fun a w h => ?_)
  refine then_norm ?_
  rw [rounds_succ]
  refine wp_seq ?_
  refine go_region h hm [eS 10 (.val (Value.int .i64 1)), eS 11 (.val (Value.bool true))] (by kernel_rfl) ⟨
    fun L u => u_move u (gd0 rfl) 10 rfl (.tmp 3) (Or.inl rfl) rfl,
    fun L u => u_bin u (gd0 rfl) 11 rfl .lss 3 3 (.tmp 10) (.const (.int .i64 3)) rfl rfl rfl (eqg_int _ _ _ _ _ _ _ _) (Value.bool true) (yes_of (fun w => i_lss _ _ _ _ w) (by decide)),
    trivial⟩ [(0, .ptr 0 0), (1, .ptr 1 0), (3, .val (Value.int .i64 1)), (11, .val (Value.bool true))] [(0, nz), (1, nc (q4))] ⟨rfl, rfl, rfl, rfl, trivial⟩ ⟨rfl, rfl, trivial⟩ rfl (fun a w h => ?_)
  refine go_cond h true rfl (fun ht => ?_) (fun hf => ?_)
  case refine_2 => cases hf
  refine wp_skip ?_
  refine then_norm ?_
  refine wp_seq ?_
  refine wp_block ?_
  refine go_end h hm [eS 14 (.val (.agg (nc (q4)).toArray)), eS 15 (.val (.agg (nc (q5)).toArray)), eM 1 (nc (q5))] (by kernel_rfl) ⟨
    fun L u => u_load u (gd0 rfl) 14 rfl 24 (.tmp 1) rfl rfl rfl Tryd.underlying24 rfl i24 (lk rfl) _ rfl,
    fun L u => u_call u (gd0 rfl) 15 rfl 77 #[(.tmp 14)] #[24] rfl [.agg (nc (q4)).toArray] rfl (cE77 _) (.agg (nc (q5)).toArray) (fun w hb => by have g := ref_half_any nq4 w; rw [← hq5] at g; exact g),
    fun L u => u_store u (gd0 rfl) 24 (.tmp 1) (.tmp 15) rfl rfl rfl (vs := nc (q5)) rfl rfl i24 (lk rfl) rfl _ rfl,
    trivial⟩ [(0, .ptr 0 0), (1, .ptr 1 0), (3, .val (Value.int .i64 1))] [(0, nz), (1, nc (q5))] ⟨rfl, rfl, rfl, trivial⟩ ⟨rfl, rfl, trivial⟩ rfl (fun a w h => ?_)
  refine blk_norm ?_
  refine then_norm ?_
  refine go_end h hm [eS 12 (.val (Value.int .i64 1)), eS 13 (.val (Value.int .i64 2)), eS 3 (.val (Value.int .i64 2))] (by kernel_rfl) ⟨
    fun L u => u_move u (gd0 rfl) 12 rfl (.tmp 3) (Or.inl rfl) rfl,
    fun L u => u_bin u (gd0 rfl) 13 rfl .add 3 3 (.tmp 12) (.const (.int .i64 1)) rfl rfl rfl (eqg_int _ _ _ _ _ _ _ _) (Value.int .i64 2) (fun w => i_add _ _ _ _ (by decide) (by decide) w),
    fun L u => u_move u (gd0 rfl) 3 rfl (.tmp 13) (Or.inr rfl) rfl,
    trivial⟩ [(0, .ptr 0 0), (1, .ptr 1 0), (3, .val (Value.int .i64 2))] [(0, nz), (1, nc (q5))] ⟨rfl, rfl, rfl, trivial⟩ ⟨rfl, rfl, trivial⟩ rfl (fun a w h => ?_)
  refine then_norm ?_
  rw [rounds_succ]
  refine wp_seq ?_
  refine go_region h hm [eS 10 (.val (Value.int .i64 2)), eS 11 (.val (Value.bool true))] (by kernel_rfl) ⟨
    fun L u => u_move u (gd0 rfl) 10 rfl (.tmp 3) (Or.inl rfl) rfl,
    fun L u => u_bin u (gd0 rfl) 11 rfl .lss 3 3 (.tmp 10) (.const (.int .i64 3)) rfl rfl rfl (eqg_int _ _ _ _ _ _ _ _) (Value.bool true) (yes_of (fun w => i_lss _ _ _ _ w) (by decide)),
    trivial⟩ [(0, .ptr 0 0), (1, .ptr 1 0), (3, .val (Value.int .i64 2)), (11, .val (Value.bool true))] [(0, nz), (1, nc (q5))] ⟨rfl, rfl, rfl, rfl, trivial⟩ ⟨rfl, rfl, trivial⟩ rfl (fun a w h => ?_)
  refine go_cond h true rfl (fun ht => ?_) (fun hf => ?_)
  case refine_2 => cases hf
  refine wp_skip ?_
  refine then_norm ?_
  refine wp_seq ?_
  refine wp_block ?_
  refine go_end h hm [eS 14 (.val (.agg (nc (q5)).toArray)), eS 15 (.val (.agg (nc (q6)).toArray)), eM 1 (nc (q6))] (by kernel_rfl) ⟨
    fun L u => u_load u (gd0 rfl) 14 rfl 24 (.tmp 1) rfl rfl rfl Tryd.underlying24 rfl i24 (lk rfl) _ rfl,
    fun L u => u_call u (gd0 rfl) 15 rfl 77 #[(.tmp 14)] #[24] rfl [.agg (nc (q5)).toArray] rfl (cE77 _) (.agg (nc (q6)).toArray) (fun w hb => by have g := ref_half_any nq5 w; rw [← hq6] at g; exact g),
    fun L u => u_store u (gd0 rfl) 24 (.tmp 1) (.tmp 15) rfl rfl rfl (vs := nc (q6)) rfl rfl i24 (lk rfl) rfl _ rfl,
    trivial⟩ [(0, .ptr 0 0), (1, .ptr 1 0), (3, .val (Value.int .i64 2))] [(0, nz), (1, nc (q6))] ⟨rfl, rfl, rfl, trivial⟩ ⟨rfl, rfl, trivial⟩ rfl (fun a w h => ?_)
  refine blk_norm ?_
  refine then_norm ?_
  refine go_end h hm [eS 12 (.val (Value.int .i64 2)), eS 13 (.val (Value.int .i64 3)), eS 3 (.val (Value.int .i64 3))] (by kernel_rfl) ⟨
    fun L u => u_move u (gd0 rfl) 12 rfl (.tmp 3) (Or.inl rfl) rfl,
    fun L u => u_bin u (gd0 rfl) 13 rfl .add 3 3 (.tmp 12) (.const (.int .i64 1)) rfl rfl rfl (eqg_int _ _ _ _ _ _ _ _) (Value.int .i64 3) (fun w => i_add _ _ _ _ (by decide) (by decide) w),
    fun L u => u_move u (gd0 rfl) 3 rfl (.tmp 13) (Or.inr rfl) rfl,
    trivial⟩ [(0, .ptr 0 0), (1, .ptr 1 0), (3, .val (Value.int .i64 3))] [(0, nz), (1, nc (q6))] ⟨rfl, rfl, rfl, trivial⟩ ⟨rfl, rfl, trivial⟩ rfl (fun a w h => ?_)
  refine then_norm ?_
  rw [rounds_succ]
  refine wp_seq ?_
  refine go_region h hm [eS 10 (.val (Value.int .i64 3)), eS 11 (.val (Value.bool false))] (by kernel_rfl) ⟨
    fun L u => u_move u (gd0 rfl) 10 rfl (.tmp 3) (Or.inl rfl) rfl,
    fun L u => u_bin u (gd0 rfl) 11 rfl .lss 3 3 (.tmp 10) (.const (.int .i64 3)) rfl rfl rfl (eqg_int _ _ _ _ _ _ _ _) (Value.bool false) (no_of (fun w => i_lss _ _ _ _ w) (by decide)),
    trivial⟩ [(0, .ptr 0 0), (1, .ptr 1 0), (3, .val (Value.int .i64 3)), (11, .val (Value.bool false))] [(0, nz), (1, nc (q6))] ⟨rfl, rfl, rfl, rfl, trivial⟩ ⟨rfl, rfl, trivial⟩ rfl (fun a w h => ?_)
  refine go_cond h false rfl (fun ht => ?_) (fun hf => ?_)
  case refine_1 => cases ht
  refine wp_exit ?_
  refine then_exit ?_
  refine then_exit ?_
  refine blk_exit ?_
  refine then_norm ?_
  refine go_region h hm [eS 16 (.val (.agg (nc (q6)).toArray)), eM 0 (nc (q6))] (by kernel_rfl) ⟨
    fun L u => u_load u (gd0 rfl) 16 rfl 24 (.tmp 1) rfl rfl rfl Tryd.underlying24 rfl i24 (lk rfl) _ rfl,
    fun L u => u_store u (gd0 rfl) 24 (.tmp 0) (.tmp 16) rfl rfl rfl (vs := nc (q6)) rfl rfl i24 (lk rfl) rfl _ rfl,
    trivial⟩ [(0, .ptr 0 0)] [(0, nc (q6))] ⟨rfl, trivial⟩ ⟨rfl, trivial⟩ rfl (fun a w h => ?_)
  refine wp_ret ?_
  refine ret_row h 0 24 rfl (lk rfl) 0 rfl (nc (q6)) rfl _ Tryd.underlying24 rfl i24 ?_
  exact ⟨by rw [← ex8_is, ← hq0, ← hq3, ← hq1, ← hq4, ← hq5, ← hq6], h.grows⟩
set_option maxRecDepth 100000 in
set_option maxHeartbeats 4000000 in
theorem s_mul9 {w : World} (hT : Tab w) {V : Int} (hVn : Num V) {y : Fin m2} (hy : y = kc V) : Calls Tryd.prog 34 [.agg (nc V).toArray, .agg (nc V).toArray].toArray w fun e w' => e = .returned (.agg (gc (y * y)).toArray) ∧ Below w.heap.size w w' := by
  refine enter (args := [.agg (nc (V)).toArray, .agg (nc (V)).toArray]) Tryd.func34 rfl 8 rfl (lk rfl) (fun a h => ?_)
  refine go_region h hm [eN 2 (nc (V)), eN 3 (nc (V)), eN 4 (nz)] (by kernel_rfl) ⟨
    fun L u => u_box u (gd0 rfl) 24 (.tmp 0) rfl 2 rfl rfl rfl _ rfl,
    fun L u => u_box u (gd0 rfl) 24 (.tmp 1) rfl 3 rfl rfl rfl _ rfl,
    fun L u => u_alloc u (gd0 rfl) 24 rfl 4 rfl rfl z24 _ rfl,
    trivial⟩ [(2, .ptr 2 0), (3, .ptr 3 0), (4, .ptr 4 0)] [(2, nc (V)), (3, nc (V)), (4, nz)] ⟨rfl, rfl, rfl, trivial⟩ ⟨rfl, rfl, rfl, trivial⟩ rfl (fun a w h => ?_)
  refine go_region h hm [eS 5 (.val (.agg (nc (V)).toArray)), eS 6 (.val (.agg (nc (V)).toArray)), eS 7 (.val (.agg (gc (y * y)).toArray)), eM 4 (gc (y * y))] (by kernel_rfl) ⟨
    fun L u => u_load u (gd0 rfl) 5 rfl 24 (.tmp 2) rfl rfl rfl Tryd.underlying24 rfl i24 (lk rfl) _ rfl,
    fun L u => u_load u (gd0 rfl) 6 rfl 24 (.tmp 3) rfl rfl rfl Tryd.underlying24 rfl i24 (lk rfl) _ rfl,
    fun L u => u_call u (gd0 rfl) 7 rfl 65 #[(.const (.int .i64 2)), (.tmp 5), (.tmp 6)] #[3, 24, 24] rfl [(Value.int IntKind.i64 2), .agg (nc (V)).toArray, .agg (nc (V)).toArray] rfl (cE65 _) (.agg (gc (y * y)).toArray) (fun w hb => s_mulF (hT.keep (Bs.kp_of hb)) hVn hy),
    fun L u => u_store u (gd0 rfl) 24 (.tmp 4) (.tmp 7) rfl rfl rfl (vs := gc (y * y)) rfl rfl i24 (lk rfl) rfl _ rfl,
    trivial⟩ [(4, .ptr 4 0)] [(4, gc (y * y))] ⟨rfl, trivial⟩ ⟨rfl, trivial⟩ rfl (fun a w h => ?_)
  refine wp_ret ?_
  refine ret_row h 4 24 rfl (lk rfl) 4 rfl (gc (y * y)) rfl _ Tryd.underlying24 rfl i24 ?_
  exact ⟨rfl, h.grows⟩
set_option maxRecDepth 100000 in
set_option maxHeartbeats 8000000 in
theorem s_dec32 {w : World} (hT : Tab w) {b o c : Nat} {f : Nat → Nat} (hba : BA w (some ⟨b, o, none⟩) 32 f) (hrd : Rd w b o 32 (fun i => ((f i : Nat) : Int))) {V : Int} (hVn : Num V) (hV : by31 (fun i => ((f i : Nat) : Int)) ((fun i => ((f i : Nat) : Int)) 31 % 128) = by32 (fun i => Y i V)) {y : Fin m2} (hy : y = kc V) (Fo : Nat → Bool) (En : Nat → Nat → Int)
    (hform : ∀ j, j < 4 → ∀ {w : World}, Tab w → Calls Tryd.prog 11 [.agg (gc (tr y j) ++ nc V ++ [Value.bool false]).toArray].toArray w fun e w' => e = .returned (.bool (Fo j)) ∧ Below w.heap.size w w')
    (henc : ∀ j, j < 4 → Fo j = true → ∀ {w : World}, Tab w → Calls Tryd.prog 26 [.agg (gc (tr y j) ++ nc V ++ [Value.bool false]).toArray].toArray w fun e w' => New32 (En j) w e w')
    (R : List Value → Bool → Prop) (hyes : ∀ j, j < 4 → Fo j = true → sameB (En j) (fun i => ((f i : Nat) : Int)) 32 = true → R (gc (tr y j) ++ nc V ++ [Value.bool false]) true) (hno : (∀ j, j < 4 → ¬ (Fo j = true ∧ sameB (En j) (fun i => ((f i : Nat) : Int)) 32 = true)) → R (pcE (Ep.o m2)) false) :
    Calls Tryd.prog 23 [Value.slice (some ⟨b, o, none⟩) (32) (c)].toArray w fun e w' => ∃ cs t, e = .returned (.tuple [.agg cs.toArray, .bool t].toArray) ∧ R cs t ∧ Below w.heap.size w w' := by
  refine enter (args := [Value.slice (some ⟨b, o, none⟩) (32) (c)]) Tryd.func23 rfl 79 rfl (lk rfl) (fun a h => ?_)
  refine go_region h hm [eN 2 (nz ++ nz ++ [Value.bool false]), eS 3 (.val (Value.bool false))] (by kernel_rfl) ⟨
    fun L u => u_alloc u (gd0 rfl) 26 rfl 2 rfl rfl z26 _ rfl,
    fun L u => u_move u (gd0 rfl) 3 rfl (.const (.bool false)) (Or.inr rfl) rfl,
    trivial⟩ [(0, .val (Value.slice (some ⟨b, o, none⟩) (32) (c))), (2, .ptr 2 0)] [(2, nz ++ nz ++ [Value.bool false])] ⟨rfl, rfl, trivial⟩ ⟨rfl, trivial⟩ rfl (fun a w h => ?_)
  refine wp_seq ?_
  refine go_region h hm [eS 14 (.val (Value.slice (some ⟨b, o, none⟩) (32) (c))), eS 15 (.val (Value.int .i64 ((32 : Nat) : Int))), eS 16 (.val (Value.bool false))] (by kernel_rfl) ⟨
    fun L u => u_move u (gd0 rfl) 14 rfl (.tmp 0) (Or.inl rfl) rfl,
    fun L u => u_lenV u (gd0 rfl) 15 rfl (.tmp 14) 43 rfl rfl Tryd.underlying43,
    fun L u => u_bin u (gd0 rfl) 16 rfl .neq 3 3 (.tmp 15) (.const (.int .i64 32)) rfl rfl rfl (eqg_int _ _ _ _ _ _ _ _) (Value.bool false) (no_of (fun w => i_neq _ _ _ _ w) (by decide)),
    trivial⟩ [(0, .val (Value.slice (some ⟨b, o, none⟩) (32) (c))), (2, .ptr 2 0), (16, .val (Value.bool false))] [(2, nz ++ nz ++ [Value.bool false])] ⟨rfl, rfl, rfl, trivial⟩ ⟨rfl, trivial⟩ rfl (fun a w h => ?_)
  refine go_cond h false rfl (fun ht => ?_) (fun hf => ?_)
  case refine_1 => cases ht
  refine wp_skip ?_
  refine then_norm ?_
  refine go_region h hm [eS 4 (.val ((Value.slice none 0 0)))] (by kernel_rfl) ⟨
    fun L u => u_move u (gd0 rfl) 4 rfl (.const (.slice none 0 0)) (Or.inr rfl) rfl,
    trivial⟩ [(0, .val (Value.slice (some ⟨b, o, none⟩) (32) (c))), (2, .ptr 2 0), (4, .val ((Value.slice none 0 0)))] [(2, nz ++ nz ++ [Value.bool false])] ⟨rfl, rfl, rfl, trivial⟩ ⟨rfl, trivial⟩ rfl (fun a w h => ?_)
  refine wp_seq ?_
  refine sq_begin [0, 1, 2, 3] rfl ?_
  refine sq_step h (i := 0) rfl (u_move (xs := []) (up_seq (i := 0) (by kernel_rfl) rfl) (gd0 rfl) 18 rfl (.tmp 4) (Or.inl rfl) rfl) (fun a w h => ?_)
  refine sq_step h (i := 1) rfl (u_move (xs := []) (up_seq (i := 1) (by kernel_rfl) rfl) (gd0 rfl) 19 rfl (.tmp 0) (Or.inl rfl) rfl) (fun a w h => ?_)
  refine sq_app0 h (i := 2) rfl (gq0 rfl) 20 rfl rfl (.tmp 18) (.tmp 19) rfl rfl rfl (fun hb => hba.keep (Bs.kp_of hb)) (by omega) (by omega) (by32 (fun i => ((f i : Nat) : Int))) (by32_cells f) (fun c20 a w hc20 h => ?_)
  replace h := h.keep [(0, .val (Value.slice (some ⟨b, o, none⟩) (32) (c))), (2, .ptr 2 0), (4, .val ((Value.slice none 0 0))), (18, .val ((Value.slice none 0 0))), (19, .val (Value.slice (some ⟨b, o, none⟩) (32) (c))), (20, .sli 20 0 32 c20)] [(2, nz ++ nz ++ [Value.bool false]), (20, by32 (fun i => ((f i : Nat) : Int)))] ⟨rfl, rfl, rfl, rfl, rfl, rfl, trivial⟩ ⟨rfl, rfl, trivial⟩ rfl
  refine sq_step h (i := 3) rfl (u_copy (xs := []) (up_seq (i := 3) (by kernel_rfl) rfl) (gd0 rfl) 4 rfl (.tmp 20) (Or.inr rfl) rfl (fun x c hp => by cases hp; exact ⟨_, rfl⟩)) (fun a w h => ?_)
  replace h := h.keep [(0, .val (Value.slice (some ⟨b, o, none⟩) (32) (c))), (2, .ptr 2 0), (4, .sli 20 0 32 c20)] [(2, nz ++ nz ++ [Value.bool false]), (20, by32 (fun i => ((f i : Nat) : Int)))] ⟨rfl, rfl, rfl, trivial⟩ ⟨rfl, rfl, trivial⟩ rfl
  refine sq_end ?_
  refine then_norm ?_
  refine go_region h hm [eS 21 (.sli 20 0 32 c20), eS 22 (.sli 20 0 32 c20), eS 23 (.ptr 20 31), eS 24 (.val (Value.int .u8 ((fun i => ((f i : Nat) : Int)) 31))), eS 25 (.val (Value.int .u8 (((fun i => ((f i : Nat) : Int)) 31) % 128))), eS 26 (.ptr 20 31), eM 20 (by31 (fun i => ((f i : Nat) : Int)) ((((fun i => ((f i : Nat) : Int)) 31) % 128)))] (by kernel_rfl) ⟨
    fun L u => u_copy u (gd0 rfl) 21 rfl (.tmp 4) (Or.inl rfl) rfl (fun x c hp => by cases hp; exact ⟨_, rfl⟩),
    fun L u => u_copy u (gd0 rfl) 22 rfl (.tmp 4) (Or.inl rfl) rfl (fun x c hp => by cases hp; exact ⟨_, rfl⟩),
    fun L u => u_atS u (gd0 rfl) 23 rfl 43 (.tmp 22) (.const (.int .i64 31)) rfl rfl rfl (k := 31) rfl Tryd.underlying43 i5 (by decide) 31 rfl,
    fun L u => u_load1 u (gd0 rfl) 24 rfl 5 (.tmp 23) rfl rfl rfl Tryd.underlying5 rfl _ rfl,
    fun L u => u_bin u (gd0 rfl) 25 rfl .rem 5 5 (.tmp 24) (.const (.int .u8 128)) rfl rfl rfl (eqg_int _ _ _ _ _ _ _ _) (Value.int .u8 (((fun i => ((f i : Nat) : Int)) 31) % 128)) (fun w => i_rem _ _ _ _ _ (by show 0 ≤ ((f 31 : Nat) : Int); omega) (by decide) rfl w),
    fun L u => u_atS u (gd0 rfl) 26 rfl 43 (.tmp 21) (.const (.int .i64 31)) rfl rfl rfl (k := 31) rfl Tryd.underlying43 i5 (by decide) 31 rfl,
    fun L u => u_store1 u (gd0 rfl) 5 (.tmp 26) (.tmp 25) rfl rfl rfl rfl rfl i5 (lk rfl) rfl _ rfl,
    trivial⟩ [(0, .val (Value.slice (some ⟨b, o, none⟩) (32) (c))), (2, .ptr 2 0), (4, .sli 20 0 32 c20)] [(2, nz ++ nz ++ [Value.bool false]), (20, by31 (fun i => ((f i : Nat) : Int)) ((((fun i => ((f i : Nat) : Int)) 31) % 128)))] ⟨rfl, rfl, rfl, trivial⟩ ⟨rfl, rfl, trivial⟩ rfl (fun a w h => ?_)
  refine go_region h hm [eS 28 (.sli 20 0 32 c20), eS 29 (.val (.tuple [.agg (nc (V)).toArray, Value.bool true].toArray)), eS 27 (.val (.tuple [.agg (nc (V)).toArray, Value.bool true].toArray)), eS 30 (.val (.agg (nc (V)).toArray)), eS 31 (.val (Value.bool true)), eN 5 (nz), eM 5 (nc (V)), eS 6 (.val (Value.bool true))] (by kernel_rfl) ⟨
    fun L u => u_copy u (gd0 rfl) 28 rfl (.tmp 4) (Or.inl rfl) rfl (fun x c hp => by cases hp; exact ⟨_, rfl⟩),
    fun L u => u_callR u (gd0 rfl) 29 rfl 57 #[(.tmp 28)] #[43] rfl [.sli 20 0 32 c20] rfl (fun vs w => callFunc_enter Tryd.func57 (by kernel_rfl) (by kernel_rfl) vs w) (.tuple [.agg (nc (V)).toArray, Value.bool true].toArray) (fun β a w hr => t_Little hc20 (hr.va 20 (by31 (fun i => ((f i : Nat) : Int)) ((((fun i => ((f i : Nat) : Int)) 31) % 128))) (u.m rfl)).2.2.1 hV),
    fun L u => u_move u (gd0 rfl) 27 rfl (.tmp 29) (Or.inl rfl) rfl,
    fun L u => u_part u (gd0 rfl) 30 rfl (.tmp 27) 0 rfl (vs := [.agg (nc (V)).toArray, Value.bool true]) rfl _ rfl,
    fun L u => u_part u (gd0 rfl) 31 rfl (.tmp 27) 1 rfl (vs := [.agg (nc (V)).toArray, Value.bool true]) rfl _ rfl,
    fun L u => u_alloc u (gd0 rfl) 24 rfl 5 rfl rfl z24 _ rfl,
    fun L u => u_store u (gd0 rfl) 24 (.tmp 5) (.tmp 30) rfl rfl rfl (vs := nc (V)) rfl rfl i24 (lk rfl) rfl _ rfl,
    fun L u => u_move u (gd0 rfl) 6 rfl (.tmp 31) (Or.inr rfl) rfl,
    trivial⟩ [(0, .val (Value.slice (some ⟨b, o, none⟩) (32) (c))), (2, .ptr 2 0), (5, .ptr 5 0)] [(2, nz ++ nz ++ [Value.bool false]), (5, nc (V))] ⟨rfl, rfl, rfl, trivial⟩ ⟨rfl, rfl, trivial⟩ rfl (fun a w h => ?_)
  refine go_region h hm [eS 32 (.val (.agg (nc (V)).toArray)), eS 33 (.val (.agg (nc (V)).toArray)), eS 34 (.val (.agg (gc (y * y)).toArray)), eN 7 (nz), eM 7 (gc (y * y))] (by kernel_rfl) ⟨
    fun L u => u_load u (gd0 rfl) 32 rfl 24 (.tmp 5) rfl rfl rfl Tryd.underlying24 rfl i24 (lk rfl) _ rfl,
    fun L u => u_load u (gd0 rfl) 33 rfl 24 (.tmp 5) rfl rfl rfl Tryd.underlying24 rfl i24 (lk rfl) _ rfl,
    fun L u => u_call u (gd0 rfl) 34 rfl 34 #[(.tmp 32), (.tmp 33)] #[24, 24] rfl [.agg (nc (V)).toArray, .agg (nc (V)).toArray] rfl (cE34 _) (.agg (gc (y * y)).toArray) (fun w hb => s_mul9 (hT.keep (Bs.kp_of hb)) hVn hy),
    fun L u => u_alloc u (gd0 rfl) 24 rfl 7 rfl rfl z24 _ rfl,
    fun L u => u_store u (gd0 rfl) 24 (.tmp 7) (.tmp 34) rfl rfl rfl (vs := gc (y * y)) rfl rfl i24 (lk rfl) rfl _ rfl,
    trivial⟩ [(0, .val (Value.slice (some ⟨b, o, none⟩) (32) (c))), (2, .ptr 2 0), (5, .ptr 5 0), (7, .ptr 7 0)] [(2, nz ++ nz ++ [Value.bool false]), (5, nc (V)), (7, gc (y * y))] ⟨rfl, rfl, rfl, rfl, trivial⟩ ⟨rfl, rfl, rfl, trivial⟩ rfl (fun a w h => ?_)
  refine go_region h hm [eS 35 (.val (.agg (gc (y * y)).toArray)), eS 36 (.val (.agg (gc (1)).toArray)), eS 37 (.val (.agg (gc ((y * y) - (1))).toArray)), eS 38 (.val (.agg (gc (ed)).toArray)), eS 39 (.val (.agg (gc (y * y)).toArray)), eS 40 (.val (.agg (gc (ed * (y * y))).toArray)), eS 41 (.val (.agg (gc (1)).toArray)), eS 42 (.val (.agg (gc ((ed * (y * y)) + (1))).toArray)), eS 43 (.val (.agg (gc (fiv ((ed * (y * y)) + (1)))).toArray)), eS 44 (.val (.agg (gc (xx2 y)).toArray)), eN 8 (nz), eM 8 (gc (xx2 y))] (by kernel_rfl) ⟨
    fun L u => u_load u (gd0 rfl) 35 rfl 24 (.tmp 7) rfl rfl rfl Tryd.underlying24 rfl i24 (lk rfl) _ rfl,
    fun L u => u_call u (gd0 rfl) 36 rfl 37 #[] #[] rfl [] rfl (cE37 _) (.agg (gc (1)).toArray) (fun w hb => s_One),
    fun L u => u_call u (gd0 rfl) 37 rfl 35 #[(.tmp 35), (.tmp 36)] #[24, 24] rfl [.agg (gc (y * y)).toArray, .agg (gc (1)).toArray] rfl (cE35 _) (.agg (gc ((y * y) - (1))).toArray) (fun w hb => s_sub (hT.keep (Bs.kp_of hb)) _ _),
    fun L u => u_call u (gd0 rfl) 38 rfl 38 #[] #[] rfl [] rfl (cE38 _) (.agg (gc (ed)).toArray) (fun w hb => s_D),
    fun L u => u_load u (gd0 rfl) 39 rfl 24 (.tmp 7) rfl rfl rfl Tryd.underlying24 rfl i24 (lk rfl) _ rfl,
    fun L u => u_call u (gd0 rfl) 40 rfl 34 #[(.tmp 38), (.tmp 39)] #[24, 24] rfl [.agg (gc (ed)).toArray, .agg (gc (y * y)).toArray] rfl (cE34 _) (.agg (gc (ed * (y * y))).toArray) (fun w hb => s_mul (hT.keep (Bs.kp_of hb)) _ _),
    fun L u => u_call u (gd0 rfl) 41 rfl 37 #[] #[] rfl [] rfl (cE37 _) (.agg (gc (1)).toArray) (fun w hb => s_One),
    fun L u => u_call u (gd0 rfl) 42 rfl 36 #[(.tmp 40), (.tmp 41)] #[24, 24] rfl [.agg (gc (ed * (y * y))).toArray, .agg (gc (1)).toArray] rfl (cE36 _) (.agg (gc ((ed * (y * y)) + (1))).toArray) (fun w hb => s_add (hT.keep (Bs.kp_of hb)) _ _),
    fun L u => u_call u (gd0 rfl) 43 rfl 58 #[(.const (.int .i64 2)), (.tmp 42)] #[3, 24] rfl [(Value.int IntKind.i64 2), .agg (gc ((ed * (y * y)) + (1))).toArray] rfl (cE58 _) (.agg (gc (fiv ((ed * (y * y)) + (1)))).toArray) (fun w hb => d_inv (hT.keep (Bs.kp_of hb)) _),
    fun L u => u_call u (gd0 rfl) 44 rfl 34 #[(.tmp 37), (.tmp 43)] #[24, 24] rfl [.agg (gc ((y * y) - (1))).toArray, .agg (gc (fiv ((ed * (y * y)) + (1)))).toArray] rfl (cE34 _) (.agg (gc (xx2 y)).toArray) (fun w hb => by have g := s_mul (hT.keep (Bs.kp_of hb)) ((y * y) - (1)) (fiv ((ed * (y * y)) + (1))); exact g),
    fun L u => u_alloc u (gd0 rfl) 24 rfl 8 rfl rfl z24 _ rfl,
    fun L u => u_store u (gd0 rfl) 24 (.tmp 8) (.tmp 44) rfl rfl rfl (vs := gc (xx2 y)) rfl rfl i24 (lk rfl) rfl _ rfl,
    trivial⟩ [(0, .val (Value.slice (some ⟨b, o, none⟩) (32) (c))), (2, .ptr 2 0), (5, .ptr 5 0), (8, .ptr 8 0)] [(2, nz ++ nz ++ [Value.bool false]), (5, nc (V)), (8, gc (xx2 y))] ⟨rfl, rfl, rfl, rfl, trivial⟩ ⟨rfl, rfl, rfl, trivial⟩ rfl (fun a w h => ?_)
  refine go_region h hm [eS 45 (.val (.agg (gc (xx2 y)).toArray)), eS 46 (.val (.agg (nc (((ex8 : Nat) : Int))).toArray)), eS 47 (.val (.agg (gc (rt y)).toArray)), eN 9 (nz), eM 9 (gc (rt y))] (by kernel_rfl) ⟨
    fun L u => u_load u (gd0 rfl) 45 rfl 24 (.tmp 8) rfl rfl rfl Tryd.underlying24 rfl i24 (lk rfl) _ rfl,
    fun L u => u_call u (gd0 rfl) 46 rfl 60 #[] #[] rfl [] rfl (cE60 _) (.agg (nc (((ex8 : Nat) : Int))).toArray) (fun w hb => s_eighth (hT.keep (Bs.kp_of hb))),
    fun L u => u_call u (gd0 rfl) 47 rfl 59 #[(.const (.int .i64 2)), (.tmp 45), (.tmp 46)] #[3, 24, 24] rfl [(Value.int IntKind.i64 2), .agg (gc (xx2 y)).toArray, .agg (nc (((ex8 : Nat) : Int))).toArray] rfl (cE59 _) (.agg (gc (rt y)).toArray) (fun w hb => by have g := d_pow (hT.keep (Bs.kp_of hb)) (xx2 y) ex8_num; exact g),
    fun L u => u_alloc u (gd0 rfl) 24 rfl 9 rfl rfl z24 _ rfl,
    fun L u => u_store u (gd0 rfl) 24 (.tmp 9) (.tmp 47) rfl rfl rfl (vs := gc (rt y)) rfl rfl i24 (lk rfl) rfl _ rfl,
    trivial⟩ [(0, .val (Value.slice (some ⟨b, o, none⟩) (32) (c))), (2, .ptr 2 0), (5, .ptr 5 0), (9, .ptr 9 0)] [(2, nz ++ nz ++ [Value.bool false]), (5, nc (V)), (9, gc (rt y))] ⟨rfl, rfl, rfl, rfl, trivial⟩ ⟨rfl, rfl, rfl, trivial⟩ rfl (fun a w h => ?_)
  refine go_region h hm [eS 48 (.val (.agg (gc (rt y)).toArray)), eS 49 (.val (.agg (gc (im)).toArray)), eS 50 (.val (.agg (gc (rt y * im)).toArray)), eN 10 (nz), eM 10 (gc (rt y * im))] (by kernel_rfl) ⟨
    fun L u => u_load u (gd0 rfl) 48 rfl 24 (.tmp 9) rfl rfl rfl Tryd.underlying24 rfl i24 (lk rfl) _ rfl,
    fun L u => u_build u (gd0 rfl) 49 rfl 24 #[(0, (.const (.int .u64 14190309331451158704))), (1, (.const (.int .u64 3405592160176694392))), (2, (.const (.int .u64 3120150775007532967))), (3, (.const (.int .u64 3135389899092516619)))] rfl [(0, (Value.int IntKind.u64 14190309331451158704)), (1, (Value.int IntKind.u64 3405592160176694392)), (2, (Value.int IntKind.u64 3120150775007532967)), (3, (Value.int IntKind.u64 3135389899092516619))] rfl (gc (im)) (bIm),
    fun L u => u_call u (gd0 rfl) 50 rfl 34 #[(.tmp 48), (.tmp 49)] #[24, 24] rfl [.agg (gc (rt y)).toArray, .agg (gc (im)).toArray] rfl (cE34 _) (.agg (gc (rt y * im)).toArray) (fun w hb => s_mul (hT.keep (Bs.kp_of hb)) _ _),
    fun L u => u_alloc u (gd0 rfl) 24 rfl 10 rfl rfl z24 _ rfl,
    fun L u => u_store u (gd0 rfl) 24 (.tmp 10) (.tmp 50) rfl rfl rfl (vs := gc (rt y * im)) rfl rfl i24 (lk rfl) rfl _ rfl,
    trivial⟩ [(0, .val (Value.slice (some ⟨b, o, none⟩) (32) (c))), (2, .ptr 2 0), (5, .ptr 5 0), (9, .ptr 9 0), (10, .ptr 10 0)] [(2, nz ++ nz ++ [Value.bool false]), (5, nc (V)), (9, gc (rt y)), (10, gc (rt y * im))] ⟨rfl, rfl, rfl, rfl, rfl, trivial⟩ ⟨rfl, rfl, rfl, rfl, trivial⟩ rfl (fun a w h => ?_)
  refine go_region h hm [eS 51 (.val (.agg (gc (rt y)).toArray)), eS 52 (.val (.agg (gc (rt y * im)).toArray)), eS 53 (.val (.agg (nz).toArray)), eS 54 (.val (.agg (gc (rt y)).toArray)), eS 55 (.val (.agg (gc (0 - rt y)).toArray)), eS 56 (.val (.agg (nz).toArray)), eS 57 (.val (.agg (gc (rt y * im)).toArray)), eS 58 (.val (.agg (gc (0 - rt y * im)).toArray)), eS 59 (.val (.agg (gc (rt y) ++ gc (rt y * im) ++ gc (0 - rt y) ++ gc (0 - rt y * im)).toArray)), eN 11 (nz ++ nz ++ nz ++ nz), eM 11 (gc (rt y) ++ gc (rt y * im) ++ gc (0 - rt y) ++ gc (0 - rt y * im))] (by kernel_rfl) ⟨
    fun L u => u_load u (gd0 rfl) 51 rfl 24 (.tmp 9) rfl rfl rfl Tryd.underlying24 rfl i24 (lk rfl) _ rfl,
    fun L u => u_load u (gd0 rfl) 52 rfl 24 (.tmp 10) rfl rfl rfl Tryd.underlying24 rfl i24 (lk rfl) _ rfl,
    fun L u => u_build u (gd0 rfl) 53 rfl 24 #[] rfl [] rfl (nz) (g_bN0),
    fun L u => u_load u (gd0 rfl) 54 rfl 24 (.tmp 9) rfl rfl rfl Tryd.underlying24 rfl i24 (lk rfl) _ rfl,
    fun L u => u_call u (gd0 rfl) 55 rfl 35 #[(.tmp 53), (.tmp 54)] #[24, 24] rfl [.agg (nz).toArray, .agg (gc (rt y)).toArray] rfl (cE35 _) (.agg (gc (0 - rt y)).toArray) (fun w hb => by have g := s_sub (hT.keep (Bs.kp_of hb)) 0 (rt y); rw [← nz_gc] at g; exact g),
    fun L u => u_build u (gd0 rfl) 56 rfl 24 #[] rfl [] rfl (nz) (g_bN0),
    fun L u => u_load u (gd0 rfl) 57 rfl 24 (.tmp 10) rfl rfl rfl Tryd.underlying24 rfl i24 (lk rfl) _ rfl,
    fun L u => u_call u (gd0 rfl) 58 rfl 35 #[(.tmp 56), (.tmp 57)] #[24, 24] rfl [.agg (nz).toArray, .agg (gc (rt y * im)).toArray] rfl (cE35 _) (.agg (gc (0 - rt y * im)).toArray) (fun w hb => by have g := s_sub (hT.keep (Bs.kp_of hb)) 0 (rt y * im); rw [← nz_gc] at g; exact g),
    fun L u => u_build u (gd0 rfl) 59 rfl 69 #[(0, (.tmp 51)), (1, (.tmp 52)), (2, (.tmp 55)), (3, (.tmp 58))] rfl [(0, .agg (gc (rt y)).toArray), (1, .agg (gc (rt y * im)).toArray), (2, .agg (gc (0 - rt y)).toArray), (3, .agg (gc (0 - rt y * im)).toArray)] rfl (gc (rt y) ++ gc (rt y * im) ++ gc (0 - rt y) ++ gc (0 - rt y * im)) (bT4 _ _ _ _),
    fun L u => u_alloc u (gd0 rfl) 69 rfl 11 rfl rfl z69 _ rfl,
    fun L u => u_store u (gd0 rfl) 69 (.tmp 11) (.tmp 59) rfl rfl rfl (vs := gc (rt y) ++ gc (rt y * im) ++ gc (0 - rt y) ++ gc (0 - rt y * im)) rfl rfl i69 (lk rfl) rfl _ rfl,
    trivial⟩ [(0, .val (Value.slice (some ⟨b, o, none⟩) (32) (c))), (2, .ptr 2 0), (5, .ptr 5 0), (11, .ptr 11 0)] [(2, nz ++ nz ++ [Value.bool false]), (5, nc (V)), (11, gc (rt y) ++ gc (rt y * im) ++ gc (0 - rt y) ++ gc (0 - rt y * im))] ⟨rfl, rfl, rfl, rfl, trivial⟩ ⟨rfl, rfl, rfl, trivial⟩ rfl (fun a w h => ?_)
  refine wp_seq ?_
  refine go_region h hm [eS 12 (.val ((Value.int IntKind.i64 0)))] (by kernel_rfl) ⟨
    fun L u => u_move u (gd0 rfl) 12 rfl (.const (.int .i64 0)) (Or.inr rfl) rfl,
    trivial⟩ [(0, .val (Value.slice (some ⟨b, o, none⟩) (32) (c))), (2, .ptr 2 0), (5, .ptr 5 0), (11, .ptr 11 0), (12, .val ((Value.int IntKind.i64 0)))] [(2, nz ++ nz ++ [Value.bool false]), (5, nc (V)), (11, gc (rt y) ++ gc (rt y * im) ++ gc (0 - rt y) ++ gc (0 - rt y * im))] ⟨rfl, rfl, rfl, rfl, rfl, trivial⟩ ⟨rfl, rfl, rfl, trivial⟩ rfl (fun a w h => ?_)
  refine wp_block ?_
  refine go_loop (fun (j : Nat) => SS.mk' [(0, .val (Value.slice (some ⟨b, o, none⟩) (32) (c))), (2, .ptr 2 0), (5, .ptr 5 0), (11, .ptr 11 0), (12, .val (Value.int .i64 ((j : Nat) : Int)))] [(2, nz ++ nz ++ [Value.bool false]), (5, nc (V)), (11, gc (rt y) ++ gc (rt y * im) ++ gc (0 - rt y) ++ gc (0 - rt y * im))]) (fun j => j ≤ 4 ∧ ∀ i, i < j → ¬ (Fo i = true ∧ sameB (En i) (fun i => ((f i : Nat) : Int)) 32 = true)) (fun j => 4 - j) (i := 0) (h.keep [(0, .val (Value.slice (some ⟨b, o, none⟩) (32) (c))), (2, .ptr 2 0), (5, .ptr 5 0), (11, .ptr 11 0), (12, .val (Value.int .i64 ((0 : Nat) : Int)))] [(2, nz ++ nz ++ [Value.bool false]), (5, nc (V)), (11, gc (rt y) ++ gc (rt y * im) ++ gc (0 - rt y) ++ gc (0 - rt y * im))] ⟨rfl, rfl, rfl, rfl, rfl, trivial⟩ ⟨rfl, rfl, rfl, trivial⟩ rfl) ⟨by omega, fun i hi => by omega⟩ (fun j a w hG h => ?_)
  by_cases hs : j < 4
  · skip
    by_cases hF : Fo j = true
    · skip
      by_cases hS : sameB (En j) (fun i => ((f i : Nat) : Int)) 32 = true
      · skip
        have hG1 := hG.1
        refine wp_seq ?_
        refine go_region h hm [eS 60 (.val (Value.int .i64 ((j : Nat) : Int))), eS 61 (.val (Value.bool true))] (by kernel_rfl) ⟨
          fun L u => u_move u (gd0 rfl) 60 rfl (.tmp 12) (Or.inl rfl) rfl,
          fun L u => u_bin u (gd0 rfl) 61 rfl .lss 3 3 (.tmp 60) (.const (.int .i64 4)) rfl rfl rfl (eqg_int _ _ _ _ _ _ _ _) (Value.bool true) (yes_of (fun w => i_lss _ _ _ _ w) (by omega)),
          trivial⟩ [(0, .val (Value.slice (some ⟨b, o, none⟩) (32) (c))), (2, .ptr 2 0), (5, .ptr 5 0), (11, .ptr 11 0), (12, .val (Value.int .i64 ((j : Nat) : Int))), (61, .val (Value.bool true))] [(2, nz ++ nz ++ [Value.bool false]), (5, nc (V)), (11, gc (rt y) ++ gc (rt y * im) ++ gc (0 - rt y) ++ gc (0 - rt y * im))] ⟨rfl, rfl, rfl, rfl, rfl, rfl, trivial⟩ ⟨rfl, rfl, rfl, trivial⟩ rfl (fun a w h => ?_)
        refine go_cond h true rfl (fun ht => ?_) (fun hf => ?_)
        case refine_2 => cases hf
        refine wp_skip ?_
        refine then_norm ?_
        refine wp_seq ?_
        refine wp_block ?_
        refine go_region h hm [eS 64 (.val (Value.int .i64 ((j : Nat) : Int))), eS 65 (.ptr 11 (j * 4)), eS 66 (.val (.agg (gc (tr y j)).toArray)), eS 67 (.val (.agg (nc (V)).toArray)), eS 68 (.val (.agg (gc (tr y j) ++ nc (V) ++ [Value.bool false]).toArray)), eN 13 (nz ++ nz ++ [Value.bool false]), eM 13 (gc (tr y j) ++ nc (V) ++ [Value.bool false])] (by kernel_rfl) ⟨
          fun L u => u_move u (gd0 rfl) 64 rfl (.tmp 12) (Or.inl rfl) rfl,
          fun L u => u_at u (gd0 rfl) 65 rfl 69 (.tmp 11) (.tmp 64) rfl rfl rfl (k := j) rfl Tryd.underlying69 i24 (by omega) (j * 4) (by omega),
          fun L u => u_load u (gd0 rfl) 66 rfl 24 (.tmp 65) rfl rfl rfl Tryd.underlying24 rfl i24 (by show j * 4 + 4 ≤ 16; omega) (gc (tr y j)) (tries_at y hs),
          fun L u => u_load u (gd0 rfl) 67 rfl 24 (.tmp 5) rfl rfl rfl Tryd.underlying24 rfl i24 (lk rfl) _ rfl,
          fun L u => u_build u (gd0 rfl) 68 rfl 26 #[(0, (.tmp 66)), (1, (.tmp 67))] rfl [(0, .agg (gc (tr y j)).toArray), (1, .agg (nc (V)).toArray)] rfl (gc (tr y j) ++ nc (V) ++ [Value.bool false]) (bPgn _ _),
          fun L u => u_alloc u (gd0 rfl) 26 rfl 13 rfl rfl z26 _ rfl,
          fun L u => u_store u (gd0 rfl) 26 (.tmp 13) (.tmp 68) rfl rfl rfl (vs := gc (tr y j) ++ nc (V) ++ [Value.bool false]) rfl rfl i26 (lk rfl) rfl _ rfl,
          trivial⟩ [(0, .val (Value.slice (some ⟨b, o, none⟩) (32) (c))), (2, .ptr 2 0), (5, .ptr 5 0), (11, .ptr 11 0), (12, .val (Value.int .i64 ((j : Nat) : Int))), (13, .ptr 13 0)] [(2, nz ++ nz ++ [Value.bool false]), (5, nc (V)), (11, gc (rt y) ++ gc (rt y * im) ++ gc (0 - rt y) ++ gc (0 - rt y * im)), (13, gc (tr y j) ++ nc (V) ++ [Value.bool false])] ⟨rfl, rfl, rfl, rfl, rfl, rfl, trivial⟩ ⟨rfl, rfl, rfl, rfl, trivial⟩ rfl (fun a w h => ?_)
        refine wp_seq ?_
        refine sq_begin [0, 1, 2, 3, 4, 5, 6, 7] rfl ?_
        refine sq_step h (i := 0) rfl (u_load (xs := []) (up_seq (i := 0) (by kernel_rfl) rfl) (gd0 rfl) 69 rfl 26 (.tmp 13) rfl rfl rfl Tryd.underlying26 rfl i26 (lk rfl) _ rfl) (fun a w h => ?_)
        refine sq_step h (i := 1) rfl (u_call (xs := []) (up_seq (i := 1) (by kernel_rfl) rfl) (gd0 rfl) 70 rfl 11 #[(.tmp 69)] #[26] rfl [.agg (gc (tr y j) ++ nc (V) ++ [Value.bool false]).toArray] rfl (cE11 _) (Value.bool true) (fun w hb => by have q := hform j hs (hT.keep (Bs.kp_of hb)); rw [hF] at q; exact q)) (fun a w h => ?_)
        refine sq_step h (i := 2) rfl (u_move (xs := []) (up_seq (i := 2) (by kernel_rfl) rfl) (gd0 rfl) 71 rfl (.tmp 70) (Or.inl rfl) rfl) (fun a w h => ?_)
        refine sq_step h (i := 3) rfl (u_load (xs := []) (up_seq (i := 3) (by kernel_rfl) rfl) (gd1 (xs := []) (up_seq (i := 3) (by kernel_rfl) rfl) 2 true rfl 71 rfl (lk rfl) rfl) 72 rfl 26 (.tmp 13) rfl rfl rfl Tryd.underlying26 rfl i26 (lk rfl) _ rfl) (fun a w h => ?_)
        refine sq_callN h (i := 4) rfl (gq1 2 true rfl rfl) 73 rfl rfl 26 #[(.tmp 72)] #[26] rfl [.agg (gc (tr y j) ++ nc (V) ++ [Value.bool false]).toArray] rfl (cE26 _) 32 (by32 (En j)) (fun hb => henc j hs hF (hT.keep (Bs.kp_of hb))) (fun c73 a w hc73 h => ?_)
        replace h := h.keep [(0, .val (Value.slice (some ⟨b, o, none⟩) (32) (c))), (2, .ptr 2 0), (5, .ptr 5 0), (11, .ptr 11 0), (12, .val (Value.int .i64 ((j : Nat) : Int))), (13, .ptr 13 0), (69, .val (.agg (gc (tr y j) ++ nc (V) ++ [Value.bool false]).toArray)), (70, .val (Value.bool true)), (71, .val (Value.bool true)), (72, .val (.agg (gc (tr y j) ++ nc (V) ++ [Value.bool false]).toArray)), (73, .sli 73 0 32 c73)] [(2, nz ++ nz ++ [Value.bool false]), (5, nc (V)), (11, gc (rt y) ++ gc (rt y * im) ++ gc (0 - rt y) ++ gc (0 - rt y * im)), (13, gc (tr y j) ++ nc (V) ++ [Value.bool false]), (73, by32 (En j))] ⟨rfl, rfl, rfl, rfl, rfl, rfl, rfl, rfl, rfl, rfl, rfl, trivial⟩ ⟨rfl, rfl, rfl, rfl, rfl, trivial⟩ rfl
        refine sq_step h (i := 5) rfl (u_move (xs := []) (up_seq (i := 5) (by kernel_rfl) rfl) (gd1 (xs := []) (up_seq (i := 5) (by kernel_rfl) rfl) 2 true rfl 71 rfl (lk rfl) rfl) 74 rfl (.tmp 0) (Or.inl rfl) rfl) (fun a w h => ?_)
        refine sq_step h (i := 6) rfl (u_callR (xs := []) (up_seq (i := 6) (by kernel_rfl) rfl) (gd1 (xs := []) (up_seq (i := 6) (by kernel_rfl) rfl) 2 true rfl 71 rfl (lk rfl) rfl) 75 rfl 25 #[(.tmp 73), (.tmp 74)] #[43, 43] rfl [.sli 73 0 32 c73, .val (Value.slice (some ⟨b, o, none⟩) (32) (c))] rfl (fun vs w => callFunc_enter Tryd.func25 (by kernel_rfl) (by kernel_rfl) vs w) (Value.bool true) (fun β a w hr => t_Same (hr.va 73 (by32 (En j)) rfl).2.2.1 (hrd.keep (Bs.kp_of hr.bl)) hS)) (fun a w h => ?_)
        refine sq_step h (i := 7) rfl (u_pick (xs := []) (up_seq (i := 7) (by kernel_rfl) rfl) (gd0 rfl) 76 rfl (.tmp 71) (.tmp 75) (.const (.bool false)) rfl rfl rfl rfl _ rfl) (fun a w h => ?_)
        replace h := h.keep [(0, .val (Value.slice (some ⟨b, o, none⟩) (32) (c))), (2, .ptr 2 0), (5, .ptr 5 0), (11, .ptr 11 0), (12, .val (Value.int .i64 ((j : Nat) : Int))), (13, .ptr 13 0), (76, .val (Value.bool true))] [(2, nz ++ nz ++ [Value.bool false]), (5, nc (V)), (11, gc (rt y) ++ gc (rt y * im) ++ gc (0 - rt y) ++ gc (0 - rt y * im)), (13, gc (tr y j) ++ nc (V) ++ [Value.bool false])] ⟨rfl, rfl, rfl, rfl, rfl, rfl, rfl, trivial⟩ ⟨rfl, rfl, rfl, rfl, trivial⟩ rfl
        refine sq_end ?_
        refine then_norm ?_
        refine go_cond h true rfl (fun ht => ?_) (fun hf => ?_)
        case refine_2 => cases hf
        refine go_region h hm [eS 77 (.val (.agg (gc (tr y j) ++ nc (V) ++ [Value.bool false]).toArray)), eM 2 (gc (tr y j) ++ nc (V) ++ [Value.bool false]), eS 3 (.val (Value.bool true))] (by kernel_rfl) ⟨
          fun L u => u_load u (gd0 rfl) 77 rfl 26 (.tmp 13) rfl rfl rfl Tryd.underlying26 rfl i26 (lk rfl) _ rfl,
          fun L u => u_store u (gd0 rfl) 26 (.tmp 2) (.tmp 77) rfl rfl rfl (vs := gc (tr y j) ++ nc (V) ++ [Value.bool false]) rfl rfl i26 (lk rfl) rfl _ rfl,
          fun L u => u_move u (gd0 rfl) 3 rfl (.const (.bool true)) (Or.inr rfl) rfl,
          trivial⟩ [(2, .ptr 2 0), (3, .val (Value.bool true))] [(2, gc (tr y j) ++ nc (V) ++ [Value.bool false])] ⟨rfl, rfl, trivial⟩ ⟨rfl, trivial⟩ rfl (fun a w h => ?_)
        refine wp_ret ?_
        refine blk_ret ?_
        refine then_ret ?_
        refine then_ret ?_
        refine blk_ret ?_
        refine then_ret ?_
        refine ret_two h _ _ rfl (ans_row (cs := gc (tr y j) ++ nc (V) ++ [Value.bool false]) 2 (lk rfl) 26 rfl rfl Tryd.underlying26 rfl i26) (ans_tmp (v := Value.bool true) 3 (lk rfl) rfl) ?_
        first | exact ⟨_, _, rfl, hyes j hs hF hS, h.grows⟩ | exact ⟨_, _, rfl, hno (fun i hi hq => hG.2 i (by omega) hq), h.grows⟩
      · skip
        have hG1 := hG.1
        have hS2 := Bool.eq_false_iff.2 hS
        refine wp_seq ?_
        refine go_region h hm [eS 60 (.val (Value.int .i64 ((j : Nat) : Int))), eS 61 (.val (Value.bool true))] (by kernel_rfl) ⟨
          fun L u => u_move u (gd0 rfl) 60 rfl (.tmp 12) (Or.inl rfl) rfl,
          fun L u => u_bin u (gd0 rfl) 61 rfl .lss 3 3 (.tmp 60) (.const (.int .i64 4)) rfl rfl rfl (eqg_int _ _ _ _ _ _ _ _) (Value.bool true) (yes_of (fun w => i_lss _ _ _ _ w) (by omega)),
          trivial⟩ [(0, .val (Value.slice (some ⟨b, o, none⟩) (32) (c))), (2, .ptr 2 0), (5, .ptr 5 0), (11, .ptr 11 0), (12, .val (Value.int .i64 ((j : Nat) : Int))), (61, .val (Value.bool true))] [(2, nz ++ nz ++ [Value.bool false]), (5, nc (V)), (11, gc (rt y) ++ gc (rt y * im) ++ gc (0 - rt y) ++ gc (0 - rt y * im))] ⟨rfl, rfl, rfl, rfl, rfl, rfl, trivial⟩ ⟨rfl, rfl, rfl, trivial⟩ rfl (fun a w h => ?_)
        refine go_cond h true rfl (fun ht => ?_) (fun hf => ?_)
        case refine_2 => cases hf
        refine wp_skip ?_
        refine then_norm ?_
        refine wp_seq ?_
        refine wp_block ?_
        refine go_region h hm [eS 64 (.val (Value.int .i64 ((j : Nat) : Int))), eS 65 (.ptr 11 (j * 4)), eS 66 (.val (.agg (gc (tr y j)).toArray)), eS 67 (.val (.agg (nc (V)).toArray)), eS 68 (.val (.agg (gc (tr y j) ++ nc (V) ++ [Value.bool false]).toArray)), eN 13 (nz ++ nz ++ [Value.bool false]), eM 13 (gc (tr y j) ++ nc (V) ++ [Value.bool false])] (by kernel_rfl) ⟨
          fun L u => u_move u (gd0 rfl) 64 rfl (.tmp 12) (Or.inl rfl) rfl,
          fun L u => u_at u (gd0 rfl) 65 rfl 69 (.tmp 11) (.tmp 64) rfl rfl rfl (k := j) rfl Tryd.underlying69 i24 (by omega) (j * 4) (by omega),
          fun L u => u_load u (gd0 rfl) 66 rfl 24 (.tmp 65) rfl rfl rfl Tryd.underlying24 rfl i24 (by show j * 4 + 4 ≤ 16; omega) (gc (tr y j)) (tries_at y hs),
          fun L u => u_load u (gd0 rfl) 67 rfl 24 (.tmp 5) rfl rfl rfl Tryd.underlying24 rfl i24 (lk rfl) _ rfl,
          fun L u => u_build u (gd0 rfl) 68 rfl 26 #[(0, (.tmp 66)), (1, (.tmp 67))] rfl [(0, .agg (gc (tr y j)).toArray), (1, .agg (nc (V)).toArray)] rfl (gc (tr y j) ++ nc (V) ++ [Value.bool false]) (bPgn _ _),
          fun L u => u_alloc u (gd0 rfl) 26 rfl 13 rfl rfl z26 _ rfl,
          fun L u => u_store u (gd0 rfl) 26 (.tmp 13) (.tmp 68) rfl rfl rfl (vs := gc (tr y j) ++ nc (V) ++ [Value.bool false]) rfl rfl i26 (lk rfl) rfl _ rfl,
          trivial⟩ [(0, .val (Value.slice (some ⟨b, o, none⟩) (32) (c))), (2, .ptr 2 0), (5, .ptr 5 0), (11, .ptr 11 0), (12, .val (Value.int .i64 ((j : Nat) : Int))), (13, .ptr 13 0)] [(2, nz ++ nz ++ [Value.bool false]), (5, nc (V)), (11, gc (rt y) ++ gc (rt y * im) ++ gc (0 - rt y) ++ gc (0 - rt y * im)), (13, gc (tr y j) ++ nc (V) ++ [Value.bool false])] ⟨rfl, rfl, rfl, rfl, rfl, rfl, trivial⟩ ⟨rfl, rfl, rfl, rfl, trivial⟩ rfl (fun a w h => ?_)
        refine wp_seq ?_
        refine sq_begin [0, 1, 2, 3, 4, 5, 6, 7] rfl ?_
        refine sq_step h (i := 0) rfl (u_load (xs := []) (up_seq (i := 0) (by kernel_rfl) rfl) (gd0 rfl) 69 rfl 26 (.tmp 13) rfl rfl rfl Tryd.underlying26 rfl i26 (lk rfl) _ rfl) (fun a w h => ?_)
        refine sq_step h (i := 1) rfl (u_call (xs := []) (up_seq (i := 1) (by kernel_rfl) rfl) (gd0 rfl) 70 rfl 11 #[(.tmp 69)] #[26] rfl [.agg (gc (tr y j) ++ nc (V) ++ [Value.bool false]).toArray] rfl (cE11 _) (Value.bool true) (fun w hb => by have q := hform j hs (hT.keep (Bs.kp_of hb)); rw [hF] at q; exact q)) (fun a w h => ?_)
        refine sq_step h (i := 2) rfl (u_move (xs := []) (up_seq (i := 2) (by kernel_rfl) rfl) (gd0 rfl) 71 rfl (.tmp 70) (Or.inl rfl) rfl) (fun a w h => ?_)
        refine sq_step h (i := 3) rfl (u_load (xs := []) (up_seq (i := 3) (by kernel_rfl) rfl) (gd1 (xs := []) (up_seq (i := 3) (by kernel_rfl) rfl) 2 true rfl 71 rfl (lk rfl) rfl) 72 rfl 26 (.tmp 13) rfl rfl rfl Tryd.underlying26 rfl i26 (lk rfl) _ rfl) (fun a w h => ?_)
        refine sq_callN h (i := 4) rfl (gq1 2 true rfl rfl) 73 rfl rfl 26 #[(.tmp 72)] #[26] rfl [.agg (gc (tr y j) ++ nc (V) ++ [Value.bool false]).toArray] rfl (cE26 _) 32 (by32 (En j)) (fun hb => henc j hs hF (hT.keep (Bs.kp_of hb))) (fun c73 a w hc73 h => ?_)
        replace h := h.keep [(0, .val (Value.slice (some ⟨b, o, none⟩) (32) (c))), (2, .ptr 2 0), (5, .ptr 5 0), (11, .ptr 11 0), (12, .val (Value.int .i64 ((j : Nat) : Int))), (13, .ptr 13 0), (69, .val (.agg (gc (tr y j) ++ nc (V) ++ [Value.bool false]).toArray)), (70, .val (Value.bool true)), (71, .val (Value.bool true)), (72, .val (.agg (gc (tr y j) ++ nc (V) ++ [Value.bool false]).toArray)), (73, .sli 73 0 32 c73)] [(2, nz ++ nz ++ [Value.bool false]), (5, nc (V)), (11, gc (rt y) ++ gc (rt y * im) ++ gc (0 - rt y) ++ gc (0 - rt y * im)), (13, gc (tr y j) ++ nc (V) ++ [Value.bool false]), (73, by32 (En j))] ⟨rfl, rfl, rfl, rfl, rfl, rfl, rfl, rfl, rfl, rfl, rfl, trivial⟩ ⟨rfl, rfl, rfl, rfl, rfl, trivial⟩ rfl
        refine sq_step h (i := 5) rfl (u_move (xs := []) (up_seq (i := 5) (by kernel_rfl) rfl) (gd1 (xs := []) (up_seq (i := 5) (by kernel_rfl) rfl) 2 true rfl 71 rfl (lk rfl) rfl) 74 rfl (.tmp 0) (Or.inl rfl) rfl) (fun a w h => ?_)
        refine sq_step h (i := 6) rfl (u_callR (xs := []) (up_seq (i := 6) (by kernel_rfl) rfl) (gd1 (xs := []) (up_seq (i := 6) (by kernel_rfl) rfl) 2 true rfl 71 rfl (lk rfl) rfl) 75 rfl 25 #[(.tmp 73), (.tmp 74)] #[43, 43] rfl [.sli 73 0 32 c73, .val (Value.slice (some ⟨b, o, none⟩) (32) (c))] rfl (fun vs w => callFunc_enter Tryd.func25 (by kernel_rfl) (by kernel_rfl) vs w) (Value.bool false) (fun β a w hr => t_Same (hr.va 73 (by32 (En j)) rfl).2.2.1 (hrd.keep (Bs.kp_of hr.bl)) hS2)) (fun a w h => ?_)
        refine sq_step h (i := 7) rfl (u_pick (xs := []) (up_seq (i := 7) (by kernel_rfl) rfl) (gd0 rfl) 76 rfl (.tmp 71) (.tmp 75) (.const (.bool false)) rfl rfl rfl rfl _ rfl) (fun a w h => ?_)
        replace h := h.keep [(0, .val (Value.slice (some ⟨b, o, none⟩) (32) (c))), (2, .ptr 2 0), (5, .ptr 5 0), (11, .ptr 11 0), (12, .val (Value.int .i64 ((j : Nat) : Int))), (13, .ptr 13 0), (76, .val (Value.bool false))] [(2, nz ++ nz ++ [Value.bool false]), (5, nc (V)), (11, gc (rt y) ++ gc (rt y * im) ++ gc (0 - rt y) ++ gc (0 - rt y * im)), (13, gc (tr y j) ++ nc (V) ++ [Value.bool false])] ⟨rfl, rfl, rfl, rfl, rfl, rfl, rfl, trivial⟩ ⟨rfl, rfl, rfl, rfl, trivial⟩ rfl
        refine sq_end ?_
        refine then_norm ?_
        refine go_cond h false rfl (fun ht => ?_) (fun hf => ?_)
        case refine_1 => cases ht
        refine wp_skip ?_
        refine blk_norm ?_
        refine then_norm ?_
        refine go_end h hm [eS 62 (.val (Value.int .i64 ((j : Nat) : Int))), eS 63 (.val (Value.int .i64 ((j + 1 : Nat) : Int))), eS 12 (.val (Value.int .i64 ((j + 1 : Nat) : Int)))] (by kernel_rfl) ⟨
          fun L u => u_move u (gd0 rfl) 62 rfl (.tmp 12) (Or.inl rfl) rfl,
          fun L u => u_bin u (gd0 rfl) 63 rfl .add 3 3 (.tmp 62) (.const (.int .i64 1)) rfl rfl rfl (eqg_int _ _ _ _ _ _ _ _) (Value.int .i64 ((j + 1 : Nat) : Int)) (fun w => i_add _ _ _ _ (by omega) (by omega) w),
          fun L u => u_move u (gd0 rfl) 12 rfl (.tmp 63) (Or.inr rfl) rfl,
          trivial⟩ [(0, .val (Value.slice (some ⟨b, o, none⟩) (32) (c))), (2, .ptr 2 0), (5, .ptr 5 0), (11, .ptr 11 0), (12, .val (Value.int .i64 ((j + 1 : Nat) : Int)))] [(2, nz ++ nz ++ [Value.bool false]), (5, nc (V)), (11, gc (rt y) ++ gc (rt y * im) ++ gc (0 - rt y) ++ gc (0 - rt y * im))] ⟨rfl, rfl, rfl, rfl, rfl, trivial⟩ ⟨rfl, rfl, rfl, trivial⟩ rfl (fun a w h => ?_)
        refine then_norm ?_
        exact ⟨j + 1, ⟨by omega, fun i hi hq => (Nat.lt_or_ge i j).elim (fun hl => hG.2 i hl hq) (fun hl => by (have ej : i = j := (by omega)); subst ej; first | exact absurd hq.1 hF | exact absurd hq.2 hS)⟩, (by omega), h.keep [(0, .val (Value.slice (some ⟨b, o, none⟩) (32) (c))), (2, .ptr 2 0), (5, .ptr 5 0), (11, .ptr 11 0), (12, .val (Value.int .i64 ((j + 1 : Nat) : Int)))] [(2, nz ++ nz ++ [Value.bool false]), (5, nc (V)), (11, gc (rt y) ++ gc (rt y * im) ++ gc (0 - rt y) ++ gc (0 - rt y * im))] ⟨rfl, rfl, rfl, rfl, rfl, trivial⟩ ⟨rfl, rfl, rfl, trivial⟩ rfl⟩
    · skip
      by_cases hS : sameB (En j) (fun i => ((f i : Nat) : Int)) 32 = true
      · skip
        have hG1 := hG.1
        have hF2 := Bool.eq_false_iff.2 hF
        refine wp_seq ?_
        refine go_region h hm [eS 60 (.val (Value.int .i64 ((j : Nat) : Int))), eS 61 (.val (Value.bool true))] (by kernel_rfl) ⟨
          fun L u => u_move u (gd0 rfl) 60 rfl (.tmp 12) (Or.inl rfl) rfl,
          fun L u => u_bin u (gd0 rfl) 61 rfl .lss 3 3 (.tmp 60) (.const (.int .i64 4)) rfl rfl rfl (eqg_int _ _ _ _ _ _ _ _) (Value.bool true) (yes_of (fun w => i_lss _ _ _ _ w) (by omega)),
          trivial⟩ [(0, .val (Value.slice (some ⟨b, o, none⟩) (32) (c))), (2, .ptr 2 0), (5, .ptr 5 0), (11, .ptr 11 0), (12, .val (Value.int .i64 ((j : Nat) : Int))), (61, .val (Value.bool true))] [(2, nz ++ nz ++ [Value.bool false]), (5, nc (V)), (11, gc (rt y) ++ gc (rt y * im) ++ gc (0 - rt y) ++ gc (0 - rt y * im))] ⟨rfl, rfl, rfl, rfl, rfl, rfl, trivial⟩ ⟨rfl, rfl, rfl, trivial⟩ rfl (fun a w h => ?_)
        refine go_cond h true rfl (fun ht => ?_) (fun hf => ?_)
        case refine_2 => cases hf
        refine wp_skip ?_
        refine then_norm ?_
        refine wp_seq ?_
        refine wp_block ?_
        refine go_region h hm [eS 64 (.val (Value.int .i64 ((j : Nat) : Int))), eS 65 (.ptr 11 (j * 4)), eS 66 (.val (.agg (gc (tr y j)).toArray)), eS 67 (.val (.agg (nc (V)).toArray)), eS 68 (.val (.agg (gc (tr y j) ++ nc (V) ++ [Value.bool false]).toArray)), eN 13 (nz ++ nz ++ [Value.bool false]), eM 13 (gc (tr y j) ++ nc (V) ++ [Value.bool false])] (by kernel_rfl) ⟨
          fun L u => u_move u (gd0 rfl) 64 rfl (.tmp 12) (Or.inl rfl) rfl,
          fun L u => u_at u (gd0 rfl) 65 rfl 69 (.tmp 11) (.tmp 64) rfl rfl rfl (k := j) rfl Tryd.underlying69 i24 (by omega) (j * 4) (by omega),
          fun L u => u_load u (gd0 rfl) 66 rfl 24 (.tmp 65) rfl rfl rfl Tryd.underlying24 rfl i24 (by show j * 4 + 4 ≤ 16; omega) (gc (tr y j)) (tries_at y hs),
          fun L u => u_load u (gd0 rfl) 67 rfl 24 (.tmp 5) rfl rfl rfl Tryd.underlying24 rfl i24 (lk rfl) _ rfl,
          fun L u => u_build u (gd0 rfl) 68 rfl 26 #[(0, (.tmp 66)), (1, (.tmp 67))] rfl [(0, .agg (gc (tr y j)).toArray), (1, .agg (nc (V)).toArray)] rfl (gc (tr y j) ++ nc (V) ++ [Value.bool false]) (bPgn _ _),
          fun L u => u_alloc u (gd0 rfl) 26 rfl 13 rfl rfl z26 _ rfl,
          fun L u => u_store u (gd0 rfl) 26 (.tmp 13) (.tmp 68) rfl rfl rfl (vs := gc (tr y j) ++ nc (V) ++ [Value.bool false]) rfl rfl i26 (lk rfl) rfl _ rfl,
          trivial⟩ [(0, .val (Value.slice (some ⟨b, o, none⟩) (32) (c))), (2, .ptr 2 0), (5, .ptr 5 0), (11, .ptr 11 0), (12, .val (Value.int .i64 ((j : Nat) : Int))), (13, .ptr 13 0)] [(2, nz ++ nz ++ [Value.bool false]), (5, nc (V)), (11, gc (rt y) ++ gc (rt y * im) ++ gc (0 - rt y) ++ gc (0 - rt y * im)), (13, gc (tr y j) ++ nc (V) ++ [Value.bool false])] ⟨rfl, rfl, rfl, rfl, rfl, rfl, trivial⟩ ⟨rfl, rfl, rfl, rfl, trivial⟩ rfl (fun a w h => ?_)
        refine wp_seq ?_
        refine sq_begin [0, 1, 2, 3, 4, 5, 6, 7] rfl ?_
        refine sq_step h (i := 0) rfl (u_load (xs := []) (up_seq (i := 0) (by kernel_rfl) rfl) (gd0 rfl) 69 rfl 26 (.tmp 13) rfl rfl rfl Tryd.underlying26 rfl i26 (lk rfl) _ rfl) (fun a w h => ?_)
        refine sq_step h (i := 1) rfl (u_call (xs := []) (up_seq (i := 1) (by kernel_rfl) rfl) (gd0 rfl) 70 rfl 11 #[(.tmp 69)] #[26] rfl [.agg (gc (tr y j) ++ nc (V) ++ [Value.bool false]).toArray] rfl (cE11 _) (Value.bool false) (fun w hb => by have q := hform j hs (hT.keep (Bs.kp_of hb)); rw [hF2] at q; exact q)) (fun a w h => ?_)
        refine sq_step h (i := 2) rfl (u_move (xs := []) (up_seq (i := 2) (by kernel_rfl) rfl) (gd0 rfl) 71 rfl (.tmp 70) (Or.inl rfl) rfl) (fun a w h => ?_)
        refine sq_step h (i := 3) rfl (u_no (xs := []) (up_seq (i := 3) (by kernel_rfl) rfl) 2 true rfl 71 rfl (lk rfl) rfl 72 rfl) (fun a w h => ?_)
        refine sq_step h (i := 4) rfl (u_no (xs := []) (up_seq (i := 4) (by kernel_rfl) rfl) 2 true rfl 71 rfl (lk rfl) rfl 73 rfl) (fun a w h => ?_)
        refine sq_step h (i := 5) rfl (u_no (xs := []) (up_seq (i := 5) (by kernel_rfl) rfl) 2 true rfl 71 rfl (lk rfl) rfl 74 rfl) (fun a w h => ?_)
        refine sq_step h (i := 6) rfl (u_no (xs := []) (up_seq (i := 6) (by kernel_rfl) rfl) 2 true rfl 71 rfl (lk rfl) rfl 75 rfl) (fun a w h => ?_)
        refine sq_step h (i := 7) rfl (u_pick (xs := []) (up_seq (i := 7) (by kernel_rfl) rfl) (gd0 rfl) 76 rfl (.tmp 71) (.tmp 75) (.const (.bool false)) rfl rfl rfl rfl _ rfl) (fun a w h => ?_)
        replace h := h.keep [(0, .val (Value.slice (some ⟨b, o, none⟩) (32) (c))), (2, .ptr 2 0), (5, .ptr 5 0), (11, .ptr 11 0), (12, .val (Value.int .i64 ((j : Nat) : Int))), (13, .ptr 13 0), (76, .val (Value.bool false))] [(2, nz ++ nz ++ [Value.bool false]), (5, nc (V)), (11, gc (rt y) ++ gc (rt y * im) ++ gc (0 - rt y) ++ gc (0 - rt y * im)), (13, gc (tr y j) ++ nc (V) ++ [Value.bool false])] ⟨rfl, rfl, rfl, rfl, rfl, rfl, rfl, trivial⟩ ⟨rfl, rfl, rfl, rfl, trivial⟩ rfl
        refine sq_end ?_
        refine then_norm ?_
        refine go_cond h false rfl (fun ht => ?_) (fun hf => ?_)
        case refine_1 => cases ht
        refine wp_skip ?_
        refine blk_norm ?_
        refine then_norm ?_
        refine go_end h hm [eS 62 (.val (Value.int .i64 ((j : Nat) : Int))), eS 63 (.val (Value.int .i64 ((j + 1 : Nat) : Int))), eS 12 (.val (Value.int .i64 ((j + 1 : Nat) : Int)))] (by kernel_rfl) ⟨
          fun L u => u_move u (gd0 rfl) 62 rfl (.tmp 12) (Or.inl rfl) rfl,
          fun L u => u_bin u (gd0 rfl) 63 rfl .add 3 3 (.tmp 62) (.const (.int .i64 1)) rfl rfl rfl (eqg_int _ _ _ _ _ _ _ _) (Value.int .i64 ((j + 1 : Nat) : Int)) (fun w => i_add _ _ _ _ (by omega) (by omega) w),
          fun L u => u_move u (gd0 rfl) 12 rfl (.tmp 63) (Or.inr rfl) rfl,
          trivial⟩ [(0, .val (Value.slice (some ⟨b, o, none⟩) (32) (c))), (2, .ptr 2 0), (5, .ptr 5 0), (11, .ptr 11 0), (12, .val (Value.int .i64 ((j + 1 : Nat) : Int)))] [(2, nz ++ nz ++ [Value.bool false]), (5, nc (V)), (11, gc (rt y) ++ gc (rt y * im) ++ gc (0 - rt y) ++ gc (0 - rt y * im))] ⟨rfl, rfl, rfl, rfl, rfl, trivial⟩ ⟨rfl, rfl, rfl, trivial⟩ rfl (fun a w h => ?_)
        refine then_norm ?_
        exact ⟨j + 1, ⟨by omega, fun i hi hq => (Nat.lt_or_ge i j).elim (fun hl => hG.2 i hl hq) (fun hl => by (have ej : i = j := (by omega)); subst ej; first | exact absurd hq.1 hF | exact absurd hq.2 hS)⟩, (by omega), h.keep [(0, .val (Value.slice (some ⟨b, o, none⟩) (32) (c))), (2, .ptr 2 0), (5, .ptr 5 0), (11, .ptr 11 0), (12, .val (Value.int .i64 ((j + 1 : Nat) : Int)))] [(2, nz ++ nz ++ [Value.bool false]), (5, nc (V)), (11, gc (rt y) ++ gc (rt y * im) ++ gc (0 - rt y) ++ gc (0 - rt y * im))] ⟨rfl, rfl, rfl, rfl, rfl, trivial⟩ ⟨rfl, rfl, rfl, trivial⟩ rfl⟩
      · skip
        have hG1 := hG.1
        have hF2 := Bool.eq_false_iff.2 hF
        have hS2 := Bool.eq_false_iff.2 hS
        refine wp_seq ?_
        refine go_region h hm [eS 60 (.val (Value.int .i64 ((j : Nat) : Int))), eS 61 (.val (Value.bool true))] (by kernel_rfl) ⟨
          fun L u => u_move u (gd0 rfl) 60 rfl (.tmp 12) (Or.inl rfl) rfl,
          fun L u => u_bin u (gd0 rfl) 61 rfl .lss 3 3 (.tmp 60) (.const (.int .i64 4)) rfl rfl rfl (eqg_int _ _ _ _ _ _ _ _) (Value.bool true) (yes_of (fun w => i_lss _ _ _ _ w) (by omega)),
          trivial⟩ [(0, .val (Value.slice (some ⟨b, o, none⟩) (32) (c))), (2, .ptr 2 0), (5, .ptr 5 0), (11, .ptr 11 0), (12, .val (Value.int .i64 ((j : Nat) : Int))), (61, .val (Value.bool true))] [(2, nz ++ nz ++ [Value.bool false]), (5, nc (V)), (11, gc (rt y) ++ gc (rt y * im) ++ gc (0 - rt y) ++ gc (0 - rt y * im))] ⟨rfl, rfl, rfl, rfl, rfl, rfl, trivial⟩ ⟨rfl, rfl, rfl, trivial⟩ rfl (fun a w h => ?_)
        refine go_cond h true rfl (fun ht => ?_) (fun hf => ?_)
        case refine_2 => cases hf
        refine wp_skip ?_
        refine then_norm ?_
        refine wp_seq ?_
        refine wp_block ?_
        refine go_region h hm [eS 64 (.val (Value.int .i64 ((j : Nat) : Int))), eS 65 (.ptr 11 (j * 4)), eS 66 (.val (.agg (gc (tr y j)).toArray)), eS 67 (.val (.agg (nc (V)).toArray)), eS 68 (.val (.agg (gc (tr y j) ++ nc (V) ++ [Value.bool false]).toArray)), eN 13 (nz ++ nz ++ [Value.bool false]), eM 13 (gc (tr y j) ++ nc (V) ++ [Value.bool false])] (by kernel_rfl) ⟨
          fun L u => u_move u (gd0 rfl) 64 rfl (.tmp 12) (Or.inl rfl) rfl,
          fun L u => u_at u (gd0 rfl) 65 rfl 69 (.tmp 11) (.tmp 64) rfl rfl rfl (k := j) rfl Tryd.underlying69 i24 (by omega) (j * 4) (by omega),
          fun L u => u_load u (gd0 rfl) 66 rfl 24 (.tmp 65) rfl rfl rfl Tryd.underlying24 rfl i24 (by show j * 4 + 4 ≤ 16; omega) (gc (tr y j)) (tries_at y hs),
          fun L u => u_load u (gd0 rfl) 67 rfl 24 (.tmp 5) rfl rfl rfl Tryd.underlying24 rfl i24 (lk rfl) _ rfl,
          fun L u => u_build u (gd0 rfl) 68 rfl 26 #[(0, (.tmp 66)), (1, (.tmp 67))] rfl [(0, .agg (gc (tr y j)).toArray), (1, .agg (nc (V)).toArray)] rfl (gc (tr y j) ++ nc (V) ++ [Value.bool false]) (bPgn _ _),
          fun L u => u_alloc u (gd0 rfl) 26 rfl 13 rfl rfl z26 _ rfl,
          fun L u => u_store u (gd0 rfl) 26 (.tmp 13) (.tmp 68) rfl rfl rfl (vs := gc (tr y j) ++ nc (V) ++ [Value.bool false]) rfl rfl i26 (lk rfl) rfl _ rfl,
          trivial⟩ [(0, .val (Value.slice (some ⟨b, o, none⟩) (32) (c))), (2, .ptr 2 0), (5, .ptr 5 0), (11, .ptr 11 0), (12, .val (Value.int .i64 ((j : Nat) : Int))), (13, .ptr 13 0)] [(2, nz ++ nz ++ [Value.bool false]), (5, nc (V)), (11, gc (rt y) ++ gc (rt y * im) ++ gc (0 - rt y) ++ gc (0 - rt y * im)), (13, gc (tr y j) ++ nc (V) ++ [Value.bool false])] ⟨rfl, rfl, rfl, rfl, rfl, rfl, trivial⟩ ⟨rfl, rfl, rfl, rfl, trivial⟩ rfl (fun a w h => ?_)
        refine wp_seq ?_
        refine sq_begin [0, 1, 2, 3, 4, 5, 6, 7] rfl ?_
        refine sq_step h (i := 0) rfl (u_load (xs := []) (up_seq (i := 0) (by kernel_rfl) rfl) (gd0 rfl) 69 rfl 26 (.tmp 13) rfl rfl rfl Tryd.underlying26 rfl i26 (lk rfl) _ rfl) (fun a w h => ?_)
        refine sq_step h (i := 1) rfl (u_call (xs := []) (up_seq (i := 1) (by kernel_rfl) rfl) (gd0 rfl) 70 rfl 11 #[(.tmp 69)] #[26] rfl [.agg (gc (tr y j) ++ nc (V) ++ [Value.bool false]).toArray] rfl (cE11 _) (Value.bool false) (fun w hb => by have q := hform j hs (hT.keep (Bs.kp_of hb)); rw [hF2] at q; exact q)) (fun a w h => ?_)
        refine sq_step h (i := 2) rfl (u_move (xs := []) (up_seq (i := 2) (by kernel_rfl) rfl) (gd0 rfl) 71 rfl (.tmp 70) (Or.inl rfl) rfl) (fun a w h => ?_)
        refine sq_step h (i := 3) rfl (u_no (xs := []) (up_seq (i := 3) (by kernel_rfl) rfl) 2 true rfl 71 rfl (lk rfl) rfl 72 rfl) (fun a w h => ?_)
        refine sq_step h (i := 4) rfl (u_no (xs := []) (up_seq (i := 4) (by kernel_rfl) rfl) 2 true rfl 71 rfl (lk rfl) rfl 73 rfl) (fun a w h => ?_)
        refine sq_step h (i := 5) rfl (u_no (xs := []) (up_seq (i := 5) (by kernel_rfl) rfl) 2 true rfl 71 rfl (lk rfl) rfl 74 rfl) (fun a w h => ?_)
        refine sq_step h (i := 6) rfl (u_no (xs := []) (up_seq (i := 6) (by kernel_rfl) rfl) 2 true rfl 71 rfl (lk rfl) rfl 75 rfl) (fun a w h => ?_)
        refine sq_step h (i := 7) rfl (u_pick (xs := []) (up_seq (i := 7) (by kernel_rfl) rfl) (gd0 rfl) 76 rfl (.tmp 71) (.tmp 75) (.const (.bool false)) rfl rfl rfl rfl _ rfl) (fun a w h => ?_)
        replace h := h.keep [(0, .val (Value.slice (some ⟨b, o, none⟩) (32) (c))), (2, .ptr 2 0), (5, .ptr 5 0), (11, .ptr 11 0), (12, .val (Value.int .i64 ((j : Nat) : Int))), (13, .ptr 13 0), (76, .val (Value.bool false))] [(2, nz ++ nz ++ [Value.bool false]), (5, nc (V)), (11, gc (rt y) ++ gc (rt y * im) ++ gc (0 - rt y) ++ gc (0 - rt y * im)), (13, gc (tr y j) ++ nc (V) ++ [Value.bool false])] ⟨rfl, rfl, rfl, rfl, rfl, rfl, rfl, trivial⟩ ⟨rfl, rfl, rfl, rfl, trivial⟩ rfl
        refine sq_end ?_
        refine then_norm ?_
        refine go_cond h false rfl (fun ht => ?_) (fun hf => ?_)
        case refine_1 => cases ht
        refine wp_skip ?_
        refine blk_norm ?_
        refine then_norm ?_
        refine go_end h hm [eS 62 (.val (Value.int .i64 ((j : Nat) : Int))), eS 63 (.val (Value.int .i64 ((j + 1 : Nat) : Int))), eS 12 (.val (Value.int .i64 ((j + 1 : Nat) : Int)))] (by kernel_rfl) ⟨
          fun L u => u_move u (gd0 rfl) 62 rfl (.tmp 12) (Or.inl rfl) rfl,
          fun L u => u_bin u (gd0 rfl) 63 rfl .add 3 3 (.tmp 62) (.const (.int .i64 1)) rfl rfl rfl (eqg_int _ _ _ _ _ _ _ _) (Value.int .i64 ((j + 1 : Nat) : Int)) (fun w => i_add _ _ _ _ (by omega) (by omega) w),
          fun L u => u_move u (gd0 rfl) 12 rfl (.tmp 63) (Or.inr rfl) rfl,
          trivial⟩ [(0, .val (Value.slice (some ⟨b, o, none⟩) (32) (c))), (2, .ptr 2 0), (5, .ptr 5 0), (11, .ptr 11 0), (12, .val (Value.int .i64 ((j + 1 : Nat) : Int)))] [(2, nz ++ nz ++ [Value.bool false]), (5, nc (V)), (11, gc (rt y) ++ gc (rt y * im) ++ gc (0 - rt y) ++ gc (0 - rt y * im))] ⟨rfl, rfl, rfl, rfl, rfl, trivial⟩ ⟨rfl, rfl, rfl, trivial⟩ rfl (fun a w h => ?_)
        refine then_norm ?_
        exact ⟨j + 1, ⟨by omega, fun i hi hq => (Nat.lt_or_ge i j).elim (fun hl => hG.2 i hl hq) (fun hl => by (have ej : i = j := (by omega)); subst ej; first | exact absurd hq.1 hF | exact absurd hq.2 hS)⟩, (by omega), h.keep [(0, .val (Value.slice (some ⟨b, o, none⟩) (32) (c))), (2, .ptr 2 0), (5, .ptr 5 0), (11, .ptr 11 0), (12, .val (Value.int .i64 ((j + 1 : Nat) : Int)))] [(2, nz ++ nz ++ [Value.bool false]), (5, nc (V)), (11, gc (rt y) ++ gc (rt y * im) ++ gc (0 - rt y) ++ gc (0 - rt y * im))] ⟨rfl, rfl, rfl, rfl, rfl, trivial⟩ ⟨rfl, rfl, rfl, trivial⟩ rfl⟩
  · skip
    have hG1 := hG.1
    refine wp_seq ?_
    refine go_region h hm [eS 60 (.val (Value.int .i64 ((j : Nat) : Int))), eS 61 (.val (Value.bool false))] (by kernel_rfl) ⟨
      fun L u => u_move u (gd0 rfl) 60 rfl (.tmp 12) (Or.inl rfl) rfl,
      fun L u => u_bin u (gd0 rfl) 61 rfl .lss 3 3 (.tmp 60) (.const (.int .i64 4)) rfl rfl rfl (eqg_int _ _ _ _ _ _ _ _) (Value.bool false) (no_of (fun w => i_lss _ _ _ _ w) (by omega)),
      trivial⟩ [(0, .val (Value.slice (some ⟨b, o, none⟩) (32) (c))), (2, .ptr 2 0), (5, .ptr 5 0), (11, .ptr 11 0), (12, .val (Value.int .i64 ((j : Nat) : Int))), (61, .val (Value.bool false))] [(2, nz ++ nz ++ [Value.bool false]), (5, nc (V)), (11, gc (rt y) ++ gc (rt y * im) ++ gc (0 - rt y) ++ gc (0 - rt y * im))] ⟨rfl, rfl, rfl, rfl, rfl, rfl, trivial⟩ ⟨rfl, rfl, rfl, trivial⟩ rfl (fun a w h => ?_)
    refine go_cond h false rfl (fun ht => ?_) (fun hf => ?_)
    case refine_1 => cases ht
    refine wp_exit ?_
    refine then_exit ?_
    refine then_exit ?_
    refine blk_exit ?_
    refine then_norm ?_
    refine go_region h hm [eS 78 (.val (.agg (gc ((Ep.o m2).x) ++ gc ((Ep.o m2).y) ++ [Value.bool false]).toArray)), eM 2 (gc ((Ep.o m2).x) ++ gc ((Ep.o m2).y) ++ [Value.bool false]), eS 3 (.val (Value.bool false))] (by kernel_rfl) ⟨
      fun L u => u_call u (gd0 rfl) 78 rfl 56 #[] #[] rfl [] rfl (cE56 _) (.agg (gc ((Ep.o m2).x) ++ gc ((Ep.o m2).y) ++ [Value.bool false]).toArray) (fun w hb => s_None),
      fun L u => u_store u (gd0 rfl) 26 (.tmp 2) (.tmp 78) rfl rfl rfl (vs := gc ((Ep.o m2).x) ++ gc ((Ep.o m2).y) ++ [Value.bool false]) rfl rfl i26 (lk rfl) rfl _ rfl,
      fun L u => u_move u (gd0 rfl) 3 rfl (.const (.bool false)) (Or.inr rfl) rfl,
      trivial⟩ [(2, .ptr 2 0), (3, .val (Value.bool false))] [(2, gc ((Ep.o m2).x) ++ gc ((Ep.o m2).y) ++ [Value.bool false])] ⟨rfl, rfl, trivial⟩ ⟨rfl, trivial⟩ rfl (fun a w h => ?_)
    refine wp_ret ?_
    refine ret_two h _ _ rfl (ans_row (cs := gc ((Ep.o m2).x) ++ gc ((Ep.o m2).y) ++ [Value.bool false]) 2 (lk rfl) 26 rfl rfl Tryd.underlying26 rfl i26) (ans_tmp (v := Value.bool false) 3 (lk rfl) rfl) ?_
    first | exact ⟨_, _, rfl, hyes j hs hF hS, h.grows⟩ | exact ⟨_, _, rfl, hno (fun i hi hq => hG.2 i (by omega) hq), h.grows⟩
set_option maxRecDepth 100000 in
set_option maxHeartbeats 4000000 in
theorem s_dec_not {w : World} {A : Option Addr} {n c : Nat} (hn : n ≠ 32) : Calls Tryd.prog 23 [Value.slice (A) (n) (c)].toArray w fun e w' => e = .returned (.tuple [.agg (pcE (Ep.o m2)).toArray, .bool false].toArray) ∧ Below w.heap.size w w' := by
  refine enter (args := [Value.slice (A) (n) (c)]) Tryd.func23 rfl 79 rfl (lk rfl) (fun a h => ?_)
  refine go_region h hm [eN 2 (nz ++ nz ++ [Value.bool false]), eS 3 (.val (Value.bool false))] (by kernel_rfl) ⟨
    fun L u => u_alloc u (gd0 rfl) 26 rfl 2 rfl rfl z26 _ rfl,
    fun L u => u_move u (gd0 rfl) 3 rfl (.const (.bool false)) (Or.inr rfl) rfl,
    trivial⟩ [(0, .val (Value.slice (A) (n) (c))), (2, .ptr 2 0)] [(2, nz ++ nz ++ [Value.bool false])] ⟨rfl, rfl, trivial⟩ ⟨rfl, trivial⟩ rfl (fun a w h => ?_)
  refine wp_seq ?_
  refine go_region h hm [eS 14 (.val (Value.slice (A) (n) (c))), eS 15 (.val (Value.int .i64 ((n : Nat) : Int))), eS 16 (.val (Value.bool true))] (by kernel_rfl) ⟨
    fun L u => u_move u (gd0 rfl) 14 rfl (.tmp 0) (Or.inl rfl) rfl,
    fun L u => u_lenV u (gd0 rfl) 15 rfl (.tmp 14) 43 rfl rfl Tryd.underlying43,
    fun L u => u_bin u (gd0 rfl) 16 rfl .neq 3 3 (.tmp 15) (.const (.int .i64 32)) rfl rfl rfl (eqg_int _ _ _ _ _ _ _ _) (Value.bool true) (yes_of (fun w => i_neq _ _ _ _ w) (by omega)),
    trivial⟩ [(0, .val (Value.slice (A) (n) (c))), (2, .ptr 2 0), (16, .val (Value.bool true))] [(2, nz ++ nz ++ [Value.bool false])] ⟨rfl, rfl, rfl, trivial⟩ ⟨rfl, trivial⟩ rfl (fun a w h => ?_)
  refine go_cond h true rfl (fun ht => ?_) (fun hf => ?_)
  case refine_2 => cases hf
  refine go_region h hm [eS 17 (.val (.agg (gc ((Ep.o m2).x) ++ gc ((Ep.o m2).y) ++ [Value.bool false]).toArray)), eM 2 (gc ((Ep.o m2).x) ++ gc ((Ep.o m2).y) ++ [Value.bool false]), eS 3 (.val (Value.bool false))] (by kernel_rfl) ⟨
    fun L u => u_call u (gd0 rfl) 17 rfl 56 #[] #[] rfl [] rfl (cE56 _) (.agg (gc ((Ep.o m2).x) ++ gc ((Ep.o m2).y) ++ [Value.bool false]).toArray) (fun w hb => s_None),
    fun L u => u_store u (gd0 rfl) 26 (.tmp 2) (.tmp 17) rfl rfl rfl (vs := gc ((Ep.o m2).x) ++ gc ((Ep.o m2).y) ++ [Value.bool false]) rfl rfl i26 (lk rfl) rfl _ rfl,
    fun L u => u_move u (gd0 rfl) 3 rfl (.const (.bool false)) (Or.inr rfl) rfl,
    trivial⟩ [(2, .ptr 2 0), (3, .val (Value.bool false))] [(2, gc ((Ep.o m2).x) ++ gc ((Ep.o m2).y) ++ [Value.bool false])] ⟨rfl, rfl, trivial⟩ ⟨rfl, trivial⟩ rfl (fun a w h => ?_)
  refine wp_ret ?_
  refine then_ret ?_
  refine ret_two h _ _ rfl (ans_row (cs := gc ((Ep.o m2).x) ++ gc ((Ep.o m2).y) ++ [Value.bool false]) 2 (lk rfl) 26 rfl rfl Tryd.underlying26 rfl i26) (ans_tmp (v := Value.bool false) 3 (lk rfl) rfl) ?_
  exact ⟨rfl, h.grows⟩
end Go.Proofs.YtolehamdaceikaaDoor
namespace Go.Proofs.YtolehamdaceikaaDoor
open Go.RowKit

theorem Y_all {u v : Int} (hu : Num u) (hv : Num v) (h : ∀ i, i < 32 → Y i u = Y i v) : u = v := by
  have a := E_words u
  have b := E_words v
  have e : ∀ o, o + 8 ≤ 32 → E (fun i => Y i u) o 8 = E (fun i => Y i v) o 8 := fun o ho => E_congr o 8 (fun i hi => h _ (by omega))
  exact num_ext hu hv (by rw [← a.1, ← b.1]; exact e 0 (by omega)) (by rw [← a.2.1, ← b.2.1]; exact e 8 (by omega)) (by rw [← a.2.2.1, ← b.2.2.1]; exact e 16 (by omega)) (by rw [← a.2.2.2, ← b.2.2.2]; exact e 24 (by omega))
/-- The number of 32 bytes, the least significant first. -/
structure LN (f : Nat → Nat) (u : Nat) : Prop where
  lt : u < 2 ^ 256
  at_ : ∀ i, i < 32 → Y i (u : Int) = ((f i : Nat) : Int)
theorem num_nat {u : Nat} (h : u < 2 ^ 256) : Num (u : Int) := ⟨by omega, by unfold M; omega⟩
theorem ln_is {f : Nat → Nat} (hf : ∀ i, f i < 256) : ∃ u, LN f u := by
  obtain ⟨u, hu, _, hy⟩ := num_bytes (f := fun i => ((f i : Nat) : Int)) (fun i => ⟨by omega, by have := hf i; omega⟩)
  have e : ((u.toNat : Nat) : Int) = u := Int.toNat_of_nonneg hu.lo
  refine ⟨u.toNat, ?_, fun i hi => by rw [e]; exact hy i hi⟩
  have := hu.hi
  unfold M at this
  omega
theorem code_num (a : Ep m2) : Num ((code a : Nat) : Int) := num_nat (code_lt a)
theorem ln_code (a : Ep m2) : LN (fun i => (Y i ((code a : Nat) : Int)).toNat) (code a) := ⟨code_lt a, fun _ _ => (Int.toNat_of_nonneg (Y_lo _ _)).symm⟩
theorem LN.same {f : Nat → Nat} {u : Nat} (h : LN f u) {a : Ep m2} (e : sameB (fun i => Y i ((code a : Nat) : Int)) (fun i => ((f i : Nat) : Int)) 32 = true) : code a = u := by
  have q : ∀ i, i < 32 → Y i ((code a : Nat) : Int) = ((f i : Nat) : Int) := of_decide_eq_true e
  have := Y_all (code_num a) (num_nat h.lt) (fun i hi => by rw [q i hi, h.at_ i hi])
  omega
theorem LN.back {f : Nat → Nat} {u : Nat} (h : LN f u) {a : Ep m2} (e : code a = u) : ∀ i, i < 32 → Y i ((code a : Nat) : Int) = ((f i : Nat) : Int) := fun i hi => by rw [e, h.at_ i hi]
/-- The number without its highest bit. -/
theorem low_is {u : Nat} (h : u < 2 ^ 256) : ((u : Nat) : Int) = ((u % 2 ^ 255 : Nat) : Int) + 2 ^ 255 * ((u / 2 ^ 255 : Nat) : Int) ∧ (u / 2 ^ 255 = 0 ∨ u / 2 ^ 255 = 1) ∧ u % 2 ^ 255 < 2 ^ 255 := by
  have h1 := Nat.mod_add_div u (2 ^ 255)
  have h2 : u % 2 ^ 255 < 2 ^ 255 := Nat.mod_lt _ (by decide)
  refine ⟨?_, by omega, h2⟩
  rw [show (2 : Int) ^ 255 = ((2 ^ 255 : Nat) : Int) from rfl]
  omega
theorem LN.low {f : Nat → Nat} {u : Nat} (h : LN f u) : by31 (fun i => ((f i : Nat) : Int)) ((fun i => ((f i : Nat) : Int)) 31 % 128) = by32 (fun i => Y i ((u % 2 ^ 255 : Nat) : Int)) := by
  obtain ⟨e, hs, hl⟩ := low_is h.lt
  have hl' : ((u % 2 ^ 255 : Nat) : Int) < 2 ^ 255 := by
    rw [show (2 : Int) ^ 255 = ((2 ^ 255 : Nat) : Int) from rfl]
    omega
  have h0 : (0 : Int) ≤ ((u % 2 ^ 255 : Nat) : Int) := by omega
  refine by31_ext ?_ ?_
  · intro i hi
    show ((f i : Nat) : Int) = _
    rw [← h.at_ i (by omega), e, Y_low _ _ hi]
  · show ((f 31 : Nat) : Int) % 128 = _
    rw [← h.at_ 31 (by omega), e, Y_high h0 hl' (by omega)]
    obtain ⟨a, b, _⟩ := Y_top h0 hl'
    omega
theorem s_Dec {w : World} (hT : Tab w) {A : Option Addr} {c : Nat} {f : Nat → Nat} (hba : BA w A 32 f) {u : Nat} (hu : LN f u) : Calls Tryd.prog 23 [.slice A 32 c].toArray w fun e w' => e = .returned (.tuple [.agg (pcE (dpt u)).toArray, .bool (dok u)].toArray) ∧ Below w.heap.size w w' := by
  rcases hba.at_ with h0 | ⟨b, o, rfl, hr⟩
  · omega
  obtain ⟨_, _, hl⟩ := low_is hu.lt
  have hVn : Num ((u % 2 ^ 255 : Nat) : Int) := num_nat (by omega)
  obtain ⟨y, hy⟩ : ∃ y : Fin m2, y = kc ((u % 2 ^ 255 : Nat) : Int) := ⟨_, rfl⟩
  have fin : ∀ cs t, (cs = pcE (dpt u) ∧ t = dok u) → ∀ (e : Ending) (w' : World), e = .returned (.tuple [.agg cs.toArray, .bool t].toArray) ∧ Below w.heap.size w w' → e = .returned (.tuple [.agg (pcE (dpt u)).toArray, .bool (dok u)].toArray) ∧ Below w.heap.size w w' := by
    rintro cs t ⟨rfl, rfl⟩ e w' h
    exact h
  have none1 : (∀ a : Ep m2, a.on ed → code a ≠ u) → pcE (Ep.o m2) = pcE (dpt u) ∧ false = dok u := fun h => by
    obtain ⟨e1, e2⟩ := dpt_none (dec_none h)
    rw [e1, e2]
    exact ⟨rfl, rfl⟩
  by_cases hm : ((u % 2 ^ 255 : Nat) : Int) < md 2
  · have ey : nc ((u % 2 ^ 255 : Nat) : Int) = gc y := by rw [hy]; exact nc_gc (by omega) hm
    refine Calls.mono (s_dec32 hT hba hr hVn hu.low hy (fun j => decide (y * y - tr y j * tr y j = 1 + ed * (tr y j * tr y j * (y * y)))) (fun j i => Y i ((code ⟨tr y j, y⟩ : Nat) : Int)) (fun j _ w hT => by rw [ey]; exact s_formed_at hT _ _) (fun j _ hF w hT => by rw [ey]; exact s_enc_on hT (of_decide_eq_true hF)) (fun cs t => cs = pcE (dpt u) ∧ t = dok u) ?_ ?_) (fun e w' ⟨cs, t, he, hR, hb⟩ => fin cs t hR e w' ⟨he, hb⟩)
    · intro j _ hF hS
      have hon : y * y - tr y j * tr y j = 1 + ed * (tr y j * tr y j * (y * y)) := of_decide_eq_true hF
      obtain ⟨e1, e2⟩ := dpt_some (dec_of (show (⟨tr y j, y⟩ : Ep m2).on ed from hon) (hu.same hS))
      rw [e1, e2, ey]
      exact ⟨rfl, rfl⟩
    · intro hno
      refine none1 fun a ha hc => ?_
      obtain ⟨_, ea⟩ := y_of_code hc
      obtain ⟨i, hi, et⟩ := tr_ok ha
      rw [← hy] at ea
      rw [← ea] at et
      have eq : (⟨tr y i, y⟩ : Ep m2) = a := by rw [et, ea]
      refine hno i hi ⟨decide_eq_true ?_, ?_⟩
      · exact (show (⟨tr y i, y⟩ : Ep m2).on ed by rw [eq]; exact ha)
      · rw [eq]
        exact decide_eq_true (hu.back hc)
  · have hF : ∀ j, j < 4 → ∀ {w : World}, Tab w → Calls Tryd.prog 11 [.agg (gc (tr y j) ++ nc ((u % 2 ^ 255 : Nat) : Int) ++ [Value.bool false]).toArray].toArray w fun e w' => e = .returned (.bool false) ∧ Below w.heap.size w w' :=
      fun j _ w _ => s_formed_y (gin_num (tr y j)) (gin_lt _) hVn (decide_eq_false hm)
    refine Calls.mono (s_dec32 hT hba hr hVn hu.low hy (fun _ => false) (fun _ _ => 0) hF (fun j _ h => by cases h) (fun cs t => cs = pcE (dpt u) ∧ t = dok u) (fun j _ h => by cases h) ?_) (fun e w' ⟨cs, t, he, hR, hb⟩ => fin cs t hR e w' ⟨he, hb⟩)
    intro _
    refine none1 fun a ha hc => ?_
    obtain ⟨h1, _⟩ := y_of_code hc
    rw [md_m2] at hm
    omega
end Go.Proofs.YtolehamdaceikaaDoor
