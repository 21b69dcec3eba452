/- What the program's own Formed, lift, drop, times, Add, Mul, Both and Base answer. What the program answers at points, and that it is awake. Bytes of numbers. Small facts that every walk wants: all of them lie in Base. Rows of bytes in memory. Rows of bytes that may grow. Bytes that are handed in, and bytes that are appended to a row of one's own (no function of the program is named). -/
import Derived.Test.YtimaaendbfjblaaDoorB21
import Derived.Test.YtimaaendbfjblaaDoorB02
import Derived.Deep.AppendLies
import Derived.OwnWalk
namespace Go.Proofs.YtimaaendbfjblaaDoor
open Go.RowKit

theorem q_below {w : World} (hT : Tab w) {a : Int} (ha : Num a) {t : Bool} (ht : decide (a < md 0) = t) : Calls Tryd.prog 29 [.int .i64 0, .agg (nc a).toArray].toArray w fun e w' => e = .returned (.bool t) ∧ Below w.heap.size w w' := by
  rw [← ht]
  exact below_any ha hT
set_option maxRecDepth 100000 in
set_option maxHeartbeats 4000000 in
theorem q_formed_none {w : World} {X Y : Int} (hX : Num X) (hY : Num Y) : Calls Tryd.prog 10 [.agg (nc (X) ++ nc (Y) ++ [Value.bool true]).toArray].toArray w fun e w' => e = .returned (.bool (decide (X = 0 ∧ Y = 0))) ∧ Below w.heap.size w w' := by
  refine enter (args := [.agg (nc (X) ++ nc (Y) ++ [Value.bool true]).toArray]) Tryd.func10 rfl 27 rfl (lk rfl) (fun a h => ?_)
  refine go_region h hm [eN 1 (nc (X) ++ nc (Y) ++ [Value.bool true]), eS 2 (.val (Value.bool false))] (by kernel_rfl) ⟨
    fun L u => u_box u (gd0 rfl) 26 (.tmp 0) rfl 1 rfl rfl rfl _ rfl,
    fun L u => u_move u (gd0 rfl) 2 rfl (.const (.bool false)) (Or.inr rfl) rfl,
    trivial⟩ [(1, .ptr 1 0)] [(1, nc (X) ++ nc (Y) ++ [Value.bool true])] ⟨rfl, trivial⟩ ⟨rfl, trivial⟩ rfl (fun a w h => ?_)
  refine wp_seq ?_
  refine go_region h hm [eS 3 (.ptr 1 8), eS 4 (.val (Value.bool true))] (by kernel_rfl) ⟨
    fun L u => u_field u (gd0 rfl) 3 rfl 26 (.tmp 1) 2 rfl rfl rfl Tryd.underlying26 rfl i4 _ rfl,
    fun L u => u_load1 u (gd0 rfl) 4 rfl 4 (.tmp 3) rfl rfl rfl Tryd.underlying4 rfl _ rfl,
    trivial⟩ [(1, .ptr 1 0), (4, .val (Value.bool true))] [(1, nc (X) ++ nc (Y) ++ [Value.bool true])] ⟨rfl, rfl, trivial⟩ ⟨rfl, trivial⟩ rfl (fun a w h => ?_)
  refine go_cond h true rfl (fun ht => ?_) (fun hf => ?_)
  case refine_2 => cases hf
  refine go_region h hm [eS 5 (.val (.agg (nc (X) ++ nc (Y) ++ [Value.bool true]).toArray)), eS 6 (.val (.agg (nz ++ nz ++ [Value.bool true]).toArray)), eS 7 (.val (Value.bool (decide (X = 0 ∧ Y = 0)))), eS 2 (.val (Value.bool (decide (X = 0 ∧ Y = 0))))] (by kernel_rfl) ⟨
    fun L u => u_load u (gd0 rfl) 5 rfl 26 (.tmp 1) rfl rfl rfl Tryd.underlying26 rfl i26 (lk rfl) _ rfl,
    fun L u => u_call u (gd0 rfl) 6 rfl 28 #[] #[] rfl [] rfl (cE28 _) (.agg (nz ++ nz ++ [Value.bool true]).toArray) (fun w hb => q_neutral),
    fun L u => u_eql u (gd0 rfl) 7 rfl 26 26 (.tmp 5) (.tmp 6) rfl rfl rfl Tryd.eqGuardType26 (decide (X = 0 ∧ Y = 0)) (fun w => eq_none hX hY w),
    fun L u => u_move u (gd0 rfl) 2 rfl (.tmp 7) (Or.inr rfl) rfl,
    trivial⟩ [(2, .val (Value.bool (decide (X = 0 ∧ Y = 0))))] [] ⟨rfl, trivial⟩ trivial rfl (fun a w h => ?_)
  refine wp_ret ?_
  refine then_ret ?_
  refine ret_slot h 2 rfl (lk rfl) (Value.bool (decide (X = 0 ∧ Y = 0))) rfl ?_
  exact ⟨rfl, h.grows⟩
set_option maxRecDepth 100000 in
set_option maxHeartbeats 4000000 in
theorem q_formed_x {w : World} (hT : Tab w) {X Y : Int} (hX : Num X) (bX : decide (X < md 0) = false) : Calls Tryd.prog 10 [.agg (nc (X) ++ nc (Y) ++ [Value.bool false]).toArray].toArray w fun e w' => e = .returned (.bool false) ∧ Below w.heap.size w w' := by
  refine enter (args := [.agg (nc (X) ++ nc (Y) ++ [Value.bool false]).toArray]) Tryd.func10 rfl 27 rfl (lk rfl) (fun a h => ?_)
  refine go_region h hm [eN 1 (nc (X) ++ nc (Y) ++ [Value.bool false]), eS 2 (.val (Value.bool false))] (by kernel_rfl) ⟨
    fun L u => u_box u (gd0 rfl) 26 (.tmp 0) rfl 1 rfl rfl rfl _ rfl,
    fun L u => u_move u (gd0 rfl) 2 rfl (.const (.bool false)) (Or.inr rfl) rfl,
    trivial⟩ [(1, .ptr 1 0)] [(1, nc (X) ++ nc (Y) ++ [Value.bool false])] ⟨rfl, trivial⟩ ⟨rfl, trivial⟩ rfl (fun a w h => ?_)
  refine wp_seq ?_
  refine go_region h hm [eS 3 (.ptr 1 8), eS 4 (.val (Value.bool false))] (by kernel_rfl) ⟨
    fun L u => u_field u (gd0 rfl) 3 rfl 26 (.tmp 1) 2 rfl rfl rfl Tryd.underlying26 rfl i4 _ rfl,
    fun L u => u_load1 u (gd0 rfl) 4 rfl 4 (.tmp 3) rfl rfl rfl Tryd.underlying4 rfl _ rfl,
    trivial⟩ [(1, .ptr 1 0), (4, .val (Value.bool false))] [(1, nc (X) ++ nc (Y) ++ [Value.bool false])] ⟨rfl, rfl, trivial⟩ ⟨rfl, trivial⟩ rfl (fun a w h => ?_)
  refine go_cond h false rfl (fun ht => ?_) (fun hf => ?_)
  case refine_1 => cases ht
  refine wp_skip ?_
  refine then_norm ?_
  refine go_region h hm [eS 8 (.ptr 1 0), eS 9 (.val (.agg (nc (X)).toArray)), eS 10 (.val (Value.bool false)), eS 11 (.val (Value.bool false)), eS 12 (.val undef), eS 13 (.val undef), eS 14 (.val undef), eS 15 (.val (Value.bool false)), eS 16 (.val (Value.bool false)), eS 17 (.val undef), eS 18 (.val undef), eS 19 (.val undef), eS 20 (.val undef), eS 21 (.val undef), eS 22 (.val undef), eS 23 (.val undef), eS 24 (.val undef), eS 25 (.val undef), eS 26 (.val (Value.bool false)), eS 2 (.val (Value.bool false))] (by kernel_rfl) ⟨
    fun L u => u_field u (gd0 rfl) 8 rfl 26 (.tmp 1) 0 rfl rfl rfl Tryd.underlying26 rfl i24 _ rfl,
    fun L u => u_load u (gd0 rfl) 9 rfl 24 (.tmp 8) rfl rfl rfl Tryd.underlying24 rfl i24 (lk rfl) _ rfl,
    fun L u => u_call u (gd0 rfl) 10 rfl 29 #[(.const (.int .i64 0)), (.tmp 9)] #[3, 24] rfl [(Value.int IntKind.i64 0), .agg (nc (X)).toArray] rfl (cE29 _) (Value.bool false) (fun w hb => q_below (hT.keep (Bs.kp_of hb)) hX bX),
    fun L u => u_move u (gd0 rfl) 11 rfl (.tmp 10) (Or.inl rfl) rfl,
    fun L u => u_no u 3 true rfl 11 rfl (lk rfl) rfl 12 rfl,
    fun L u => u_no u 3 true rfl 11 rfl (lk rfl) rfl 13 rfl,
    fun L u => u_no u 3 true rfl 11 rfl (lk rfl) rfl 14 rfl,
    fun L u => u_pick u (gd0 rfl) 15 rfl (.tmp 11) (.tmp 14) (.const (.bool false)) rfl rfl rfl rfl _ rfl,
    fun L u => u_move u (gd0 rfl) 16 rfl (.tmp 15) (Or.inl rfl) rfl,
    fun L u => u_no u 8 true rfl 16 rfl (lk rfl) rfl 17 rfl,
    fun L u => u_no u 8 true rfl 16 rfl (lk rfl) rfl 18 rfl,
    fun L u => u_no u 8 true rfl 16 rfl (lk rfl) rfl 19 rfl,
    fun L u => u_no u 8 true rfl 16 rfl (lk rfl) rfl 20 rfl,
    fun L u => u_no u 8 true rfl 16 rfl (lk rfl) rfl 21 rfl,
    fun L u => u_no u 8 true rfl 16 rfl (lk rfl) rfl 22 rfl,
    fun L u => u_no u 8 true rfl 16 rfl (lk rfl) rfl 23 rfl,
    fun L u => u_no u 8 true rfl 16 rfl (lk rfl) rfl 24 rfl,
    fun L u => u_no u 8 true rfl 16 rfl (lk rfl) rfl 25 rfl,
    fun L u => u_pick u (gd0 rfl) 26 rfl (.tmp 16) (.tmp 25) (.const (.bool false)) rfl rfl rfl rfl _ rfl,
    fun L u => u_move u (gd0 rfl) 2 rfl (.tmp 26) (Or.inr rfl) rfl,
    trivial⟩ [(2, .val (Value.bool false))] [] ⟨rfl, trivial⟩ trivial rfl (fun a w h => ?_)
  refine wp_ret ?_
  refine ret_slot h 2 rfl (lk rfl) (Value.bool false) rfl ?_
  exact ⟨rfl, h.grows⟩
set_option maxRecDepth 100000 in
set_option maxHeartbeats 4000000 in
theorem q_formed_y {w : World} (hT : Tab w) {X Y : Int} (hX : Num X) (bX : decide (X < md 0) = true) (hY : Num Y) (bY : decide (Y < md 0) = false) : Calls Tryd.prog 10 [.agg (nc (X) ++ nc (Y) ++ [Value.bool false]).toArray].toArray w fun e w' => e = .returned (.bool false) ∧ Below w.heap.size w w' := by
  refine enter (args := [.agg (nc (X) ++ nc (Y) ++ [Value.bool false]).toArray]) Tryd.func10 rfl 27 rfl (lk rfl) (fun a h => ?_)
  refine go_region h hm [eN 1 (nc (X) ++ nc (Y) ++ [Value.bool false]), eS 2 (.val (Value.bool false))] (by kernel_rfl) ⟨
    fun L u => u_box u (gd0 rfl) 26 (.tmp 0) rfl 1 rfl rfl rfl _ rfl,
    fun L u => u_move u (gd0 rfl) 2 rfl (.const (.bool false)) (Or.inr rfl) rfl,
    trivial⟩ [(1, .ptr 1 0)] [(1, nc (X) ++ nc (Y) ++ [Value.bool false])] ⟨rfl, trivial⟩ ⟨rfl, trivial⟩ rfl (fun a w h => ?_)
  refine wp_seq ?_
  refine go_region h hm [eS 3 (.ptr 1 8), eS 4 (.val (Value.bool false))] (by kernel_rfl) ⟨
    fun L u => u_field u (gd0 rfl) 3 rfl 26 (.tmp 1) 2 rfl rfl rfl Tryd.underlying26 rfl i4 _ rfl,
    fun L u => u_load1 u (gd0 rfl) 4 rfl 4 (.tmp 3) rfl rfl rfl Tryd.underlying4 rfl _ rfl,
    trivial⟩ [(1, .ptr 1 0), (4, .val (Value.bool false))] [(1, nc (X) ++ nc (Y) ++ [Value.bool false])] ⟨rfl, rfl, trivial⟩ ⟨rfl, trivial⟩ rfl (fun a w h => ?_)
  refine go_cond h false rfl (fun ht => ?_) (fun hf => ?_)
  case refine_1 => cases ht
  refine wp_skip ?_
  refine then_norm ?_
  refine go_region h hm [eS 8 (.ptr 1 0), eS 9 (.val (.agg (nc (X)).toArray)), eS 10 (.val (Value.bool true)), eS 11 (.val (Value.bool true)), eS 12 (.ptr 1 4), eS 13 (.val (.agg (nc (Y)).toArray)), eS 14 (.val (Value.bool false)), eS 15 (.val (Value.bool false)), eS 16 (.val (Value.bool false)), eS 17 (.val undef), eS 18 (.val undef), eS 19 (.val undef), eS 20 (.val undef), eS 21 (.val undef), eS 22 (.val undef), eS 23 (.val undef), eS 24 (.val undef), eS 25 (.val undef), eS 26 (.val (Value.bool false)), eS 2 (.val (Value.bool false))] (by kernel_rfl) ⟨
    fun L u => u_field u (gd0 rfl) 8 rfl 26 (.tmp 1) 0 rfl rfl rfl Tryd.underlying26 rfl i24 _ rfl,
    fun L u => u_load u (gd0 rfl) 9 rfl 24 (.tmp 8) rfl rfl rfl Tryd.underlying24 rfl i24 (lk rfl) _ rfl,
    fun L u => u_call u (gd0 rfl) 10 rfl 29 #[(.const (.int .i64 0)), (.tmp 9)] #[3, 24] rfl [(Value.int IntKind.i64 0), .agg (nc (X)).toArray] rfl (cE29 _) (Value.bool true) (fun w hb => q_below (hT.keep (Bs.kp_of hb)) hX bX),
    fun L u => u_move u (gd0 rfl) 11 rfl (.tmp 10) (Or.inl rfl) rfl,
    fun L u => u_field u (gd1 u 3 true rfl 11 rfl (lk rfl) rfl) 12 rfl 26 (.tmp 1) 1 rfl rfl rfl Tryd.underlying26 rfl i24 _ rfl,
    fun L u => u_load u (gd1 u 3 true rfl 11 rfl (lk rfl) rfl) 13 rfl 24 (.tmp 12) rfl rfl rfl Tryd.underlying24 rfl i24 (lk rfl) _ rfl,
    fun L u => u_call u (gd1 u 3 true rfl 11 rfl (lk rfl) rfl) 14 rfl 29 #[(.const (.int .i64 0)), (.tmp 13)] #[3, 24] rfl [(Value.int IntKind.i64 0), .agg (nc (Y)).toArray] rfl (cE29 _) (Value.bool false) (fun w hb => q_below (hT.keep (Bs.kp_of hb)) hY bY),
    fun L u => u_pick u (gd0 rfl) 15 rfl (.tmp 11) (.tmp 14) (.const (.bool false)) rfl rfl rfl rfl _ rfl,
    fun L u => u_move u (gd0 rfl) 16 rfl (.tmp 15) (Or.inl rfl) rfl,
    fun L u => u_no u 8 true rfl 16 rfl (lk rfl) rfl 17 rfl,
    fun L u => u_no u 8 true rfl 16 rfl (lk rfl) rfl 18 rfl,
    fun L u => u_no u 8 true rfl 16 rfl (lk rfl) rfl 19 rfl,
    fun L u => u_no u 8 true rfl 16 rfl (lk rfl) rfl 20 rfl,
    fun L u => u_no u 8 true rfl 16 rfl (lk rfl) rfl 21 rfl,
    fun L u => u_no u 8 true rfl 16 rfl (lk rfl) rfl 22 rfl,
    fun L u => u_no u 8 true rfl 16 rfl (lk rfl) rfl 23 rfl,
    fun L u => u_no u 8 true rfl 16 rfl (lk rfl) rfl 24 rfl,
    fun L u => u_no u 8 true rfl 16 rfl (lk rfl) rfl 25 rfl,
    fun L u => u_pick u (gd0 rfl) 26 rfl (.tmp 16) (.tmp 25) (.const (.bool false)) rfl rfl rfl rfl _ rfl,
    fun L u => u_move u (gd0 rfl) 2 rfl (.tmp 26) (Or.inr rfl) rfl,
    trivial⟩ [(2, .val (Value.bool false))] [] ⟨rfl, trivial⟩ trivial rfl (fun a w h => ?_)
  refine wp_ret ?_
  refine ret_slot h 2 rfl (lk rfl) (Value.bool false) rfl ?_
  exact ⟨rfl, h.grows⟩
theorem formed_poly {p : Nat} [NeZero p] (b x y : Fin p) {v1 : Fin p} (ev1 : v1 = y * y) {v2 : Fin p} (ev2 : v2 = x * x * x - (x + x + x) + b) : decide (v1 = v2) = decide (y * y = x * x * x - 3 * x + b) := by
  subst ev1 ev2
  have e : ∀ l r l2 r2 : Fin p, l = l2 → r = r2 → decide (l = r) = decide (l2 = r2) := fun l r l2 r2 h1 h2 => by rw [h1, h2]
  apply e <;> grobner
set_option maxRecDepth 100000 in
set_option maxHeartbeats 8000000 in
theorem q_formed_at {w : World} (hT : Tab w) (x y : Fin m0) : Calls Tryd.prog 10 [.agg (fc (x) ++ fc (y) ++ [Value.bool false]).toArray].toArray w fun e w' => e = .returned (.bool (decide (y * y = x * x * x - 3 * x + wb))) ∧ Below w.heap.size w w' := by
  obtain ⟨v1, ev1⟩ : ∃ z, z = y * y := ⟨_, rfl⟩
  obtain ⟨v2, ev2⟩ : ∃ z, z = x * x * x - (x + x + x) + wb := ⟨_, rfl⟩
  have hpp := formed_poly wb x y ev1 ev2
  refine enter (args := [.agg (fc (x) ++ fc (y) ++ [Value.bool false]).toArray]) Tryd.func10 rfl 27 rfl (lk rfl) (fun a h => ?_)
  refine go_region h hm [eN 1 (fc (x) ++ fc (y) ++ [Value.bool false]), eS 2 (.val (Value.bool false))] (by kernel_rfl) ⟨
    fun L u => u_box u (gd0 rfl) 26 (.tmp 0) rfl 1 rfl rfl rfl _ rfl,
    fun L u => u_move u (gd0 rfl) 2 rfl (.const (.bool false)) (Or.inr rfl) rfl,
    trivial⟩ [(1, .ptr 1 0)] [(1, fc (x) ++ fc (y) ++ [Value.bool false])] ⟨rfl, trivial⟩ ⟨rfl, trivial⟩ rfl (fun a w h => ?_)
  refine wp_seq ?_
  refine go_region h hm [eS 3 (.ptr 1 8), eS 4 (.val (Value.bool false))] (by kernel_rfl) ⟨
    fun L u => u_field u (gd0 rfl) 3 rfl 26 (.tmp 1) 2 rfl rfl rfl Tryd.underlying26 rfl i4 _ rfl,
    fun L u => u_load1 u (gd0 rfl) 4 rfl 4 (.tmp 3) rfl rfl rfl Tryd.underlying4 rfl _ rfl,
    trivial⟩ [(1, .ptr 1 0), (4, .val (Value.bool false))] [(1, fc (x) ++ fc (y) ++ [Value.bool false])] ⟨rfl, rfl, trivial⟩ ⟨rfl, trivial⟩ rfl (fun a w h => ?_)
  refine go_cond h false rfl (fun ht => ?_) (fun hf => ?_)
  case refine_1 => cases ht
  refine wp_skip ?_
  refine then_norm ?_
  refine go_region h hm [eS 8 (.ptr 1 0), eS 9 (.val (.agg (fc (x)).toArray)), eS 10 (.val (Value.bool true)), eS 11 (.val (Value.bool true)), eS 12 (.ptr 1 4), eS 13 (.val (.agg (fc (y)).toArray)), eS 14 (.val (Value.bool true)), eS 15 (.val (Value.bool true)), eS 16 (.val (Value.bool true)), eS 17 (.ptr 1 4), eS 18 (.val (.agg (fc (y)).toArray)), eS 19 (.ptr 1 4), eS 20 (.val (.agg (fc (y)).toArray)), eS 21 (.val (.agg (fc (v1)).toArray)), eS 22 (.ptr 1 0), eS 23 (.val (.agg (fc (x)).toArray)), eS 24 (.val (.agg (fc (v2)).toArray)), eS 25 (.val (Value.bool (decide (v1 = v2)))), eS 26 (.val (Value.bool (decide (v1 = v2)))), eS 2 (.val (Value.bool (decide (v1 = v2))))] (by kernel_rfl) ⟨
    fun L u => u_field u (gd0 rfl) 8 rfl 26 (.tmp 1) 0 rfl rfl rfl Tryd.underlying26 rfl i24 _ rfl,
    fun L u => u_load u (gd0 rfl) 9 rfl 24 (.tmp 8) rfl rfl rfl Tryd.underlying24 rfl i24 (lk rfl) _ rfl,
    fun L u => u_call u (gd0 rfl) 10 rfl 29 #[(.const (.int .i64 0)), (.tmp 9)] #[3, 24] rfl [(Value.int IntKind.i64 0), .agg (fc (x)).toArray] rfl (cE29 _) (Value.bool true) (fun w hb => q_below (hT.keep (Bs.kp_of hb)) (fin_num _) (fin_lt _)),
    fun L u => u_move u (gd0 rfl) 11 rfl (.tmp 10) (Or.inl rfl) rfl,
    fun L u => u_field u (gd1 u 3 true rfl 11 rfl (lk rfl) rfl) 12 rfl 26 (.tmp 1) 1 rfl rfl rfl Tryd.underlying26 rfl i24 _ rfl,
    fun L u => u_load u (gd1 u 3 true rfl 11 rfl (lk rfl) rfl) 13 rfl 24 (.tmp 12) rfl rfl rfl Tryd.underlying24 rfl i24 (lk rfl) _ rfl,
    fun L u => u_call u (gd1 u 3 true rfl 11 rfl (lk rfl) rfl) 14 rfl 29 #[(.const (.int .i64 0)), (.tmp 13)] #[3, 24] rfl [(Value.int IntKind.i64 0), .agg (fc (y)).toArray] rfl (cE29 _) (Value.bool true) (fun w hb => q_below (hT.keep (Bs.kp_of hb)) (fin_num _) (fin_lt _)),
    fun L u => u_pick u (gd0 rfl) 15 rfl (.tmp 11) (.tmp 14) (.const (.bool false)) rfl rfl rfl rfl _ rfl,
    fun L u => u_move u (gd0 rfl) 16 rfl (.tmp 15) (Or.inl rfl) rfl,
    fun L u => u_field u (gd1 u 8 true rfl 16 rfl (lk rfl) rfl) 17 rfl 26 (.tmp 1) 1 rfl rfl rfl Tryd.underlying26 rfl i24 _ rfl,
    fun L u => u_load u (gd1 u 8 true rfl 16 rfl (lk rfl) rfl) 18 rfl 24 (.tmp 17) rfl rfl rfl Tryd.underlying24 rfl i24 (lk rfl) _ rfl,
    fun L u => u_field u (gd1 u 8 true rfl 16 rfl (lk rfl) rfl) 19 rfl 26 (.tmp 1) 1 rfl rfl rfl Tryd.underlying26 rfl i24 _ rfl,
    fun L u => u_load u (gd1 u 8 true rfl 16 rfl (lk rfl) rfl) 20 rfl 24 (.tmp 19) rfl rfl rfl Tryd.underlying24 rfl i24 (lk rfl) _ rfl,
    fun L u => u_call u (gd1 u 8 true rfl 16 rfl (lk rfl) rfl) 21 rfl 30 #[(.tmp 18), (.tmp 20)] #[24, 24] rfl [.agg (fc (y)).toArray, .agg (fc (y)).toArray] rfl (cE30 _) (.agg (fc (v1)).toArray) (fun w hb => by have g := q_mul (hT.keep (Bs.kp_of hb)) y y; rw [← ev1] at g; exact g),
    fun L u => u_field u (gd1 u 8 true rfl 16 rfl (lk rfl) rfl) 22 rfl 26 (.tmp 1) 0 rfl rfl rfl Tryd.underlying26 rfl i24 _ rfl,
    fun L u => u_load u (gd1 u 8 true rfl 16 rfl (lk rfl) rfl) 23 rfl 24 (.tmp 22) rfl rfl rfl Tryd.underlying24 rfl i24 (lk rfl) _ rfl,
    fun L u => u_call u (gd1 u 8 true rfl 16 rfl (lk rfl) rfl) 24 rfl 31 #[(.tmp 23)] #[24] rfl [.agg (fc (x)).toArray] rfl (cE31 _) (.agg (fc (v2)).toArray) (fun w hb => by have g := q_right (hT.keep (Bs.kp_of hb)) x; rw [← ev2] at g; exact g),
    fun L u => u_eql u (gd1 u 8 true rfl 16 rfl (lk rfl) rfl) 25 rfl 24 24 (.tmp 21) (.tmp 24) rfl rfl rfl Tryd.eqGuardType24 (decide (v1 = v2)) (fun w => eq_fc _ _ w),
    fun L u => u_pick u (gd0 rfl) 26 rfl (.tmp 16) (.tmp 25) (.const (.bool false)) rfl rfl rfl rfl _ rfl,
    fun L u => u_move u (gd0 rfl) 2 rfl (.tmp 26) (Or.inr rfl) rfl,
    trivial⟩ [(2, .val (Value.bool (decide (v1 = v2))))] [] ⟨rfl, trivial⟩ trivial rfl (fun a w h => ?_)
  refine wp_ret ?_
  refine ret_slot h 2 rfl (lk rfl) (Value.bool (decide (v1 = v2))) rfl ?_
  exact ⟨by rw [← hpp], h.grows⟩
theorem q_Formed {w : World} (hT : Tab w) {X Y : Int} (hX : Num X) (hY : Num Y) (t : Bool) : Calls Tryd.prog 10 [.agg (rc X Y t).toArray].toArray w fun e w' => e = .returned (.bool (fmd X Y t)) ∧ Below w.heap.size w w' := by
  cases t with
  | true => exact q_formed_none hX hY
  | false =>
    rw [show fmd X Y false = decide (X < md 0 ∧ Y < md 0 ∧ (kc Y : Fin m0) * kc Y = kc X * kc X * kc X - 3 * kc X + wb) from rfl]
    by_cases h1 : X < md 0
    · by_cases h2 : Y < md 0
      · have e1 := nc_kc hX.lo h1
        have e2 := nc_kc hY.lo h2
        have h := q_formed_at hT (kc X) (kc Y)
        rw [rc, e1, e2]
        have e3 : decide (X < md 0 ∧ Y < md 0 ∧ (kc Y : Fin m0) * kc Y = kc X * kc X * kc X - 3 * kc X + wb) = decide ((kc Y : Fin m0) * kc Y = kc X * kc X * kc X - 3 * kc X + wb) := by
          have : (X < md 0 ∧ Y < md 0 ∧ (kc Y : Fin m0) * kc Y = kc X * kc X * kc X - 3 * kc X + wb) = ((kc Y : Fin m0) * kc Y = kc X * kc X * kc X - 3 * kc X + wb) := propext ⟨fun h => h.2.2, fun h => ⟨h1, h2, h⟩⟩
          simp only [this]
        rw [e3]
        exact h
      · rw [decide_eq_false (fun h => h2 h.2.1)]
        exact q_formed_y hT hX (decide_eq_true h1) hY (decide_eq_false h2)
    · rw [decide_eq_false (fun h => h1 h.1)]
      exact q_formed_x hT hX (decide_eq_false h1)
set_option maxRecDepth 100000 in
set_option maxHeartbeats 4000000 in
theorem q_lift_none {w : World} {X Y : Int} : Calls Tryd.prog 41 [.agg (nc (X) ++ nc (Y) ++ [Value.bool true]).toArray].toArray w fun e w' => e = .returned (.agg (jc (Wp.lift (none : Wp m0))).toArray) ∧ Below w.heap.size w w' := by
  obtain ⟨one, hone⟩ : ∃ z : Fin m0, z = 1 := ⟨_, rfl⟩
  refine enter (args := [.agg (nc (X) ++ nc (Y) ++ [Value.bool true]).toArray]) Tryd.func41 rfl 18 rfl (lk rfl) (fun a h => ?_)
  refine go_region h hm [eN 1 (nc (X) ++ nc (Y) ++ [Value.bool true]), eN 2 (nz ++ nz ++ nz)] (by kernel_rfl) ⟨
    fun L u => u_box u (gd0 rfl) 26 (.tmp 0) rfl 1 rfl rfl rfl _ rfl,
    fun L u => u_alloc u (gd0 rfl) 55 rfl 2 rfl rfl z55 _ rfl,
    trivial⟩ [(1, .ptr 1 0), (2, .ptr 2 0)] [(1, nc (X) ++ nc (Y) ++ [Value.bool true]), (2, nz ++ nz ++ nz)] ⟨rfl, rfl, trivial⟩ ⟨rfl, rfl, trivial⟩ rfl (fun a w h => ?_)
  refine wp_seq ?_
  refine go_region h hm [eS 3 (.ptr 1 8), eS 4 (.val (Value.bool true)), eS 5 (.val (Value.bool true)), eS 6 (.val undef), eS 7 (.val undef), eS 8 (.val undef), eS 9 (.val (Value.bool true))] (by kernel_rfl) ⟨
    fun L u => u_field u (gd0 rfl) 3 rfl 26 (.tmp 1) 2 rfl rfl rfl Tryd.underlying26 rfl i4 _ rfl,
    fun L u => u_load1 u (gd0 rfl) 4 rfl 4 (.tmp 3) rfl rfl rfl Tryd.underlying4 rfl _ rfl,
    fun L u => u_move u (gd0 rfl) 5 rfl (.tmp 4) (Or.inl rfl) rfl,
    fun L u => u_no u 2 false rfl 5 rfl (lk rfl) rfl 6 rfl,
    fun L u => u_no u 2 false rfl 5 rfl (lk rfl) rfl 7 rfl,
    fun L u => u_no u 2 false rfl 5 rfl (lk rfl) rfl 8 rfl,
    fun L u => u_pick u (gd0 rfl) 9 rfl (.tmp 5) (.const (.bool true)) (.tmp 8) rfl rfl rfl rfl _ rfl,
    trivial⟩ [(1, .ptr 1 0), (2, .ptr 2 0), (9, .val (Value.bool true))] [(1, nc (X) ++ nc (Y) ++ [Value.bool true]), (2, nz ++ nz ++ nz)] ⟨rfl, rfl, rfl, trivial⟩ ⟨rfl, rfl, trivial⟩ rfl (fun a w h => ?_)
  refine go_cond h true rfl (fun ht => ?_) (fun hf => ?_)
  case refine_2 => cases hf
  refine go_region h hm [eS 10 (.val (.agg (fc (one)).toArray)), eS 11 (.val (.agg (nz ++ fc (one) ++ nz).toArray)), eM 2 (nz ++ fc (one) ++ nz)] (by kernel_rfl) ⟨
    fun L u => u_build u (gd0 rfl) 10 rfl 24 #[(0, (.const (.int .u64 1)))] rfl [(0, (Value.int IntKind.u64 1))] rfl (fc (one)) (bN1x hone),
    fun L u => u_build u (gd0 rfl) 11 rfl 55 #[(1, (.tmp 10))] rfl [(1, .agg (fc (one)).toArray)] rfl (nz ++ fc (one) ++ nz) (bQ1 _),
    fun L u => u_store u (gd0 rfl) 55 (.tmp 2) (.tmp 11) rfl rfl rfl (vs := nz ++ fc (one) ++ nz) rfl rfl i55 (lk rfl) rfl _ rfl,
    trivial⟩ [(2, .ptr 2 0)] [(2, nz ++ fc (one) ++ nz)] ⟨rfl, trivial⟩ ⟨rfl, trivial⟩ rfl (fun a w h => ?_)
  refine wp_ret ?_
  refine then_ret ?_
  refine ret_row h 2 55 rfl (lk rfl) 2 rfl (nz ++ fc (one) ++ nz) rfl _ Tryd.underlying55 rfl i55 ?_
  exact ⟨by rw [l_none, hone, nz_fc], h.grows⟩
set_option maxRecDepth 100000 in
set_option maxHeartbeats 4000000 in
theorem q_lift_off {w : World} (hT : Tab w) {X Y : Int} (hX : Num X) (hY : Num Y) (hf0 : fmd X Y false = false) : Calls Tryd.prog 41 [.agg (nc (X) ++ nc (Y) ++ [Value.bool false]).toArray].toArray w fun e w' => e = .returned (.agg (jc (Wp.lift (none : Wp m0))).toArray) ∧ Below w.heap.size w w' := by
  obtain ⟨one, hone⟩ : ∃ z : Fin m0, z = 1 := ⟨_, rfl⟩
  refine enter (args := [.agg (nc (X) ++ nc (Y) ++ [Value.bool false]).toArray]) Tryd.func41 rfl 18 rfl (lk rfl) (fun a h => ?_)
  refine go_region h hm [eN 1 (nc (X) ++ nc (Y) ++ [Value.bool false]), eN 2 (nz ++ nz ++ nz)] (by kernel_rfl) ⟨
    fun L u => u_box u (gd0 rfl) 26 (.tmp 0) rfl 1 rfl rfl rfl _ rfl,
    fun L u => u_alloc u (gd0 rfl) 55 rfl 2 rfl rfl z55 _ rfl,
    trivial⟩ [(1, .ptr 1 0), (2, .ptr 2 0)] [(1, nc (X) ++ nc (Y) ++ [Value.bool false]), (2, nz ++ nz ++ nz)] ⟨rfl, rfl, trivial⟩ ⟨rfl, rfl, trivial⟩ rfl (fun a w h => ?_)
  refine wp_seq ?_
  refine go_region h hm [eS 3 (.ptr 1 8), eS 4 (.val (Value.bool false)), eS 5 (.val (Value.bool false)), eS 6 (.val (.agg (nc (X) ++ nc (Y) ++ [Value.bool false]).toArray)), eS 7 (.val (Value.bool false)), eS 8 (.val (Value.bool true)), eS 9 (.val (Value.bool true))] (by kernel_rfl) ⟨
    fun L u => u_field u (gd0 rfl) 3 rfl 26 (.tmp 1) 2 rfl rfl rfl Tryd.underlying26 rfl i4 _ rfl,
    fun L u => u_load1 u (gd0 rfl) 4 rfl 4 (.tmp 3) rfl rfl rfl Tryd.underlying4 rfl _ rfl,
    fun L u => u_move u (gd0 rfl) 5 rfl (.tmp 4) (Or.inl rfl) rfl,
    fun L u => u_load u (gd1 u 2 false rfl 5 rfl (lk rfl) rfl) 6 rfl 26 (.tmp 1) rfl rfl rfl Tryd.underlying26 rfl i26 (lk rfl) _ rfl,
    fun L u => u_call u (gd1 u 2 false rfl 5 rfl (lk rfl) rfl) 7 rfl 10 #[(.tmp 6)] #[26] rfl [.agg (nc (X) ++ nc (Y) ++ [Value.bool false]).toArray] rfl (cE10 _) (Value.bool false) (fun w hb => by have f := q_Formed (hT.keep (Bs.kp_of hb)) hX hY false; rw [hf0] at f; exact f),
    fun L u => u_not u (gd1 u 2 false rfl 5 rfl (lk rfl) rfl) 8 rfl 4 (.tmp 7) rfl rfl _ rfl,
    fun L u => u_pick u (gd0 rfl) 9 rfl (.tmp 5) (.const (.bool true)) (.tmp 8) rfl rfl rfl rfl _ rfl,
    trivial⟩ [(1, .ptr 1 0), (2, .ptr 2 0), (9, .val (Value.bool true))] [(1, nc (X) ++ nc (Y) ++ [Value.bool false]), (2, nz ++ nz ++ nz)] ⟨rfl, rfl, rfl, trivial⟩ ⟨rfl, rfl, trivial⟩ rfl (fun a w h => ?_)
  refine go_cond h true rfl (fun ht => ?_) (fun hf => ?_)
  case refine_2 => cases hf
  refine go_region h hm [eS 10 (.val (.agg (fc (one)).toArray)), eS 11 (.val (.agg (nz ++ fc (one) ++ nz).toArray)), eM 2 (nz ++ fc (one) ++ nz)] (by kernel_rfl) ⟨
    fun L u => u_build u (gd0 rfl) 10 rfl 24 #[(0, (.const (.int .u64 1)))] rfl [(0, (Value.int IntKind.u64 1))] rfl (fc (one)) (bN1x hone),
    fun L u => u_build u (gd0 rfl) 11 rfl 55 #[(1, (.tmp 10))] rfl [(1, .agg (fc (one)).toArray)] rfl (nz ++ fc (one) ++ nz) (bQ1 _),
    fun L u => u_store u (gd0 rfl) 55 (.tmp 2) (.tmp 11) rfl rfl rfl (vs := nz ++ fc (one) ++ nz) rfl rfl i55 (lk rfl) rfl _ rfl,
    trivial⟩ [(2, .ptr 2 0)] [(2, nz ++ fc (one) ++ nz)] ⟨rfl, trivial⟩ ⟨rfl, trivial⟩ rfl (fun a w h => ?_)
  refine wp_ret ?_
  refine then_ret ?_
  refine ret_row h 2 55 rfl (lk rfl) 2 rfl (nz ++ fc (one) ++ nz) rfl _ Tryd.underlying55 rfl i55 ?_
  exact ⟨by rw [l_none, hone, nz_fc], h.grows⟩
set_option maxRecDepth 100000 in
set_option maxHeartbeats 4000000 in
theorem q_lift_on {w : World} (hT : Tab w) {x y : Fin m0} (hq : y * y = x * x * x - 3 * x + wb) : Calls Tryd.prog 41 [.agg (fc (x) ++ fc (y) ++ [Value.bool false]).toArray].toArray w fun e w' => e = .returned (.agg (jc (Wp.lift (some (x, y)))).toArray) ∧ Below w.heap.size w w' := by
  obtain ⟨one, hone⟩ : ∃ z : Fin m0, z = 1 := ⟨_, rfl⟩
  refine enter (args := [.agg (fc (x) ++ fc (y) ++ [Value.bool false]).toArray]) Tryd.func41 rfl 18 rfl (lk rfl) (fun a h => ?_)
  refine go_region h hm [eN 1 (fc (x) ++ fc (y) ++ [Value.bool false]), eN 2 (nz ++ nz ++ nz)] (by kernel_rfl) ⟨
    fun L u => u_box u (gd0 rfl) 26 (.tmp 0) rfl 1 rfl rfl rfl _ rfl,
    fun L u => u_alloc u (gd0 rfl) 55 rfl 2 rfl rfl z55 _ rfl,
    trivial⟩ [(1, .ptr 1 0), (2, .ptr 2 0)] [(1, fc (x) ++ fc (y) ++ [Value.bool false]), (2, nz ++ nz ++ nz)] ⟨rfl, rfl, trivial⟩ ⟨rfl, rfl, trivial⟩ rfl (fun a w h => ?_)
  refine wp_seq ?_
  refine go_region h hm [eS 3 (.ptr 1 8), eS 4 (.val (Value.bool false)), eS 5 (.val (Value.bool false)), eS 6 (.val (.agg (fc (x) ++ fc (y) ++ [Value.bool false]).toArray)), eS 7 (.val (Value.bool true)), eS 8 (.val (Value.bool false)), eS 9 (.val (Value.bool false))] (by kernel_rfl) ⟨
    fun L u => u_field u (gd0 rfl) 3 rfl 26 (.tmp 1) 2 rfl rfl rfl Tryd.underlying26 rfl i4 _ rfl,
    fun L u => u_load1 u (gd0 rfl) 4 rfl 4 (.tmp 3) rfl rfl rfl Tryd.underlying4 rfl _ rfl,
    fun L u => u_move u (gd0 rfl) 5 rfl (.tmp 4) (Or.inl rfl) rfl,
    fun L u => u_load u (gd1 u 2 false rfl 5 rfl (lk rfl) rfl) 6 rfl 26 (.tmp 1) rfl rfl rfl Tryd.underlying26 rfl i26 (lk rfl) _ rfl,
    fun L u => u_call u (gd1 u 2 false rfl 5 rfl (lk rfl) rfl) 7 rfl 10 #[(.tmp 6)] #[26] rfl [.agg (fc (x) ++ fc (y) ++ [Value.bool false]).toArray] rfl (cE10 _) (Value.bool true) (fun w hb => by have f := q_formed_at (hT.keep (Bs.kp_of hb)) x y; rw [decide_eq_true hq] at f; exact f),
    fun L u => u_not u (gd1 u 2 false rfl 5 rfl (lk rfl) rfl) 8 rfl 4 (.tmp 7) rfl rfl _ rfl,
    fun L u => u_pick u (gd0 rfl) 9 rfl (.tmp 5) (.const (.bool true)) (.tmp 8) rfl rfl rfl rfl _ rfl,
    trivial⟩ [(1, .ptr 1 0), (2, .ptr 2 0), (9, .val (Value.bool false))] [(1, fc (x) ++ fc (y) ++ [Value.bool false]), (2, nz ++ nz ++ nz)] ⟨rfl, rfl, rfl, trivial⟩ ⟨rfl, rfl, trivial⟩ rfl (fun a w h => ?_)
  refine go_cond h false rfl (fun ht => ?_) (fun hf => ?_)
  case refine_1 => cases ht
  refine wp_skip ?_
  refine then_norm ?_
  refine go_region h hm [eS 12 (.ptr 1 0), eS 13 (.val (.agg (fc (x)).toArray)), eS 14 (.ptr 1 4), eS 15 (.val (.agg (fc (y)).toArray)), eS 16 (.val (.agg (fc (one)).toArray)), eS 17 (.val (.agg (fc (x) ++ fc (y) ++ fc (one)).toArray)), eM 2 (fc (x) ++ fc (y) ++ fc (one))] (by kernel_rfl) ⟨
    fun L u => u_field u (gd0 rfl) 12 rfl 26 (.tmp 1) 0 rfl rfl rfl Tryd.underlying26 rfl i24 _ rfl,
    fun L u => u_load u (gd0 rfl) 13 rfl 24 (.tmp 12) rfl rfl rfl Tryd.underlying24 rfl i24 (lk rfl) _ rfl,
    fun L u => u_field u (gd0 rfl) 14 rfl 26 (.tmp 1) 1 rfl rfl rfl Tryd.underlying26 rfl i24 _ rfl,
    fun L u => u_load u (gd0 rfl) 15 rfl 24 (.tmp 14) rfl rfl rfl Tryd.underlying24 rfl i24 (lk rfl) _ rfl,
    fun L u => u_build u (gd0 rfl) 16 rfl 24 #[(0, (.const (.int .u64 1)))] rfl [(0, (Value.int IntKind.u64 1))] rfl (fc (one)) (bN1x hone),
    fun L u => u_build u (gd0 rfl) 17 rfl 55 #[(0, (.tmp 13)), (1, (.tmp 15)), (2, (.tmp 16))] rfl [(0, .agg (fc (x)).toArray), (1, .agg (fc (y)).toArray), (2, .agg (fc (one)).toArray)] rfl (fc (x) ++ fc (y) ++ fc (one)) (bQ3 _ _ _),
    fun L u => u_store u (gd0 rfl) 55 (.tmp 2) (.tmp 17) rfl rfl rfl (vs := fc (x) ++ fc (y) ++ fc (one)) rfl rfl i55 (lk rfl) rfl _ rfl,
    trivial⟩ [(2, .ptr 2 0)] [(2, fc (x) ++ fc (y) ++ fc (one))] ⟨rfl, trivial⟩ ⟨rfl, trivial⟩ rfl (fun a w h => ?_)
  refine wp_ret ?_
  refine ret_row h 2 55 rfl (lk rfl) 2 rfl (fc (x) ++ fc (y) ++ fc (one)) rfl _ Tryd.underlying55 rfl i55 ?_
  exact ⟨by rw [l_some, hone], h.grows⟩
theorem q_lift {w : World} (hT : Tab w) {X Y : Int} (hX : Num X) (hY : Num Y) (t : Bool) : Calls Tryd.prog 41 [.agg (rc X Y t).toArray].toArray w fun e w' => e = .returned (.agg (jc (rp X Y t).lift).toArray) ∧ Below w.heap.size w w' := by
  cases t with
  | true => exact q_lift_none
  | false =>
    by_cases h : X < md 0 ∧ Y < md 0 ∧ (kc Y : Fin m0) * kc Y = kc X * kc X * kc X - 3 * kc X + wb
    · rw [show rp X Y false = some (kc X, kc Y) from if_pos ⟨rfl, h⟩, rc, nc_kc hX.lo h.1, nc_kc hY.lo h.2.1]
      exact q_lift_on hT h.2.2
    · rw [show rp X Y false = none from if_neg (fun hq => h hq.2)]
      exact q_lift_off hT hX hY ((show fmd X Y false = decide (X < md 0 ∧ Y < md 0 ∧ (kc Y : Fin m0) * kc Y = kc X * kc X * kc X - 3 * kc X + wb) from rfl).trans (decide_eq_false h))
theorem q_lift_o {w : World} {one : Fin m0} (hone : one = 1) : Calls Tryd.prog 41 [.agg (nz ++ nz ++ [Value.bool true]).toArray].toArray w fun e w' => e = .returned (.agg (nz ++ fc one ++ nz).toArray) ∧ Below w.heap.size w w' := by
  have h := q_lift_none (w := w) (X := 0) (Y := 0)
  rw [l_none, ← hone, ← nz_fc] at h
  rw [← nz_nc] at h
  exact h
set_option maxRecDepth 100000 in
set_option maxHeartbeats 4000000 in
theorem q_drop {w : World} (hT : Tab w) (x y z : Fin m0) : Calls Tryd.prog 39 [.agg (fc (x) ++ fc (y) ++ fc (z)).toArray].toArray w fun e w' => e = .returned (.agg (pc (nm fiv ⟨x, y, z⟩)).toArray) ∧ Below w.heap.size w w' := by
  by_cases h0 : z = 0
  · skip
    refine enter (args := [.agg (fc (x) ++ fc (y) ++ fc (z)).toArray]) Tryd.func39 rfl 21 rfl (lk rfl) (fun a h => ?_)
    refine go_region h hm [eN 1 (fc (x) ++ fc (y) ++ fc (z)), eN 2 (nz ++ nz ++ [Value.bool false])] (by kernel_rfl) ⟨
      fun L u => u_box u (gd0 rfl) 55 (.tmp 0) rfl 1 rfl rfl rfl _ rfl,
      fun L u => u_alloc u (gd0 rfl) 26 rfl 2 rfl rfl z26 _ rfl,
      trivial⟩ [(1, .ptr 1 0), (2, .ptr 2 0)] [(1, fc (x) ++ fc (y) ++ fc (z)), (2, nz ++ nz ++ [Value.bool false])] ⟨rfl, rfl, trivial⟩ ⟨rfl, rfl, trivial⟩ rfl (fun a w h => ?_)
    refine wp_seq ?_
    refine go_region h hm [eS 4 (.ptr 1 8), eS 5 (.val (.agg (fc (z)).toArray)), eS 6 (.val (.agg (nz).toArray)), eS 7 (.val (Value.bool true))] (by kernel_rfl) ⟨
      fun L u => u_field u (gd0 rfl) 4 rfl 55 (.tmp 1) 2 rfl rfl rfl Tryd.underlying55 rfl i24 _ rfl,
      fun L u => u_load u (gd0 rfl) 5 rfl 24 (.tmp 4) rfl rfl rfl Tryd.underlying24 rfl i24 (lk rfl) _ rfl,
      fun L u => u_build u (gd0 rfl) 6 rfl 24 #[] rfl [] rfl (nz) (bN0),
      fun L u => u_eql u (gd0 rfl) 7 rfl 24 24 (.tmp 5) (.tmp 6) rfl rfl rfl Tryd.eqGuardType24 (true) (eqz_t h0),
      trivial⟩ [(1, .ptr 1 0), (2, .ptr 2 0), (7, .val (Value.bool true))] [(1, fc (x) ++ fc (y) ++ fc (z)), (2, nz ++ nz ++ [Value.bool false])] ⟨rfl, rfl, rfl, trivial⟩ ⟨rfl, rfl, trivial⟩ rfl (fun a w h => ?_)
    refine go_cond h true rfl (fun ht => ?_) (fun hf => ?_)
    case refine_2 => cases hf
    refine go_region h hm [eS 8 (.val (.agg (nz ++ nz ++ [Value.bool true]).toArray)), eM 2 (nz ++ nz ++ [Value.bool true])] (by kernel_rfl) ⟨
      fun L u => u_call u (gd0 rfl) 8 rfl 28 #[] #[] rfl [] rfl (cE28 _) (.agg (nz ++ nz ++ [Value.bool true]).toArray) (fun w hb => q_neutral),
      fun L u => u_store u (gd0 rfl) 26 (.tmp 2) (.tmp 8) rfl rfl rfl (vs := nz ++ nz ++ [Value.bool true]) rfl rfl i26 (lk rfl) rfl _ rfl,
      trivial⟩ [(2, .ptr 2 0)] [(2, nz ++ nz ++ [Value.bool true])] ⟨rfl, trivial⟩ ⟨rfl, trivial⟩ rfl (fun a w h => ?_)
    refine wp_ret ?_
    refine then_ret ?_
    refine ret_row h 2 26 rfl (lk rfl) 2 rfl (nz ++ nz ++ [Value.bool true]) rfl _ Tryd.underlying26 rfl i26 ?_
    exact ⟨by have e : nm fiv (⟨x, y, z⟩ : P3 (Fin m0)) = Wp.o := if_pos h0; rw [e, nz_fc]; rfl, h.grows⟩
  · skip
    refine enter (args := [.agg (fc (x) ++ fc (y) ++ fc (z)).toArray]) Tryd.func39 rfl 21 rfl (lk rfl) (fun a h => ?_)
    refine go_region h hm [eN 1 (fc (x) ++ fc (y) ++ fc (z)), eN 2 (nz ++ nz ++ [Value.bool false])] (by kernel_rfl) ⟨
      fun L u => u_box u (gd0 rfl) 55 (.tmp 0) rfl 1 rfl rfl rfl _ rfl,
      fun L u => u_alloc u (gd0 rfl) 26 rfl 2 rfl rfl z26 _ rfl,
      trivial⟩ [(1, .ptr 1 0), (2, .ptr 2 0)] [(1, fc (x) ++ fc (y) ++ fc (z)), (2, nz ++ nz ++ [Value.bool false])] ⟨rfl, rfl, trivial⟩ ⟨rfl, rfl, trivial⟩ rfl (fun a w h => ?_)
    refine wp_seq ?_
    refine go_region h hm [eS 4 (.ptr 1 8), eS 5 (.val (.agg (fc (z)).toArray)), eS 6 (.val (.agg (nz).toArray)), eS 7 (.val (Value.bool false))] (by kernel_rfl) ⟨
      fun L u => u_field u (gd0 rfl) 4 rfl 55 (.tmp 1) 2 rfl rfl rfl Tryd.underlying55 rfl i24 _ rfl,
      fun L u => u_load u (gd0 rfl) 5 rfl 24 (.tmp 4) rfl rfl rfl Tryd.underlying24 rfl i24 (lk rfl) _ rfl,
      fun L u => u_build u (gd0 rfl) 6 rfl 24 #[] rfl [] rfl (nz) (bN0),
      fun L u => u_eql u (gd0 rfl) 7 rfl 24 24 (.tmp 5) (.tmp 6) rfl rfl rfl Tryd.eqGuardType24 (false) (eqz_f h0),
      trivial⟩ [(1, .ptr 1 0), (2, .ptr 2 0), (7, .val (Value.bool false))] [(1, fc (x) ++ fc (y) ++ fc (z)), (2, nz ++ nz ++ [Value.bool false])] ⟨rfl, rfl, rfl, trivial⟩ ⟨rfl, rfl, trivial⟩ rfl (fun a w h => ?_)
    refine go_cond h false rfl (fun ht => ?_) (fun hf => ?_)
    case refine_1 => cases ht
    refine wp_skip ?_
    refine then_norm ?_
    refine go_region h hm [eS 9 (.ptr 1 8), eS 10 (.val (.agg (fc (z)).toArray)), eS 11 (.val (.agg (fc (fiv (z))).toArray)), eN 3 (nz), eM 3 (fc (fiv (z)))] (by kernel_rfl) ⟨
      fun L u => u_field u (gd0 rfl) 9 rfl 55 (.tmp 1) 2 rfl rfl rfl Tryd.underlying55 rfl i24 _ rfl,
      fun L u => u_load u (gd0 rfl) 10 rfl 24 (.tmp 9) rfl rfl rfl Tryd.underlying24 rfl i24 (lk rfl) _ rfl,
      fun L u => u_call u (gd0 rfl) 11 rfl 62 #[(.const (.int .i64 0)), (.tmp 10)] #[3, 24] rfl [(Value.int IntKind.i64 0), .agg (fc (z)).toArray] rfl (cE62 _) (.agg (fc (fiv (z))).toArray) (fun w hb => c_inv (hT.keep (Bs.kp_of hb)) _),
      fun L u => u_alloc u (gd0 rfl) 24 rfl 3 rfl rfl z24 _ rfl,
      fun L u => u_store u (gd0 rfl) 24 (.tmp 3) (.tmp 11) rfl rfl rfl (vs := fc (fiv (z))) rfl rfl i24 (lk rfl) rfl _ rfl,
      trivial⟩ [(1, .ptr 1 0), (2, .ptr 2 0), (3, .ptr 3 0)] [(1, fc (x) ++ fc (y) ++ fc (z)), (2, nz ++ nz ++ [Value.bool false]), (3, fc (fiv (z)))] ⟨rfl, rfl, rfl, trivial⟩ ⟨rfl, rfl, rfl, trivial⟩ rfl (fun a w h => ?_)
    refine go_region h hm [eS 12 (.ptr 1 0), eS 13 (.val (.agg (fc (x)).toArray)), eS 14 (.val (.agg (fc (fiv (z))).toArray)), eS 15 (.val (.agg (fc (x * (fiv (z)))).toArray)), eS 16 (.ptr 1 4), eS 17 (.val (.agg (fc (y)).toArray)), eS 18 (.val (.agg (fc (fiv (z))).toArray)), eS 19 (.val (.agg (fc (y * (fiv (z)))).toArray)), eS 20 (.val (.agg (fc (x * (fiv (z))) ++ fc (y * (fiv (z))) ++ [Value.bool false]).toArray)), eM 2 (fc (x * (fiv (z))) ++ fc (y * (fiv (z))) ++ [Value.bool false])] (by kernel_rfl) ⟨
      fun L u => u_field u (gd0 rfl) 12 rfl 55 (.tmp 1) 0 rfl rfl rfl Tryd.underlying55 rfl i24 _ rfl,
      fun L u => u_load u (gd0 rfl) 13 rfl 24 (.tmp 12) rfl rfl rfl Tryd.underlying24 rfl i24 (lk rfl) _ rfl,
      fun L u => u_load u (gd0 rfl) 14 rfl 24 (.tmp 3) rfl rfl rfl Tryd.underlying24 rfl i24 (lk rfl) _ rfl,
      fun L u => u_call u (gd0 rfl) 15 rfl 30 #[(.tmp 13), (.tmp 14)] #[24, 24] rfl [.agg (fc (x)).toArray, .agg (fc (fiv (z))).toArray] rfl (cE30 _) (.agg (fc (x * (fiv (z)))).toArray) (fun w hb => q_mul (hT.keep (Bs.kp_of hb)) _ _),
      fun L u => u_field u (gd0 rfl) 16 rfl 55 (.tmp 1) 1 rfl rfl rfl Tryd.underlying55 rfl i24 _ rfl,
      fun L u => u_load u (gd0 rfl) 17 rfl 24 (.tmp 16) rfl rfl rfl Tryd.underlying24 rfl i24 (lk rfl) _ rfl,
      fun L u => u_load u (gd0 rfl) 18 rfl 24 (.tmp 3) rfl rfl rfl Tryd.underlying24 rfl i24 (lk rfl) _ rfl,
      fun L u => u_call u (gd0 rfl) 19 rfl 30 #[(.tmp 17), (.tmp 18)] #[24, 24] rfl [.agg (fc (y)).toArray, .agg (fc (fiv (z))).toArray] rfl (cE30 _) (.agg (fc (y * (fiv (z)))).toArray) (fun w hb => q_mul (hT.keep (Bs.kp_of hb)) _ _),
      fun L u => u_build u (gd0 rfl) 20 rfl 26 #[(0, (.tmp 15)), (1, (.tmp 19))] rfl [(0, .agg (fc (x * (fiv (z)))).toArray), (1, .agg (fc (y * (fiv (z)))).toArray)] rfl (fc (x * (fiv (z))) ++ fc (y * (fiv (z))) ++ [Value.bool false]) (bP _ _),
      fun L u => u_store u (gd0 rfl) 26 (.tmp 2) (.tmp 20) rfl rfl rfl (vs := fc (x * (fiv (z))) ++ fc (y * (fiv (z))) ++ [Value.bool false]) rfl rfl i26 (lk rfl) rfl _ rfl,
      trivial⟩ [(2, .ptr 2 0)] [(2, fc (x * (fiv (z))) ++ fc (y * (fiv (z))) ++ [Value.bool false])] ⟨rfl, trivial⟩ ⟨rfl, trivial⟩ rfl (fun a w h => ?_)
    refine wp_ret ?_
    refine ret_row h 2 26 rfl (lk rfl) 2 rfl (fc (x * (fiv (z))) ++ fc (y * (fiv (z))) ++ [Value.bool false]) rfl _ Tryd.underlying26 rfl i26 ?_
    exact ⟨by have e : nm fiv (⟨x, y, z⟩ : P3 (Fin m0)) = Wp.pt (x * fiv z) (y * fiv z) := if_neg h0; rw [e]; rfl, h.grows⟩
theorem q_bit {w : World} (k i : Nat) (hi : i < 256) : Calls Tryd.prog 66 [.agg (nc (k : Int)).toArray, .int .i64 (i : Int)].toArray w fun e w' => e = .returned (.int .i64 ((k / 2 ^ i % 2 : Nat) : Int)) ∧ Below w.heap.size w w' := by
  have h := bit_any (k : Int) (i : Int) w
  have e : bt (k : Int) (i : Int) = ((k / 2 ^ i % 2 : Nat) : Int) := by
    unfold bt
    rw [if_pos (by omega), Int.toNat_natCast, Int.natCast_emod, Int.natCast_ediv, Int.natCast_pow]
    rfl
  rw [e] at h
  exact h
set_option maxRecDepth 100000 in
set_option maxHeartbeats 4000000 in
theorem q_times {w : World} (hT : Tab w) (k : Nat) (x y z : Fin m0) : Calls Tryd.prog 45 [.agg (nc ((k : Int))).toArray, .agg (fc (x) ++ fc (y) ++ fc (z)).toArray].toArray w fun e w' => e = .returned (.agg (jc (wm k ⟨x, y, z⟩ 256)).toArray) ∧ Below w.heap.size w w' := by
  obtain ⟨one, hone⟩ : ∃ z : Fin m0, z = 1 := ⟨_, rfl⟩
  refine enter (args := [.agg (nc ((k : Int))).toArray, .agg (fc (x) ++ fc (y) ++ fc (z)).toArray]) Tryd.func45 rfl 24 rfl (lk rfl) (fun a h => ?_)
  refine go_region h hm [eN 2 (nc ((k : Int))), eN 3 (fc (x) ++ fc (y) ++ fc (z)), eN 4 (nz ++ nz ++ nz)] (by kernel_rfl) ⟨
    fun L u => u_box u (gd0 rfl) 24 (.tmp 0) rfl 2 rfl rfl rfl _ rfl,
    fun L u => u_box u (gd0 rfl) 55 (.tmp 1) rfl 3 rfl rfl rfl _ rfl,
    fun L u => u_alloc u (gd0 rfl) 55 rfl 4 rfl rfl z55 _ rfl,
    trivial⟩ [(2, .ptr 2 0), (3, .ptr 3 0), (4, .ptr 4 0)] [(2, nc ((k : Int))), (3, fc (x) ++ fc (y) ++ fc (z)), (4, nz ++ nz ++ nz)] ⟨rfl, rfl, rfl, trivial⟩ ⟨rfl, rfl, rfl, trivial⟩ rfl (fun a w h => ?_)
  refine go_region h hm [eS 7 (.val (.agg (nz ++ nz ++ [Value.bool true]).toArray)), eS 8 (.val (.agg (nz ++ fc (one) ++ nz).toArray)), eN 5 (nz ++ nz ++ nz), eM 5 (nz ++ fc (one) ++ nz)] (by kernel_rfl) ⟨
    fun L u => u_call u (gd0 rfl) 7 rfl 28 #[] #[] rfl [] rfl (cE28 _) (.agg (nz ++ nz ++ [Value.bool true]).toArray) (fun w hb => q_neutral),
    fun L u => u_call u (gd0 rfl) 8 rfl 41 #[(.tmp 7)] #[26] rfl [.agg (nz ++ nz ++ [Value.bool true]).toArray] rfl (cE41 _) (.agg (nz ++ fc (one) ++ nz).toArray) (fun w hb => q_lift_o hone),
    fun L u => u_alloc u (gd0 rfl) 55 rfl 5 rfl rfl z55 _ rfl,
    fun L u => u_store u (gd0 rfl) 55 (.tmp 5) (.tmp 8) rfl rfl rfl (vs := nz ++ fc (one) ++ nz) rfl rfl i55 (lk rfl) rfl _ rfl,
    trivial⟩ [(2, .ptr 2 0), (3, .ptr 3 0), (4, .ptr 4 0), (5, .ptr 5 0)] [(2, nc ((k : Int))), (3, fc (x) ++ fc (y) ++ fc (z)), (4, nz ++ nz ++ nz), (5, nz ++ fc (one) ++ nz)] ⟨rfl, rfl, rfl, rfl, trivial⟩ ⟨rfl, rfl, rfl, rfl, trivial⟩ rfl (fun a w h => ?_)
  refine wp_seq ?_
  refine go_region h hm [eS 6 (.val ((Value.int IntKind.i64 255)))] (by kernel_rfl) ⟨
    fun L u => u_move u (gd0 rfl) 6 rfl (.const (.int .i64 255)) (Or.inr rfl) rfl,
    trivial⟩ [(2, .ptr 2 0), (3, .ptr 3 0), (4, .ptr 4 0), (5, .ptr 5 0), (6, .val ((Value.int IntKind.i64 255)))] [(2, nc ((k : Int))), (3, fc (x) ++ fc (y) ++ fc (z)), (4, nz ++ nz ++ nz), (5, nz ++ fc (one) ++ nz)] ⟨rfl, rfl, rfl, rfl, rfl, trivial⟩ ⟨rfl, rfl, rfl, rfl, trivial⟩ rfl (fun a w h => ?_)
  refine wp_block ?_
  refine go_loop (fun (j : Nat) => SS.mk' [(2, .ptr 2 0), (3, .ptr 3 0), (4, .ptr 4 0), (5, .ptr 5 0), (6, .val (Value.int .i64 (255 - ((j : Nat) : Int))))] [(2, nc ((k : Int))), (3, fc (x) ++ fc (y) ++ fc (z)), (4, nz ++ nz ++ nz), (5, fc ((wm k ⟨x, y, z⟩ (j)).x) ++ fc ((wm k ⟨x, y, z⟩ (j)).y) ++ fc ((wm k ⟨x, y, z⟩ (j)).z))]) (fun j => j ≤ 256) (fun j => 256 - j) (i := 0) (h.keep [(2, .ptr 2 0), (3, .ptr 3 0), (4, .ptr 4 0), (5, .ptr 5 0), (6, .val (Value.int .i64 (255 - ((0 : Nat) : Int))))] [(2, nc ((k : Int))), (3, fc (x) ++ fc (y) ++ fc (z)), (4, nz ++ nz ++ nz), (5, fc ((wm k ⟨x, y, z⟩ (0)).x) ++ fc ((wm k ⟨x, y, z⟩ (0)).y) ++ fc ((wm k ⟨x, y, z⟩ (0)).z))] ⟨rfl, rfl, rfl, rfl, rfl, trivial⟩ ⟨rfl, rfl, rfl, (by rw [hone, nz_fc]; rfl), trivial⟩ rfl) (Nat.zero_le _) (fun j a w hG h => ?_)
  by_cases hs : j < 256
  · skip
    by_cases hb : k / 2 ^ (255 - j) % 2 = 1
    · skip
      refine wp_seq ?_
      refine go_region h hm [eS 9 (.val (Value.int .i64 (255 - ((j : Nat) : Int)))), eS 10 (.val (Value.bool true))] (by kernel_rfl) ⟨
        fun L u => u_move u (gd0 rfl) 9 rfl (.tmp 6) (Or.inl rfl) rfl,
        fun L u => u_bin u (gd0 rfl) 10 rfl .geq 3 3 (.tmp 9) (.const (.int .i64 0)) rfl rfl rfl (eqg_int _ _ _ _ _ _ _ _) (Value.bool true) (yes_of (fun w => i_geq _ _ _ _ w) (by omega)),
        trivial⟩ [(2, .ptr 2 0), (3, .ptr 3 0), (4, .ptr 4 0), (5, .ptr 5 0), (6, .val (Value.int .i64 (255 - ((j : Nat) : Int)))), (10, .val (Value.bool true))] [(2, nc ((k : Int))), (3, fc (x) ++ fc (y) ++ fc (z)), (4, nz ++ nz ++ nz), (5, fc ((wm k ⟨x, y, z⟩ (j)).x) ++ fc ((wm k ⟨x, y, z⟩ (j)).y) ++ fc ((wm k ⟨x, y, z⟩ (j)).z))] ⟨rfl, rfl, rfl, rfl, rfl, rfl, trivial⟩ ⟨rfl, rfl, rfl, rfl, trivial⟩ rfl (fun a w h => ?_)
      refine go_cond h true rfl (fun ht => ?_) (fun hf => ?_)
      case refine_2 => cases hf
      refine wp_skip ?_
      refine then_norm ?_
      refine wp_seq ?_
      refine wp_block ?_
      refine go_region h hm [eS 13 (.val (.agg (fc ((wm k ⟨x, y, z⟩ (j)).x) ++ fc ((wm k ⟨x, y, z⟩ (j)).y) ++ fc ((wm k ⟨x, y, z⟩ (j)).z)).toArray)), eS 14 (.val (.agg (fc ((wm k ⟨x, y, z⟩ (j)).x) ++ fc ((wm k ⟨x, y, z⟩ (j)).y) ++ fc ((wm k ⟨x, y, z⟩ (j)).z)).toArray)), eS 15 (.val (.agg (fc ((wa wb (wm k ⟨x, y, z⟩ (j)) (wm k ⟨x, y, z⟩ (j))).x) ++ fc ((wa wb (wm k ⟨x, y, z⟩ (j)) (wm k ⟨x, y, z⟩ (j))).y) ++ fc ((wa wb (wm k ⟨x, y, z⟩ (j)) (wm k ⟨x, y, z⟩ (j))).z)).toArray)), eM 5 (fc ((wa wb (wm k ⟨x, y, z⟩ (j)) (wm k ⟨x, y, z⟩ (j))).x) ++ fc ((wa wb (wm k ⟨x, y, z⟩ (j)) (wm k ⟨x, y, z⟩ (j))).y) ++ fc ((wa wb (wm k ⟨x, y, z⟩ (j)) (wm k ⟨x, y, z⟩ (j))).z))] (by kernel_rfl) ⟨
        fun L u => u_load u (gd0 rfl) 13 rfl 55 (.tmp 5) rfl rfl rfl Tryd.underlying55 rfl i55 (lk rfl) _ rfl,
        fun L u => u_load u (gd0 rfl) 14 rfl 55 (.tmp 5) rfl rfl rfl Tryd.underlying55 rfl i55 (lk rfl) _ rfl,
        fun L u => u_call u (gd0 rfl) 15 rfl 40 #[(.tmp 13), (.tmp 14)] #[55, 55] rfl [.agg (fc ((wm k ⟨x, y, z⟩ (j)).x) ++ fc ((wm k ⟨x, y, z⟩ (j)).y) ++ fc ((wm k ⟨x, y, z⟩ (j)).z)).toArray, .agg (fc ((wm k ⟨x, y, z⟩ (j)).x) ++ fc ((wm k ⟨x, y, z⟩ (j)).y) ++ fc ((wm k ⟨x, y, z⟩ (j)).z)).toArray] rfl (cE40 _) (.agg (fc ((wa wb (wm k ⟨x, y, z⟩ (j)) (wm k ⟨x, y, z⟩ (j))).x) ++ fc ((wa wb (wm k ⟨x, y, z⟩ (j)) (wm k ⟨x, y, z⟩ (j))).y) ++ fc ((wa wb (wm k ⟨x, y, z⟩ (j)) (wm k ⟨x, y, z⟩ (j))).z)).toArray) (fun w hb => q_plus (hT.keep (Bs.kp_of hb)) _ _ _ _ _ _),
        fun L u => u_store u (gd0 rfl) 55 (.tmp 5) (.tmp 15) rfl rfl rfl (vs := fc ((wa wb (wm k ⟨x, y, z⟩ (j)) (wm k ⟨x, y, z⟩ (j))).x) ++ fc ((wa wb (wm k ⟨x, y, z⟩ (j)) (wm k ⟨x, y, z⟩ (j))).y) ++ fc ((wa wb (wm k ⟨x, y, z⟩ (j)) (wm k ⟨x, y, z⟩ (j))).z)) rfl rfl i55 (lk rfl) rfl _ rfl,
        trivial⟩ [(2, .ptr 2 0), (3, .ptr 3 0), (4, .ptr 4 0), (5, .ptr 5 0), (6, .val (Value.int .i64 (255 - ((j : Nat) : Int))))] [(2, nc ((k : Int))), (3, fc (x) ++ fc (y) ++ fc (z)), (4, nz ++ nz ++ nz), (5, fc ((wa wb (wm k ⟨x, y, z⟩ (j)) (wm k ⟨x, y, z⟩ (j))).x) ++ fc ((wa wb (wm k ⟨x, y, z⟩ (j)) (wm k ⟨x, y, z⟩ (j))).y) ++ fc ((wa wb (wm k ⟨x, y, z⟩ (j)) (wm k ⟨x, y, z⟩ (j))).z))] ⟨rfl, rfl, rfl, rfl, rfl, trivial⟩ ⟨rfl, rfl, rfl, rfl, trivial⟩ rfl (fun a w h => ?_)
      refine go_region h hm [eS 16 (.val (.agg (nc ((k : Int))).toArray)), eS 17 (.val (Value.int .i64 (255 - ((j : Nat) : Int)))), eS 18 (.val (Value.int .i64 ((k / 2 ^ (255 - j) % 2 : Nat) : Int))), eS 19 (.val (Value.bool true))] (by kernel_rfl) ⟨
        fun L u => u_load u (gd0 rfl) 16 rfl 24 (.tmp 2) rfl rfl rfl Tryd.underlying24 rfl i24 (lk rfl) _ rfl,
        fun L u => u_move u (gd0 rfl) 17 rfl (.tmp 6) (Or.inl rfl) rfl,
        fun L u => u_call u (gd0 rfl) 18 rfl 66 #[(.tmp 16), (.tmp 17)] #[24, 3] rfl [.agg (nc ((k : Int))).toArray, Value.int .i64 (255 - ((j : Nat) : Int))] rfl (cE66 _) (Value.int .i64 ((k / 2 ^ (255 - j) % 2 : Nat) : Int)) (fun w hb => by have := q_bit (w := w) k (255 - j) (by omega); rw [show (((255 - j : Nat)) : Int) = 255 - (j : Int) by omega] at this; exact this),
        fun L u => u_bin u (gd0 rfl) 19 rfl .eql 3 3 (.tmp 18) (.const (.int .i64 1)) rfl rfl rfl (eqg_int _ _ _ _ _ _ _ _) (Value.bool true) (yes_of (fun w => i_eql _ _ _ _ w) (by omega)),
        trivial⟩ [(2, .ptr 2 0), (3, .ptr 3 0), (4, .ptr 4 0), (5, .ptr 5 0), (6, .val (Value.int .i64 (255 - ((j : Nat) : Int)))), (19, .val (Value.bool true))] [(2, nc ((k : Int))), (3, fc (x) ++ fc (y) ++ fc (z)), (4, nz ++ nz ++ nz), (5, fc ((wa wb (wm k ⟨x, y, z⟩ (j)) (wm k ⟨x, y, z⟩ (j))).x) ++ fc ((wa wb (wm k ⟨x, y, z⟩ (j)) (wm k ⟨x, y, z⟩ (j))).y) ++ fc ((wa wb (wm k ⟨x, y, z⟩ (j)) (wm k ⟨x, y, z⟩ (j))).z))] ⟨rfl, rfl, rfl, rfl, rfl, rfl, trivial⟩ ⟨rfl, rfl, rfl, rfl, trivial⟩ rfl (fun a w h => ?_)
      refine go_cond h true rfl (fun ht => ?_) (fun hf => ?_)
      case refine_2 => cases hf
      refine go_end h hm [eS 20 (.val (.agg (fc ((wa wb (wm k ⟨x, y, z⟩ (j)) (wm k ⟨x, y, z⟩ (j))).x) ++ fc ((wa wb (wm k ⟨x, y, z⟩ (j)) (wm k ⟨x, y, z⟩ (j))).y) ++ fc ((wa wb (wm k ⟨x, y, z⟩ (j)) (wm k ⟨x, y, z⟩ (j))).z)).toArray)), eS 21 (.val (.agg (fc (x) ++ fc (y) ++ fc (z)).toArray)), eS 22 (.val (.agg (fc ((wa wb (wa wb (wm k ⟨x, y, z⟩ (j)) (wm k ⟨x, y, z⟩ (j))) (⟨x, y, z⟩)).x) ++ fc ((wa wb (wa wb (wm k ⟨x, y, z⟩ (j)) (wm k ⟨x, y, z⟩ (j))) (⟨x, y, z⟩)).y) ++ fc ((wa wb (wa wb (wm k ⟨x, y, z⟩ (j)) (wm k ⟨x, y, z⟩ (j))) (⟨x, y, z⟩)).z)).toArray)), eM 5 (fc ((wa wb (wa wb (wm k ⟨x, y, z⟩ (j)) (wm k ⟨x, y, z⟩ (j))) (⟨x, y, z⟩)).x) ++ fc ((wa wb (wa wb (wm k ⟨x, y, z⟩ (j)) (wm k ⟨x, y, z⟩ (j))) (⟨x, y, z⟩)).y) ++ fc ((wa wb (wa wb (wm k ⟨x, y, z⟩ (j)) (wm k ⟨x, y, z⟩ (j))) (⟨x, y, z⟩)).z))] (by kernel_rfl) ⟨
        fun L u => u_load u (gd0 rfl) 20 rfl 55 (.tmp 5) rfl rfl rfl Tryd.underlying55 rfl i55 (lk rfl) _ rfl,
        fun L u => u_load u (gd0 rfl) 21 rfl 55 (.tmp 3) rfl rfl rfl Tryd.underlying55 rfl i55 (lk rfl) _ rfl,
        fun L u => u_call u (gd0 rfl) 22 rfl 40 #[(.tmp 20), (.tmp 21)] #[55, 55] rfl [.agg (fc ((wa wb (wm k ⟨x, y, z⟩ (j)) (wm k ⟨x, y, z⟩ (j))).x) ++ fc ((wa wb (wm k ⟨x, y, z⟩ (j)) (wm k ⟨x, y, z⟩ (j))).y) ++ fc ((wa wb (wm k ⟨x, y, z⟩ (j)) (wm k ⟨x, y, z⟩ (j))).z)).toArray, .agg (fc (x) ++ fc (y) ++ fc (z)).toArray] rfl (cE40 _) (.agg (fc ((wa wb (wa wb (wm k ⟨x, y, z⟩ (j)) (wm k ⟨x, y, z⟩ (j))) (⟨x, y, z⟩)).x) ++ fc ((wa wb (wa wb (wm k ⟨x, y, z⟩ (j)) (wm k ⟨x, y, z⟩ (j))) (⟨x, y, z⟩)).y) ++ fc ((wa wb (wa wb (wm k ⟨x, y, z⟩ (j)) (wm k ⟨x, y, z⟩ (j))) (⟨x, y, z⟩)).z)).toArray) (fun w hb => q_plus (hT.keep (Bs.kp_of hb)) _ _ _ _ _ _),
        fun L u => u_store u (gd0 rfl) 55 (.tmp 5) (.tmp 22) rfl rfl rfl (vs := fc ((wa wb (wa wb (wm k ⟨x, y, z⟩ (j)) (wm k ⟨x, y, z⟩ (j))) (⟨x, y, z⟩)).x) ++ fc ((wa wb (wa wb (wm k ⟨x, y, z⟩ (j)) (wm k ⟨x, y, z⟩ (j))) (⟨x, y, z⟩)).y) ++ fc ((wa wb (wa wb (wm k ⟨x, y, z⟩ (j)) (wm k ⟨x, y, z⟩ (j))) (⟨x, y, z⟩)).z)) rfl rfl i55 (lk rfl) rfl _ rfl,
        trivial⟩ [(2, .ptr 2 0), (3, .ptr 3 0), (4, .ptr 4 0), (5, .ptr 5 0), (6, .val (Value.int .i64 (255 - ((j : Nat) : Int))))] [(2, nc ((k : Int))), (3, fc (x) ++ fc (y) ++ fc (z)), (4, nz ++ nz ++ nz), (5, fc ((wa wb (wa wb (wm k ⟨x, y, z⟩ (j)) (wm k ⟨x, y, z⟩ (j))) (⟨x, y, z⟩)).x) ++ fc ((wa wb (wa wb (wm k ⟨x, y, z⟩ (j)) (wm k ⟨x, y, z⟩ (j))) (⟨x, y, z⟩)).y) ++ fc ((wa wb (wa wb (wm k ⟨x, y, z⟩ (j)) (wm k ⟨x, y, z⟩ (j))) (⟨x, y, z⟩)).z))] ⟨rfl, rfl, rfl, rfl, rfl, trivial⟩ ⟨rfl, rfl, rfl, rfl, trivial⟩ rfl (fun a w h => ?_)
      refine blk_norm ?_
      refine then_norm ?_
      refine go_end h hm [eS 11 (.val (Value.int .i64 (255 - ((j : Nat) : Int)))), eS 12 (.val (Value.int .i64 (255 - ((j + 1 : Nat) : Int)))), eS 6 (.val (Value.int .i64 (255 - ((j + 1 : Nat) : Int))))] (by kernel_rfl) ⟨
        fun L u => u_move u (gd0 rfl) 11 rfl (.tmp 6) (Or.inl rfl) rfl,
        fun L u => u_bin u (gd0 rfl) 12 rfl .sub 3 3 (.tmp 11) (.const (.int .i64 1)) rfl rfl rfl (eqg_int _ _ _ _ _ _ _ _) (Value.int .i64 (255 - ((j + 1 : Nat) : Int))) (fun w => i_sub _ _ _ _ (by omega) (by omega) w),
        fun L u => u_move u (gd0 rfl) 6 rfl (.tmp 12) (Or.inr rfl) rfl,
        trivial⟩ [(2, .ptr 2 0), (3, .ptr 3 0), (4, .ptr 4 0), (5, .ptr 5 0), (6, .val (Value.int .i64 (255 - ((j + 1 : Nat) : Int))))] [(2, nc ((k : Int))), (3, fc (x) ++ fc (y) ++ fc (z)), (4, nz ++ nz ++ nz), (5, fc ((wa wb (wa wb (wm k ⟨x, y, z⟩ (j)) (wm k ⟨x, y, z⟩ (j))) (⟨x, y, z⟩)).x) ++ fc ((wa wb (wa wb (wm k ⟨x, y, z⟩ (j)) (wm k ⟨x, y, z⟩ (j))) (⟨x, y, z⟩)).y) ++ fc ((wa wb (wa wb (wm k ⟨x, y, z⟩ (j)) (wm k ⟨x, y, z⟩ (j))) (⟨x, y, z⟩)).z))] ⟨rfl, rfl, rfl, rfl, rfl, trivial⟩ ⟨rfl, rfl, rfl, rfl, trivial⟩ rfl (fun a w h => ?_)
      refine then_norm ?_
      exact ⟨j + 1, (by omega), (by omega), h.keep [(2, .ptr 2 0), (3, .ptr 3 0), (4, .ptr 4 0), (5, .ptr 5 0), (6, .val (Value.int .i64 (255 - ((j + 1 : Nat) : Int))))] [(2, nc ((k : Int))), (3, fc (x) ++ fc (y) ++ fc (z)), (4, nz ++ nz ++ nz), (5, fc ((wm k ⟨x, y, z⟩ (j + 1)).x) ++ fc ((wm k ⟨x, y, z⟩ (j + 1)).y) ++ fc ((wm k ⟨x, y, z⟩ (j + 1)).z))] ⟨rfl, rfl, rfl, rfl, rfl, trivial⟩ ⟨rfl, rfl, rfl, (congrArg (fun p : P3 (Fin m0) => some (fc p.x ++ fc p.y ++ fc p.z)) (show wm k ⟨x, y, z⟩ (j + 1) = _ from if_pos hb).symm), trivial⟩ rfl⟩
    · skip
      refine wp_seq ?_
      refine go_region h hm [eS 9 (.val (Value.int .i64 (255 - ((j : Nat) : Int)))), eS 10 (.val (Value.bool true))] (by kernel_rfl) ⟨
        fun L u => u_move u (gd0 rfl) 9 rfl (.tmp 6) (Or.inl rfl) rfl,
        fun L u => u_bin u (gd0 rfl) 10 rfl .geq 3 3 (.tmp 9) (.const (.int .i64 0)) rfl rfl rfl (eqg_int _ _ _ _ _ _ _ _) (Value.bool true) (yes_of (fun w => i_geq _ _ _ _ w) (by omega)),
        trivial⟩ [(2, .ptr 2 0), (3, .ptr 3 0), (4, .ptr 4 0), (5, .ptr 5 0), (6, .val (Value.int .i64 (255 - ((j : Nat) : Int)))), (10, .val (Value.bool true))] [(2, nc ((k : Int))), (3, fc (x) ++ fc (y) ++ fc (z)), (4, nz ++ nz ++ nz), (5, fc ((wm k ⟨x, y, z⟩ (j)).x) ++ fc ((wm k ⟨x, y, z⟩ (j)).y) ++ fc ((wm k ⟨x, y, z⟩ (j)).z))] ⟨rfl, rfl, rfl, rfl, rfl, rfl, trivial⟩ ⟨rfl, rfl, rfl, rfl, trivial⟩ rfl (fun a w h => ?_)
      refine go_cond h true rfl (fun ht => ?_) (fun hf => ?_)
      case refine_2 => cases hf
      refine wp_skip ?_
      refine then_norm ?_
      refine wp_seq ?_
      refine wp_block ?_
      refine go_region h hm [eS 13 (.val (.agg (fc ((wm k ⟨x, y, z⟩ (j)).x) ++ fc ((wm k ⟨x, y, z⟩ (j)).y) ++ fc ((wm k ⟨x, y, z⟩ (j)).z)).toArray)), eS 14 (.val (.agg (fc ((wm k ⟨x, y, z⟩ (j)).x) ++ fc ((wm k ⟨x, y, z⟩ (j)).y) ++ fc ((wm k ⟨x, y, z⟩ (j)).z)).toArray)), eS 15 (.val (.agg (fc ((wa wb (wm k ⟨x, y, z⟩ (j)) (wm k ⟨x, y, z⟩ (j))).x) ++ fc ((wa wb (wm k ⟨x, y, z⟩ (j)) (wm k ⟨x, y, z⟩ (j))).y) ++ fc ((wa wb (wm k ⟨x, y, z⟩ (j)) (wm k ⟨x, y, z⟩ (j))).z)).toArray)), eM 5 (fc ((wa wb (wm k ⟨x, y, z⟩ (j)) (wm k ⟨x, y, z⟩ (j))).x) ++ fc ((wa wb (wm k ⟨x, y, z⟩ (j)) (wm k ⟨x, y, z⟩ (j))).y) ++ fc ((wa wb (wm k ⟨x, y, z⟩ (j)) (wm k ⟨x, y, z⟩ (j))).z))] (by kernel_rfl) ⟨
        fun L u => u_load u (gd0 rfl) 13 rfl 55 (.tmp 5) rfl rfl rfl Tryd.underlying55 rfl i55 (lk rfl) _ rfl,
        fun L u => u_load u (gd0 rfl) 14 rfl 55 (.tmp 5) rfl rfl rfl Tryd.underlying55 rfl i55 (lk rfl) _ rfl,
        fun L u => u_call u (gd0 rfl) 15 rfl 40 #[(.tmp 13), (.tmp 14)] #[55, 55] rfl [.agg (fc ((wm k ⟨x, y, z⟩ (j)).x) ++ fc ((wm k ⟨x, y, z⟩ (j)).y) ++ fc ((wm k ⟨x, y, z⟩ (j)).z)).toArray, .agg (fc ((wm k ⟨x, y, z⟩ (j)).x) ++ fc ((wm k ⟨x, y, z⟩ (j)).y) ++ fc ((wm k ⟨x, y, z⟩ (j)).z)).toArray] rfl (cE40 _) (.agg (fc ((wa wb (wm k ⟨x, y, z⟩ (j)) (wm k ⟨x, y, z⟩ (j))).x) ++ fc ((wa wb (wm k ⟨x, y, z⟩ (j)) (wm k ⟨x, y, z⟩ (j))).y) ++ fc ((wa wb (wm k ⟨x, y, z⟩ (j)) (wm k ⟨x, y, z⟩ (j))).z)).toArray) (fun w hb => q_plus (hT.keep (Bs.kp_of hb)) _ _ _ _ _ _),
        fun L u => u_store u (gd0 rfl) 55 (.tmp 5) (.tmp 15) rfl rfl rfl (vs := fc ((wa wb (wm k ⟨x, y, z⟩ (j)) (wm k ⟨x, y, z⟩ (j))).x) ++ fc ((wa wb (wm k ⟨x, y, z⟩ (j)) (wm k ⟨x, y, z⟩ (j))).y) ++ fc ((wa wb (wm k ⟨x, y, z⟩ (j)) (wm k ⟨x, y, z⟩ (j))).z)) rfl rfl i55 (lk rfl) rfl _ rfl,
        trivial⟩ [(2, .ptr 2 0), (3, .ptr 3 0), (4, .ptr 4 0), (5, .ptr 5 0), (6, .val (Value.int .i64 (255 - ((j : Nat) : Int))))] [(2, nc ((k : Int))), (3, fc (x) ++ fc (y) ++ fc (z)), (4, nz ++ nz ++ nz), (5, fc ((wa wb (wm k ⟨x, y, z⟩ (j)) (wm k ⟨x, y, z⟩ (j))).x) ++ fc ((wa wb (wm k ⟨x, y, z⟩ (j)) (wm k ⟨x, y, z⟩ (j))).y) ++ fc ((wa wb (wm k ⟨x, y, z⟩ (j)) (wm k ⟨x, y, z⟩ (j))).z))] ⟨rfl, rfl, rfl, rfl, rfl, trivial⟩ ⟨rfl, rfl, rfl, rfl, trivial⟩ rfl (fun a w h => ?_)
      refine go_region h hm [eS 16 (.val (.agg (nc ((k : Int))).toArray)), eS 17 (.val (Value.int .i64 (255 - ((j : Nat) : Int)))), eS 18 (.val (Value.int .i64 ((k / 2 ^ (255 - j) % 2 : Nat) : Int))), eS 19 (.val (Value.bool false))] (by kernel_rfl) ⟨
        fun L u => u_load u (gd0 rfl) 16 rfl 24 (.tmp 2) rfl rfl rfl Tryd.underlying24 rfl i24 (lk rfl) _ rfl,
        fun L u => u_move u (gd0 rfl) 17 rfl (.tmp 6) (Or.inl rfl) rfl,
        fun L u => u_call u (gd0 rfl) 18 rfl 66 #[(.tmp 16), (.tmp 17)] #[24, 3] rfl [.agg (nc ((k : Int))).toArray, Value.int .i64 (255 - ((j : Nat) : Int))] rfl (cE66 _) (Value.int .i64 ((k / 2 ^ (255 - j) % 2 : Nat) : Int)) (fun w hb => by have := q_bit (w := w) k (255 - j) (by omega); rw [show (((255 - j : Nat)) : Int) = 255 - (j : Int) by omega] at this; exact this),
        fun L u => u_bin u (gd0 rfl) 19 rfl .eql 3 3 (.tmp 18) (.const (.int .i64 1)) rfl rfl rfl (eqg_int _ _ _ _ _ _ _ _) (Value.bool false) (no_of (fun w => i_eql _ _ _ _ w) (by omega)),
        trivial⟩ [(2, .ptr 2 0), (3, .ptr 3 0), (4, .ptr 4 0), (5, .ptr 5 0), (6, .val (Value.int .i64 (255 - ((j : Nat) : Int)))), (19, .val (Value.bool false))] [(2, nc ((k : Int))), (3, fc (x) ++ fc (y) ++ fc (z)), (4, nz ++ nz ++ nz), (5, fc ((wa wb (wm k ⟨x, y, z⟩ (j)) (wm k ⟨x, y, z⟩ (j))).x) ++ fc ((wa wb (wm k ⟨x, y, z⟩ (j)) (wm k ⟨x, y, z⟩ (j))).y) ++ fc ((wa wb (wm k ⟨x, y, z⟩ (j)) (wm k ⟨x, y, z⟩ (j))).z))] ⟨rfl, rfl, rfl, rfl, rfl, rfl, trivial⟩ ⟨rfl, rfl, rfl, rfl, trivial⟩ rfl (fun a w h => ?_)
      refine go_cond h false rfl (fun ht => ?_) (fun hf => ?_)
      case refine_1 => cases ht
      refine wp_skip ?_
      refine blk_norm ?_
      refine then_norm ?_
      refine go_end h hm [eS 11 (.val (Value.int .i64 (255 - ((j : Nat) : Int)))), eS 12 (.val (Value.int .i64 (255 - ((j + 1 : Nat) : Int)))), eS 6 (.val (Value.int .i64 (255 - ((j + 1 : Nat) : Int))))] (by kernel_rfl) ⟨
        fun L u => u_move u (gd0 rfl) 11 rfl (.tmp 6) (Or.inl rfl) rfl,
        fun L u => u_bin u (gd0 rfl) 12 rfl .sub 3 3 (.tmp 11) (.const (.int .i64 1)) rfl rfl rfl (eqg_int _ _ _ _ _ _ _ _) (Value.int .i64 (255 - ((j + 1 : Nat) : Int))) (fun w => i_sub _ _ _ _ (by omega) (by omega) w),
        fun L u => u_move u (gd0 rfl) 6 rfl (.tmp 12) (Or.inr rfl) rfl,
        trivial⟩ [(2, .ptr 2 0), (3, .ptr 3 0), (4, .ptr 4 0), (5, .ptr 5 0), (6, .val (Value.int .i64 (255 - ((j + 1 : Nat) : Int))))] [(2, nc ((k : Int))), (3, fc (x) ++ fc (y) ++ fc (z)), (4, nz ++ nz ++ nz), (5, fc ((wa wb (wm k ⟨x, y, z⟩ (j)) (wm k ⟨x, y, z⟩ (j))).x) ++ fc ((wa wb (wm k ⟨x, y, z⟩ (j)) (wm k ⟨x, y, z⟩ (j))).y) ++ fc ((wa wb (wm k ⟨x, y, z⟩ (j)) (wm k ⟨x, y, z⟩ (j))).z))] ⟨rfl, rfl, rfl, rfl, rfl, trivial⟩ ⟨rfl, rfl, rfl, rfl, trivial⟩ rfl (fun a w h => ?_)
      refine then_norm ?_
      exact ⟨j + 1, (by omega), (by omega), h.keep [(2, .ptr 2 0), (3, .ptr 3 0), (4, .ptr 4 0), (5, .ptr 5 0), (6, .val (Value.int .i64 (255 - ((j + 1 : Nat) : Int))))] [(2, nc ((k : Int))), (3, fc (x) ++ fc (y) ++ fc (z)), (4, nz ++ nz ++ nz), (5, fc ((wm k ⟨x, y, z⟩ (j + 1)).x) ++ fc ((wm k ⟨x, y, z⟩ (j + 1)).y) ++ fc ((wm k ⟨x, y, z⟩ (j + 1)).z))] ⟨rfl, rfl, rfl, rfl, rfl, trivial⟩ ⟨rfl, rfl, rfl, (congrArg (fun p : P3 (Fin m0) => some (fc p.x ++ fc p.y ++ fc p.z)) (show wm k ⟨x, y, z⟩ (j + 1) = _ from if_neg hb).symm), trivial⟩ rfl⟩
  · skip
    refine wp_seq ?_
    refine go_region h hm [eS 9 (.val (Value.int .i64 (255 - ((j : Nat) : Int)))), eS 10 (.val (Value.bool false))] (by kernel_rfl) ⟨
      fun L u => u_move u (gd0 rfl) 9 rfl (.tmp 6) (Or.inl rfl) rfl,
      fun L u => u_bin u (gd0 rfl) 10 rfl .geq 3 3 (.tmp 9) (.const (.int .i64 0)) rfl rfl rfl (eqg_int _ _ _ _ _ _ _ _) (Value.bool false) (no_of (fun w => i_geq _ _ _ _ w) (by omega)),
      trivial⟩ [(2, .ptr 2 0), (3, .ptr 3 0), (4, .ptr 4 0), (5, .ptr 5 0), (6, .val (Value.int .i64 (255 - ((j : Nat) : Int)))), (10, .val (Value.bool false))] [(2, nc ((k : Int))), (3, fc (x) ++ fc (y) ++ fc (z)), (4, nz ++ nz ++ nz), (5, fc ((wm k ⟨x, y, z⟩ (j)).x) ++ fc ((wm k ⟨x, y, z⟩ (j)).y) ++ fc ((wm k ⟨x, y, z⟩ (j)).z))] ⟨rfl, rfl, rfl, rfl, rfl, rfl, trivial⟩ ⟨rfl, rfl, rfl, rfl, trivial⟩ rfl (fun a w h => ?_)
    refine go_cond h false rfl (fun ht => ?_) (fun hf => ?_)
    case refine_1 => cases ht
    refine wp_exit ?_
    refine then_exit ?_
    refine then_exit ?_
    refine blk_exit ?_
    refine then_norm ?_
    refine go_region h hm [eS 23 (.val (.agg (fc ((wm k ⟨x, y, z⟩ (j)).x) ++ fc ((wm k ⟨x, y, z⟩ (j)).y) ++ fc ((wm k ⟨x, y, z⟩ (j)).z)).toArray)), eM 4 (fc ((wm k ⟨x, y, z⟩ (j)).x) ++ fc ((wm k ⟨x, y, z⟩ (j)).y) ++ fc ((wm k ⟨x, y, z⟩ (j)).z))] (by kernel_rfl) ⟨
      fun L u => u_load u (gd0 rfl) 23 rfl 55 (.tmp 5) rfl rfl rfl Tryd.underlying55 rfl i55 (lk rfl) _ rfl,
      fun L u => u_store u (gd0 rfl) 55 (.tmp 4) (.tmp 23) rfl rfl rfl (vs := fc ((wm k ⟨x, y, z⟩ (j)).x) ++ fc ((wm k ⟨x, y, z⟩ (j)).y) ++ fc ((wm k ⟨x, y, z⟩ (j)).z)) rfl rfl i55 (lk rfl) rfl _ rfl,
      trivial⟩ [(4, .ptr 4 0)] [(4, fc ((wm k ⟨x, y, z⟩ (j)).x) ++ fc ((wm k ⟨x, y, z⟩ (j)).y) ++ fc ((wm k ⟨x, y, z⟩ (j)).z))] ⟨rfl, trivial⟩ ⟨rfl, trivial⟩ rfl (fun a w h => ?_)
    refine wp_ret ?_
    refine ret_row h 4 55 rfl (lk rfl) 4 rfl (fc ((wm k ⟨x, y, z⟩ (j)).x) ++ fc ((wm k ⟨x, y, z⟩ (j)).y) ++ fc ((wm k ⟨x, y, z⟩ (j)).z)) rfl _ Tryd.underlying55 rfl i55 ?_
    exact ⟨by rw [show j = 256 by omega]; rfl, h.grows⟩
set_option maxRecDepth 100000 in
set_option maxHeartbeats 4000000 in
theorem q_Add0 {w : World} (hT : Tab w) {X Y X2 Y2 : Int} (hX : Num X) (hY : Num Y) (hX2 : Num X2) (hY2 : Num Y2) (t t2 : Bool) : Calls Tryd.prog 12 [.agg (rc X Y t).toArray, .agg (rc X2 Y2 t2).toArray].toArray w fun e w' => e = .returned (.agg (pc (nm fiv (wa wb (rp X Y t).lift (rp X2 Y2 t2).lift))).toArray) ∧ Below w.heap.size w w' := by
  refine enter (args := [.agg (rc X Y t).toArray, .agg (rc X2 Y2 t2).toArray]) Tryd.func12 rfl 11 rfl (lk rfl) (fun a h => ?_)
  refine go_region h hm [eN 2 (rc X Y t), eN 3 (rc X2 Y2 t2), eN 4 (nz ++ nz ++ [Value.bool false])] (by kernel_rfl) ⟨
    fun L u => u_box u (gd0 rfl) 26 (.tmp 0) rfl 2 rfl rfl rfl _ rfl,
    fun L u => u_box u (gd0 rfl) 26 (.tmp 1) rfl 3 rfl rfl rfl _ rfl,
    fun L u => u_alloc u (gd0 rfl) 26 rfl 4 rfl rfl z26 _ rfl,
    trivial⟩ [(2, .ptr 2 0), (3, .ptr 3 0), (4, .ptr 4 0)] [(2, rc X Y t), (3, rc X2 Y2 t2), (4, nz ++ nz ++ [Value.bool false])] ⟨rfl, rfl, rfl, trivial⟩ ⟨rfl, rfl, rfl, trivial⟩ rfl (fun a w h => ?_)
  refine go_region h hm [eS 5 (.val (.agg (rc X Y t).toArray)), eS 6 (.val (.agg (fc (((rp X Y t).lift).x) ++ fc (((rp X Y t).lift).y) ++ fc (((rp X Y t).lift).z)).toArray)), eS 7 (.val (.agg (rc X2 Y2 t2).toArray)), eS 8 (.val (.agg (fc (((rp X2 Y2 t2).lift).x) ++ fc (((rp X2 Y2 t2).lift).y) ++ fc (((rp X2 Y2 t2).lift).z)).toArray)), eS 9 (.val (.agg (fc ((wa wb ((rp X Y t).lift) ((rp X2 Y2 t2).lift)).x) ++ fc ((wa wb ((rp X Y t).lift) ((rp X2 Y2 t2).lift)).y) ++ fc ((wa wb ((rp X Y t).lift) ((rp X2 Y2 t2).lift)).z)).toArray)), eS 10 (.val (.agg (pc (nm fiv (wa wb ((rp X Y t).lift) ((rp X2 Y2 t2).lift)))).toArray)), eM 4 (pc (nm fiv (wa wb ((rp X Y t).lift) ((rp X2 Y2 t2).lift))))] (by kernel_rfl) ⟨
    fun L u => u_load u (gd0 rfl) 5 rfl 26 (.tmp 2) rfl rfl rfl Tryd.underlying26 rfl i26 (lk rfl) _ rfl,
    fun L u => u_call u (gd0 rfl) 6 rfl 41 #[(.tmp 5)] #[26] rfl [.agg (rc X Y t).toArray] rfl (cE41 _) (.agg (fc (((rp X Y t).lift).x) ++ fc (((rp X Y t).lift).y) ++ fc (((rp X Y t).lift).z)).toArray) (fun w hb => q_lift (hT.keep (Bs.kp_of hb)) hX hY t),
    fun L u => u_load u (gd0 rfl) 7 rfl 26 (.tmp 3) rfl rfl rfl Tryd.underlying26 rfl i26 (lk rfl) _ rfl,
    fun L u => u_call u (gd0 rfl) 8 rfl 41 #[(.tmp 7)] #[26] rfl [.agg (rc X2 Y2 t2).toArray] rfl (cE41 _) (.agg (fc (((rp X2 Y2 t2).lift).x) ++ fc (((rp X2 Y2 t2).lift).y) ++ fc (((rp X2 Y2 t2).lift).z)).toArray) (fun w hb => q_lift (hT.keep (Bs.kp_of hb)) hX2 hY2 t2),
    fun L u => u_call u (gd0 rfl) 9 rfl 40 #[(.tmp 6), (.tmp 8)] #[55, 55] rfl [.agg (fc (((rp X Y t).lift).x) ++ fc (((rp X Y t).lift).y) ++ fc (((rp X Y t).lift).z)).toArray, .agg (fc (((rp X2 Y2 t2).lift).x) ++ fc (((rp X2 Y2 t2).lift).y) ++ fc (((rp X2 Y2 t2).lift).z)).toArray] rfl (cE40 _) (.agg (fc ((wa wb ((rp X Y t).lift) ((rp X2 Y2 t2).lift)).x) ++ fc ((wa wb ((rp X Y t).lift) ((rp X2 Y2 t2).lift)).y) ++ fc ((wa wb ((rp X Y t).lift) ((rp X2 Y2 t2).lift)).z)).toArray) (fun w hb => q_plus (hT.keep (Bs.kp_of hb)) _ _ _ _ _ _),
    fun L u => u_call u (gd0 rfl) 10 rfl 39 #[(.tmp 9)] #[55] rfl [.agg (fc ((wa wb ((rp X Y t).lift) ((rp X2 Y2 t2).lift)).x) ++ fc ((wa wb ((rp X Y t).lift) ((rp X2 Y2 t2).lift)).y) ++ fc ((wa wb ((rp X Y t).lift) ((rp X2 Y2 t2).lift)).z)).toArray] rfl (cE39 _) (.agg (pc (nm fiv (wa wb ((rp X Y t).lift) ((rp X2 Y2 t2).lift)))).toArray) (fun w hb => q_drop (hT.keep (Bs.kp_of hb)) _ _ _),
    fun L u => u_store u (gd0 rfl) 26 (.tmp 4) (.tmp 10) rfl rfl rfl (vs := pc (nm fiv (wa wb ((rp X Y t).lift) ((rp X2 Y2 t2).lift)))) rfl rfl i26 (lk rfl) rfl _ rfl,
    trivial⟩ [(4, .ptr 4 0)] [(4, pc (nm fiv (wa wb ((rp X Y t).lift) ((rp X2 Y2 t2).lift))))] ⟨rfl, trivial⟩ ⟨rfl, trivial⟩ rfl (fun a w h => ?_)
  refine wp_ret ?_
  refine ret_row h 4 26 rfl (lk rfl) 4 rfl (pc (nm fiv (wa wb ((rp X Y t).lift) ((rp X2 Y2 t2).lift)))) rfl _ Tryd.underlying26 rfl i26 ?_
  exact ⟨rfl, h.grows⟩
set_option maxRecDepth 100000 in
set_option maxHeartbeats 4000000 in
theorem q_Mul0 {w : World} (hT : Tab w) (k : Nat) {X Y : Int} (hX : Num X) (hY : Num Y) (t : Bool) : Calls Tryd.prog 14 [.agg (nc ((k : Int))).toArray, .agg (rc X Y t).toArray].toArray w fun e w' => e = .returned (.agg (pc (nm fiv (wm k (rp X Y t).lift 256))).toArray) ∧ Below w.heap.size w w' := by
  refine enter (args := [.agg (nc ((k : Int))).toArray, .agg (rc X Y t).toArray]) Tryd.func14 rfl 10 rfl (lk rfl) (fun a h => ?_)
  refine go_region h hm [eN 2 (nc ((k : Int))), eN 3 (rc X Y t), eN 4 (nz ++ nz ++ [Value.bool false])] (by kernel_rfl) ⟨
    fun L u => u_box u (gd0 rfl) 24 (.tmp 0) rfl 2 rfl rfl rfl _ rfl,
    fun L u => u_box u (gd0 rfl) 26 (.tmp 1) rfl 3 rfl rfl rfl _ rfl,
    fun L u => u_alloc u (gd0 rfl) 26 rfl 4 rfl rfl z26 _ rfl,
    trivial⟩ [(2, .ptr 2 0), (3, .ptr 3 0), (4, .ptr 4 0)] [(2, nc ((k : Int))), (3, rc X Y t), (4, nz ++ nz ++ [Value.bool false])] ⟨rfl, rfl, rfl, trivial⟩ ⟨rfl, rfl, rfl, trivial⟩ rfl (fun a w h => ?_)
  refine go_region h hm [eS 5 (.val (.agg (nc ((k : Int))).toArray)), eS 6 (.val (.agg (rc X Y t).toArray)), eS 7 (.val (.agg (fc (((rp X Y t).lift).x) ++ fc (((rp X Y t).lift).y) ++ fc (((rp X Y t).lift).z)).toArray)), eS 8 (.val (.agg (fc ((wm k ((rp X Y t).lift) 256).x) ++ fc ((wm k ((rp X Y t).lift) 256).y) ++ fc ((wm k ((rp X Y t).lift) 256).z)).toArray)), eS 9 (.val (.agg (pc (nm fiv (wm k ((rp X Y t).lift) 256))).toArray)), eM 4 (pc (nm fiv (wm k ((rp X Y t).lift) 256)))] (by kernel_rfl) ⟨
    fun L u => u_load u (gd0 rfl) 5 rfl 24 (.tmp 2) rfl rfl rfl Tryd.underlying24 rfl i24 (lk rfl) _ rfl,
    fun L u => u_load u (gd0 rfl) 6 rfl 26 (.tmp 3) rfl rfl rfl Tryd.underlying26 rfl i26 (lk rfl) _ rfl,
    fun L u => u_call u (gd0 rfl) 7 rfl 41 #[(.tmp 6)] #[26] rfl [.agg (rc X Y t).toArray] rfl (cE41 _) (.agg (fc (((rp X Y t).lift).x) ++ fc (((rp X Y t).lift).y) ++ fc (((rp X Y t).lift).z)).toArray) (fun w hb => q_lift (hT.keep (Bs.kp_of hb)) hX hY t),
    fun L u => u_call u (gd0 rfl) 8 rfl 45 #[(.tmp 5), (.tmp 7)] #[24, 55] rfl [.agg (nc ((k : Int))).toArray, .agg (fc (((rp X Y t).lift).x) ++ fc (((rp X Y t).lift).y) ++ fc (((rp X Y t).lift).z)).toArray] rfl (cE45 _) (.agg (fc ((wm k ((rp X Y t).lift) 256).x) ++ fc ((wm k ((rp X Y t).lift) 256).y) ++ fc ((wm k ((rp X Y t).lift) 256).z)).toArray) (fun w hb => q_times (hT.keep (Bs.kp_of hb)) _ _ _ _),
    fun L u => u_call u (gd0 rfl) 9 rfl 39 #[(.tmp 8)] #[55] rfl [.agg (fc ((wm k ((rp X Y t).lift) 256).x) ++ fc ((wm k ((rp X Y t).lift) 256).y) ++ fc ((wm k ((rp X Y t).lift) 256).z)).toArray] rfl (cE39 _) (.agg (pc (nm fiv (wm k ((rp X Y t).lift) 256))).toArray) (fun w hb => q_drop (hT.keep (Bs.kp_of hb)) _ _ _),
    fun L u => u_store u (gd0 rfl) 26 (.tmp 4) (.tmp 9) rfl rfl rfl (vs := pc (nm fiv (wm k ((rp X Y t).lift) 256))) rfl rfl i26 (lk rfl) rfl _ rfl,
    trivial⟩ [(4, .ptr 4 0)] [(4, pc (nm fiv (wm k ((rp X Y t).lift) 256)))] ⟨rfl, trivial⟩ ⟨rfl, trivial⟩ rfl (fun a w h => ?_)
  refine wp_ret ?_
  refine ret_row h 4 26 rfl (lk rfl) 4 rfl (pc (nm fiv (wm k ((rp X Y t).lift) 256))) rfl _ Tryd.underlying26 rfl i26 ?_
  exact ⟨rfl, h.grows⟩
set_option maxRecDepth 100000 in
set_option maxHeartbeats 4000000 in
theorem q_Both0 {w : World} (hT : Tab w) (k1 : Nat) {X Y : Int} (hX : Num X) (hY : Num Y) (t : Bool) (k2 : Nat) {X2 Y2 : Int} (hX2 : Num X2) (hY2 : Num Y2) (t2 : Bool) : Calls Tryd.prog 17 [.agg (nc ((k1 : Int))).toArray, .agg (rc X Y t).toArray, .agg (nc ((k2 : Int))).toArray, .agg (rc X2 Y2 t2).toArray].toArray w fun e w' => e = .returned (.agg (pc (nm fiv (wa wb (wm k1 (rp X Y t).lift 256) (wm k2 (rp X2 Y2 t2).lift 256)))).toArray) ∧ Below w.heap.size w w' := by
  refine enter (args := [.agg (nc ((k1 : Int))).toArray, .agg (rc X Y t).toArray, .agg (nc ((k2 : Int))).toArray, .agg (rc X2 Y2 t2).toArray]) Tryd.func17 rfl 19 rfl (lk rfl) (fun a h => ?_)
  refine go_region h hm [eN 4 (nc ((k1 : Int))), eN 5 (rc X Y t), eN 6 (nc ((k2 : Int))), eN 7 (rc X2 Y2 t2), eN 8 (nz ++ nz ++ [Value.bool false])] (by kernel_rfl) ⟨
    fun L u => u_box u (gd0 rfl) 24 (.tmp 0) rfl 4 rfl rfl rfl _ rfl,
    fun L u => u_box u (gd0 rfl) 26 (.tmp 1) rfl 5 rfl rfl rfl _ rfl,
    fun L u => u_box u (gd0 rfl) 24 (.tmp 2) rfl 6 rfl rfl rfl _ rfl,
    fun L u => u_box u (gd0 rfl) 26 (.tmp 3) rfl 7 rfl rfl rfl _ rfl,
    fun L u => u_alloc u (gd0 rfl) 26 rfl 8 rfl rfl z26 _ rfl,
    trivial⟩ [(4, .ptr 4 0), (5, .ptr 5 0), (6, .ptr 6 0), (7, .ptr 7 0), (8, .ptr 8 0)] [(4, nc ((k1 : Int))), (5, rc X Y t), (6, nc ((k2 : Int))), (7, rc X2 Y2 t2), (8, nz ++ nz ++ [Value.bool false])] ⟨rfl, rfl, rfl, rfl, rfl, trivial⟩ ⟨rfl, rfl, rfl, rfl, rfl, trivial⟩ rfl (fun a w h => ?_)
  refine go_region h hm [eS 9 (.val (.agg (nc ((k1 : Int))).toArray)), eS 10 (.val (.agg (rc X Y t).toArray)), eS 11 (.val (.agg (fc (((rp X Y t).lift).x) ++ fc (((rp X Y t).lift).y) ++ fc (((rp X Y t).lift).z)).toArray)), eS 12 (.val (.agg (fc ((wm k1 ((rp X Y t).lift) 256).x) ++ fc ((wm k1 ((rp X Y t).lift) 256).y) ++ fc ((wm k1 ((rp X Y t).lift) 256).z)).toArray)), eS 13 (.val (.agg (nc ((k2 : Int))).toArray)), eS 14 (.val (.agg (rc X2 Y2 t2).toArray)), eS 15 (.val (.agg (fc (((rp X2 Y2 t2).lift).x) ++ fc (((rp X2 Y2 t2).lift).y) ++ fc (((rp X2 Y2 t2).lift).z)).toArray)), eS 16 (.val (.agg (fc ((wm k2 ((rp X2 Y2 t2).lift) 256).x) ++ fc ((wm k2 ((rp X2 Y2 t2).lift) 256).y) ++ fc ((wm k2 ((rp X2 Y2 t2).lift) 256).z)).toArray)), eS 17 (.val (.agg (fc ((wa wb (wm k1 ((rp X Y t).lift) 256) (wm k2 ((rp X2 Y2 t2).lift) 256)).x) ++ fc ((wa wb (wm k1 ((rp X Y t).lift) 256) (wm k2 ((rp X2 Y2 t2).lift) 256)).y) ++ fc ((wa wb (wm k1 ((rp X Y t).lift) 256) (wm k2 ((rp X2 Y2 t2).lift) 256)).z)).toArray)), eS 18 (.val (.agg (pc (nm fiv (wa wb (wm k1 ((rp X Y t).lift) 256) (wm k2 ((rp X2 Y2 t2).lift) 256)))).toArray)), eM 8 (pc (nm fiv (wa wb (wm k1 ((rp X Y t).lift) 256) (wm k2 ((rp X2 Y2 t2).lift) 256))))] (by kernel_rfl) ⟨
    fun L u => u_load u (gd0 rfl) 9 rfl 24 (.tmp 4) rfl rfl rfl Tryd.underlying24 rfl i24 (lk rfl) _ rfl,
    fun L u => u_load u (gd0 rfl) 10 rfl 26 (.tmp 5) rfl rfl rfl Tryd.underlying26 rfl i26 (lk rfl) _ rfl,
    fun L u => u_call u (gd0 rfl) 11 rfl 41 #[(.tmp 10)] #[26] rfl [.agg (rc X Y t).toArray] rfl (cE41 _) (.agg (fc (((rp X Y t).lift).x) ++ fc (((rp X Y t).lift).y) ++ fc (((rp X Y t).lift).z)).toArray) (fun w hb => q_lift (hT.keep (Bs.kp_of hb)) hX hY t),
    fun L u => u_call u (gd0 rfl) 12 rfl 45 #[(.tmp 9), (.tmp 11)] #[24, 55] rfl [.agg (nc ((k1 : Int))).toArray, .agg (fc (((rp X Y t).lift).x) ++ fc (((rp X Y t).lift).y) ++ fc (((rp X Y t).lift).z)).toArray] rfl (cE45 _) (.agg (fc ((wm k1 ((rp X Y t).lift) 256).x) ++ fc ((wm k1 ((rp X Y t).lift) 256).y) ++ fc ((wm k1 ((rp X Y t).lift) 256).z)).toArray) (fun w hb => q_times (hT.keep (Bs.kp_of hb)) _ _ _ _),
    fun L u => u_load u (gd0 rfl) 13 rfl 24 (.tmp 6) rfl rfl rfl Tryd.underlying24 rfl i24 (lk rfl) _ rfl,
    fun L u => u_load u (gd0 rfl) 14 rfl 26 (.tmp 7) rfl rfl rfl Tryd.underlying26 rfl i26 (lk rfl) _ rfl,
    fun L u => u_call u (gd0 rfl) 15 rfl 41 #[(.tmp 14)] #[26] rfl [.agg (rc X2 Y2 t2).toArray] rfl (cE41 _) (.agg (fc (((rp X2 Y2 t2).lift).x) ++ fc (((rp X2 Y2 t2).lift).y) ++ fc (((rp X2 Y2 t2).lift).z)).toArray) (fun w hb => q_lift (hT.keep (Bs.kp_of hb)) hX2 hY2 t2),
    fun L u => u_call u (gd0 rfl) 16 rfl 45 #[(.tmp 13), (.tmp 15)] #[24, 55] rfl [.agg (nc ((k2 : Int))).toArray, .agg (fc (((rp X2 Y2 t2).lift).x) ++ fc (((rp X2 Y2 t2).lift).y) ++ fc (((rp X2 Y2 t2).lift).z)).toArray] rfl (cE45 _) (.agg (fc ((wm k2 ((rp X2 Y2 t2).lift) 256).x) ++ fc ((wm k2 ((rp X2 Y2 t2).lift) 256).y) ++ fc ((wm k2 ((rp X2 Y2 t2).lift) 256).z)).toArray) (fun w hb => q_times (hT.keep (Bs.kp_of hb)) _ _ _ _),
    fun L u => u_call u (gd0 rfl) 17 rfl 40 #[(.tmp 12), (.tmp 16)] #[55, 55] rfl [.agg (fc ((wm k1 ((rp X Y t).lift) 256).x) ++ fc ((wm k1 ((rp X Y t).lift) 256).y) ++ fc ((wm k1 ((rp X Y t).lift) 256).z)).toArray, .agg (fc ((wm k2 ((rp X2 Y2 t2).lift) 256).x) ++ fc ((wm k2 ((rp X2 Y2 t2).lift) 256).y) ++ fc ((wm k2 ((rp X2 Y2 t2).lift) 256).z)).toArray] rfl (cE40 _) (.agg (fc ((wa wb (wm k1 ((rp X Y t).lift) 256) (wm k2 ((rp X2 Y2 t2).lift) 256)).x) ++ fc ((wa wb (wm k1 ((rp X Y t).lift) 256) (wm k2 ((rp X2 Y2 t2).lift) 256)).y) ++ fc ((wa wb (wm k1 ((rp X Y t).lift) 256) (wm k2 ((rp X2 Y2 t2).lift) 256)).z)).toArray) (fun w hb => q_plus (hT.keep (Bs.kp_of hb)) _ _ _ _ _ _),
    fun L u => u_call u (gd0 rfl) 18 rfl 39 #[(.tmp 17)] #[55] rfl [.agg (fc ((wa wb (wm k1 ((rp X Y t).lift) 256) (wm k2 ((rp X2 Y2 t2).lift) 256)).x) ++ fc ((wa wb (wm k1 ((rp X Y t).lift) 256) (wm k2 ((rp X2 Y2 t2).lift) 256)).y) ++ fc ((wa wb (wm k1 ((rp X Y t).lift) 256) (wm k2 ((rp X2 Y2 t2).lift) 256)).z)).toArray] rfl (cE39 _) (.agg (pc (nm fiv (wa wb (wm k1 ((rp X Y t).lift) 256) (wm k2 ((rp X2 Y2 t2).lift) 256)))).toArray) (fun w hb => q_drop (hT.keep (Bs.kp_of hb)) _ _ _),
    fun L u => u_store u (gd0 rfl) 26 (.tmp 8) (.tmp 18) rfl rfl rfl (vs := pc (nm fiv (wa wb (wm k1 ((rp X Y t).lift) 256) (wm k2 ((rp X2 Y2 t2).lift) 256)))) rfl rfl i26 (lk rfl) rfl _ rfl,
    trivial⟩ [(8, .ptr 8 0)] [(8, pc (nm fiv (wa wb (wm k1 ((rp X Y t).lift) 256) (wm k2 ((rp X2 Y2 t2).lift) 256))))] ⟨rfl, trivial⟩ ⟨rfl, trivial⟩ rfl (fun a w h => ?_)
  refine wp_ret ?_
  refine ret_row h 8 26 rfl (lk rfl) 8 rfl (pc (nm fiv (wa wb (wm k1 ((rp X Y t).lift) 256) (wm k2 ((rp X2 Y2 t2).lift) 256)))) rfl _ Tryd.underlying26 rfl i26 ?_
  exact ⟨rfl, h.grows⟩
theorem l_on (X Y : Int) (t : Bool) : On wb (rp X Y t).lift := on_lift wk0 (rp_on X Y t)
theorem q_Add {w : World} (hT : Tab w) {X Y X2 Y2 : Int} (hX : Num X) (hY : Num Y) (hX2 : Num X2) (hY2 : Num Y2) (t t2 : Bool) : Calls Tryd.prog 12 [.agg (rc X Y t).toArray, .agg (rc X2 Y2 t2).toArray].toArray w fun e w' => e = .returned (.agg (pc (wplus (rp X Y t) (rp X2 Y2 t2))).toArray) ∧ Below w.heap.size w w' := by
  have h := q_Add0 hT hX hY hX2 hY2 t t2
  rw [wa_nm (l_on X Y t) (l_on X2 Y2 t2), nm_lift fld0, nm_lift fld0] at h
  exact h
theorem q_Mul {w : World} (hT : Tab w) {k : Nat} (hk : k < 2 ^ 256) {X Y : Int} (hX : Num X) (hY : Num Y) (t : Bool) : Calls Tryd.prog 14 [.agg (nc (k : Int)).toArray, .agg (rc X Y t).toArray].toArray w fun e w' => e = .returned (.agg (pc (mt wplus Wp.o (rp X Y t) k)).toArray) ∧ Below w.heap.size w w' := by
  have h := q_Mul0 hT k hX hY t
  rw [wm_all hk (l_on X Y t), nm_lift fld0] at h
  exact h
theorem q_Both {w : World} (hT : Tab w) {k1 : Nat} (hk1 : k1 < 2 ^ 256) {X Y : Int} (hX : Num X) (hY : Num Y) (t : Bool) {k2 : Nat} (hk2 : k2 < 2 ^ 256) {X2 Y2 : Int} (hX2 : Num X2) (hY2 : Num Y2) (t2 : Bool) : Calls Tryd.prog 17 [.agg (nc (k1 : Int)).toArray, .agg (rc X Y t).toArray, .agg (nc (k2 : Int)).toArray, .agg (rc X2 Y2 t2).toArray].toArray w fun e w' => e = .returned (.agg (pc (wplus (mt wplus Wp.o (rp X Y t) k1) (mt wplus Wp.o (rp X2 Y2 t2) k2))).toArray) ∧ Below w.heap.size w w' := by
  have h := q_Both0 hT k1 hX hY t k2 hX2 hY2 t2
  rw [wa_nm (wm_on (l_on X Y t) _) (wm_on (l_on X2 Y2 t2) _), wm_all hk1 (l_on X Y t), wm_all hk2 (l_on X2 Y2 t2), nm_lift fld0, nm_lift fld0] at h
  exact h
set_option maxRecDepth 100000 in
set_option maxHeartbeats 4000000 in
theorem q_Base {w : World}  : Calls Tryd.prog 16 [].toArray w fun e w' => e = .returned (.agg (pc wG).toArray) ∧ Below w.heap.size w w' := by
  refine enter (args := []) Tryd.func16 rfl 4 rfl (lk rfl) (fun a h => ?_)
  refine go_region h hm [eN 0 (nz ++ nz ++ [Value.bool false])] (by kernel_rfl) ⟨
    fun L u => u_alloc u (gd0 rfl) 26 rfl 0 rfl rfl z26 _ rfl,
    trivial⟩ [(0, .ptr 0 0)] [(0, nz ++ nz ++ [Value.bool false])] ⟨rfl, trivial⟩ ⟨rfl, trivial⟩ rfl (fun a w h => ?_)
  refine go_region h hm [eS 1 (.val (.agg ([(Value.int IntKind.u64 17627433388654248598)] ++ [(Value.int IntKind.u64 8575836109218198432)] ++ [(Value.int IntKind.u64 17923454489921339634)] ++ [(Value.int IntKind.u64 7716867327612699207)]).toArray)), eS 2 (.val (.agg ([(Value.int IntKind.u64 14678990851816772085)] ++ [(Value.int IntKind.u64 3156516839386865358)] ++ [(Value.int IntKind.u64 10297457778147434006)] ++ [(Value.int IntKind.u64 5756518291402817435)]).toArray)), eS 3 (.val (.agg ([(Value.int IntKind.u64 17627433388654248598)] ++ [(Value.int IntKind.u64 8575836109218198432)] ++ [(Value.int IntKind.u64 17923454489921339634)] ++ [(Value.int IntKind.u64 7716867327612699207)] ++ [(Value.int IntKind.u64 14678990851816772085)] ++ [(Value.int IntKind.u64 3156516839386865358)] ++ [(Value.int IntKind.u64 10297457778147434006)] ++ [(Value.int IntKind.u64 5756518291402817435)] ++ [Value.bool false]).toArray)), eM 0 ([(Value.int IntKind.u64 17627433388654248598)] ++ [(Value.int IntKind.u64 8575836109218198432)] ++ [(Value.int IntKind.u64 17923454489921339634)] ++ [(Value.int IntKind.u64 7716867327612699207)] ++ [(Value.int IntKind.u64 14678990851816772085)] ++ [(Value.int IntKind.u64 3156516839386865358)] ++ [(Value.int IntKind.u64 10297457778147434006)] ++ [(Value.int IntKind.u64 5756518291402817435)] ++ [Value.bool false])] (by kernel_rfl) ⟨
    fun L u => u_build u (gd0 rfl) 1 rfl 24 #[(0, (.const (.int .u64 17627433388654248598))), (1, (.const (.int .u64 8575836109218198432))), (2, (.const (.int .u64 17923454489921339634))), (3, (.const (.int .u64 7716867327612699207)))] rfl [(0, (Value.int IntKind.u64 17627433388654248598)), (1, (Value.int IntKind.u64 8575836109218198432)), (2, (Value.int IntKind.u64 17923454489921339634)), (3, (Value.int IntKind.u64 7716867327612699207))] rfl ([(Value.int IntKind.u64 17627433388654248598)] ++ [(Value.int IntKind.u64 8575836109218198432)] ++ [(Value.int IntKind.u64 17923454489921339634)] ++ [(Value.int IntKind.u64 7716867327612699207)]) (bN4 _ _ _ _),
    fun L u => u_build u (gd0 rfl) 2 rfl 24 #[(0, (.const (.int .u64 14678990851816772085))), (1, (.const (.int .u64 3156516839386865358))), (2, (.const (.int .u64 10297457778147434006))), (3, (.const (.int .u64 5756518291402817435)))] rfl [(0, (Value.int IntKind.u64 14678990851816772085)), (1, (Value.int IntKind.u64 3156516839386865358)), (2, (Value.int IntKind.u64 10297457778147434006)), (3, (Value.int IntKind.u64 5756518291402817435))] rfl ([(Value.int IntKind.u64 14678990851816772085)] ++ [(Value.int IntKind.u64 3156516839386865358)] ++ [(Value.int IntKind.u64 10297457778147434006)] ++ [(Value.int IntKind.u64 5756518291402817435)]) (bN4 _ _ _ _),
    fun L u => u_build u (gd0 rfl) 3 rfl 26 #[(0, (.tmp 1)), (1, (.tmp 2))] rfl [(0, .agg ([(Value.int IntKind.u64 17627433388654248598)] ++ [(Value.int IntKind.u64 8575836109218198432)] ++ [(Value.int IntKind.u64 17923454489921339634)] ++ [(Value.int IntKind.u64 7716867327612699207)]).toArray), (1, .agg ([(Value.int IntKind.u64 14678990851816772085)] ++ [(Value.int IntKind.u64 3156516839386865358)] ++ [(Value.int IntKind.u64 10297457778147434006)] ++ [(Value.int IntKind.u64 5756518291402817435)]).toArray)] rfl ([(Value.int IntKind.u64 17627433388654248598)] ++ [(Value.int IntKind.u64 8575836109218198432)] ++ [(Value.int IntKind.u64 17923454489921339634)] ++ [(Value.int IntKind.u64 7716867327612699207)] ++ [(Value.int IntKind.u64 14678990851816772085)] ++ [(Value.int IntKind.u64 3156516839386865358)] ++ [(Value.int IntKind.u64 10297457778147434006)] ++ [(Value.int IntKind.u64 5756518291402817435)] ++ [Value.bool false]) (bPc _ _ _ _ _ _ _ _),
    fun L u => u_store u (gd0 rfl) 26 (.tmp 0) (.tmp 3) rfl rfl rfl (vs := [(Value.int IntKind.u64 17627433388654248598)] ++ [(Value.int IntKind.u64 8575836109218198432)] ++ [(Value.int IntKind.u64 17923454489921339634)] ++ [(Value.int IntKind.u64 7716867327612699207)] ++ [(Value.int IntKind.u64 14678990851816772085)] ++ [(Value.int IntKind.u64 3156516839386865358)] ++ [(Value.int IntKind.u64 10297457778147434006)] ++ [(Value.int IntKind.u64 5756518291402817435)] ++ [Value.bool false]) rfl rfl i26 (lk rfl) rfl _ rfl,
    trivial⟩ [(0, .ptr 0 0)] [(0, [(Value.int IntKind.u64 17627433388654248598)] ++ [(Value.int IntKind.u64 8575836109218198432)] ++ [(Value.int IntKind.u64 17923454489921339634)] ++ [(Value.int IntKind.u64 7716867327612699207)] ++ [(Value.int IntKind.u64 14678990851816772085)] ++ [(Value.int IntKind.u64 3156516839386865358)] ++ [(Value.int IntKind.u64 10297457778147434006)] ++ [(Value.int IntKind.u64 5756518291402817435)] ++ [Value.bool false])] ⟨rfl, trivial⟩ ⟨rfl, trivial⟩ rfl (fun a w h => ?_)
  refine wp_ret ?_
  refine ret_row h 0 26 rfl (lk rfl) 0 rfl ([(Value.int IntKind.u64 17627433388654248598)] ++ [(Value.int IntKind.u64 8575836109218198432)] ++ [(Value.int IntKind.u64 17923454489921339634)] ++ [(Value.int IntKind.u64 7716867327612699207)] ++ [(Value.int IntKind.u64 14678990851816772085)] ++ [(Value.int IntKind.u64 3156516839386865358)] ++ [(Value.int IntKind.u64 10297457778147434006)] ++ [(Value.int IntKind.u64 5756518291402817435)] ++ [Value.bool false]) rfl _ Tryd.underlying26 rfl i26 ?_
  exact ⟨by rw [pc_G], h.grows⟩
end Go.Proofs.YtimaaendbfjblaaDoor
namespace Go.Proofs.YtimaaendbfjblaaDoor
open Go.RowKit

theorem cE9 (vs : List Value) : ∀ w, (callFunc 9 vs.toArray).run Tryd.prog w = .ok (.enter 9 vs.toArray) w := callFunc_enter Tryd.func9 (by kernel_rfl) (by kernel_rfl) _
theorem cE13 (vs : List Value) : ∀ w, (callFunc 13 vs.toArray).run Tryd.prog w = .ok (.enter 13 vs.toArray) w := callFunc_enter Tryd.func13 (by kernel_rfl) (by kernel_rfl) _
theorem cE15 (vs : List Value) : ∀ w, (callFunc 15 vs.toArray).run Tryd.prog w = .ok (.enter 15 vs.toArray) w := callFunc_enter Tryd.func15 (by kernel_rfl) (by kernel_rfl) _
theorem cE27 (vs : List Value) : ∀ w, (callFunc 27 vs.toArray).run Tryd.prog w = .ok (.enter 27 vs.toArray) w := callFunc_enter Tryd.func27 (by kernel_rfl) (by kernel_rfl) _
theorem cE18 (vs : List Value) : ∀ w, (callFunc 18 vs.toArray).run Tryd.prog w = .ok (.enter 18 vs.toArray) w := callFunc_enter Tryd.func18 (by kernel_rfl) (by kernel_rfl) _
theorem cE19 (vs : List Value) : ∀ w, (callFunc 19 vs.toArray).run Tryd.prog w = .ok (.enter 19 vs.toArray) w := callFunc_enter Tryd.func19 (by kernel_rfl) (by kernel_rfl) _
theorem cE20 (vs : List Value) : ∀ w, (callFunc 20 vs.toArray).run Tryd.prog w = .ok (.enter 20 vs.toArray) w := callFunc_enter Tryd.func20 (by kernel_rfl) (by kernel_rfl) _
theorem cE21 (vs : List Value) : ∀ w, (callFunc 21 vs.toArray).run Tryd.prog w = .ok (.enter 21 vs.toArray) w := callFunc_enter Tryd.func21 (by kernel_rfl) (by kernel_rfl) _
theorem cE49 (vs : List Value) : ∀ w, (callFunc 49 vs.toArray).run Tryd.prog w = .ok (.enter 49 vs.toArray) w := callFunc_enter Tryd.func49 (by kernel_rfl) (by kernel_rfl) _
theorem cE47 (vs : List Value) : ∀ w, (callFunc 47 vs.toArray).run Tryd.prog w = .ok (.enter 47 vs.toArray) w := callFunc_enter Tryd.func47 (by kernel_rfl) (by kernel_rfl) _
theorem cE48 (vs : List Value) : ∀ w, (callFunc 48 vs.toArray).run Tryd.prog w = .ok (.enter 48 vs.toArray) w := callFunc_enter Tryd.func48 (by kernel_rfl) (by kernel_rfl) _
theorem q_AddP {w : World} (hT : Tab w) {a b : Wp m0} (ha : a.on wb) (hb : b.on wb) : Calls Tryd.prog 12 [.agg (pc a).toArray, .agg (pc b).toArray].toArray w fun e w' => e = .returned (.agg (pc (wplus a b)).toArray) ∧ Below w.heap.size w w' := by
  have h := q_Add hT (fin_num (px a)) (fin_num (py a)) (fin_num (px b)) (fin_num (py b)) a.isNone b.isNone
  rw [rp_pc ha, rp_pc hb] at h
  exact h
theorem q_MulP {w : World} (hT : Tab w) {k : Nat} (hk : k < 2 ^ 256) {a : Wp m0} (ha : a.on wb) : Calls Tryd.prog 14 [.agg (nc (k : Int)).toArray, .agg (pc a).toArray].toArray w fun e w' => e = .returned (.agg (pc (mt wplus Wp.o a k)).toArray) ∧ Below w.heap.size w w' := by
  have h := q_Mul hT hk (fin_num (px a)) (fin_num (py a)) a.isNone
  rw [rp_pc ha] at h
  exact h
theorem fmd_pc {a : Wp m0} (h : a.on wb) : fmd ((px a).val : Int) ((py a).val : Int) a.isNone = true := by
  cases a with
  | none =>
    have z : ((0 : Fin m0).val : Int) = 0 := by rw [show (0 : Fin m0).val = 0 from Fin.val_zero _]; rfl
    show decide (((0 : Fin m0).val : Int) = 0 ∧ ((0 : Fin m0).val : Int) = 0) = true
    exact decide_eq_true ⟨z, z⟩
  | some q =>
    obtain ⟨x, y⟩ := q
    have hc : y * y = x * x * x - 3 * x + wb := h
    have hd : (x.val : Int) < md 0 ∧ (y.val : Int) < md 0 ∧ (kc (y.val : Int) : Fin m0) * kc (y.val : Int) = kc (x.val : Int) * kc (x.val : Int) * kc (x.val : Int) - 3 * kc (x.val : Int) + wb := ⟨of_decide_eq_true (fin_lt x), of_decide_eq_true (fin_lt y), by rw [kc_self, kc_self]; exact hc⟩
    have e : fmd (x.val : Int) (y.val : Int) false = decide ((x.val : Int) < md 0 ∧ (y.val : Int) < md 0 ∧ (kc (y.val : Int) : Fin m0) * kc (y.val : Int) = kc (x.val : Int) * kc (x.val : Int) * kc (x.val : Int) - 3 * kc (x.val : Int) + wb) := if_neg (by decide)
    exact e.trans (decide_eq_true hd)
theorem q_FormedP {w : World} (hT : Tab w) {a : Wp m0} (ha : a.on wb) : Calls Tryd.prog 10 [.agg (pc a).toArray].toArray w fun e w' => e = .returned (.bool true) ∧ Below w.heap.size w w' := by
  have h := q_Formed hT (fin_num (px a)) (fin_num (py a)) a.isNone
  rw [fmd_pc ha] at h
  exact h
theorem nz_pc : nz ++ nz ++ [Value.bool true] = pc Wp.o := by rw [nz_fc]; rfl
/-- A point's mirror. -/
def wneg (a : Wp m0) : Wp m0 := match a with
  | none => none
  | some q => some (q.1, 0 - q.2)
theorem sub_nil : (0 : Fin m0) - 0 = 0 := by decide +kernel
theorem mir_pc (a : Wp m0) : fc (px a) ++ fc (0 - py a) ++ [Value.bool a.isNone] = pc (wneg a) := by
  cases a with
  | none =>
    show fc 0 ++ fc (0 - 0) ++ [Value.bool true] = fc 0 ++ fc 0 ++ [Value.bool true]
    rw [sub_nil]
  | some q => rfl
theorem neg_sq {p : Nat} [NeZero p] (y : Fin p) : (0 - y) * (0 - y) = y * y := by grobner
theorem wneg_on {a : Wp m0} (h : a.on wb) : (wneg a).on wb := by
  cases a with
  | none => trivial
  | some q =>
    obtain ⟨x, y⟩ := q
    have hc : y * y = x * x * x - 3 * x + wb := h
    show (0 - y) * (0 - y) = x * x * x - 3 * x + wb
    rw [neg_sq]
    exact hc
theorem mir_z {p : Nat} [NeZero p] {b x y : Fin p} : (wa b ⟨x, y, 1⟩ ⟨x, 0 - y, 1⟩).z = 0 := by
  rw [wa_eq]
  show _ = (0 : Fin p)
  grobner
theorem wneg_add (a : Wp m0) : wplus a (wneg a) = Wp.o := by
  cases a with
  | none => exact wgr.add_o (a := Wp.o) trivial
  | some q =>
    obtain ⟨x, y⟩ := q
    show nm fiv (wa wb ⟨x, y, 1⟩ ⟨x, 0 - y, 1⟩) = Wp.o
    unfold nm
    rw [if_pos mir_z]
theorem nc_two : [Value.int .u64 2] ++ [Value.int .u64 0] ++ [Value.int .u64 0] ++ [Value.int .u64 0] = nc ((2 : Nat) : Int) := by kernel_rfl
theorem hmod1 : mod1 < 2 ^ 256 := by decide +kernel
theorem bP3 (x y : Fin m0) (t : Bool) : Tryd.prog.built 26 [(0, .agg (fc x).toArray), (1, .agg (fc y).toArray), (2, .bool t)] = some (fc x ++ fc y ++ [Value.bool t]).toArray := by kernel_rfl
theorem q_AddRP {w : World} (hT : Tab w) {X Y : Int} (hX : Num X) (hY : Num Y) (t : Bool) {b : Wp m0} (hb : b.on wb) : Calls Tryd.prog 12 [.agg (rc X Y t).toArray, .agg (pc b).toArray].toArray w fun e w' => e = .returned (.agg (pc (wplus (rp X Y t) b)).toArray) ∧ Below w.heap.size w w' := by
  have h := q_Add hT hX hY (fin_num (px b)) (fin_num (py b)) t b.isNone
  rw [rp_pc hb] at h
  exact h
theorem q_AddPR {w : World} (hT : Tab w) {b : Wp m0} (hb : b.on wb) {X Y : Int} (hX : Num X) (hY : Num Y) (t : Bool) : Calls Tryd.prog 12 [.agg (pc b).toArray, .agg (rc X Y t).toArray].toArray w fun e w' => e = .returned (.agg (pc (wplus b (rp X Y t))).toArray) ∧ Below w.heap.size w w' := by
  have h := q_Add hT (fin_num (px b)) (fin_num (py b)) hX hY b.isNone t
  rw [rp_pc hb] at h
  exact h
theorem fmd_rp {X Y : Int} {t : Bool} (h : fmd X Y t = false) : rp X Y t = Wp.o := by
  unfold rp
  refine if_neg (fun hq => ?_)
  obtain ⟨rfl, h1, h2, h3⟩ := hq
  have e : fmd X Y false = decide (X < md 0 ∧ Y < md 0 ∧ (kc Y : Fin m0) * kc Y = kc X * kc X * kc X - 3 * kc X + wb) := if_neg (by decide)
  rw [e, decide_eq_true ⟨h1, h2, h3⟩] at h
  cases h
theorem q_BothRP {w : World} (hT : Tab w) {k1 : Nat} (hk1 : k1 < 2 ^ 256) {X Y : Int} (hX : Num X) (hY : Num Y) (t : Bool) {k2 : Nat} (hk2 : k2 < 2 ^ 256) {b : Wp m0} (hb : b.on wb) : Calls Tryd.prog 17 [.agg (nc (k1 : Int)).toArray, .agg (rc X Y t).toArray, .agg (nc (k2 : Int)).toArray, .agg (pc b).toArray].toArray w fun e w' => e = .returned (.agg (pc (wplus (mt wplus Wp.o (rp X Y t) k1) (mt wplus Wp.o b k2))).toArray) ∧ Below w.heap.size w w' := by
  have h := q_Both hT hk1 hX hY t hk2 (fin_num (px b)) (fin_num (py b)) b.isNone
  rw [rp_pc hb] at h
  exact h
theorem q_BothPR {w : World} (hT : Tab w) {k1 : Nat} (hk1 : k1 < 2 ^ 256) {b : Wp m0} (hb : b.on wb) {k2 : Nat} (hk2 : k2 < 2 ^ 256) {X Y : Int} (hX : Num X) (hY : Num Y) (t : Bool) : Calls Tryd.prog 17 [.agg (nc (k1 : Int)).toArray, .agg (pc b).toArray, .agg (nc (k2 : Int)).toArray, .agg (rc X Y t).toArray].toArray w fun e w' => e = .returned (.agg (pc (wplus (mt wplus Wp.o b k1) (mt wplus Wp.o (rp X Y t) k2))).toArray) ∧ Below w.heap.size w w' := by
  have h := q_Both hT hk1 (fin_num (px b)) (fin_num (py b)) b.isNone hk2 hX hY t
  rw [rp_pc hb] at h
  exact h
set_option maxRecDepth 100000 in
set_option maxHeartbeats 4000000 in
theorem awake_any {w : World} (hT : Tab w)  : Calls Tryd.prog 9 [].toArray w fun e w' => e = .returned (.bool true) ∧ Below w.heap.size w w' := by
  refine enter (args := []) Tryd.func9 rfl 8 rfl (lk rfl) (fun a h => ?_)
  refine go_region h hm [eS 0 (.val (Value.bool false))] (by kernel_rfl) ⟨
    fun L u => u_move u (gd0 rfl) 0 rfl (.const (.bool false)) (Or.inr rfl) rfl,
    trivial⟩ [] [] trivial trivial rfl (fun a w h => ?_)
  refine go_region h hm [eS 1 (.val (.agg (pc (wG)).toArray)), eS 2 (.val (Value.bool true)), eS 3 (.val (Value.bool true)), eS 4 (.val (.agg (pc (wG)).toArray)), eS 5 (.val (.agg (pc (wG)).toArray)), eS 6 (.val (Value.bool true)), eS 7 (.val (Value.bool true)), eS 0 (.val (Value.bool true))] (by kernel_rfl) ⟨
    fun L u => u_call u (gd0 rfl) 1 rfl 16 #[] #[] rfl [] rfl (cE16 _) (.agg (pc (wG)).toArray) (fun w hb => q_Base),
    fun L u => u_call u (gd0 rfl) 2 rfl 10 #[(.tmp 1)] #[26] rfl [.agg (pc (wG)).toArray] rfl (cE10 _) (Value.bool true) (fun w hb => q_FormedP (hT.keep (Bs.kp_of hb)) wG_on),
    fun L u => u_move u (gd0 rfl) 3 rfl (.tmp 2) (Or.inl rfl) rfl,
    fun L u => u_call u (gd1 u 2 true rfl 3 rfl (lk rfl) rfl) 4 rfl 16 #[] #[] rfl [] rfl (cE16 _) (.agg (pc (wG)).toArray) (fun w hb => q_Base),
    fun L u => u_call u (gd1 u 2 true rfl 3 rfl (lk rfl) rfl) 5 rfl 27 #[] #[] rfl [] rfl (cE27 _) (.agg (pc (wG)).toArray) (fun w hb => r_Base),
    fun L u => u_eql u (gd1 u 2 true rfl 3 rfl (lk rfl) rfl) 6 rfl 26 26 (.tmp 4) (.tmp 5) rfl rfl rfl Tryd.eqGuardType26 (true) (fun w => eq_pc_same _ w),
    fun L u => u_pick u (gd0 rfl) 7 rfl (.tmp 3) (.tmp 6) (.const (.bool false)) rfl rfl rfl rfl _ rfl,
    fun L u => u_move u (gd0 rfl) 0 rfl (.tmp 7) (Or.inr rfl) rfl,
    trivial⟩ [(0, .val (Value.bool true))] [] ⟨rfl, trivial⟩ trivial rfl (fun a w h => ?_)
  refine wp_ret ?_
  refine ret_slot h 0 rfl (lk rfl) (Value.bool true) rfl ?_
  exact ⟨rfl, h.grows⟩
end Go.Proofs.YtimaaendbfjblaaDoor
namespace Go.Proofs.YtimaaendbfjblaaDoor
open Go.RowKit

/-- The byte of a number that stands for 256^k. -/
def Y (k : Nat) (a : Int) : Int := a / 256 ^ k % 256
theorem Y_lo (k : Nat) (a : Int) : 0 ≤ Y k a := Int.emod_nonneg _ (by omega)
theorem Y_hi (k : Nat) (a : Int) : Y k a < 256 := Int.emod_lt_of_pos _ (by omega)
theorem B_pow (q : Nat) : B ^ q = 256 ^ (8 * q) := by rw [Int.pow_mul]; rfl
theorem byte_word (a : Int) (q r : Nat) (hr : r < 8) : L q a / 256 ^ r % 256 = Y (8 * q + r) a := by
  unfold L Y
  rw [Int.pow_add, ← B_pow, ← Int.ediv_ediv_of_nonneg (Int.le_of_lt (Bk_pos q))]
  generalize a / B ^ q = x
  unfold B
  match r, hr with
  | 0, _ => simp
  | 1, _ => simp; omega
  | 2, _ => simp; omega
  | 3, _ => simp; omega
  | 4, _ => simp; omega
  | 5, _ => simp; omega
  | 6, _ => simp; omega
  | 7, _ => simp; omega
  | n + 8, h => omega

/-- The number of r bytes from place o on, the least first. -/
def E (f : Nat → Int) (o : Nat) : Nat → Int
  | 0 => 0
  | r + 1 => E f o r + f (o + r) * 256 ^ r
theorem E_bd {f : Nat → Int} (hf : ∀ i, 0 ≤ f i ∧ f i < 256) (o : Nat) : ∀ r, 0 ≤ E f o r ∧ E f o r < 256 ^ r
  | 0 => by simp [E]
  | r + 1 => by
    have h := E_bd hf o r
    have hp : (0 : Int) < 256 ^ r := Int.pow_pos (by omega)
    have h1 := (hf (o + r)).1
    have h2 : f (o + r) * 256 ^ r ≤ 255 * 256 ^ r := Int.mul_le_mul_of_nonneg_right (by have := (hf (o + r)).2; omega) (Int.le_of_lt hp)
    have h3 : 0 ≤ f (o + r) * 256 ^ r := Int.mul_nonneg h1 (Int.le_of_lt hp)
    simp only [E, Int.pow_succ]
    omega
theorem E_word (a : Int) (j : Nat) : E (fun i => Y i a) (8 * j) 8 = L j a := by
  have h1 := L_lo j a
  have h2 := L_hi j a
  simp only [E, ← byte_word a j _ (show 0 < 8 by omega), ← byte_word a j _ (show 1 < 8 by omega), ← byte_word a j _ (show 2 < 8 by omega), ← byte_word a j _ (show 3 < 8 by omega), ← byte_word a j _ (show 4 < 8 by omega), ← byte_word a j _ (show 5 < 8 by omega), ← byte_word a j _ (show 6 < 8 by omega), ← byte_word a j _ (show 7 < 8 by omega)]
  generalize L j a = x at *
  simp
  omega
theorem E_congr {f g : Nat → Int} (o : Nat) : ∀ r, (∀ i, i < r → f (o + i) = g (o + i)) → E f o r = E g o r
  | 0, _ => rfl
  | r + 1, h => by simp only [E]; rw [E_congr o r (fun i hi => h i (by omega)), h r (by omega)]

end Go.Proofs.YtimaaendbfjblaaDoor

namespace Go.Proofs.YtimaaendbfjblaaDoor
open Go.RowKit

/-- n bytes lie from an address on. -/
structure Rd (w : World) (b o n : Nat) (f : Nat → Int) : Prop where
  c : ∀ i, i < n → w.cell? ⟨b, o + i, none⟩ = some (.int .u8 (f i))
/-- A row of n bytes of its own, that may be written. -/
structure Row8 (w : World) (b n : Nat) (f : Nat → Int) : Prop where
  lt : b < w.heap.size
  c : ∀ i, i < n → w.cell? ⟨b, i, none⟩ = some (.int .u8 (f i))
  z : ∀ i, i < n → w.frozen? ⟨b, i, none⟩ = false
theorem Rd.keep {W w1 : World} {b o n : Nat} {f : Nat → Int} (h : Rd W b o n f) (hb : Below W.heap.size W w1) : Rd w1 b o n f :=
  ⟨fun i hi => later hb (h.c i hi)⟩
theorem Rd.part {w : World} {b o n : Nat} {f : Nat → Int} (h : Rd w b o n f) (k m : Nat) (hk : k + m ≤ n) : Rd w b (o + k) m (fun i => f (k + i)) :=
  ⟨fun i hi => by have := h.c (k + i) (by omega); rwa [← Nat.add_assoc] at this⟩
theorem Rd.congr {w : World} {b o n : Nat} {f g : Nat → Int} (h : Rd w b o n f) (e : ∀ i, i < n → f i = g i) : Rd w b o n g :=
  ⟨fun i hi => by rw [← e i hi]; exact h.c i hi⟩
theorem Row8.keep {W w1 : World} {b n : Nat} {f : Nat → Int} (h : Row8 W b n f) (hb : Below W.heap.size W w1) : Row8 w1 b n f :=
  ⟨Nat.lt_of_lt_of_le h.lt hb.size, fun i hi => later hb (h.c i hi), fun i hi => (hb.frozen (p := ⟨b, i, none⟩) h.lt).trans (h.z i hi)⟩
theorem Row8.rd {w : World} {b n : Nat} {f : Nat → Int} (h : Row8 w b n f) : Rd w b 0 n f := ⟨fun i hi => by rw [Nat.zero_add]; exact h.c i hi⟩
theorem Row8.congr {w : World} {b n : Nat} {f g : Nat → Int} (h : Row8 w b n f) (e : ∀ i, i < n → f i = g i) : Row8 w b n g :=
  ⟨h.lt, fun i hi => by rw [← e i hi]; exact h.c i hi, h.z⟩
theorem Row8.store {w : World} {b n : Nat} {f : Nat → Int} (h : Row8 w b n f) (k : Nat) (hk : k < n) (v : Int) : Row8 (w.setCell ⟨b, k, none⟩ (.int .u8 v)) b n (fun i => if i = k then v else f i) := by
  refine ⟨by simpa using h.lt, fun i hi => ?_, fun i hi => by rw [World.frozen?_setCell]; exact h.z i hi⟩
  have hc := h.c i hi
  have hcs := h.c k hk
  by_cases e : i = k
  · subst e; simp [go_sem, hc]
  · simp [go_sem, hc, e]
end Go.Proofs.YtimaaendbfjblaaDoor
namespace Go.Proofs.YtimaaendbfjblaaDoor
open Go.RowKit

theorem info8 : (Tryd.prog.info? 5).map (fun i => (i.zero, i.size, i.bytes)) = some (some (.int .u8 0), 1, 1) := by kernel_rfl
def cells8 (l : List Nat) : List Value := l.map (fun (x : Nat) => Value.int .u8 (x : Int))
theorem own_keep {w w' : World} {base n : Nat} {v : Value} {xs : List Value} (h : w.ownsRow base 5 1 v n xs) (hb : Below w.heap.size w w') : w'.ownsRow base 5 1 v n xs := by
  refine ⟨h.1, ?_⟩
  rcases h.2 with h0 | ⟨g, cap, cur, rfl, hg, hh, h1, h2, h3, h4⟩
  · exact Or.inl h0
  · exact Or.inr ⟨g, cap, cur, rfl, hg, by rw [hb.block g (h.lt g rfl).2]; exact hh, h1, h2, h3, h4⟩

theorem own_shape {w : World} {base n : Nat} {v : Value} {xs : List Value} (h : w.ownsRow base 5 1 v n xs) : ∃ a cap, v = .slice a n cap := by
  rcases h.2 with ⟨rfl, rfl⟩ | ⟨g, cap, cur, rfl, _⟩
  · exact ⟨_, _, rfl⟩
  · exact ⟨_, _, rfl⟩
theorem own_rd {w : World} {base n : Nat} {v : Value} {f : Nat → Int} {xs : List Value} (h : w.ownsRow base 5 1 v n xs) (hx : ∀ j, j < n → xs[j]? = some (.int .u8 (f j))) (hn : 0 < n) : ∃ g cap, v = .slice (some ⟨g, 0, none⟩) n cap ∧ base ≤ g ∧ Row8 w g n f := by
  rcases h.2 with ⟨_, h0⟩ | ⟨g, cap, cur, rfl, hg, _⟩
  · omega
  · refine ⟨g, cap, rfl, hg, (h.lt g rfl).2, fun j hj => ?_, fun j _ => h.frozenAt j⟩
    rw [h.cellAt j (by omega)]; exact hx j hj
theorem own_cap {w : World} {base n g cap : Nat} {xs : List Value} (h : w.ownsRow base 5 1 (.slice (some ⟨g, 0, none⟩) n cap) n xs) : n ≤ cap := by
  rcases h.2 with ⟨h1, _⟩ | ⟨g', cap', cur, h1, _, _, hle, _⟩
  · cases h1
  · cases h1; exact hle


theorem cells8_at (l : List Nat) (i : Nat) (h : i < l.length) : (cells8 l)[i]? = some (Value.int .u8 ((l.getD i 0 : Nat) : Int)) := by
  simp [cells8, h]
theorem getD_lt {l : List Nat} (h : ∀ x ∈ l, x < 256) (i : Nat) : l.getD i 0 < 256 := by
  rw [List.getD_eq_getElem?_getD]
  by_cases hi : i < l.length
  · rw [List.getElem?_eq_getElem hi]; exact h _ (List.getElem_mem hi)
  · rw [List.getElem?_eq_none (by omega)]; simp
theorem Rd.first {w : World} {b o n : Nat} {f : Nat → Int} (h : Rd w b o n f) (m : Nat) (hm : m ≤ n) : Rd w b o m f := ⟨fun i hi => h.c i (by omega)⟩
/-- A text's bytes, laid anew. -/
theorem rd_bytes (w : World) (s : ByteArray) (c : Nat) (z : Nat × Nat) : Rd (w.drew.alloc (.cells (bytesRow s c) 5 z)) w.heap.size 0 s.size (fun i => ((s.data.toList.getD i 0).toNat : Int)) := by
  refine ⟨fun i hi => ?_⟩
  have hb := bytesRow_at s c i hi
  have hh : (w.drew.alloc (.cells (bytesRow s c) 5 z)).heap[w.heap.size]? = some (.cells (bytesRow s c) 5 z) := by
    show (w.heap.push (.cells (bytesRow s c) 5 z))[w.heap.size]? = _
    simp
  have hg : s.data.toList.getD i 0 = s.data[i] := by
    rw [List.getD_eq_getElem?_getD, List.getElem?_eq_getElem (by simpa using hi)]
    rfl
  rw [Nat.zero_add, hg, ← hb]
  unfold World.cell?
  dsimp only
  rw [hh]
  first | rfl | simp
end Go.Proofs.YtimaaendbfjblaaDoor
namespace Go.Proofs.YtimaaendbfjblaaDoor
open Go.RowKit

/-- Some bytes: none, or n from an address on. -/
structure BA (w : World) (a : Option Addr) (n : Nat) (f : Nat → Nat) : Prop where
  lt : ∀ i, f i < 256
  at_ : n = 0 ∨ ∃ b o, a = some ⟨b, o, none⟩ ∧ Rd w b o n (fun i => ((f i : Nat) : Int))
theorem BA.keep {W w1 : World} {a : Option Addr} {n : Nat} {f : Nat → Nat} (h : BA W a n f) (hb : Below W.heap.size W w1) : BA w1 a n f :=
  ⟨h.lt, h.at_.elim Or.inl fun ⟨b, o, e, hr⟩ => Or.inr ⟨b, o, e, hr.keep hb⟩⟩
/-- The first n bytes of f, as a list. -/
def fl (f : Nat → Nat) (n : Nat) : List Nat := (List.range n).map f
theorem fl_len (f : Nat → Nat) (n : Nat) : (fl f n).length = n := by simp [fl]
theorem fl_at (f : Nat → Nat) {n i : Nat} (h : i < n) : (fl f n)[i]? = some (f i) := by simp [fl, h]
theorem fl_lt {f : Nat → Nat} (hf : ∀ i, f i < 256) (n : Nat) : ∀ x ∈ fl f n, x < 256 := by
  intro x hx
  simp only [fl, List.mem_map] at hx
  obtain ⟨i, _, rfl⟩ := hx
  exact hf i
theorem cells8_len (l : List Nat) : (cells8 l).length = l.length := by simp [cells8]
theorem cells8_one (l : List Nat) : ∀ u ∈ cells8 l, u.oneCell' = true := by
  intro u hu
  simp only [cells8, List.mem_map] at hu
  obtain ⟨i, _, rfl⟩ := hu
  rfl
theorem run_append_zero {P : Program} (w : World) (base : Nat) (t ty e : TypeId) (i : TypeInfo) (size : Nat) (ht : P.underlying t = some (.slice e)) (hi : P.info? e = some i)
    (v : Value) (n : Nat) (xs : List Value) (hown : w.ownsRow base e size v n xs) (x : Option Addr) (c : Nat) :
    (Builtin.append_ #[t, t] ty #[v, .slice x 0 c]).run P w = .ok v w := by
  rcases hown.2 with ⟨rfl, rfl⟩ | ⟨g, cap, cur, rfl, _, _, hnc, _⟩
  · cases x <;> simp [Builtin.append_, run_underlying ht, sizeOf, typeInfo, hi, Builtin.lenOf, Builtin.firstCells, loadCells, loadCellsFrom]
  · cases x <;> simp [Builtin.append_, run_underlying ht, sizeOf, typeInfo, hi, Builtin.lenOf, Builtin.firstCells, hnc, storeCells, loadCells, loadCellsFrom]
/-- Bytes that are appended to a row of one's own. -/
theorem run_app {W : World} {base : Nat} {v : Value} {n : Nat} {l : List Nat} (hown : W.ownsRow base 5 1 v n (cells8 l)) {x : Option Addr} {m c : Nat} {f : Nat → Nat} (hx : BA W x m f) (hb : n + m ≤ 1000000) (hbase : base ≤ W.heap.size) (ty : TypeId) :
    ∃ v' w', (Builtin.append_ #[43, 43] ty #[v, .slice x m c]).run Tryd.prog W = .ok v' w' ∧ w'.ownsRow base 5 1 v' (n + m) (cells8 (l ++ fl f m)) ∧ W.grownBy w' v.ownBlock := by
  obtain ⟨i0, hi, hz0, hz1, hz2⟩ := info_parts info8
  rcases hx.at_ with rfl | ⟨b, o, rfl, hr⟩
  · refine ⟨v, W, run_append_zero W base _ _ 5 i0 1 Tryd.underlying43 hi v n _ hown x c, ?_, World.grownBy.refl _ _⟩
    rw [show fl f 0 = [] from rfl, List.append_nil]
    exact hown
  · obtain ⟨v', w', h1, h2, h3, _⟩ := run_append_own (P := Tryd.prog) W base 43 ty 5 i0 (.int .u8 0) 1 1 Tryd.underlying43 hi hz0 hz1 hz2 rfl (by decide) v n _ hown ⟨b, o, none⟩ m c (cells8 (fl f m)) (by rw [cells8_len, fl_len]; omega) (fun j u hu => by
      have hj : j < m := by
        rcases Nat.lt_or_ge j m with h' | h'
        · exact h'
        · rw [List.getElem?_eq_none (by rw [cells8_len, fl_len]; exact h')] at hu; cases hu
      have hc := hr.c j hj
      rw [cells8_at _ j (by rw [fl_len]; exact hj), List.getD_eq_getElem?_getD, fl_at f hj] at hu
      have ea : (⟨b, o, none⟩ : Addr).add j = ⟨b, o + j, none⟩ := by unfold Addr.add; split <;> simp_all
      rw [ea, hc]
      simpa using hu) (cells8_one _) (by unfold maxLen; omega) (by omega) hbase
    refine ⟨v', w', h1, ?_, h3⟩
    rw [show cells8 (l ++ fl f m) = cells8 l ++ cells8 (fl f m) from List.map_append]
    exact h2
/-- The same, at a step of a region that draws its order. -/
theorem step_app {W : World} {ops : Array Oper} {op : Oper} {a : Act} {K : Act → World → Prop} {Q : Exit → Act → World → Prop} {E : Prop} (hgd : op.guard = none) (s x : Operand)
    (ho : op.op = .call { callee := .builtin .append, args := #[s, x], argTypes := #[43, 43] })
    {base : Nat} {v : Value} {n : Nat} {l : List Nat} (hs : a.eval s = v) (hown : W.ownsRow base 5 1 v n (cells8 l)) {y : Option Addr} {m c : Nat} {f : Nat → Nat} (hx : a.eval x = .slice y m c) (hy : BA W y m f) (hb : n + m ≤ 1000000) (hbase : base ≤ W.heap.size)
    (h : ∀ v' w', w'.ownsRow base 5 1 v' (n + m) (cells8 (l ++ fl f m)) → W.grownBy w' v.ownBlock → K (a.put op.dst v') w') :
    if Region.wanted op (yielded ops a.tmps) = true then Oper.wp Tryd.prog op a W K Q else E := by
  have hw : Region.wanted op (yielded ops a.tmps) = true := by simp [Region.wanted, hgd]
  rw [if_pos hw]
  obtain ⟨v', w', hr, h2, h3⟩ := run_app (c := c) hown hy hb hbase op.type
  unfold Oper.wp execOp
  simp only [ho, resolve, invoke, builtin, Sem.run_bind, Sem.run_pure, Result.andThen_ok, List.map_toArray, List.map_cons, List.map_nil, hs, hx, hr]
  exact h v' w' h2 h3
theorem below_append {w0 w w' : World} {v : Value} {n : Nat} {xs : List Value} (h : Below w0.heap.size w0 w) (ho : w.ownsRow w0.heap.size 5 1 v n xs) (hg : w.grownBy w' v.ownBlock) : Below w0.heap.size w0 w' :=
  h.grown hg h.size (fun k hk => (ho.lt k hk).1)
theorem own_empty (w : World) (base : Nat) (hb : base ≤ w.heap.size) : (w.alloc (.cells #[] 5)).ownsRow base 5 1 (.slice (some ⟨w.heap.size, 0, none⟩) 0 0) 0 (cells8 []) :=
  World.ownsRow_made w #[] 0 hb (by decide) rfl
/-- The same, at a plain region's list. -/
theorem wpList_app {W : World} {ops : Array Oper} {rest : List Oper} {op : Oper} {a : Act} {Q : Exit → Act → World → Prop} (hgd : op.guard = none) (s x : Operand)
    (ho : op.op = .call { callee := .builtin .append, args := #[s, x], argTypes := #[43, 43] })
    {base : Nat} {v : Value} {n : Nat} {l : List Nat} (hs : a.eval s = v) (hown : W.ownsRow base 5 1 v n (cells8 l)) {y : Option Addr} {m c : Nat} {f : Nat → Nat} (hx : a.eval x = .slice y m c) (hy : BA W y m f) (hb : n + m ≤ 1000000) (hbase : base ≤ W.heap.size)
    (h : ∀ v' w', w'.ownsRow base 5 1 v' (n + m) (cells8 (l ++ fl f m)) → W.grownBy w' v.ownBlock → wpList Tryd.prog ops Q rest (a.put op.dst v') w') : wpList Tryd.prog ops Q (op :: rest) a W := by
  refine wpList_plain hgd fun K hK => ?_
  obtain ⟨v', w', hr, h2, h3⟩ := run_app (c := c) hown hy hb hbase op.type
  unfold Oper.wp execOp
  simp only [ho, resolve, invoke, builtin, Sem.run_bind, Sem.run_pure, Result.andThen_ok, List.map_toArray, List.map_cons, List.map_nil, hs, hx, hr]
  exact hK _ _ (h v' w' h2 h3)
/-- One byte that was laid in a block of its own. -/
theorem one_made (w : World) (x : Nat) (h : x < 256) : BA (w.alloc (.cells #[.int .u8 (x : Int)] 5)) (some ⟨w.heap.size, 0, none⟩) 1 (fun _ => x) :=
  ⟨fun _ => h, Or.inr ⟨_, _, rfl, ⟨fun i hi => by
    obtain rfl : i = 0 := by omega
    rw [cell_of_row _ _ _ _ _ _ (heap_alloc_new w _)]; rfl⟩⟩⟩
end Go.Proofs.YtimaaendbfjblaaDoor
