/- What the program's own Formed, lift, drop, times, Add, Mul, Both and Base answer. What the program answers at points, and that it is awake. The statements of layer 8, walked over what the program answers. What the document's own Add answers, for all numbers: the same as limb.Add. -/
import Derived.Test.YtimaaendbfjblabDoorM20
import Derived.Test.YtimaaendbfjblabDoorM02
namespace Go.Proofs.YtimaaendbfjblabDoor
open Go.RowKit

theorem q_below {w : World} (hT : Tab w) {a : Int} (ha : Num a) {t : Bool} (ht : decide (a < md 0) = t) : Calls Tryd.prog 21 [.int .i64 0, .agg (nc a).toArray].toArray w fun e w' => e = .returned (.bool t) ∧ Below w.heap.size w w' := by
  rw [← ht]
  exact below_any ha hT
set_option maxRecDepth 100000 in
set_option maxHeartbeats 4000000 in
theorem q_formed_none {w : World} {X Y : Int} (hX : Num X) (hY : Num Y) : Calls Tryd.prog 10 [.agg (nc (X) ++ nc (Y) ++ [Value.bool true]).toArray].toArray w fun e w' => e = .returned (.bool (decide (X = 0 ∧ Y = 0))) ∧ Below w.heap.size w w' := by
  refine enter (args := [.agg (nc (X) ++ nc (Y) ++ [Value.bool true]).toArray]) Tryd.func10 rfl 27 rfl (lk rfl) (fun a h => ?_)
  refine go_region h hm [eN 1 (nc (X) ++ nc (Y) ++ [Value.bool true]), eS 2 (.val (Value.bool false))] (by kernel_rfl) ⟨
    fun L u => u_box u (gd0 rfl) 26 (.tmp 0) rfl 1 rfl rfl rfl _ rfl,
    fun L u => u_move u (gd0 rfl) 2 rfl (.const (.bool false)) (Or.inr rfl) rfl,
    trivial⟩ [(1, .ptr 1 0)] [(1, nc (X) ++ nc (Y) ++ [Value.bool true])] ⟨rfl, trivial⟩ ⟨rfl, trivial⟩ rfl (fun a w h => ?_)
  refine wp_seq ?_
  refine go_region h hm [eS 3 (.ptr 1 8), eS 4 (.val (Value.bool true))] (by kernel_rfl) ⟨
    fun L u => u_field u (gd0 rfl) 3 rfl 26 (.tmp 1) 2 rfl rfl rfl Tryd.underlying26 rfl i4 _ rfl,
    fun L u => u_load1 u (gd0 rfl) 4 rfl 4 (.tmp 3) rfl rfl rfl Tryd.underlying4 rfl _ rfl,
    trivial⟩ [(1, .ptr 1 0), (4, .val (Value.bool true))] [(1, nc (X) ++ nc (Y) ++ [Value.bool true])] ⟨rfl, rfl, trivial⟩ ⟨rfl, trivial⟩ rfl (fun a w h => ?_)
  refine go_cond h true rfl (fun ht => ?_) (fun hf => ?_)
  case refine_2 => cases hf
  refine go_region h hm [eS 5 (.val (.agg (nc (X) ++ nc (Y) ++ [Value.bool true]).toArray)), eS 6 (.val (.agg (nz ++ nz ++ [Value.bool true]).toArray)), eS 7 (.val (Value.bool (decide (X = 0 ∧ Y = 0)))), eS 2 (.val (Value.bool (decide (X = 0 ∧ Y = 0))))] (by kernel_rfl) ⟨
    fun L u => u_load u (gd0 rfl) 5 rfl 26 (.tmp 1) rfl rfl rfl Tryd.underlying26 rfl i26 (lk rfl) _ rfl,
    fun L u => u_call u (gd0 rfl) 6 rfl 20 #[] #[] rfl [] rfl (cE20 _) (.agg (nz ++ nz ++ [Value.bool true]).toArray) (fun w hb => q_neutral),
    fun L u => u_eql u (gd0 rfl) 7 rfl 26 26 (.tmp 5) (.tmp 6) rfl rfl rfl Tryd.eqGuardType26 (decide (X = 0 ∧ Y = 0)) (fun w => eq_none hX hY w),
    fun L u => u_move u (gd0 rfl) 2 rfl (.tmp 7) (Or.inr rfl) rfl,
    trivial⟩ [(2, .val (Value.bool (decide (X = 0 ∧ Y = 0))))] [] ⟨rfl, trivial⟩ trivial rfl (fun a w h => ?_)
  refine wp_ret ?_
  refine then_ret ?_
  refine ret_slot h 2 rfl (lk rfl) (Value.bool (decide (X = 0 ∧ Y = 0))) rfl ?_
  exact ⟨rfl, h.grows⟩
set_option maxRecDepth 100000 in
set_option maxHeartbeats 4000000 in
theorem q_formed_x {w : World} (hT : Tab w) {X Y : Int} (hX : Num X) (bX : decide (X < md 0) = false) : Calls Tryd.prog 10 [.agg (nc (X) ++ nc (Y) ++ [Value.bool false]).toArray].toArray w fun e w' => e = .returned (.bool false) ∧ Below w.heap.size w w' := by
  refine enter (args := [.agg (nc (X) ++ nc (Y) ++ [Value.bool false]).toArray]) Tryd.func10 rfl 27 rfl (lk rfl) (fun a h => ?_)
  refine go_region h hm [eN 1 (nc (X) ++ nc (Y) ++ [Value.bool false]), eS 2 (.val (Value.bool false))] (by kernel_rfl) ⟨
    fun L u => u_box u (gd0 rfl) 26 (.tmp 0) rfl 1 rfl rfl rfl _ rfl,
    fun L u => u_move u (gd0 rfl) 2 rfl (.const (.bool false)) (Or.inr rfl) rfl,
    trivial⟩ [(1, .ptr 1 0)] [(1, nc (X) ++ nc (Y) ++ [Value.bool false])] ⟨rfl, trivial⟩ ⟨rfl, trivial⟩ rfl (fun a w h => ?_)
  refine wp_seq ?_
  refine go_region h hm [eS 3 (.ptr 1 8), eS 4 (.val (Value.bool false))] (by kernel_rfl) ⟨
    fun L u => u_field u (gd0 rfl) 3 rfl 26 (.tmp 1) 2 rfl rfl rfl Tryd.underlying26 rfl i4 _ rfl,
    fun L u => u_load1 u (gd0 rfl) 4 rfl 4 (.tmp 3) rfl rfl rfl Tryd.underlying4 rfl _ rfl,
    trivial⟩ [(1, .ptr 1 0), (4, .val (Value.bool false))] [(1, nc (X) ++ nc (Y) ++ [Value.bool false])] ⟨rfl, rfl, trivial⟩ ⟨rfl, trivial⟩ rfl (fun a w h => ?_)
  refine go_cond h false rfl (fun ht => ?_) (fun hf => ?_)
  case refine_1 => cases ht
  refine wp_skip ?_
  refine then_norm ?_
  refine go_region h hm [eS 8 (.ptr 1 0), eS 9 (.val (.agg (nc (X)).toArray)), eS 10 (.val (Value.bool false)), eS 11 (.val (Value.bool false)), eS 12 (.val undef), eS 13 (.val undef), eS 14 (.val undef), eS 15 (.val (Value.bool false)), eS 16 (.val (Value.bool false)), eS 17 (.val undef), eS 18 (.val undef), eS 19 (.val undef), eS 20 (.val undef), eS 21 (.val undef), eS 22 (.val undef), eS 23 (.val undef), eS 24 (.val undef), eS 25 (.val undef), eS 26 (.val (Value.bool false)), eS 2 (.val (Value.bool false))] (by kernel_rfl) ⟨
    fun L u => u_field u (gd0 rfl) 8 rfl 26 (.tmp 1) 0 rfl rfl rfl Tryd.underlying26 rfl i24 _ rfl,
    fun L u => u_load u (gd0 rfl) 9 rfl 24 (.tmp 8) rfl rfl rfl Tryd.underlying24 rfl i24 (lk rfl) _ rfl,
    fun L u => u_call u (gd0 rfl) 10 rfl 21 #[(.const (.int .i64 0)), (.tmp 9)] #[3, 24] rfl [(Value.int IntKind.i64 0), .agg (nc (X)).toArray] rfl (cE21 _) (Value.bool false) (fun w hb => q_below (hT.keep (Bs.kp_of hb)) hX bX),
    fun L u => u_move u (gd0 rfl) 11 rfl (.tmp 10) (Or.inl rfl) rfl,
    fun L u => u_no u 3 true rfl 11 rfl (lk rfl) rfl 12 rfl,
    fun L u => u_no u 3 true rfl 11 rfl (lk rfl) rfl 13 rfl,
    fun L u => u_no u 3 true rfl 11 rfl (lk rfl) rfl 14 rfl,
    fun L u => u_pick u (gd0 rfl) 15 rfl (.tmp 11) (.tmp 14) (.const (.bool false)) rfl rfl rfl rfl _ rfl,
    fun L u => u_move u (gd0 rfl) 16 rfl (.tmp 15) (Or.inl rfl) rfl,
    fun L u => u_no u 8 true rfl 16 rfl (lk rfl) rfl 17 rfl,
    fun L u => u_no u 8 true rfl 16 rfl (lk rfl) rfl 18 rfl,
    fun L u => u_no u 8 true rfl 16 rfl (lk rfl) rfl 19 rfl,
    fun L u => u_no u 8 true rfl 16 rfl (lk rfl) rfl 20 rfl,
    fun L u => u_no u 8 true rfl 16 rfl (lk rfl) rfl 21 rfl,
    fun L u => u_no u 8 true rfl 16 rfl (lk rfl) rfl 22 rfl,
    fun L u => u_no u 8 true rfl 16 rfl (lk rfl) rfl 23 rfl,
    fun L u => u_no u 8 true rfl 16 rfl (lk rfl) rfl 24 rfl,
    fun L u => u_no u 8 true rfl 16 rfl (lk rfl) rfl 25 rfl,
    fun L u => u_pick u (gd0 rfl) 26 rfl (.tmp 16) (.tmp 25) (.const (.bool false)) rfl rfl rfl rfl _ rfl,
    fun L u => u_move u (gd0 rfl) 2 rfl (.tmp 26) (Or.inr rfl) rfl,
    trivial⟩ [(2, .val (Value.bool false))] [] ⟨rfl, trivial⟩ trivial rfl (fun a w h => ?_)
  refine wp_ret ?_
  refine ret_slot h 2 rfl (lk rfl) (Value.bool false) rfl ?_
  exact ⟨rfl, h.grows⟩
set_option maxRecDepth 100000 in
set_option maxHeartbeats 4000000 in
theorem q_formed_y {w : World} (hT : Tab w) {X Y : Int} (hX : Num X) (bX : decide (X < md 0) = true) (hY : Num Y) (bY : decide (Y < md 0) = false) : Calls Tryd.prog 10 [.agg (nc (X) ++ nc (Y) ++ [Value.bool false]).toArray].toArray w fun e w' => e = .returned (.bool false) ∧ Below w.heap.size w w' := by
  refine enter (args := [.agg (nc (X) ++ nc (Y) ++ [Value.bool false]).toArray]) Tryd.func10 rfl 27 rfl (lk rfl) (fun a h => ?_)
  refine go_region h hm [eN 1 (nc (X) ++ nc (Y) ++ [Value.bool false]), eS 2 (.val (Value.bool false))] (by kernel_rfl) ⟨
    fun L u => u_box u (gd0 rfl) 26 (.tmp 0) rfl 1 rfl rfl rfl _ rfl,
    fun L u => u_move u (gd0 rfl) 2 rfl (.const (.bool false)) (Or.inr rfl) rfl,
    trivial⟩ [(1, .ptr 1 0)] [(1, nc (X) ++ nc (Y) ++ [Value.bool false])] ⟨rfl, trivial⟩ ⟨rfl, trivial⟩ rfl (fun a w h => ?_)
  refine wp_seq ?_
  refine go_region h hm [eS 3 (.ptr 1 8), eS 4 (.val (Value.bool false))] (by kernel_rfl) ⟨
    fun L u => u_field u (gd0 rfl) 3 rfl 26 (.tmp 1) 2 rfl rfl rfl Tryd.underlying26 rfl i4 _ rfl,
    fun L u => u_load1 u (gd0 rfl) 4 rfl 4 (.tmp 3) rfl rfl rfl Tryd.underlying4 rfl _ rfl,
    trivial⟩ [(1, .ptr 1 0), (4, .val (Value.bool false))] [(1, nc (X) ++ nc (Y) ++ [Value.bool false])] ⟨rfl, rfl, trivial⟩ ⟨rfl, trivial⟩ rfl (fun a w h => ?_)
  refine go_cond h false rfl (fun ht => ?_) (fun hf => ?_)
  case refine_1 => cases ht
  refine wp_skip ?_
  refine then_norm ?_
  refine go_region h hm [eS 8 (.ptr 1 0), eS 9 (.val (.agg (nc (X)).toArray)), eS 10 (.val (Value.bool true)), eS 11 (.val (Value.bool true)), eS 12 (.ptr 1 4), eS 13 (.val (.agg (nc (Y)).toArray)), eS 14 (.val (Value.bool false)), eS 15 (.val (Value.bool false)), eS 16 (.val (Value.bool false)), eS 17 (.val undef), eS 18 (.val undef), eS 19 (.val undef), eS 20 (.val undef), eS 21 (.val undef), eS 22 (.val undef), eS 23 (.val undef), eS 24 (.val undef), eS 25 (.val undef), eS 26 (.val (Value.bool false)), eS 2 (.val (Value.bool false))] (by kernel_rfl) ⟨
    fun L u => u_field u (gd0 rfl) 8 rfl 26 (.tmp 1) 0 rfl rfl rfl Tryd.underlying26 rfl i24 _ rfl,
    fun L u => u_load u (gd0 rfl) 9 rfl 24 (.tmp 8) rfl rfl rfl Tryd.underlying24 rfl i24 (lk rfl) _ rfl,
    fun L u => u_call u (gd0 rfl) 10 rfl 21 #[(.const (.int .i64 0)), (.tmp 9)] #[3, 24] rfl [(Value.int IntKind.i64 0), .agg (nc (X)).toArray] rfl (cE21 _) (Value.bool true) (fun w hb => q_below (hT.keep (Bs.kp_of hb)) hX bX),
    fun L u => u_move u (gd0 rfl) 11 rfl (.tmp 10) (Or.inl rfl) rfl,
    fun L u => u_field u (gd1 u 3 true rfl 11 rfl (lk rfl) rfl) 12 rfl 26 (.tmp 1) 1 rfl rfl rfl Tryd.underlying26 rfl i24 _ rfl,
    fun L u => u_load u (gd1 u 3 true rfl 11 rfl (lk rfl) rfl) 13 rfl 24 (.tmp 12) rfl rfl rfl Tryd.underlying24 rfl i24 (lk rfl) _ rfl,
    fun L u => u_call u (gd1 u 3 true rfl 11 rfl (lk rfl) rfl) 14 rfl 21 #[(.const (.int .i64 0)), (.tmp 13)] #[3, 24] rfl [(Value.int IntKind.i64 0), .agg (nc (Y)).toArray] rfl (cE21 _) (Value.bool false) (fun w hb => q_below (hT.keep (Bs.kp_of hb)) hY bY),
    fun L u => u_pick u (gd0 rfl) 15 rfl (.tmp 11) (.tmp 14) (.const (.bool false)) rfl rfl rfl rfl _ rfl,
    fun L u => u_move u (gd0 rfl) 16 rfl (.tmp 15) (Or.inl rfl) rfl,
    fun L u => u_no u 8 true rfl 16 rfl (lk rfl) rfl 17 rfl,
    fun L u => u_no u 8 true rfl 16 rfl (lk rfl) rfl 18 rfl,
    fun L u => u_no u 8 true rfl 16 rfl (lk rfl) rfl 19 rfl,
    fun L u => u_no u 8 true rfl 16 rfl (lk rfl) rfl 20 rfl,
    fun L u => u_no u 8 true rfl 16 rfl (lk rfl) rfl 21 rfl,
    fun L u => u_no u 8 true rfl 16 rfl (lk rfl) rfl 22 rfl,
    fun L u => u_no u 8 true rfl 16 rfl (lk rfl) rfl 23 rfl,
    fun L u => u_no u 8 true rfl 16 rfl (lk rfl) rfl 24 rfl,
    fun L u => u_no u 8 true rfl 16 rfl (lk rfl) rfl 25 rfl,
    fun L u => u_pick u (gd0 rfl) 26 rfl (.tmp 16) (.tmp 25) (.const (.bool false)) rfl rfl rfl rfl _ rfl,
    fun L u => u_move u (gd0 rfl) 2 rfl (.tmp 26) (Or.inr rfl) rfl,
    trivial⟩ [(2, .val (Value.bool false))] [] ⟨rfl, trivial⟩ trivial rfl (fun a w h => ?_)
  refine wp_ret ?_
  refine ret_slot h 2 rfl (lk rfl) (Value.bool false) rfl ?_
  exact ⟨rfl, h.grows⟩
theorem formed_poly {p : Nat} [NeZero p] (b x y : Fin p) {v1 : Fin p} (ev1 : v1 = y * y) {v2 : Fin p} (ev2 : v2 = x * x * x - (x + x + x) + b) : decide (v1 = v2) = decide (y * y = x * x * x - 3 * x + b) := by
  subst ev1 ev2
  have e : ∀ l r l2 r2 : Fin p, l = l2 → r = r2 → decide (l = r) = decide (l2 = r2) := fun l r l2 r2 h1 h2 => by rw [h1, h2]
  apply e <;> grobner
set_option maxRecDepth 100000 in
set_option maxHeartbeats 8000000 in
theorem q_formed_at {w : World} (hT : Tab w) (x y : Fin m0) : Calls Tryd.prog 10 [.agg (fc (x) ++ fc (y) ++ [Value.bool false]).toArray].toArray w fun e w' => e = .returned (.bool (decide (y * y = x * x * x - 3 * x + wb))) ∧ Below w.heap.size w w' := by
  obtain ⟨v1, ev1⟩ : ∃ z, z = y * y := ⟨_, rfl⟩
  obtain ⟨v2, ev2⟩ : ∃ z, z = x * x * x - (x + x + x) + wb := ⟨_, rfl⟩
  have hpp := formed_poly wb x y ev1 ev2
  refine enter (args := [.agg (fc (x) ++ fc (y) ++ [Value.bool false]).toArray]) Tryd.func10 rfl 27 rfl (lk rfl) (fun a h => ?_)
  refine go_region h hm [eN 1 (fc (x) ++ fc (y) ++ [Value.bool false]), eS 2 (.val (Value.bool false))] (by kernel_rfl) ⟨
    fun L u => u_box u (gd0 rfl) 26 (.tmp 0) rfl 1 rfl rfl rfl _ rfl,
    fun L u => u_move u (gd0 rfl) 2 rfl (.const (.bool false)) (Or.inr rfl) rfl,
    trivial⟩ [(1, .ptr 1 0)] [(1, fc (x) ++ fc (y) ++ [Value.bool false])] ⟨rfl, trivial⟩ ⟨rfl, trivial⟩ rfl (fun a w h => ?_)
  refine wp_seq ?_
  refine go_region h hm [eS 3 (.ptr 1 8), eS 4 (.val (Value.bool false))] (by kernel_rfl) ⟨
    fun L u => u_field u (gd0 rfl) 3 rfl 26 (.tmp 1) 2 rfl rfl rfl Tryd.underlying26 rfl i4 _ rfl,
    fun L u => u_load1 u (gd0 rfl) 4 rfl 4 (.tmp 3) rfl rfl rfl Tryd.underlying4 rfl _ rfl,
    trivial⟩ [(1, .ptr 1 0), (4, .val (Value.bool false))] [(1, fc (x) ++ fc (y) ++ [Value.bool false])] ⟨rfl, rfl, trivial⟩ ⟨rfl, trivial⟩ rfl (fun a w h => ?_)
  refine go_cond h false rfl (fun ht => ?_) (fun hf => ?_)
  case refine_1 => cases ht
  refine wp_skip ?_
  refine then_norm ?_
  refine go_region h hm [eS 8 (.ptr 1 0), eS 9 (.val (.agg (fc (x)).toArray)), eS 10 (.val (Value.bool true)), eS 11 (.val (Value.bool true)), eS 12 (.ptr 1 4), eS 13 (.val (.agg (fc (y)).toArray)), eS 14 (.val (Value.bool true)), eS 15 (.val (Value.bool true)), eS 16 (.val (Value.bool true)), eS 17 (.ptr 1 4), eS 18 (.val (.agg (fc (y)).toArray)), eS 19 (.ptr 1 4), eS 20 (.val (.agg (fc (y)).toArray)), eS 21 (.val (.agg (fc (v1)).toArray)), eS 22 (.ptr 1 0), eS 23 (.val (.agg (fc (x)).toArray)), eS 24 (.val (.agg (fc (v2)).toArray)), eS 25 (.val (Value.bool (decide (v1 = v2)))), eS 26 (.val (Value.bool (decide (v1 = v2)))), eS 2 (.val (Value.bool (decide (v1 = v2))))] (by kernel_rfl) ⟨
    fun L u => u_field u (gd0 rfl) 8 rfl 26 (.tmp 1) 0 rfl rfl rfl Tryd.underlying26 rfl i24 _ rfl,
    fun L u => u_load u (gd0 rfl) 9 rfl 24 (.tmp 8) rfl rfl rfl Tryd.underlying24 rfl i24 (lk rfl) _ rfl,
    fun L u => u_call u (gd0 rfl) 10 rfl 21 #[(.const (.int .i64 0)), (.tmp 9)] #[3, 24] rfl [(Value.int IntKind.i64 0), .agg (fc (x)).toArray] rfl (cE21 _) (Value.bool true) (fun w hb => q_below (hT.keep (Bs.kp_of hb)) (fin_num _) (fin_lt _)),
    fun L u => u_move u (gd0 rfl) 11 rfl (.tmp 10) (Or.inl rfl) rfl,
    fun L u => u_field u (gd1 u 3 true rfl 11 rfl (lk rfl) rfl) 12 rfl 26 (.tmp 1) 1 rfl rfl rfl Tryd.underlying26 rfl i24 _ rfl,
    fun L u => u_load u (gd1 u 3 true rfl 11 rfl (lk rfl) rfl) 13 rfl 24 (.tmp 12) rfl rfl rfl Tryd.underlying24 rfl i24 (lk rfl) _ rfl,
    fun L u => u_call u (gd1 u 3 true rfl 11 rfl (lk rfl) rfl) 14 rfl 21 #[(.const (.int .i64 0)), (.tmp 13)] #[3, 24] rfl [(Value.int IntKind.i64 0), .agg (fc (y)).toArray] rfl (cE21 _) (Value.bool true) (fun w hb => q_below (hT.keep (Bs.kp_of hb)) (fin_num _) (fin_lt _)),
    fun L u => u_pick u (gd0 rfl) 15 rfl (.tmp 11) (.tmp 14) (.const (.bool false)) rfl rfl rfl rfl _ rfl,
    fun L u => u_move u (gd0 rfl) 16 rfl (.tmp 15) (Or.inl rfl) rfl,
    fun L u => u_field u (gd1 u 8 true rfl 16 rfl (lk rfl) rfl) 17 rfl 26 (.tmp 1) 1 rfl rfl rfl Tryd.underlying26 rfl i24 _ rfl,
    fun L u => u_load u (gd1 u 8 true rfl 16 rfl (lk rfl) rfl) 18 rfl 24 (.tmp 17) rfl rfl rfl Tryd.underlying24 rfl i24 (lk rfl) _ rfl,
    fun L u => u_field u (gd1 u 8 true rfl 16 rfl (lk rfl) rfl) 19 rfl 26 (.tmp 1) 1 rfl rfl rfl Tryd.underlying26 rfl i24 _ rfl,
    fun L u => u_load u (gd1 u 8 true rfl 16 rfl (lk rfl) rfl) 20 rfl 24 (.tmp 19) rfl rfl rfl Tryd.underlying24 rfl i24 (lk rfl) _ rfl,
    fun L u => u_call u (gd1 u 8 true rfl 16 rfl (lk rfl) rfl) 21 rfl 22 #[(.tmp 18), (.tmp 20)] #[24, 24] rfl [.agg (fc (y)).toArray, .agg (fc (y)).toArray] rfl (cE22 _) (.agg (fc (v1)).toArray) (fun w hb => by have g := q_mul (hT.keep (Bs.kp_of hb)) y y; rw [← ev1] at g; exact g),
    fun L u => u_field u (gd1 u 8 true rfl 16 rfl (lk rfl) rfl) 22 rfl 26 (.tmp 1) 0 rfl rfl rfl Tryd.underlying26 rfl i24 _ rfl,
    fun L u => u_load u (gd1 u 8 true rfl 16 rfl (lk rfl) rfl) 23 rfl 24 (.tmp 22) rfl rfl rfl Tryd.underlying24 rfl i24 (lk rfl) _ rfl,
    fun L u => u_call u (gd1 u 8 true rfl 16 rfl (lk rfl) rfl) 24 rfl 23 #[(.tmp 23)] #[24] rfl [.agg (fc (x)).toArray] rfl (cE23 _) (.agg (fc (v2)).toArray) (fun w hb => by have g := q_right (hT.keep (Bs.kp_of hb)) x; rw [← ev2] at g; exact g),
    fun L u => u_eql u (gd1 u 8 true rfl 16 rfl (lk rfl) rfl) 25 rfl 24 24 (.tmp 21) (.tmp 24) rfl rfl rfl Tryd.eqGuardType24 (decide (v1 = v2)) (fun w => eq_fc _ _ w),
    fun L u => u_pick u (gd0 rfl) 26 rfl (.tmp 16) (.tmp 25) (.const (.bool false)) rfl rfl rfl rfl _ rfl,
    fun L u => u_move u (gd0 rfl) 2 rfl (.tmp 26) (Or.inr rfl) rfl,
    trivial⟩ [(2, .val (Value.bool (decide (v1 = v2))))] [] ⟨rfl, trivial⟩ trivial rfl (fun a w h => ?_)
  refine wp_ret ?_
  refine ret_slot h 2 rfl (lk rfl) (Value.bool (decide (v1 = v2))) rfl ?_
  exact ⟨by rw [← hpp], h.grows⟩
theorem q_Formed {w : World} (hT : Tab w) {X Y : Int} (hX : Num X) (hY : Num Y) (t : Bool) : Calls Tryd.prog 10 [.agg (rc X Y t).toArray].toArray w fun e w' => e = .returned (.bool (fmd X Y t)) ∧ Below w.heap.size w w' := by
  cases t with
  | true => exact q_formed_none hX hY
  | false =>
    rw [show fmd X Y false = decide (X < md 0 ∧ Y < md 0 ∧ (kc Y : Fin m0) * kc Y = kc X * kc X * kc X - 3 * kc X + wb) from rfl]
    by_cases h1 : X < md 0
    · by_cases h2 : Y < md 0
      · have e1 := nc_kc hX.lo h1
        have e2 := nc_kc hY.lo h2
        have h := q_formed_at hT (kc X) (kc Y)
        rw [rc, e1, e2]
        have e3 : decide (X < md 0 ∧ Y < md 0 ∧ (kc Y : Fin m0) * kc Y = kc X * kc X * kc X - 3 * kc X + wb) = decide ((kc Y : Fin m0) * kc Y = kc X * kc X * kc X - 3 * kc X + wb) := by
          have : (X < md 0 ∧ Y < md 0 ∧ (kc Y : Fin m0) * kc Y = kc X * kc X * kc X - 3 * kc X + wb) = ((kc Y : Fin m0) * kc Y = kc X * kc X * kc X - 3 * kc X + wb) := propext ⟨fun h => h.2.2, fun h => ⟨h1, h2, h⟩⟩
          simp only [this]
        rw [e3]
        exact h
      · rw [decide_eq_false (fun h => h2 h.2.1)]
        exact q_formed_y hT hX (decide_eq_true h1) hY (decide_eq_false h2)
    · rw [decide_eq_false (fun h => h1 h.1)]
      exact q_formed_x hT hX (decide_eq_false h1)
set_option maxRecDepth 100000 in
set_option maxHeartbeats 4000000 in
theorem q_lift_none {w : World} {X Y : Int} : Calls Tryd.prog 14 [.agg (nc (X) ++ nc (Y) ++ [Value.bool true]).toArray].toArray w fun e w' => e = .returned (.agg (jc (Wp.lift (none : Wp m0))).toArray) ∧ Below w.heap.size w w' := by
  obtain ⟨one, hone⟩ : ∃ z : Fin m0, z = 1 := ⟨_, rfl⟩
  refine enter (args := [.agg (nc (X) ++ nc (Y) ++ [Value.bool true]).toArray]) Tryd.func14 rfl 18 rfl (lk rfl) (fun a h => ?_)
  refine go_region h hm [eN 1 (nc (X) ++ nc (Y) ++ [Value.bool true]), eN 2 (nz ++ nz ++ nz)] (by kernel_rfl) ⟨
    fun L u => u_box u (gd0 rfl) 26 (.tmp 0) rfl 1 rfl rfl rfl _ rfl,
    fun L u => u_alloc u (gd0 rfl) 39 rfl 2 rfl rfl z39 _ rfl,
    trivial⟩ [(1, .ptr 1 0), (2, .ptr 2 0)] [(1, nc (X) ++ nc (Y) ++ [Value.bool true]), (2, nz ++ nz ++ nz)] ⟨rfl, rfl, trivial⟩ ⟨rfl, rfl, trivial⟩ rfl (fun a w h => ?_)
  refine wp_seq ?_
  refine go_region h hm [eS 3 (.ptr 1 8), eS 4 (.val (Value.bool true)), eS 5 (.val (Value.bool true)), eS 6 (.val undef), eS 7 (.val undef), eS 8 (.val undef), eS 9 (.val (Value.bool true))] (by kernel_rfl) ⟨
    fun L u => u_field u (gd0 rfl) 3 rfl 26 (.tmp 1) 2 rfl rfl rfl Tryd.underlying26 rfl i4 _ rfl,
    fun L u => u_load1 u (gd0 rfl) 4 rfl 4 (.tmp 3) rfl rfl rfl Tryd.underlying4 rfl _ rfl,
    fun L u => u_move u (gd0 rfl) 5 rfl (.tmp 4) (Or.inl rfl) rfl,
    fun L u => u_no u 2 false rfl 5 rfl (lk rfl) rfl 6 rfl,
    fun L u => u_no u 2 false rfl 5 rfl (lk rfl) rfl 7 rfl,
    fun L u => u_no u 2 false rfl 5 rfl (lk rfl) rfl 8 rfl,
    fun L u => u_pick u (gd0 rfl) 9 rfl (.tmp 5) (.const (.bool true)) (.tmp 8) rfl rfl rfl rfl _ rfl,
    trivial⟩ [(1, .ptr 1 0), (2, .ptr 2 0), (9, .val (Value.bool true))] [(1, nc (X) ++ nc (Y) ++ [Value.bool true]), (2, nz ++ nz ++ nz)] ⟨rfl, rfl, rfl, trivial⟩ ⟨rfl, rfl, trivial⟩ rfl (fun a w h => ?_)
  refine go_cond h true rfl (fun ht => ?_) (fun hf => ?_)
  case refine_2 => cases hf
  refine go_region h hm [eS 10 (.val (.agg (fc (one)).toArray)), eS 11 (.val (.agg (nz ++ fc (one) ++ nz).toArray)), eM 2 (nz ++ fc (one) ++ nz)] (by kernel_rfl) ⟨
    fun L u => u_build u (gd0 rfl) 10 rfl 24 #[(0, (.const (.int .u64 1)))] rfl [(0, (Value.int IntKind.u64 1))] rfl (fc (one)) (bN1x hone),
    fun L u => u_build u (gd0 rfl) 11 rfl 39 #[(1, (.tmp 10))] rfl [(1, .agg (fc (one)).toArray)] rfl (nz ++ fc (one) ++ nz) (bQ1 _),
    fun L u => u_store u (gd0 rfl) 39 (.tmp 2) (.tmp 11) rfl rfl rfl (vs := nz ++ fc (one) ++ nz) rfl rfl i39 (lk rfl) rfl _ rfl,
    trivial⟩ [(2, .ptr 2 0)] [(2, nz ++ fc (one) ++ nz)] ⟨rfl, trivial⟩ ⟨rfl, trivial⟩ rfl (fun a w h => ?_)
  refine wp_ret ?_
  refine then_ret ?_
  refine ret_row h 2 39 rfl (lk rfl) 2 rfl (nz ++ fc (one) ++ nz) rfl _ Tryd.underlying39 rfl i39 ?_
  exact ⟨by rw [l_none, hone, nz_fc], h.grows⟩
set_option maxRecDepth 100000 in
set_option maxHeartbeats 4000000 in
theorem q_lift_off {w : World} (hT : Tab w) {X Y : Int} (hX : Num X) (hY : Num Y) (hf0 : fmd X Y false = false) : Calls Tryd.prog 14 [.agg (nc (X) ++ nc (Y) ++ [Value.bool false]).toArray].toArray w fun e w' => e = .returned (.agg (jc (Wp.lift (none : Wp m0))).toArray) ∧ Below w.heap.size w w' := by
  obtain ⟨one, hone⟩ : ∃ z : Fin m0, z = 1 := ⟨_, rfl⟩
  refine enter (args := [.agg (nc (X) ++ nc (Y) ++ [Value.bool false]).toArray]) Tryd.func14 rfl 18 rfl (lk rfl) (fun a h => ?_)
  refine go_region h hm [eN 1 (nc (X) ++ nc (Y) ++ [Value.bool false]), eN 2 (nz ++ nz ++ nz)] (by kernel_rfl) ⟨
    fun L u => u_box u (gd0 rfl) 26 (.tmp 0) rfl 1 rfl rfl rfl _ rfl,
    fun L u => u_alloc u (gd0 rfl) 39 rfl 2 rfl rfl z39 _ rfl,
    trivial⟩ [(1, .ptr 1 0), (2, .ptr 2 0)] [(1, nc (X) ++ nc (Y) ++ [Value.bool false]), (2, nz ++ nz ++ nz)] ⟨rfl, rfl, trivial⟩ ⟨rfl, rfl, trivial⟩ rfl (fun a w h => ?_)
  refine wp_seq ?_
  refine go_region h hm [eS 3 (.ptr 1 8), eS 4 (.val (Value.bool false)), eS 5 (.val (Value.bool false)), eS 6 (.val (.agg (nc (X) ++ nc (Y) ++ [Value.bool false]).toArray)), eS 7 (.val (Value.bool false)), eS 8 (.val (Value.bool true)), eS 9 (.val (Value.bool true))] (by kernel_rfl) ⟨
    fun L u => u_field u (gd0 rfl) 3 rfl 26 (.tmp 1) 2 rfl rfl rfl Tryd.underlying26 rfl i4 _ rfl,
    fun L u => u_load1 u (gd0 rfl) 4 rfl 4 (.tmp 3) rfl rfl rfl Tryd.underlying4 rfl _ rfl,
    fun L u => u_move u (gd0 rfl) 5 rfl (.tmp 4) (Or.inl rfl) rfl,
    fun L u => u_load u (gd1 u 2 false rfl 5 rfl (lk rfl) rfl) 6 rfl 26 (.tmp 1) rfl rfl rfl Tryd.underlying26 rfl i26 (lk rfl) _ rfl,
    fun L u => u_call u (gd1 u 2 false rfl 5 rfl (lk rfl) rfl) 7 rfl 10 #[(.tmp 6)] #[26] rfl [.agg (nc (X) ++ nc (Y) ++ [Value.bool false]).toArray] rfl (cE10 _) (Value.bool false) (fun w hb => by have f := q_Formed (hT.keep (Bs.kp_of hb)) hX hY false; rw [hf0] at f; exact f),
    fun L u => u_not u (gd1 u 2 false rfl 5 rfl (lk rfl) rfl) 8 rfl 4 (.tmp 7) rfl rfl _ rfl,
    fun L u => u_pick u (gd0 rfl) 9 rfl (.tmp 5) (.const (.bool true)) (.tmp 8) rfl rfl rfl rfl _ rfl,
    trivial⟩ [(1, .ptr 1 0), (2, .ptr 2 0), (9, .val (Value.bool true))] [(1, nc (X) ++ nc (Y) ++ [Value.bool false]), (2, nz ++ nz ++ nz)] ⟨rfl, rfl, rfl, trivial⟩ ⟨rfl, rfl, trivial⟩ rfl (fun a w h => ?_)
  refine go_cond h true rfl (fun ht => ?_) (fun hf => ?_)
  case refine_2 => cases hf
  refine go_region h hm [eS 10 (.val (.agg (fc (one)).toArray)), eS 11 (.val (.agg (nz ++ fc (one) ++ nz).toArray)), eM 2 (nz ++ fc (one) ++ nz)] (by kernel_rfl) ⟨
    fun L u => u_build u (gd0 rfl) 10 rfl 24 #[(0, (.const (.int .u64 1)))] rfl [(0, (Value.int IntKind.u64 1))] rfl (fc (one)) (bN1x hone),
    fun L u => u_build u (gd0 rfl) 11 rfl 39 #[(1, (.tmp 10))] rfl [(1, .agg (fc (one)).toArray)] rfl (nz ++ fc (one) ++ nz) (bQ1 _),
    fun L u => u_store u (gd0 rfl) 39 (.tmp 2) (.tmp 11) rfl rfl rfl (vs := nz ++ fc (one) ++ nz) rfl rfl i39 (lk rfl) rfl _ rfl,
    trivial⟩ [(2, .ptr 2 0)] [(2, nz ++ fc (one) ++ nz)] ⟨rfl, trivial⟩ ⟨rfl, trivial⟩ rfl (fun a w h => ?_)
  refine wp_ret ?_
  refine then_ret ?_
  refine ret_row h 2 39 rfl (lk rfl) 2 rfl (nz ++ fc (one) ++ nz) rfl _ Tryd.underlying39 rfl i39 ?_
  exact ⟨by rw [l_none, hone, nz_fc], h.grows⟩
set_option maxRecDepth 100000 in
set_option maxHeartbeats 4000000 in
theorem q_lift_on {w : World} (hT : Tab w) {x y : Fin m0} (hq : y * y = x * x * x - 3 * x + wb) : Calls Tryd.prog 14 [.agg (fc (x) ++ fc (y) ++ [Value.bool false]).toArray].toArray w fun e w' => e = .returned (.agg (jc (Wp.lift (some (x, y)))).toArray) ∧ Below w.heap.size w w' := by
  obtain ⟨one, hone⟩ : ∃ z : Fin m0, z = 1 := ⟨_, rfl⟩
  refine enter (args := [.agg (fc (x) ++ fc (y) ++ [Value.bool false]).toArray]) Tryd.func14 rfl 18 rfl (lk rfl) (fun a h => ?_)
  refine go_region h hm [eN 1 (fc (x) ++ fc (y) ++ [Value.bool false]), eN 2 (nz ++ nz ++ nz)] (by kernel_rfl) ⟨
    fun L u => u_box u (gd0 rfl) 26 (.tmp 0) rfl 1 rfl rfl rfl _ rfl,
    fun L u => u_alloc u (gd0 rfl) 39 rfl 2 rfl rfl z39 _ rfl,
    trivial⟩ [(1, .ptr 1 0), (2, .ptr 2 0)] [(1, fc (x) ++ fc (y) ++ [Value.bool false]), (2, nz ++ nz ++ nz)] ⟨rfl, rfl, trivial⟩ ⟨rfl, rfl, trivial⟩ rfl (fun a w h => ?_)
  refine wp_seq ?_
  refine go_region h hm [eS 3 (.ptr 1 8), eS 4 (.val (Value.bool false)), eS 5 (.val (Value.bool false)), eS 6 (.val (.agg (fc (x) ++ fc (y) ++ [Value.bool false]).toArray)), eS 7 (.val (Value.bool true)), eS 8 (.val (Value.bool false)), eS 9 (.val (Value.bool false))] (by kernel_rfl) ⟨
    fun L u => u_field u (gd0 rfl) 3 rfl 26 (.tmp 1) 2 rfl rfl rfl Tryd.underlying26 rfl i4 _ rfl,
    fun L u => u_load1 u (gd0 rfl) 4 rfl 4 (.tmp 3) rfl rfl rfl Tryd.underlying4 rfl _ rfl,
    fun L u => u_move u (gd0 rfl) 5 rfl (.tmp 4) (Or.inl rfl) rfl,
    fun L u => u_load u (gd1 u 2 false rfl 5 rfl (lk rfl) rfl) 6 rfl 26 (.tmp 1) rfl rfl rfl Tryd.underlying26 rfl i26 (lk rfl) _ rfl,
    fun L u => u_call u (gd1 u 2 false rfl 5 rfl (lk rfl) rfl) 7 rfl 10 #[(.tmp 6)] #[26] rfl [.agg (fc (x) ++ fc (y) ++ [Value.bool false]).toArray] rfl (cE10 _) (Value.bool true) (fun w hb => by have f := q_formed_at (hT.keep (Bs.kp_of hb)) x y; rw [decide_eq_true hq] at f; exact f),
    fun L u => u_not u (gd1 u 2 false rfl 5 rfl (lk rfl) rfl) 8 rfl 4 (.tmp 7) rfl rfl _ rfl,
    fun L u => u_pick u (gd0 rfl) 9 rfl (.tmp 5) (.const (.bool true)) (.tmp 8) rfl rfl rfl rfl _ rfl,
    trivial⟩ [(1, .ptr 1 0), (2, .ptr 2 0), (9, .val (Value.bool false))] [(1, fc (x) ++ fc (y) ++ [Value.bool false]), (2, nz ++ nz ++ nz)] ⟨rfl, rfl, rfl, trivial⟩ ⟨rfl, rfl, trivial⟩ rfl (fun a w h => ?_)
  refine go_cond h false rfl (fun ht => ?_) (fun hf => ?_)
  case refine_1 => cases ht
  refine wp_skip ?_
  refine then_norm ?_
  refine go_region h hm [eS 12 (.ptr 1 0), eS 13 (.val (.agg (fc (x)).toArray)), eS 14 (.ptr 1 4), eS 15 (.val (.agg (fc (y)).toArray)), eS 16 (.val (.agg (fc (one)).toArray)), eS 17 (.val (.agg (fc (x) ++ fc (y) ++ fc (one)).toArray)), eM 2 (fc (x) ++ fc (y) ++ fc (one))] (by kernel_rfl) ⟨
    fun L u => u_field u (gd0 rfl) 12 rfl 26 (.tmp 1) 0 rfl rfl rfl Tryd.underlying26 rfl i24 _ rfl,
    fun L u => u_load u (gd0 rfl) 13 rfl 24 (.tmp 12) rfl rfl rfl Tryd.underlying24 rfl i24 (lk rfl) _ rfl,
    fun L u => u_field u (gd0 rfl) 14 rfl 26 (.tmp 1) 1 rfl rfl rfl Tryd.underlying26 rfl i24 _ rfl,
    fun L u => u_load u (gd0 rfl) 15 rfl 24 (.tmp 14) rfl rfl rfl Tryd.underlying24 rfl i24 (lk rfl) _ rfl,
    fun L u => u_build u (gd0 rfl) 16 rfl 24 #[(0, (.const (.int .u64 1)))] rfl [(0, (Value.int IntKind.u64 1))] rfl (fc (one)) (bN1x hone),
    fun L u => u_build u (gd0 rfl) 17 rfl 39 #[(0, (.tmp 13)), (1, (.tmp 15)), (2, (.tmp 16))] rfl [(0, .agg (fc (x)).toArray), (1, .agg (fc (y)).toArray), (2, .agg (fc (one)).toArray)] rfl (fc (x) ++ fc (y) ++ fc (one)) (bQ3 _ _ _),
    fun L u => u_store u (gd0 rfl) 39 (.tmp 2) (.tmp 17) rfl rfl rfl (vs := fc (x) ++ fc (y) ++ fc (one)) rfl rfl i39 (lk rfl) rfl _ rfl,
    trivial⟩ [(2, .ptr 2 0)] [(2, fc (x) ++ fc (y) ++ fc (one))] ⟨rfl, trivial⟩ ⟨rfl, trivial⟩ rfl (fun a w h => ?_)
  refine wp_ret ?_
  refine ret_row h 2 39 rfl (lk rfl) 2 rfl (fc (x) ++ fc (y) ++ fc (one)) rfl _ Tryd.underlying39 rfl i39 ?_
  exact ⟨by rw [l_some, hone], h.grows⟩
theorem q_lift {w : World} (hT : Tab w) {X Y : Int} (hX : Num X) (hY : Num Y) (t : Bool) : Calls Tryd.prog 14 [.agg (rc X Y t).toArray].toArray w fun e w' => e = .returned (.agg (jc (rp X Y t).lift).toArray) ∧ Below w.heap.size w w' := by
  cases t with
  | true => exact q_lift_none
  | false =>
    by_cases h : X < md 0 ∧ Y < md 0 ∧ (kc Y : Fin m0) * kc Y = kc X * kc X * kc X - 3 * kc X + wb
    · rw [show rp X Y false = some (kc X, kc Y) from if_pos ⟨rfl, h⟩, rc, nc_kc hX.lo h.1, nc_kc hY.lo h.2.1]
      exact q_lift_on hT h.2.2
    · rw [show rp X Y false = none from if_neg (fun hq => h hq.2)]
      exact q_lift_off hT hX hY ((show fmd X Y false = decide (X < md 0 ∧ Y < md 0 ∧ (kc Y : Fin m0) * kc Y = kc X * kc X * kc X - 3 * kc X + wb) from rfl).trans (decide_eq_false h))
theorem q_lift_o {w : World} {one : Fin m0} (hone : one = 1) : Calls Tryd.prog 14 [.agg (nz ++ nz ++ [Value.bool true]).toArray].toArray w fun e w' => e = .returned (.agg (nz ++ fc one ++ nz).toArray) ∧ Below w.heap.size w w' := by
  have h := q_lift_none (w := w) (X := 0) (Y := 0)
  rw [l_none, ← hone, ← nz_fc] at h
  rw [← nz_nc] at h
  exact h
set_option maxRecDepth 100000 in
set_option maxHeartbeats 4000000 in
theorem q_drop {w : World} (hT : Tab w) (x y z : Fin m0) : Calls Tryd.prog 12 [.agg (fc (x) ++ fc (y) ++ fc (z)).toArray].toArray w fun e w' => e = .returned (.agg (pc (nm fiv ⟨x, y, z⟩)).toArray) ∧ Below w.heap.size w w' := by
  by_cases h0 : z = 0
  · skip
    refine enter (args := [.agg (fc (x) ++ fc (y) ++ fc (z)).toArray]) Tryd.func12 rfl 21 rfl (lk rfl) (fun a h => ?_)
    refine go_region h hm [eN 1 (fc (x) ++ fc (y) ++ fc (z)), eN 2 (nz ++ nz ++ [Value.bool false])] (by kernel_rfl) ⟨
      fun L u => u_box u (gd0 rfl) 39 (.tmp 0) rfl 1 rfl rfl rfl _ rfl,
      fun L u => u_alloc u (gd0 rfl) 26 rfl 2 rfl rfl z26 _ rfl,
      trivial⟩ [(1, .ptr 1 0), (2, .ptr 2 0)] [(1, fc (x) ++ fc (y) ++ fc (z)), (2, nz ++ nz ++ [Value.bool false])] ⟨rfl, rfl, trivial⟩ ⟨rfl, rfl, trivial⟩ rfl (fun a w h => ?_)
    refine wp_seq ?_
    refine go_region h hm [eS 4 (.ptr 1 8), eS 5 (.val (.agg (fc (z)).toArray)), eS 6 (.val (.agg (nz).toArray)), eS 7 (.val (Value.bool true))] (by kernel_rfl) ⟨
      fun L u => u_field u (gd0 rfl) 4 rfl 39 (.tmp 1) 2 rfl rfl rfl Tryd.underlying39 rfl i24 _ rfl,
      fun L u => u_load u (gd0 rfl) 5 rfl 24 (.tmp 4) rfl rfl rfl Tryd.underlying24 rfl i24 (lk rfl) _ rfl,
      fun L u => u_build u (gd0 rfl) 6 rfl 24 #[] rfl [] rfl (nz) (bN0),
      fun L u => u_eql u (gd0 rfl) 7 rfl 24 24 (.tmp 5) (.tmp 6) rfl rfl rfl Tryd.eqGuardType24 (true) (eqz_t h0),
      trivial⟩ [(1, .ptr 1 0), (2, .ptr 2 0), (7, .val (Value.bool true))] [(1, fc (x) ++ fc (y) ++ fc (z)), (2, nz ++ nz ++ [Value.bool false])] ⟨rfl, rfl, rfl, trivial⟩ ⟨rfl, rfl, trivial⟩ rfl (fun a w h => ?_)
    refine go_cond h true rfl (fun ht => ?_) (fun hf => ?_)
    case refine_2 => cases hf
    refine go_region h hm [eS 8 (.val (.agg (nz ++ nz ++ [Value.bool true]).toArray)), eM 2 (nz ++ nz ++ [Value.bool true])] (by kernel_rfl) ⟨
      fun L u => u_call u (gd0 rfl) 8 rfl 20 #[] #[] rfl [] rfl (cE20 _) (.agg (nz ++ nz ++ [Value.bool true]).toArray) (fun w hb => q_neutral),
      fun L u => u_store u (gd0 rfl) 26 (.tmp 2) (.tmp 8) rfl rfl rfl (vs := nz ++ nz ++ [Value.bool true]) rfl rfl i26 (lk rfl) rfl _ rfl,
      trivial⟩ [(2, .ptr 2 0)] [(2, nz ++ nz ++ [Value.bool true])] ⟨rfl, trivial⟩ ⟨rfl, trivial⟩ rfl (fun a w h => ?_)
    refine wp_ret ?_
    refine then_ret ?_
    refine ret_row h 2 26 rfl (lk rfl) 2 rfl (nz ++ nz ++ [Value.bool true]) rfl _ Tryd.underlying26 rfl i26 ?_
    exact ⟨by have e : nm fiv (⟨x, y, z⟩ : P3 (Fin m0)) = Wp.o := if_pos h0; rw [e, nz_fc]; rfl, h.grows⟩
  · skip
    refine enter (args := [.agg (fc (x) ++ fc (y) ++ fc (z)).toArray]) Tryd.func12 rfl 21 rfl (lk rfl) (fun a h => ?_)
    refine go_region h hm [eN 1 (fc (x) ++ fc (y) ++ fc (z)), eN 2 (nz ++ nz ++ [Value.bool false])] (by kernel_rfl) ⟨
      fun L u => u_box u (gd0 rfl) 39 (.tmp 0) rfl 1 rfl rfl rfl _ rfl,
      fun L u => u_alloc u (gd0 rfl) 26 rfl 2 rfl rfl z26 _ rfl,
      trivial⟩ [(1, .ptr 1 0), (2, .ptr 2 0)] [(1, fc (x) ++ fc (y) ++ fc (z)), (2, nz ++ nz ++ [Value.bool false])] ⟨rfl, rfl, trivial⟩ ⟨rfl, rfl, trivial⟩ rfl (fun a w h => ?_)
    refine wp_seq ?_
    refine go_region h hm [eS 4 (.ptr 1 8), eS 5 (.val (.agg (fc (z)).toArray)), eS 6 (.val (.agg (nz).toArray)), eS 7 (.val (Value.bool false))] (by kernel_rfl) ⟨
      fun L u => u_field u (gd0 rfl) 4 rfl 39 (.tmp 1) 2 rfl rfl rfl Tryd.underlying39 rfl i24 _ rfl,
      fun L u => u_load u (gd0 rfl) 5 rfl 24 (.tmp 4) rfl rfl rfl Tryd.underlying24 rfl i24 (lk rfl) _ rfl,
      fun L u => u_build u (gd0 rfl) 6 rfl 24 #[] rfl [] rfl (nz) (bN0),
      fun L u => u_eql u (gd0 rfl) 7 rfl 24 24 (.tmp 5) (.tmp 6) rfl rfl rfl Tryd.eqGuardType24 (false) (eqz_f h0),
      trivial⟩ [(1, .ptr 1 0), (2, .ptr 2 0), (7, .val (Value.bool false))] [(1, fc (x) ++ fc (y) ++ fc (z)), (2, nz ++ nz ++ [Value.bool false])] ⟨rfl, rfl, rfl, trivial⟩ ⟨rfl, rfl, trivial⟩ rfl (fun a w h => ?_)
    refine go_cond h false rfl (fun ht => ?_) (fun hf => ?_)
    case refine_1 => cases ht
    refine wp_skip ?_
    refine then_norm ?_
    refine go_region h hm [eS 9 (.ptr 1 8), eS 10 (.val (.agg (fc (z)).toArray)), eS 11 (.val (.agg (fc (fiv (z))).toArray)), eN 3 (nz), eM 3 (fc (fiv (z)))] (by kernel_rfl) ⟨
      fun L u => u_field u (gd0 rfl) 9 rfl 39 (.tmp 1) 2 rfl rfl rfl Tryd.underlying39 rfl i24 _ rfl,
      fun L u => u_load u (gd0 rfl) 10 rfl 24 (.tmp 9) rfl rfl rfl Tryd.underlying24 rfl i24 (lk rfl) _ rfl,
      fun L u => u_call u (gd0 rfl) 11 rfl 25 #[(.const (.int .i64 0)), (.tmp 10)] #[3, 24] rfl [(Value.int IntKind.i64 0), .agg (fc (z)).toArray] rfl (cE25 _) (.agg (fc (fiv (z))).toArray) (fun w hb => c_inv (hT.keep (Bs.kp_of hb)) _),
      fun L u => u_alloc u (gd0 rfl) 24 rfl 3 rfl rfl z24 _ rfl,
      fun L u => u_store u (gd0 rfl) 24 (.tmp 3) (.tmp 11) rfl rfl rfl (vs := fc (fiv (z))) rfl rfl i24 (lk rfl) rfl _ rfl,
      trivial⟩ [(1, .ptr 1 0), (2, .ptr 2 0), (3, .ptr 3 0)] [(1, fc (x) ++ fc (y) ++ fc (z)), (2, nz ++ nz ++ [Value.bool false]), (3, fc (fiv (z)))] ⟨rfl, rfl, rfl, trivial⟩ ⟨rfl, rfl, rfl, trivial⟩ rfl (fun a w h => ?_)
    refine go_region h hm [eS 12 (.ptr 1 0), eS 13 (.val (.agg (fc (x)).toArray)), eS 14 (.val (.agg (fc (fiv (z))).toArray)), eS 15 (.val (.agg (fc (x * (fiv (z)))).toArray)), eS 16 (.ptr 1 4), eS 17 (.val (.agg (fc (y)).toArray)), eS 18 (.val (.agg (fc (fiv (z))).toArray)), eS 19 (.val (.agg (fc (y * (fiv (z)))).toArray)), eS 20 (.val (.agg (fc (x * (fiv (z))) ++ fc (y * (fiv (z))) ++ [Value.bool false]).toArray)), eM 2 (fc (x * (fiv (z))) ++ fc (y * (fiv (z))) ++ [Value.bool false])] (by kernel_rfl) ⟨
      fun L u => u_field u (gd0 rfl) 12 rfl 39 (.tmp 1) 0 rfl rfl rfl Tryd.underlying39 rfl i24 _ rfl,
      fun L u => u_load u (gd0 rfl) 13 rfl 24 (.tmp 12) rfl rfl rfl Tryd.underlying24 rfl i24 (lk rfl) _ rfl,
      fun L u => u_load u (gd0 rfl) 14 rfl 24 (.tmp 3) rfl rfl rfl Tryd.underlying24 rfl i24 (lk rfl) _ rfl,
      fun L u => u_call u (gd0 rfl) 15 rfl 22 #[(.tmp 13), (.tmp 14)] #[24, 24] rfl [.agg (fc (x)).toArray, .agg (fc (fiv (z))).toArray] rfl (cE22 _) (.agg (fc (x * (fiv (z)))).toArray) (fun w hb => q_mul (hT.keep (Bs.kp_of hb)) _ _),
      fun L u => u_field u (gd0 rfl) 16 rfl 39 (.tmp 1) 1 rfl rfl rfl Tryd.underlying39 rfl i24 _ rfl,
      fun L u => u_load u (gd0 rfl) 17 rfl 24 (.tmp 16) rfl rfl rfl Tryd.underlying24 rfl i24 (lk rfl) _ rfl,
      fun L u => u_load u (gd0 rfl) 18 rfl 24 (.tmp 3) rfl rfl rfl Tryd.underlying24 rfl i24 (lk rfl) _ rfl,
      fun L u => u_call u (gd0 rfl) 19 rfl 22 #[(.tmp 17), (.tmp 18)] #[24, 24] rfl [.agg (fc (y)).toArray, .agg (fc (fiv (z))).toArray] rfl (cE22 _) (.agg (fc (y * (fiv (z)))).toArray) (fun w hb => q_mul (hT.keep (Bs.kp_of hb)) _ _),
      fun L u => u_build u (gd0 rfl) 20 rfl 26 #[(0, (.tmp 15)), (1, (.tmp 19))] rfl [(0, .agg (fc (x * (fiv (z)))).toArray), (1, .agg (fc (y * (fiv (z)))).toArray)] rfl (fc (x * (fiv (z))) ++ fc (y * (fiv (z))) ++ [Value.bool false]) (bP _ _),
      fun L u => u_store u (gd0 rfl) 26 (.tmp 2) (.tmp 20) rfl rfl rfl (vs := fc (x * (fiv (z))) ++ fc (y * (fiv (z))) ++ [Value.bool false]) rfl rfl i26 (lk rfl) rfl _ rfl,
      trivial⟩ [(2, .ptr 2 0)] [(2, fc (x * (fiv (z))) ++ fc (y * (fiv (z))) ++ [Value.bool false])] ⟨rfl, trivial⟩ ⟨rfl, trivial⟩ rfl (fun a w h => ?_)
    refine wp_ret ?_
    refine ret_row h 2 26 rfl (lk rfl) 2 rfl (fc (x * (fiv (z))) ++ fc (y * (fiv (z))) ++ [Value.bool false]) rfl _ Tryd.underlying26 rfl i26 ?_
    exact ⟨by have e : nm fiv (⟨x, y, z⟩ : P3 (Fin m0)) = Wp.pt (x * fiv z) (y * fiv z) := if_neg h0; rw [e]; rfl, h.grows⟩
theorem q_bit {w : World} (k i : Nat) (hi : i < 256) : Calls Tryd.prog 26 [.agg (nc (k : Int)).toArray, .int .i64 (i : Int)].toArray w fun e w' => e = .returned (.int .i64 ((k / 2 ^ i % 2 : Nat) : Int)) ∧ Below w.heap.size w w' := by
  have h := bit_any (k : Int) (i : Int) w
  have e : bt (k : Int) (i : Int) = ((k / 2 ^ i % 2 : Nat) : Int) := by
    unfold bt
    rw [if_pos (by omega), Int.toNat_natCast, Int.natCast_emod, Int.natCast_ediv, Int.natCast_pow]
    rfl
  rw [e] at h
  exact h
set_option maxRecDepth 100000 in
set_option maxHeartbeats 4000000 in
theorem q_times {w : World} (hT : Tab w) (k : Nat) (x y z : Fin m0) : Calls Tryd.prog 13 [.agg (nc ((k : Int))).toArray, .agg (fc (x) ++ fc (y) ++ fc (z)).toArray].toArray w fun e w' => e = .returned (.agg (jc (wm k ⟨x, y, z⟩ 256)).toArray) ∧ Below w.heap.size w w' := by
  obtain ⟨one, hone⟩ : ∃ z : Fin m0, z = 1 := ⟨_, rfl⟩
  refine enter (args := [.agg (nc ((k : Int))).toArray, .agg (fc (x) ++ fc (y) ++ fc (z)).toArray]) Tryd.func13 rfl 24 rfl (lk rfl) (fun a h => ?_)
  refine go_region h hm [eN 2 (nc ((k : Int))), eN 3 (fc (x) ++ fc (y) ++ fc (z)), eN 4 (nz ++ nz ++ nz)] (by kernel_rfl) ⟨
    fun L u => u_box u (gd0 rfl) 24 (.tmp 0) rfl 2 rfl rfl rfl _ rfl,
    fun L u => u_box u (gd0 rfl) 39 (.tmp 1) rfl 3 rfl rfl rfl _ rfl,
    fun L u => u_alloc u (gd0 rfl) 39 rfl 4 rfl rfl z39 _ rfl,
    trivial⟩ [(2, .ptr 2 0), (3, .ptr 3 0), (4, .ptr 4 0)] [(2, nc ((k : Int))), (3, fc (x) ++ fc (y) ++ fc (z)), (4, nz ++ nz ++ nz)] ⟨rfl, rfl, rfl, trivial⟩ ⟨rfl, rfl, rfl, trivial⟩ rfl (fun a w h => ?_)
  refine go_region h hm [eS 7 (.val (.agg (nz ++ nz ++ [Value.bool true]).toArray)), eS 8 (.val (.agg (nz ++ fc (one) ++ nz).toArray)), eN 5 (nz ++ nz ++ nz), eM 5 (nz ++ fc (one) ++ nz)] (by kernel_rfl) ⟨
    fun L u => u_call u (gd0 rfl) 7 rfl 20 #[] #[] rfl [] rfl (cE20 _) (.agg (nz ++ nz ++ [Value.bool true]).toArray) (fun w hb => q_neutral),
    fun L u => u_call u (gd0 rfl) 8 rfl 14 #[(.tmp 7)] #[26] rfl [.agg (nz ++ nz ++ [Value.bool true]).toArray] rfl (cE14 _) (.agg (nz ++ fc (one) ++ nz).toArray) (fun w hb => q_lift_o hone),
    fun L u => u_alloc u (gd0 rfl) 39 rfl 5 rfl rfl z39 _ rfl,
    fun L u => u_store u (gd0 rfl) 39 (.tmp 5) (.tmp 8) rfl rfl rfl (vs := nz ++ fc (one) ++ nz) rfl rfl i39 (lk rfl) rfl _ rfl,
    trivial⟩ [(2, .ptr 2 0), (3, .ptr 3 0), (4, .ptr 4 0), (5, .ptr 5 0)] [(2, nc ((k : Int))), (3, fc (x) ++ fc (y) ++ fc (z)), (4, nz ++ nz ++ nz), (5, nz ++ fc (one) ++ nz)] ⟨rfl, rfl, rfl, rfl, trivial⟩ ⟨rfl, rfl, rfl, rfl, trivial⟩ rfl (fun a w h => ?_)
  refine wp_seq ?_
  refine go_region h hm [eS 6 (.val ((Value.int IntKind.i64 255)))] (by kernel_rfl) ⟨
    fun L u => u_move u (gd0 rfl) 6 rfl (.const (.int .i64 255)) (Or.inr rfl) rfl,
    trivial⟩ [(2, .ptr 2 0), (3, .ptr 3 0), (4, .ptr 4 0), (5, .ptr 5 0), (6, .val ((Value.int IntKind.i64 255)))] [(2, nc ((k : Int))), (3, fc (x) ++ fc (y) ++ fc (z)), (4, nz ++ nz ++ nz), (5, nz ++ fc (one) ++ nz)] ⟨rfl, rfl, rfl, rfl, rfl, trivial⟩ ⟨rfl, rfl, rfl, rfl, trivial⟩ rfl (fun a w h => ?_)
  refine wp_block ?_
  refine go_loop (fun (j : Nat) => SS.mk' [(2, .ptr 2 0), (3, .ptr 3 0), (4, .ptr 4 0), (5, .ptr 5 0), (6, .val (Value.int .i64 (255 - ((j : Nat) : Int))))] [(2, nc ((k : Int))), (3, fc (x) ++ fc (y) ++ fc (z)), (4, nz ++ nz ++ nz), (5, fc ((wm k ⟨x, y, z⟩ (j)).x) ++ fc ((wm k ⟨x, y, z⟩ (j)).y) ++ fc ((wm k ⟨x, y, z⟩ (j)).z))]) (fun j => j ≤ 256) (fun j => 256 - j) (i := 0) (h.keep [(2, .ptr 2 0), (3, .ptr 3 0), (4, .ptr 4 0), (5, .ptr 5 0), (6, .val (Value.int .i64 (255 - ((0 : Nat) : Int))))] [(2, nc ((k : Int))), (3, fc (x) ++ fc (y) ++ fc (z)), (4, nz ++ nz ++ nz), (5, fc ((wm k ⟨x, y, z⟩ (0)).x) ++ fc ((wm k ⟨x, y, z⟩ (0)).y) ++ fc ((wm k ⟨x, y, z⟩ (0)).z))] ⟨rfl, rfl, rfl, rfl, rfl, trivial⟩ ⟨rfl, rfl, rfl, (by rw [hone, nz_fc]; rfl), trivial⟩ rfl) (Nat.zero_le _) (fun j a w hG h => ?_)
  by_cases hs : j < 256
  · skip
    by_cases hb : k / 2 ^ (255 - j) % 2 = 1
    · skip
      refine wp_seq ?_
      refine go_region h hm [eS 9 (.val (Value.int .i64 (255 - ((j : Nat) : Int)))), eS 10 (.val (Value.bool true))] (by kernel_rfl) ⟨
        fun L u => u_move u (gd0 rfl) 9 rfl (.tmp 6) (Or.inl rfl) rfl,
        fun L u => u_bin u (gd0 rfl) 10 rfl .geq 3 3 (.tmp 9) (.const (.int .i64 0)) rfl rfl rfl (eqg_int _ _ _ _ _ _ _ _) (Value.bool true) (yes_of (fun w => i_geq _ _ _ _ w) (by omega)),
        trivial⟩ [(2, .ptr 2 0), (3, .ptr 3 0), (4, .ptr 4 0), (5, .ptr 5 0), (6, .val (Value.int .i64 (255 - ((j : Nat) : Int)))), (10, .val (Value.bool true))] [(2, nc ((k : Int))), (3, fc (x) ++ fc (y) ++ fc (z)), (4, nz ++ nz ++ nz), (5, fc ((wm k ⟨x, y, z⟩ (j)).x) ++ fc ((wm k ⟨x, y, z⟩ (j)).y) ++ fc ((wm k ⟨x, y, z⟩ (j)).z))] ⟨rfl, rfl, rfl, rfl, rfl, rfl, trivial⟩ ⟨rfl, rfl, rfl, rfl, trivial⟩ rfl (fun a w h => ?_)
      refine go_cond h true rfl (fun ht => ?_) (fun hf => ?_)
      case refine_2 => cases hf
      refine wp_skip ?_
      refine then_norm ?_
      refine wp_seq ?_
      refine wp_block ?_
      refine go_region h hm [eS 13 (.val (.agg (fc ((wm k ⟨x, y, z⟩ (j)).x) ++ fc ((wm k ⟨x, y, z⟩ (j)).y) ++ fc ((wm k ⟨x, y, z⟩ (j)).z)).toArray)), eS 14 (.val (.agg (fc ((wm k ⟨x, y, z⟩ (j)).x) ++ fc ((wm k ⟨x, y, z⟩ (j)).y) ++ fc ((wm k ⟨x, y, z⟩ (j)).z)).toArray)), eS 15 (.val (.agg (fc ((wa wb (wm k ⟨x, y, z⟩ (j)) (wm k ⟨x, y, z⟩ (j))).x) ++ fc ((wa wb (wm k ⟨x, y, z⟩ (j)) (wm k ⟨x, y, z⟩ (j))).y) ++ fc ((wa wb (wm k ⟨x, y, z⟩ (j)) (wm k ⟨x, y, z⟩ (j))).z)).toArray)), eM 5 (fc ((wa wb (wm k ⟨x, y, z⟩ (j)) (wm k ⟨x, y, z⟩ (j))).x) ++ fc ((wa wb (wm k ⟨x, y, z⟩ (j)) (wm k ⟨x, y, z⟩ (j))).y) ++ fc ((wa wb (wm k ⟨x, y, z⟩ (j)) (wm k ⟨x, y, z⟩ (j))).z))] (by kernel_rfl) ⟨
        fun L u => u_load u (gd0 rfl) 13 rfl 39 (.tmp 5) rfl rfl rfl Tryd.underlying39 rfl i39 (lk rfl) _ rfl,
        fun L u => u_load u (gd0 rfl) 14 rfl 39 (.tmp 5) rfl rfl rfl Tryd.underlying39 rfl i39 (lk rfl) _ rfl,
        fun L u => u_call u (gd0 rfl) 15 rfl 19 #[(.tmp 13), (.tmp 14)] #[39, 39] rfl [.agg (fc ((wm k ⟨x, y, z⟩ (j)).x) ++ fc ((wm k ⟨x, y, z⟩ (j)).y) ++ fc ((wm k ⟨x, y, z⟩ (j)).z)).toArray, .agg (fc ((wm k ⟨x, y, z⟩ (j)).x) ++ fc ((wm k ⟨x, y, z⟩ (j)).y) ++ fc ((wm k ⟨x, y, z⟩ (j)).z)).toArray] rfl (cE19 _) (.agg (fc ((wa wb (wm k ⟨x, y, z⟩ (j)) (wm k ⟨x, y, z⟩ (j))).x) ++ fc ((wa wb (wm k ⟨x, y, z⟩ (j)) (wm k ⟨x, y, z⟩ (j))).y) ++ fc ((wa wb (wm k ⟨x, y, z⟩ (j)) (wm k ⟨x, y, z⟩ (j))).z)).toArray) (fun w hb => q_plus (hT.keep (Bs.kp_of hb)) _ _ _ _ _ _),
        fun L u => u_store u (gd0 rfl) 39 (.tmp 5) (.tmp 15) rfl rfl rfl (vs := fc ((wa wb (wm k ⟨x, y, z⟩ (j)) (wm k ⟨x, y, z⟩ (j))).x) ++ fc ((wa wb (wm k ⟨x, y, z⟩ (j)) (wm k ⟨x, y, z⟩ (j))).y) ++ fc ((wa wb (wm k ⟨x, y, z⟩ (j)) (wm k ⟨x, y, z⟩ (j))).z)) rfl rfl i39 (lk rfl) rfl _ rfl,
        trivial⟩ [(2, .ptr 2 0), (3, .ptr 3 0), (4, .ptr 4 0), (5, .ptr 5 0), (6, .val (Value.int .i64 (255 - ((j : Nat) : Int))))] [(2, nc ((k : Int))), (3, fc (x) ++ fc (y) ++ fc (z)), (4, nz ++ nz ++ nz), (5, fc ((wa wb (wm k ⟨x, y, z⟩ (j)) (wm k ⟨x, y, z⟩ (j))).x) ++ fc ((wa wb (wm k ⟨x, y, z⟩ (j)) (wm k ⟨x, y, z⟩ (j))).y) ++ fc ((wa wb (wm k ⟨x, y, z⟩ (j)) (wm k ⟨x, y, z⟩ (j))).z))] ⟨rfl, rfl, rfl, rfl, rfl, trivial⟩ ⟨rfl, rfl, rfl, rfl, trivial⟩ rfl (fun a w h => ?_)
      refine go_region h hm [eS 16 (.val (.agg (nc ((k : Int))).toArray)), eS 17 (.val (Value.int .i64 (255 - ((j : Nat) : Int)))), eS 18 (.val (Value.int .i64 ((k / 2 ^ (255 - j) % 2 : Nat) : Int))), eS 19 (.val (Value.bool true))] (by kernel_rfl) ⟨
        fun L u => u_load u (gd0 rfl) 16 rfl 24 (.tmp 2) rfl rfl rfl Tryd.underlying24 rfl i24 (lk rfl) _ rfl,
        fun L u => u_move u (gd0 rfl) 17 rfl (.tmp 6) (Or.inl rfl) rfl,
        fun L u => u_call u (gd0 rfl) 18 rfl 26 #[(.tmp 16), (.tmp 17)] #[24, 3] rfl [.agg (nc ((k : Int))).toArray, Value.int .i64 (255 - ((j : Nat) : Int))] rfl (cE26 _) (Value.int .i64 ((k / 2 ^ (255 - j) % 2 : Nat) : Int)) (fun w hb => by have := q_bit (w := w) k (255 - j) (by omega); rw [show (((255 - j : Nat)) : Int) = 255 - (j : Int) by omega] at this; exact this),
        fun L u => u_bin u (gd0 rfl) 19 rfl .eql 3 3 (.tmp 18) (.const (.int .i64 1)) rfl rfl rfl (eqg_int _ _ _ _ _ _ _ _) (Value.bool true) (yes_of (fun w => i_eql _ _ _ _ w) (by omega)),
        trivial⟩ [(2, .ptr 2 0), (3, .ptr 3 0), (4, .ptr 4 0), (5, .ptr 5 0), (6, .val (Value.int .i64 (255 - ((j : Nat) : Int)))), (19, .val (Value.bool true))] [(2, nc ((k : Int))), (3, fc (x) ++ fc (y) ++ fc (z)), (4, nz ++ nz ++ nz), (5, fc ((wa wb (wm k ⟨x, y, z⟩ (j)) (wm k ⟨x, y, z⟩ (j))).x) ++ fc ((wa wb (wm k ⟨x, y, z⟩ (j)) (wm k ⟨x, y, z⟩ (j))).y) ++ fc ((wa wb (wm k ⟨x, y, z⟩ (j)) (wm k ⟨x, y, z⟩ (j))).z))] ⟨rfl, rfl, rfl, rfl, rfl, rfl, trivial⟩ ⟨rfl, rfl, rfl, rfl, trivial⟩ rfl (fun a w h => ?_)
      refine go_cond h true rfl (fun ht => ?_) (fun hf => ?_)
      case refine_2 => cases hf
      refine go_end h hm [eS 20 (.val (.agg (fc ((wa wb (wm k ⟨x, y, z⟩ (j)) (wm k ⟨x, y, z⟩ (j))).x) ++ fc ((wa wb (wm k ⟨x, y, z⟩ (j)) (wm k ⟨x, y, z⟩ (j))).y) ++ fc ((wa wb (wm k ⟨x, y, z⟩ (j)) (wm k ⟨x, y, z⟩ (j))).z)).toArray)), eS 21 (.val (.agg (fc (x) ++ fc (y) ++ fc (z)).toArray)), eS 22 (.val (.agg (fc ((wa wb (wa wb (wm k ⟨x, y, z⟩ (j)) (wm k ⟨x, y, z⟩ (j))) (⟨x, y, z⟩)).x) ++ fc ((wa wb (wa wb (wm k ⟨x, y, z⟩ (j)) (wm k ⟨x, y, z⟩ (j))) (⟨x, y, z⟩)).y) ++ fc ((wa wb (wa wb (wm k ⟨x, y, z⟩ (j)) (wm k ⟨x, y, z⟩ (j))) (⟨x, y, z⟩)).z)).toArray)), eM 5 (fc ((wa wb (wa wb (wm k ⟨x, y, z⟩ (j)) (wm k ⟨x, y, z⟩ (j))) (⟨x, y, z⟩)).x) ++ fc ((wa wb (wa wb (wm k ⟨x, y, z⟩ (j)) (wm k ⟨x, y, z⟩ (j))) (⟨x, y, z⟩)).y) ++ fc ((wa wb (wa wb (wm k ⟨x, y, z⟩ (j)) (wm k ⟨x, y, z⟩ (j))) (⟨x, y, z⟩)).z))] (by kernel_rfl) ⟨
        fun L u => u_load u (gd0 rfl) 20 rfl 39 (.tmp 5) rfl rfl rfl Tryd.underlying39 rfl i39 (lk rfl) _ rfl,
        fun L u => u_load u (gd0 rfl) 21 rfl 39 (.tmp 3) rfl rfl rfl Tryd.underlying39 rfl i39 (lk rfl) _ rfl,
        fun L u => u_call u (gd0 rfl) 22 rfl 19 #[(.tmp 20), (.tmp 21)] #[39, 39] rfl [.agg (fc ((wa wb (wm k ⟨x, y, z⟩ (j)) (wm k ⟨x, y, z⟩ (j))).x) ++ fc ((wa wb (wm k ⟨x, y, z⟩ (j)) (wm k ⟨x, y, z⟩ (j))).y) ++ fc ((wa wb (wm k ⟨x, y, z⟩ (j)) (wm k ⟨x, y, z⟩ (j))).z)).toArray, .agg (fc (x) ++ fc (y) ++ fc (z)).toArray] rfl (cE19 _) (.agg (fc ((wa wb (wa wb (wm k ⟨x, y, z⟩ (j)) (wm k ⟨x, y, z⟩ (j))) (⟨x, y, z⟩)).x) ++ fc ((wa wb (wa wb (wm k ⟨x, y, z⟩ (j)) (wm k ⟨x, y, z⟩ (j))) (⟨x, y, z⟩)).y) ++ fc ((wa wb (wa wb (wm k ⟨x, y, z⟩ (j)) (wm k ⟨x, y, z⟩ (j))) (⟨x, y, z⟩)).z)).toArray) (fun w hb => q_plus (hT.keep (Bs.kp_of hb)) _ _ _ _ _ _),
        fun L u => u_store u (gd0 rfl) 39 (.tmp 5) (.tmp 22) rfl rfl rfl (vs := fc ((wa wb (wa wb (wm k ⟨x, y, z⟩ (j)) (wm k ⟨x, y, z⟩ (j))) (⟨x, y, z⟩)).x) ++ fc ((wa wb (wa wb (wm k ⟨x, y, z⟩ (j)) (wm k ⟨x, y, z⟩ (j))) (⟨x, y, z⟩)).y) ++ fc ((wa wb (wa wb (wm k ⟨x, y, z⟩ (j)) (wm k ⟨x, y, z⟩ (j))) (⟨x, y, z⟩)).z)) rfl rfl i39 (lk rfl) rfl _ rfl,
        trivial⟩ [(2, .ptr 2 0), (3, .ptr 3 0), (4, .ptr 4 0), (5, .ptr 5 0), (6, .val (Value.int .i64 (255 - ((j : Nat) : Int))))] [(2, nc ((k : Int))), (3, fc (x) ++ fc (y) ++ fc (z)), (4, nz ++ nz ++ nz), (5, fc ((wa wb (wa wb (wm k ⟨x, y, z⟩ (j)) (wm k ⟨x, y, z⟩ (j))) (⟨x, y, z⟩)).x) ++ fc ((wa wb (wa wb (wm k ⟨x, y, z⟩ (j)) (wm k ⟨x, y, z⟩ (j))) (⟨x, y, z⟩)).y) ++ fc ((wa wb (wa wb (wm k ⟨x, y, z⟩ (j)) (wm k ⟨x, y, z⟩ (j))) (⟨x, y, z⟩)).z))] ⟨rfl, rfl, rfl, rfl, rfl, trivial⟩ ⟨rfl, rfl, rfl, rfl, trivial⟩ rfl (fun a w h => ?_)
      refine blk_norm ?_
      refine then_norm ?_
      refine go_end h hm [eS 11 (.val (Value.int .i64 (255 - ((j : Nat) : Int)))), eS 12 (.val (Value.int .i64 (255 - ((j + 1 : Nat) : Int)))), eS 6 (.val (Value.int .i64 (255 - ((j + 1 : Nat) : Int))))] (by kernel_rfl) ⟨
        fun L u => u_move u (gd0 rfl) 11 rfl (.tmp 6) (Or.inl rfl) rfl,
        fun L u => u_bin u (gd0 rfl) 12 rfl .sub 3 3 (.tmp 11) (.const (.int .i64 1)) rfl rfl rfl (eqg_int _ _ _ _ _ _ _ _) (Value.int .i64 (255 - ((j + 1 : Nat) : Int))) (fun w => i_sub _ _ _ _ (by omega) (by omega) w),
        fun L u => u_move u (gd0 rfl) 6 rfl (.tmp 12) (Or.inr rfl) rfl,
        trivial⟩ [(2, .ptr 2 0), (3, .ptr 3 0), (4, .ptr 4 0), (5, .ptr 5 0), (6, .val (Value.int .i64 (255 - ((j + 1 : Nat) : Int))))] [(2, nc ((k : Int))), (3, fc (x) ++ fc (y) ++ fc (z)), (4, nz ++ nz ++ nz), (5, fc ((wa wb (wa wb (wm k ⟨x, y, z⟩ (j)) (wm k ⟨x, y, z⟩ (j))) (⟨x, y, z⟩)).x) ++ fc ((wa wb (wa wb (wm k ⟨x, y, z⟩ (j)) (wm k ⟨x, y, z⟩ (j))) (⟨x, y, z⟩)).y) ++ fc ((wa wb (wa wb (wm k ⟨x, y, z⟩ (j)) (wm k ⟨x, y, z⟩ (j))) (⟨x, y, z⟩)).z))] ⟨rfl, rfl, rfl, rfl, rfl, trivial⟩ ⟨rfl, rfl, rfl, rfl, trivial⟩ rfl (fun a w h => ?_)
      refine then_norm ?_
      exact ⟨j + 1, (by omega), (by omega), h.keep [(2, .ptr 2 0), (3, .ptr 3 0), (4, .ptr 4 0), (5, .ptr 5 0), (6, .val (Value.int .i64 (255 - ((j + 1 : Nat) : Int))))] [(2, nc ((k : Int))), (3, fc (x) ++ fc (y) ++ fc (z)), (4, nz ++ nz ++ nz), (5, fc ((wm k ⟨x, y, z⟩ (j + 1)).x) ++ fc ((wm k ⟨x, y, z⟩ (j + 1)).y) ++ fc ((wm k ⟨x, y, z⟩ (j + 1)).z))] ⟨rfl, rfl, rfl, rfl, rfl, trivial⟩ ⟨rfl, rfl, rfl, (congrArg (fun p : P3 (Fin m0) => some (fc p.x ++ fc p.y ++ fc p.z)) (show wm k ⟨x, y, z⟩ (j + 1) = _ from if_pos hb).symm), trivial⟩ rfl⟩
    · skip
      refine wp_seq ?_
      refine go_region h hm [eS 9 (.val (Value.int .i64 (255 - ((j : Nat) : Int)))), eS 10 (.val (Value.bool true))] (by kernel_rfl) ⟨
        fun L u => u_move u (gd0 rfl) 9 rfl (.tmp 6) (Or.inl rfl) rfl,
        fun L u => u_bin u (gd0 rfl) 10 rfl .geq 3 3 (.tmp 9) (.const (.int .i64 0)) rfl rfl rfl (eqg_int _ _ _ _ _ _ _ _) (Value.bool true) (yes_of (fun w => i_geq _ _ _ _ w) (by omega)),
        trivial⟩ [(2, .ptr 2 0), (3, .ptr 3 0), (4, .ptr 4 0), (5, .ptr 5 0), (6, .val (Value.int .i64 (255 - ((j : Nat) : Int)))), (10, .val (Value.bool true))] [(2, nc ((k : Int))), (3, fc (x) ++ fc (y) ++ fc (z)), (4, nz ++ nz ++ nz), (5, fc ((wm k ⟨x, y, z⟩ (j)).x) ++ fc ((wm k ⟨x, y, z⟩ (j)).y) ++ fc ((wm k ⟨x, y, z⟩ (j)).z))] ⟨rfl, rfl, rfl, rfl, rfl, rfl, trivial⟩ ⟨rfl, rfl, rfl, rfl, trivial⟩ rfl (fun a w h => ?_)
      refine go_cond h true rfl (fun ht => ?_) (fun hf => ?_)
      case refine_2 => cases hf
      refine wp_skip ?_
      refine then_norm ?_
      refine wp_seq ?_
      refine wp_block ?_
      refine go_region h hm [eS 13 (.val (.agg (fc ((wm k ⟨x, y, z⟩ (j)).x) ++ fc ((wm k ⟨x, y, z⟩ (j)).y) ++ fc ((wm k ⟨x, y, z⟩ (j)).z)).toArray)), eS 14 (.val (.agg (fc ((wm k ⟨x, y, z⟩ (j)).x) ++ fc ((wm k ⟨x, y, z⟩ (j)).y) ++ fc ((wm k ⟨x, y, z⟩ (j)).z)).toArray)), eS 15 (.val (.agg (fc ((wa wb (wm k ⟨x, y, z⟩ (j)) (wm k ⟨x, y, z⟩ (j))).x) ++ fc ((wa wb (wm k ⟨x, y, z⟩ (j)) (wm k ⟨x, y, z⟩ (j))).y) ++ fc ((wa wb (wm k ⟨x, y, z⟩ (j)) (wm k ⟨x, y, z⟩ (j))).z)).toArray)), eM 5 (fc ((wa wb (wm k ⟨x, y, z⟩ (j)) (wm k ⟨x, y, z⟩ (j))).x) ++ fc ((wa wb (wm k ⟨x, y, z⟩ (j)) (wm k ⟨x, y, z⟩ (j))).y) ++ fc ((wa wb (wm k ⟨x, y, z⟩ (j)) (wm k ⟨x, y, z⟩ (j))).z))] (by kernel_rfl) ⟨
        fun L u => u_load u (gd0 rfl) 13 rfl 39 (.tmp 5) rfl rfl rfl Tryd.underlying39 rfl i39 (lk rfl) _ rfl,
        fun L u => u_load u (gd0 rfl) 14 rfl 39 (.tmp 5) rfl rfl rfl Tryd.underlying39 rfl i39 (lk rfl) _ rfl,
        fun L u => u_call u (gd0 rfl) 15 rfl 19 #[(.tmp 13), (.tmp 14)] #[39, 39] rfl [.agg (fc ((wm k ⟨x, y, z⟩ (j)).x) ++ fc ((wm k ⟨x, y, z⟩ (j)).y) ++ fc ((wm k ⟨x, y, z⟩ (j)).z)).toArray, .agg (fc ((wm k ⟨x, y, z⟩ (j)).x) ++ fc ((wm k ⟨x, y, z⟩ (j)).y) ++ fc ((wm k ⟨x, y, z⟩ (j)).z)).toArray] rfl (cE19 _) (.agg (fc ((wa wb (wm k ⟨x, y, z⟩ (j)) (wm k ⟨x, y, z⟩ (j))).x) ++ fc ((wa wb (wm k ⟨x, y, z⟩ (j)) (wm k ⟨x, y, z⟩ (j))).y) ++ fc ((wa wb (wm k ⟨x, y, z⟩ (j)) (wm k ⟨x, y, z⟩ (j))).z)).toArray) (fun w hb => q_plus (hT.keep (Bs.kp_of hb)) _ _ _ _ _ _),
        fun L u => u_store u (gd0 rfl) 39 (.tmp 5) (.tmp 15) rfl rfl rfl (vs := fc ((wa wb (wm k ⟨x, y, z⟩ (j)) (wm k ⟨x, y, z⟩ (j))).x) ++ fc ((wa wb (wm k ⟨x, y, z⟩ (j)) (wm k ⟨x, y, z⟩ (j))).y) ++ fc ((wa wb (wm k ⟨x, y, z⟩ (j)) (wm k ⟨x, y, z⟩ (j))).z)) rfl rfl i39 (lk rfl) rfl _ rfl,
        trivial⟩ [(2, .ptr 2 0), (3, .ptr 3 0), (4, .ptr 4 0), (5, .ptr 5 0), (6, .val (Value.int .i64 (255 - ((j : Nat) : Int))))] [(2, nc ((k : Int))), (3, fc (x) ++ fc (y) ++ fc (z)), (4, nz ++ nz ++ nz), (5, fc ((wa wb (wm k ⟨x, y, z⟩ (j)) (wm k ⟨x, y, z⟩ (j))).x) ++ fc ((wa wb (wm k ⟨x, y, z⟩ (j)) (wm k ⟨x, y, z⟩ (j))).y) ++ fc ((wa wb (wm k ⟨x, y, z⟩ (j)) (wm k ⟨x, y, z⟩ (j))).z))] ⟨rfl, rfl, rfl, rfl, rfl, trivial⟩ ⟨rfl, rfl, rfl, rfl, trivial⟩ rfl (fun a w h => ?_)
      refine go_region h hm [eS 16 (.val (.agg (nc ((k : Int))).toArray)), eS 17 (.val (Value.int .i64 (255 - ((j : Nat) : Int)))), eS 18 (.val (Value.int .i64 ((k / 2 ^ (255 - j) % 2 : Nat) : Int))), eS 19 (.val (Value.bool false))] (by kernel_rfl) ⟨
        fun L u => u_load u (gd0 rfl) 16 rfl 24 (.tmp 2) rfl rfl rfl Tryd.underlying24 rfl i24 (lk rfl) _ rfl,
        fun L u => u_move u (gd0 rfl) 17 rfl (.tmp 6) (Or.inl rfl) rfl,
        fun L u => u_call u (gd0 rfl) 18 rfl 26 #[(.tmp 16), (.tmp 17)] #[24, 3] rfl [.agg (nc ((k : Int))).toArray, Value.int .i64 (255 - ((j : Nat) : Int))] rfl (cE26 _) (Value.int .i64 ((k / 2 ^ (255 - j) % 2 : Nat) : Int)) (fun w hb => by have := q_bit (w := w) k (255 - j) (by omega); rw [show (((255 - j : Nat)) : Int) = 255 - (j : Int) by omega] at this; exact this),
        fun L u => u_bin u (gd0 rfl) 19 rfl .eql 3 3 (.tmp 18) (.const (.int .i64 1)) rfl rfl rfl (eqg_int _ _ _ _ _ _ _ _) (Value.bool false) (no_of (fun w => i_eql _ _ _ _ w) (by omega)),
        trivial⟩ [(2, .ptr 2 0), (3, .ptr 3 0), (4, .ptr 4 0), (5, .ptr 5 0), (6, .val (Value.int .i64 (255 - ((j : Nat) : Int)))), (19, .val (Value.bool false))] [(2, nc ((k : Int))), (3, fc (x) ++ fc (y) ++ fc (z)), (4, nz ++ nz ++ nz), (5, fc ((wa wb (wm k ⟨x, y, z⟩ (j)) (wm k ⟨x, y, z⟩ (j))).x) ++ fc ((wa wb (wm k ⟨x, y, z⟩ (j)) (wm k ⟨x, y, z⟩ (j))).y) ++ fc ((wa wb (wm k ⟨x, y, z⟩ (j)) (wm k ⟨x, y, z⟩ (j))).z))] ⟨rfl, rfl, rfl, rfl, rfl, rfl, trivial⟩ ⟨rfl, rfl, rfl, rfl, trivial⟩ rfl (fun a w h => ?_)
      refine go_cond h false rfl (fun ht => ?_) (fun hf => ?_)
      case refine_1 => cases ht
      refine wp_skip ?_
      refine blk_norm ?_
      refine then_norm ?_
      refine go_end h hm [eS 11 (.val (Value.int .i64 (255 - ((j : Nat) : Int)))), eS 12 (.val (Value.int .i64 (255 - ((j + 1 : Nat) : Int)))), eS 6 (.val (Value.int .i64 (255 - ((j + 1 : Nat) : Int))))] (by kernel_rfl) ⟨
        fun L u => u_move u (gd0 rfl) 11 rfl (.tmp 6) (Or.inl rfl) rfl,
        fun L u => u_bin u (gd0 rfl) 12 rfl .sub 3 3 (.tmp 11) (.const (.int .i64 1)) rfl rfl rfl (eqg_int _ _ _ _ _ _ _ _) (Value.int .i64 (255 - ((j + 1 : Nat) : Int))) (fun w => i_sub _ _ _ _ (by omega) (by omega) w),
        fun L u => u_move u (gd0 rfl) 6 rfl (.tmp 12) (Or.inr rfl) rfl,
        trivial⟩ [(2, .ptr 2 0), (3, .ptr 3 0), (4, .ptr 4 0), (5, .ptr 5 0), (6, .val (Value.int .i64 (255 - ((j + 1 : Nat) : Int))))] [(2, nc ((k : Int))), (3, fc (x) ++ fc (y) ++ fc (z)), (4, nz ++ nz ++ nz), (5, fc ((wa wb (wm k ⟨x, y, z⟩ (j)) (wm k ⟨x, y, z⟩ (j))).x) ++ fc ((wa wb (wm k ⟨x, y, z⟩ (j)) (wm k ⟨x, y, z⟩ (j))).y) ++ fc ((wa wb (wm k ⟨x, y, z⟩ (j)) (wm k ⟨x, y, z⟩ (j))).z))] ⟨rfl, rfl, rfl, rfl, rfl, trivial⟩ ⟨rfl, rfl, rfl, rfl, trivial⟩ rfl (fun a w h => ?_)
      refine then_norm ?_
      exact ⟨j + 1, (by omega), (by omega), h.keep [(2, .ptr 2 0), (3, .ptr 3 0), (4, .ptr 4 0), (5, .ptr 5 0), (6, .val (Value.int .i64 (255 - ((j + 1 : Nat) : Int))))] [(2, nc ((k : Int))), (3, fc (x) ++ fc (y) ++ fc (z)), (4, nz ++ nz ++ nz), (5, fc ((wm k ⟨x, y, z⟩ (j + 1)).x) ++ fc ((wm k ⟨x, y, z⟩ (j + 1)).y) ++ fc ((wm k ⟨x, y, z⟩ (j + 1)).z))] ⟨rfl, rfl, rfl, rfl, rfl, trivial⟩ ⟨rfl, rfl, rfl, (congrArg (fun p : P3 (Fin m0) => some (fc p.x ++ fc p.y ++ fc p.z)) (show wm k ⟨x, y, z⟩ (j + 1) = _ from if_neg hb).symm), trivial⟩ rfl⟩
  · skip
    refine wp_seq ?_
    refine go_region h hm [eS 9 (.val (Value.int .i64 (255 - ((j : Nat) : Int)))), eS 10 (.val (Value.bool false))] (by kernel_rfl) ⟨
      fun L u => u_move u (gd0 rfl) 9 rfl (.tmp 6) (Or.inl rfl) rfl,
      fun L u => u_bin u (gd0 rfl) 10 rfl .geq 3 3 (.tmp 9) (.const (.int .i64 0)) rfl rfl rfl (eqg_int _ _ _ _ _ _ _ _) (Value.bool false) (no_of (fun w => i_geq _ _ _ _ w) (by omega)),
      trivial⟩ [(2, .ptr 2 0), (3, .ptr 3 0), (4, .ptr 4 0), (5, .ptr 5 0), (6, .val (Value.int .i64 (255 - ((j : Nat) : Int)))), (10, .val (Value.bool false))] [(2, nc ((k : Int))), (3, fc (x) ++ fc (y) ++ fc (z)), (4, nz ++ nz ++ nz), (5, fc ((wm k ⟨x, y, z⟩ (j)).x) ++ fc ((wm k ⟨x, y, z⟩ (j)).y) ++ fc ((wm k ⟨x, y, z⟩ (j)).z))] ⟨rfl, rfl, rfl, rfl, rfl, rfl, trivial⟩ ⟨rfl, rfl, rfl, rfl, trivial⟩ rfl (fun a w h => ?_)
    refine go_cond h false rfl (fun ht => ?_) (fun hf => ?_)
    case refine_1 => cases ht
    refine wp_exit ?_
    refine then_exit ?_
    refine then_exit ?_
    refine blk_exit ?_
    refine then_norm ?_
    refine go_region h hm [eS 23 (.val (.agg (fc ((wm k ⟨x, y, z⟩ (j)).x) ++ fc ((wm k ⟨x, y, z⟩ (j)).y) ++ fc ((wm k ⟨x, y, z⟩ (j)).z)).toArray)), eM 4 (fc ((wm k ⟨x, y, z⟩ (j)).x) ++ fc ((wm k ⟨x, y, z⟩ (j)).y) ++ fc ((wm k ⟨x, y, z⟩ (j)).z))] (by kernel_rfl) ⟨
      fun L u => u_load u (gd0 rfl) 23 rfl 39 (.tmp 5) rfl rfl rfl Tryd.underlying39 rfl i39 (lk rfl) _ rfl,
      fun L u => u_store u (gd0 rfl) 39 (.tmp 4) (.tmp 23) rfl rfl rfl (vs := fc ((wm k ⟨x, y, z⟩ (j)).x) ++ fc ((wm k ⟨x, y, z⟩ (j)).y) ++ fc ((wm k ⟨x, y, z⟩ (j)).z)) rfl rfl i39 (lk rfl) rfl _ rfl,
      trivial⟩ [(4, .ptr 4 0)] [(4, fc ((wm k ⟨x, y, z⟩ (j)).x) ++ fc ((wm k ⟨x, y, z⟩ (j)).y) ++ fc ((wm k ⟨x, y, z⟩ (j)).z))] ⟨rfl, trivial⟩ ⟨rfl, trivial⟩ rfl (fun a w h => ?_)
    refine wp_ret ?_
    refine ret_row h 4 39 rfl (lk rfl) 4 rfl (fc ((wm k ⟨x, y, z⟩ (j)).x) ++ fc ((wm k ⟨x, y, z⟩ (j)).y) ++ fc ((wm k ⟨x, y, z⟩ (j)).z)) rfl _ Tryd.underlying39 rfl i39 ?_
    exact ⟨by rw [show j = 256 by omega]; rfl, h.grows⟩
set_option maxRecDepth 100000 in
set_option maxHeartbeats 4000000 in
theorem q_Add0 {w : World} (hT : Tab w) {X Y X2 Y2 : Int} (hX : Num X) (hY : Num Y) (hX2 : Num X2) (hY2 : Num Y2) (t t2 : Bool) : Calls Tryd.prog 9 [.agg (rc X Y t).toArray, .agg (rc X2 Y2 t2).toArray].toArray w fun e w' => e = .returned (.agg (pc (nm fiv (wa wb (rp X Y t).lift (rp X2 Y2 t2).lift))).toArray) ∧ Below w.heap.size w w' := by
  refine enter (args := [.agg (rc X Y t).toArray, .agg (rc X2 Y2 t2).toArray]) Tryd.func9 rfl 11 rfl (lk rfl) (fun a h => ?_)
  refine go_region h hm [eN 2 (rc X Y t), eN 3 (rc X2 Y2 t2), eN 4 (nz ++ nz ++ [Value.bool false])] (by kernel_rfl) ⟨
    fun L u => u_box u (gd0 rfl) 26 (.tmp 0) rfl 2 rfl rfl rfl _ rfl,
    fun L u => u_box u (gd0 rfl) 26 (.tmp 1) rfl 3 rfl rfl rfl _ rfl,
    fun L u => u_alloc u (gd0 rfl) 26 rfl 4 rfl rfl z26 _ rfl,
    trivial⟩ [(2, .ptr 2 0), (3, .ptr 3 0), (4, .ptr 4 0)] [(2, rc X Y t), (3, rc X2 Y2 t2), (4, nz ++ nz ++ [Value.bool false])] ⟨rfl, rfl, rfl, trivial⟩ ⟨rfl, rfl, rfl, trivial⟩ rfl (fun a w h => ?_)
  refine go_region h hm [eS 5 (.val (.agg (rc X Y t).toArray)), eS 6 (.val (.agg (fc (((rp X Y t).lift).x) ++ fc (((rp X Y t).lift).y) ++ fc (((rp X Y t).lift).z)).toArray)), eS 7 (.val (.agg (rc X2 Y2 t2).toArray)), eS 8 (.val (.agg (fc (((rp X2 Y2 t2).lift).x) ++ fc (((rp X2 Y2 t2).lift).y) ++ fc (((rp X2 Y2 t2).lift).z)).toArray)), eS 9 (.val (.agg (fc ((wa wb ((rp X Y t).lift) ((rp X2 Y2 t2).lift)).x) ++ fc ((wa wb ((rp X Y t).lift) ((rp X2 Y2 t2).lift)).y) ++ fc ((wa wb ((rp X Y t).lift) ((rp X2 Y2 t2).lift)).z)).toArray)), eS 10 (.val (.agg (pc (nm fiv (wa wb ((rp X Y t).lift) ((rp X2 Y2 t2).lift)))).toArray)), eM 4 (pc (nm fiv (wa wb ((rp X Y t).lift) ((rp X2 Y2 t2).lift))))] (by kernel_rfl) ⟨
    fun L u => u_load u (gd0 rfl) 5 rfl 26 (.tmp 2) rfl rfl rfl Tryd.underlying26 rfl i26 (lk rfl) _ rfl,
    fun L u => u_call u (gd0 rfl) 6 rfl 14 #[(.tmp 5)] #[26] rfl [.agg (rc X Y t).toArray] rfl (cE14 _) (.agg (fc (((rp X Y t).lift).x) ++ fc (((rp X Y t).lift).y) ++ fc (((rp X Y t).lift).z)).toArray) (fun w hb => q_lift (hT.keep (Bs.kp_of hb)) hX hY t),
    fun L u => u_load u (gd0 rfl) 7 rfl 26 (.tmp 3) rfl rfl rfl Tryd.underlying26 rfl i26 (lk rfl) _ rfl,
    fun L u => u_call u (gd0 rfl) 8 rfl 14 #[(.tmp 7)] #[26] rfl [.agg (rc X2 Y2 t2).toArray] rfl (cE14 _) (.agg (fc (((rp X2 Y2 t2).lift).x) ++ fc (((rp X2 Y2 t2).lift).y) ++ fc (((rp X2 Y2 t2).lift).z)).toArray) (fun w hb => q_lift (hT.keep (Bs.kp_of hb)) hX2 hY2 t2),
    fun L u => u_call u (gd0 rfl) 9 rfl 19 #[(.tmp 6), (.tmp 8)] #[39, 39] rfl [.agg (fc (((rp X Y t).lift).x) ++ fc (((rp X Y t).lift).y) ++ fc (((rp X Y t).lift).z)).toArray, .agg (fc (((rp X2 Y2 t2).lift).x) ++ fc (((rp X2 Y2 t2).lift).y) ++ fc (((rp X2 Y2 t2).lift).z)).toArray] rfl (cE19 _) (.agg (fc ((wa wb ((rp X Y t).lift) ((rp X2 Y2 t2).lift)).x) ++ fc ((wa wb ((rp X Y t).lift) ((rp X2 Y2 t2).lift)).y) ++ fc ((wa wb ((rp X Y t).lift) ((rp X2 Y2 t2).lift)).z)).toArray) (fun w hb => q_plus (hT.keep (Bs.kp_of hb)) _ _ _ _ _ _),
    fun L u => u_call u (gd0 rfl) 10 rfl 12 #[(.tmp 9)] #[39] rfl [.agg (fc ((wa wb ((rp X Y t).lift) ((rp X2 Y2 t2).lift)).x) ++ fc ((wa wb ((rp X Y t).lift) ((rp X2 Y2 t2).lift)).y) ++ fc ((wa wb ((rp X Y t).lift) ((rp X2 Y2 t2).lift)).z)).toArray] rfl (cE12 _) (.agg (pc (nm fiv (wa wb ((rp X Y t).lift) ((rp X2 Y2 t2).lift)))).toArray) (fun w hb => q_drop (hT.keep (Bs.kp_of hb)) _ _ _),
    fun L u => u_store u (gd0 rfl) 26 (.tmp 4) (.tmp 10) rfl rfl rfl (vs := pc (nm fiv (wa wb ((rp X Y t).lift) ((rp X2 Y2 t2).lift)))) rfl rfl i26 (lk rfl) rfl _ rfl,
    trivial⟩ [(4, .ptr 4 0)] [(4, pc (nm fiv (wa wb ((rp X Y t).lift) ((rp X2 Y2 t2).lift))))] ⟨rfl, trivial⟩ ⟨rfl, trivial⟩ rfl (fun a w h => ?_)
  refine wp_ret ?_
  refine ret_row h 4 26 rfl (lk rfl) 4 rfl (pc (nm fiv (wa wb ((rp X Y t).lift) ((rp X2 Y2 t2).lift)))) rfl _ Tryd.underlying26 rfl i26 ?_
  exact ⟨rfl, h.grows⟩
set_option maxRecDepth 100000 in
set_option maxHeartbeats 4000000 in
theorem q_Mul0 {w : World} (hT : Tab w) (k : Nat) {X Y : Int} (hX : Num X) (hY : Num Y) (t : Bool) : Calls Tryd.prog 5 [.agg (nc ((k : Int))).toArray, .agg (rc X Y t).toArray].toArray w fun e w' => e = .returned (.agg (pc (nm fiv (wm k (rp X Y t).lift 256))).toArray) ∧ Below w.heap.size w w' := by
  refine enter (args := [.agg (nc ((k : Int))).toArray, .agg (rc X Y t).toArray]) Tryd.func5 rfl 10 rfl (lk rfl) (fun a h => ?_)
  refine go_region h hm [eN 2 (nc ((k : Int))), eN 3 (rc X Y t), eN 4 (nz ++ nz ++ [Value.bool false])] (by kernel_rfl) ⟨
    fun L u => u_box u (gd0 rfl) 24 (.tmp 0) rfl 2 rfl rfl rfl _ rfl,
    fun L u => u_box u (gd0 rfl) 26 (.tmp 1) rfl 3 rfl rfl rfl _ rfl,
    fun L u => u_alloc u (gd0 rfl) 26 rfl 4 rfl rfl z26 _ rfl,
    trivial⟩ [(2, .ptr 2 0), (3, .ptr 3 0), (4, .ptr 4 0)] [(2, nc ((k : Int))), (3, rc X Y t), (4, nz ++ nz ++ [Value.bool false])] ⟨rfl, rfl, rfl, trivial⟩ ⟨rfl, rfl, rfl, trivial⟩ rfl (fun a w h => ?_)
  refine go_region h hm [eS 5 (.val (.agg (nc ((k : Int))).toArray)), eS 6 (.val (.agg (rc X Y t).toArray)), eS 7 (.val (.agg (fc (((rp X Y t).lift).x) ++ fc (((rp X Y t).lift).y) ++ fc (((rp X Y t).lift).z)).toArray)), eS 8 (.val (.agg (fc ((wm k ((rp X Y t).lift) 256).x) ++ fc ((wm k ((rp X Y t).lift) 256).y) ++ fc ((wm k ((rp X Y t).lift) 256).z)).toArray)), eS 9 (.val (.agg (pc (nm fiv (wm k ((rp X Y t).lift) 256))).toArray)), eM 4 (pc (nm fiv (wm k ((rp X Y t).lift) 256)))] (by kernel_rfl) ⟨
    fun L u => u_load u (gd0 rfl) 5 rfl 24 (.tmp 2) rfl rfl rfl Tryd.underlying24 rfl i24 (lk rfl) _ rfl,
    fun L u => u_load u (gd0 rfl) 6 rfl 26 (.tmp 3) rfl rfl rfl Tryd.underlying26 rfl i26 (lk rfl) _ rfl,
    fun L u => u_call u (gd0 rfl) 7 rfl 14 #[(.tmp 6)] #[26] rfl [.agg (rc X Y t).toArray] rfl (cE14 _) (.agg (fc (((rp X Y t).lift).x) ++ fc (((rp X Y t).lift).y) ++ fc (((rp X Y t).lift).z)).toArray) (fun w hb => q_lift (hT.keep (Bs.kp_of hb)) hX hY t),
    fun L u => u_call u (gd0 rfl) 8 rfl 13 #[(.tmp 5), (.tmp 7)] #[24, 39] rfl [.agg (nc ((k : Int))).toArray, .agg (fc (((rp X Y t).lift).x) ++ fc (((rp X Y t).lift).y) ++ fc (((rp X Y t).lift).z)).toArray] rfl (cE13 _) (.agg (fc ((wm k ((rp X Y t).lift) 256).x) ++ fc ((wm k ((rp X Y t).lift) 256).y) ++ fc ((wm k ((rp X Y t).lift) 256).z)).toArray) (fun w hb => q_times (hT.keep (Bs.kp_of hb)) _ _ _ _),
    fun L u => u_call u (gd0 rfl) 9 rfl 12 #[(.tmp 8)] #[39] rfl [.agg (fc ((wm k ((rp X Y t).lift) 256).x) ++ fc ((wm k ((rp X Y t).lift) 256).y) ++ fc ((wm k ((rp X Y t).lift) 256).z)).toArray] rfl (cE12 _) (.agg (pc (nm fiv (wm k ((rp X Y t).lift) 256))).toArray) (fun w hb => q_drop (hT.keep (Bs.kp_of hb)) _ _ _),
    fun L u => u_store u (gd0 rfl) 26 (.tmp 4) (.tmp 9) rfl rfl rfl (vs := pc (nm fiv (wm k ((rp X Y t).lift) 256))) rfl rfl i26 (lk rfl) rfl _ rfl,
    trivial⟩ [(4, .ptr 4 0)] [(4, pc (nm fiv (wm k ((rp X Y t).lift) 256)))] ⟨rfl, trivial⟩ ⟨rfl, trivial⟩ rfl (fun a w h => ?_)
  refine wp_ret ?_
  refine ret_row h 4 26 rfl (lk rfl) 4 rfl (pc (nm fiv (wm k ((rp X Y t).lift) 256))) rfl _ Tryd.underlying26 rfl i26 ?_
  exact ⟨rfl, h.grows⟩
theorem l_on (X Y : Int) (t : Bool) : On wb (rp X Y t).lift := on_lift wk0 (rp_on X Y t)
theorem q_Add {w : World} (hT : Tab w) {X Y X2 Y2 : Int} (hX : Num X) (hY : Num Y) (hX2 : Num X2) (hY2 : Num Y2) (t t2 : Bool) : Calls Tryd.prog 9 [.agg (rc X Y t).toArray, .agg (rc X2 Y2 t2).toArray].toArray w fun e w' => e = .returned (.agg (pc (wplus (rp X Y t) (rp X2 Y2 t2))).toArray) ∧ Below w.heap.size w w' := by
  have h := q_Add0 hT hX hY hX2 hY2 t t2
  rw [wa_nm (l_on X Y t) (l_on X2 Y2 t2), nm_lift fld0, nm_lift fld0] at h
  exact h
theorem q_Mul {w : World} (hT : Tab w) {k : Nat} (hk : k < 2 ^ 256) {X Y : Int} (hX : Num X) (hY : Num Y) (t : Bool) : Calls Tryd.prog 5 [.agg (nc (k : Int)).toArray, .agg (rc X Y t).toArray].toArray w fun e w' => e = .returned (.agg (pc (mt wplus Wp.o (rp X Y t) k)).toArray) ∧ Below w.heap.size w w' := by
  have h := q_Mul0 hT k hX hY t
  rw [wm_all hk (l_on X Y t), nm_lift fld0] at h
  exact h
set_option maxRecDepth 100000 in
set_option maxHeartbeats 4000000 in
theorem q_Base {w : World}  : Calls Tryd.prog 6 [].toArray w fun e w' => e = .returned (.agg (pc wG).toArray) ∧ Below w.heap.size w w' := by
  refine enter (args := []) Tryd.func6 rfl 4 rfl (lk rfl) (fun a h => ?_)
  refine go_region h hm [eN 0 (nz ++ nz ++ [Value.bool false])] (by kernel_rfl) ⟨
    fun L u => u_alloc u (gd0 rfl) 26 rfl 0 rfl rfl z26 _ rfl,
    trivial⟩ [(0, .ptr 0 0)] [(0, nz ++ nz ++ [Value.bool false])] ⟨rfl, trivial⟩ ⟨rfl, trivial⟩ rfl (fun a w h => ?_)
  refine go_region h hm [eS 1 (.val (.agg ([(Value.int IntKind.u64 17627433388654248598)] ++ [(Value.int IntKind.u64 8575836109218198432)] ++ [(Value.int IntKind.u64 17923454489921339634)] ++ [(Value.int IntKind.u64 7716867327612699207)]).toArray)), eS 2 (.val (.agg ([(Value.int IntKind.u64 14678990851816772085)] ++ [(Value.int IntKind.u64 3156516839386865358)] ++ [(Value.int IntKind.u64 10297457778147434006)] ++ [(Value.int IntKind.u64 5756518291402817435)]).toArray)), eS 3 (.val (.agg ([(Value.int IntKind.u64 17627433388654248598)] ++ [(Value.int IntKind.u64 8575836109218198432)] ++ [(Value.int IntKind.u64 17923454489921339634)] ++ [(Value.int IntKind.u64 7716867327612699207)] ++ [(Value.int IntKind.u64 14678990851816772085)] ++ [(Value.int IntKind.u64 3156516839386865358)] ++ [(Value.int IntKind.u64 10297457778147434006)] ++ [(Value.int IntKind.u64 5756518291402817435)] ++ [Value.bool false]).toArray)), eM 0 ([(Value.int IntKind.u64 17627433388654248598)] ++ [(Value.int IntKind.u64 8575836109218198432)] ++ [(Value.int IntKind.u64 17923454489921339634)] ++ [(Value.int IntKind.u64 7716867327612699207)] ++ [(Value.int IntKind.u64 14678990851816772085)] ++ [(Value.int IntKind.u64 3156516839386865358)] ++ [(Value.int IntKind.u64 10297457778147434006)] ++ [(Value.int IntKind.u64 5756518291402817435)] ++ [Value.bool false])] (by kernel_rfl) ⟨
    fun L u => u_build u (gd0 rfl) 1 rfl 24 #[(0, (.const (.int .u64 17627433388654248598))), (1, (.const (.int .u64 8575836109218198432))), (2, (.const (.int .u64 17923454489921339634))), (3, (.const (.int .u64 7716867327612699207)))] rfl [(0, (Value.int IntKind.u64 17627433388654248598)), (1, (Value.int IntKind.u64 8575836109218198432)), (2, (Value.int IntKind.u64 17923454489921339634)), (3, (Value.int IntKind.u64 7716867327612699207))] rfl ([(Value.int IntKind.u64 17627433388654248598)] ++ [(Value.int IntKind.u64 8575836109218198432)] ++ [(Value.int IntKind.u64 17923454489921339634)] ++ [(Value.int IntKind.u64 7716867327612699207)]) (bN4 _ _ _ _),
    fun L u => u_build u (gd0 rfl) 2 rfl 24 #[(0, (.const (.int .u64 14678990851816772085))), (1, (.const (.int .u64 3156516839386865358))), (2, (.const (.int .u64 10297457778147434006))), (3, (.const (.int .u64 5756518291402817435)))] rfl [(0, (Value.int IntKind.u64 14678990851816772085)), (1, (Value.int IntKind.u64 3156516839386865358)), (2, (Value.int IntKind.u64 10297457778147434006)), (3, (Value.int IntKind.u64 5756518291402817435))] rfl ([(Value.int IntKind.u64 14678990851816772085)] ++ [(Value.int IntKind.u64 3156516839386865358)] ++ [(Value.int IntKind.u64 10297457778147434006)] ++ [(Value.int IntKind.u64 5756518291402817435)]) (bN4 _ _ _ _),
    fun L u => u_build u (gd0 rfl) 3 rfl 26 #[(0, (.tmp 1)), (1, (.tmp 2))] rfl [(0, .agg ([(Value.int IntKind.u64 17627433388654248598)] ++ [(Value.int IntKind.u64 8575836109218198432)] ++ [(Value.int IntKind.u64 17923454489921339634)] ++ [(Value.int IntKind.u64 7716867327612699207)]).toArray), (1, .agg ([(Value.int IntKind.u64 14678990851816772085)] ++ [(Value.int IntKind.u64 3156516839386865358)] ++ [(Value.int IntKind.u64 10297457778147434006)] ++ [(Value.int IntKind.u64 5756518291402817435)]).toArray)] rfl ([(Value.int IntKind.u64 17627433388654248598)] ++ [(Value.int IntKind.u64 8575836109218198432)] ++ [(Value.int IntKind.u64 17923454489921339634)] ++ [(Value.int IntKind.u64 7716867327612699207)] ++ [(Value.int IntKind.u64 14678990851816772085)] ++ [(Value.int IntKind.u64 3156516839386865358)] ++ [(Value.int IntKind.u64 10297457778147434006)] ++ [(Value.int IntKind.u64 5756518291402817435)] ++ [Value.bool false]) (bPc _ _ _ _ _ _ _ _),
    fun L u => u_store u (gd0 rfl) 26 (.tmp 0) (.tmp 3) rfl rfl rfl (vs := [(Value.int IntKind.u64 17627433388654248598)] ++ [(Value.int IntKind.u64 8575836109218198432)] ++ [(Value.int IntKind.u64 17923454489921339634)] ++ [(Value.int IntKind.u64 7716867327612699207)] ++ [(Value.int IntKind.u64 14678990851816772085)] ++ [(Value.int IntKind.u64 3156516839386865358)] ++ [(Value.int IntKind.u64 10297457778147434006)] ++ [(Value.int IntKind.u64 5756518291402817435)] ++ [Value.bool false]) rfl rfl i26 (lk rfl) rfl _ rfl,
    trivial⟩ [(0, .ptr 0 0)] [(0, [(Value.int IntKind.u64 17627433388654248598)] ++ [(Value.int IntKind.u64 8575836109218198432)] ++ [(Value.int IntKind.u64 17923454489921339634)] ++ [(Value.int IntKind.u64 7716867327612699207)] ++ [(Value.int IntKind.u64 14678990851816772085)] ++ [(Value.int IntKind.u64 3156516839386865358)] ++ [(Value.int IntKind.u64 10297457778147434006)] ++ [(Value.int IntKind.u64 5756518291402817435)] ++ [Value.bool false])] ⟨rfl, trivial⟩ ⟨rfl, trivial⟩ rfl (fun a w h => ?_)
  refine wp_ret ?_
  refine ret_row h 0 26 rfl (lk rfl) 0 rfl ([(Value.int IntKind.u64 17627433388654248598)] ++ [(Value.int IntKind.u64 8575836109218198432)] ++ [(Value.int IntKind.u64 17923454489921339634)] ++ [(Value.int IntKind.u64 7716867327612699207)] ++ [(Value.int IntKind.u64 14678990851816772085)] ++ [(Value.int IntKind.u64 3156516839386865358)] ++ [(Value.int IntKind.u64 10297457778147434006)] ++ [(Value.int IntKind.u64 5756518291402817435)] ++ [Value.bool false]) rfl _ Tryd.underlying26 rfl i26 ?_
  exact ⟨by rw [pc_G], h.grows⟩
end Go.Proofs.YtimaaendbfjblabDoor
namespace Go.Proofs.YtimaaendbfjblabDoor
open Go.RowKit

theorem cE7 (vs : List Value) : ∀ w, (callFunc 7 vs.toArray).run Tryd.prog w = .ok (.enter 7 vs.toArray) w := callFunc_enter Tryd.func7 (by kernel_rfl) (by kernel_rfl) _
theorem cE15 (vs : List Value) : ∀ w, (callFunc 15 vs.toArray).run Tryd.prog w = .ok (.enter 15 vs.toArray) w := callFunc_enter Tryd.func15 (by kernel_rfl) (by kernel_rfl) _
theorem cE29 (vs : List Value) : ∀ w, (callFunc 29 vs.toArray).run Tryd.prog w = .ok (.enter 29 vs.toArray) w := callFunc_enter Tryd.func29 (by kernel_rfl) (by kernel_rfl) _
theorem cE16 (vs : List Value) : ∀ w, (callFunc 16 vs.toArray).run Tryd.prog w = .ok (.enter 16 vs.toArray) w := callFunc_enter Tryd.func16 (by kernel_rfl) (by kernel_rfl) _
theorem cE17 (vs : List Value) : ∀ w, (callFunc 17 vs.toArray).run Tryd.prog w = .ok (.enter 17 vs.toArray) w := callFunc_enter Tryd.func17 (by kernel_rfl) (by kernel_rfl) _
theorem cE8 (vs : List Value) : ∀ w, (callFunc 8 vs.toArray).run Tryd.prog w = .ok (.enter 8 vs.toArray) w := callFunc_enter Tryd.func8 (by kernel_rfl) (by kernel_rfl) _
theorem cE18 (vs : List Value) : ∀ w, (callFunc 18 vs.toArray).run Tryd.prog w = .ok (.enter 18 vs.toArray) w := callFunc_enter Tryd.func18 (by kernel_rfl) (by kernel_rfl) _
theorem cE27 (vs : List Value) : ∀ w, (callFunc 27 vs.toArray).run Tryd.prog w = .ok (.enter 27 vs.toArray) w := callFunc_enter Tryd.func27 (by kernel_rfl) (by kernel_rfl) _
theorem cE28 (vs : List Value) : ∀ w, (callFunc 28 vs.toArray).run Tryd.prog w = .ok (.enter 28 vs.toArray) w := callFunc_enter Tryd.func28 (by kernel_rfl) (by kernel_rfl) _
theorem q_AddP {w : World} (hT : Tab w) {a b : Wp m0} (ha : a.on wb) (hb : b.on wb) : Calls Tryd.prog 9 [.agg (pc a).toArray, .agg (pc b).toArray].toArray w fun e w' => e = .returned (.agg (pc (wplus a b)).toArray) ∧ Below w.heap.size w w' := by
  have h := q_Add hT (fin_num (px a)) (fin_num (py a)) (fin_num (px b)) (fin_num (py b)) a.isNone b.isNone
  rw [rp_pc ha, rp_pc hb] at h
  exact h
theorem q_MulP {w : World} (hT : Tab w) {k : Nat} (hk : k < 2 ^ 256) {a : Wp m0} (ha : a.on wb) : Calls Tryd.prog 5 [.agg (nc (k : Int)).toArray, .agg (pc a).toArray].toArray w fun e w' => e = .returned (.agg (pc (mt wplus Wp.o a k)).toArray) ∧ Below w.heap.size w w' := by
  have h := q_Mul hT hk (fin_num (px a)) (fin_num (py a)) a.isNone
  rw [rp_pc ha] at h
  exact h
theorem fmd_pc {a : Wp m0} (h : a.on wb) : fmd ((px a).val : Int) ((py a).val : Int) a.isNone = true := by
  cases a with
  | none =>
    have z : ((0 : Fin m0).val : Int) = 0 := by rw [show (0 : Fin m0).val = 0 from Fin.val_zero _]; rfl
    show decide (((0 : Fin m0).val : Int) = 0 ∧ ((0 : Fin m0).val : Int) = 0) = true
    exact decide_eq_true ⟨z, z⟩
  | some q =>
    obtain ⟨x, y⟩ := q
    have hc : y * y = x * x * x - 3 * x + wb := h
    have hd : (x.val : Int) < md 0 ∧ (y.val : Int) < md 0 ∧ (kc (y.val : Int) : Fin m0) * kc (y.val : Int) = kc (x.val : Int) * kc (x.val : Int) * kc (x.val : Int) - 3 * kc (x.val : Int) + wb := ⟨of_decide_eq_true (fin_lt x), of_decide_eq_true (fin_lt y), by rw [kc_self, kc_self]; exact hc⟩
    have e : fmd (x.val : Int) (y.val : Int) false = decide ((x.val : Int) < md 0 ∧ (y.val : Int) < md 0 ∧ (kc (y.val : Int) : Fin m0) * kc (y.val : Int) = kc (x.val : Int) * kc (x.val : Int) * kc (x.val : Int) - 3 * kc (x.val : Int) + wb) := if_neg (by decide)
    exact e.trans (decide_eq_true hd)
theorem q_FormedP {w : World} (hT : Tab w) {a : Wp m0} (ha : a.on wb) : Calls Tryd.prog 10 [.agg (pc a).toArray].toArray w fun e w' => e = .returned (.bool true) ∧ Below w.heap.size w w' := by
  have h := q_Formed hT (fin_num (px a)) (fin_num (py a)) a.isNone
  rw [fmd_pc ha] at h
  exact h
theorem nz_pc : nz ++ nz ++ [Value.bool true] = pc Wp.o := by rw [nz_fc]; rfl
/-- A point's mirror. -/
def wneg (a : Wp m0) : Wp m0 := match a with
  | none => none
  | some q => some (q.1, 0 - q.2)
theorem sub_nil : (0 : Fin m0) - 0 = 0 := by decide +kernel
theorem mir_pc (a : Wp m0) : fc (px a) ++ fc (0 - py a) ++ [Value.bool a.isNone] = pc (wneg a) := by
  cases a with
  | none =>
    show fc 0 ++ fc (0 - 0) ++ [Value.bool true] = fc 0 ++ fc 0 ++ [Value.bool true]
    rw [sub_nil]
  | some q => rfl
theorem neg_sq {p : Nat} [NeZero p] (y : Fin p) : (0 - y) * (0 - y) = y * y := by grobner
theorem wneg_on {a : Wp m0} (h : a.on wb) : (wneg a).on wb := by
  cases a with
  | none => trivial
  | some q =>
    obtain ⟨x, y⟩ := q
    have hc : y * y = x * x * x - 3 * x + wb := h
    show (0 - y) * (0 - y) = x * x * x - 3 * x + wb
    rw [neg_sq]
    exact hc
theorem mir_z {p : Nat} [NeZero p] {b x y : Fin p} : (wa b ⟨x, y, 1⟩ ⟨x, 0 - y, 1⟩).z = 0 := by
  rw [wa_eq]
  show _ = (0 : Fin p)
  grobner
theorem wneg_add (a : Wp m0) : wplus a (wneg a) = Wp.o := by
  cases a with
  | none => exact wgr.add_o (a := Wp.o) trivial
  | some q =>
    obtain ⟨x, y⟩ := q
    show nm fiv (wa wb ⟨x, y, 1⟩ ⟨x, 0 - y, 1⟩) = Wp.o
    unfold nm
    rw [if_pos mir_z]
theorem nc_two : [Value.int .u64 2] ++ [Value.int .u64 0] ++ [Value.int .u64 0] ++ [Value.int .u64 0] = nc ((2 : Nat) : Int) := by kernel_rfl
theorem hmod1 : mod1 < 2 ^ 256 := by decide +kernel
theorem bP3 (x y : Fin m0) (t : Bool) : Tryd.prog.built 26 [(0, .agg (fc x).toArray), (1, .agg (fc y).toArray), (2, .bool t)] = some (fc x ++ fc y ++ [Value.bool t]).toArray := by kernel_rfl
theorem q_AddRP {w : World} (hT : Tab w) {X Y : Int} (hX : Num X) (hY : Num Y) (t : Bool) {b : Wp m0} (hb : b.on wb) : Calls Tryd.prog 9 [.agg (rc X Y t).toArray, .agg (pc b).toArray].toArray w fun e w' => e = .returned (.agg (pc (wplus (rp X Y t) b)).toArray) ∧ Below w.heap.size w w' := by
  have h := q_Add hT hX hY (fin_num (px b)) (fin_num (py b)) t b.isNone
  rw [rp_pc hb] at h
  exact h
theorem q_AddPR {w : World} (hT : Tab w) {b : Wp m0} (hb : b.on wb) {X Y : Int} (hX : Num X) (hY : Num Y) (t : Bool) : Calls Tryd.prog 9 [.agg (pc b).toArray, .agg (rc X Y t).toArray].toArray w fun e w' => e = .returned (.agg (pc (wplus b (rp X Y t))).toArray) ∧ Below w.heap.size w w' := by
  have h := q_Add hT (fin_num (px b)) (fin_num (py b)) hX hY b.isNone t
  rw [rp_pc hb] at h
  exact h
theorem fmd_rp {X Y : Int} {t : Bool} (h : fmd X Y t = false) : rp X Y t = Wp.o := by
  unfold rp
  refine if_neg (fun hq => ?_)
  obtain ⟨rfl, h1, h2, h3⟩ := hq
  have e : fmd X Y false = decide (X < md 0 ∧ Y < md 0 ∧ (kc Y : Fin m0) * kc Y = kc X * kc X * kc X - 3 * kc X + wb) := if_neg (by decide)
  rw [e, decide_eq_true ⟨h1, h2, h3⟩] at h
  cases h
set_option maxRecDepth 100000 in
set_option maxHeartbeats 4000000 in
theorem awake_any {w : World} (hT : Tab w)  : Calls Tryd.prog 7 [].toArray w fun e w' => e = .returned (.bool true) ∧ Below w.heap.size w w' := by
  refine enter (args := []) Tryd.func7 rfl 8 rfl (lk rfl) (fun a h => ?_)
  refine go_region h hm [eS 0 (.val (Value.bool false))] (by kernel_rfl) ⟨
    fun L u => u_move u (gd0 rfl) 0 rfl (.const (.bool false)) (Or.inr rfl) rfl,
    trivial⟩ [] [] trivial trivial rfl (fun a w h => ?_)
  refine go_region h hm [eS 1 (.val (.agg (pc (wG)).toArray)), eS 2 (.val (Value.bool true)), eS 3 (.val (Value.bool true)), eS 4 (.val (.agg (pc (wG)).toArray)), eS 5 (.val (.agg (pc (wG)).toArray)), eS 6 (.val (Value.bool true)), eS 7 (.val (Value.bool true)), eS 0 (.val (Value.bool true))] (by kernel_rfl) ⟨
    fun L u => u_call u (gd0 rfl) 1 rfl 6 #[] #[] rfl [] rfl (cE6 _) (.agg (pc (wG)).toArray) (fun w hb => q_Base),
    fun L u => u_call u (gd0 rfl) 2 rfl 10 #[(.tmp 1)] #[26] rfl [.agg (pc (wG)).toArray] rfl (cE10 _) (Value.bool true) (fun w hb => q_FormedP (hT.keep (Bs.kp_of hb)) wG_on),
    fun L u => u_move u (gd0 rfl) 3 rfl (.tmp 2) (Or.inl rfl) rfl,
    fun L u => u_call u (gd1 u 2 true rfl 3 rfl (lk rfl) rfl) 4 rfl 6 #[] #[] rfl [] rfl (cE6 _) (.agg (pc (wG)).toArray) (fun w hb => q_Base),
    fun L u => u_call u (gd1 u 2 true rfl 3 rfl (lk rfl) rfl) 5 rfl 15 #[] #[] rfl [] rfl (cE15 _) (.agg (pc (wG)).toArray) (fun w hb => r_Base),
    fun L u => u_eql u (gd1 u 2 true rfl 3 rfl (lk rfl) rfl) 6 rfl 26 26 (.tmp 4) (.tmp 5) rfl rfl rfl Tryd.eqGuardType26 (true) (fun w => eq_pc_same _ w),
    fun L u => u_pick u (gd0 rfl) 7 rfl (.tmp 3) (.tmp 6) (.const (.bool false)) rfl rfl rfl rfl _ rfl,
    fun L u => u_move u (gd0 rfl) 0 rfl (.tmp 7) (Or.inr rfl) rfl,
    trivial⟩ [(0, .val (Value.bool true))] [] ⟨rfl, trivial⟩ trivial rfl (fun a w h => ?_)
  refine wp_ret ?_
  refine ret_slot h 0 rfl (lk rfl) (Value.bool true) rfl ?_
  exact ⟨rfl, h.grows⟩
end Go.Proofs.YtimaaendbfjblabDoor
namespace Go.Proofs.YtimaaendbfjblabDoor
open Go.RowKit

set_option maxRecDepth 100000 in
set_option maxHeartbeats 4000000 in
theorem twice_walk {w : World} (hT : Tab w) {k1 k2 r : Nat} (hk1 : k1 < 2 ^ 256) (hk2 : k2 < 2 ^ 256) (hr : r < 2 ^ 256) (hre : r = k1 * k2 % mod1) (HM : ∀ w : World, Calls Tryd.prog 8 [.int .i64 1, .agg (nc (k1 : Int)).toArray, .agg (nc (k2 : Int)).toArray].toArray w fun e w' => e = .returned (.agg (nc (r : Int)).toArray) ∧ Below w.heap.size w w') : Calls Tryd.prog 3 [.agg (nc ((k1 : Int))).toArray, .agg (nc ((k2 : Int))).toArray].toArray w fun e w' => e = .returned (.bool true) ∧ Below w.heap.size w w' := by
  refine enter (args := [.agg (nc ((k1 : Int))).toArray, .agg (nc ((k2 : Int))).toArray]) Tryd.func3 rfl 30 rfl (lk rfl) (fun a h => ?_)
  refine go_region h hm [eN 2 (nc ((k1 : Int))), eN 3 (nc ((k2 : Int))), eS 4 (.val (Value.bool false))] (by kernel_rfl) ⟨
    fun L u => u_box u (gd0 rfl) 24 (.tmp 0) rfl 2 rfl rfl rfl _ rfl,
    fun L u => u_box u (gd0 rfl) 24 (.tmp 1) rfl 3 rfl rfl rfl _ rfl,
    fun L u => u_move u (gd0 rfl) 4 rfl (.const (.bool false)) (Or.inr rfl) rfl,
    trivial⟩ [(2, .ptr 2 0), (3, .ptr 3 0)] [(2, nc ((k1 : Int))), (3, nc ((k2 : Int)))] ⟨rfl, rfl, trivial⟩ ⟨rfl, rfl, trivial⟩ rfl (fun a w h => ?_)
  refine go_region h hm [eS 6 (.val (.agg (nc ((k1 : Int))).toArray)), eS 7 (.val (.agg (pc (wG)).toArray)), eS 8 (.val (.agg (pc (mt wplus Wp.o (wG) k1)).toArray)), eN 5 (nz ++ nz ++ [Value.bool false]), eM 5 (pc (mt wplus Wp.o (wG) k1))] (by kernel_rfl) ⟨
    fun L u => u_load u (gd0 rfl) 6 rfl 24 (.tmp 2) rfl rfl rfl Tryd.underlying24 rfl i24 (lk rfl) _ rfl,
    fun L u => u_call u (gd0 rfl) 7 rfl 6 #[] #[] rfl [] rfl (cE6 _) (.agg (pc (wG)).toArray) (fun w hb => q_Base),
    fun L u => u_call u (gd0 rfl) 8 rfl 5 #[(.tmp 6), (.tmp 7)] #[24, 26] rfl [.agg (nc ((k1 : Int))).toArray, .agg (pc (wG)).toArray] rfl (cE5 _) (.agg (pc (mt wplus Wp.o (wG) k1)).toArray) (fun w hb => q_MulP (hT.keep (Bs.kp_of hb)) hk1 wG_on),
    fun L u => u_alloc u (gd0 rfl) 26 rfl 5 rfl rfl z26 _ rfl,
    fun L u => u_store u (gd0 rfl) 26 (.tmp 5) (.tmp 8) rfl rfl rfl (vs := pc (mt wplus Wp.o (wG) k1)) rfl rfl i26 (lk rfl) rfl _ rfl,
    trivial⟩ [(2, .ptr 2 0), (3, .ptr 3 0), (5, .ptr 5 0)] [(2, nc ((k1 : Int))), (3, nc ((k2 : Int))), (5, pc (mt wplus Wp.o (wG) k1))] ⟨rfl, rfl, rfl, trivial⟩ ⟨rfl, rfl, rfl, trivial⟩ rfl (fun a w h => ?_)
  refine go_region h hm [eS 9 (.val (Value.bool true)), eS 10 (.val (Value.bool true)), eS 11 (.val (.agg (nc ((k2 : Int))).toArray)), eS 12 (.val (.agg (pc (mt wplus Wp.o (wG) k1)).toArray)), eS 13 (.val (.agg (pc (mt wplus Wp.o (mt wplus Wp.o (wG) k1) k2)).toArray)), eS 14 (.val (.agg (nc ((k1 : Int))).toArray)), eS 15 (.val (.agg (nc ((k2 : Int))).toArray)), eS 16 (.val (.agg (nc ((r : Int))).toArray)), eS 17 (.val (.agg (pc (wG)).toArray)), eS 18 (.val (.agg (pc (mt wplus Wp.o (wG) r)).toArray)), eS 19 (.val (Value.bool true)), eS 20 (.val (Value.bool true)), eS 21 (.val (Value.bool true)), eS 22 (.val (.agg (pc (mt wplus Wp.o (wG) k1)).toArray)), eS 23 (.val (.agg (pc (mt wplus Wp.o (wG) k1)).toArray)), eS 24 (.val (.agg (pc (wplus (mt wplus Wp.o (wG) k1) (mt wplus Wp.o (wG) k1))).toArray)), eS 25 (.val (.agg ([(Value.int IntKind.u64 2)] ++ [(Value.int IntKind.u64 0)] ++ [(Value.int IntKind.u64 0)] ++ [(Value.int IntKind.u64 0)]).toArray)), eS 26 (.val (.agg (pc (mt wplus Wp.o (wG) k1)).toArray)), eS 27 (.val (.agg (pc (mt wplus Wp.o (mt wplus Wp.o (wG) k1) 2)).toArray)), eS 28 (.val (Value.bool true)), eS 29 (.val (Value.bool true)), eS 4 (.val (Value.bool true))] (by kernel_rfl) ⟨
    fun L u => u_call u (gd0 rfl) 9 rfl 7 #[] #[] rfl [] rfl (cE7 _) (Value.bool true) (fun w hb => awake_any (hT.keep (Bs.kp_of hb))),
    fun L u => u_move u (gd0 rfl) 10 rfl (.tmp 9) (Or.inl rfl) rfl,
    fun L u => u_load u (gd1 u 1 true rfl 10 rfl (lk rfl) rfl) 11 rfl 24 (.tmp 3) rfl rfl rfl Tryd.underlying24 rfl i24 (lk rfl) _ rfl,
    fun L u => u_load u (gd1 u 1 true rfl 10 rfl (lk rfl) rfl) 12 rfl 26 (.tmp 5) rfl rfl rfl Tryd.underlying26 rfl i26 (lk rfl) _ rfl,
    fun L u => u_call u (gd1 u 1 true rfl 10 rfl (lk rfl) rfl) 13 rfl 5 #[(.tmp 11), (.tmp 12)] #[24, 26] rfl [.agg (nc ((k2 : Int))).toArray, .agg (pc (mt wplus Wp.o (wG) k1)).toArray] rfl (cE5 _) (.agg (pc (mt wplus Wp.o (mt wplus Wp.o (wG) k1) k2)).toArray) (fun w hb => q_MulP (hT.keep (Bs.kp_of hb)) hk2 (mt_on wgr wG_on _)),
    fun L u => u_load u (gd1 u 1 true rfl 10 rfl (lk rfl) rfl) 14 rfl 24 (.tmp 2) rfl rfl rfl Tryd.underlying24 rfl i24 (lk rfl) _ rfl,
    fun L u => u_load u (gd1 u 1 true rfl 10 rfl (lk rfl) rfl) 15 rfl 24 (.tmp 3) rfl rfl rfl Tryd.underlying24 rfl i24 (lk rfl) _ rfl,
    fun L u => u_call u (gd1 u 1 true rfl 10 rfl (lk rfl) rfl) 16 rfl 8 #[(.const (.int .i64 1)), (.tmp 14), (.tmp 15)] #[3, 24, 24] rfl [(Value.int IntKind.i64 1), .agg (nc ((k1 : Int))).toArray, .agg (nc ((k2 : Int))).toArray] rfl (cE8 _) (.agg (nc ((r : Int))).toArray) (fun w hb => HM w),
    fun L u => u_call u (gd1 u 1 true rfl 10 rfl (lk rfl) rfl) 17 rfl 6 #[] #[] rfl [] rfl (cE6 _) (.agg (pc (wG)).toArray) (fun w hb => q_Base),
    fun L u => u_call u (gd1 u 1 true rfl 10 rfl (lk rfl) rfl) 18 rfl 5 #[(.tmp 16), (.tmp 17)] #[24, 26] rfl [.agg (nc ((r : Int))).toArray, .agg (pc (wG)).toArray] rfl (cE5 _) (.agg (pc (mt wplus Wp.o (wG) r)).toArray) (fun w hb => q_MulP (hT.keep (Bs.kp_of hb)) hr wG_on),
    fun L u => u_eql u (gd1 u 1 true rfl 10 rfl (lk rfl) rfl) 19 rfl 26 26 (.tmp 13) (.tmp 18) rfl rfl rfl Tryd.eqGuardType26 (true) (fun w => by rw [show mt wplus Wp.o (mt wplus Wp.o wG k1) k2 = mt wplus Wp.o wG r by rw [hre, mt_mod wgr wG_on wG_order, mt_mul wgr wG_on]]; exact eq_pc_same _ w),
    fun L u => u_pick u (gd0 rfl) 20 rfl (.tmp 10) (.tmp 19) (.const (.bool false)) rfl rfl rfl rfl _ rfl,
    fun L u => u_move u (gd0 rfl) 21 rfl (.tmp 20) (Or.inl rfl) rfl,
    fun L u => u_load u (gd1 u 12 true rfl 21 rfl (lk rfl) rfl) 22 rfl 26 (.tmp 5) rfl rfl rfl Tryd.underlying26 rfl i26 (lk rfl) _ rfl,
    fun L u => u_load u (gd1 u 12 true rfl 21 rfl (lk rfl) rfl) 23 rfl 26 (.tmp 5) rfl rfl rfl Tryd.underlying26 rfl i26 (lk rfl) _ rfl,
    fun L u => u_call u (gd1 u 12 true rfl 21 rfl (lk rfl) rfl) 24 rfl 9 #[(.tmp 22), (.tmp 23)] #[26, 26] rfl [.agg (pc (mt wplus Wp.o (wG) k1)).toArray, .agg (pc (mt wplus Wp.o (wG) k1)).toArray] rfl (cE9 _) (.agg (pc (wplus (mt wplus Wp.o (wG) k1) (mt wplus Wp.o (wG) k1))).toArray) (fun w hb => q_AddP (hT.keep (Bs.kp_of hb)) (mt_on wgr wG_on _) (mt_on wgr wG_on _)),
    fun L u => u_build u (gd1 u 12 true rfl 21 rfl (lk rfl) rfl) 25 rfl 24 #[(0, (.const (.int .u64 2))), (1, (.const (.int .u64 0))), (2, (.const (.int .u64 0))), (3, (.const (.int .u64 0)))] rfl [(0, (Value.int IntKind.u64 2)), (1, (Value.int IntKind.u64 0)), (2, (Value.int IntKind.u64 0)), (3, (Value.int IntKind.u64 0))] rfl ([(Value.int IntKind.u64 2)] ++ [(Value.int IntKind.u64 0)] ++ [(Value.int IntKind.u64 0)] ++ [(Value.int IntKind.u64 0)]) (bN4 _ _ _ _),
    fun L u => u_load u (gd1 u 12 true rfl 21 rfl (lk rfl) rfl) 26 rfl 26 (.tmp 5) rfl rfl rfl Tryd.underlying26 rfl i26 (lk rfl) _ rfl,
    fun L u => u_call u (gd1 u 12 true rfl 21 rfl (lk rfl) rfl) 27 rfl 5 #[(.tmp 25), (.tmp 26)] #[24, 26] rfl [.agg ([(Value.int IntKind.u64 2)] ++ [(Value.int IntKind.u64 0)] ++ [(Value.int IntKind.u64 0)] ++ [(Value.int IntKind.u64 0)]).toArray, .agg (pc (mt wplus Wp.o (wG) k1)).toArray] rfl (cE5 _) (.agg (pc (mt wplus Wp.o (mt wplus Wp.o (wG) k1) 2)).toArray) (fun w hb => by rw [nc_two]; exact q_MulP (hT.keep (Bs.kp_of hb)) (k := 2) (by decide) (mt_on wgr wG_on _)),
    fun L u => u_eql u (gd1 u 12 true rfl 21 rfl (lk rfl) rfl) 28 rfl 26 26 (.tmp 24) (.tmp 27) rfl rfl rfl Tryd.eqGuardType26 (true) (fun w => by rw [show wplus (mt wplus Wp.o (wG) k1) (mt wplus Wp.o (wG) k1) = mt wplus Wp.o (mt wplus Wp.o (wG) k1) 2 from (by have e := mt_two wgr (mt_on wgr wG_on k1) 1; rw [mt_one wgr (mt_on wgr wG_on k1)] at e; exact e.symm)]; exact eq_pc_same _ w),
    fun L u => u_pick u (gd0 rfl) 29 rfl (.tmp 21) (.tmp 28) (.const (.bool false)) rfl rfl rfl rfl _ rfl,
    fun L u => u_move u (gd0 rfl) 4 rfl (.tmp 29) (Or.inr rfl) rfl,
    trivial⟩ [(4, .val (Value.bool true))] [] ⟨rfl, trivial⟩ trivial rfl (fun a w h => ?_)
  refine wp_ret ?_
  refine ret_slot h 4 rfl (lk rfl) (Value.bool true) rfl ?_
  exact ⟨rfl, h.grows⟩
section
variable {P : Program} {W : Bs} {n : Nat} {ops : Array Oper} {i : Nat} {o : Oper} {L : Nat → Bool} {xs : List OE} {σ : SS}
/-- How many a slice of a variable's cells has. -/
theorem u_len (u : Up ops i o L) (hg : Gd ops n o (run L 0 xs σ)) (dd : Nat) (hdd : o.dst = some dd) (x : Operand) (t : TypeId) (ho : o.op = .call { callee := .builtin .len, args := #[x], argTypes := #[t] }) {y off m c : Nat} (hx : lookO n ops i o xs σ x = some (.sli y off m c)) {e : TypeId} (hu : P.underlying t = some (.slice e)) : GStep P W n ops o (run L 0 xs σ) ((eS dd (.val (.int .i64 (m : Int)))).app (run L 0 xs σ)) := by
  refine u_any u hg dd hdd _ (fun x c hp => by cases hp) fun β a w hr => ?_
  unfold execOp
  simp [ho, resolve, invoke, builtin, hr.eval (u.ev hx), SV.at, Builtin.len_, goInt, run_underlying hu]
end
set_option maxRecDepth 100000 in
set_option maxHeartbeats 4000000 in
theorem stray_true {w : World} (hT : Tab w) {X Y : Int} (hX : Num X) (hY : Num Y) (t : Bool) (hfm : fmd X Y t = true) {k : Nat} : Calls Tryd.prog 4 [.agg (rc X Y t).toArray, .agg (nc ((k : Int))).toArray].toArray w fun e w' => e = .returned (.bool true) ∧ Below w.heap.size w w' := by
  refine enter (args := [.agg (rc X Y t).toArray, .agg (nc ((k : Int))).toArray]) Tryd.func4 rfl 40 rfl (lk rfl) (fun a h => ?_)
  refine go_region h hm [eN 2 (rc X Y t), eN 3 (nc ((k : Int))), eS 4 (.val (Value.bool false))] (by kernel_rfl) ⟨
    fun L u => u_box u (gd0 rfl) 26 (.tmp 0) rfl 2 rfl rfl rfl _ rfl,
    fun L u => u_box u (gd0 rfl) 24 (.tmp 1) rfl 3 rfl rfl rfl _ rfl,
    fun L u => u_move u (gd0 rfl) 4 rfl (.const (.bool false)) (Or.inr rfl) rfl,
    trivial⟩ [(2, .ptr 2 0), (3, .ptr 3 0)] [(2, rc X Y t), (3, nc ((k : Int)))] ⟨rfl, rfl, trivial⟩ ⟨rfl, rfl, trivial⟩ rfl (fun a w h => ?_)
  refine wp_seq ?_
  refine go_region h hm [eS 7 (.val (.agg (rc X Y t).toArray)), eS 8 (.val (Value.bool true))] (by kernel_rfl) ⟨
    fun L u => u_load u (gd0 rfl) 7 rfl 26 (.tmp 2) rfl rfl rfl Tryd.underlying26 rfl i26 (lk rfl) _ rfl,
    fun L u => u_call u (gd0 rfl) 8 rfl 10 #[(.tmp 7)] #[26] rfl [.agg (rc X Y t).toArray] rfl (cE10 _) (Value.bool true) (fun w hb => by have f := q_Formed (hT.keep (Bs.kp_of hb)) hX hY t; rw [hfm] at f; exact f),
    trivial⟩ [(2, .ptr 2 0), (3, .ptr 3 0), (8, .val (Value.bool true))] [(2, rc X Y t), (3, nc ((k : Int)))] ⟨rfl, rfl, rfl, trivial⟩ ⟨rfl, rfl, trivial⟩ rfl (fun a w h => ?_)
  refine go_cond h true rfl (fun ht => ?_) (fun hf => ?_)
  case refine_2 => cases hf
  refine go_region h hm [eS 9 (.val (Value.bool true)), eS 4 (.val (Value.bool true))] (by kernel_rfl) ⟨
    fun L u => u_call u (gd0 rfl) 9 rfl 7 #[] #[] rfl [] rfl (cE7 _) (Value.bool true) (fun w hb => awake_any (hT.keep (Bs.kp_of hb))),
    fun L u => u_move u (gd0 rfl) 4 rfl (.tmp 9) (Or.inr rfl) rfl,
    trivial⟩ [(4, .val (Value.bool true))] [] ⟨rfl, trivial⟩ trivial rfl (fun a w h => ?_)
  refine wp_ret ?_
  refine then_ret ?_
  refine ret_slot h 4 rfl (lk rfl) (Value.bool true) rfl ?_
  exact ⟨rfl, h.grows⟩
set_option maxRecDepth 100000 in
set_option maxHeartbeats 4000000 in
theorem stray_false {w : World} (hT : Tab w) {X Y : Int} (hX : Num X) (hY : Num Y) (t : Bool) (hfm : fmd X Y t = false) {k : Nat} (hk : k < 2 ^ 256) (HE : ∀ w' : World, Below w.heap.size w w' → Calls Tryd.prog 11 [.agg (rc X Y t).toArray].toArray w' fun e w2 => ∃ b, e = .returned (.slice (some ⟨b, 0, none⟩) 1 1) ∧ w'.heap.size ≤ b ∧ b < w2.heap.size ∧ w2.rangeAt b 0 [Value.int .u8 0] ∧ w2.there b 0 1 ∧ Below w'.heap.size w' w2) : Calls Tryd.prog 4 [.agg (rc X Y t).toArray, .agg (nc ((k : Int))).toArray].toArray w fun e w' => e = .returned (.bool true) ∧ Below w.heap.size w w' := by
  refine enter (args := [.agg (rc X Y t).toArray, .agg (nc ((k : Int))).toArray]) Tryd.func4 rfl 40 rfl (lk rfl) (fun a h => ?_)
  refine go_region h hm [eN 2 (rc X Y t), eN 3 (nc ((k : Int))), eS 4 (.val (Value.bool false))] (by kernel_rfl) ⟨
    fun L u => u_box u (gd0 rfl) 26 (.tmp 0) rfl 2 rfl rfl rfl _ rfl,
    fun L u => u_box u (gd0 rfl) 24 (.tmp 1) rfl 3 rfl rfl rfl _ rfl,
    fun L u => u_move u (gd0 rfl) 4 rfl (.const (.bool false)) (Or.inr rfl) rfl,
    trivial⟩ [(2, .ptr 2 0), (3, .ptr 3 0)] [(2, rc X Y t), (3, nc ((k : Int)))] ⟨rfl, rfl, trivial⟩ ⟨rfl, rfl, trivial⟩ rfl (fun a w h => ?_)
  refine wp_seq ?_
  refine go_region h hm [eS 7 (.val (.agg (rc X Y t).toArray)), eS 8 (.val (Value.bool false))] (by kernel_rfl) ⟨
    fun L u => u_load u (gd0 rfl) 7 rfl 26 (.tmp 2) rfl rfl rfl Tryd.underlying26 rfl i26 (lk rfl) _ rfl,
    fun L u => u_call u (gd0 rfl) 8 rfl 10 #[(.tmp 7)] #[26] rfl [.agg (rc X Y t).toArray] rfl (cE10 _) (Value.bool false) (fun w hb => by have f := q_Formed (hT.keep (Bs.kp_of hb)) hX hY t; rw [hfm] at f; exact f),
    trivial⟩ [(2, .ptr 2 0), (3, .ptr 3 0), (8, .val (Value.bool false))] [(2, rc X Y t), (3, nc ((k : Int)))] ⟨rfl, rfl, rfl, trivial⟩ ⟨rfl, rfl, trivial⟩ rfl (fun a w h => ?_)
  refine go_cond h false rfl (fun ht => ?_) (fun hf => ?_)
  case refine_1 => cases ht
  refine wp_skip ?_
  refine then_norm ?_
  refine go_region h hm [eS 10 (.val (.agg (nz ++ nz ++ [Value.bool true]).toArray)), eN 5 (nz ++ nz ++ [Value.bool false]), eM 5 (nz ++ nz ++ [Value.bool true])] (by kernel_rfl) ⟨
    fun L u => u_build u (gd0 rfl) 10 rfl 26 #[(2, (.const (.bool true)))] rfl [(2, Value.bool true)] rfl (nz ++ nz ++ [Value.bool true]) (bP1),
    fun L u => u_alloc u (gd0 rfl) 26 rfl 5 rfl rfl z26 _ rfl,
    fun L u => u_store u (gd0 rfl) 26 (.tmp 5) (.tmp 10) rfl rfl rfl (vs := nz ++ nz ++ [Value.bool true]) rfl rfl i26 (lk rfl) rfl _ rfl,
    trivial⟩ [(2, .ptr 2 0), (3, .ptr 3 0), (5, .ptr 5 0)] [(2, rc X Y t), (3, nc ((k : Int))), (5, nz ++ nz ++ [Value.bool true])] ⟨rfl, rfl, rfl, trivial⟩ ⟨rfl, rfl, rfl, trivial⟩ rfl (fun a w h => ?_)
  refine go_region h hm [eS 11 (.val (.agg (pc (wG)).toArray)), eN 6 (nz ++ nz ++ [Value.bool false]), eM 6 (pc (wG))] (by kernel_rfl) ⟨
    fun L u => u_call u (gd0 rfl) 11 rfl 6 #[] #[] rfl [] rfl (cE6 _) (.agg (pc (wG)).toArray) (fun w hb => q_Base),
    fun L u => u_alloc u (gd0 rfl) 26 rfl 6 rfl rfl z26 _ rfl,
    fun L u => u_store u (gd0 rfl) 26 (.tmp 6) (.tmp 11) rfl rfl rfl (vs := pc (wG)) rfl rfl i26 (lk rfl) rfl _ rfl,
    trivial⟩ [(2, .ptr 2 0), (3, .ptr 3 0), (5, .ptr 5 0), (6, .ptr 6 0)] [(2, rc X Y t), (3, nc ((k : Int))), (5, nz ++ nz ++ [Value.bool true]), (6, pc (wG))] ⟨rfl, rfl, rfl, rfl, trivial⟩ ⟨rfl, rfl, rfl, rfl, trivial⟩ rfl (fun a w h => ?_)
  refine go_region h hm [eS 12 (.val (Value.bool true)), eS 13 (.val (Value.bool true)), eS 14 (.val (.agg (rc X Y t).toArray)), eS 15 (.val (.agg (pc (wG)).toArray)), eS 16 (.val (.agg (pc (wplus (rp X Y t) (wG))).toArray)), eS 17 (.val (.agg (pc (wG)).toArray)), eS 18 (.val (Value.bool true)), eS 19 (.val (Value.bool true)), eS 20 (.val (Value.bool true)), eS 21 (.val (.agg (pc (wG)).toArray)), eS 22 (.val (.agg (rc X Y t).toArray)), eS 23 (.val (.agg (pc (wplus (wG) (rp X Y t))).toArray)), eS 24 (.val (.agg (pc (wG)).toArray)), eS 25 (.val (Value.bool true)), eS 26 (.val (Value.bool true)), eS 27 (.val (Value.bool true)), eS 28 (.val (.agg (nc ((k : Int))).toArray)), eS 29 (.val (.agg (rc X Y t).toArray)), eS 30 (.val (.agg (pc (mt wplus Wp.o (rp X Y t) k)).toArray)), eS 31 (.val (.agg (nz ++ nz ++ [Value.bool true]).toArray)), eS 32 (.val (Value.bool true)), eS 33 (.val (Value.bool true)), eS 34 (.val (Value.bool true)), eS 35 (.val (.agg (rc X Y t).toArray)), (⟨some (36, ⟨undef, some (36, 0), some (1, 1)⟩), some (36, [Value.int .u8 0])⟩ : OE), eS 37 (.val (Value.int .i64 1)), eS 38 (.val (Value.bool true)), eS 39 (.val (Value.bool true)), eS 4 (.val (Value.bool true))] (by kernel_rfl) ⟨
    fun L u => u_call u (gd0 rfl) 12 rfl 7 #[] #[] rfl [] rfl (cE7 _) (Value.bool true) (fun w hb => awake_any (hT.keep (Bs.kp_of hb))),
    fun L u => u_move u (gd0 rfl) 13 rfl (.tmp 12) (Or.inl rfl) rfl,
    fun L u => u_load u (gd1 u 1 true rfl 13 rfl (lk rfl) rfl) 14 rfl 26 (.tmp 2) rfl rfl rfl Tryd.underlying26 rfl i26 (lk rfl) _ rfl,
    fun L u => u_load u (gd1 u 1 true rfl 13 rfl (lk rfl) rfl) 15 rfl 26 (.tmp 6) rfl rfl rfl Tryd.underlying26 rfl i26 (lk rfl) _ rfl,
    fun L u => u_call u (gd1 u 1 true rfl 13 rfl (lk rfl) rfl) 16 rfl 9 #[(.tmp 14), (.tmp 15)] #[26, 26] rfl [.agg (rc X Y t).toArray, .agg (pc (wG)).toArray] rfl (cE9 _) (.agg (pc (wplus (rp X Y t) (wG))).toArray) (fun w hb => q_AddRP (hT.keep (Bs.kp_of hb)) hX hY t wG_on),
    fun L u => u_load u (gd1 u 1 true rfl 13 rfl (lk rfl) rfl) 17 rfl 26 (.tmp 6) rfl rfl rfl Tryd.underlying26 rfl i26 (lk rfl) _ rfl,
    fun L u => u_eql u (gd1 u 1 true rfl 13 rfl (lk rfl) rfl) 18 rfl 26 26 (.tmp 16) (.tmp 17) rfl rfl rfl Tryd.eqGuardType26 (true) (fun w => by rw [show wplus (rp X Y t) wG = wG by rw [fmd_rp hfm, wgr.comm, wgr.add_o wG_on]]; exact eq_pc_same _ w),
    fun L u => u_pick u (gd0 rfl) 19 rfl (.tmp 13) (.tmp 18) (.const (.bool false)) rfl rfl rfl rfl _ rfl,
    fun L u => u_move u (gd0 rfl) 20 rfl (.tmp 19) (Or.inl rfl) rfl,
    fun L u => u_load u (gd1 u 8 true rfl 20 rfl (lk rfl) rfl) 21 rfl 26 (.tmp 6) rfl rfl rfl Tryd.underlying26 rfl i26 (lk rfl) _ rfl,
    fun L u => u_load u (gd1 u 8 true rfl 20 rfl (lk rfl) rfl) 22 rfl 26 (.tmp 2) rfl rfl rfl Tryd.underlying26 rfl i26 (lk rfl) _ rfl,
    fun L u => u_call u (gd1 u 8 true rfl 20 rfl (lk rfl) rfl) 23 rfl 9 #[(.tmp 21), (.tmp 22)] #[26, 26] rfl [.agg (pc (wG)).toArray, .agg (rc X Y t).toArray] rfl (cE9 _) (.agg (pc (wplus (wG) (rp X Y t))).toArray) (fun w hb => q_AddPR (hT.keep (Bs.kp_of hb)) wG_on hX hY t),
    fun L u => u_load u (gd1 u 8 true rfl 20 rfl (lk rfl) rfl) 24 rfl 26 (.tmp 6) rfl rfl rfl Tryd.underlying26 rfl i26 (lk rfl) _ rfl,
    fun L u => u_eql u (gd1 u 8 true rfl 20 rfl (lk rfl) rfl) 25 rfl 26 26 (.tmp 23) (.tmp 24) rfl rfl rfl Tryd.eqGuardType26 (true) (fun w => by rw [show wplus wG (rp X Y t) = wG by rw [fmd_rp hfm, wgr.add_o wG_on]]; exact eq_pc_same _ w),
    fun L u => u_pick u (gd0 rfl) 26 rfl (.tmp 20) (.tmp 25) (.const (.bool false)) rfl rfl rfl rfl _ rfl,
    fun L u => u_move u (gd0 rfl) 27 rfl (.tmp 26) (Or.inl rfl) rfl,
    fun L u => u_load u (gd1 u 15 true rfl 27 rfl (lk rfl) rfl) 28 rfl 24 (.tmp 3) rfl rfl rfl Tryd.underlying24 rfl i24 (lk rfl) _ rfl,
    fun L u => u_load u (gd1 u 15 true rfl 27 rfl (lk rfl) rfl) 29 rfl 26 (.tmp 2) rfl rfl rfl Tryd.underlying26 rfl i26 (lk rfl) _ rfl,
    fun L u => u_call u (gd1 u 15 true rfl 27 rfl (lk rfl) rfl) 30 rfl 5 #[(.tmp 28), (.tmp 29)] #[24, 26] rfl [.agg (nc ((k : Int))).toArray, .agg (rc X Y t).toArray] rfl (cE5 _) (.agg (pc (mt wplus Wp.o (rp X Y t) k)).toArray) (fun w hb => q_Mul (hT.keep (Bs.kp_of hb)) hk hX hY t),
    fun L u => u_load u (gd1 u 15 true rfl 27 rfl (lk rfl) rfl) 31 rfl 26 (.tmp 5) rfl rfl rfl Tryd.underlying26 rfl i26 (lk rfl) _ rfl,
    fun L u => u_eql u (gd1 u 15 true rfl 27 rfl (lk rfl) rfl) 32 rfl 26 26 (.tmp 30) (.tmp 31) rfl rfl rfl Tryd.eqGuardType26 (true) (fun w => by rw [nz_pc, show mt wplus Wp.o (rp X Y t) k = Wp.o by rw [fmd_rp hfm, mt_o wgr]]; exact eq_pc_same _ w),
    fun L u => u_pick u (gd0 rfl) 33 rfl (.tmp 27) (.tmp 32) (.const (.bool false)) rfl rfl rfl rfl _ rfl,
    fun L u => u_move u (gd0 rfl) 34 rfl (.tmp 33) (Or.inl rfl) rfl,
    fun L u => u_load u (gd1 u 22 true rfl 34 rfl (lk rfl) rfl) 35 rfl 26 (.tmp 2) rfl rfl rfl Tryd.underlying26 rfl i26 (lk rfl) _ rfl,
    fun L u => u_callN u (gd1 u 22 true rfl 34 rfl (lk rfl) rfl) 36 rfl rfl 11 #[(.tmp 35)] #[26] rfl [.val (.agg (rc X Y t).toArray)] rfl (fun vs w => callFunc_enter Tryd.func11 (by kernel_rfl) (by kernel_rfl) vs w) (some (1, 1)) ([Value.int .u8 0]) (fun β a w hr => HE w (Bs.kp_of hr.bl)),
    fun L u => u_len u (gd1 u 22 true rfl 34 rfl (lk rfl) rfl) 37 rfl (.tmp 36) 34 rfl rfl Tryd.underlying34,
    fun L u => u_bin u (gd1 u 22 true rfl 34 rfl (lk rfl) rfl) 38 rfl .eql 3 3 (.tmp 37) (.const (.int .i64 1)) rfl rfl rfl (eqg_int _ _ _ _ _ _ _ _) (Value.bool true) (yes_of (fun w => i_eql _ _ _ _ w) rfl),
    fun L u => u_pick u (gd0 rfl) 39 rfl (.tmp 34) (.tmp 38) (.const (.bool false)) rfl rfl rfl rfl _ rfl,
    fun L u => u_move u (gd0 rfl) 4 rfl (.tmp 39) (Or.inr rfl) rfl,
    trivial⟩ [(4, .val (Value.bool true))] [] ⟨rfl, trivial⟩ trivial rfl (fun a w h => ?_)
  refine wp_ret ?_
  refine ret_slot h 4 rfl (lk rfl) (Value.bool true) rfl ?_
  exact ⟨rfl, h.grows⟩
end Go.Proofs.YtimaaendbfjblabDoor
namespace Go.Proofs.YtimaaendbfjblabDoor
open Go.RowKit
attribute [local go_sem ↓] Go.wp_at_zero Go.wp_at_succ

def cb (a b : Int) (k : Nat) : Bool := C a b k == 1
theorem cb_zero (a b : Int) : cb a b 0 = false := by unfold cb; rw [C_zero]; rfl
theorem ref_add_0 (a b : Int) (k : Nat) (h : cb a b k = false) : IntKind.u64.wrap (L k a + L k b) = L k (a + b) := by
  have c1 := C_lo a b k
  have c2 := C_hi a b k
  have hc : C a b k = 0 := by unfold cb at h; simp at h; omega
  have e := add_word a b k
  rw [hc, Int.add_zero] at e
  rw [IntKind.wrap_u64, e]
theorem ref_add_1 (a b : Int) (k : Nat) (h : cb a b k = true) : IntKind.u64.wrap (IntKind.u64.wrap (L k a + L k b) + 1) = L k (a + b) := by
  have hc : C a b k = 1 := by unfold cb at h; simpa using h
  have e := add_word a b k
  rw [hc] at e
  rw [IntKind.wrap_u64, IntKind.wrap_u64, ← e]
  omega
theorem ref_add_o0 (a b : Int) (k : Nat) (h : cb a b k = false) : decide (L k (a + b) < L k a) = cb a b (k + 1) := by
  have c1 := C_lo a b k
  have c2 := C_hi a b k
  have hc : C a b k = 0 := by unfold cb at h; simp at h; omega
  have e := add_word a b k
  have f := add_carry a b k
  have a1 := L_lo k a
  have a2 := L_hi k a
  have b1 := L_lo k b
  have b2 := L_hi k b
  rw [hc] at e f
  unfold cb
  rw [← f, ← e, Bool.eq_iff_iff]
  simp only [decide_eq_true_eq, beq_iff_eq]
  omega
theorem ref_add_o1 (a b : Int) (k : Nat) (h : cb a b k = true) : (decide (IntKind.u64.wrap (L k a + L k b) < L k a) || (L k (a + b) == 0)) = cb a b (k + 1) := by
  have hc : C a b k = 1 := by unfold cb at h; simpa using h
  have e := add_word a b k
  have f := add_carry a b k
  have a1 := L_lo k a
  have a2 := L_hi k a
  have b1 := L_lo k b
  have b2 := L_hi k b
  rw [hc] at e f
  unfold cb
  rw [← f, ← e, IntKind.wrap_u64, Bool.eq_iff_iff]
  simp only [decide_eq_true_eq, beq_iff_eq, Bool.or_eq_true]
  omega

set_option maxHeartbeats 1000000 in
theorem ref_add_walk (a b : Int) (w : World) :
    Calls Tryd.prog 29 #[.agg #[.int .u64 (L 0 a), .int .u64 (L 1 a), .int .u64 (L 2 a), .int .u64 (L 3 a)], .agg #[.int .u64 (L 0 b), .int .u64 (L 1 b), .int .u64 (L 2 b), .int .u64 (L 3 b)]] w fun e w' =>
      e = .returned (.tuple #[.agg #[.int .u64 (L 0 (a + b)), .int .u64 (L 1 (a + b)), .int .u64 (L 2 (a + b)), .int .u64 (L 3 (a + b))], .bool (cb a b 4)]) ∧ Below w.heap.size w w' := by
  go_enter Tryd.func29, Tryd.ntmps29
  go_wp2
  go_loopw [7, 8] (fun s7 s8 w' => (s8 = .int .i64 0 ∧ s7 = .bool false ∧ ∃ n, w' = ((((w.alloc (.cells #[.int .u64 (L 0 a), .int .u64 (L 1 a), .int .u64 (L 2 a), .int .u64 (L 3 a)] 24)).alloc (.cells #[.int .u64 (L 0 b), .int .u64 (L 1 b), .int .u64 (L 2 b), .int .u64 (L 3 b)] 24)).alloc (.cells #[.int .u64 0, .int .u64 0, .int .u64 0, .int .u64 0] 24)).alloc (.cells #[.int .u64 0, .int .u64 0, .int .u64 0, .int .u64 0] 24)).drewN n) ∨ (s8 = .int .i64 1 ∧ s7 = .bool (cb a b 1) ∧ ∃ n, w' = ((((w.alloc (.cells #[.int .u64 (L 0 a), .int .u64 (L 1 a), .int .u64 (L 2 a), .int .u64 (L 3 a)] 24)).alloc (.cells #[.int .u64 (L 0 b), .int .u64 (L 1 b), .int .u64 (L 2 b), .int .u64 (L 3 b)] 24)).alloc (.cells #[.int .u64 0, .int .u64 0, .int .u64 0, .int .u64 0] 24)).alloc (.cells #[.int .u64 (L 0 (a + b)), .int .u64 0, .int .u64 0, .int .u64 0] 24)).drewN n) ∨ (s8 = .int .i64 2 ∧ s7 = .bool (cb a b 2) ∧ ∃ n, w' = ((((w.alloc (.cells #[.int .u64 (L 0 a), .int .u64 (L 1 a), .int .u64 (L 2 a), .int .u64 (L 3 a)] 24)).alloc (.cells #[.int .u64 (L 0 b), .int .u64 (L 1 b), .int .u64 (L 2 b), .int .u64 (L 3 b)] 24)).alloc (.cells #[.int .u64 0, .int .u64 0, .int .u64 0, .int .u64 0] 24)).alloc (.cells #[.int .u64 (L 0 (a + b)), .int .u64 (L 1 (a + b)), .int .u64 0, .int .u64 0] 24)).drewN n) ∨ (s8 = .int .i64 3 ∧ s7 = .bool (cb a b 3) ∧ ∃ n, w' = ((((w.alloc (.cells #[.int .u64 (L 0 a), .int .u64 (L 1 a), .int .u64 (L 2 a), .int .u64 (L 3 a)] 24)).alloc (.cells #[.int .u64 (L 0 b), .int .u64 (L 1 b), .int .u64 (L 2 b), .int .u64 (L 3 b)] 24)).alloc (.cells #[.int .u64 0, .int .u64 0, .int .u64 0, .int .u64 0] 24)).alloc (.cells #[.int .u64 (L 0 (a + b)), .int .u64 (L 1 (a + b)), .int .u64 (L 2 (a + b)), .int .u64 0] 24)).drewN n) ∨ (s8 = .int .i64 4 ∧ s7 = .bool (cb a b 4) ∧ ∃ n, w' = ((((w.alloc (.cells #[.int .u64 (L 0 a), .int .u64 (L 1 a), .int .u64 (L 2 a), .int .u64 (L 3 a)] 24)).alloc (.cells #[.int .u64 (L 0 b), .int .u64 (L 1 b), .int .u64 (L 2 b), .int .u64 (L 3 b)] 24)).alloc (.cells #[.int .u64 0, .int .u64 0, .int .u64 0, .int .u64 0] 24)).alloc (.cells #[.int .u64 (L 0 (a + b)), .int .u64 (L 1 (a + b)), .int .u64 (L 2 (a + b)), .int .u64 (L 3 (a + b))] 24)).drewN n)) (fun _ s8 _ => 4 - (intOf s8).toNat)
  case atStart => exact Or.inl ⟨rfl, rfl, 0, rfl⟩
  case round =>
    rcases hrel with ⟨rfl, rfl, n, rfl⟩ | ⟨rfl, rfl, n, rfl⟩ | ⟨rfl, rfl, n, rfl⟩ | ⟨rfl, rfl, n, rfl⟩ | ⟨rfl, rfl, n, rfl⟩
    · have q1 := ref_add_0 a b 0 (cb_zero a b)
      have q2 : decide (L 0 (a + b) < L 0 a) = cb a b 1 := ref_add_o0 a b 0 (cb_zero a b)
      go_wp2
      go_quiet (fail)
      go_wp2
      exact ⟨Or.inr (Or.inl ⟨rfl, (by first | rfl | exact congrArg Value.bool q3.symm), n + nq, set_out (by simp) _ _ _ _ _⟩), by simp [intOf]⟩
    · cases hcb : cb a b 1
      · have q1 := ref_add_0 a b 1 hcb
        have q2 : decide (L 1 (a + b) < L 1 a) = cb a b 2 := ref_add_o0 a b 1 hcb
        go_wp2
        go_quiet (fail)
        go_wp2
        exact ⟨Or.inr (Or.inr (Or.inl ⟨rfl, (by first | rfl | exact congrArg Value.bool q3.symm), n + nq, set_out (by simp) _ _ _ _ _⟩)), by simp [intOf]⟩
      · have q1 := ref_add_1 a b 1 hcb
        have q2 := ref_add_o1 a b 1 hcb
        by_cases o : IntKind.u64.wrap (L 1 a + L 1 b) < L 1 a
        · have q3 : cb a b 2 = true := by rw [← q2]; simp [o]
          clear q2
          go_wp2
          go_quiet (fail)
          go_wp2
          exact ⟨Or.inr (Or.inr (Or.inl ⟨rfl, (by first | rfl | exact congrArg Value.bool q3.symm), n + nq, set_out (by simp) _ _ _ _ _⟩)), by simp [intOf]⟩
        · have o2 : decide (IntKind.u64.wrap (L 1 a + L 1 b) < L 1 a) = false := by simpa using o
          have q3 : (L 1 (a + b) == 0) = cb a b 2 := by rw [o2, Bool.false_or] at q2; exact q2
          clear q2
          go_wp2
          go_quiet (fail)
          go_wp2
          exact ⟨Or.inr (Or.inr (Or.inl ⟨rfl, (by first | rfl | exact congrArg Value.bool q3.symm), n + nq, set_out (by simp) _ _ _ _ _⟩)), by simp [intOf]⟩
    · cases hcb : cb a b 2
      · have q1 := ref_add_0 a b 2 hcb
        have q2 : decide (L 2 (a + b) < L 2 a) = cb a b 3 := ref_add_o0 a b 2 hcb
        go_wp2
        go_quiet (fail)
        go_wp2
        exact ⟨Or.inr (Or.inr (Or.inr (Or.inl ⟨rfl, (by first | rfl | exact congrArg Value.bool q3.symm), n + nq, set_out (by simp) _ _ _ _ _⟩))), by simp [intOf]⟩
      · have q1 := ref_add_1 a b 2 hcb
        have q2 := ref_add_o1 a b 2 hcb
        by_cases o : IntKind.u64.wrap (L 2 a + L 2 b) < L 2 a
        · have q3 : cb a b 3 = true := by rw [← q2]; simp [o]
          clear q2
          go_wp2
          go_quiet (fail)
          go_wp2
          exact ⟨Or.inr (Or.inr (Or.inr (Or.inl ⟨rfl, (by first | rfl | exact congrArg Value.bool q3.symm), n + nq, set_out (by simp) _ _ _ _ _⟩))), by simp [intOf]⟩
        · have o2 : decide (IntKind.u64.wrap (L 2 a + L 2 b) < L 2 a) = false := by simpa using o
          have q3 : (L 2 (a + b) == 0) = cb a b 3 := by rw [o2, Bool.false_or] at q2; exact q2
          clear q2
          go_wp2
          go_quiet (fail)
          go_wp2
          exact ⟨Or.inr (Or.inr (Or.inr (Or.inl ⟨rfl, (by first | rfl | exact congrArg Value.bool q3.symm), n + nq, set_out (by simp) _ _ _ _ _⟩))), by simp [intOf]⟩
    · cases hcb : cb a b 3
      · have q1 := ref_add_0 a b 3 hcb
        have q2 : decide (L 3 (a + b) < L 3 a) = cb a b 4 := ref_add_o0 a b 3 hcb
        go_wp2
        go_quiet (fail)
        go_wp2
        exact ⟨Or.inr (Or.inr (Or.inr (Or.inr (⟨rfl, (by first | rfl | exact congrArg Value.bool q3.symm), n + nq, set_out (by simp) _ _ _ _ _⟩)))), by simp [intOf]⟩
      · have q1 := ref_add_1 a b 3 hcb
        have q2 := ref_add_o1 a b 3 hcb
        by_cases o : IntKind.u64.wrap (L 3 a + L 3 b) < L 3 a
        · have q3 : cb a b 4 = true := by rw [← q2]; simp [o]
          clear q2
          go_wp2
          go_quiet (fail)
          go_wp2
          exact ⟨Or.inr (Or.inr (Or.inr (Or.inr (⟨rfl, (by first | rfl | exact congrArg Value.bool q3.symm), n + nq, set_out (by simp) _ _ _ _ _⟩)))), by simp [intOf]⟩
        · have o2 : decide (IntKind.u64.wrap (L 3 a + L 3 b) < L 3 a) = false := by simpa using o
          have q3 : (L 3 (a + b) == 0) = cb a b 4 := by rw [o2, Bool.false_or] at q2; exact q2
          clear q2
          go_wp2
          go_quiet (fail)
          go_wp2
          exact ⟨Or.inr (Or.inr (Or.inr (Or.inr (⟨rfl, (by first | rfl | exact congrArg Value.bool q3.symm), n + nq, set_out (by simp) _ _ _ _ _⟩)))), by simp [intOf]⟩
    · go_wp2
      go_returns
      refine ⟨rfl, ?_⟩
      repeat' (first | (with_reducible exact Below.refl _ _) | (with_reducible refine K.drewN ?_ _) | (with_reducible refine K.drew ?_) | (with_reducible refine K.alloc ?_ _) | (with_reducible refine K.set ?_ ?_ _) | (simp; done) | (simp; omega))
end Go.Proofs.YtimaaendbfjblabDoor
