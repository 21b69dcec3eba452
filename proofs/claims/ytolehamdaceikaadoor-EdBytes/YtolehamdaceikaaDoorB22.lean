/- What the program's own Formed, lift, drop, times, Add, Mul, Both and Base answer. What the program answers at points of the second curve, and that it is awake. Bytes of numbers. Small facts that every walk wants: all of them lie in Base. Rows of bytes in memory. Rows of bytes that may grow. Bytes that are handed in, and bytes that are appended to a row of one's own (no function of the program is named). -/
import Derived.Test.YtolehamdaceikaaDoorB21
import Derived.Test.YtolehamdaceikaaDoorB02
import Derived.Deep.AppendLies
import Derived.OwnWalk
namespace Go.Proofs.YtolehamdaceikaaDoor
open Go.RowKit

theorem e_below {w : World} (hT : Tab w) {a : Int} (ha : Num a) {t : Bool} (ht : decide (a < md 2) = t) : Calls Tryd.prog 28 [.int .i64 2, .agg (nc a).toArray].toArray w fun e w' => e = .returned (.bool t) ∧ Below w.heap.size w w' := by
  rw [← ht]
  exact below_any ha hT
set_option maxRecDepth 100000 in
set_option maxHeartbeats 4000000 in
theorem e_formed_none {w : World} {X Y : Int} : Calls Tryd.prog 10 [.agg (nc (X) ++ nc (Y) ++ [Value.bool true]).toArray].toArray w fun e w' => e = .returned (.bool false) ∧ Below w.heap.size w w' := by
  refine enter (args := [.agg (nc (X) ++ nc (Y) ++ [Value.bool true]).toArray]) Tryd.func10 rfl 40 rfl (lk rfl) (fun a h => ?_)
  refine go_region h hm [eN 1 (nc (X) ++ nc (Y) ++ [Value.bool true]), eS 2 (.val (Value.bool false))] (by kernel_rfl) ⟨
    fun L u => u_box u (gd0 rfl) 26 (.tmp 0) rfl 1 rfl rfl rfl _ rfl,
    fun L u => u_move u (gd0 rfl) 2 rfl (.const (.bool false)) (Or.inr rfl) rfl,
    trivial⟩ [(1, .ptr 1 0)] [(1, nc (X) ++ nc (Y) ++ [Value.bool true])] ⟨rfl, trivial⟩ ⟨rfl, trivial⟩ rfl (fun a w h => ?_)
  refine wp_seq ?_
  refine go_region h hm [eS 5 (.ptr 1 8), eS 6 (.val (Value.bool true)), eS 7 (.val (Value.bool true)), eS 8 (.val undef), eS 9 (.val undef), eS 10 (.val undef), eS 11 (.val undef), eS 12 (.val (Value.bool true)), eS 13 (.val (Value.bool true)), eS 14 (.val undef), eS 15 (.val undef), eS 16 (.val undef), eS 17 (.val undef), eS 18 (.val (Value.bool true))] (by kernel_rfl) ⟨
    fun L u => u_field u (gd0 rfl) 5 rfl 26 (.tmp 1) 2 rfl rfl rfl Tryd.underlying26 rfl i4 _ rfl,
    fun L u => u_load1 u (gd0 rfl) 6 rfl 4 (.tmp 5) rfl rfl rfl Tryd.underlying4 rfl _ rfl,
    fun L u => u_move u (gd0 rfl) 7 rfl (.tmp 6) (Or.inl rfl) rfl,
    fun L u => u_no u 2 false rfl 7 rfl (lk rfl) rfl 8 rfl,
    fun L u => u_no u 2 false rfl 7 rfl (lk rfl) rfl 9 rfl,
    fun L u => u_no u 2 false rfl 7 rfl (lk rfl) rfl 10 rfl,
    fun L u => u_no u 2 false rfl 7 rfl (lk rfl) rfl 11 rfl,
    fun L u => u_pick u (gd0 rfl) 12 rfl (.tmp 7) (.const (.bool true)) (.tmp 11) rfl rfl rfl rfl _ rfl,
    fun L u => u_move u (gd0 rfl) 13 rfl (.tmp 12) (Or.inl rfl) rfl,
    fun L u => u_no u 8 false rfl 13 rfl (lk rfl) rfl 14 rfl,
    fun L u => u_no u 8 false rfl 13 rfl (lk rfl) rfl 15 rfl,
    fun L u => u_no u 8 false rfl 13 rfl (lk rfl) rfl 16 rfl,
    fun L u => u_no u 8 false rfl 13 rfl (lk rfl) rfl 17 rfl,
    fun L u => u_pick u (gd0 rfl) 18 rfl (.tmp 13) (.const (.bool true)) (.tmp 17) rfl rfl rfl rfl _ rfl,
    trivial⟩ [(1, .ptr 1 0), (18, .val (Value.bool true))] [(1, nc (X) ++ nc (Y) ++ [Value.bool true])] ⟨rfl, rfl, trivial⟩ ⟨rfl, trivial⟩ rfl (fun a w h => ?_)
  refine go_cond h true rfl (fun ht => ?_) (fun hf => ?_)
  case refine_2 => cases hf
  refine go_region h hm [eS 2 (.val (Value.bool false))] (by kernel_rfl) ⟨
    fun L u => u_move u (gd0 rfl) 2 rfl (.const (.bool false)) (Or.inr rfl) rfl,
    trivial⟩ [(2, .val (Value.bool false))] [] ⟨rfl, trivial⟩ trivial rfl (fun a w h => ?_)
  refine wp_ret ?_
  refine then_ret ?_
  refine ret_slot h 2 rfl (lk rfl) (Value.bool false) rfl ?_
  exact ⟨rfl, h.grows⟩
set_option maxRecDepth 100000 in
set_option maxHeartbeats 4000000 in
theorem e_formed_x {w : World} (hT : Tab w) {X Y : Int} (hX : Num X) (bX : decide (X < md 2) = false) : Calls Tryd.prog 10 [.agg (nc (X) ++ nc (Y) ++ [Value.bool false]).toArray].toArray w fun e w' => e = .returned (.bool false) ∧ Below w.heap.size w w' := by
  refine enter (args := [.agg (nc (X) ++ nc (Y) ++ [Value.bool false]).toArray]) Tryd.func10 rfl 40 rfl (lk rfl) (fun a h => ?_)
  refine go_region h hm [eN 1 (nc (X) ++ nc (Y) ++ [Value.bool false]), eS 2 (.val (Value.bool false))] (by kernel_rfl) ⟨
    fun L u => u_box u (gd0 rfl) 26 (.tmp 0) rfl 1 rfl rfl rfl _ rfl,
    fun L u => u_move u (gd0 rfl) 2 rfl (.const (.bool false)) (Or.inr rfl) rfl,
    trivial⟩ [(1, .ptr 1 0)] [(1, nc (X) ++ nc (Y) ++ [Value.bool false])] ⟨rfl, trivial⟩ ⟨rfl, trivial⟩ rfl (fun a w h => ?_)
  refine wp_seq ?_
  refine go_region h hm [eS 5 (.ptr 1 8), eS 6 (.val (Value.bool false)), eS 7 (.val (Value.bool false)), eS 8 (.ptr 1 0), eS 9 (.val (.agg (nc (X)).toArray)), eS 10 (.val (Value.bool false)), eS 11 (.val (Value.bool true)), eS 12 (.val (Value.bool true)), eS 13 (.val (Value.bool true)), eS 14 (.val undef), eS 15 (.val undef), eS 16 (.val undef), eS 17 (.val undef), eS 18 (.val (Value.bool true))] (by kernel_rfl) ⟨
    fun L u => u_field u (gd0 rfl) 5 rfl 26 (.tmp 1) 2 rfl rfl rfl Tryd.underlying26 rfl i4 _ rfl,
    fun L u => u_load1 u (gd0 rfl) 6 rfl 4 (.tmp 5) rfl rfl rfl Tryd.underlying4 rfl _ rfl,
    fun L u => u_move u (gd0 rfl) 7 rfl (.tmp 6) (Or.inl rfl) rfl,
    fun L u => u_field u (gd1 u 2 false rfl 7 rfl (lk rfl) rfl) 8 rfl 26 (.tmp 1) 0 rfl rfl rfl Tryd.underlying26 rfl i24 _ rfl,
    fun L u => u_load u (gd1 u 2 false rfl 7 rfl (lk rfl) rfl) 9 rfl 24 (.tmp 8) rfl rfl rfl Tryd.underlying24 rfl i24 (lk rfl) _ rfl,
    fun L u => u_call u (gd1 u 2 false rfl 7 rfl (lk rfl) rfl) 10 rfl 28 #[(.const (.int .i64 2)), (.tmp 9)] #[3, 24] rfl [(Value.int IntKind.i64 2), .agg (nc (X)).toArray] rfl (cE28 _) (Value.bool false) (fun w hb => e_below (hT.keep (Bs.kp_of hb)) hX bX),
    fun L u => u_not u (gd1 u 2 false rfl 7 rfl (lk rfl) rfl) 11 rfl 4 (.tmp 10) rfl rfl _ rfl,
    fun L u => u_pick u (gd0 rfl) 12 rfl (.tmp 7) (.const (.bool true)) (.tmp 11) rfl rfl rfl rfl _ rfl,
    fun L u => u_move u (gd0 rfl) 13 rfl (.tmp 12) (Or.inl rfl) rfl,
    fun L u => u_no u 8 false rfl 13 rfl (lk rfl) rfl 14 rfl,
    fun L u => u_no u 8 false rfl 13 rfl (lk rfl) rfl 15 rfl,
    fun L u => u_no u 8 false rfl 13 rfl (lk rfl) rfl 16 rfl,
    fun L u => u_no u 8 false rfl 13 rfl (lk rfl) rfl 17 rfl,
    fun L u => u_pick u (gd0 rfl) 18 rfl (.tmp 13) (.const (.bool true)) (.tmp 17) rfl rfl rfl rfl _ rfl,
    trivial⟩ [(1, .ptr 1 0), (18, .val (Value.bool true))] [(1, nc (X) ++ nc (Y) ++ [Value.bool false])] ⟨rfl, rfl, trivial⟩ ⟨rfl, trivial⟩ rfl (fun a w h => ?_)
  refine go_cond h true rfl (fun ht => ?_) (fun hf => ?_)
  case refine_2 => cases hf
  refine go_region h hm [eS 2 (.val (Value.bool false))] (by kernel_rfl) ⟨
    fun L u => u_move u (gd0 rfl) 2 rfl (.const (.bool false)) (Or.inr rfl) rfl,
    trivial⟩ [(2, .val (Value.bool false))] [] ⟨rfl, trivial⟩ trivial rfl (fun a w h => ?_)
  refine wp_ret ?_
  refine then_ret ?_
  refine ret_slot h 2 rfl (lk rfl) (Value.bool false) rfl ?_
  exact ⟨rfl, h.grows⟩
set_option maxRecDepth 100000 in
set_option maxHeartbeats 4000000 in
theorem e_formed_y {w : World} (hT : Tab w) {X Y : Int} (hX : Num X) (bX : decide (X < md 2) = true) (hY : Num Y) (bY : decide (Y < md 2) = false) : Calls Tryd.prog 10 [.agg (nc (X) ++ nc (Y) ++ [Value.bool false]).toArray].toArray w fun e w' => e = .returned (.bool false) ∧ Below w.heap.size w w' := by
  refine enter (args := [.agg (nc (X) ++ nc (Y) ++ [Value.bool false]).toArray]) Tryd.func10 rfl 40 rfl (lk rfl) (fun a h => ?_)
  refine go_region h hm [eN 1 (nc (X) ++ nc (Y) ++ [Value.bool false]), eS 2 (.val (Value.bool false))] (by kernel_rfl) ⟨
    fun L u => u_box u (gd0 rfl) 26 (.tmp 0) rfl 1 rfl rfl rfl _ rfl,
    fun L u => u_move u (gd0 rfl) 2 rfl (.const (.bool false)) (Or.inr rfl) rfl,
    trivial⟩ [(1, .ptr 1 0)] [(1, nc (X) ++ nc (Y) ++ [Value.bool false])] ⟨rfl, trivial⟩ ⟨rfl, trivial⟩ rfl (fun a w h => ?_)
  refine wp_seq ?_
  refine go_region h hm [eS 5 (.ptr 1 8), eS 6 (.val (Value.bool false)), eS 7 (.val (Value.bool false)), eS 8 (.ptr 1 0), eS 9 (.val (.agg (nc (X)).toArray)), eS 10 (.val (Value.bool true)), eS 11 (.val (Value.bool false)), eS 12 (.val (Value.bool false)), eS 13 (.val (Value.bool false)), eS 14 (.ptr 1 4), eS 15 (.val (.agg (nc (Y)).toArray)), eS 16 (.val (Value.bool false)), eS 17 (.val (Value.bool true)), eS 18 (.val (Value.bool true))] (by kernel_rfl) ⟨
    fun L u => u_field u (gd0 rfl) 5 rfl 26 (.tmp 1) 2 rfl rfl rfl Tryd.underlying26 rfl i4 _ rfl,
    fun L u => u_load1 u (gd0 rfl) 6 rfl 4 (.tmp 5) rfl rfl rfl Tryd.underlying4 rfl _ rfl,
    fun L u => u_move u (gd0 rfl) 7 rfl (.tmp 6) (Or.inl rfl) rfl,
    fun L u => u_field u (gd1 u 2 false rfl 7 rfl (lk rfl) rfl) 8 rfl 26 (.tmp 1) 0 rfl rfl rfl Tryd.underlying26 rfl i24 _ rfl,
    fun L u => u_load u (gd1 u 2 false rfl 7 rfl (lk rfl) rfl) 9 rfl 24 (.tmp 8) rfl rfl rfl Tryd.underlying24 rfl i24 (lk rfl) _ rfl,
    fun L u => u_call u (gd1 u 2 false rfl 7 rfl (lk rfl) rfl) 10 rfl 28 #[(.const (.int .i64 2)), (.tmp 9)] #[3, 24] rfl [(Value.int IntKind.i64 2), .agg (nc (X)).toArray] rfl (cE28 _) (Value.bool true) (fun w hb => e_below (hT.keep (Bs.kp_of hb)) hX bX),
    fun L u => u_not u (gd1 u 2 false rfl 7 rfl (lk rfl) rfl) 11 rfl 4 (.tmp 10) rfl rfl _ rfl,
    fun L u => u_pick u (gd0 rfl) 12 rfl (.tmp 7) (.const (.bool true)) (.tmp 11) rfl rfl rfl rfl _ rfl,
    fun L u => u_move u (gd0 rfl) 13 rfl (.tmp 12) (Or.inl rfl) rfl,
    fun L u => u_field u (gd1 u 8 false rfl 13 rfl (lk rfl) rfl) 14 rfl 26 (.tmp 1) 1 rfl rfl rfl Tryd.underlying26 rfl i24 _ rfl,
    fun L u => u_load u (gd1 u 8 false rfl 13 rfl (lk rfl) rfl) 15 rfl 24 (.tmp 14) rfl rfl rfl Tryd.underlying24 rfl i24 (lk rfl) _ rfl,
    fun L u => u_call u (gd1 u 8 false rfl 13 rfl (lk rfl) rfl) 16 rfl 28 #[(.const (.int .i64 2)), (.tmp 15)] #[3, 24] rfl [(Value.int IntKind.i64 2), .agg (nc (Y)).toArray] rfl (cE28 _) (Value.bool false) (fun w hb => e_below (hT.keep (Bs.kp_of hb)) hY bY),
    fun L u => u_not u (gd1 u 8 false rfl 13 rfl (lk rfl) rfl) 17 rfl 4 (.tmp 16) rfl rfl _ rfl,
    fun L u => u_pick u (gd0 rfl) 18 rfl (.tmp 13) (.const (.bool true)) (.tmp 17) rfl rfl rfl rfl _ rfl,
    trivial⟩ [(1, .ptr 1 0), (18, .val (Value.bool true))] [(1, nc (X) ++ nc (Y) ++ [Value.bool false])] ⟨rfl, rfl, trivial⟩ ⟨rfl, trivial⟩ rfl (fun a w h => ?_)
  refine go_cond h true rfl (fun ht => ?_) (fun hf => ?_)
  case refine_2 => cases hf
  refine go_region h hm [eS 2 (.val (Value.bool false))] (by kernel_rfl) ⟨
    fun L u => u_move u (gd0 rfl) 2 rfl (.const (.bool false)) (Or.inr rfl) rfl,
    trivial⟩ [(2, .val (Value.bool false))] [] ⟨rfl, trivial⟩ trivial rfl (fun a w h => ?_)
  refine wp_ret ?_
  refine then_ret ?_
  refine ret_slot h 2 rfl (lk rfl) (Value.bool false) rfl ?_
  exact ⟨rfl, h.grows⟩
theorem eformed_poly {p : Nat} [NeZero p] (d x y : Fin p) {one : Fin p} (hone : one = 1) {v1 : Fin p} (ev1 : v1 = x * x) {v2 : Fin p} (ev2 : v2 = y * y) {v3 : Fin p} (ev3 : v3 = v2 - v1) {v4 : Fin p} (ev4 : v4 = v1 * v2) {v5 : Fin p} (ev5 : v5 = d * v4) {v6 : Fin p} (ev6 : v6 = one + v5) : decide (v3 = v6) = decide (y * y - x * x = 1 + d * (x * x * (y * y))) := by
  subst hone ev1 ev2 ev3 ev4 ev5 ev6
  have e : ∀ l r l2 r2 : Fin p, l = l2 → r = r2 → decide (l = r) = decide (l2 = r2) := fun l r l2 r2 h1 h2 => by rw [h1, h2]
  apply e <;> grobner
set_option maxRecDepth 100000 in
set_option maxHeartbeats 8000000 in
theorem e_formed_at {w : World} (hT : Tab w) (x y : Fin m2) : Calls Tryd.prog 10 [.agg (gc (x) ++ gc (y) ++ [Value.bool false]).toArray].toArray w fun e w' => e = .returned (.bool (decide (y * y - x * x = 1 + ed * (x * x * (y * y))))) ∧ Below w.heap.size w w' := by
  obtain ⟨one, hone⟩ : ∃ z : Fin m2, z = 1 := ⟨_, rfl⟩
  obtain ⟨v1, ev1⟩ : ∃ z : Fin m2, z = x * x := ⟨_, rfl⟩
  obtain ⟨v2, ev2⟩ : ∃ z : Fin m2, z = y * y := ⟨_, rfl⟩
  obtain ⟨v3, ev3⟩ : ∃ z : Fin m2, z = v2 - v1 := ⟨_, rfl⟩
  obtain ⟨v4, ev4⟩ : ∃ z : Fin m2, z = v1 * v2 := ⟨_, rfl⟩
  obtain ⟨v5, ev5⟩ : ∃ z : Fin m2, z = ed * v4 := ⟨_, rfl⟩
  obtain ⟨v6, ev6⟩ : ∃ z : Fin m2, z = one + v5 := ⟨_, rfl⟩
  have hpp := eformed_poly ed x y hone ev1 ev2 ev3 ev4 ev5 ev6
  refine enter (args := [.agg (gc (x) ++ gc (y) ++ [Value.bool false]).toArray]) Tryd.func10 rfl 40 rfl (lk rfl) (fun a h => ?_)
  refine go_region h hm [eN 1 (gc (x) ++ gc (y) ++ [Value.bool false]), eS 2 (.val (Value.bool false))] (by kernel_rfl) ⟨
    fun L u => u_box u (gd0 rfl) 26 (.tmp 0) rfl 1 rfl rfl rfl _ rfl,
    fun L u => u_move u (gd0 rfl) 2 rfl (.const (.bool false)) (Or.inr rfl) rfl,
    trivial⟩ [(1, .ptr 1 0)] [(1, gc (x) ++ gc (y) ++ [Value.bool false])] ⟨rfl, trivial⟩ ⟨rfl, trivial⟩ rfl (fun a w h => ?_)
  refine wp_seq ?_
  refine go_region h hm [eS 5 (.ptr 1 8), eS 6 (.val (Value.bool false)), eS 7 (.val (Value.bool false)), eS 8 (.ptr 1 0), eS 9 (.val (.agg (gc (x)).toArray)), eS 10 (.val (Value.bool true)), eS 11 (.val (Value.bool false)), eS 12 (.val (Value.bool false)), eS 13 (.val (Value.bool false)), eS 14 (.ptr 1 4), eS 15 (.val (.agg (gc (y)).toArray)), eS 16 (.val (Value.bool true)), eS 17 (.val (Value.bool false)), eS 18 (.val (Value.bool false))] (by kernel_rfl) ⟨
    fun L u => u_field u (gd0 rfl) 5 rfl 26 (.tmp 1) 2 rfl rfl rfl Tryd.underlying26 rfl i4 _ rfl,
    fun L u => u_load1 u (gd0 rfl) 6 rfl 4 (.tmp 5) rfl rfl rfl Tryd.underlying4 rfl _ rfl,
    fun L u => u_move u (gd0 rfl) 7 rfl (.tmp 6) (Or.inl rfl) rfl,
    fun L u => u_field u (gd1 u 2 false rfl 7 rfl (lk rfl) rfl) 8 rfl 26 (.tmp 1) 0 rfl rfl rfl Tryd.underlying26 rfl i24 _ rfl,
    fun L u => u_load u (gd1 u 2 false rfl 7 rfl (lk rfl) rfl) 9 rfl 24 (.tmp 8) rfl rfl rfl Tryd.underlying24 rfl i24 (lk rfl) _ rfl,
    fun L u => u_call u (gd1 u 2 false rfl 7 rfl (lk rfl) rfl) 10 rfl 28 #[(.const (.int .i64 2)), (.tmp 9)] #[3, 24] rfl [(Value.int IntKind.i64 2), .agg (gc (x)).toArray] rfl (cE28 _) (Value.bool true) (fun w hb => e_below (hT.keep (Bs.kp_of hb)) (gin_num _) (gin_lt _)),
    fun L u => u_not u (gd1 u 2 false rfl 7 rfl (lk rfl) rfl) 11 rfl 4 (.tmp 10) rfl rfl _ rfl,
    fun L u => u_pick u (gd0 rfl) 12 rfl (.tmp 7) (.const (.bool true)) (.tmp 11) rfl rfl rfl rfl _ rfl,
    fun L u => u_move u (gd0 rfl) 13 rfl (.tmp 12) (Or.inl rfl) rfl,
    fun L u => u_field u (gd1 u 8 false rfl 13 rfl (lk rfl) rfl) 14 rfl 26 (.tmp 1) 1 rfl rfl rfl Tryd.underlying26 rfl i24 _ rfl,
    fun L u => u_load u (gd1 u 8 false rfl 13 rfl (lk rfl) rfl) 15 rfl 24 (.tmp 14) rfl rfl rfl Tryd.underlying24 rfl i24 (lk rfl) _ rfl,
    fun L u => u_call u (gd1 u 8 false rfl 13 rfl (lk rfl) rfl) 16 rfl 28 #[(.const (.int .i64 2)), (.tmp 15)] #[3, 24] rfl [(Value.int IntKind.i64 2), .agg (gc (y)).toArray] rfl (cE28 _) (Value.bool true) (fun w hb => e_below (hT.keep (Bs.kp_of hb)) (gin_num _) (gin_lt _)),
    fun L u => u_not u (gd1 u 8 false rfl 13 rfl (lk rfl) rfl) 17 rfl 4 (.tmp 16) rfl rfl _ rfl,
    fun L u => u_pick u (gd0 rfl) 18 rfl (.tmp 13) (.const (.bool true)) (.tmp 17) rfl rfl rfl rfl _ rfl,
    trivial⟩ [(1, .ptr 1 0), (18, .val (Value.bool false))] [(1, gc (x) ++ gc (y) ++ [Value.bool false])] ⟨rfl, rfl, trivial⟩ ⟨rfl, trivial⟩ rfl (fun a w h => ?_)
  refine go_cond h false rfl (fun ht => ?_) (fun hf => ?_)
  case refine_1 => cases ht
  refine wp_skip ?_
  refine then_norm ?_
  refine go_region h hm [eS 19 (.ptr 1 0), eS 20 (.val (.agg (gc (x)).toArray)), eS 21 (.ptr 1 0), eS 22 (.val (.agg (gc (x)).toArray)), eS 23 (.val (.agg (gc (v1)).toArray)), eS 24 (.ptr 1 4), eS 25 (.val (.agg (gc (y)).toArray)), eS 26 (.ptr 1 4), eS 27 (.val (.agg (gc (y)).toArray)), eS 28 (.val (.agg (gc (v2)).toArray)), eN 3 (nz), eN 4 (nz), eM 3 (gc (v1)), eM 4 (gc (v2))] (by kernel_rfl) ⟨
    fun L u => u_field u (gd0 rfl) 19 rfl 26 (.tmp 1) 0 rfl rfl rfl Tryd.underlying26 rfl i24 _ rfl,
    fun L u => u_load u (gd0 rfl) 20 rfl 24 (.tmp 19) rfl rfl rfl Tryd.underlying24 rfl i24 (lk rfl) _ rfl,
    fun L u => u_field u (gd0 rfl) 21 rfl 26 (.tmp 1) 0 rfl rfl rfl Tryd.underlying26 rfl i24 _ rfl,
    fun L u => u_load u (gd0 rfl) 22 rfl 24 (.tmp 21) rfl rfl rfl Tryd.underlying24 rfl i24 (lk rfl) _ rfl,
    fun L u => u_call u (gd0 rfl) 23 rfl 29 #[(.tmp 20), (.tmp 22)] #[24, 24] rfl [.agg (gc (x)).toArray, .agg (gc (x)).toArray] rfl (cE29 _) (.agg (gc (v1)).toArray) (fun w hb => by have g := e_mul (hT.keep (Bs.kp_of hb)) x x; rw [← ev1] at g; exact g),
    fun L u => u_field u (gd0 rfl) 24 rfl 26 (.tmp 1) 1 rfl rfl rfl Tryd.underlying26 rfl i24 _ rfl,
    fun L u => u_load u (gd0 rfl) 25 rfl 24 (.tmp 24) rfl rfl rfl Tryd.underlying24 rfl i24 (lk rfl) _ rfl,
    fun L u => u_field u (gd0 rfl) 26 rfl 26 (.tmp 1) 1 rfl rfl rfl Tryd.underlying26 rfl i24 _ rfl,
    fun L u => u_load u (gd0 rfl) 27 rfl 24 (.tmp 26) rfl rfl rfl Tryd.underlying24 rfl i24 (lk rfl) _ rfl,
    fun L u => u_call u (gd0 rfl) 28 rfl 29 #[(.tmp 25), (.tmp 27)] #[24, 24] rfl [.agg (gc (y)).toArray, .agg (gc (y)).toArray] rfl (cE29 _) (.agg (gc (v2)).toArray) (fun w hb => by have g := e_mul (hT.keep (Bs.kp_of hb)) y y; rw [← ev2] at g; exact g),
    fun L u => u_alloc u (gd0 rfl) 24 rfl 3 rfl rfl z24 _ rfl,
    fun L u => u_alloc u (gd0 rfl) 24 rfl 4 rfl rfl z24 _ rfl,
    fun L u => u_store u (gd0 rfl) 24 (.tmp 3) (.tmp 23) rfl rfl rfl (vs := gc (v1)) rfl rfl i24 (lk rfl) rfl _ rfl,
    fun L u => u_store u (gd0 rfl) 24 (.tmp 4) (.tmp 28) rfl rfl rfl (vs := gc (v2)) rfl rfl i24 (lk rfl) rfl _ rfl,
    trivial⟩ [(3, .ptr 3 0), (4, .ptr 4 0)] [(3, gc (v1)), (4, gc (v2))] ⟨rfl, rfl, trivial⟩ ⟨rfl, rfl, trivial⟩ rfl (fun a w h => ?_)
  refine go_region h hm [eS 29 (.val (.agg (gc (v2)).toArray)), eS 30 (.val (.agg (gc (v1)).toArray)), eS 31 (.val (.agg (gc (v3)).toArray)), eS 32 (.val (.agg (gc (one)).toArray)), eS 33 (.val (.agg (gc (ed)).toArray)), eS 34 (.val (.agg (gc (v1)).toArray)), eS 35 (.val (.agg (gc (v2)).toArray)), eS 36 (.val (.agg (gc (v4)).toArray)), eS 37 (.val (.agg (gc (v5)).toArray)), eS 38 (.val (.agg (gc (v6)).toArray)), eS 39 (.val (Value.bool (decide (v3 = v6)))), eS 2 (.val (Value.bool (decide (v3 = v6))))] (by kernel_rfl) ⟨
    fun L u => u_load u (gd0 rfl) 29 rfl 24 (.tmp 4) rfl rfl rfl Tryd.underlying24 rfl i24 (lk rfl) _ rfl,
    fun L u => u_load u (gd0 rfl) 30 rfl 24 (.tmp 3) rfl rfl rfl Tryd.underlying24 rfl i24 (lk rfl) _ rfl,
    fun L u => u_call u (gd0 rfl) 31 rfl 30 #[(.tmp 29), (.tmp 30)] #[24, 24] rfl [.agg (gc (v2)).toArray, .agg (gc (v1)).toArray] rfl (cE30 _) (.agg (gc (v3)).toArray) (fun w hb => by have g := e_sub (hT.keep (Bs.kp_of hb)) v2 v1; rw [← ev3] at g; exact g),
    fun L u => u_call u (gd0 rfl) 32 rfl 32 #[] #[] rfl [] rfl (cE32 _) (.agg (gc (one)).toArray) (fun w hb => e_one hone),
    fun L u => u_loadXR u (gd0 rfl) 33 rfl 24 (.global 0) rfl rfl Tryd.underlying24 rfl (gc (ed)) i24 rfl (hT.ed) rfl,
    fun L u => u_load u (gd0 rfl) 34 rfl 24 (.tmp 3) rfl rfl rfl Tryd.underlying24 rfl i24 (lk rfl) _ rfl,
    fun L u => u_load u (gd0 rfl) 35 rfl 24 (.tmp 4) rfl rfl rfl Tryd.underlying24 rfl i24 (lk rfl) _ rfl,
    fun L u => u_call u (gd0 rfl) 36 rfl 29 #[(.tmp 34), (.tmp 35)] #[24, 24] rfl [.agg (gc (v1)).toArray, .agg (gc (v2)).toArray] rfl (cE29 _) (.agg (gc (v4)).toArray) (fun w hb => by have g := e_mul (hT.keep (Bs.kp_of hb)) v1 v2; rw [← ev4] at g; exact g),
    fun L u => u_call u (gd0 rfl) 37 rfl 29 #[(.tmp 33), (.tmp 36)] #[24, 24] rfl [.agg (gc (ed)).toArray, .agg (gc (v4)).toArray] rfl (cE29 _) (.agg (gc (v5)).toArray) (fun w hb => by have g := e_mul (hT.keep (Bs.kp_of hb)) ed v4; rw [← ev5] at g; exact g),
    fun L u => u_call u (gd0 rfl) 38 rfl 31 #[(.tmp 32), (.tmp 37)] #[24, 24] rfl [.agg (gc (one)).toArray, .agg (gc (v5)).toArray] rfl (cE31 _) (.agg (gc (v6)).toArray) (fun w hb => by have g := e_add (hT.keep (Bs.kp_of hb)) one v5; rw [← ev6] at g; exact g),
    fun L u => u_eql u (gd0 rfl) 39 rfl 24 24 (.tmp 31) (.tmp 38) rfl rfl rfl Tryd.eqGuardType24 (decide (v3 = v6)) (fun w => eq_gc _ _ w),
    fun L u => u_move u (gd0 rfl) 2 rfl (.tmp 39) (Or.inr rfl) rfl,
    trivial⟩ [(2, .val (Value.bool (decide (v3 = v6))))] [] ⟨rfl, trivial⟩ trivial rfl (fun a w h => ?_)
  refine wp_ret ?_
  refine ret_slot h 2 rfl (lk rfl) (Value.bool (decide (v3 = v6))) rfl ?_
  exact ⟨by rw [← hpp], h.grows⟩
theorem e_Formed {w : World} (hT : Tab w) {X Y : Int} (hX : Num X) (hY : Num Y) (t : Bool) : Calls Tryd.prog 10 [.agg (rc X Y t).toArray].toArray w fun e w' => e = .returned (.bool (fmdE X Y t)) ∧ Below w.heap.size w w' := by
  unfold fmdE
  cases t with
  | true =>
    rw [decide_eq_false (fun h => by cases h.1)]
    exact e_formed_none
  | false =>
    by_cases h1 : X < md 2
    · by_cases h2 : Y < md 2
      · have e3 : decide (false = false ∧ X < md 2 ∧ Y < md 2 ∧ (kc Y : Fin m2) * kc Y - kc X * kc X = 1 + ed * (kc X * kc X * (kc Y * kc Y))) = decide ((kc Y : Fin m2) * kc Y - kc X * kc X = 1 + ed * (kc X * kc X * (kc Y * kc Y))) := decide_eq_decide.2 ⟨fun h => h.2.2.2, fun h => ⟨rfl, h1, h2, h⟩⟩
        rw [e3, rc, nc_gc hX.lo h1, nc_gc hY.lo h2]
        exact e_formed_at hT (kc X) (kc Y)
      · rw [decide_eq_false (fun h => h2 h.2.2.1)]
        exact e_formed_y hT hX (decide_eq_true h1) hY (decide_eq_false h2)
    · rw [decide_eq_false (fun h => h1 h.2.1)]
      exact e_formed_x hT hX (decide_eq_false h1)
theorem xl_o : xc (xlift (Ep.o m2)) = gc (Ep.o m2).x ++ gc (Ep.o m2).y ++ gc 1 ++ gc ((Ep.o m2).x * (Ep.o m2).y) := rfl
theorem xl_at (x y : Fin m2) : xc (xlift ⟨x, y⟩) = gc x ++ gc y ++ gc 1 ++ gc (x * y) := rfl
set_option maxRecDepth 100000 in
set_option maxHeartbeats 4000000 in
theorem e_lift_none {w : World} (hT : Tab w) {X Y : Int} (hX : Num X) (hY : Num Y) (hf0 : fmdE X Y true = false) : Calls Tryd.prog 41 [.agg (nc (X) ++ nc (Y) ++ [Value.bool true]).toArray].toArray w fun e w' => e = .returned (.agg (xc (xlift (Ep.o m2))).toArray) ∧ Below w.heap.size w w' := by
  obtain ⟨one, hone⟩ : ∃ z : Fin m2, z = 1 := ⟨_, rfl⟩
  refine enter (args := [.agg (nc (X) ++ nc (Y) ++ [Value.bool true]).toArray]) Tryd.func41 rfl 18 rfl (lk rfl) (fun a h => ?_)
  refine go_region h hm [eN 1 (nc (X) ++ nc (Y) ++ [Value.bool true]), eN 2 (nz ++ nz ++ nz ++ nz)] (by kernel_rfl) ⟨
    fun L u => u_box u (gd0 rfl) 26 (.tmp 0) rfl 1 rfl rfl rfl _ rfl,
    fun L u => u_alloc u (gd0 rfl) 54 rfl 2 rfl rfl z54 _ rfl,
    trivial⟩ [(1, .ptr 1 0), (2, .ptr 2 0)] [(1, nc (X) ++ nc (Y) ++ [Value.bool true]), (2, nz ++ nz ++ nz ++ nz)] ⟨rfl, rfl, trivial⟩ ⟨rfl, rfl, trivial⟩ rfl (fun a w h => ?_)
  refine wp_seq ?_
  refine go_region h hm [eS 3 (.val (.agg (nc (X) ++ nc (Y) ++ [Value.bool true]).toArray)), eS 4 (.val (Value.bool false)), eS 5 (.val (Value.bool true))] (by kernel_rfl) ⟨
    fun L u => u_load u (gd0 rfl) 3 rfl 26 (.tmp 1) rfl rfl rfl Tryd.underlying26 rfl i26 (lk rfl) _ rfl,
    fun L u => u_call u (gd0 rfl) 4 rfl 10 #[(.tmp 3)] #[26] rfl [.agg (nc (X) ++ nc (Y) ++ [Value.bool true]).toArray] rfl (cE10 _) (Value.bool false) (fun w hb => by have f := e_Formed (hT.keep (Bs.kp_of hb)) hX hY true; rw [hf0] at f; exact f),
    fun L u => u_not u (gd0 rfl) 5 rfl 4 (.tmp 4) rfl rfl _ rfl,
    trivial⟩ [(1, .ptr 1 0), (2, .ptr 2 0), (5, .val (Value.bool true))] [(1, nc (X) ++ nc (Y) ++ [Value.bool true]), (2, nz ++ nz ++ nz ++ nz)] ⟨rfl, rfl, rfl, trivial⟩ ⟨rfl, rfl, trivial⟩ rfl (fun a w h => ?_)
  refine go_cond h true rfl (fun ht => ?_) (fun hf => ?_)
  case refine_2 => cases hf
  refine go_end h hm [eS 6 (.val (.agg (pcE (Ep.o m2)).toArray)), eM 1 (pcE (Ep.o m2))] (by kernel_rfl) ⟨
    fun L u => u_call u (gd0 rfl) 6 rfl 51 #[] #[] rfl [] rfl (cE51 _) (.agg (pcE (Ep.o m2)).toArray) (fun w hb => e_neutral),
    fun L u => u_store u (gd0 rfl) 26 (.tmp 1) (.tmp 6) rfl rfl rfl (vs := pcE (Ep.o m2)) rfl rfl i26 (lk rfl) rfl _ rfl,
    trivial⟩ [(1, .ptr 1 0), (2, .ptr 2 0)] [(1, pcE (Ep.o m2)), (2, nz ++ nz ++ nz ++ nz)] ⟨rfl, rfl, trivial⟩ ⟨rfl, rfl, trivial⟩ rfl (fun a w h => ?_)
  refine then_norm ?_
  refine go_region h hm [eS 7 (.ptr 1 0), eS 8 (.val (.agg (gc ((Ep.o m2).x)).toArray)), eS 9 (.ptr 1 4), eS 10 (.val (.agg (gc ((Ep.o m2).y)).toArray)), eS 11 (.val (.agg (gc (one)).toArray)), eS 12 (.ptr 1 0), eS 13 (.val (.agg (gc ((Ep.o m2).x)).toArray)), eS 14 (.ptr 1 4), eS 15 (.val (.agg (gc ((Ep.o m2).y)).toArray)), eS 16 (.val (.agg (gc (((Ep.o m2).x) * ((Ep.o m2).y))).toArray)), eS 17 (.val (.agg (gc ((Ep.o m2).x) ++ gc ((Ep.o m2).y) ++ gc (one) ++ gc (((Ep.o m2).x) * ((Ep.o m2).y))).toArray)), eM 2 (gc ((Ep.o m2).x) ++ gc ((Ep.o m2).y) ++ gc (one) ++ gc (((Ep.o m2).x) * ((Ep.o m2).y)))] (by kernel_rfl) ⟨
    fun L u => u_field u (gd0 rfl) 7 rfl 26 (.tmp 1) 0 rfl rfl rfl Tryd.underlying26 rfl i24 _ rfl,
    fun L u => u_load u (gd0 rfl) 8 rfl 24 (.tmp 7) rfl rfl rfl Tryd.underlying24 rfl i24 (lk rfl) _ rfl,
    fun L u => u_field u (gd0 rfl) 9 rfl 26 (.tmp 1) 1 rfl rfl rfl Tryd.underlying26 rfl i24 _ rfl,
    fun L u => u_load u (gd0 rfl) 10 rfl 24 (.tmp 9) rfl rfl rfl Tryd.underlying24 rfl i24 (lk rfl) _ rfl,
    fun L u => u_call u (gd0 rfl) 11 rfl 32 #[] #[] rfl [] rfl (cE32 _) (.agg (gc (one)).toArray) (fun w hb => e_one hone),
    fun L u => u_field u (gd0 rfl) 12 rfl 26 (.tmp 1) 0 rfl rfl rfl Tryd.underlying26 rfl i24 _ rfl,
    fun L u => u_load u (gd0 rfl) 13 rfl 24 (.tmp 12) rfl rfl rfl Tryd.underlying24 rfl i24 (lk rfl) _ rfl,
    fun L u => u_field u (gd0 rfl) 14 rfl 26 (.tmp 1) 1 rfl rfl rfl Tryd.underlying26 rfl i24 _ rfl,
    fun L u => u_load u (gd0 rfl) 15 rfl 24 (.tmp 14) rfl rfl rfl Tryd.underlying24 rfl i24 (lk rfl) _ rfl,
    fun L u => u_call u (gd0 rfl) 16 rfl 29 #[(.tmp 13), (.tmp 15)] #[24, 24] rfl [.agg (gc ((Ep.o m2).x)).toArray, .agg (gc ((Ep.o m2).y)).toArray] rfl (cE29 _) (.agg (gc (((Ep.o m2).x) * ((Ep.o m2).y))).toArray) (fun w hb => e_mul (hT.keep (Bs.kp_of hb)) _ _),
    fun L u => u_build u (gd0 rfl) 17 rfl 54 #[(0, (.tmp 8)), (1, (.tmp 10)), (2, (.tmp 11)), (3, (.tmp 16))] rfl [(0, .agg (gc ((Ep.o m2).x)).toArray), (1, .agg (gc ((Ep.o m2).y)).toArray), (2, .agg (gc (one)).toArray), (3, .agg (gc (((Ep.o m2).x) * ((Ep.o m2).y))).toArray)] rfl (gc ((Ep.o m2).x) ++ gc ((Ep.o m2).y) ++ gc (one) ++ gc (((Ep.o m2).x) * ((Ep.o m2).y))) (g_bX _ _ _ _),
    fun L u => u_store u (gd0 rfl) 54 (.tmp 2) (.tmp 17) rfl rfl rfl (vs := gc ((Ep.o m2).x) ++ gc ((Ep.o m2).y) ++ gc (one) ++ gc (((Ep.o m2).x) * ((Ep.o m2).y))) rfl rfl i54 (lk rfl) rfl _ rfl,
    trivial⟩ [(2, .ptr 2 0)] [(2, gc ((Ep.o m2).x) ++ gc ((Ep.o m2).y) ++ gc (one) ++ gc (((Ep.o m2).x) * ((Ep.o m2).y)))] ⟨rfl, trivial⟩ ⟨rfl, trivial⟩ rfl (fun a w h => ?_)
  refine wp_ret ?_
  refine ret_row h 2 54 rfl (lk rfl) 2 rfl (gc ((Ep.o m2).x) ++ gc ((Ep.o m2).y) ++ gc (one) ++ gc (((Ep.o m2).x) * ((Ep.o m2).y))) rfl _ Tryd.underlying54 rfl i54 ?_
  exact ⟨by rw [xl_o, hone], h.grows⟩
set_option maxRecDepth 100000 in
set_option maxHeartbeats 4000000 in
theorem e_lift_off {w : World} (hT : Tab w) {X Y : Int} (hX : Num X) (hY : Num Y) (hf0 : fmdE X Y false = false) : Calls Tryd.prog 41 [.agg (nc (X) ++ nc (Y) ++ [Value.bool false]).toArray].toArray w fun e w' => e = .returned (.agg (xc (xlift (Ep.o m2))).toArray) ∧ Below w.heap.size w w' := by
  obtain ⟨one, hone⟩ : ∃ z : Fin m2, z = 1 := ⟨_, rfl⟩
  refine enter (args := [.agg (nc (X) ++ nc (Y) ++ [Value.bool false]).toArray]) Tryd.func41 rfl 18 rfl (lk rfl) (fun a h => ?_)
  refine go_region h hm [eN 1 (nc (X) ++ nc (Y) ++ [Value.bool false]), eN 2 (nz ++ nz ++ nz ++ nz)] (by kernel_rfl) ⟨
    fun L u => u_box u (gd0 rfl) 26 (.tmp 0) rfl 1 rfl rfl rfl _ rfl,
    fun L u => u_alloc u (gd0 rfl) 54 rfl 2 rfl rfl z54 _ rfl,
    trivial⟩ [(1, .ptr 1 0), (2, .ptr 2 0)] [(1, nc (X) ++ nc (Y) ++ [Value.bool false]), (2, nz ++ nz ++ nz ++ nz)] ⟨rfl, rfl, trivial⟩ ⟨rfl, rfl, trivial⟩ rfl (fun a w h => ?_)
  refine wp_seq ?_
  refine go_region h hm [eS 3 (.val (.agg (nc (X) ++ nc (Y) ++ [Value.bool false]).toArray)), eS 4 (.val (Value.bool false)), eS 5 (.val (Value.bool true))] (by kernel_rfl) ⟨
    fun L u => u_load u (gd0 rfl) 3 rfl 26 (.tmp 1) rfl rfl rfl Tryd.underlying26 rfl i26 (lk rfl) _ rfl,
    fun L u => u_call u (gd0 rfl) 4 rfl 10 #[(.tmp 3)] #[26] rfl [.agg (nc (X) ++ nc (Y) ++ [Value.bool false]).toArray] rfl (cE10 _) (Value.bool false) (fun w hb => by have f := e_Formed (hT.keep (Bs.kp_of hb)) hX hY false; rw [hf0] at f; exact f),
    fun L u => u_not u (gd0 rfl) 5 rfl 4 (.tmp 4) rfl rfl _ rfl,
    trivial⟩ [(1, .ptr 1 0), (2, .ptr 2 0), (5, .val (Value.bool true))] [(1, nc (X) ++ nc (Y) ++ [Value.bool false]), (2, nz ++ nz ++ nz ++ nz)] ⟨rfl, rfl, rfl, trivial⟩ ⟨rfl, rfl, trivial⟩ rfl (fun a w h => ?_)
  refine go_cond h true rfl (fun ht => ?_) (fun hf => ?_)
  case refine_2 => cases hf
  refine go_end h hm [eS 6 (.val (.agg (pcE (Ep.o m2)).toArray)), eM 1 (pcE (Ep.o m2))] (by kernel_rfl) ⟨
    fun L u => u_call u (gd0 rfl) 6 rfl 51 #[] #[] rfl [] rfl (cE51 _) (.agg (pcE (Ep.o m2)).toArray) (fun w hb => e_neutral),
    fun L u => u_store u (gd0 rfl) 26 (.tmp 1) (.tmp 6) rfl rfl rfl (vs := pcE (Ep.o m2)) rfl rfl i26 (lk rfl) rfl _ rfl,
    trivial⟩ [(1, .ptr 1 0), (2, .ptr 2 0)] [(1, pcE (Ep.o m2)), (2, nz ++ nz ++ nz ++ nz)] ⟨rfl, rfl, trivial⟩ ⟨rfl, rfl, trivial⟩ rfl (fun a w h => ?_)
  refine then_norm ?_
  refine go_region h hm [eS 7 (.ptr 1 0), eS 8 (.val (.agg (gc ((Ep.o m2).x)).toArray)), eS 9 (.ptr 1 4), eS 10 (.val (.agg (gc ((Ep.o m2).y)).toArray)), eS 11 (.val (.agg (gc (one)).toArray)), eS 12 (.ptr 1 0), eS 13 (.val (.agg (gc ((Ep.o m2).x)).toArray)), eS 14 (.ptr 1 4), eS 15 (.val (.agg (gc ((Ep.o m2).y)).toArray)), eS 16 (.val (.agg (gc (((Ep.o m2).x) * ((Ep.o m2).y))).toArray)), eS 17 (.val (.agg (gc ((Ep.o m2).x) ++ gc ((Ep.o m2).y) ++ gc (one) ++ gc (((Ep.o m2).x) * ((Ep.o m2).y))).toArray)), eM 2 (gc ((Ep.o m2).x) ++ gc ((Ep.o m2).y) ++ gc (one) ++ gc (((Ep.o m2).x) * ((Ep.o m2).y)))] (by kernel_rfl) ⟨
    fun L u => u_field u (gd0 rfl) 7 rfl 26 (.tmp 1) 0 rfl rfl rfl Tryd.underlying26 rfl i24 _ rfl,
    fun L u => u_load u (gd0 rfl) 8 rfl 24 (.tmp 7) rfl rfl rfl Tryd.underlying24 rfl i24 (lk rfl) _ rfl,
    fun L u => u_field u (gd0 rfl) 9 rfl 26 (.tmp 1) 1 rfl rfl rfl Tryd.underlying26 rfl i24 _ rfl,
    fun L u => u_load u (gd0 rfl) 10 rfl 24 (.tmp 9) rfl rfl rfl Tryd.underlying24 rfl i24 (lk rfl) _ rfl,
    fun L u => u_call u (gd0 rfl) 11 rfl 32 #[] #[] rfl [] rfl (cE32 _) (.agg (gc (one)).toArray) (fun w hb => e_one hone),
    fun L u => u_field u (gd0 rfl) 12 rfl 26 (.tmp 1) 0 rfl rfl rfl Tryd.underlying26 rfl i24 _ rfl,
    fun L u => u_load u (gd0 rfl) 13 rfl 24 (.tmp 12) rfl rfl rfl Tryd.underlying24 rfl i24 (lk rfl) _ rfl,
    fun L u => u_field u (gd0 rfl) 14 rfl 26 (.tmp 1) 1 rfl rfl rfl Tryd.underlying26 rfl i24 _ rfl,
    fun L u => u_load u (gd0 rfl) 15 rfl 24 (.tmp 14) rfl rfl rfl Tryd.underlying24 rfl i24 (lk rfl) _ rfl,
    fun L u => u_call u (gd0 rfl) 16 rfl 29 #[(.tmp 13), (.tmp 15)] #[24, 24] rfl [.agg (gc ((Ep.o m2).x)).toArray, .agg (gc ((Ep.o m2).y)).toArray] rfl (cE29 _) (.agg (gc (((Ep.o m2).x) * ((Ep.o m2).y))).toArray) (fun w hb => e_mul (hT.keep (Bs.kp_of hb)) _ _),
    fun L u => u_build u (gd0 rfl) 17 rfl 54 #[(0, (.tmp 8)), (1, (.tmp 10)), (2, (.tmp 11)), (3, (.tmp 16))] rfl [(0, .agg (gc ((Ep.o m2).x)).toArray), (1, .agg (gc ((Ep.o m2).y)).toArray), (2, .agg (gc (one)).toArray), (3, .agg (gc (((Ep.o m2).x) * ((Ep.o m2).y))).toArray)] rfl (gc ((Ep.o m2).x) ++ gc ((Ep.o m2).y) ++ gc (one) ++ gc (((Ep.o m2).x) * ((Ep.o m2).y))) (g_bX _ _ _ _),
    fun L u => u_store u (gd0 rfl) 54 (.tmp 2) (.tmp 17) rfl rfl rfl (vs := gc ((Ep.o m2).x) ++ gc ((Ep.o m2).y) ++ gc (one) ++ gc (((Ep.o m2).x) * ((Ep.o m2).y))) rfl rfl i54 (lk rfl) rfl _ rfl,
    trivial⟩ [(2, .ptr 2 0)] [(2, gc ((Ep.o m2).x) ++ gc ((Ep.o m2).y) ++ gc (one) ++ gc (((Ep.o m2).x) * ((Ep.o m2).y)))] ⟨rfl, trivial⟩ ⟨rfl, trivial⟩ rfl (fun a w h => ?_)
  refine wp_ret ?_
  refine ret_row h 2 54 rfl (lk rfl) 2 rfl (gc ((Ep.o m2).x) ++ gc ((Ep.o m2).y) ++ gc (one) ++ gc (((Ep.o m2).x) * ((Ep.o m2).y))) rfl _ Tryd.underlying54 rfl i54 ?_
  exact ⟨by rw [xl_o, hone], h.grows⟩
set_option maxRecDepth 100000 in
set_option maxHeartbeats 4000000 in
theorem e_lift_on {w : World} (hT : Tab w) {x y : Fin m2} (hq : y * y - x * x = 1 + ed * (x * x * (y * y))) : Calls Tryd.prog 41 [.agg (gc (x) ++ gc (y) ++ [Value.bool false]).toArray].toArray w fun e w' => e = .returned (.agg (xc (xlift ⟨x, y⟩)).toArray) ∧ Below w.heap.size w w' := by
  obtain ⟨one, hone⟩ : ∃ z : Fin m2, z = 1 := ⟨_, rfl⟩
  refine enter (args := [.agg (gc (x) ++ gc (y) ++ [Value.bool false]).toArray]) Tryd.func41 rfl 18 rfl (lk rfl) (fun a h => ?_)
  refine go_region h hm [eN 1 (gc (x) ++ gc (y) ++ [Value.bool false]), eN 2 (nz ++ nz ++ nz ++ nz)] (by kernel_rfl) ⟨
    fun L u => u_box u (gd0 rfl) 26 (.tmp 0) rfl 1 rfl rfl rfl _ rfl,
    fun L u => u_alloc u (gd0 rfl) 54 rfl 2 rfl rfl z54 _ rfl,
    trivial⟩ [(1, .ptr 1 0), (2, .ptr 2 0)] [(1, gc (x) ++ gc (y) ++ [Value.bool false]), (2, nz ++ nz ++ nz ++ nz)] ⟨rfl, rfl, trivial⟩ ⟨rfl, rfl, trivial⟩ rfl (fun a w h => ?_)
  refine wp_seq ?_
  refine go_region h hm [eS 3 (.val (.agg (gc (x) ++ gc (y) ++ [Value.bool false]).toArray)), eS 4 (.val (Value.bool true)), eS 5 (.val (Value.bool false))] (by kernel_rfl) ⟨
    fun L u => u_load u (gd0 rfl) 3 rfl 26 (.tmp 1) rfl rfl rfl Tryd.underlying26 rfl i26 (lk rfl) _ rfl,
    fun L u => u_call u (gd0 rfl) 4 rfl 10 #[(.tmp 3)] #[26] rfl [.agg (gc (x) ++ gc (y) ++ [Value.bool false]).toArray] rfl (cE10 _) (Value.bool true) (fun w hb => by have f := e_formed_at (hT.keep (Bs.kp_of hb)) x y; rw [decide_eq_true hq] at f; exact f),
    fun L u => u_not u (gd0 rfl) 5 rfl 4 (.tmp 4) rfl rfl _ rfl,
    trivial⟩ [(1, .ptr 1 0), (2, .ptr 2 0), (5, .val (Value.bool false))] [(1, gc (x) ++ gc (y) ++ [Value.bool false]), (2, nz ++ nz ++ nz ++ nz)] ⟨rfl, rfl, rfl, trivial⟩ ⟨rfl, rfl, trivial⟩ rfl (fun a w h => ?_)
  refine go_cond h false rfl (fun ht => ?_) (fun hf => ?_)
  case refine_1 => cases ht
  refine wp_skip ?_
  refine then_norm ?_
  refine go_region h hm [eS 7 (.ptr 1 0), eS 8 (.val (.agg (gc (x)).toArray)), eS 9 (.ptr 1 4), eS 10 (.val (.agg (gc (y)).toArray)), eS 11 (.val (.agg (gc (one)).toArray)), eS 12 (.ptr 1 0), eS 13 (.val (.agg (gc (x)).toArray)), eS 14 (.ptr 1 4), eS 15 (.val (.agg (gc (y)).toArray)), eS 16 (.val (.agg (gc (x * y)).toArray)), eS 17 (.val (.agg (gc (x) ++ gc (y) ++ gc (one) ++ gc (x * y)).toArray)), eM 2 (gc (x) ++ gc (y) ++ gc (one) ++ gc (x * y))] (by kernel_rfl) ⟨
    fun L u => u_field u (gd0 rfl) 7 rfl 26 (.tmp 1) 0 rfl rfl rfl Tryd.underlying26 rfl i24 _ rfl,
    fun L u => u_load u (gd0 rfl) 8 rfl 24 (.tmp 7) rfl rfl rfl Tryd.underlying24 rfl i24 (lk rfl) _ rfl,
    fun L u => u_field u (gd0 rfl) 9 rfl 26 (.tmp 1) 1 rfl rfl rfl Tryd.underlying26 rfl i24 _ rfl,
    fun L u => u_load u (gd0 rfl) 10 rfl 24 (.tmp 9) rfl rfl rfl Tryd.underlying24 rfl i24 (lk rfl) _ rfl,
    fun L u => u_call u (gd0 rfl) 11 rfl 32 #[] #[] rfl [] rfl (cE32 _) (.agg (gc (one)).toArray) (fun w hb => e_one hone),
    fun L u => u_field u (gd0 rfl) 12 rfl 26 (.tmp 1) 0 rfl rfl rfl Tryd.underlying26 rfl i24 _ rfl,
    fun L u => u_load u (gd0 rfl) 13 rfl 24 (.tmp 12) rfl rfl rfl Tryd.underlying24 rfl i24 (lk rfl) _ rfl,
    fun L u => u_field u (gd0 rfl) 14 rfl 26 (.tmp 1) 1 rfl rfl rfl Tryd.underlying26 rfl i24 _ rfl,
    fun L u => u_load u (gd0 rfl) 15 rfl 24 (.tmp 14) rfl rfl rfl Tryd.underlying24 rfl i24 (lk rfl) _ rfl,
    fun L u => u_call u (gd0 rfl) 16 rfl 29 #[(.tmp 13), (.tmp 15)] #[24, 24] rfl [.agg (gc (x)).toArray, .agg (gc (y)).toArray] rfl (cE29 _) (.agg (gc (x * y)).toArray) (fun w hb => e_mul (hT.keep (Bs.kp_of hb)) _ _),
    fun L u => u_build u (gd0 rfl) 17 rfl 54 #[(0, (.tmp 8)), (1, (.tmp 10)), (2, (.tmp 11)), (3, (.tmp 16))] rfl [(0, .agg (gc (x)).toArray), (1, .agg (gc (y)).toArray), (2, .agg (gc (one)).toArray), (3, .agg (gc (x * y)).toArray)] rfl (gc (x) ++ gc (y) ++ gc (one) ++ gc (x * y)) (g_bX _ _ _ _),
    fun L u => u_store u (gd0 rfl) 54 (.tmp 2) (.tmp 17) rfl rfl rfl (vs := gc (x) ++ gc (y) ++ gc (one) ++ gc (x * y)) rfl rfl i54 (lk rfl) rfl _ rfl,
    trivial⟩ [(2, .ptr 2 0)] [(2, gc (x) ++ gc (y) ++ gc (one) ++ gc (x * y))] ⟨rfl, trivial⟩ ⟨rfl, trivial⟩ rfl (fun a w h => ?_)
  refine wp_ret ?_
  refine ret_row h 2 54 rfl (lk rfl) 2 rfl (gc (x) ++ gc (y) ++ gc (one) ++ gc (x * y)) rfl _ Tryd.underlying54 rfl i54 ?_
  exact ⟨by rw [xl_at, hone], h.grows⟩
theorem e_lift {w : World} (hT : Tab w) {X Y : Int} (hX : Num X) (hY : Num Y) (t : Bool) : Calls Tryd.prog 41 [.agg (rc X Y t).toArray].toArray w fun e w' => e = .returned (.agg (xc (xlift (rpE X Y t))).toArray) ∧ Below w.heap.size w w' := by
  by_cases h : fmdE X Y t = false
  · rw [fmdE_rp h]
    cases t with
    | true => exact e_lift_none hT hX hY h
    | false => exact e_lift_off hT hX hY h
  · have h2 : fmdE X Y t = true := by simpa using h
    have hd : t = false ∧ X < md 2 ∧ Y < md 2 ∧ (kc Y : Fin m2) * kc Y - kc X * kc X = 1 + ed * (kc X * kc X * (kc Y * kc Y)) := of_decide_eq_true h2
    rw [show rpE X Y t = ⟨kc X, kc Y⟩ from if_pos hd, hd.1, rc, nc_gc hX.lo hd.2.1, nc_gc hY.lo hd.2.2.1]
    exact e_lift_on hT hd.2.2.2
theorem e_lift_o {w : World} (hT : Tab w) : Calls Tryd.prog 41 [.agg (pcE (Ep.o m2)).toArray].toArray w fun e w' => e = .returned (.agg (xc (xlift (Ep.o m2))).toArray) ∧ Below w.heap.size w w' := by
  exact e_lift_on hT (Ep.o_on ed)
set_option maxRecDepth 100000 in
set_option maxHeartbeats 4000000 in
theorem e_drop {w : World} (hT : Tab w) (x y z t : Fin m2) : Calls Tryd.prog 39 [.agg (gc (x) ++ gc (y) ++ gc (z) ++ gc (t)).toArray].toArray w fun e w' => e = .returned (.agg (pcE (xdrop ⟨x, y, z, t⟩)).toArray) ∧ Below w.heap.size w w' := by
  refine enter (args := [.agg (gc (x) ++ gc (y) ++ gc (z) ++ gc (t)).toArray]) Tryd.func39 rfl 16 rfl (lk rfl) (fun a h => ?_)
  refine go_region h hm [eN 1 (gc (x) ++ gc (y) ++ gc (z) ++ gc (t)), eN 2 (nz ++ nz ++ [Value.bool false])] (by kernel_rfl) ⟨
    fun L u => u_box u (gd0 rfl) 54 (.tmp 0) rfl 1 rfl rfl rfl _ rfl,
    fun L u => u_alloc u (gd0 rfl) 26 rfl 2 rfl rfl z26 _ rfl,
    trivial⟩ [(1, .ptr 1 0), (2, .ptr 2 0)] [(1, gc (x) ++ gc (y) ++ gc (z) ++ gc (t)), (2, nz ++ nz ++ [Value.bool false])] ⟨rfl, rfl, trivial⟩ ⟨rfl, rfl, trivial⟩ rfl (fun a w h => ?_)
  refine go_region h hm [eS 4 (.ptr 1 8), eS 5 (.val (.agg (gc (z)).toArray)), eS 6 (.val (.agg (gc (fiv (z))).toArray)), eN 3 (nz), eM 3 (gc (fiv (z)))] (by kernel_rfl) ⟨
    fun L u => u_field u (gd0 rfl) 4 rfl 54 (.tmp 1) 2 rfl rfl rfl Tryd.underlying54 rfl i24 _ rfl,
    fun L u => u_load u (gd0 rfl) 5 rfl 24 (.tmp 4) rfl rfl rfl Tryd.underlying24 rfl i24 (lk rfl) _ rfl,
    fun L u => u_call u (gd0 rfl) 6 rfl 58 #[(.const (.int .i64 2)), (.tmp 5)] #[3, 24] rfl [(Value.int IntKind.i64 2), .agg (gc (z)).toArray] rfl (cE58 _) (.agg (gc (fiv (z))).toArray) (fun w hb => d_inv (hT.keep (Bs.kp_of hb)) _),
    fun L u => u_alloc u (gd0 rfl) 24 rfl 3 rfl rfl z24 _ rfl,
    fun L u => u_store u (gd0 rfl) 24 (.tmp 3) (.tmp 6) rfl rfl rfl (vs := gc (fiv (z))) rfl rfl i24 (lk rfl) rfl _ rfl,
    trivial⟩ [(1, .ptr 1 0), (2, .ptr 2 0), (3, .ptr 3 0)] [(1, gc (x) ++ gc (y) ++ gc (z) ++ gc (t)), (2, nz ++ nz ++ [Value.bool false]), (3, gc (fiv (z)))] ⟨rfl, rfl, rfl, trivial⟩ ⟨rfl, rfl, rfl, trivial⟩ rfl (fun a w h => ?_)
  refine go_region h hm [eS 7 (.ptr 1 0), eS 8 (.val (.agg (gc (x)).toArray)), eS 9 (.val (.agg (gc (fiv (z))).toArray)), eS 10 (.val (.agg (gc (x * (fiv (z)))).toArray)), eS 11 (.ptr 1 4), eS 12 (.val (.agg (gc (y)).toArray)), eS 13 (.val (.agg (gc (fiv (z))).toArray)), eS 14 (.val (.agg (gc (y * (fiv (z)))).toArray)), eS 15 (.val (.agg (gc (x * (fiv (z))) ++ gc (y * (fiv (z))) ++ [Value.bool false]).toArray)), eM 2 (gc (x * (fiv (z))) ++ gc (y * (fiv (z))) ++ [Value.bool false])] (by kernel_rfl) ⟨
    fun L u => u_field u (gd0 rfl) 7 rfl 54 (.tmp 1) 0 rfl rfl rfl Tryd.underlying54 rfl i24 _ rfl,
    fun L u => u_load u (gd0 rfl) 8 rfl 24 (.tmp 7) rfl rfl rfl Tryd.underlying24 rfl i24 (lk rfl) _ rfl,
    fun L u => u_load u (gd0 rfl) 9 rfl 24 (.tmp 3) rfl rfl rfl Tryd.underlying24 rfl i24 (lk rfl) _ rfl,
    fun L u => u_call u (gd0 rfl) 10 rfl 29 #[(.tmp 8), (.tmp 9)] #[24, 24] rfl [.agg (gc (x)).toArray, .agg (gc (fiv (z))).toArray] rfl (cE29 _) (.agg (gc (x * (fiv (z)))).toArray) (fun w hb => e_mul (hT.keep (Bs.kp_of hb)) _ _),
    fun L u => u_field u (gd0 rfl) 11 rfl 54 (.tmp 1) 1 rfl rfl rfl Tryd.underlying54 rfl i24 _ rfl,
    fun L u => u_load u (gd0 rfl) 12 rfl 24 (.tmp 11) rfl rfl rfl Tryd.underlying24 rfl i24 (lk rfl) _ rfl,
    fun L u => u_load u (gd0 rfl) 13 rfl 24 (.tmp 3) rfl rfl rfl Tryd.underlying24 rfl i24 (lk rfl) _ rfl,
    fun L u => u_call u (gd0 rfl) 14 rfl 29 #[(.tmp 12), (.tmp 13)] #[24, 24] rfl [.agg (gc (y)).toArray, .agg (gc (fiv (z))).toArray] rfl (cE29 _) (.agg (gc (y * (fiv (z)))).toArray) (fun w hb => e_mul (hT.keep (Bs.kp_of hb)) _ _),
    fun L u => u_build u (gd0 rfl) 15 rfl 26 #[(0, (.tmp 10)), (1, (.tmp 14))] rfl [(0, .agg (gc (x * (fiv (z)))).toArray), (1, .agg (gc (y * (fiv (z)))).toArray)] rfl (gc (x * (fiv (z))) ++ gc (y * (fiv (z))) ++ [Value.bool false]) (g_bP _ _),
    fun L u => u_store u (gd0 rfl) 26 (.tmp 2) (.tmp 15) rfl rfl rfl (vs := gc (x * (fiv (z))) ++ gc (y * (fiv (z))) ++ [Value.bool false]) rfl rfl i26 (lk rfl) rfl _ rfl,
    trivial⟩ [(2, .ptr 2 0)] [(2, gc (x * (fiv (z))) ++ gc (y * (fiv (z))) ++ [Value.bool false])] ⟨rfl, trivial⟩ ⟨rfl, trivial⟩ rfl (fun a w h => ?_)
  refine wp_ret ?_
  refine ret_row h 2 26 rfl (lk rfl) 2 rfl (gc (x * (fiv (z))) ++ gc (y * (fiv (z))) ++ [Value.bool false]) rfl _ Tryd.underlying26 rfl i26 ?_
  exact ⟨rfl, h.grows⟩
theorem e_bit {w : World} (k i : Nat) (hi : i < 256) : Calls Tryd.prog 52 [.agg (nc (k : Int)).toArray, .int .i64 (i : Int)].toArray w fun e w' => e = .returned (.int .i64 ((k / 2 ^ i % 2 : Nat) : Int)) ∧ Below w.heap.size w w' := by
  have h := bit_any (k : Int) (i : Int) w
  have e : bt (k : Int) (i : Int) = ((k / 2 ^ i % 2 : Nat) : Int) := by
    unfold bt
    rw [if_pos (by omega), Int.toNat_natCast, Int.natCast_emod, Int.natCast_ediv, Int.natCast_pow]
    rfl
  rw [e] at h
  exact h
set_option maxRecDepth 100000 in
set_option maxHeartbeats 4000000 in
theorem e_times {w : World} (hT : Tab w) (k : Nat) (x y z t : Fin m2) : Calls Tryd.prog 45 [.agg (nc ((k : Int))).toArray, .agg (gc (x) ++ gc (y) ++ gc (z) ++ gc (t)).toArray].toArray w fun e w' => e = .returned (.agg (xc (xm xadd k ⟨x, y, z, t⟩ (256))).toArray) ∧ Below w.heap.size w w' := by
  refine enter (args := [.agg (nc ((k : Int))).toArray, .agg (gc (x) ++ gc (y) ++ gc (z) ++ gc (t)).toArray]) Tryd.func45 rfl 24 rfl (lk rfl) (fun a h => ?_)
  refine go_region h hm [eN 2 (nc ((k : Int))), eN 3 (gc (x) ++ gc (y) ++ gc (z) ++ gc (t)), eN 4 (nz ++ nz ++ nz ++ nz)] (by kernel_rfl) ⟨
    fun L u => u_box u (gd0 rfl) 24 (.tmp 0) rfl 2 rfl rfl rfl _ rfl,
    fun L u => u_box u (gd0 rfl) 54 (.tmp 1) rfl 3 rfl rfl rfl _ rfl,
    fun L u => u_alloc u (gd0 rfl) 54 rfl 4 rfl rfl z54 _ rfl,
    trivial⟩ [(2, .ptr 2 0), (3, .ptr 3 0), (4, .ptr 4 0)] [(2, nc ((k : Int))), (3, gc (x) ++ gc (y) ++ gc (z) ++ gc (t)), (4, nz ++ nz ++ nz ++ nz)] ⟨rfl, rfl, rfl, trivial⟩ ⟨rfl, rfl, rfl, trivial⟩ rfl (fun a w h => ?_)
  refine go_region h hm [eS 7 (.val (.agg (pcE (Ep.o m2)).toArray)), eS 8 (.val (.agg (gc ((xlift (Ep.o m2)).x) ++ gc ((xlift (Ep.o m2)).y) ++ gc ((xlift (Ep.o m2)).z) ++ gc ((xlift (Ep.o m2)).t)).toArray)), eN 5 (nz ++ nz ++ nz ++ nz), eM 5 (gc ((xlift (Ep.o m2)).x) ++ gc ((xlift (Ep.o m2)).y) ++ gc ((xlift (Ep.o m2)).z) ++ gc ((xlift (Ep.o m2)).t))] (by kernel_rfl) ⟨
    fun L u => u_call u (gd0 rfl) 7 rfl 51 #[] #[] rfl [] rfl (cE51 _) (.agg (pcE (Ep.o m2)).toArray) (fun w hb => e_neutral),
    fun L u => u_call u (gd0 rfl) 8 rfl 41 #[(.tmp 7)] #[26] rfl [.agg (pcE (Ep.o m2)).toArray] rfl (cE41 _) (.agg (gc ((xlift (Ep.o m2)).x) ++ gc ((xlift (Ep.o m2)).y) ++ gc ((xlift (Ep.o m2)).z) ++ gc ((xlift (Ep.o m2)).t)).toArray) (fun w hb => e_lift_o (hT.keep (Bs.kp_of hb))),
    fun L u => u_alloc u (gd0 rfl) 54 rfl 5 rfl rfl z54 _ rfl,
    fun L u => u_store u (gd0 rfl) 54 (.tmp 5) (.tmp 8) rfl rfl rfl (vs := gc ((xlift (Ep.o m2)).x) ++ gc ((xlift (Ep.o m2)).y) ++ gc ((xlift (Ep.o m2)).z) ++ gc ((xlift (Ep.o m2)).t)) rfl rfl i54 (lk rfl) rfl _ rfl,
    trivial⟩ [(2, .ptr 2 0), (3, .ptr 3 0), (4, .ptr 4 0), (5, .ptr 5 0)] [(2, nc ((k : Int))), (3, gc (x) ++ gc (y) ++ gc (z) ++ gc (t)), (4, nz ++ nz ++ nz ++ nz), (5, gc ((xlift (Ep.o m2)).x) ++ gc ((xlift (Ep.o m2)).y) ++ gc ((xlift (Ep.o m2)).z) ++ gc ((xlift (Ep.o m2)).t))] ⟨rfl, rfl, rfl, rfl, trivial⟩ ⟨rfl, rfl, rfl, rfl, trivial⟩ rfl (fun a w h => ?_)
  refine wp_seq ?_
  refine go_region h hm [eS 6 (.val ((Value.int IntKind.i64 255)))] (by kernel_rfl) ⟨
    fun L u => u_move u (gd0 rfl) 6 rfl (.const (.int .i64 255)) (Or.inr rfl) rfl,
    trivial⟩ [(2, .ptr 2 0), (3, .ptr 3 0), (4, .ptr 4 0), (5, .ptr 5 0), (6, .val ((Value.int IntKind.i64 255)))] [(2, nc ((k : Int))), (3, gc (x) ++ gc (y) ++ gc (z) ++ gc (t)), (4, nz ++ nz ++ nz ++ nz), (5, gc ((xlift (Ep.o m2)).x) ++ gc ((xlift (Ep.o m2)).y) ++ gc ((xlift (Ep.o m2)).z) ++ gc ((xlift (Ep.o m2)).t))] ⟨rfl, rfl, rfl, rfl, rfl, trivial⟩ ⟨rfl, rfl, rfl, rfl, trivial⟩ rfl (fun a w h => ?_)
  refine wp_block ?_
  refine go_loop (fun (j : Nat) => SS.mk' [(2, .ptr 2 0), (3, .ptr 3 0), (4, .ptr 4 0), (5, .ptr 5 0), (6, .val (Value.int .i64 (255 - ((j : Nat) : Int))))] [(2, nc ((k : Int))), (3, gc (x) ++ gc (y) ++ gc (z) ++ gc (t)), (4, nz ++ nz ++ nz ++ nz), (5, gc ((xm xadd k ⟨x, y, z, t⟩ (j)).x) ++ gc ((xm xadd k ⟨x, y, z, t⟩ (j)).y) ++ gc ((xm xadd k ⟨x, y, z, t⟩ (j)).z) ++ gc ((xm xadd k ⟨x, y, z, t⟩ (j)).t))]) (fun j => j ≤ 256) (fun j => 256 - j) (i := 0) (h.keep [(2, .ptr 2 0), (3, .ptr 3 0), (4, .ptr 4 0), (5, .ptr 5 0), (6, .val (Value.int .i64 (255 - ((0 : Nat) : Int))))] [(2, nc ((k : Int))), (3, gc (x) ++ gc (y) ++ gc (z) ++ gc (t)), (4, nz ++ nz ++ nz ++ nz), (5, gc ((xm xadd k ⟨x, y, z, t⟩ (0)).x) ++ gc ((xm xadd k ⟨x, y, z, t⟩ (0)).y) ++ gc ((xm xadd k ⟨x, y, z, t⟩ (0)).z) ++ gc ((xm xadd k ⟨x, y, z, t⟩ (0)).t))] ⟨rfl, rfl, rfl, rfl, rfl, trivial⟩ ⟨rfl, rfl, rfl, rfl, trivial⟩ rfl) (Nat.zero_le _) (fun j a w hG h => ?_)
  by_cases hs : j < 256
  · skip
    by_cases hb : k / 2 ^ (255 - j) % 2 = 1
    · skip
      refine wp_seq ?_
      refine go_region h hm [eS 9 (.val (Value.int .i64 (255 - ((j : Nat) : Int)))), eS 10 (.val (Value.bool true))] (by kernel_rfl) ⟨
        fun L u => u_move u (gd0 rfl) 9 rfl (.tmp 6) (Or.inl rfl) rfl,
        fun L u => u_bin u (gd0 rfl) 10 rfl .geq 3 3 (.tmp 9) (.const (.int .i64 0)) rfl rfl rfl (eqg_int _ _ _ _ _ _ _ _) (Value.bool true) (yes_of (fun w => i_geq _ _ _ _ w) (by omega)),
        trivial⟩ [(2, .ptr 2 0), (3, .ptr 3 0), (4, .ptr 4 0), (5, .ptr 5 0), (6, .val (Value.int .i64 (255 - ((j : Nat) : Int)))), (10, .val (Value.bool true))] [(2, nc ((k : Int))), (3, gc (x) ++ gc (y) ++ gc (z) ++ gc (t)), (4, nz ++ nz ++ nz ++ nz), (5, gc ((xm xadd k ⟨x, y, z, t⟩ (j)).x) ++ gc ((xm xadd k ⟨x, y, z, t⟩ (j)).y) ++ gc ((xm xadd k ⟨x, y, z, t⟩ (j)).z) ++ gc ((xm xadd k ⟨x, y, z, t⟩ (j)).t))] ⟨rfl, rfl, rfl, rfl, rfl, rfl, trivial⟩ ⟨rfl, rfl, rfl, rfl, trivial⟩ rfl (fun a w h => ?_)
      refine go_cond h true rfl (fun ht => ?_) (fun hf => ?_)
      case refine_2 => cases hf
      refine wp_skip ?_
      refine then_norm ?_
      refine wp_seq ?_
      refine wp_block ?_
      refine go_region h hm [eS 13 (.val (.agg (gc ((xm xadd k ⟨x, y, z, t⟩ (j)).x) ++ gc ((xm xadd k ⟨x, y, z, t⟩ (j)).y) ++ gc ((xm xadd k ⟨x, y, z, t⟩ (j)).z) ++ gc ((xm xadd k ⟨x, y, z, t⟩ (j)).t)).toArray)), eS 14 (.val (.agg (gc ((xm xadd k ⟨x, y, z, t⟩ (j)).x) ++ gc ((xm xadd k ⟨x, y, z, t⟩ (j)).y) ++ gc ((xm xadd k ⟨x, y, z, t⟩ (j)).z) ++ gc ((xm xadd k ⟨x, y, z, t⟩ (j)).t)).toArray)), eS 15 (.val (.agg (gc ((xadd (xm xadd k ⟨x, y, z, t⟩ (j)) (xm xadd k ⟨x, y, z, t⟩ (j))).x) ++ gc ((xadd (xm xadd k ⟨x, y, z, t⟩ (j)) (xm xadd k ⟨x, y, z, t⟩ (j))).y) ++ gc ((xadd (xm xadd k ⟨x, y, z, t⟩ (j)) (xm xadd k ⟨x, y, z, t⟩ (j))).z) ++ gc ((xadd (xm xadd k ⟨x, y, z, t⟩ (j)) (xm xadd k ⟨x, y, z, t⟩ (j))).t)).toArray)), eM 5 (gc ((xadd (xm xadd k ⟨x, y, z, t⟩ (j)) (xm xadd k ⟨x, y, z, t⟩ (j))).x) ++ gc ((xadd (xm xadd k ⟨x, y, z, t⟩ (j)) (xm xadd k ⟨x, y, z, t⟩ (j))).y) ++ gc ((xadd (xm xadd k ⟨x, y, z, t⟩ (j)) (xm xadd k ⟨x, y, z, t⟩ (j))).z) ++ gc ((xadd (xm xadd k ⟨x, y, z, t⟩ (j)) (xm xadd k ⟨x, y, z, t⟩ (j))).t))] (by kernel_rfl) ⟨
        fun L u => u_load u (gd0 rfl) 13 rfl 54 (.tmp 5) rfl rfl rfl Tryd.underlying54 rfl i54 (lk rfl) _ rfl,
        fun L u => u_load u (gd0 rfl) 14 rfl 54 (.tmp 5) rfl rfl rfl Tryd.underlying54 rfl i54 (lk rfl) _ rfl,
        fun L u => u_call u (gd0 rfl) 15 rfl 40 #[(.tmp 13), (.tmp 14)] #[54, 54] rfl [.agg (gc ((xm xadd k ⟨x, y, z, t⟩ (j)).x) ++ gc ((xm xadd k ⟨x, y, z, t⟩ (j)).y) ++ gc ((xm xadd k ⟨x, y, z, t⟩ (j)).z) ++ gc ((xm xadd k ⟨x, y, z, t⟩ (j)).t)).toArray, .agg (gc ((xm xadd k ⟨x, y, z, t⟩ (j)).x) ++ gc ((xm xadd k ⟨x, y, z, t⟩ (j)).y) ++ gc ((xm xadd k ⟨x, y, z, t⟩ (j)).z) ++ gc ((xm xadd k ⟨x, y, z, t⟩ (j)).t)).toArray] rfl (cE40 _) (.agg (gc ((xadd (xm xadd k ⟨x, y, z, t⟩ (j)) (xm xadd k ⟨x, y, z, t⟩ (j))).x) ++ gc ((xadd (xm xadd k ⟨x, y, z, t⟩ (j)) (xm xadd k ⟨x, y, z, t⟩ (j))).y) ++ gc ((xadd (xm xadd k ⟨x, y, z, t⟩ (j)) (xm xadd k ⟨x, y, z, t⟩ (j))).z) ++ gc ((xadd (xm xadd k ⟨x, y, z, t⟩ (j)) (xm xadd k ⟨x, y, z, t⟩ (j))).t)).toArray) (fun w hb => e_plus (hT.keep (Bs.kp_of hb)) _ _ _ _ _ _ _ _),
        fun L u => u_store u (gd0 rfl) 54 (.tmp 5) (.tmp 15) rfl rfl rfl (vs := gc ((xadd (xm xadd k ⟨x, y, z, t⟩ (j)) (xm xadd k ⟨x, y, z, t⟩ (j))).x) ++ gc ((xadd (xm xadd k ⟨x, y, z, t⟩ (j)) (xm xadd k ⟨x, y, z, t⟩ (j))).y) ++ gc ((xadd (xm xadd k ⟨x, y, z, t⟩ (j)) (xm xadd k ⟨x, y, z, t⟩ (j))).z) ++ gc ((xadd (xm xadd k ⟨x, y, z, t⟩ (j)) (xm xadd k ⟨x, y, z, t⟩ (j))).t)) rfl rfl i54 (lk rfl) rfl _ rfl,
        trivial⟩ [(2, .ptr 2 0), (3, .ptr 3 0), (4, .ptr 4 0), (5, .ptr 5 0), (6, .val (Value.int .i64 (255 - ((j : Nat) : Int))))] [(2, nc ((k : Int))), (3, gc (x) ++ gc (y) ++ gc (z) ++ gc (t)), (4, nz ++ nz ++ nz ++ nz), (5, gc ((xadd (xm xadd k ⟨x, y, z, t⟩ (j)) (xm xadd k ⟨x, y, z, t⟩ (j))).x) ++ gc ((xadd (xm xadd k ⟨x, y, z, t⟩ (j)) (xm xadd k ⟨x, y, z, t⟩ (j))).y) ++ gc ((xadd (xm xadd k ⟨x, y, z, t⟩ (j)) (xm xadd k ⟨x, y, z, t⟩ (j))).z) ++ gc ((xadd (xm xadd k ⟨x, y, z, t⟩ (j)) (xm xadd k ⟨x, y, z, t⟩ (j))).t))] ⟨rfl, rfl, rfl, rfl, rfl, trivial⟩ ⟨rfl, rfl, rfl, rfl, trivial⟩ rfl (fun a w h => ?_)
      refine go_region h hm [eS 16 (.val (.agg (nc ((k : Int))).toArray)), eS 17 (.val (Value.int .i64 (255 - ((j : Nat) : Int)))), eS 18 (.val (Value.int .i64 ((k / 2 ^ (255 - j) % 2 : Nat) : Int))), eS 19 (.val (Value.bool true))] (by kernel_rfl) ⟨
        fun L u => u_load u (gd0 rfl) 16 rfl 24 (.tmp 2) rfl rfl rfl Tryd.underlying24 rfl i24 (lk rfl) _ rfl,
        fun L u => u_move u (gd0 rfl) 17 rfl (.tmp 6) (Or.inl rfl) rfl,
        fun L u => u_call u (gd0 rfl) 18 rfl 52 #[(.tmp 16), (.tmp 17)] #[24, 3] rfl [.agg (nc ((k : Int))).toArray, Value.int .i64 (255 - ((j : Nat) : Int))] rfl (cE52 _) (Value.int .i64 ((k / 2 ^ (255 - j) % 2 : Nat) : Int)) (fun w hb => by have := e_bit (w := w) k (255 - j) (by omega); rw [show (((255 - j : Nat)) : Int) = 255 - (j : Int) by omega] at this; exact this),
        fun L u => u_bin u (gd0 rfl) 19 rfl .eql 3 3 (.tmp 18) (.const (.int .i64 1)) rfl rfl rfl (eqg_int _ _ _ _ _ _ _ _) (Value.bool true) (yes_of (fun w => i_eql _ _ _ _ w) (by omega)),
        trivial⟩ [(2, .ptr 2 0), (3, .ptr 3 0), (4, .ptr 4 0), (5, .ptr 5 0), (6, .val (Value.int .i64 (255 - ((j : Nat) : Int)))), (19, .val (Value.bool true))] [(2, nc ((k : Int))), (3, gc (x) ++ gc (y) ++ gc (z) ++ gc (t)), (4, nz ++ nz ++ nz ++ nz), (5, gc ((xadd (xm xadd k ⟨x, y, z, t⟩ (j)) (xm xadd k ⟨x, y, z, t⟩ (j))).x) ++ gc ((xadd (xm xadd k ⟨x, y, z, t⟩ (j)) (xm xadd k ⟨x, y, z, t⟩ (j))).y) ++ gc ((xadd (xm xadd k ⟨x, y, z, t⟩ (j)) (xm xadd k ⟨x, y, z, t⟩ (j))).z) ++ gc ((xadd (xm xadd k ⟨x, y, z, t⟩ (j)) (xm xadd k ⟨x, y, z, t⟩ (j))).t))] ⟨rfl, rfl, rfl, rfl, rfl, rfl, trivial⟩ ⟨rfl, rfl, rfl, rfl, trivial⟩ rfl (fun a w h => ?_)
      refine go_cond h true rfl (fun ht => ?_) (fun hf => ?_)
      case refine_2 => cases hf
      refine go_end h hm [eS 20 (.val (.agg (gc ((xadd (xm xadd k ⟨x, y, z, t⟩ (j)) (xm xadd k ⟨x, y, z, t⟩ (j))).x) ++ gc ((xadd (xm xadd k ⟨x, y, z, t⟩ (j)) (xm xadd k ⟨x, y, z, t⟩ (j))).y) ++ gc ((xadd (xm xadd k ⟨x, y, z, t⟩ (j)) (xm xadd k ⟨x, y, z, t⟩ (j))).z) ++ gc ((xadd (xm xadd k ⟨x, y, z, t⟩ (j)) (xm xadd k ⟨x, y, z, t⟩ (j))).t)).toArray)), eS 21 (.val (.agg (gc (x) ++ gc (y) ++ gc (z) ++ gc (t)).toArray)), eS 22 (.val (.agg (gc ((xadd (xadd (xm xadd k ⟨x, y, z, t⟩ (j)) (xm xadd k ⟨x, y, z, t⟩ (j))) (⟨x, y, z, t⟩)).x) ++ gc ((xadd (xadd (xm xadd k ⟨x, y, z, t⟩ (j)) (xm xadd k ⟨x, y, z, t⟩ (j))) (⟨x, y, z, t⟩)).y) ++ gc ((xadd (xadd (xm xadd k ⟨x, y, z, t⟩ (j)) (xm xadd k ⟨x, y, z, t⟩ (j))) (⟨x, y, z, t⟩)).z) ++ gc ((xadd (xadd (xm xadd k ⟨x, y, z, t⟩ (j)) (xm xadd k ⟨x, y, z, t⟩ (j))) (⟨x, y, z, t⟩)).t)).toArray)), eM 5 (gc ((xadd (xadd (xm xadd k ⟨x, y, z, t⟩ (j)) (xm xadd k ⟨x, y, z, t⟩ (j))) (⟨x, y, z, t⟩)).x) ++ gc ((xadd (xadd (xm xadd k ⟨x, y, z, t⟩ (j)) (xm xadd k ⟨x, y, z, t⟩ (j))) (⟨x, y, z, t⟩)).y) ++ gc ((xadd (xadd (xm xadd k ⟨x, y, z, t⟩ (j)) (xm xadd k ⟨x, y, z, t⟩ (j))) (⟨x, y, z, t⟩)).z) ++ gc ((xadd (xadd (xm xadd k ⟨x, y, z, t⟩ (j)) (xm xadd k ⟨x, y, z, t⟩ (j))) (⟨x, y, z, t⟩)).t))] (by kernel_rfl) ⟨
        fun L u => u_load u (gd0 rfl) 20 rfl 54 (.tmp 5) rfl rfl rfl Tryd.underlying54 rfl i54 (lk rfl) _ rfl,
        fun L u => u_load u (gd0 rfl) 21 rfl 54 (.tmp 3) rfl rfl rfl Tryd.underlying54 rfl i54 (lk rfl) _ rfl,
        fun L u => u_call u (gd0 rfl) 22 rfl 40 #[(.tmp 20), (.tmp 21)] #[54, 54] rfl [.agg (gc ((xadd (xm xadd k ⟨x, y, z, t⟩ (j)) (xm xadd k ⟨x, y, z, t⟩ (j))).x) ++ gc ((xadd (xm xadd k ⟨x, y, z, t⟩ (j)) (xm xadd k ⟨x, y, z, t⟩ (j))).y) ++ gc ((xadd (xm xadd k ⟨x, y, z, t⟩ (j)) (xm xadd k ⟨x, y, z, t⟩ (j))).z) ++ gc ((xadd (xm xadd k ⟨x, y, z, t⟩ (j)) (xm xadd k ⟨x, y, z, t⟩ (j))).t)).toArray, .agg (gc (x) ++ gc (y) ++ gc (z) ++ gc (t)).toArray] rfl (cE40 _) (.agg (gc ((xadd (xadd (xm xadd k ⟨x, y, z, t⟩ (j)) (xm xadd k ⟨x, y, z, t⟩ (j))) (⟨x, y, z, t⟩)).x) ++ gc ((xadd (xadd (xm xadd k ⟨x, y, z, t⟩ (j)) (xm xadd k ⟨x, y, z, t⟩ (j))) (⟨x, y, z, t⟩)).y) ++ gc ((xadd (xadd (xm xadd k ⟨x, y, z, t⟩ (j)) (xm xadd k ⟨x, y, z, t⟩ (j))) (⟨x, y, z, t⟩)).z) ++ gc ((xadd (xadd (xm xadd k ⟨x, y, z, t⟩ (j)) (xm xadd k ⟨x, y, z, t⟩ (j))) (⟨x, y, z, t⟩)).t)).toArray) (fun w hb => e_plus (hT.keep (Bs.kp_of hb)) _ _ _ _ _ _ _ _),
        fun L u => u_store u (gd0 rfl) 54 (.tmp 5) (.tmp 22) rfl rfl rfl (vs := gc ((xadd (xadd (xm xadd k ⟨x, y, z, t⟩ (j)) (xm xadd k ⟨x, y, z, t⟩ (j))) (⟨x, y, z, t⟩)).x) ++ gc ((xadd (xadd (xm xadd k ⟨x, y, z, t⟩ (j)) (xm xadd k ⟨x, y, z, t⟩ (j))) (⟨x, y, z, t⟩)).y) ++ gc ((xadd (xadd (xm xadd k ⟨x, y, z, t⟩ (j)) (xm xadd k ⟨x, y, z, t⟩ (j))) (⟨x, y, z, t⟩)).z) ++ gc ((xadd (xadd (xm xadd k ⟨x, y, z, t⟩ (j)) (xm xadd k ⟨x, y, z, t⟩ (j))) (⟨x, y, z, t⟩)).t)) rfl rfl i54 (lk rfl) rfl _ rfl,
        trivial⟩ [(2, .ptr 2 0), (3, .ptr 3 0), (4, .ptr 4 0), (5, .ptr 5 0), (6, .val (Value.int .i64 (255 - ((j : Nat) : Int))))] [(2, nc ((k : Int))), (3, gc (x) ++ gc (y) ++ gc (z) ++ gc (t)), (4, nz ++ nz ++ nz ++ nz), (5, gc ((xadd (xadd (xm xadd k ⟨x, y, z, t⟩ (j)) (xm xadd k ⟨x, y, z, t⟩ (j))) (⟨x, y, z, t⟩)).x) ++ gc ((xadd (xadd (xm xadd k ⟨x, y, z, t⟩ (j)) (xm xadd k ⟨x, y, z, t⟩ (j))) (⟨x, y, z, t⟩)).y) ++ gc ((xadd (xadd (xm xadd k ⟨x, y, z, t⟩ (j)) (xm xadd k ⟨x, y, z, t⟩ (j))) (⟨x, y, z, t⟩)).z) ++ gc ((xadd (xadd (xm xadd k ⟨x, y, z, t⟩ (j)) (xm xadd k ⟨x, y, z, t⟩ (j))) (⟨x, y, z, t⟩)).t))] ⟨rfl, rfl, rfl, rfl, rfl, trivial⟩ ⟨rfl, rfl, rfl, rfl, trivial⟩ rfl (fun a w h => ?_)
      refine blk_norm ?_
      refine then_norm ?_
      refine go_end h hm [eS 11 (.val (Value.int .i64 (255 - ((j : Nat) : Int)))), eS 12 (.val (Value.int .i64 (255 - ((j + 1 : Nat) : Int)))), eS 6 (.val (Value.int .i64 (255 - ((j + 1 : Nat) : Int))))] (by kernel_rfl) ⟨
        fun L u => u_move u (gd0 rfl) 11 rfl (.tmp 6) (Or.inl rfl) rfl,
        fun L u => u_bin u (gd0 rfl) 12 rfl .sub 3 3 (.tmp 11) (.const (.int .i64 1)) rfl rfl rfl (eqg_int _ _ _ _ _ _ _ _) (Value.int .i64 (255 - ((j + 1 : Nat) : Int))) (fun w => i_sub _ _ _ _ (by omega) (by omega) w),
        fun L u => u_move u (gd0 rfl) 6 rfl (.tmp 12) (Or.inr rfl) rfl,
        trivial⟩ [(2, .ptr 2 0), (3, .ptr 3 0), (4, .ptr 4 0), (5, .ptr 5 0), (6, .val (Value.int .i64 (255 - ((j + 1 : Nat) : Int))))] [(2, nc ((k : Int))), (3, gc (x) ++ gc (y) ++ gc (z) ++ gc (t)), (4, nz ++ nz ++ nz ++ nz), (5, gc ((xadd (xadd (xm xadd k ⟨x, y, z, t⟩ (j)) (xm xadd k ⟨x, y, z, t⟩ (j))) (⟨x, y, z, t⟩)).x) ++ gc ((xadd (xadd (xm xadd k ⟨x, y, z, t⟩ (j)) (xm xadd k ⟨x, y, z, t⟩ (j))) (⟨x, y, z, t⟩)).y) ++ gc ((xadd (xadd (xm xadd k ⟨x, y, z, t⟩ (j)) (xm xadd k ⟨x, y, z, t⟩ (j))) (⟨x, y, z, t⟩)).z) ++ gc ((xadd (xadd (xm xadd k ⟨x, y, z, t⟩ (j)) (xm xadd k ⟨x, y, z, t⟩ (j))) (⟨x, y, z, t⟩)).t))] ⟨rfl, rfl, rfl, rfl, rfl, trivial⟩ ⟨rfl, rfl, rfl, rfl, trivial⟩ rfl (fun a w h => ?_)
      refine then_norm ?_
      exact ⟨j + 1, (by omega), (by omega), h.keep [(2, .ptr 2 0), (3, .ptr 3 0), (4, .ptr 4 0), (5, .ptr 5 0), (6, .val (Value.int .i64 (255 - ((j + 1 : Nat) : Int))))] [(2, nc ((k : Int))), (3, gc (x) ++ gc (y) ++ gc (z) ++ gc (t)), (4, nz ++ nz ++ nz ++ nz), (5, gc ((xm xadd k ⟨x, y, z, t⟩ (j + 1)).x) ++ gc ((xm xadd k ⟨x, y, z, t⟩ (j + 1)).y) ++ gc ((xm xadd k ⟨x, y, z, t⟩ (j + 1)).z) ++ gc ((xm xadd k ⟨x, y, z, t⟩ (j + 1)).t))] ⟨rfl, rfl, rfl, rfl, rfl, trivial⟩ ⟨rfl, rfl, rfl, (congrArg (fun p : X4 => some (gc p.x ++ gc p.y ++ gc p.z ++ gc p.t)) (show xm xadd k ⟨x, y, z, t⟩ (j + 1) = _ from if_pos hb).symm), trivial⟩ rfl⟩
    · skip
      refine wp_seq ?_
      refine go_region h hm [eS 9 (.val (Value.int .i64 (255 - ((j : Nat) : Int)))), eS 10 (.val (Value.bool true))] (by kernel_rfl) ⟨
        fun L u => u_move u (gd0 rfl) 9 rfl (.tmp 6) (Or.inl rfl) rfl,
        fun L u => u_bin u (gd0 rfl) 10 rfl .geq 3 3 (.tmp 9) (.const (.int .i64 0)) rfl rfl rfl (eqg_int _ _ _ _ _ _ _ _) (Value.bool true) (yes_of (fun w => i_geq _ _ _ _ w) (by omega)),
        trivial⟩ [(2, .ptr 2 0), (3, .ptr 3 0), (4, .ptr 4 0), (5, .ptr 5 0), (6, .val (Value.int .i64 (255 - ((j : Nat) : Int)))), (10, .val (Value.bool true))] [(2, nc ((k : Int))), (3, gc (x) ++ gc (y) ++ gc (z) ++ gc (t)), (4, nz ++ nz ++ nz ++ nz), (5, gc ((xm xadd k ⟨x, y, z, t⟩ (j)).x) ++ gc ((xm xadd k ⟨x, y, z, t⟩ (j)).y) ++ gc ((xm xadd k ⟨x, y, z, t⟩ (j)).z) ++ gc ((xm xadd k ⟨x, y, z, t⟩ (j)).t))] ⟨rfl, rfl, rfl, rfl, rfl, rfl, trivial⟩ ⟨rfl, rfl, rfl, rfl, trivial⟩ rfl (fun a w h => ?_)
      refine go_cond h true rfl (fun ht => ?_) (fun hf => ?_)
      case refine_2 => cases hf
      refine wp_skip ?_
      refine then_norm ?_
      refine wp_seq ?_
      refine wp_block ?_
      refine go_region h hm [eS 13 (.val (.agg (gc ((xm xadd k ⟨x, y, z, t⟩ (j)).x) ++ gc ((xm xadd k ⟨x, y, z, t⟩ (j)).y) ++ gc ((xm xadd k ⟨x, y, z, t⟩ (j)).z) ++ gc ((xm xadd k ⟨x, y, z, t⟩ (j)).t)).toArray)), eS 14 (.val (.agg (gc ((xm xadd k ⟨x, y, z, t⟩ (j)).x) ++ gc ((xm xadd k ⟨x, y, z, t⟩ (j)).y) ++ gc ((xm xadd k ⟨x, y, z, t⟩ (j)).z) ++ gc ((xm xadd k ⟨x, y, z, t⟩ (j)).t)).toArray)), eS 15 (.val (.agg (gc ((xadd (xm xadd k ⟨x, y, z, t⟩ (j)) (xm xadd k ⟨x, y, z, t⟩ (j))).x) ++ gc ((xadd (xm xadd k ⟨x, y, z, t⟩ (j)) (xm xadd k ⟨x, y, z, t⟩ (j))).y) ++ gc ((xadd (xm xadd k ⟨x, y, z, t⟩ (j)) (xm xadd k ⟨x, y, z, t⟩ (j))).z) ++ gc ((xadd (xm xadd k ⟨x, y, z, t⟩ (j)) (xm xadd k ⟨x, y, z, t⟩ (j))).t)).toArray)), eM 5 (gc ((xadd (xm xadd k ⟨x, y, z, t⟩ (j)) (xm xadd k ⟨x, y, z, t⟩ (j))).x) ++ gc ((xadd (xm xadd k ⟨x, y, z, t⟩ (j)) (xm xadd k ⟨x, y, z, t⟩ (j))).y) ++ gc ((xadd (xm xadd k ⟨x, y, z, t⟩ (j)) (xm xadd k ⟨x, y, z, t⟩ (j))).z) ++ gc ((xadd (xm xadd k ⟨x, y, z, t⟩ (j)) (xm xadd k ⟨x, y, z, t⟩ (j))).t))] (by kernel_rfl) ⟨
        fun L u => u_load u (gd0 rfl) 13 rfl 54 (.tmp 5) rfl rfl rfl Tryd.underlying54 rfl i54 (lk rfl) _ rfl,
        fun L u => u_load u (gd0 rfl) 14 rfl 54 (.tmp 5) rfl rfl rfl Tryd.underlying54 rfl i54 (lk rfl) _ rfl,
        fun L u => u_call u (gd0 rfl) 15 rfl 40 #[(.tmp 13), (.tmp 14)] #[54, 54] rfl [.agg (gc ((xm xadd k ⟨x, y, z, t⟩ (j)).x) ++ gc ((xm xadd k ⟨x, y, z, t⟩ (j)).y) ++ gc ((xm xadd k ⟨x, y, z, t⟩ (j)).z) ++ gc ((xm xadd k ⟨x, y, z, t⟩ (j)).t)).toArray, .agg (gc ((xm xadd k ⟨x, y, z, t⟩ (j)).x) ++ gc ((xm xadd k ⟨x, y, z, t⟩ (j)).y) ++ gc ((xm xadd k ⟨x, y, z, t⟩ (j)).z) ++ gc ((xm xadd k ⟨x, y, z, t⟩ (j)).t)).toArray] rfl (cE40 _) (.agg (gc ((xadd (xm xadd k ⟨x, y, z, t⟩ (j)) (xm xadd k ⟨x, y, z, t⟩ (j))).x) ++ gc ((xadd (xm xadd k ⟨x, y, z, t⟩ (j)) (xm xadd k ⟨x, y, z, t⟩ (j))).y) ++ gc ((xadd (xm xadd k ⟨x, y, z, t⟩ (j)) (xm xadd k ⟨x, y, z, t⟩ (j))).z) ++ gc ((xadd (xm xadd k ⟨x, y, z, t⟩ (j)) (xm xadd k ⟨x, y, z, t⟩ (j))).t)).toArray) (fun w hb => e_plus (hT.keep (Bs.kp_of hb)) _ _ _ _ _ _ _ _),
        fun L u => u_store u (gd0 rfl) 54 (.tmp 5) (.tmp 15) rfl rfl rfl (vs := gc ((xadd (xm xadd k ⟨x, y, z, t⟩ (j)) (xm xadd k ⟨x, y, z, t⟩ (j))).x) ++ gc ((xadd (xm xadd k ⟨x, y, z, t⟩ (j)) (xm xadd k ⟨x, y, z, t⟩ (j))).y) ++ gc ((xadd (xm xadd k ⟨x, y, z, t⟩ (j)) (xm xadd k ⟨x, y, z, t⟩ (j))).z) ++ gc ((xadd (xm xadd k ⟨x, y, z, t⟩ (j)) (xm xadd k ⟨x, y, z, t⟩ (j))).t)) rfl rfl i54 (lk rfl) rfl _ rfl,
        trivial⟩ [(2, .ptr 2 0), (3, .ptr 3 0), (4, .ptr 4 0), (5, .ptr 5 0), (6, .val (Value.int .i64 (255 - ((j : Nat) : Int))))] [(2, nc ((k : Int))), (3, gc (x) ++ gc (y) ++ gc (z) ++ gc (t)), (4, nz ++ nz ++ nz ++ nz), (5, gc ((xadd (xm xadd k ⟨x, y, z, t⟩ (j)) (xm xadd k ⟨x, y, z, t⟩ (j))).x) ++ gc ((xadd (xm xadd k ⟨x, y, z, t⟩ (j)) (xm xadd k ⟨x, y, z, t⟩ (j))).y) ++ gc ((xadd (xm xadd k ⟨x, y, z, t⟩ (j)) (xm xadd k ⟨x, y, z, t⟩ (j))).z) ++ gc ((xadd (xm xadd k ⟨x, y, z, t⟩ (j)) (xm xadd k ⟨x, y, z, t⟩ (j))).t))] ⟨rfl, rfl, rfl, rfl, rfl, trivial⟩ ⟨rfl, rfl, rfl, rfl, trivial⟩ rfl (fun a w h => ?_)
      refine go_region h hm [eS 16 (.val (.agg (nc ((k : Int))).toArray)), eS 17 (.val (Value.int .i64 (255 - ((j : Nat) : Int)))), eS 18 (.val (Value.int .i64 ((k / 2 ^ (255 - j) % 2 : Nat) : Int))), eS 19 (.val (Value.bool false))] (by kernel_rfl) ⟨
        fun L u => u_load u (gd0 rfl) 16 rfl 24 (.tmp 2) rfl rfl rfl Tryd.underlying24 rfl i24 (lk rfl) _ rfl,
        fun L u => u_move u (gd0 rfl) 17 rfl (.tmp 6) (Or.inl rfl) rfl,
        fun L u => u_call u (gd0 rfl) 18 rfl 52 #[(.tmp 16), (.tmp 17)] #[24, 3] rfl [.agg (nc ((k : Int))).toArray, Value.int .i64 (255 - ((j : Nat) : Int))] rfl (cE52 _) (Value.int .i64 ((k / 2 ^ (255 - j) % 2 : Nat) : Int)) (fun w hb => by have := e_bit (w := w) k (255 - j) (by omega); rw [show (((255 - j : Nat)) : Int) = 255 - (j : Int) by omega] at this; exact this),
        fun L u => u_bin u (gd0 rfl) 19 rfl .eql 3 3 (.tmp 18) (.const (.int .i64 1)) rfl rfl rfl (eqg_int _ _ _ _ _ _ _ _) (Value.bool false) (no_of (fun w => i_eql _ _ _ _ w) (by omega)),
        trivial⟩ [(2, .ptr 2 0), (3, .ptr 3 0), (4, .ptr 4 0), (5, .ptr 5 0), (6, .val (Value.int .i64 (255 - ((j : Nat) : Int)))), (19, .val (Value.bool false))] [(2, nc ((k : Int))), (3, gc (x) ++ gc (y) ++ gc (z) ++ gc (t)), (4, nz ++ nz ++ nz ++ nz), (5, gc ((xadd (xm xadd k ⟨x, y, z, t⟩ (j)) (xm xadd k ⟨x, y, z, t⟩ (j))).x) ++ gc ((xadd (xm xadd k ⟨x, y, z, t⟩ (j)) (xm xadd k ⟨x, y, z, t⟩ (j))).y) ++ gc ((xadd (xm xadd k ⟨x, y, z, t⟩ (j)) (xm xadd k ⟨x, y, z, t⟩ (j))).z) ++ gc ((xadd (xm xadd k ⟨x, y, z, t⟩ (j)) (xm xadd k ⟨x, y, z, t⟩ (j))).t))] ⟨rfl, rfl, rfl, rfl, rfl, rfl, trivial⟩ ⟨rfl, rfl, rfl, rfl, trivial⟩ rfl (fun a w h => ?_)
      refine go_cond h false rfl (fun ht => ?_) (fun hf => ?_)
      case refine_1 => cases ht
      refine wp_skip ?_
      refine blk_norm ?_
      refine then_norm ?_
      refine go_end h hm [eS 11 (.val (Value.int .i64 (255 - ((j : Nat) : Int)))), eS 12 (.val (Value.int .i64 (255 - ((j + 1 : Nat) : Int)))), eS 6 (.val (Value.int .i64 (255 - ((j + 1 : Nat) : Int))))] (by kernel_rfl) ⟨
        fun L u => u_move u (gd0 rfl) 11 rfl (.tmp 6) (Or.inl rfl) rfl,
        fun L u => u_bin u (gd0 rfl) 12 rfl .sub 3 3 (.tmp 11) (.const (.int .i64 1)) rfl rfl rfl (eqg_int _ _ _ _ _ _ _ _) (Value.int .i64 (255 - ((j + 1 : Nat) : Int))) (fun w => i_sub _ _ _ _ (by omega) (by omega) w),
        fun L u => u_move u (gd0 rfl) 6 rfl (.tmp 12) (Or.inr rfl) rfl,
        trivial⟩ [(2, .ptr 2 0), (3, .ptr 3 0), (4, .ptr 4 0), (5, .ptr 5 0), (6, .val (Value.int .i64 (255 - ((j + 1 : Nat) : Int))))] [(2, nc ((k : Int))), (3, gc (x) ++ gc (y) ++ gc (z) ++ gc (t)), (4, nz ++ nz ++ nz ++ nz), (5, gc ((xadd (xm xadd k ⟨x, y, z, t⟩ (j)) (xm xadd k ⟨x, y, z, t⟩ (j))).x) ++ gc ((xadd (xm xadd k ⟨x, y, z, t⟩ (j)) (xm xadd k ⟨x, y, z, t⟩ (j))).y) ++ gc ((xadd (xm xadd k ⟨x, y, z, t⟩ (j)) (xm xadd k ⟨x, y, z, t⟩ (j))).z) ++ gc ((xadd (xm xadd k ⟨x, y, z, t⟩ (j)) (xm xadd k ⟨x, y, z, t⟩ (j))).t))] ⟨rfl, rfl, rfl, rfl, rfl, trivial⟩ ⟨rfl, rfl, rfl, rfl, trivial⟩ rfl (fun a w h => ?_)
      refine then_norm ?_
      exact ⟨j + 1, (by omega), (by omega), h.keep [(2, .ptr 2 0), (3, .ptr 3 0), (4, .ptr 4 0), (5, .ptr 5 0), (6, .val (Value.int .i64 (255 - ((j + 1 : Nat) : Int))))] [(2, nc ((k : Int))), (3, gc (x) ++ gc (y) ++ gc (z) ++ gc (t)), (4, nz ++ nz ++ nz ++ nz), (5, gc ((xm xadd k ⟨x, y, z, t⟩ (j + 1)).x) ++ gc ((xm xadd k ⟨x, y, z, t⟩ (j + 1)).y) ++ gc ((xm xadd k ⟨x, y, z, t⟩ (j + 1)).z) ++ gc ((xm xadd k ⟨x, y, z, t⟩ (j + 1)).t))] ⟨rfl, rfl, rfl, rfl, rfl, trivial⟩ ⟨rfl, rfl, rfl, (congrArg (fun p : X4 => some (gc p.x ++ gc p.y ++ gc p.z ++ gc p.t)) (show xm xadd k ⟨x, y, z, t⟩ (j + 1) = _ from if_neg hb).symm), trivial⟩ rfl⟩
  · skip
    refine wp_seq ?_
    refine go_region h hm [eS 9 (.val (Value.int .i64 (255 - ((j : Nat) : Int)))), eS 10 (.val (Value.bool false))] (by kernel_rfl) ⟨
      fun L u => u_move u (gd0 rfl) 9 rfl (.tmp 6) (Or.inl rfl) rfl,
      fun L u => u_bin u (gd0 rfl) 10 rfl .geq 3 3 (.tmp 9) (.const (.int .i64 0)) rfl rfl rfl (eqg_int _ _ _ _ _ _ _ _) (Value.bool false) (no_of (fun w => i_geq _ _ _ _ w) (by omega)),
      trivial⟩ [(2, .ptr 2 0), (3, .ptr 3 0), (4, .ptr 4 0), (5, .ptr 5 0), (6, .val (Value.int .i64 (255 - ((j : Nat) : Int)))), (10, .val (Value.bool false))] [(2, nc ((k : Int))), (3, gc (x) ++ gc (y) ++ gc (z) ++ gc (t)), (4, nz ++ nz ++ nz ++ nz), (5, gc ((xm xadd k ⟨x, y, z, t⟩ (j)).x) ++ gc ((xm xadd k ⟨x, y, z, t⟩ (j)).y) ++ gc ((xm xadd k ⟨x, y, z, t⟩ (j)).z) ++ gc ((xm xadd k ⟨x, y, z, t⟩ (j)).t))] ⟨rfl, rfl, rfl, rfl, rfl, rfl, trivial⟩ ⟨rfl, rfl, rfl, rfl, trivial⟩ rfl (fun a w h => ?_)
    refine go_cond h false rfl (fun ht => ?_) (fun hf => ?_)
    case refine_1 => cases ht
    refine wp_exit ?_
    refine then_exit ?_
    refine then_exit ?_
    refine blk_exit ?_
    refine then_norm ?_
    refine go_region h hm [eS 23 (.val (.agg (gc ((xm xadd k ⟨x, y, z, t⟩ (j)).x) ++ gc ((xm xadd k ⟨x, y, z, t⟩ (j)).y) ++ gc ((xm xadd k ⟨x, y, z, t⟩ (j)).z) ++ gc ((xm xadd k ⟨x, y, z, t⟩ (j)).t)).toArray)), eM 4 (gc ((xm xadd k ⟨x, y, z, t⟩ (j)).x) ++ gc ((xm xadd k ⟨x, y, z, t⟩ (j)).y) ++ gc ((xm xadd k ⟨x, y, z, t⟩ (j)).z) ++ gc ((xm xadd k ⟨x, y, z, t⟩ (j)).t))] (by kernel_rfl) ⟨
      fun L u => u_load u (gd0 rfl) 23 rfl 54 (.tmp 5) rfl rfl rfl Tryd.underlying54 rfl i54 (lk rfl) _ rfl,
      fun L u => u_store u (gd0 rfl) 54 (.tmp 4) (.tmp 23) rfl rfl rfl (vs := gc ((xm xadd k ⟨x, y, z, t⟩ (j)).x) ++ gc ((xm xadd k ⟨x, y, z, t⟩ (j)).y) ++ gc ((xm xadd k ⟨x, y, z, t⟩ (j)).z) ++ gc ((xm xadd k ⟨x, y, z, t⟩ (j)).t)) rfl rfl i54 (lk rfl) rfl _ rfl,
      trivial⟩ [(4, .ptr 4 0)] [(4, gc ((xm xadd k ⟨x, y, z, t⟩ (j)).x) ++ gc ((xm xadd k ⟨x, y, z, t⟩ (j)).y) ++ gc ((xm xadd k ⟨x, y, z, t⟩ (j)).z) ++ gc ((xm xadd k ⟨x, y, z, t⟩ (j)).t))] ⟨rfl, trivial⟩ ⟨rfl, trivial⟩ rfl (fun a w h => ?_)
    refine wp_ret ?_
    refine ret_row h 4 54 rfl (lk rfl) 4 rfl (gc ((xm xadd k ⟨x, y, z, t⟩ (j)).x) ++ gc ((xm xadd k ⟨x, y, z, t⟩ (j)).y) ++ gc ((xm xadd k ⟨x, y, z, t⟩ (j)).z) ++ gc ((xm xadd k ⟨x, y, z, t⟩ (j)).t)) rfl _ Tryd.underlying54 rfl i54 ?_
    exact ⟨by rw [show j = 256 by omega]; rfl, h.grows⟩
set_option maxRecDepth 100000 in
set_option maxHeartbeats 4000000 in
theorem e_Add0 {w : World} (hT : Tab w) {X Y X2 Y2 : Int} (hX : Num X) (hY : Num Y) (hX2 : Num X2) (hY2 : Num Y2) (t t2 : Bool) : Calls Tryd.prog 12 [.agg (rc X Y t).toArray, .agg (rc X2 Y2 t2).toArray].toArray w fun e w' => e = .returned (.agg (pcE (xdrop (xadd (xlift (rpE X Y t)) (xlift (rpE X2 Y2 t2))))).toArray) ∧ Below w.heap.size w w' := by
  refine enter (args := [.agg (rc X Y t).toArray, .agg (rc X2 Y2 t2).toArray]) Tryd.func12 rfl 11 rfl (lk rfl) (fun a h => ?_)
  refine go_region h hm [eN 2 (rc X Y t), eN 3 (rc X2 Y2 t2), eN 4 (nz ++ nz ++ [Value.bool false])] (by kernel_rfl) ⟨
    fun L u => u_box u (gd0 rfl) 26 (.tmp 0) rfl 2 rfl rfl rfl _ rfl,
    fun L u => u_box u (gd0 rfl) 26 (.tmp 1) rfl 3 rfl rfl rfl _ rfl,
    fun L u => u_alloc u (gd0 rfl) 26 rfl 4 rfl rfl z26 _ rfl,
    trivial⟩ [(2, .ptr 2 0), (3, .ptr 3 0), (4, .ptr 4 0)] [(2, rc X Y t), (3, rc X2 Y2 t2), (4, nz ++ nz ++ [Value.bool false])] ⟨rfl, rfl, rfl, trivial⟩ ⟨rfl, rfl, rfl, trivial⟩ rfl (fun a w h => ?_)
  refine go_region h hm [eS 5 (.val (.agg (rc X Y t).toArray)), eS 6 (.val (.agg (gc ((xlift (rpE X Y t)).x) ++ gc ((xlift (rpE X Y t)).y) ++ gc ((xlift (rpE X Y t)).z) ++ gc ((xlift (rpE X Y t)).t)).toArray)), eS 7 (.val (.agg (rc X2 Y2 t2).toArray)), eS 8 (.val (.agg (gc ((xlift (rpE X2 Y2 t2)).x) ++ gc ((xlift (rpE X2 Y2 t2)).y) ++ gc ((xlift (rpE X2 Y2 t2)).z) ++ gc ((xlift (rpE X2 Y2 t2)).t)).toArray)), eS 9 (.val (.agg (gc ((xadd (xlift (rpE X Y t)) (xlift (rpE X2 Y2 t2))).x) ++ gc ((xadd (xlift (rpE X Y t)) (xlift (rpE X2 Y2 t2))).y) ++ gc ((xadd (xlift (rpE X Y t)) (xlift (rpE X2 Y2 t2))).z) ++ gc ((xadd (xlift (rpE X Y t)) (xlift (rpE X2 Y2 t2))).t)).toArray)), eS 10 (.val (.agg (pcE (xdrop (xadd (xlift (rpE X Y t)) (xlift (rpE X2 Y2 t2))))).toArray)), eM 4 (pcE (xdrop (xadd (xlift (rpE X Y t)) (xlift (rpE X2 Y2 t2)))))] (by kernel_rfl) ⟨
    fun L u => u_load u (gd0 rfl) 5 rfl 26 (.tmp 2) rfl rfl rfl Tryd.underlying26 rfl i26 (lk rfl) _ rfl,
    fun L u => u_call u (gd0 rfl) 6 rfl 41 #[(.tmp 5)] #[26] rfl [.agg (rc X Y t).toArray] rfl (cE41 _) (.agg (gc ((xlift (rpE X Y t)).x) ++ gc ((xlift (rpE X Y t)).y) ++ gc ((xlift (rpE X Y t)).z) ++ gc ((xlift (rpE X Y t)).t)).toArray) (fun w hb => e_lift (hT.keep (Bs.kp_of hb)) hX hY t),
    fun L u => u_load u (gd0 rfl) 7 rfl 26 (.tmp 3) rfl rfl rfl Tryd.underlying26 rfl i26 (lk rfl) _ rfl,
    fun L u => u_call u (gd0 rfl) 8 rfl 41 #[(.tmp 7)] #[26] rfl [.agg (rc X2 Y2 t2).toArray] rfl (cE41 _) (.agg (gc ((xlift (rpE X2 Y2 t2)).x) ++ gc ((xlift (rpE X2 Y2 t2)).y) ++ gc ((xlift (rpE X2 Y2 t2)).z) ++ gc ((xlift (rpE X2 Y2 t2)).t)).toArray) (fun w hb => e_lift (hT.keep (Bs.kp_of hb)) hX2 hY2 t2),
    fun L u => u_call u (gd0 rfl) 9 rfl 40 #[(.tmp 6), (.tmp 8)] #[54, 54] rfl [.agg (gc ((xlift (rpE X Y t)).x) ++ gc ((xlift (rpE X Y t)).y) ++ gc ((xlift (rpE X Y t)).z) ++ gc ((xlift (rpE X Y t)).t)).toArray, .agg (gc ((xlift (rpE X2 Y2 t2)).x) ++ gc ((xlift (rpE X2 Y2 t2)).y) ++ gc ((xlift (rpE X2 Y2 t2)).z) ++ gc ((xlift (rpE X2 Y2 t2)).t)).toArray] rfl (cE40 _) (.agg (gc ((xadd (xlift (rpE X Y t)) (xlift (rpE X2 Y2 t2))).x) ++ gc ((xadd (xlift (rpE X Y t)) (xlift (rpE X2 Y2 t2))).y) ++ gc ((xadd (xlift (rpE X Y t)) (xlift (rpE X2 Y2 t2))).z) ++ gc ((xadd (xlift (rpE X Y t)) (xlift (rpE X2 Y2 t2))).t)).toArray) (fun w hb => e_plus (hT.keep (Bs.kp_of hb)) _ _ _ _ _ _ _ _),
    fun L u => u_call u (gd0 rfl) 10 rfl 39 #[(.tmp 9)] #[54] rfl [.agg (gc ((xadd (xlift (rpE X Y t)) (xlift (rpE X2 Y2 t2))).x) ++ gc ((xadd (xlift (rpE X Y t)) (xlift (rpE X2 Y2 t2))).y) ++ gc ((xadd (xlift (rpE X Y t)) (xlift (rpE X2 Y2 t2))).z) ++ gc ((xadd (xlift (rpE X Y t)) (xlift (rpE X2 Y2 t2))).t)).toArray] rfl (cE39 _) (.agg (pcE (xdrop (xadd (xlift (rpE X Y t)) (xlift (rpE X2 Y2 t2))))).toArray) (fun w hb => e_drop (hT.keep (Bs.kp_of hb)) _ _ _ _),
    fun L u => u_store u (gd0 rfl) 26 (.tmp 4) (.tmp 10) rfl rfl rfl (vs := pcE (xdrop (xadd (xlift (rpE X Y t)) (xlift (rpE X2 Y2 t2))))) rfl rfl i26 (lk rfl) rfl _ rfl,
    trivial⟩ [(4, .ptr 4 0)] [(4, pcE (xdrop (xadd (xlift (rpE X Y t)) (xlift (rpE X2 Y2 t2)))))] ⟨rfl, trivial⟩ ⟨rfl, trivial⟩ rfl (fun a w h => ?_)
  refine wp_ret ?_
  refine ret_row h 4 26 rfl (lk rfl) 4 rfl (pcE (xdrop (xadd (xlift (rpE X Y t)) (xlift (rpE X2 Y2 t2))))) rfl _ Tryd.underlying26 rfl i26 ?_
  exact ⟨rfl, h.grows⟩
set_option maxRecDepth 100000 in
set_option maxHeartbeats 4000000 in
theorem e_Mul0 {w : World} (hT : Tab w) (k : Nat) {X Y : Int} (hX : Num X) (hY : Num Y) (t : Bool) : Calls Tryd.prog 14 [.agg (nc ((k : Int))).toArray, .agg (rc X Y t).toArray].toArray w fun e w' => e = .returned (.agg (pcE (xdrop (xm xadd k (xlift (rpE X Y t)) 256))).toArray) ∧ Below w.heap.size w w' := by
  refine enter (args := [.agg (nc ((k : Int))).toArray, .agg (rc X Y t).toArray]) Tryd.func14 rfl 10 rfl (lk rfl) (fun a h => ?_)
  refine go_region h hm [eN 2 (nc ((k : Int))), eN 3 (rc X Y t), eN 4 (nz ++ nz ++ [Value.bool false])] (by kernel_rfl) ⟨
    fun L u => u_box u (gd0 rfl) 24 (.tmp 0) rfl 2 rfl rfl rfl _ rfl,
    fun L u => u_box u (gd0 rfl) 26 (.tmp 1) rfl 3 rfl rfl rfl _ rfl,
    fun L u => u_alloc u (gd0 rfl) 26 rfl 4 rfl rfl z26 _ rfl,
    trivial⟩ [(2, .ptr 2 0), (3, .ptr 3 0), (4, .ptr 4 0)] [(2, nc ((k : Int))), (3, rc X Y t), (4, nz ++ nz ++ [Value.bool false])] ⟨rfl, rfl, rfl, trivial⟩ ⟨rfl, rfl, rfl, trivial⟩ rfl (fun a w h => ?_)
  refine go_region h hm [eS 5 (.val (.agg (nc ((k : Int))).toArray)), eS 6 (.val (.agg (rc X Y t).toArray)), eS 7 (.val (.agg (gc ((xlift (rpE X Y t)).x) ++ gc ((xlift (rpE X Y t)).y) ++ gc ((xlift (rpE X Y t)).z) ++ gc ((xlift (rpE X Y t)).t)).toArray)), eS 8 (.val (.agg (gc ((xm xadd k (xlift (rpE X Y t)) 256).x) ++ gc ((xm xadd k (xlift (rpE X Y t)) 256).y) ++ gc ((xm xadd k (xlift (rpE X Y t)) 256).z) ++ gc ((xm xadd k (xlift (rpE X Y t)) 256).t)).toArray)), eS 9 (.val (.agg (pcE (xdrop (xm xadd k (xlift (rpE X Y t)) 256))).toArray)), eM 4 (pcE (xdrop (xm xadd k (xlift (rpE X Y t)) 256)))] (by kernel_rfl) ⟨
    fun L u => u_load u (gd0 rfl) 5 rfl 24 (.tmp 2) rfl rfl rfl Tryd.underlying24 rfl i24 (lk rfl) _ rfl,
    fun L u => u_load u (gd0 rfl) 6 rfl 26 (.tmp 3) rfl rfl rfl Tryd.underlying26 rfl i26 (lk rfl) _ rfl,
    fun L u => u_call u (gd0 rfl) 7 rfl 41 #[(.tmp 6)] #[26] rfl [.agg (rc X Y t).toArray] rfl (cE41 _) (.agg (gc ((xlift (rpE X Y t)).x) ++ gc ((xlift (rpE X Y t)).y) ++ gc ((xlift (rpE X Y t)).z) ++ gc ((xlift (rpE X Y t)).t)).toArray) (fun w hb => e_lift (hT.keep (Bs.kp_of hb)) hX hY t),
    fun L u => u_call u (gd0 rfl) 8 rfl 45 #[(.tmp 5), (.tmp 7)] #[24, 54] rfl [.agg (nc ((k : Int))).toArray, .agg (gc ((xlift (rpE X Y t)).x) ++ gc ((xlift (rpE X Y t)).y) ++ gc ((xlift (rpE X Y t)).z) ++ gc ((xlift (rpE X Y t)).t)).toArray] rfl (cE45 _) (.agg (gc ((xm xadd k (xlift (rpE X Y t)) 256).x) ++ gc ((xm xadd k (xlift (rpE X Y t)) 256).y) ++ gc ((xm xadd k (xlift (rpE X Y t)) 256).z) ++ gc ((xm xadd k (xlift (rpE X Y t)) 256).t)).toArray) (fun w hb => e_times (hT.keep (Bs.kp_of hb)) _ _ _ _ _),
    fun L u => u_call u (gd0 rfl) 9 rfl 39 #[(.tmp 8)] #[54] rfl [.agg (gc ((xm xadd k (xlift (rpE X Y t)) 256).x) ++ gc ((xm xadd k (xlift (rpE X Y t)) 256).y) ++ gc ((xm xadd k (xlift (rpE X Y t)) 256).z) ++ gc ((xm xadd k (xlift (rpE X Y t)) 256).t)).toArray] rfl (cE39 _) (.agg (pcE (xdrop (xm xadd k (xlift (rpE X Y t)) 256))).toArray) (fun w hb => e_drop (hT.keep (Bs.kp_of hb)) _ _ _ _),
    fun L u => u_store u (gd0 rfl) 26 (.tmp 4) (.tmp 9) rfl rfl rfl (vs := pcE (xdrop (xm xadd k (xlift (rpE X Y t)) 256))) rfl rfl i26 (lk rfl) rfl _ rfl,
    trivial⟩ [(4, .ptr 4 0)] [(4, pcE (xdrop (xm xadd k (xlift (rpE X Y t)) 256)))] ⟨rfl, trivial⟩ ⟨rfl, trivial⟩ rfl (fun a w h => ?_)
  refine wp_ret ?_
  refine ret_row h 4 26 rfl (lk rfl) 4 rfl (pcE (xdrop (xm xadd k (xlift (rpE X Y t)) 256))) rfl _ Tryd.underlying26 rfl i26 ?_
  exact ⟨rfl, h.grows⟩
set_option maxRecDepth 100000 in
set_option maxHeartbeats 4000000 in
theorem e_Both0 {w : World} (hT : Tab w) (k1 : Nat) {X Y : Int} (hX : Num X) (hY : Num Y) (t : Bool) (k2 : Nat) {X2 Y2 : Int} (hX2 : Num X2) (hY2 : Num Y2) (t2 : Bool) : Calls Tryd.prog 17 [.agg (nc ((k1 : Int))).toArray, .agg (rc X Y t).toArray, .agg (nc ((k2 : Int))).toArray, .agg (rc X2 Y2 t2).toArray].toArray w fun e w' => e = .returned (.agg (pcE (xdrop (xadd (xm xadd k1 (xlift (rpE X Y t)) 256) (xm xadd k2 (xlift (rpE X2 Y2 t2)) 256)))).toArray) ∧ Below w.heap.size w w' := by
  refine enter (args := [.agg (nc ((k1 : Int))).toArray, .agg (rc X Y t).toArray, .agg (nc ((k2 : Int))).toArray, .agg (rc X2 Y2 t2).toArray]) Tryd.func17 rfl 19 rfl (lk rfl) (fun a h => ?_)
  refine go_region h hm [eN 4 (nc ((k1 : Int))), eN 5 (rc X Y t), eN 6 (nc ((k2 : Int))), eN 7 (rc X2 Y2 t2), eN 8 (nz ++ nz ++ [Value.bool false])] (by kernel_rfl) ⟨
    fun L u => u_box u (gd0 rfl) 24 (.tmp 0) rfl 4 rfl rfl rfl _ rfl,
    fun L u => u_box u (gd0 rfl) 26 (.tmp 1) rfl 5 rfl rfl rfl _ rfl,
    fun L u => u_box u (gd0 rfl) 24 (.tmp 2) rfl 6 rfl rfl rfl _ rfl,
    fun L u => u_box u (gd0 rfl) 26 (.tmp 3) rfl 7 rfl rfl rfl _ rfl,
    fun L u => u_alloc u (gd0 rfl) 26 rfl 8 rfl rfl z26 _ rfl,
    trivial⟩ [(4, .ptr 4 0), (5, .ptr 5 0), (6, .ptr 6 0), (7, .ptr 7 0), (8, .ptr 8 0)] [(4, nc ((k1 : Int))), (5, rc X Y t), (6, nc ((k2 : Int))), (7, rc X2 Y2 t2), (8, nz ++ nz ++ [Value.bool false])] ⟨rfl, rfl, rfl, rfl, rfl, trivial⟩ ⟨rfl, rfl, rfl, rfl, rfl, trivial⟩ rfl (fun a w h => ?_)
  refine go_region h hm [eS 9 (.val (.agg (nc ((k1 : Int))).toArray)), eS 10 (.val (.agg (rc X Y t).toArray)), eS 11 (.val (.agg (gc ((xlift (rpE X Y t)).x) ++ gc ((xlift (rpE X Y t)).y) ++ gc ((xlift (rpE X Y t)).z) ++ gc ((xlift (rpE X Y t)).t)).toArray)), eS 12 (.val (.agg (gc ((xm xadd k1 (xlift (rpE X Y t)) 256).x) ++ gc ((xm xadd k1 (xlift (rpE X Y t)) 256).y) ++ gc ((xm xadd k1 (xlift (rpE X Y t)) 256).z) ++ gc ((xm xadd k1 (xlift (rpE X Y t)) 256).t)).toArray)), eS 13 (.val (.agg (nc ((k2 : Int))).toArray)), eS 14 (.val (.agg (rc X2 Y2 t2).toArray)), eS 15 (.val (.agg (gc ((xlift (rpE X2 Y2 t2)).x) ++ gc ((xlift (rpE X2 Y2 t2)).y) ++ gc ((xlift (rpE X2 Y2 t2)).z) ++ gc ((xlift (rpE X2 Y2 t2)).t)).toArray)), eS 16 (.val (.agg (gc ((xm xadd k2 (xlift (rpE X2 Y2 t2)) 256).x) ++ gc ((xm xadd k2 (xlift (rpE X2 Y2 t2)) 256).y) ++ gc ((xm xadd k2 (xlift (rpE X2 Y2 t2)) 256).z) ++ gc ((xm xadd k2 (xlift (rpE X2 Y2 t2)) 256).t)).toArray)), eS 17 (.val (.agg (gc ((xadd (xm xadd k1 (xlift (rpE X Y t)) 256) (xm xadd k2 (xlift (rpE X2 Y2 t2)) 256)).x) ++ gc ((xadd (xm xadd k1 (xlift (rpE X Y t)) 256) (xm xadd k2 (xlift (rpE X2 Y2 t2)) 256)).y) ++ gc ((xadd (xm xadd k1 (xlift (rpE X Y t)) 256) (xm xadd k2 (xlift (rpE X2 Y2 t2)) 256)).z) ++ gc ((xadd (xm xadd k1 (xlift (rpE X Y t)) 256) (xm xadd k2 (xlift (rpE X2 Y2 t2)) 256)).t)).toArray)), eS 18 (.val (.agg (pcE (xdrop (xadd (xm xadd k1 (xlift (rpE X Y t)) 256) (xm xadd k2 (xlift (rpE X2 Y2 t2)) 256)))).toArray)), eM 8 (pcE (xdrop (xadd (xm xadd k1 (xlift (rpE X Y t)) 256) (xm xadd k2 (xlift (rpE X2 Y2 t2)) 256))))] (by kernel_rfl) ⟨
    fun L u => u_load u (gd0 rfl) 9 rfl 24 (.tmp 4) rfl rfl rfl Tryd.underlying24 rfl i24 (lk rfl) _ rfl,
    fun L u => u_load u (gd0 rfl) 10 rfl 26 (.tmp 5) rfl rfl rfl Tryd.underlying26 rfl i26 (lk rfl) _ rfl,
    fun L u => u_call u (gd0 rfl) 11 rfl 41 #[(.tmp 10)] #[26] rfl [.agg (rc X Y t).toArray] rfl (cE41 _) (.agg (gc ((xlift (rpE X Y t)).x) ++ gc ((xlift (rpE X Y t)).y) ++ gc ((xlift (rpE X Y t)).z) ++ gc ((xlift (rpE X Y t)).t)).toArray) (fun w hb => e_lift (hT.keep (Bs.kp_of hb)) hX hY t),
    fun L u => u_call u (gd0 rfl) 12 rfl 45 #[(.tmp 9), (.tmp 11)] #[24, 54] rfl [.agg (nc ((k1 : Int))).toArray, .agg (gc ((xlift (rpE X Y t)).x) ++ gc ((xlift (rpE X Y t)).y) ++ gc ((xlift (rpE X Y t)).z) ++ gc ((xlift (rpE X Y t)).t)).toArray] rfl (cE45 _) (.agg (gc ((xm xadd k1 (xlift (rpE X Y t)) 256).x) ++ gc ((xm xadd k1 (xlift (rpE X Y t)) 256).y) ++ gc ((xm xadd k1 (xlift (rpE X Y t)) 256).z) ++ gc ((xm xadd k1 (xlift (rpE X Y t)) 256).t)).toArray) (fun w hb => e_times (hT.keep (Bs.kp_of hb)) _ _ _ _ _),
    fun L u => u_load u (gd0 rfl) 13 rfl 24 (.tmp 6) rfl rfl rfl Tryd.underlying24 rfl i24 (lk rfl) _ rfl,
    fun L u => u_load u (gd0 rfl) 14 rfl 26 (.tmp 7) rfl rfl rfl Tryd.underlying26 rfl i26 (lk rfl) _ rfl,
    fun L u => u_call u (gd0 rfl) 15 rfl 41 #[(.tmp 14)] #[26] rfl [.agg (rc X2 Y2 t2).toArray] rfl (cE41 _) (.agg (gc ((xlift (rpE X2 Y2 t2)).x) ++ gc ((xlift (rpE X2 Y2 t2)).y) ++ gc ((xlift (rpE X2 Y2 t2)).z) ++ gc ((xlift (rpE X2 Y2 t2)).t)).toArray) (fun w hb => e_lift (hT.keep (Bs.kp_of hb)) hX2 hY2 t2),
    fun L u => u_call u (gd0 rfl) 16 rfl 45 #[(.tmp 13), (.tmp 15)] #[24, 54] rfl [.agg (nc ((k2 : Int))).toArray, .agg (gc ((xlift (rpE X2 Y2 t2)).x) ++ gc ((xlift (rpE X2 Y2 t2)).y) ++ gc ((xlift (rpE X2 Y2 t2)).z) ++ gc ((xlift (rpE X2 Y2 t2)).t)).toArray] rfl (cE45 _) (.agg (gc ((xm xadd k2 (xlift (rpE X2 Y2 t2)) 256).x) ++ gc ((xm xadd k2 (xlift (rpE X2 Y2 t2)) 256).y) ++ gc ((xm xadd k2 (xlift (rpE X2 Y2 t2)) 256).z) ++ gc ((xm xadd k2 (xlift (rpE X2 Y2 t2)) 256).t)).toArray) (fun w hb => e_times (hT.keep (Bs.kp_of hb)) _ _ _ _ _),
    fun L u => u_call u (gd0 rfl) 17 rfl 40 #[(.tmp 12), (.tmp 16)] #[54, 54] rfl [.agg (gc ((xm xadd k1 (xlift (rpE X Y t)) 256).x) ++ gc ((xm xadd k1 (xlift (rpE X Y t)) 256).y) ++ gc ((xm xadd k1 (xlift (rpE X Y t)) 256).z) ++ gc ((xm xadd k1 (xlift (rpE X Y t)) 256).t)).toArray, .agg (gc ((xm xadd k2 (xlift (rpE X2 Y2 t2)) 256).x) ++ gc ((xm xadd k2 (xlift (rpE X2 Y2 t2)) 256).y) ++ gc ((xm xadd k2 (xlift (rpE X2 Y2 t2)) 256).z) ++ gc ((xm xadd k2 (xlift (rpE X2 Y2 t2)) 256).t)).toArray] rfl (cE40 _) (.agg (gc ((xadd (xm xadd k1 (xlift (rpE X Y t)) 256) (xm xadd k2 (xlift (rpE X2 Y2 t2)) 256)).x) ++ gc ((xadd (xm xadd k1 (xlift (rpE X Y t)) 256) (xm xadd k2 (xlift (rpE X2 Y2 t2)) 256)).y) ++ gc ((xadd (xm xadd k1 (xlift (rpE X Y t)) 256) (xm xadd k2 (xlift (rpE X2 Y2 t2)) 256)).z) ++ gc ((xadd (xm xadd k1 (xlift (rpE X Y t)) 256) (xm xadd k2 (xlift (rpE X2 Y2 t2)) 256)).t)).toArray) (fun w hb => e_plus (hT.keep (Bs.kp_of hb)) _ _ _ _ _ _ _ _),
    fun L u => u_call u (gd0 rfl) 18 rfl 39 #[(.tmp 17)] #[54] rfl [.agg (gc ((xadd (xm xadd k1 (xlift (rpE X Y t)) 256) (xm xadd k2 (xlift (rpE X2 Y2 t2)) 256)).x) ++ gc ((xadd (xm xadd k1 (xlift (rpE X Y t)) 256) (xm xadd k2 (xlift (rpE X2 Y2 t2)) 256)).y) ++ gc ((xadd (xm xadd k1 (xlift (rpE X Y t)) 256) (xm xadd k2 (xlift (rpE X2 Y2 t2)) 256)).z) ++ gc ((xadd (xm xadd k1 (xlift (rpE X Y t)) 256) (xm xadd k2 (xlift (rpE X2 Y2 t2)) 256)).t)).toArray] rfl (cE39 _) (.agg (pcE (xdrop (xadd (xm xadd k1 (xlift (rpE X Y t)) 256) (xm xadd k2 (xlift (rpE X2 Y2 t2)) 256)))).toArray) (fun w hb => e_drop (hT.keep (Bs.kp_of hb)) _ _ _ _),
    fun L u => u_store u (gd0 rfl) 26 (.tmp 8) (.tmp 18) rfl rfl rfl (vs := pcE (xdrop (xadd (xm xadd k1 (xlift (rpE X Y t)) 256) (xm xadd k2 (xlift (rpE X2 Y2 t2)) 256)))) rfl rfl i26 (lk rfl) rfl _ rfl,
    trivial⟩ [(8, .ptr 8 0)] [(8, pcE (xdrop (xadd (xm xadd k1 (xlift (rpE X Y t)) 256) (xm xadd k2 (xlift (rpE X2 Y2 t2)) 256))))] ⟨rfl, trivial⟩ ⟨rfl, trivial⟩ rfl (fun a w h => ?_)
  refine wp_ret ?_
  refine ret_row h 8 26 rfl (lk rfl) 8 rfl (pcE (xdrop (xadd (xm xadd k1 (xlift (rpE X Y t)) 256) (xm xadd k2 (xlift (rpE X2 Y2 t2)) 256)))) rfl _ Tryd.underlying26 rfl i26 ?_
  exact ⟨rfl, h.grows⟩
theorem xl_on (X Y : Int) (t : Bool) : Xo (xlift (rpE X Y t)) := xo_lift (rpE_on X Y t)
theorem e_Add {w : World} (hT : Tab w) {X Y X2 Y2 : Int} (hX : Num X) (hY : Num Y) (hX2 : Num X2) (hY2 : Num Y2) (t t2 : Bool) : Calls Tryd.prog 12 [.agg (rc X Y t).toArray, .agg (rc X2 Y2 t2).toArray].toArray w fun e w' => e = .returned (.agg (pcE (eadd (rpE X Y t) (rpE X2 Y2 t2))).toArray) ∧ Below w.heap.size w w' := by
  have h := e_Add0 hT hX hY hX2 hY2 t t2
  rw [(xadd_ok (xl_on X Y t) (xl_on X2 Y2 t2)).2, xdrop_lift, xdrop_lift] at h
  exact h
theorem e_Mul {w : World} (hT : Tab w) {k : Nat} (hk : k < 2 ^ 256) {X Y : Int} (hX : Num X) (hY : Num Y) (t : Bool) : Calls Tryd.prog 14 [.agg (nc (k : Int)).toArray, .agg (rc X Y t).toArray].toArray w fun e w' => e = .returned (.agg (pcE (mt eadd (Ep.o m2) (rpE X Y t) k)).toArray) ∧ Below w.heap.size w w' := by
  have h := e_Mul0 hT k hX hY t
  rw [xm_all xadd_sums hk (xl_on X Y t), xdrop_lift] at h
  exact h
theorem e_Both {w : World} (hT : Tab w) {k1 : Nat} (hk1 : k1 < 2 ^ 256) {X Y : Int} (hX : Num X) (hY : Num Y) (t : Bool) {k2 : Nat} (hk2 : k2 < 2 ^ 256) {X2 Y2 : Int} (hX2 : Num X2) (hY2 : Num Y2) (t2 : Bool) : Calls Tryd.prog 17 [.agg (nc (k1 : Int)).toArray, .agg (rc X Y t).toArray, .agg (nc (k2 : Int)).toArray, .agg (rc X2 Y2 t2).toArray].toArray w fun e w' => e = .returned (.agg (pcE (eadd (mt eadd (Ep.o m2) (rpE X Y t) k1) (mt eadd (Ep.o m2) (rpE X2 Y2 t2) k2))).toArray) ∧ Below w.heap.size w w' := by
  have h := e_Both0 hT k1 hX hY t k2 hX2 hY2 t2
  rw [(xadd_ok (xm_mt xadd_sums (k := k1) (xl_on X Y t) 256 (Nat.le_refl _)).1 (xm_mt xadd_sums (k := k2) (xl_on X2 Y2 t2) 256 (Nat.le_refl _)).1).2, xm_all xadd_sums hk1 (xl_on X Y t), xm_all xadd_sums hk2 (xl_on X2 Y2 t2), xdrop_lift, xdrop_lift] at h
  exact h
set_option maxRecDepth 100000 in
set_option maxHeartbeats 4000000 in
theorem e_Base {w : World}  : Calls Tryd.prog 16 [].toArray w fun e w' => e = .returned (.agg (pcE eG).toArray) ∧ Below w.heap.size w w' := by
  refine enter (args := []) Tryd.func16 rfl 4 rfl (lk rfl) (fun a h => ?_)
  refine go_region h hm [eN 0 (nz ++ nz ++ [Value.bool false])] (by kernel_rfl) ⟨
    fun L u => u_alloc u (gd0 rfl) 26 rfl 0 rfl rfl z26 _ rfl,
    trivial⟩ [(0, .ptr 0 0)] [(0, nz ++ nz ++ [Value.bool false])] ⟨rfl, trivial⟩ ⟨rfl, trivial⟩ rfl (fun a w h => ?_)
  refine go_region h hm [eS 1 (.val (.agg ([(Value.int IntKind.u64 14507833142362363162)] ++ [(Value.int IntKind.u64 7578651490590762930)] ++ [(Value.int IntKind.u64 13881468655802702940)] ++ [(Value.int IntKind.u64 2407515759118799870)]).toArray)), eS 2 (.val (.agg ([(Value.int IntKind.u64 7378697629483820632)] ++ [(Value.int IntKind.u64 7378697629483820646)] ++ [(Value.int IntKind.u64 7378697629483820646)] ++ [(Value.int IntKind.u64 7378697629483820646)]).toArray)), eS 3 (.val (.agg ([(Value.int IntKind.u64 14507833142362363162)] ++ [(Value.int IntKind.u64 7578651490590762930)] ++ [(Value.int IntKind.u64 13881468655802702940)] ++ [(Value.int IntKind.u64 2407515759118799870)] ++ [(Value.int IntKind.u64 7378697629483820632)] ++ [(Value.int IntKind.u64 7378697629483820646)] ++ [(Value.int IntKind.u64 7378697629483820646)] ++ [(Value.int IntKind.u64 7378697629483820646)] ++ [Value.bool false]).toArray)), eM 0 ([(Value.int IntKind.u64 14507833142362363162)] ++ [(Value.int IntKind.u64 7578651490590762930)] ++ [(Value.int IntKind.u64 13881468655802702940)] ++ [(Value.int IntKind.u64 2407515759118799870)] ++ [(Value.int IntKind.u64 7378697629483820632)] ++ [(Value.int IntKind.u64 7378697629483820646)] ++ [(Value.int IntKind.u64 7378697629483820646)] ++ [(Value.int IntKind.u64 7378697629483820646)] ++ [Value.bool false])] (by kernel_rfl) ⟨
    fun L u => u_build u (gd0 rfl) 1 rfl 24 #[(0, (.const (.int .u64 14507833142362363162))), (1, (.const (.int .u64 7578651490590762930))), (2, (.const (.int .u64 13881468655802702940))), (3, (.const (.int .u64 2407515759118799870)))] rfl [(0, (Value.int IntKind.u64 14507833142362363162)), (1, (Value.int IntKind.u64 7578651490590762930)), (2, (Value.int IntKind.u64 13881468655802702940)), (3, (Value.int IntKind.u64 2407515759118799870))] rfl ([(Value.int IntKind.u64 14507833142362363162)] ++ [(Value.int IntKind.u64 7578651490590762930)] ++ [(Value.int IntKind.u64 13881468655802702940)] ++ [(Value.int IntKind.u64 2407515759118799870)]) (g_bN4 _ _ _ _),
    fun L u => u_build u (gd0 rfl) 2 rfl 24 #[(0, (.const (.int .u64 7378697629483820632))), (1, (.const (.int .u64 7378697629483820646))), (2, (.const (.int .u64 7378697629483820646))), (3, (.const (.int .u64 7378697629483820646)))] rfl [(0, (Value.int IntKind.u64 7378697629483820632)), (1, (Value.int IntKind.u64 7378697629483820646)), (2, (Value.int IntKind.u64 7378697629483820646)), (3, (Value.int IntKind.u64 7378697629483820646))] rfl ([(Value.int IntKind.u64 7378697629483820632)] ++ [(Value.int IntKind.u64 7378697629483820646)] ++ [(Value.int IntKind.u64 7378697629483820646)] ++ [(Value.int IntKind.u64 7378697629483820646)]) (g_bN4 _ _ _ _),
    fun L u => u_build u (gd0 rfl) 3 rfl 26 #[(0, (.tmp 1)), (1, (.tmp 2))] rfl [(0, .agg ([(Value.int IntKind.u64 14507833142362363162)] ++ [(Value.int IntKind.u64 7578651490590762930)] ++ [(Value.int IntKind.u64 13881468655802702940)] ++ [(Value.int IntKind.u64 2407515759118799870)]).toArray), (1, .agg ([(Value.int IntKind.u64 7378697629483820632)] ++ [(Value.int IntKind.u64 7378697629483820646)] ++ [(Value.int IntKind.u64 7378697629483820646)] ++ [(Value.int IntKind.u64 7378697629483820646)]).toArray)] rfl ([(Value.int IntKind.u64 14507833142362363162)] ++ [(Value.int IntKind.u64 7578651490590762930)] ++ [(Value.int IntKind.u64 13881468655802702940)] ++ [(Value.int IntKind.u64 2407515759118799870)] ++ [(Value.int IntKind.u64 7378697629483820632)] ++ [(Value.int IntKind.u64 7378697629483820646)] ++ [(Value.int IntKind.u64 7378697629483820646)] ++ [(Value.int IntKind.u64 7378697629483820646)] ++ [Value.bool false]) (g_bPc _ _ _ _ _ _ _ _),
    fun L u => u_store u (gd0 rfl) 26 (.tmp 0) (.tmp 3) rfl rfl rfl (vs := [(Value.int IntKind.u64 14507833142362363162)] ++ [(Value.int IntKind.u64 7578651490590762930)] ++ [(Value.int IntKind.u64 13881468655802702940)] ++ [(Value.int IntKind.u64 2407515759118799870)] ++ [(Value.int IntKind.u64 7378697629483820632)] ++ [(Value.int IntKind.u64 7378697629483820646)] ++ [(Value.int IntKind.u64 7378697629483820646)] ++ [(Value.int IntKind.u64 7378697629483820646)] ++ [Value.bool false]) rfl rfl i26 (lk rfl) rfl _ rfl,
    trivial⟩ [(0, .ptr 0 0)] [(0, [(Value.int IntKind.u64 14507833142362363162)] ++ [(Value.int IntKind.u64 7578651490590762930)] ++ [(Value.int IntKind.u64 13881468655802702940)] ++ [(Value.int IntKind.u64 2407515759118799870)] ++ [(Value.int IntKind.u64 7378697629483820632)] ++ [(Value.int IntKind.u64 7378697629483820646)] ++ [(Value.int IntKind.u64 7378697629483820646)] ++ [(Value.int IntKind.u64 7378697629483820646)] ++ [Value.bool false])] ⟨rfl, trivial⟩ ⟨rfl, trivial⟩ rfl (fun a w h => ?_)
  refine wp_ret ?_
  refine ret_row h 0 26 rfl (lk rfl) 0 rfl ([(Value.int IntKind.u64 14507833142362363162)] ++ [(Value.int IntKind.u64 7578651490590762930)] ++ [(Value.int IntKind.u64 13881468655802702940)] ++ [(Value.int IntKind.u64 2407515759118799870)] ++ [(Value.int IntKind.u64 7378697629483820632)] ++ [(Value.int IntKind.u64 7378697629483820646)] ++ [(Value.int IntKind.u64 7378697629483820646)] ++ [(Value.int IntKind.u64 7378697629483820646)] ++ [Value.bool false]) rfl _ Tryd.underlying26 rfl i26 ?_
  exact ⟨by rw [pcE_G], h.grows⟩
end Go.Proofs.YtolehamdaceikaaDoor
namespace Go.Proofs.YtolehamdaceikaaDoor
open Go.RowKit

theorem cE9 (vs : List Value) : ∀ w, (callFunc 9 vs.toArray).run Tryd.prog w = .ok (.enter 9 vs.toArray) w := callFunc_enter Tryd.func9 (by kernel_rfl) (by kernel_rfl) _
theorem cE18 (vs : List Value) : ∀ w, (callFunc 18 vs.toArray).run Tryd.prog w = .ok (.enter 18 vs.toArray) w := callFunc_enter Tryd.func18 (by kernel_rfl) (by kernel_rfl) _
theorem cE20 (vs : List Value) : ∀ w, (callFunc 20 vs.toArray).run Tryd.prog w = .ok (.enter 20 vs.toArray) w := callFunc_enter Tryd.func20 (by kernel_rfl) (by kernel_rfl) _
theorem cE19 (vs : List Value) : ∀ w, (callFunc 19 vs.toArray).run Tryd.prog w = .ok (.enter 19 vs.toArray) w := callFunc_enter Tryd.func19 (by kernel_rfl) (by kernel_rfl) _
theorem cE21 (vs : List Value) : ∀ w, (callFunc 21 vs.toArray).run Tryd.prog w = .ok (.enter 21 vs.toArray) w := callFunc_enter Tryd.func21 (by kernel_rfl) (by kernel_rfl) _
theorem cE49 (vs : List Value) : ∀ w, (callFunc 49 vs.toArray).run Tryd.prog w = .ok (.enter 49 vs.toArray) w := callFunc_enter Tryd.func49 (by kernel_rfl) (by kernel_rfl) _
theorem cE47 (vs : List Value) : ∀ w, (callFunc 47 vs.toArray).run Tryd.prog w = .ok (.enter 47 vs.toArray) w := callFunc_enter Tryd.func47 (by kernel_rfl) (by kernel_rfl) _
theorem cE48 (vs : List Value) : ∀ w, (callFunc 48 vs.toArray).run Tryd.prog w = .ok (.enter 48 vs.toArray) w := callFunc_enter Tryd.func48 (by kernel_rfl) (by kernel_rfl) _
theorem e_AddP {w : World} (hT : Tab w) {a b : Ep m2} (ha : a.on ed) (hb : b.on ed) : Calls Tryd.prog 12 [.agg (pcE a).toArray, .agg (pcE b).toArray].toArray w fun e w' => e = .returned (.agg (pcE (eadd a b)).toArray) ∧ Below w.heap.size w w' := by
  have h := e_Add hT (gin_num a.x) (gin_num a.y) (gin_num b.x) (gin_num b.y) false false
  rw [rpE_pc ha, rpE_pc hb] at h
  exact h
theorem e_AddRP {w : World} (hT : Tab w) {X Y : Int} (hX : Num X) (hY : Num Y) (t : Bool) {b : Ep m2} (hb : b.on ed) : Calls Tryd.prog 12 [.agg (rc X Y t).toArray, .agg (pcE b).toArray].toArray w fun e w' => e = .returned (.agg (pcE (eadd (rpE X Y t) b)).toArray) ∧ Below w.heap.size w w' := by
  have h := e_Add hT hX hY (gin_num b.x) (gin_num b.y) t false
  rw [rpE_pc hb] at h
  exact h
theorem e_AddPR {w : World} (hT : Tab w) {b : Ep m2} (hb : b.on ed) {X Y : Int} (hX : Num X) (hY : Num Y) (t : Bool) : Calls Tryd.prog 12 [.agg (pcE b).toArray, .agg (rc X Y t).toArray].toArray w fun e w' => e = .returned (.agg (pcE (eadd b (rpE X Y t))).toArray) ∧ Below w.heap.size w w' := by
  have h := e_Add hT (gin_num b.x) (gin_num b.y) hX hY false t
  rw [rpE_pc hb] at h
  exact h
theorem e_MulP {w : World} (hT : Tab w) {k : Nat} (hk : k < 2 ^ 256) {a : Ep m2} (ha : a.on ed) : Calls Tryd.prog 14 [.agg (nc (k : Int)).toArray, .agg (pcE a).toArray].toArray w fun e w' => e = .returned (.agg (pcE (mt eadd (Ep.o m2) a k)).toArray) ∧ Below w.heap.size w w' := by
  have h := e_Mul hT hk (gin_num a.x) (gin_num a.y) false
  rw [rpE_pc ha] at h
  exact h
theorem e_FormedP {w : World} (hT : Tab w) {a : Ep m2} (ha : a.on ed) : Calls Tryd.prog 10 [.agg (pcE a).toArray].toArray w fun e w' => e = .returned (.bool true) ∧ Below w.heap.size w w' := by
  have h := e_Formed hT (gin_num a.x) (gin_num a.y) false
  rw [fmdE_pc ha] at h
  exact h
theorem oE_pc {one : Fin m2} (h : one = 1) : nz ++ gc one ++ [Value.bool false] = pcE (Ep.o m2) := by rw [h, nz_gc]; rfl
theorem g_bN4x {one : Fin m2} (h : one = 1) : Tryd.prog.built 24 [(0, .int .u64 1), (1, .int .u64 0), (2, .int .u64 0), (3, .int .u64 0)] = some (gc one).toArray := by rw [h, gc_one]; exact g_bN4 _ _ _ _
theorem g_bY4 (a b c d : Int) : Tryd.prog.built 26 [(1, .agg ([Value.int .u64 a] ++ [Value.int .u64 b] ++ [Value.int .u64 c] ++ [Value.int .u64 d]).toArray)] = some (nz ++ [Value.int .u64 a] ++ [Value.int .u64 b] ++ [Value.int .u64 c] ++ [Value.int .u64 d] ++ [Value.bool false]).toArray := by kernel_rfl
/-- A point's mirror. -/
def eneg (a : Ep m2) : Ep m2 := ⟨0 - a.x, a.y⟩
theorem mirE_pc (a : Ep m2) : gc (0 - a.x) ++ gc a.y ++ [Value.bool false] = pcE (eneg a) := rfl
theorem sub_nilE : (0 : Fin m2) - 0 = 0 := by decide +kernel
theorem neg_poly {p : Nat} [NeZero p] {d x y : Fin p} (h : y * y - x * x = 1 + d * (x * x * (y * y))) : y * y - (0 - x) * (0 - x) = 1 + d * ((0 - x) * (0 - x) * (y * y)) := by
  rw [show (0 - x) * (0 - x) = x * x by clear h; grobner]
  exact h
theorem neg_one {p : Nat} [NeZero p] {d x y i j : Fin p} (h : y * y - x * x = 1 + d * (x * x * (y * y))) (hj : (1 - d * (x * (0 - x) * (y * y))) * j = 1) : (x * y + (0 - x) * y) * i = 0 ∧ (y * y + x * (0 - x)) * j = 1 := by
  refine ⟨by clear h hj; grobner, ?_⟩
  rw [← hj, show y * y + x * (0 - x) = y * y - x * x by clear h hj; grobner, h]
  clear h hj
  grobner
theorem eneg_on {a : Ep m2} (h : a.on ed) : (eneg a).on ed := neg_poly h
theorem eneg_add {a : Ep m2} (h : a.on ed) : eadd a (eneg a) = Ep.o m2 := by
  have d2 := fld2.inv _ (den_sub ek2 h (eneg_on h))
  obtain ⟨x, y⟩ := a
  have g := neg_one (i := fiv (1 + Ep.t ed ⟨x, y⟩ (eneg ⟨x, y⟩))) h d2
  show (⟨_, _⟩ : Ep m2) = ⟨0, 1⟩
  rw [Ep.mk.injEq]
  exact g
theorem nc_twoE : [Value.int .u64 2] ++ [Value.int .u64 0] ++ [Value.int .u64 0] ++ [Value.int .u64 0] = nc ((2 : Nat) : Int) := by kernel_rfl
theorem hmod3 : mod3 < 2 ^ 256 := by decide +kernel
theorem e_BothRP {w : World} (hT : Tab w) {k1 : Nat} (hk1 : k1 < 2 ^ 256) {X Y : Int} (hX : Num X) (hY : Num Y) (t : Bool) {k2 : Nat} (hk2 : k2 < 2 ^ 256) {b : Ep m2} (hb : b.on ed) : Calls Tryd.prog 17 [.agg (nc (k1 : Int)).toArray, .agg (rc X Y t).toArray, .agg (nc (k2 : Int)).toArray, .agg (pcE b).toArray].toArray w fun e w' => e = .returned (.agg (pcE (eadd (mt eadd (Ep.o m2) (rpE X Y t) k1) (mt eadd (Ep.o m2) b k2))).toArray) ∧ Below w.heap.size w w' := by
  have h := e_Both hT hk1 hX hY t hk2 (gin_num b.x) (gin_num b.y) false
  rw [rpE_pc hb] at h
  exact h
theorem e_BothPR {w : World} (hT : Tab w) {k1 : Nat} (hk1 : k1 < 2 ^ 256) {b : Ep m2} (hb : b.on ed) {k2 : Nat} (hk2 : k2 < 2 ^ 256) {X Y : Int} (hX : Num X) (hY : Num Y) (t : Bool) : Calls Tryd.prog 17 [.agg (nc (k1 : Int)).toArray, .agg (pcE b).toArray, .agg (nc (k2 : Int)).toArray, .agg (rc X Y t).toArray].toArray w fun e w' => e = .returned (.agg (pcE (eadd (mt eadd (Ep.o m2) b k1) (mt eadd (Ep.o m2) (rpE X Y t) k2))).toArray) ∧ Below w.heap.size w w' := by
  have h := e_Both hT hk1 (gin_num b.x) (gin_num b.y) false hk2 hX hY t
  rw [rpE_pc hb] at h
  exact h
set_option maxRecDepth 100000 in
set_option maxHeartbeats 4000000 in
theorem awakeE_any {w : World} (hT : Tab w)  : Calls Tryd.prog 9 [].toArray w fun e w' => e = .returned (.bool true) ∧ Below w.heap.size w w' := by
  refine enter (args := []) Tryd.func9 rfl 8 rfl (lk rfl) (fun a h => ?_)
  refine go_region h hm [eS 0 (.val (Value.bool false))] (by kernel_rfl) ⟨
    fun L u => u_move u (gd0 rfl) 0 rfl (.const (.bool false)) (Or.inr rfl) rfl,
    trivial⟩ [] [] trivial trivial rfl (fun a w h => ?_)
  refine go_region h hm [eS 1 (.val (.agg (pcE (eG)).toArray)), eS 2 (.val (Value.bool true)), eS 3 (.val (Value.bool true)), eS 4 (.val (.agg (pcE (eG)).toArray)), eS 5 (.val (.agg (pcE (eG)).toArray)), eS 6 (.val (Value.bool true)), eS 7 (.val (Value.bool true)), eS 0 (.val (Value.bool true))] (by kernel_rfl) ⟨
    fun L u => u_call u (gd0 rfl) 1 rfl 16 #[] #[] rfl [] rfl (cE16 _) (.agg (pcE (eG)).toArray) (fun w hb => e_Base),
    fun L u => u_call u (gd0 rfl) 2 rfl 10 #[(.tmp 1)] #[26] rfl [.agg (pcE (eG)).toArray] rfl (cE10 _) (Value.bool true) (fun w hb => e_FormedP (hT.keep (Bs.kp_of hb)) eG_on),
    fun L u => u_move u (gd0 rfl) 3 rfl (.tmp 2) (Or.inl rfl) rfl,
    fun L u => u_call u (gd1 u 2 true rfl 3 rfl (lk rfl) rfl) 4 rfl 16 #[] #[] rfl [] rfl (cE16 _) (.agg (pcE (eG)).toArray) (fun w hb => e_Base),
    fun L u => u_call u (gd1 u 2 true rfl 3 rfl (lk rfl) rfl) 5 rfl 27 #[] #[] rfl [] rfl (cE27 _) (.agg (pcE (eG)).toArray) (fun w hb => s_Base),
    fun L u => u_eql u (gd1 u 2 true rfl 3 rfl (lk rfl) rfl) 6 rfl 26 26 (.tmp 4) (.tmp 5) rfl rfl rfl Tryd.eqGuardType26 (true) (fun w => eq_pcE_same _ w),
    fun L u => u_pick u (gd0 rfl) 7 rfl (.tmp 3) (.tmp 6) (.const (.bool false)) rfl rfl rfl rfl _ rfl,
    fun L u => u_move u (gd0 rfl) 0 rfl (.tmp 7) (Or.inr rfl) rfl,
    trivial⟩ [(0, .val (Value.bool true))] [] ⟨rfl, trivial⟩ trivial rfl (fun a w h => ?_)
  refine wp_ret ?_
  refine ret_slot h 0 rfl (lk rfl) (Value.bool true) rfl ?_
  exact ⟨rfl, h.grows⟩
end Go.Proofs.YtolehamdaceikaaDoor
namespace Go.Proofs.YtolehamdaceikaaDoor
open Go.RowKit

/-- The byte of a number that stands for 256^k. -/
def Y (k : Nat) (a : Int) : Int := a / 256 ^ k % 256
theorem Y_lo (k : Nat) (a : Int) : 0 ≤ Y k a := Int.emod_nonneg _ (by omega)
theorem Y_hi (k : Nat) (a : Int) : Y k a < 256 := Int.emod_lt_of_pos _ (by omega)
theorem B_pow (q : Nat) : B ^ q = 256 ^ (8 * q) := by rw [Int.pow_mul]; rfl
theorem byte_word (a : Int) (q r : Nat) (hr : r < 8) : L q a / 256 ^ r % 256 = Y (8 * q + r) a := by
  unfold L Y
  rw [Int.pow_add, ← B_pow, ← Int.ediv_ediv_of_nonneg (Int.le_of_lt (Bk_pos q))]
  generalize a / B ^ q = x
  unfold B
  match r, hr with
  | 0, _ => simp
  | 1, _ => simp; omega
  | 2, _ => simp; omega
  | 3, _ => simp; omega
  | 4, _ => simp; omega
  | 5, _ => simp; omega
  | 6, _ => simp; omega
  | 7, _ => simp; omega
  | n + 8, h => omega

/-- The number of r bytes from place o on, the least first. -/
def E (f : Nat → Int) (o : Nat) : Nat → Int
  | 0 => 0
  | r + 1 => E f o r + f (o + r) * 256 ^ r
theorem E_bd {f : Nat → Int} (hf : ∀ i, 0 ≤ f i ∧ f i < 256) (o : Nat) : ∀ r, 0 ≤ E f o r ∧ E f o r < 256 ^ r
  | 0 => by simp [E]
  | r + 1 => by
    have h := E_bd hf o r
    have hp : (0 : Int) < 256 ^ r := Int.pow_pos (by omega)
    have h1 := (hf (o + r)).1
    have h2 : f (o + r) * 256 ^ r ≤ 255 * 256 ^ r := Int.mul_le_mul_of_nonneg_right (by have := (hf (o + r)).2; omega) (Int.le_of_lt hp)
    have h3 : 0 ≤ f (o + r) * 256 ^ r := Int.mul_nonneg h1 (Int.le_of_lt hp)
    simp only [E, Int.pow_succ]
    omega
theorem E_word (a : Int) (j : Nat) : E (fun i => Y i a) (8 * j) 8 = L j a := by
  have h1 := L_lo j a
  have h2 := L_hi j a
  simp only [E, ← byte_word a j _ (show 0 < 8 by omega), ← byte_word a j _ (show 1 < 8 by omega), ← byte_word a j _ (show 2 < 8 by omega), ← byte_word a j _ (show 3 < 8 by omega), ← byte_word a j _ (show 4 < 8 by omega), ← byte_word a j _ (show 5 < 8 by omega), ← byte_word a j _ (show 6 < 8 by omega), ← byte_word a j _ (show 7 < 8 by omega)]
  generalize L j a = x at *
  simp
  omega
theorem E_congr {f g : Nat → Int} (o : Nat) : ∀ r, (∀ i, i < r → f (o + i) = g (o + i)) → E f o r = E g o r
  | 0, _ => rfl
  | r + 1, h => by simp only [E]; rw [E_congr o r (fun i hi => h i (by omega)), h r (by omega)]

end Go.Proofs.YtolehamdaceikaaDoor

namespace Go.Proofs.YtolehamdaceikaaDoor
open Go.RowKit

/-- n bytes lie from an address on. -/
structure Rd (w : World) (b o n : Nat) (f : Nat → Int) : Prop where
  c : ∀ i, i < n → w.cell? ⟨b, o + i, none⟩ = some (.int .u8 (f i))
/-- A row of n bytes of its own, that may be written. -/
structure Row8 (w : World) (b n : Nat) (f : Nat → Int) : Prop where
  lt : b < w.heap.size
  c : ∀ i, i < n → w.cell? ⟨b, i, none⟩ = some (.int .u8 (f i))
  z : ∀ i, i < n → w.frozen? ⟨b, i, none⟩ = false
theorem Rd.keep {W w1 : World} {b o n : Nat} {f : Nat → Int} (h : Rd W b o n f) (hb : Below W.heap.size W w1) : Rd w1 b o n f :=
  ⟨fun i hi => later hb (h.c i hi)⟩
theorem Rd.part {w : World} {b o n : Nat} {f : Nat → Int} (h : Rd w b o n f) (k m : Nat) (hk : k + m ≤ n) : Rd w b (o + k) m (fun i => f (k + i)) :=
  ⟨fun i hi => by have := h.c (k + i) (by omega); rwa [← Nat.add_assoc] at this⟩
theorem Rd.congr {w : World} {b o n : Nat} {f g : Nat → Int} (h : Rd w b o n f) (e : ∀ i, i < n → f i = g i) : Rd w b o n g :=
  ⟨fun i hi => by rw [← e i hi]; exact h.c i hi⟩
theorem Row8.keep {W w1 : World} {b n : Nat} {f : Nat → Int} (h : Row8 W b n f) (hb : Below W.heap.size W w1) : Row8 w1 b n f :=
  ⟨Nat.lt_of_lt_of_le h.lt hb.size, fun i hi => later hb (h.c i hi), fun i hi => (hb.frozen (p := ⟨b, i, none⟩) h.lt).trans (h.z i hi)⟩
theorem Row8.rd {w : World} {b n : Nat} {f : Nat → Int} (h : Row8 w b n f) : Rd w b 0 n f := ⟨fun i hi => by rw [Nat.zero_add]; exact h.c i hi⟩
theorem Row8.congr {w : World} {b n : Nat} {f g : Nat → Int} (h : Row8 w b n f) (e : ∀ i, i < n → f i = g i) : Row8 w b n g :=
  ⟨h.lt, fun i hi => by rw [← e i hi]; exact h.c i hi, h.z⟩
theorem Row8.store {w : World} {b n : Nat} {f : Nat → Int} (h : Row8 w b n f) (k : Nat) (hk : k < n) (v : Int) : Row8 (w.setCell ⟨b, k, none⟩ (.int .u8 v)) b n (fun i => if i = k then v else f i) := by
  refine ⟨by simpa using h.lt, fun i hi => ?_, fun i hi => by rw [World.frozen?_setCell]; exact h.z i hi⟩
  have hc := h.c i hi
  have hcs := h.c k hk
  by_cases e : i = k
  · subst e; simp [go_sem, hc]
  · simp [go_sem, hc, e]
end Go.Proofs.YtolehamdaceikaaDoor
namespace Go.Proofs.YtolehamdaceikaaDoor
open Go.RowKit

theorem info8 : (Tryd.prog.info? 5).map (fun i => (i.zero, i.size, i.bytes)) = some (some (.int .u8 0), 1, 1) := by kernel_rfl
def cells8 (l : List Nat) : List Value := l.map (fun (x : Nat) => Value.int .u8 (x : Int))
theorem own_keep {w w' : World} {base n : Nat} {v : Value} {xs : List Value} (h : w.ownsRow base 5 1 v n xs) (hb : Below w.heap.size w w') : w'.ownsRow base 5 1 v n xs := by
  refine ⟨h.1, ?_⟩
  rcases h.2 with h0 | ⟨g, cap, cur, rfl, hg, hh, h1, h2, h3, h4⟩
  · exact Or.inl h0
  · exact Or.inr ⟨g, cap, cur, rfl, hg, by rw [hb.block g (h.lt g rfl).2]; exact hh, h1, h2, h3, h4⟩

theorem own_shape {w : World} {base n : Nat} {v : Value} {xs : List Value} (h : w.ownsRow base 5 1 v n xs) : ∃ a cap, v = .slice a n cap := by
  rcases h.2 with ⟨rfl, rfl⟩ | ⟨g, cap, cur, rfl, _⟩
  · exact ⟨_, _, rfl⟩
  · exact ⟨_, _, rfl⟩
theorem own_rd {w : World} {base n : Nat} {v : Value} {f : Nat → Int} {xs : List Value} (h : w.ownsRow base 5 1 v n xs) (hx : ∀ j, j < n → xs[j]? = some (.int .u8 (f j))) (hn : 0 < n) : ∃ g cap, v = .slice (some ⟨g, 0, none⟩) n cap ∧ base ≤ g ∧ Row8 w g n f := by
  rcases h.2 with ⟨_, h0⟩ | ⟨g, cap, cur, rfl, hg, _⟩
  · omega
  · refine ⟨g, cap, rfl, hg, (h.lt g rfl).2, fun j hj => ?_, fun j _ => h.frozenAt j⟩
    rw [h.cellAt j (by omega)]; exact hx j hj
theorem own_cap {w : World} {base n g cap : Nat} {xs : List Value} (h : w.ownsRow base 5 1 (.slice (some ⟨g, 0, none⟩) n cap) n xs) : n ≤ cap := by
  rcases h.2 with ⟨h1, _⟩ | ⟨g', cap', cur, h1, _, _, hle, _⟩
  · cases h1
  · cases h1; exact hle


theorem cells8_at (l : List Nat) (i : Nat) (h : i < l.length) : (cells8 l)[i]? = some (Value.int .u8 ((l.getD i 0 : Nat) : Int)) := by
  simp [cells8, h]
theorem getD_lt {l : List Nat} (h : ∀ x ∈ l, x < 256) (i : Nat) : l.getD i 0 < 256 := by
  rw [List.getD_eq_getElem?_getD]
  by_cases hi : i < l.length
  · rw [List.getElem?_eq_getElem hi]; exact h _ (List.getElem_mem hi)
  · rw [List.getElem?_eq_none (by omega)]; simp
theorem Rd.first {w : World} {b o n : Nat} {f : Nat → Int} (h : Rd w b o n f) (m : Nat) (hm : m ≤ n) : Rd w b o m f := ⟨fun i hi => h.c i (by omega)⟩
/-- A text's bytes, laid anew. -/
theorem rd_bytes (w : World) (s : ByteArray) (c : Nat) (z : Nat × Nat) : Rd (w.drew.alloc (.cells (bytesRow s c) 5 z)) w.heap.size 0 s.size (fun i => ((s.data.toList.getD i 0).toNat : Int)) := by
  refine ⟨fun i hi => ?_⟩
  have hb := bytesRow_at s c i hi
  have hh : (w.drew.alloc (.cells (bytesRow s c) 5 z)).heap[w.heap.size]? = some (.cells (bytesRow s c) 5 z) := by
    show (w.heap.push (.cells (bytesRow s c) 5 z))[w.heap.size]? = _
    simp
  have hg : s.data.toList.getD i 0 = s.data[i] := by
    rw [List.getD_eq_getElem?_getD, List.getElem?_eq_getElem (by simpa using hi)]
    rfl
  rw [Nat.zero_add, hg, ← hb]
  unfold World.cell?
  dsimp only
  rw [hh]
  first | rfl | simp
end Go.Proofs.YtolehamdaceikaaDoor
namespace Go.Proofs.YtolehamdaceikaaDoor
open Go.RowKit

/-- Some bytes: none, or n from an address on. -/
structure BA (w : World) (a : Option Addr) (n : Nat) (f : Nat → Nat) : Prop where
  lt : ∀ i, f i < 256
  at_ : n = 0 ∨ ∃ b o, a = some ⟨b, o, none⟩ ∧ Rd w b o n (fun i => ((f i : Nat) : Int))
theorem BA.keep {W w1 : World} {a : Option Addr} {n : Nat} {f : Nat → Nat} (h : BA W a n f) (hb : Below W.heap.size W w1) : BA w1 a n f :=
  ⟨h.lt, h.at_.elim Or.inl fun ⟨b, o, e, hr⟩ => Or.inr ⟨b, o, e, hr.keep hb⟩⟩
/-- The first n bytes of f, as a list. -/
def fl (f : Nat → Nat) (n : Nat) : List Nat := (List.range n).map f
theorem fl_len (f : Nat → Nat) (n : Nat) : (fl f n).length = n := by simp [fl]
theorem fl_at (f : Nat → Nat) {n i : Nat} (h : i < n) : (fl f n)[i]? = some (f i) := by simp [fl, h]
theorem fl_lt {f : Nat → Nat} (hf : ∀ i, f i < 256) (n : Nat) : ∀ x ∈ fl f n, x < 256 := by
  intro x hx
  simp only [fl, List.mem_map] at hx
  obtain ⟨i, _, rfl⟩ := hx
  exact hf i
theorem cells8_len (l : List Nat) : (cells8 l).length = l.length := by simp [cells8]
theorem cells8_one (l : List Nat) : ∀ u ∈ cells8 l, u.oneCell' = true := by
  intro u hu
  simp only [cells8, List.mem_map] at hu
  obtain ⟨i, _, rfl⟩ := hu
  rfl
theorem run_append_zero {P : Program} (w : World) (base : Nat) (t ty e : TypeId) (i : TypeInfo) (size : Nat) (ht : P.underlying t = some (.slice e)) (hi : P.info? e = some i)
    (v : Value) (n : Nat) (xs : List Value) (hown : w.ownsRow base e size v n xs) (x : Option Addr) (c : Nat) :
    (Builtin.append_ #[t, t] ty #[v, .slice x 0 c]).run P w = .ok v w := by
  rcases hown.2 with ⟨rfl, rfl⟩ | ⟨g, cap, cur, rfl, _, _, hnc, _⟩
  · cases x <;> simp [Builtin.append_, run_underlying ht, sizeOf, typeInfo, hi, Builtin.lenOf, Builtin.firstCells, loadCells, loadCellsFrom]
  · cases x <;> simp [Builtin.append_, run_underlying ht, sizeOf, typeInfo, hi, Builtin.lenOf, Builtin.firstCells, hnc, storeCells, loadCells, loadCellsFrom]
/-- Bytes that are appended to a row of one's own. -/
theorem run_app {W : World} {base : Nat} {v : Value} {n : Nat} {l : List Nat} (hown : W.ownsRow base 5 1 v n (cells8 l)) {x : Option Addr} {m c : Nat} {f : Nat → Nat} (hx : BA W x m f) (hb : n + m ≤ 1000000) (hbase : base ≤ W.heap.size) (ty : TypeId) :
    ∃ v' w', (Builtin.append_ #[43, 43] ty #[v, .slice x m c]).run Tryd.prog W = .ok v' w' ∧ w'.ownsRow base 5 1 v' (n + m) (cells8 (l ++ fl f m)) ∧ W.grownBy w' v.ownBlock := by
  obtain ⟨i0, hi, hz0, hz1, hz2⟩ := info_parts info8
  rcases hx.at_ with rfl | ⟨b, o, rfl, hr⟩
  · refine ⟨v, W, run_append_zero W base _ _ 5 i0 1 Tryd.underlying43 hi v n _ hown x c, ?_, World.grownBy.refl _ _⟩
    rw [show fl f 0 = [] from rfl, List.append_nil]
    exact hown
  · obtain ⟨v', w', h1, h2, h3, _⟩ := run_append_own (P := Tryd.prog) W base 43 ty 5 i0 (.int .u8 0) 1 1 Tryd.underlying43 hi hz0 hz1 hz2 rfl (by decide) v n _ hown ⟨b, o, none⟩ m c (cells8 (fl f m)) (by rw [cells8_len, fl_len]; omega) (fun j u hu => by
      have hj : j < m := by
        rcases Nat.lt_or_ge j m with h' | h'
        · exact h'
        · rw [List.getElem?_eq_none (by rw [cells8_len, fl_len]; exact h')] at hu; cases hu
      have hc := hr.c j hj
      rw [cells8_at _ j (by rw [fl_len]; exact hj), List.getD_eq_getElem?_getD, fl_at f hj] at hu
      have ea : (⟨b, o, none⟩ : Addr).add j = ⟨b, o + j, none⟩ := by unfold Addr.add; split <;> simp_all
      rw [ea, hc]
      simpa using hu) (cells8_one _) (by unfold maxLen; omega) (by omega) hbase
    refine ⟨v', w', h1, ?_, h3⟩
    rw [show cells8 (l ++ fl f m) = cells8 l ++ cells8 (fl f m) from List.map_append]
    exact h2
/-- The same, at a step of a region that draws its order. -/
theorem step_app {W : World} {ops : Array Oper} {op : Oper} {a : Act} {K : Act → World → Prop} {Q : Exit → Act → World → Prop} {E : Prop} (hgd : op.guard = none) (s x : Operand)
    (ho : op.op = .call { callee := .builtin .append, args := #[s, x], argTypes := #[43, 43] })
    {base : Nat} {v : Value} {n : Nat} {l : List Nat} (hs : a.eval s = v) (hown : W.ownsRow base 5 1 v n (cells8 l)) {y : Option Addr} {m c : Nat} {f : Nat → Nat} (hx : a.eval x = .slice y m c) (hy : BA W y m f) (hb : n + m ≤ 1000000) (hbase : base ≤ W.heap.size)
    (h : ∀ v' w', w'.ownsRow base 5 1 v' (n + m) (cells8 (l ++ fl f m)) → W.grownBy w' v.ownBlock → K (a.put op.dst v') w') :
    if Region.wanted op (yielded ops a.tmps) = true then Oper.wp Tryd.prog op a W K Q else E := by
  have hw : Region.wanted op (yielded ops a.tmps) = true := by simp [Region.wanted, hgd]
  rw [if_pos hw]
  obtain ⟨v', w', hr, h2, h3⟩ := run_app (c := c) hown hy hb hbase op.type
  unfold Oper.wp execOp
  simp only [ho, resolve, invoke, builtin, Sem.run_bind, Sem.run_pure, Result.andThen_ok, List.map_toArray, List.map_cons, List.map_nil, hs, hx, hr]
  exact h v' w' h2 h3
theorem below_append {w0 w w' : World} {v : Value} {n : Nat} {xs : List Value} (h : Below w0.heap.size w0 w) (ho : w.ownsRow w0.heap.size 5 1 v n xs) (hg : w.grownBy w' v.ownBlock) : Below w0.heap.size w0 w' :=
  h.grown hg h.size (fun k hk => (ho.lt k hk).1)
theorem own_empty (w : World) (base : Nat) (hb : base ≤ w.heap.size) : (w.alloc (.cells #[] 5)).ownsRow base 5 1 (.slice (some ⟨w.heap.size, 0, none⟩) 0 0) 0 (cells8 []) :=
  World.ownsRow_made w #[] 0 hb (by decide) rfl
/-- The same, at a plain region's list. -/
theorem wpList_app {W : World} {ops : Array Oper} {rest : List Oper} {op : Oper} {a : Act} {Q : Exit → Act → World → Prop} (hgd : op.guard = none) (s x : Operand)
    (ho : op.op = .call { callee := .builtin .append, args := #[s, x], argTypes := #[43, 43] })
    {base : Nat} {v : Value} {n : Nat} {l : List Nat} (hs : a.eval s = v) (hown : W.ownsRow base 5 1 v n (cells8 l)) {y : Option Addr} {m c : Nat} {f : Nat → Nat} (hx : a.eval x = .slice y m c) (hy : BA W y m f) (hb : n + m ≤ 1000000) (hbase : base ≤ W.heap.size)
    (h : ∀ v' w', w'.ownsRow base 5 1 v' (n + m) (cells8 (l ++ fl f m)) → W.grownBy w' v.ownBlock → wpList Tryd.prog ops Q rest (a.put op.dst v') w') : wpList Tryd.prog ops Q (op :: rest) a W := by
  refine wpList_plain hgd fun K hK => ?_
  obtain ⟨v', w', hr, h2, h3⟩ := run_app (c := c) hown hy hb hbase op.type
  unfold Oper.wp execOp
  simp only [ho, resolve, invoke, builtin, Sem.run_bind, Sem.run_pure, Result.andThen_ok, List.map_toArray, List.map_cons, List.map_nil, hs, hx, hr]
  exact hK _ _ (h v' w' h2 h3)
/-- One byte that was laid in a block of its own. -/
theorem one_made (w : World) (x : Nat) (h : x < 256) : BA (w.alloc (.cells #[.int .u8 (x : Int)] 5)) (some ⟨w.heap.size, 0, none⟩) 1 (fun _ => x) :=
  ⟨fun _ => h, Or.inr ⟨_, _, rfl, ⟨fun i hi => by
    obtain rfl : i = 0 := by omega
    rw [cell_of_row _ _ _ _ _ _ (heap_alloc_new w _)]; rfl⟩⟩⟩
end Go.Proofs.YtolehamdaceikaaDoor
