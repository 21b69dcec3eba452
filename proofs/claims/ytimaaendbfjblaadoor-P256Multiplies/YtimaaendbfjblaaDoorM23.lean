/- The statements of layer 8, walked over what the program answers. What the document's own Add answers, for all numbers: the same as limb.Add. What the document's own Sub answers, for all numbers: the same as limb.Sub. What the document's own Modulus and plus answer. What the document's own Fold answers: a number modulo each modulus. What the document's own numbers modulo the moduli are, as the statements of layer 8 ask them. -/
import Derived.Test.YtimaaendbfjblaaDoorM22
import Derived.Test.YtimaaendbfjblaaDoorM02
import Derived.Test.YtimaaendbfjblaaDoorM20
import Derived.Test.YtimaaendbfjblaaDoorM03
import Derived.Deep.LoopGhost
namespace Go.Proofs.YtimaaendbfjblaaDoor
open Go.RowKit

set_option maxRecDepth 100000 in
set_option maxHeartbeats 4000000 in
theorem adds_walk {w : World} (hT : Tab w) {X Y X2 Y2 : Int} (hX : Num X) (hY : Num Y) (hX2 : Num X2) (hY2 : Num Y2) (t t2 : Bool) : Calls Tryd.prog 3 [.agg (rc X Y t).toArray, .agg (rc X2 Y2 t2).toArray].toArray w fun e w' => e = .returned (.bool true) ∧ Below w.heap.size w w' := by
  refine enter (args := [.agg (rc X Y t).toArray, .agg (rc X2 Y2 t2).toArray]) Tryd.func3 rfl 22 rfl (lk rfl) (fun a h => ?_)
  refine go_region h hm [eN 2 (rc X Y t), eN 3 (rc X2 Y2 t2), eS 4 (.val (Value.bool false))] (by kernel_rfl) ⟨
    fun L u => u_box u (gd0 rfl) 26 (.tmp 0) rfl 2 rfl rfl rfl _ rfl,
    fun L u => u_box u (gd0 rfl) 26 (.tmp 1) rfl 3 rfl rfl rfl _ rfl,
    fun L u => u_move u (gd0 rfl) 4 rfl (.const (.bool false)) (Or.inr rfl) rfl,
    trivial⟩ [(2, .ptr 2 0), (3, .ptr 3 0)] [(2, rc X Y t), (3, rc X2 Y2 t2)] ⟨rfl, rfl, trivial⟩ ⟨rfl, rfl, trivial⟩ rfl (fun a w h => ?_)
  refine go_region h hm [eS 5 (.val (Value.bool true)), eS 6 (.val (Value.bool true)), eS 7 (.val (.agg (rc X Y t).toArray)), eS 8 (.val (Value.bool (fmd X Y t))), eS 9 (.val (.agg (rc X Y t).toArray)), eS 10 (.val (Value.bool (fmd X Y t))), eS 11 (.val (Value.bool true)), eS 12 (.val (Value.bool true)), eS 13 (.val (Value.bool true)), eS 14 (.val (.agg (rc X Y t).toArray)), eS 15 (.val (.agg (rc X2 Y2 t2).toArray)), eS 16 (.val (.agg (pc (wplus (rp X Y t) (rp X2 Y2 t2))).toArray)), eS 17 (.val (.agg (rc X Y t).toArray)), eS 18 (.val (.agg (rc X2 Y2 t2).toArray)), eS 19 (.val (.agg (pc (wplus (rp X Y t) (rp X2 Y2 t2))).toArray)), eS 20 (.val (Value.bool true)), eS 21 (.val (Value.bool true)), eS 4 (.val (Value.bool true))] (by kernel_rfl) ⟨
    fun L u => u_call u (gd0 rfl) 5 rfl 9 #[] #[] rfl [] rfl (cE9 _) (Value.bool true) (fun w hb => awake_any (hT.keep (Bs.kp_of hb))),
    fun L u => u_move u (gd0 rfl) 6 rfl (.tmp 5) (Or.inl rfl) rfl,
    fun L u => u_load u (gd1 u 1 true rfl 6 rfl (lk rfl) rfl) 7 rfl 26 (.tmp 2) rfl rfl rfl Tryd.underlying26 rfl i26 (lk rfl) _ rfl,
    fun L u => u_call u (gd1 u 1 true rfl 6 rfl (lk rfl) rfl) 8 rfl 10 #[(.tmp 7)] #[26] rfl [.agg (rc X Y t).toArray] rfl (cE10 _) (Value.bool (fmd X Y t)) (fun w hb => q_Formed (hT.keep (Bs.kp_of hb)) hX hY t),
    fun L u => u_load u (gd1 u 1 true rfl 6 rfl (lk rfl) rfl) 9 rfl 26 (.tmp 2) rfl rfl rfl Tryd.underlying26 rfl i26 (lk rfl) _ rfl,
    fun L u => u_call u (gd1 u 1 true rfl 6 rfl (lk rfl) rfl) 10 rfl 11 #[(.tmp 9)] #[26] rfl [.agg (rc X Y t).toArray] rfl (cE11 _) (Value.bool (fmd X Y t)) (fun w hb => r_Formed (hT.keep (Bs.kp_of hb)) hX hY t),
    fun L u => u_bin u (gd1 u 1 true rfl 6 rfl (lk rfl) rfl) 11 rfl .eql 4 4 (.tmp 8) (.tmp 10) rfl rfl rfl (eqg_bool _ _ _ _ _ _) (Value.bool true) (yes_of (fun w => t_eql _ Tryd.underlying4 _ _ w) rfl),
    fun L u => u_pick u (gd0 rfl) 12 rfl (.tmp 6) (.tmp 11) (.const (.bool false)) rfl rfl rfl rfl _ rfl,
    fun L u => u_move u (gd0 rfl) 13 rfl (.tmp 12) (Or.inl rfl) rfl,
    fun L u => u_load u (gd1 u 8 true rfl 13 rfl (lk rfl) rfl) 14 rfl 26 (.tmp 2) rfl rfl rfl Tryd.underlying26 rfl i26 (lk rfl) _ rfl,
    fun L u => u_load u (gd1 u 8 true rfl 13 rfl (lk rfl) rfl) 15 rfl 26 (.tmp 3) rfl rfl rfl Tryd.underlying26 rfl i26 (lk rfl) _ rfl,
    fun L u => u_call u (gd1 u 8 true rfl 13 rfl (lk rfl) rfl) 16 rfl 12 #[(.tmp 14), (.tmp 15)] #[26, 26] rfl [.agg (rc X Y t).toArray, .agg (rc X2 Y2 t2).toArray] rfl (cE12 _) (.agg (pc (wplus (rp X Y t) (rp X2 Y2 t2))).toArray) (fun w hb => q_Add (hT.keep (Bs.kp_of hb)) hX hY hX2 hY2 t t2),
    fun L u => u_load u (gd1 u 8 true rfl 13 rfl (lk rfl) rfl) 17 rfl 26 (.tmp 2) rfl rfl rfl Tryd.underlying26 rfl i26 (lk rfl) _ rfl,
    fun L u => u_load u (gd1 u 8 true rfl 13 rfl (lk rfl) rfl) 18 rfl 26 (.tmp 3) rfl rfl rfl Tryd.underlying26 rfl i26 (lk rfl) _ rfl,
    fun L u => u_call u (gd1 u 8 true rfl 13 rfl (lk rfl) rfl) 19 rfl 13 #[(.tmp 17), (.tmp 18)] #[26, 26] rfl [.agg (rc X Y t).toArray, .agg (rc X2 Y2 t2).toArray] rfl (cE13 _) (.agg (pc (wplus (rp X Y t) (rp X2 Y2 t2))).toArray) (fun w hb => r_Add (hT.keep (Bs.kp_of hb)) hX hY hX2 hY2 t t2),
    fun L u => u_eql u (gd1 u 8 true rfl 13 rfl (lk rfl) rfl) 20 rfl 26 26 (.tmp 16) (.tmp 19) rfl rfl rfl Tryd.eqGuardType26 (true) (fun w => eq_pc_same _ w),
    fun L u => u_pick u (gd0 rfl) 21 rfl (.tmp 13) (.tmp 20) (.const (.bool false)) rfl rfl rfl rfl _ rfl,
    fun L u => u_move u (gd0 rfl) 4 rfl (.tmp 21) (Or.inr rfl) rfl,
    trivial⟩ [(4, .val (Value.bool true))] [] ⟨rfl, trivial⟩ trivial rfl (fun a w h => ?_)
  refine wp_ret ?_
  refine ret_slot h 4 rfl (lk rfl) (Value.bool true) rfl ?_
  exact ⟨rfl, h.grows⟩
set_option maxRecDepth 100000 in
set_option maxHeartbeats 4000000 in
theorem mult_walk {w : World} (hT : Tab w) {k : Nat} (hk : k < 2 ^ 256) {X Y : Int} (hX : Num X) (hY : Num Y) (t : Bool) : Calls Tryd.prog 4 [.agg (nc ((k : Int))).toArray, .agg (rc X Y t).toArray].toArray w fun e w' => e = .returned (.bool true) ∧ Below w.heap.size w w' := by
  refine enter (args := [.agg (nc ((k : Int))).toArray, .agg (rc X Y t).toArray]) Tryd.func4 rfl 15 rfl (lk rfl) (fun a h => ?_)
  refine go_region h hm [eN 2 (nc ((k : Int))), eN 3 (rc X Y t), eS 4 (.val (Value.bool false))] (by kernel_rfl) ⟨
    fun L u => u_box u (gd0 rfl) 24 (.tmp 0) rfl 2 rfl rfl rfl _ rfl,
    fun L u => u_box u (gd0 rfl) 26 (.tmp 1) rfl 3 rfl rfl rfl _ rfl,
    fun L u => u_move u (gd0 rfl) 4 rfl (.const (.bool false)) (Or.inr rfl) rfl,
    trivial⟩ [(2, .ptr 2 0), (3, .ptr 3 0)] [(2, nc ((k : Int))), (3, rc X Y t)] ⟨rfl, rfl, trivial⟩ ⟨rfl, rfl, trivial⟩ rfl (fun a w h => ?_)
  refine go_region h hm [eS 5 (.val (Value.bool true)), eS 6 (.val (Value.bool true)), eS 7 (.val (.agg (nc ((k : Int))).toArray)), eS 8 (.val (.agg (rc X Y t).toArray)), eS 9 (.val (.agg (pc (mt wplus Wp.o (rp X Y t) k)).toArray)), eS 10 (.val (.agg (nc ((k : Int))).toArray)), eS 11 (.val (.agg (rc X Y t).toArray)), eS 12 (.val (.agg (pc (mt wplus Wp.o (rp X Y t) k)).toArray)), eS 13 (.val (Value.bool true)), eS 14 (.val (Value.bool true)), eS 4 (.val (Value.bool true))] (by kernel_rfl) ⟨
    fun L u => u_call u (gd0 rfl) 5 rfl 9 #[] #[] rfl [] rfl (cE9 _) (Value.bool true) (fun w hb => awake_any (hT.keep (Bs.kp_of hb))),
    fun L u => u_move u (gd0 rfl) 6 rfl (.tmp 5) (Or.inl rfl) rfl,
    fun L u => u_load u (gd1 u 1 true rfl 6 rfl (lk rfl) rfl) 7 rfl 24 (.tmp 2) rfl rfl rfl Tryd.underlying24 rfl i24 (lk rfl) _ rfl,
    fun L u => u_load u (gd1 u 1 true rfl 6 rfl (lk rfl) rfl) 8 rfl 26 (.tmp 3) rfl rfl rfl Tryd.underlying26 rfl i26 (lk rfl) _ rfl,
    fun L u => u_call u (gd1 u 1 true rfl 6 rfl (lk rfl) rfl) 9 rfl 14 #[(.tmp 7), (.tmp 8)] #[24, 26] rfl [.agg (nc ((k : Int))).toArray, .agg (rc X Y t).toArray] rfl (cE14 _) (.agg (pc (mt wplus Wp.o (rp X Y t) k)).toArray) (fun w hb => q_Mul (hT.keep (Bs.kp_of hb)) hk hX hY t),
    fun L u => u_load u (gd1 u 1 true rfl 6 rfl (lk rfl) rfl) 10 rfl 24 (.tmp 2) rfl rfl rfl Tryd.underlying24 rfl i24 (lk rfl) _ rfl,
    fun L u => u_load u (gd1 u 1 true rfl 6 rfl (lk rfl) rfl) 11 rfl 26 (.tmp 3) rfl rfl rfl Tryd.underlying26 rfl i26 (lk rfl) _ rfl,
    fun L u => u_call u (gd1 u 1 true rfl 6 rfl (lk rfl) rfl) 12 rfl 15 #[(.tmp 10), (.tmp 11)] #[24, 26] rfl [.agg (nc ((k : Int))).toArray, .agg (rc X Y t).toArray] rfl (cE15 _) (.agg (pc (mt wplus Wp.o (rp X Y t) k)).toArray) (fun w hb => r_Mul (hT.keep (Bs.kp_of hb)) hk hX hY t),
    fun L u => u_eql u (gd1 u 1 true rfl 6 rfl (lk rfl) rfl) 13 rfl 26 26 (.tmp 9) (.tmp 12) rfl rfl rfl Tryd.eqGuardType26 (true) (fun w => eq_pc_same _ w),
    fun L u => u_pick u (gd0 rfl) 14 rfl (.tmp 6) (.tmp 13) (.const (.bool false)) rfl rfl rfl rfl _ rfl,
    fun L u => u_move u (gd0 rfl) 4 rfl (.tmp 14) (Or.inr rfl) rfl,
    trivial⟩ [(4, .val (Value.bool true))] [] ⟨rfl, trivial⟩ trivial rfl (fun a w h => ?_)
  refine wp_ret ?_
  refine ret_slot h 4 rfl (lk rfl) (Value.bool true) rfl ?_
  exact ⟨rfl, h.grows⟩
set_option maxRecDepth 100000 in
set_option maxHeartbeats 4000000 in
theorem group_false {w : World} (hT : Tab w) {k1 k2 k3 s : Nat} (hk1 : k1 < 2 ^ 256) (hk2 : k2 < 2 ^ 256) (hk3 : k3 < 2 ^ 256) (hs_ : s < 2 ^ 256) (hs : s = k1 + k2) (HA : ∀ w : World, Calls Tryd.prog 18 [.agg (nc (k1 : Int)).toArray, .agg (nc (k2 : Int)).toArray].toArray w fun e w' => e = .returned (.tuple [.agg (nc (s : Int)).toArray, .bool false].toArray) ∧ Below w.heap.size w w') : Calls Tryd.prog 6 [.agg (nc ((k1 : Int))).toArray, .agg (nc ((k2 : Int))).toArray, .agg (nc ((k3 : Int))).toArray].toArray w fun e w' => e = .returned (.bool true) ∧ Below w.heap.size w w' := by
  refine enter (args := [.agg (nc ((k1 : Int))).toArray, .agg (nc ((k2 : Int))).toArray, .agg (nc ((k3 : Int))).toArray]) Tryd.func6 rfl 61 rfl (lk rfl) (fun a h => ?_)
  refine go_region h hm [eN 3 (nc ((k1 : Int))), eN 4 (nc ((k2 : Int))), eN 5 (nc ((k3 : Int))), eS 6 (.val (Value.bool false))] (by kernel_rfl) ⟨
    fun L u => u_box u (gd0 rfl) 24 (.tmp 0) rfl 3 rfl rfl rfl _ rfl,
    fun L u => u_box u (gd0 rfl) 24 (.tmp 1) rfl 4 rfl rfl rfl _ rfl,
    fun L u => u_box u (gd0 rfl) 24 (.tmp 2) rfl 5 rfl rfl rfl _ rfl,
    fun L u => u_move u (gd0 rfl) 6 rfl (.const (.bool false)) (Or.inr rfl) rfl,
    trivial⟩ [(3, .ptr 3 0), (4, .ptr 4 0), (5, .ptr 5 0)] [(3, nc ((k1 : Int))), (4, nc ((k2 : Int))), (5, nc ((k3 : Int)))] ⟨rfl, rfl, rfl, trivial⟩ ⟨rfl, rfl, rfl, trivial⟩ rfl (fun a w h => ?_)
  refine go_region h hm [eS 12 (.val (.agg (nc ((k1 : Int))).toArray)), eS 13 (.val (.agg (pc (wG)).toArray)), eS 14 (.val (.agg (pc (mt wplus Wp.o (wG) k1)).toArray)), eS 15 (.val (.agg (nc ((k2 : Int))).toArray)), eS 16 (.val (.agg (pc (wG)).toArray)), eS 17 (.val (.agg (pc (mt wplus Wp.o (wG) k2)).toArray)), eS 18 (.val (.agg (nc ((k3 : Int))).toArray)), eS 19 (.val (.agg (pc (wG)).toArray)), eS 20 (.val (.agg (pc (mt wplus Wp.o (wG) k3)).toArray)), eN 7 (nz ++ nz ++ [Value.bool false]), eN 8 (nz ++ nz ++ [Value.bool false]), eN 9 (nz ++ nz ++ [Value.bool false]), eM 7 (pc (mt wplus Wp.o (wG) k1)), eM 8 (pc (mt wplus Wp.o (wG) k2)), eM 9 (pc (mt wplus Wp.o (wG) k3))] (by kernel_rfl) ⟨
    fun L u => u_load u (gd0 rfl) 12 rfl 24 (.tmp 3) rfl rfl rfl Tryd.underlying24 rfl i24 (lk rfl) _ rfl,
    fun L u => u_call u (gd0 rfl) 13 rfl 16 #[] #[] rfl [] rfl (cE16 _) (.agg (pc (wG)).toArray) (fun w hb => q_Base),
    fun L u => u_call u (gd0 rfl) 14 rfl 14 #[(.tmp 12), (.tmp 13)] #[24, 26] rfl [.agg (nc ((k1 : Int))).toArray, .agg (pc (wG)).toArray] rfl (cE14 _) (.agg (pc (mt wplus Wp.o (wG) k1)).toArray) (fun w hb => q_MulP (hT.keep (Bs.kp_of hb)) hk1 wG_on),
    fun L u => u_load u (gd0 rfl) 15 rfl 24 (.tmp 4) rfl rfl rfl Tryd.underlying24 rfl i24 (lk rfl) _ rfl,
    fun L u => u_call u (gd0 rfl) 16 rfl 16 #[] #[] rfl [] rfl (cE16 _) (.agg (pc (wG)).toArray) (fun w hb => q_Base),
    fun L u => u_call u (gd0 rfl) 17 rfl 14 #[(.tmp 15), (.tmp 16)] #[24, 26] rfl [.agg (nc ((k2 : Int))).toArray, .agg (pc (wG)).toArray] rfl (cE14 _) (.agg (pc (mt wplus Wp.o (wG) k2)).toArray) (fun w hb => q_MulP (hT.keep (Bs.kp_of hb)) hk2 wG_on),
    fun L u => u_load u (gd0 rfl) 18 rfl 24 (.tmp 5) rfl rfl rfl Tryd.underlying24 rfl i24 (lk rfl) _ rfl,
    fun L u => u_call u (gd0 rfl) 19 rfl 16 #[] #[] rfl [] rfl (cE16 _) (.agg (pc (wG)).toArray) (fun w hb => q_Base),
    fun L u => u_call u (gd0 rfl) 20 rfl 14 #[(.tmp 18), (.tmp 19)] #[24, 26] rfl [.agg (nc ((k3 : Int))).toArray, .agg (pc (wG)).toArray] rfl (cE14 _) (.agg (pc (mt wplus Wp.o (wG) k3)).toArray) (fun w hb => q_MulP (hT.keep (Bs.kp_of hb)) hk3 wG_on),
    fun L u => u_alloc u (gd0 rfl) 26 rfl 7 rfl rfl z26 _ rfl,
    fun L u => u_alloc u (gd0 rfl) 26 rfl 8 rfl rfl z26 _ rfl,
    fun L u => u_alloc u (gd0 rfl) 26 rfl 9 rfl rfl z26 _ rfl,
    fun L u => u_store u (gd0 rfl) 26 (.tmp 7) (.tmp 14) rfl rfl rfl (vs := pc (mt wplus Wp.o (wG) k1)) rfl rfl i26 (lk rfl) rfl _ rfl,
    fun L u => u_store u (gd0 rfl) 26 (.tmp 8) (.tmp 17) rfl rfl rfl (vs := pc (mt wplus Wp.o (wG) k2)) rfl rfl i26 (lk rfl) rfl _ rfl,
    fun L u => u_store u (gd0 rfl) 26 (.tmp 9) (.tmp 20) rfl rfl rfl (vs := pc (mt wplus Wp.o (wG) k3)) rfl rfl i26 (lk rfl) rfl _ rfl,
    trivial⟩ [(3, .ptr 3 0), (4, .ptr 4 0), (7, .ptr 7 0), (8, .ptr 8 0), (9, .ptr 9 0)] [(3, nc ((k1 : Int))), (4, nc ((k2 : Int))), (7, pc (mt wplus Wp.o (wG) k1)), (8, pc (mt wplus Wp.o (wG) k2)), (9, pc (mt wplus Wp.o (wG) k3))] ⟨rfl, rfl, rfl, rfl, rfl, trivial⟩ ⟨rfl, rfl, rfl, rfl, rfl, trivial⟩ rfl (fun a w h => ?_)
  refine go_region h hm [eS 22 (.val (.agg (nc ((k1 : Int))).toArray)), eS 23 (.val (.agg (nc ((k2 : Int))).toArray)), eS 24 (.val (.tuple [.agg (nc ((s : Int))).toArray, Value.bool false].toArray)), eS 21 (.val (.tuple [.agg (nc ((s : Int))).toArray, Value.bool false].toArray)), eS 25 (.val (.agg (nc ((s : Int))).toArray)), eS 26 (.val (Value.bool false)), eN 10 (nz), eM 10 (nc ((s : Int))), eS 11 (.val (Value.bool false))] (by kernel_rfl) ⟨
    fun L u => u_load u (gd0 rfl) 22 rfl 24 (.tmp 3) rfl rfl rfl Tryd.underlying24 rfl i24 (lk rfl) _ rfl,
    fun L u => u_load u (gd0 rfl) 23 rfl 24 (.tmp 4) rfl rfl rfl Tryd.underlying24 rfl i24 (lk rfl) _ rfl,
    fun L u => u_call u (gd0 rfl) 24 rfl 18 #[(.tmp 22), (.tmp 23)] #[24, 24] rfl [.agg (nc ((k1 : Int))).toArray, .agg (nc ((k2 : Int))).toArray] rfl (cE18 _) (.tuple [.agg (nc ((s : Int))).toArray, Value.bool false].toArray) (fun w hb => HA w),
    fun L u => u_move u (gd0 rfl) 21 rfl (.tmp 24) (Or.inl rfl) rfl,
    fun L u => u_part u (gd0 rfl) 25 rfl (.tmp 21) 0 rfl (vs := [.agg (nc ((s : Int))).toArray, Value.bool false]) rfl _ rfl,
    fun L u => u_part u (gd0 rfl) 26 rfl (.tmp 21) 1 rfl (vs := [.agg (nc ((s : Int))).toArray, Value.bool false]) rfl _ rfl,
    fun L u => u_alloc u (gd0 rfl) 24 rfl 10 rfl rfl z24 _ rfl,
    fun L u => u_store u (gd0 rfl) 24 (.tmp 10) (.tmp 25) rfl rfl rfl (vs := nc ((s : Int))) rfl rfl i24 (lk rfl) rfl _ rfl,
    fun L u => u_move u (gd0 rfl) 11 rfl (.tmp 26) (Or.inr rfl) rfl,
    trivial⟩ [(7, .ptr 7 0), (8, .ptr 8 0), (9, .ptr 9 0), (10, .ptr 10 0), (11, .val (Value.bool false))] [(7, pc (mt wplus Wp.o (wG) k1)), (8, pc (mt wplus Wp.o (wG) k2)), (9, pc (mt wplus Wp.o (wG) k3)), (10, nc ((s : Int)))] ⟨rfl, rfl, rfl, rfl, rfl, trivial⟩ ⟨rfl, rfl, rfl, rfl, trivial⟩ rfl (fun a w h => ?_)
  refine wp_seq ?_
  refine go_region h hm [eS 27 (.val (Value.bool true)), eS 28 (.val (Value.bool false)), eS 29 (.val (Value.bool false)), eS 30 (.val (.agg (pc (mt wplus Wp.o (wG) k1)).toArray)), eS 31 (.val (.agg (pc (mt wplus Wp.o (wG) k2)).toArray)), eS 32 (.val (.agg (pc (wplus (mt wplus Wp.o (wG) k1) (mt wplus Wp.o (wG) k2))).toArray)), eS 33 (.val (.agg (pc (mt wplus Wp.o (wG) k2)).toArray)), eS 34 (.val (.agg (pc (mt wplus Wp.o (wG) k1)).toArray)), eS 35 (.val (.agg (pc (wplus (mt wplus Wp.o (wG) k2) (mt wplus Wp.o (wG) k1))).toArray)), eS 36 (.val (Value.bool false)), eS 37 (.val (Value.bool false)), eS 38 (.val (Value.bool false)), eS 39 (.val (.agg (pc (mt wplus Wp.o (wG) k1)).toArray)), eS 40 (.val (.agg (pc (mt wplus Wp.o (wG) k2)).toArray)), eS 41 (.val (.agg (pc (wplus (mt wplus Wp.o (wG) k1) (mt wplus Wp.o (wG) k2))).toArray)), eS 42 (.val (.agg (pc (mt wplus Wp.o (wG) k3)).toArray)), eS 43 (.val (.agg (pc (wplus (wplus (mt wplus Wp.o (wG) k1) (mt wplus Wp.o (wG) k2)) (mt wplus Wp.o (wG) k3))).toArray)), eS 44 (.val (.agg (pc (mt wplus Wp.o (wG) k1)).toArray)), eS 45 (.val (.agg (pc (mt wplus Wp.o (wG) k2)).toArray)), eS 46 (.val (.agg (pc (mt wplus Wp.o (wG) k3)).toArray)), eS 47 (.val (.agg (pc (wplus (mt wplus Wp.o (wG) k2) (mt wplus Wp.o (wG) k3))).toArray)), eS 48 (.val (.agg (pc (wplus (mt wplus Wp.o (wG) k1) (wplus (mt wplus Wp.o (wG) k2) (mt wplus Wp.o (wG) k3)))).toArray)), eS 49 (.val (Value.bool false)), eS 50 (.val (Value.bool false))] (by kernel_rfl) ⟨
    fun L u => u_call u (gd0 rfl) 27 rfl 9 #[] #[] rfl [] rfl (cE9 _) (Value.bool true) (fun w hb => awake_any (hT.keep (Bs.kp_of hb))),
    fun L u => u_not u (gd0 rfl) 28 rfl 4 (.tmp 27) rfl rfl _ rfl,
    fun L u => u_move u (gd0 rfl) 29 rfl (.tmp 28) (Or.inl rfl) rfl,
    fun L u => u_load u (gd1 u 2 false rfl 29 rfl (lk rfl) rfl) 30 rfl 26 (.tmp 7) rfl rfl rfl Tryd.underlying26 rfl i26 (lk rfl) _ rfl,
    fun L u => u_load u (gd1 u 2 false rfl 29 rfl (lk rfl) rfl) 31 rfl 26 (.tmp 8) rfl rfl rfl Tryd.underlying26 rfl i26 (lk rfl) _ rfl,
    fun L u => u_call u (gd1 u 2 false rfl 29 rfl (lk rfl) rfl) 32 rfl 12 #[(.tmp 30), (.tmp 31)] #[26, 26] rfl [.agg (pc (mt wplus Wp.o (wG) k1)).toArray, .agg (pc (mt wplus Wp.o (wG) k2)).toArray] rfl (cE12 _) (.agg (pc (wplus (mt wplus Wp.o (wG) k1) (mt wplus Wp.o (wG) k2))).toArray) (fun w hb => q_AddP (hT.keep (Bs.kp_of hb)) (mt_on wgr wG_on _) (mt_on wgr wG_on _)),
    fun L u => u_load u (gd1 u 2 false rfl 29 rfl (lk rfl) rfl) 33 rfl 26 (.tmp 8) rfl rfl rfl Tryd.underlying26 rfl i26 (lk rfl) _ rfl,
    fun L u => u_load u (gd1 u 2 false rfl 29 rfl (lk rfl) rfl) 34 rfl 26 (.tmp 7) rfl rfl rfl Tryd.underlying26 rfl i26 (lk rfl) _ rfl,
    fun L u => u_call u (gd1 u 2 false rfl 29 rfl (lk rfl) rfl) 35 rfl 12 #[(.tmp 33), (.tmp 34)] #[26, 26] rfl [.agg (pc (mt wplus Wp.o (wG) k2)).toArray, .agg (pc (mt wplus Wp.o (wG) k1)).toArray] rfl (cE12 _) (.agg (pc (wplus (mt wplus Wp.o (wG) k2) (mt wplus Wp.o (wG) k1))).toArray) (fun w hb => q_AddP (hT.keep (Bs.kp_of hb)) (mt_on wgr wG_on _) (mt_on wgr wG_on _)),
    fun L u => u_neq u (gd1 u 2 false rfl 29 rfl (lk rfl) rfl) 36 rfl 26 26 (.tmp 32) (.tmp 35) rfl rfl rfl Tryd.eqGuardType26 (true) (fun w => by rw [wgr.comm (mt wplus Wp.o (wG) k1) (mt wplus Wp.o (wG) k2)]; exact eq_pc_same _ w),
    fun L u => u_pick u (gd0 rfl) 37 rfl (.tmp 29) (.const (.bool true)) (.tmp 36) rfl rfl rfl rfl _ rfl,
    fun L u => u_move u (gd0 rfl) 38 rfl (.tmp 37) (Or.inl rfl) rfl,
    fun L u => u_load u (gd1 u 11 false rfl 38 rfl (lk rfl) rfl) 39 rfl 26 (.tmp 7) rfl rfl rfl Tryd.underlying26 rfl i26 (lk rfl) _ rfl,
    fun L u => u_load u (gd1 u 11 false rfl 38 rfl (lk rfl) rfl) 40 rfl 26 (.tmp 8) rfl rfl rfl Tryd.underlying26 rfl i26 (lk rfl) _ rfl,
    fun L u => u_call u (gd1 u 11 false rfl 38 rfl (lk rfl) rfl) 41 rfl 12 #[(.tmp 39), (.tmp 40)] #[26, 26] rfl [.agg (pc (mt wplus Wp.o (wG) k1)).toArray, .agg (pc (mt wplus Wp.o (wG) k2)).toArray] rfl (cE12 _) (.agg (pc (wplus (mt wplus Wp.o (wG) k1) (mt wplus Wp.o (wG) k2))).toArray) (fun w hb => q_AddP (hT.keep (Bs.kp_of hb)) (mt_on wgr wG_on _) (mt_on wgr wG_on _)),
    fun L u => u_load u (gd1 u 11 false rfl 38 rfl (lk rfl) rfl) 42 rfl 26 (.tmp 9) rfl rfl rfl Tryd.underlying26 rfl i26 (lk rfl) _ rfl,
    fun L u => u_call u (gd1 u 11 false rfl 38 rfl (lk rfl) rfl) 43 rfl 12 #[(.tmp 41), (.tmp 42)] #[26, 26] rfl [.agg (pc (wplus (mt wplus Wp.o (wG) k1) (mt wplus Wp.o (wG) k2))).toArray, .agg (pc (mt wplus Wp.o (wG) k3)).toArray] rfl (cE12 _) (.agg (pc (wplus (wplus (mt wplus Wp.o (wG) k1) (mt wplus Wp.o (wG) k2)) (mt wplus Wp.o (wG) k3))).toArray) (fun w hb => q_AddP (hT.keep (Bs.kp_of hb)) (wgr.mem (mt_on wgr wG_on _) (mt_on wgr wG_on _)) (mt_on wgr wG_on _)),
    fun L u => u_load u (gd1 u 11 false rfl 38 rfl (lk rfl) rfl) 44 rfl 26 (.tmp 7) rfl rfl rfl Tryd.underlying26 rfl i26 (lk rfl) _ rfl,
    fun L u => u_load u (gd1 u 11 false rfl 38 rfl (lk rfl) rfl) 45 rfl 26 (.tmp 8) rfl rfl rfl Tryd.underlying26 rfl i26 (lk rfl) _ rfl,
    fun L u => u_load u (gd1 u 11 false rfl 38 rfl (lk rfl) rfl) 46 rfl 26 (.tmp 9) rfl rfl rfl Tryd.underlying26 rfl i26 (lk rfl) _ rfl,
    fun L u => u_call u (gd1 u 11 false rfl 38 rfl (lk rfl) rfl) 47 rfl 12 #[(.tmp 45), (.tmp 46)] #[26, 26] rfl [.agg (pc (mt wplus Wp.o (wG) k2)).toArray, .agg (pc (mt wplus Wp.o (wG) k3)).toArray] rfl (cE12 _) (.agg (pc (wplus (mt wplus Wp.o (wG) k2) (mt wplus Wp.o (wG) k3))).toArray) (fun w hb => q_AddP (hT.keep (Bs.kp_of hb)) (mt_on wgr wG_on _) (mt_on wgr wG_on _)),
    fun L u => u_call u (gd1 u 11 false rfl 38 rfl (lk rfl) rfl) 48 rfl 12 #[(.tmp 44), (.tmp 47)] #[26, 26] rfl [.agg (pc (mt wplus Wp.o (wG) k1)).toArray, .agg (pc (wplus (mt wplus Wp.o (wG) k2) (mt wplus Wp.o (wG) k3))).toArray] rfl (cE12 _) (.agg (pc (wplus (mt wplus Wp.o (wG) k1) (wplus (mt wplus Wp.o (wG) k2) (mt wplus Wp.o (wG) k3)))).toArray) (fun w hb => q_AddP (hT.keep (Bs.kp_of hb)) (mt_on wgr wG_on _) (wgr.mem (mt_on wgr wG_on _) (mt_on wgr wG_on _))),
    fun L u => u_neq u (gd1 u 11 false rfl 38 rfl (lk rfl) rfl) 49 rfl 26 26 (.tmp 43) (.tmp 48) rfl rfl rfl Tryd.eqGuardType26 (true) (fun w => by rw [wgr.ass (mt_on wgr wG_on k1) (mt_on wgr wG_on k2) (mt_on wgr wG_on k3)]; exact eq_pc_same _ w),
    fun L u => u_pick u (gd0 rfl) 50 rfl (.tmp 38) (.const (.bool true)) (.tmp 49) rfl rfl rfl rfl _ rfl,
    trivial⟩ [(7, .ptr 7 0), (8, .ptr 8 0), (10, .ptr 10 0), (11, .val (Value.bool false)), (50, .val (Value.bool false))] [(7, pc (mt wplus Wp.o (wG) k1)), (8, pc (mt wplus Wp.o (wG) k2)), (10, nc ((s : Int)))] ⟨rfl, rfl, rfl, rfl, rfl, trivial⟩ ⟨rfl, rfl, rfl, trivial⟩ rfl (fun a w h => ?_)
  refine go_cond h false rfl (fun ht => ?_) (fun hf => ?_)
  case refine_1 => cases ht
  refine wp_skip ?_
  refine then_norm ?_
  refine go_region h hm [eS 51 (.val (Value.bool false)), eS 52 (.val (Value.bool false)), eS 53 (.val (.agg (nc ((s : Int))).toArray)), eS 54 (.val (.agg (pc (wG)).toArray)), eS 55 (.val (.agg (pc (mt wplus Wp.o (wG) s)).toArray)), eS 56 (.val (.agg (pc (mt wplus Wp.o (wG) k1)).toArray)), eS 57 (.val (.agg (pc (mt wplus Wp.o (wG) k2)).toArray)), eS 58 (.val (.agg (pc (wplus (mt wplus Wp.o (wG) k1) (mt wplus Wp.o (wG) k2))).toArray)), eS 59 (.val (Value.bool true)), eS 60 (.val (Value.bool true)), eS 6 (.val (Value.bool true))] (by kernel_rfl) ⟨
    fun L u => u_move u (gd0 rfl) 51 rfl (.tmp 11) (Or.inl rfl) rfl,
    fun L u => u_move u (gd0 rfl) 52 rfl (.tmp 51) (Or.inl rfl) rfl,
    fun L u => u_load u (gd1 u 1 false rfl 52 rfl (lk rfl) rfl) 53 rfl 24 (.tmp 10) rfl rfl rfl Tryd.underlying24 rfl i24 (lk rfl) _ rfl,
    fun L u => u_call u (gd1 u 1 false rfl 52 rfl (lk rfl) rfl) 54 rfl 16 #[] #[] rfl [] rfl (cE16 _) (.agg (pc (wG)).toArray) (fun w hb => q_Base),
    fun L u => u_call u (gd1 u 1 false rfl 52 rfl (lk rfl) rfl) 55 rfl 14 #[(.tmp 53), (.tmp 54)] #[24, 26] rfl [.agg (nc ((s : Int))).toArray, .agg (pc (wG)).toArray] rfl (cE14 _) (.agg (pc (mt wplus Wp.o (wG) s)).toArray) (fun w hb => q_MulP (hT.keep (Bs.kp_of hb)) hs_ wG_on),
    fun L u => u_load u (gd1 u 1 false rfl 52 rfl (lk rfl) rfl) 56 rfl 26 (.tmp 7) rfl rfl rfl Tryd.underlying26 rfl i26 (lk rfl) _ rfl,
    fun L u => u_load u (gd1 u 1 false rfl 52 rfl (lk rfl) rfl) 57 rfl 26 (.tmp 8) rfl rfl rfl Tryd.underlying26 rfl i26 (lk rfl) _ rfl,
    fun L u => u_call u (gd1 u 1 false rfl 52 rfl (lk rfl) rfl) 58 rfl 12 #[(.tmp 56), (.tmp 57)] #[26, 26] rfl [.agg (pc (mt wplus Wp.o (wG) k1)).toArray, .agg (pc (mt wplus Wp.o (wG) k2)).toArray] rfl (cE12 _) (.agg (pc (wplus (mt wplus Wp.o (wG) k1) (mt wplus Wp.o (wG) k2))).toArray) (fun w hb => q_AddP (hT.keep (Bs.kp_of hb)) (mt_on wgr wG_on _) (mt_on wgr wG_on _)),
    fun L u => u_eql u (gd1 u 1 false rfl 52 rfl (lk rfl) rfl) 59 rfl 26 26 (.tmp 55) (.tmp 58) rfl rfl rfl Tryd.eqGuardType26 (true) (fun w => by rw [show mt wplus Wp.o wG s = wplus (mt wplus Wp.o wG k1) (mt wplus Wp.o wG k2) by rw [hs, mt_add wgr wG_on]]; exact eq_pc_same _ w),
    fun L u => u_pick u (gd0 rfl) 60 rfl (.tmp 52) (.const (.bool true)) (.tmp 59) rfl rfl rfl rfl _ rfl,
    fun L u => u_move u (gd0 rfl) 6 rfl (.tmp 60) (Or.inr rfl) rfl,
    trivial⟩ [(6, .val (Value.bool true))] [] ⟨rfl, trivial⟩ trivial rfl (fun a w h => ?_)
  refine wp_ret ?_
  refine ret_slot h 6 rfl (lk rfl) (Value.bool true) rfl ?_
  exact ⟨rfl, h.grows⟩
set_option maxRecDepth 100000 in
set_option maxHeartbeats 4000000 in
theorem group_true {w : World} (hT : Tab w) {k1 k2 k3 s : Nat} (hk1 : k1 < 2 ^ 256) (hk2 : k2 < 2 ^ 256) (hk3 : k3 < 2 ^ 256) (HA : ∀ w : World, Calls Tryd.prog 18 [.agg (nc (k1 : Int)).toArray, .agg (nc (k2 : Int)).toArray].toArray w fun e w' => e = .returned (.tuple [.agg (nc (s : Int)).toArray, .bool true].toArray) ∧ Below w.heap.size w w') : Calls Tryd.prog 6 [.agg (nc ((k1 : Int))).toArray, .agg (nc ((k2 : Int))).toArray, .agg (nc ((k3 : Int))).toArray].toArray w fun e w' => e = .returned (.bool true) ∧ Below w.heap.size w w' := by
  refine enter (args := [.agg (nc ((k1 : Int))).toArray, .agg (nc ((k2 : Int))).toArray, .agg (nc ((k3 : Int))).toArray]) Tryd.func6 rfl 61 rfl (lk rfl) (fun a h => ?_)
  refine go_region h hm [eN 3 (nc ((k1 : Int))), eN 4 (nc ((k2 : Int))), eN 5 (nc ((k3 : Int))), eS 6 (.val (Value.bool false))] (by kernel_rfl) ⟨
    fun L u => u_box u (gd0 rfl) 24 (.tmp 0) rfl 3 rfl rfl rfl _ rfl,
    fun L u => u_box u (gd0 rfl) 24 (.tmp 1) rfl 4 rfl rfl rfl _ rfl,
    fun L u => u_box u (gd0 rfl) 24 (.tmp 2) rfl 5 rfl rfl rfl _ rfl,
    fun L u => u_move u (gd0 rfl) 6 rfl (.const (.bool false)) (Or.inr rfl) rfl,
    trivial⟩ [(3, .ptr 3 0), (4, .ptr 4 0), (5, .ptr 5 0)] [(3, nc ((k1 : Int))), (4, nc ((k2 : Int))), (5, nc ((k3 : Int)))] ⟨rfl, rfl, rfl, trivial⟩ ⟨rfl, rfl, rfl, trivial⟩ rfl (fun a w h => ?_)
  refine go_region h hm [eS 12 (.val (.agg (nc ((k1 : Int))).toArray)), eS 13 (.val (.agg (pc (wG)).toArray)), eS 14 (.val (.agg (pc (mt wplus Wp.o (wG) k1)).toArray)), eS 15 (.val (.agg (nc ((k2 : Int))).toArray)), eS 16 (.val (.agg (pc (wG)).toArray)), eS 17 (.val (.agg (pc (mt wplus Wp.o (wG) k2)).toArray)), eS 18 (.val (.agg (nc ((k3 : Int))).toArray)), eS 19 (.val (.agg (pc (wG)).toArray)), eS 20 (.val (.agg (pc (mt wplus Wp.o (wG) k3)).toArray)), eN 7 (nz ++ nz ++ [Value.bool false]), eN 8 (nz ++ nz ++ [Value.bool false]), eN 9 (nz ++ nz ++ [Value.bool false]), eM 7 (pc (mt wplus Wp.o (wG) k1)), eM 8 (pc (mt wplus Wp.o (wG) k2)), eM 9 (pc (mt wplus Wp.o (wG) k3))] (by kernel_rfl) ⟨
    fun L u => u_load u (gd0 rfl) 12 rfl 24 (.tmp 3) rfl rfl rfl Tryd.underlying24 rfl i24 (lk rfl) _ rfl,
    fun L u => u_call u (gd0 rfl) 13 rfl 16 #[] #[] rfl [] rfl (cE16 _) (.agg (pc (wG)).toArray) (fun w hb => q_Base),
    fun L u => u_call u (gd0 rfl) 14 rfl 14 #[(.tmp 12), (.tmp 13)] #[24, 26] rfl [.agg (nc ((k1 : Int))).toArray, .agg (pc (wG)).toArray] rfl (cE14 _) (.agg (pc (mt wplus Wp.o (wG) k1)).toArray) (fun w hb => q_MulP (hT.keep (Bs.kp_of hb)) hk1 wG_on),
    fun L u => u_load u (gd0 rfl) 15 rfl 24 (.tmp 4) rfl rfl rfl Tryd.underlying24 rfl i24 (lk rfl) _ rfl,
    fun L u => u_call u (gd0 rfl) 16 rfl 16 #[] #[] rfl [] rfl (cE16 _) (.agg (pc (wG)).toArray) (fun w hb => q_Base),
    fun L u => u_call u (gd0 rfl) 17 rfl 14 #[(.tmp 15), (.tmp 16)] #[24, 26] rfl [.agg (nc ((k2 : Int))).toArray, .agg (pc (wG)).toArray] rfl (cE14 _) (.agg (pc (mt wplus Wp.o (wG) k2)).toArray) (fun w hb => q_MulP (hT.keep (Bs.kp_of hb)) hk2 wG_on),
    fun L u => u_load u (gd0 rfl) 18 rfl 24 (.tmp 5) rfl rfl rfl Tryd.underlying24 rfl i24 (lk rfl) _ rfl,
    fun L u => u_call u (gd0 rfl) 19 rfl 16 #[] #[] rfl [] rfl (cE16 _) (.agg (pc (wG)).toArray) (fun w hb => q_Base),
    fun L u => u_call u (gd0 rfl) 20 rfl 14 #[(.tmp 18), (.tmp 19)] #[24, 26] rfl [.agg (nc ((k3 : Int))).toArray, .agg (pc (wG)).toArray] rfl (cE14 _) (.agg (pc (mt wplus Wp.o (wG) k3)).toArray) (fun w hb => q_MulP (hT.keep (Bs.kp_of hb)) hk3 wG_on),
    fun L u => u_alloc u (gd0 rfl) 26 rfl 7 rfl rfl z26 _ rfl,
    fun L u => u_alloc u (gd0 rfl) 26 rfl 8 rfl rfl z26 _ rfl,
    fun L u => u_alloc u (gd0 rfl) 26 rfl 9 rfl rfl z26 _ rfl,
    fun L u => u_store u (gd0 rfl) 26 (.tmp 7) (.tmp 14) rfl rfl rfl (vs := pc (mt wplus Wp.o (wG) k1)) rfl rfl i26 (lk rfl) rfl _ rfl,
    fun L u => u_store u (gd0 rfl) 26 (.tmp 8) (.tmp 17) rfl rfl rfl (vs := pc (mt wplus Wp.o (wG) k2)) rfl rfl i26 (lk rfl) rfl _ rfl,
    fun L u => u_store u (gd0 rfl) 26 (.tmp 9) (.tmp 20) rfl rfl rfl (vs := pc (mt wplus Wp.o (wG) k3)) rfl rfl i26 (lk rfl) rfl _ rfl,
    trivial⟩ [(3, .ptr 3 0), (4, .ptr 4 0), (7, .ptr 7 0), (8, .ptr 8 0), (9, .ptr 9 0)] [(3, nc ((k1 : Int))), (4, nc ((k2 : Int))), (7, pc (mt wplus Wp.o (wG) k1)), (8, pc (mt wplus Wp.o (wG) k2)), (9, pc (mt wplus Wp.o (wG) k3))] ⟨rfl, rfl, rfl, rfl, rfl, trivial⟩ ⟨rfl, rfl, rfl, rfl, rfl, trivial⟩ rfl (fun a w h => ?_)
  refine go_region h hm [eS 22 (.val (.agg (nc ((k1 : Int))).toArray)), eS 23 (.val (.agg (nc ((k2 : Int))).toArray)), eS 24 (.val (.tuple [.agg (nc ((s : Int))).toArray, Value.bool true].toArray)), eS 21 (.val (.tuple [.agg (nc ((s : Int))).toArray, Value.bool true].toArray)), eS 25 (.val (.agg (nc ((s : Int))).toArray)), eS 26 (.val (Value.bool true)), eN 10 (nz), eM 10 (nc ((s : Int))), eS 11 (.val (Value.bool true))] (by kernel_rfl) ⟨
    fun L u => u_load u (gd0 rfl) 22 rfl 24 (.tmp 3) rfl rfl rfl Tryd.underlying24 rfl i24 (lk rfl) _ rfl,
    fun L u => u_load u (gd0 rfl) 23 rfl 24 (.tmp 4) rfl rfl rfl Tryd.underlying24 rfl i24 (lk rfl) _ rfl,
    fun L u => u_call u (gd0 rfl) 24 rfl 18 #[(.tmp 22), (.tmp 23)] #[24, 24] rfl [.agg (nc ((k1 : Int))).toArray, .agg (nc ((k2 : Int))).toArray] rfl (cE18 _) (.tuple [.agg (nc ((s : Int))).toArray, Value.bool true].toArray) (fun w hb => HA w),
    fun L u => u_move u (gd0 rfl) 21 rfl (.tmp 24) (Or.inl rfl) rfl,
    fun L u => u_part u (gd0 rfl) 25 rfl (.tmp 21) 0 rfl (vs := [.agg (nc ((s : Int))).toArray, Value.bool true]) rfl _ rfl,
    fun L u => u_part u (gd0 rfl) 26 rfl (.tmp 21) 1 rfl (vs := [.agg (nc ((s : Int))).toArray, Value.bool true]) rfl _ rfl,
    fun L u => u_alloc u (gd0 rfl) 24 rfl 10 rfl rfl z24 _ rfl,
    fun L u => u_store u (gd0 rfl) 24 (.tmp 10) (.tmp 25) rfl rfl rfl (vs := nc ((s : Int))) rfl rfl i24 (lk rfl) rfl _ rfl,
    fun L u => u_move u (gd0 rfl) 11 rfl (.tmp 26) (Or.inr rfl) rfl,
    trivial⟩ [(7, .ptr 7 0), (8, .ptr 8 0), (9, .ptr 9 0), (10, .ptr 10 0), (11, .val (Value.bool true))] [(7, pc (mt wplus Wp.o (wG) k1)), (8, pc (mt wplus Wp.o (wG) k2)), (9, pc (mt wplus Wp.o (wG) k3)), (10, nc ((s : Int)))] ⟨rfl, rfl, rfl, rfl, rfl, trivial⟩ ⟨rfl, rfl, rfl, rfl, trivial⟩ rfl (fun a w h => ?_)
  refine wp_seq ?_
  refine go_region h hm [eS 27 (.val (Value.bool true)), eS 28 (.val (Value.bool false)), eS 29 (.val (Value.bool false)), eS 30 (.val (.agg (pc (mt wplus Wp.o (wG) k1)).toArray)), eS 31 (.val (.agg (pc (mt wplus Wp.o (wG) k2)).toArray)), eS 32 (.val (.agg (pc (wplus (mt wplus Wp.o (wG) k1) (mt wplus Wp.o (wG) k2))).toArray)), eS 33 (.val (.agg (pc (mt wplus Wp.o (wG) k2)).toArray)), eS 34 (.val (.agg (pc (mt wplus Wp.o (wG) k1)).toArray)), eS 35 (.val (.agg (pc (wplus (mt wplus Wp.o (wG) k2) (mt wplus Wp.o (wG) k1))).toArray)), eS 36 (.val (Value.bool false)), eS 37 (.val (Value.bool false)), eS 38 (.val (Value.bool false)), eS 39 (.val (.agg (pc (mt wplus Wp.o (wG) k1)).toArray)), eS 40 (.val (.agg (pc (mt wplus Wp.o (wG) k2)).toArray)), eS 41 (.val (.agg (pc (wplus (mt wplus Wp.o (wG) k1) (mt wplus Wp.o (wG) k2))).toArray)), eS 42 (.val (.agg (pc (mt wplus Wp.o (wG) k3)).toArray)), eS 43 (.val (.agg (pc (wplus (wplus (mt wplus Wp.o (wG) k1) (mt wplus Wp.o (wG) k2)) (mt wplus Wp.o (wG) k3))).toArray)), eS 44 (.val (.agg (pc (mt wplus Wp.o (wG) k1)).toArray)), eS 45 (.val (.agg (pc (mt wplus Wp.o (wG) k2)).toArray)), eS 46 (.val (.agg (pc (mt wplus Wp.o (wG) k3)).toArray)), eS 47 (.val (.agg (pc (wplus (mt wplus Wp.o (wG) k2) (mt wplus Wp.o (wG) k3))).toArray)), eS 48 (.val (.agg (pc (wplus (mt wplus Wp.o (wG) k1) (wplus (mt wplus Wp.o (wG) k2) (mt wplus Wp.o (wG) k3)))).toArray)), eS 49 (.val (Value.bool false)), eS 50 (.val (Value.bool false))] (by kernel_rfl) ⟨
    fun L u => u_call u (gd0 rfl) 27 rfl 9 #[] #[] rfl [] rfl (cE9 _) (Value.bool true) (fun w hb => awake_any (hT.keep (Bs.kp_of hb))),
    fun L u => u_not u (gd0 rfl) 28 rfl 4 (.tmp 27) rfl rfl _ rfl,
    fun L u => u_move u (gd0 rfl) 29 rfl (.tmp 28) (Or.inl rfl) rfl,
    fun L u => u_load u (gd1 u 2 false rfl 29 rfl (lk rfl) rfl) 30 rfl 26 (.tmp 7) rfl rfl rfl Tryd.underlying26 rfl i26 (lk rfl) _ rfl,
    fun L u => u_load u (gd1 u 2 false rfl 29 rfl (lk rfl) rfl) 31 rfl 26 (.tmp 8) rfl rfl rfl Tryd.underlying26 rfl i26 (lk rfl) _ rfl,
    fun L u => u_call u (gd1 u 2 false rfl 29 rfl (lk rfl) rfl) 32 rfl 12 #[(.tmp 30), (.tmp 31)] #[26, 26] rfl [.agg (pc (mt wplus Wp.o (wG) k1)).toArray, .agg (pc (mt wplus Wp.o (wG) k2)).toArray] rfl (cE12 _) (.agg (pc (wplus (mt wplus Wp.o (wG) k1) (mt wplus Wp.o (wG) k2))).toArray) (fun w hb => q_AddP (hT.keep (Bs.kp_of hb)) (mt_on wgr wG_on _) (mt_on wgr wG_on _)),
    fun L u => u_load u (gd1 u 2 false rfl 29 rfl (lk rfl) rfl) 33 rfl 26 (.tmp 8) rfl rfl rfl Tryd.underlying26 rfl i26 (lk rfl) _ rfl,
    fun L u => u_load u (gd1 u 2 false rfl 29 rfl (lk rfl) rfl) 34 rfl 26 (.tmp 7) rfl rfl rfl Tryd.underlying26 rfl i26 (lk rfl) _ rfl,
    fun L u => u_call u (gd1 u 2 false rfl 29 rfl (lk rfl) rfl) 35 rfl 12 #[(.tmp 33), (.tmp 34)] #[26, 26] rfl [.agg (pc (mt wplus Wp.o (wG) k2)).toArray, .agg (pc (mt wplus Wp.o (wG) k1)).toArray] rfl (cE12 _) (.agg (pc (wplus (mt wplus Wp.o (wG) k2) (mt wplus Wp.o (wG) k1))).toArray) (fun w hb => q_AddP (hT.keep (Bs.kp_of hb)) (mt_on wgr wG_on _) (mt_on wgr wG_on _)),
    fun L u => u_neq u (gd1 u 2 false rfl 29 rfl (lk rfl) rfl) 36 rfl 26 26 (.tmp 32) (.tmp 35) rfl rfl rfl Tryd.eqGuardType26 (true) (fun w => by rw [wgr.comm (mt wplus Wp.o (wG) k1) (mt wplus Wp.o (wG) k2)]; exact eq_pc_same _ w),
    fun L u => u_pick u (gd0 rfl) 37 rfl (.tmp 29) (.const (.bool true)) (.tmp 36) rfl rfl rfl rfl _ rfl,
    fun L u => u_move u (gd0 rfl) 38 rfl (.tmp 37) (Or.inl rfl) rfl,
    fun L u => u_load u (gd1 u 11 false rfl 38 rfl (lk rfl) rfl) 39 rfl 26 (.tmp 7) rfl rfl rfl Tryd.underlying26 rfl i26 (lk rfl) _ rfl,
    fun L u => u_load u (gd1 u 11 false rfl 38 rfl (lk rfl) rfl) 40 rfl 26 (.tmp 8) rfl rfl rfl Tryd.underlying26 rfl i26 (lk rfl) _ rfl,
    fun L u => u_call u (gd1 u 11 false rfl 38 rfl (lk rfl) rfl) 41 rfl 12 #[(.tmp 39), (.tmp 40)] #[26, 26] rfl [.agg (pc (mt wplus Wp.o (wG) k1)).toArray, .agg (pc (mt wplus Wp.o (wG) k2)).toArray] rfl (cE12 _) (.agg (pc (wplus (mt wplus Wp.o (wG) k1) (mt wplus Wp.o (wG) k2))).toArray) (fun w hb => q_AddP (hT.keep (Bs.kp_of hb)) (mt_on wgr wG_on _) (mt_on wgr wG_on _)),
    fun L u => u_load u (gd1 u 11 false rfl 38 rfl (lk rfl) rfl) 42 rfl 26 (.tmp 9) rfl rfl rfl Tryd.underlying26 rfl i26 (lk rfl) _ rfl,
    fun L u => u_call u (gd1 u 11 false rfl 38 rfl (lk rfl) rfl) 43 rfl 12 #[(.tmp 41), (.tmp 42)] #[26, 26] rfl [.agg (pc (wplus (mt wplus Wp.o (wG) k1) (mt wplus Wp.o (wG) k2))).toArray, .agg (pc (mt wplus Wp.o (wG) k3)).toArray] rfl (cE12 _) (.agg (pc (wplus (wplus (mt wplus Wp.o (wG) k1) (mt wplus Wp.o (wG) k2)) (mt wplus Wp.o (wG) k3))).toArray) (fun w hb => q_AddP (hT.keep (Bs.kp_of hb)) (wgr.mem (mt_on wgr wG_on _) (mt_on wgr wG_on _)) (mt_on wgr wG_on _)),
    fun L u => u_load u (gd1 u 11 false rfl 38 rfl (lk rfl) rfl) 44 rfl 26 (.tmp 7) rfl rfl rfl Tryd.underlying26 rfl i26 (lk rfl) _ rfl,
    fun L u => u_load u (gd1 u 11 false rfl 38 rfl (lk rfl) rfl) 45 rfl 26 (.tmp 8) rfl rfl rfl Tryd.underlying26 rfl i26 (lk rfl) _ rfl,
    fun L u => u_load u (gd1 u 11 false rfl 38 rfl (lk rfl) rfl) 46 rfl 26 (.tmp 9) rfl rfl rfl Tryd.underlying26 rfl i26 (lk rfl) _ rfl,
    fun L u => u_call u (gd1 u 11 false rfl 38 rfl (lk rfl) rfl) 47 rfl 12 #[(.tmp 45), (.tmp 46)] #[26, 26] rfl [.agg (pc (mt wplus Wp.o (wG) k2)).toArray, .agg (pc (mt wplus Wp.o (wG) k3)).toArray] rfl (cE12 _) (.agg (pc (wplus (mt wplus Wp.o (wG) k2) (mt wplus Wp.o (wG) k3))).toArray) (fun w hb => q_AddP (hT.keep (Bs.kp_of hb)) (mt_on wgr wG_on _) (mt_on wgr wG_on _)),
    fun L u => u_call u (gd1 u 11 false rfl 38 rfl (lk rfl) rfl) 48 rfl 12 #[(.tmp 44), (.tmp 47)] #[26, 26] rfl [.agg (pc (mt wplus Wp.o (wG) k1)).toArray, .agg (pc (wplus (mt wplus Wp.o (wG) k2) (mt wplus Wp.o (wG) k3))).toArray] rfl (cE12 _) (.agg (pc (wplus (mt wplus Wp.o (wG) k1) (wplus (mt wplus Wp.o (wG) k2) (mt wplus Wp.o (wG) k3)))).toArray) (fun w hb => q_AddP (hT.keep (Bs.kp_of hb)) (mt_on wgr wG_on _) (wgr.mem (mt_on wgr wG_on _) (mt_on wgr wG_on _))),
    fun L u => u_neq u (gd1 u 11 false rfl 38 rfl (lk rfl) rfl) 49 rfl 26 26 (.tmp 43) (.tmp 48) rfl rfl rfl Tryd.eqGuardType26 (true) (fun w => by rw [wgr.ass (mt_on wgr wG_on k1) (mt_on wgr wG_on k2) (mt_on wgr wG_on k3)]; exact eq_pc_same _ w),
    fun L u => u_pick u (gd0 rfl) 50 rfl (.tmp 38) (.const (.bool true)) (.tmp 49) rfl rfl rfl rfl _ rfl,
    trivial⟩ [(7, .ptr 7 0), (8, .ptr 8 0), (10, .ptr 10 0), (11, .val (Value.bool true)), (50, .val (Value.bool false))] [(7, pc (mt wplus Wp.o (wG) k1)), (8, pc (mt wplus Wp.o (wG) k2)), (10, nc ((s : Int)))] ⟨rfl, rfl, rfl, rfl, rfl, trivial⟩ ⟨rfl, rfl, rfl, trivial⟩ rfl (fun a w h => ?_)
  refine go_cond h false rfl (fun ht => ?_) (fun hf => ?_)
  case refine_1 => cases ht
  refine wp_skip ?_
  refine then_norm ?_
  refine go_region h hm [eS 51 (.val (Value.bool true)), eS 52 (.val (Value.bool true)), eS 53 (.val undef), eS 54 (.val undef), eS 55 (.val undef), eS 56 (.val undef), eS 57 (.val undef), eS 58 (.val undef), eS 59 (.val undef), eS 60 (.val (Value.bool true)), eS 6 (.val (Value.bool true))] (by kernel_rfl) ⟨
    fun L u => u_move u (gd0 rfl) 51 rfl (.tmp 11) (Or.inl rfl) rfl,
    fun L u => u_move u (gd0 rfl) 52 rfl (.tmp 51) (Or.inl rfl) rfl,
    fun L u => u_no u 1 false rfl 52 rfl (lk rfl) rfl 53 rfl,
    fun L u => u_no u 1 false rfl 52 rfl (lk rfl) rfl 54 rfl,
    fun L u => u_no u 1 false rfl 52 rfl (lk rfl) rfl 55 rfl,
    fun L u => u_no u 1 false rfl 52 rfl (lk rfl) rfl 56 rfl,
    fun L u => u_no u 1 false rfl 52 rfl (lk rfl) rfl 57 rfl,
    fun L u => u_no u 1 false rfl 52 rfl (lk rfl) rfl 58 rfl,
    fun L u => u_no u 1 false rfl 52 rfl (lk rfl) rfl 59 rfl,
    fun L u => u_pick u (gd0 rfl) 60 rfl (.tmp 52) (.const (.bool true)) (.tmp 59) rfl rfl rfl rfl _ rfl,
    fun L u => u_move u (gd0 rfl) 6 rfl (.tmp 60) (Or.inr rfl) rfl,
    trivial⟩ [(6, .val (Value.bool true))] [] ⟨rfl, trivial⟩ trivial rfl (fun a w h => ?_)
  refine wp_ret ?_
  refine ret_slot h 6 rfl (lk rfl) (Value.bool true) rfl ?_
  exact ⟨rfl, h.grows⟩
set_option maxRecDepth 100000 in
set_option maxHeartbeats 4000000 in
theorem both_walk {w : World} (hT : Tab w) {k1 : Nat} (hk1 : k1 < 2 ^ 256) {X Y : Int} (hX : Num X) (hY : Num Y) (t : Bool) {k2 : Nat} (hk2 : k2 < 2 ^ 256) : Calls Tryd.prog 5 [.agg (nc ((k1 : Int))).toArray, .agg (rc X Y t).toArray, .agg (nc ((k2 : Int))).toArray].toArray w fun e w' => e = .returned (.bool true) ∧ Below w.heap.size w w' := by
  refine enter (args := [.agg (nc ((k1 : Int))).toArray, .agg (rc X Y t).toArray, .agg (nc ((k2 : Int))).toArray]) Tryd.func5 rfl 40 rfl (lk rfl) (fun a h => ?_)
  refine go_region h hm [eN 3 (nc ((k1 : Int))), eN 4 (rc X Y t), eN 5 (nc ((k2 : Int))), eS 6 (.val (Value.bool false))] (by kernel_rfl) ⟨
    fun L u => u_box u (gd0 rfl) 24 (.tmp 0) rfl 3 rfl rfl rfl _ rfl,
    fun L u => u_box u (gd0 rfl) 26 (.tmp 1) rfl 4 rfl rfl rfl _ rfl,
    fun L u => u_box u (gd0 rfl) 24 (.tmp 2) rfl 5 rfl rfl rfl _ rfl,
    fun L u => u_move u (gd0 rfl) 6 rfl (.const (.bool false)) (Or.inr rfl) rfl,
    trivial⟩ [(3, .ptr 3 0), (4, .ptr 4 0), (5, .ptr 5 0)] [(3, nc ((k1 : Int))), (4, rc X Y t), (5, nc ((k2 : Int)))] ⟨rfl, rfl, rfl, trivial⟩ ⟨rfl, rfl, rfl, trivial⟩ rfl (fun a w h => ?_)
  refine go_region h hm [eS 9 (.val (.agg (pc (wG)).toArray)), eN 7 (nz ++ nz ++ [Value.bool false]), eM 7 (pc (wG))] (by kernel_rfl) ⟨
    fun L u => u_call u (gd0 rfl) 9 rfl 16 #[] #[] rfl [] rfl (cE16 _) (.agg (pc (wG)).toArray) (fun w hb => q_Base),
    fun L u => u_alloc u (gd0 rfl) 26 rfl 7 rfl rfl z26 _ rfl,
    fun L u => u_store u (gd0 rfl) 26 (.tmp 7) (.tmp 9) rfl rfl rfl (vs := pc (wG)) rfl rfl i26 (lk rfl) rfl _ rfl,
    trivial⟩ [(3, .ptr 3 0), (4, .ptr 4 0), (5, .ptr 5 0), (7, .ptr 7 0)] [(3, nc ((k1 : Int))), (4, rc X Y t), (5, nc ((k2 : Int))), (7, pc (wG))] ⟨rfl, rfl, rfl, rfl, trivial⟩ ⟨rfl, rfl, rfl, rfl, trivial⟩ rfl (fun a w h => ?_)
  refine go_region h hm [eS 10 (.val (.agg (nc ((k1 : Int))).toArray)), eS 11 (.val (.agg (rc X Y t).toArray)), eS 12 (.val (.agg (nc ((k2 : Int))).toArray)), eS 13 (.val (.agg (pc (wG)).toArray)), eS 14 (.val (.agg (pc (wplus (mt wplus Wp.o (rp X Y t) k1) (mt wplus Wp.o (wG) k2))).toArray)), eN 8 (nz ++ nz ++ [Value.bool false]), eM 8 (pc (wplus (mt wplus Wp.o (rp X Y t) k1) (mt wplus Wp.o (wG) k2)))] (by kernel_rfl) ⟨
    fun L u => u_load u (gd0 rfl) 10 rfl 24 (.tmp 3) rfl rfl rfl Tryd.underlying24 rfl i24 (lk rfl) _ rfl,
    fun L u => u_load u (gd0 rfl) 11 rfl 26 (.tmp 4) rfl rfl rfl Tryd.underlying26 rfl i26 (lk rfl) _ rfl,
    fun L u => u_load u (gd0 rfl) 12 rfl 24 (.tmp 5) rfl rfl rfl Tryd.underlying24 rfl i24 (lk rfl) _ rfl,
    fun L u => u_load u (gd0 rfl) 13 rfl 26 (.tmp 7) rfl rfl rfl Tryd.underlying26 rfl i26 (lk rfl) _ rfl,
    fun L u => u_call u (gd0 rfl) 14 rfl 17 #[(.tmp 10), (.tmp 11), (.tmp 12), (.tmp 13)] #[24, 26, 24, 26] rfl [.agg (nc ((k1 : Int))).toArray, .agg (rc X Y t).toArray, .agg (nc ((k2 : Int))).toArray, .agg (pc (wG)).toArray] rfl (cE17 _) (.agg (pc (wplus (mt wplus Wp.o (rp X Y t) k1) (mt wplus Wp.o (wG) k2))).toArray) (fun w hb => q_BothRP (hT.keep (Bs.kp_of hb)) hk1 hX hY t hk2 wG_on),
    fun L u => u_alloc u (gd0 rfl) 26 rfl 8 rfl rfl z26 _ rfl,
    fun L u => u_store u (gd0 rfl) 26 (.tmp 8) (.tmp 14) rfl rfl rfl (vs := pc (wplus (mt wplus Wp.o (rp X Y t) k1) (mt wplus Wp.o (wG) k2))) rfl rfl i26 (lk rfl) rfl _ rfl,
    trivial⟩ [(3, .ptr 3 0), (4, .ptr 4 0), (5, .ptr 5 0), (7, .ptr 7 0), (8, .ptr 8 0)] [(3, nc ((k1 : Int))), (4, rc X Y t), (5, nc ((k2 : Int))), (7, pc (wG)), (8, pc (wplus (mt wplus Wp.o (rp X Y t) k1) (mt wplus Wp.o (wG) k2)))] ⟨rfl, rfl, rfl, rfl, rfl, trivial⟩ ⟨rfl, rfl, rfl, rfl, rfl, trivial⟩ rfl (fun a w h => ?_)
  refine go_region h hm [eS 15 (.val (Value.bool true)), eS 16 (.val (Value.bool true)), eS 17 (.val (.agg (pc (wplus (mt wplus Wp.o (rp X Y t) k1) (mt wplus Wp.o (wG) k2))).toArray)), eS 18 (.val (Value.bool true)), eS 19 (.val (Value.bool true)), eS 20 (.val (Value.bool true)), eS 21 (.val (.agg (pc (wplus (mt wplus Wp.o (rp X Y t) k1) (mt wplus Wp.o (wG) k2))).toArray)), eS 22 (.val (.agg (nc ((k1 : Int))).toArray)), eS 23 (.val (.agg (rc X Y t).toArray)), eS 24 (.val (.agg (pc (mt wplus Wp.o (rp X Y t) k1)).toArray)), eS 25 (.val (.agg (nc ((k2 : Int))).toArray)), eS 26 (.val (.agg (pc (wG)).toArray)), eS 27 (.val (.agg (pc (mt wplus Wp.o (wG) k2)).toArray)), eS 28 (.val (.agg (pc (wplus (mt wplus Wp.o (rp X Y t) k1) (mt wplus Wp.o (wG) k2))).toArray)), eS 29 (.val (Value.bool true)), eS 30 (.val (Value.bool true)), eS 31 (.val (Value.bool true)), eS 32 (.val (.agg (nc ((k2 : Int))).toArray)), eS 33 (.val (.agg (pc (wG)).toArray)), eS 34 (.val (.agg (nc ((k1 : Int))).toArray)), eS 35 (.val (.agg (rc X Y t).toArray)), eS 36 (.val (.agg (pc (wplus (mt wplus Wp.o (wG) k2) (mt wplus Wp.o (rp X Y t) k1))).toArray)), eS 37 (.val (.agg (pc (wplus (mt wplus Wp.o (rp X Y t) k1) (mt wplus Wp.o (wG) k2))).toArray)), eS 38 (.val (Value.bool true)), eS 39 (.val (Value.bool true)), eS 6 (.val (Value.bool true))] (by kernel_rfl) ⟨
    fun L u => u_call u (gd0 rfl) 15 rfl 9 #[] #[] rfl [] rfl (cE9 _) (Value.bool true) (fun w hb => awake_any (hT.keep (Bs.kp_of hb))),
    fun L u => u_move u (gd0 rfl) 16 rfl (.tmp 15) (Or.inl rfl) rfl,
    fun L u => u_load u (gd1 u 1 true rfl 16 rfl (lk rfl) rfl) 17 rfl 26 (.tmp 8) rfl rfl rfl Tryd.underlying26 rfl i26 (lk rfl) _ rfl,
    fun L u => u_call u (gd1 u 1 true rfl 16 rfl (lk rfl) rfl) 18 rfl 10 #[(.tmp 17)] #[26] rfl [.agg (pc (wplus (mt wplus Wp.o (rp X Y t) k1) (mt wplus Wp.o (wG) k2))).toArray] rfl (cE10 _) (Value.bool true) (fun w hb => q_FormedP (hT.keep (Bs.kp_of hb)) (wgr.mem (mt_on wgr (rp_on X Y t) _) (mt_on wgr wG_on _))),
    fun L u => u_pick u (gd0 rfl) 19 rfl (.tmp 16) (.tmp 18) (.const (.bool false)) rfl rfl rfl rfl _ rfl,
    fun L u => u_move u (gd0 rfl) 20 rfl (.tmp 19) (Or.inl rfl) rfl,
    fun L u => u_load u (gd1 u 5 true rfl 20 rfl (lk rfl) rfl) 21 rfl 26 (.tmp 8) rfl rfl rfl Tryd.underlying26 rfl i26 (lk rfl) _ rfl,
    fun L u => u_load u (gd1 u 5 true rfl 20 rfl (lk rfl) rfl) 22 rfl 24 (.tmp 3) rfl rfl rfl Tryd.underlying24 rfl i24 (lk rfl) _ rfl,
    fun L u => u_load u (gd1 u 5 true rfl 20 rfl (lk rfl) rfl) 23 rfl 26 (.tmp 4) rfl rfl rfl Tryd.underlying26 rfl i26 (lk rfl) _ rfl,
    fun L u => u_call u (gd1 u 5 true rfl 20 rfl (lk rfl) rfl) 24 rfl 14 #[(.tmp 22), (.tmp 23)] #[24, 26] rfl [.agg (nc ((k1 : Int))).toArray, .agg (rc X Y t).toArray] rfl (cE14 _) (.agg (pc (mt wplus Wp.o (rp X Y t) k1)).toArray) (fun w hb => q_Mul (hT.keep (Bs.kp_of hb)) hk1 hX hY t),
    fun L u => u_load u (gd1 u 5 true rfl 20 rfl (lk rfl) rfl) 25 rfl 24 (.tmp 5) rfl rfl rfl Tryd.underlying24 rfl i24 (lk rfl) _ rfl,
    fun L u => u_load u (gd1 u 5 true rfl 20 rfl (lk rfl) rfl) 26 rfl 26 (.tmp 7) rfl rfl rfl Tryd.underlying26 rfl i26 (lk rfl) _ rfl,
    fun L u => u_call u (gd1 u 5 true rfl 20 rfl (lk rfl) rfl) 27 rfl 14 #[(.tmp 25), (.tmp 26)] #[24, 26] rfl [.agg (nc ((k2 : Int))).toArray, .agg (pc (wG)).toArray] rfl (cE14 _) (.agg (pc (mt wplus Wp.o (wG) k2)).toArray) (fun w hb => q_MulP (hT.keep (Bs.kp_of hb)) hk2 wG_on),
    fun L u => u_call u (gd1 u 5 true rfl 20 rfl (lk rfl) rfl) 28 rfl 12 #[(.tmp 24), (.tmp 27)] #[26, 26] rfl [.agg (pc (mt wplus Wp.o (rp X Y t) k1)).toArray, .agg (pc (mt wplus Wp.o (wG) k2)).toArray] rfl (cE12 _) (.agg (pc (wplus (mt wplus Wp.o (rp X Y t) k1) (mt wplus Wp.o (wG) k2))).toArray) (fun w hb => q_AddP (hT.keep (Bs.kp_of hb)) (mt_on wgr (rp_on X Y t) _) (mt_on wgr wG_on _)),
    fun L u => u_eql u (gd1 u 5 true rfl 20 rfl (lk rfl) rfl) 29 rfl 26 26 (.tmp 21) (.tmp 28) rfl rfl rfl Tryd.eqGuardType26 (true) (fun w => eq_pc_same _ w),
    fun L u => u_pick u (gd0 rfl) 30 rfl (.tmp 20) (.tmp 29) (.const (.bool false)) rfl rfl rfl rfl _ rfl,
    fun L u => u_move u (gd0 rfl) 31 rfl (.tmp 30) (Or.inl rfl) rfl,
    fun L u => u_load u (gd1 u 16 true rfl 31 rfl (lk rfl) rfl) 32 rfl 24 (.tmp 5) rfl rfl rfl Tryd.underlying24 rfl i24 (lk rfl) _ rfl,
    fun L u => u_load u (gd1 u 16 true rfl 31 rfl (lk rfl) rfl) 33 rfl 26 (.tmp 7) rfl rfl rfl Tryd.underlying26 rfl i26 (lk rfl) _ rfl,
    fun L u => u_load u (gd1 u 16 true rfl 31 rfl (lk rfl) rfl) 34 rfl 24 (.tmp 3) rfl rfl rfl Tryd.underlying24 rfl i24 (lk rfl) _ rfl,
    fun L u => u_load u (gd1 u 16 true rfl 31 rfl (lk rfl) rfl) 35 rfl 26 (.tmp 4) rfl rfl rfl Tryd.underlying26 rfl i26 (lk rfl) _ rfl,
    fun L u => u_call u (gd1 u 16 true rfl 31 rfl (lk rfl) rfl) 36 rfl 17 #[(.tmp 32), (.tmp 33), (.tmp 34), (.tmp 35)] #[24, 26, 24, 26] rfl [.agg (nc ((k2 : Int))).toArray, .agg (pc (wG)).toArray, .agg (nc ((k1 : Int))).toArray, .agg (rc X Y t).toArray] rfl (cE17 _) (.agg (pc (wplus (mt wplus Wp.o (wG) k2) (mt wplus Wp.o (rp X Y t) k1))).toArray) (fun w hb => q_BothPR (hT.keep (Bs.kp_of hb)) hk2 wG_on hk1 hX hY t),
    fun L u => u_load u (gd1 u 16 true rfl 31 rfl (lk rfl) rfl) 37 rfl 26 (.tmp 8) rfl rfl rfl Tryd.underlying26 rfl i26 (lk rfl) _ rfl,
    fun L u => u_eql u (gd1 u 16 true rfl 31 rfl (lk rfl) rfl) 38 rfl 26 26 (.tmp 36) (.tmp 37) rfl rfl rfl Tryd.eqGuardType26 (true) (fun w => by rw [wgr.comm (mt wplus Wp.o (wG) k2) (mt wplus Wp.o (rp X Y t) k1)]; exact eq_pc_same _ w),
    fun L u => u_pick u (gd0 rfl) 39 rfl (.tmp 31) (.tmp 38) (.const (.bool false)) rfl rfl rfl rfl _ rfl,
    fun L u => u_move u (gd0 rfl) 6 rfl (.tmp 39) (Or.inr rfl) rfl,
    trivial⟩ [(6, .val (Value.bool true))] [] ⟨rfl, trivial⟩ trivial rfl (fun a w h => ?_)
  refine wp_ret ?_
  refine ret_slot h 6 rfl (lk rfl) (Value.bool true) rfl ?_
  exact ⟨rfl, h.grows⟩
set_option maxRecDepth 100000 in
set_option maxHeartbeats 4000000 in
theorem order_walk {w : World} (hT : Tab w) {k r : Nat} (hk : k < 2 ^ 256) (hr : r < 2 ^ 256) (hre : r = k % mod1) (HMd : ∀ w : World, Calls Tryd.prog 19 [.int .i64 1].toArray w fun e w' => e = .returned (.agg (nc (mod1 : Int)).toArray) ∧ Below w.heap.size w w') (HF : ∀ w : World, Calls Tryd.prog 21 [.int .i64 1, .agg (nc (k : Int)).toArray].toArray w fun e w' => e = .returned (.agg (nc (r : Int)).toArray) ∧ Below w.heap.size w w') (HS : ∀ (w : World) (y : Fin m0), Calls Tryd.prog 20 [.int .i64 0, .agg nz.toArray, .agg (fc y).toArray].toArray w fun e w' => e = .returned (.agg (fc (0 - y)).toArray) ∧ Below w.heap.size w w') : Calls Tryd.prog 7 [.agg (nc ((k : Int))).toArray].toArray w fun e w' => e = .returned (.bool true) ∧ Below w.heap.size w w' := by
  refine enter (args := [.agg (nc ((k : Int))).toArray]) Tryd.func7 rfl 59 rfl (lk rfl) (fun a h => ?_)
  refine go_region h hm [eN 1 (nc ((k : Int))), eS 2 (.val (Value.bool false))] (by kernel_rfl) ⟨
    fun L u => u_box u (gd0 rfl) 24 (.tmp 0) rfl 1 rfl rfl rfl _ rfl,
    fun L u => u_move u (gd0 rfl) 2 rfl (.const (.bool false)) (Or.inr rfl) rfl,
    trivial⟩ [(1, .ptr 1 0)] [(1, nc ((k : Int)))] ⟨rfl, trivial⟩ ⟨rfl, trivial⟩ rfl (fun a w h => ?_)
  refine go_region h hm [eS 7 (.val (.agg (nz ++ nz ++ [Value.bool true]).toArray)), eN 3 (nz ++ nz ++ [Value.bool false]), eM 3 (nz ++ nz ++ [Value.bool true])] (by kernel_rfl) ⟨
    fun L u => u_build u (gd0 rfl) 7 rfl 26 #[(2, (.const (.bool true)))] rfl [(2, Value.bool true)] rfl (nz ++ nz ++ [Value.bool true]) (bP1),
    fun L u => u_alloc u (gd0 rfl) 26 rfl 3 rfl rfl z26 _ rfl,
    fun L u => u_store u (gd0 rfl) 26 (.tmp 3) (.tmp 7) rfl rfl rfl (vs := nz ++ nz ++ [Value.bool true]) rfl rfl i26 (lk rfl) rfl _ rfl,
    trivial⟩ [(1, .ptr 1 0), (3, .ptr 3 0)] [(1, nc ((k : Int))), (3, nz ++ nz ++ [Value.bool true])] ⟨rfl, rfl, trivial⟩ ⟨rfl, rfl, trivial⟩ rfl (fun a w h => ?_)
  refine go_region h hm [eS 8 (.val (.agg (nc ((mod1 : Int))).toArray)), eN 4 (nz), eM 4 (nc ((mod1 : Int)))] (by kernel_rfl) ⟨
    fun L u => u_call u (gd0 rfl) 8 rfl 19 #[(.const (.int .i64 1))] #[3] rfl [(Value.int IntKind.i64 1)] rfl (cE19 _) (.agg (nc ((mod1 : Int))).toArray) (fun w hb => HMd w),
    fun L u => u_alloc u (gd0 rfl) 24 rfl 4 rfl rfl z24 _ rfl,
    fun L u => u_store u (gd0 rfl) 24 (.tmp 4) (.tmp 8) rfl rfl rfl (vs := nc ((mod1 : Int))) rfl rfl i24 (lk rfl) rfl _ rfl,
    trivial⟩ [(1, .ptr 1 0), (3, .ptr 3 0), (4, .ptr 4 0)] [(1, nc ((k : Int))), (3, nz ++ nz ++ [Value.bool true]), (4, nc ((mod1 : Int)))] ⟨rfl, rfl, rfl, trivial⟩ ⟨rfl, rfl, rfl, trivial⟩ rfl (fun a w h => ?_)
  refine go_region h hm [eS 9 (.val (.agg (nc ((k : Int))).toArray)), eS 10 (.val (.agg (pc (wG)).toArray)), eS 11 (.val (.agg (pc (mt wplus Wp.o (wG) k)).toArray)), eN 5 (nz ++ nz ++ [Value.bool false]), eM 5 (pc (mt wplus Wp.o (wG) k))] (by kernel_rfl) ⟨
    fun L u => u_load u (gd0 rfl) 9 rfl 24 (.tmp 1) rfl rfl rfl Tryd.underlying24 rfl i24 (lk rfl) _ rfl,
    fun L u => u_call u (gd0 rfl) 10 rfl 16 #[] #[] rfl [] rfl (cE16 _) (.agg (pc (wG)).toArray) (fun w hb => q_Base),
    fun L u => u_call u (gd0 rfl) 11 rfl 14 #[(.tmp 9), (.tmp 10)] #[24, 26] rfl [.agg (nc ((k : Int))).toArray, .agg (pc (wG)).toArray] rfl (cE14 _) (.agg (pc (mt wplus Wp.o (wG) k)).toArray) (fun w hb => q_MulP (hT.keep (Bs.kp_of hb)) hk wG_on),
    fun L u => u_alloc u (gd0 rfl) 26 rfl 5 rfl rfl z26 _ rfl,
    fun L u => u_store u (gd0 rfl) 26 (.tmp 5) (.tmp 11) rfl rfl rfl (vs := pc (mt wplus Wp.o (wG) k)) rfl rfl i26 (lk rfl) rfl _ rfl,
    trivial⟩ [(1, .ptr 1 0), (3, .ptr 3 0), (4, .ptr 4 0), (5, .ptr 5 0)] [(1, nc ((k : Int))), (3, nz ++ nz ++ [Value.bool true]), (4, nc ((mod1 : Int))), (5, pc (mt wplus Wp.o (wG) k))] ⟨rfl, rfl, rfl, rfl, trivial⟩ ⟨rfl, rfl, rfl, rfl, trivial⟩ rfl (fun a w h => ?_)
  refine go_region h hm [eS 12 (.ptr 5 0), eS 13 (.val (.agg (fc (px (mt wplus Wp.o (wG) k))).toArray)), eS 14 (.val (.agg (nz).toArray)), eS 15 (.ptr 5 4), eS 16 (.val (.agg (fc (py (mt wplus Wp.o (wG) k))).toArray)), eS 17 (.val (.agg (fc (0 - py (mt wplus Wp.o (wG) k))).toArray)), eS 18 (.ptr 5 8), eS 19 (.val (Value.bool ((mt wplus Wp.o (wG) k).isNone))), eS 20 (.val (.agg (fc (px (mt wplus Wp.o (wG) k)) ++ fc (0 - py (mt wplus Wp.o (wG) k)) ++ [Value.bool ((mt wplus Wp.o (wG) k).isNone)]).toArray)), eN 6 (nz ++ nz ++ [Value.bool false]), eM 6 (fc (px (mt wplus Wp.o (wG) k)) ++ fc (0 - py (mt wplus Wp.o (wG) k)) ++ [Value.bool ((mt wplus Wp.o (wG) k).isNone)])] (by kernel_rfl) ⟨
    fun L u => u_field u (gd0 rfl) 12 rfl 26 (.tmp 5) 0 rfl rfl rfl Tryd.underlying26 rfl i24 _ rfl,
    fun L u => u_load u (gd0 rfl) 13 rfl 24 (.tmp 12) rfl rfl rfl Tryd.underlying24 rfl i24 (lk rfl) _ rfl,
    fun L u => u_build u (gd0 rfl) 14 rfl 24 #[] rfl [] rfl (nz) (bN0),
    fun L u => u_field u (gd0 rfl) 15 rfl 26 (.tmp 5) 1 rfl rfl rfl Tryd.underlying26 rfl i24 _ rfl,
    fun L u => u_load u (gd0 rfl) 16 rfl 24 (.tmp 15) rfl rfl rfl Tryd.underlying24 rfl i24 (lk rfl) _ rfl,
    fun L u => u_call u (gd0 rfl) 17 rfl 20 #[(.const (.int .i64 0)), (.tmp 14), (.tmp 16)] #[3, 24, 24] rfl [(Value.int IntKind.i64 0), .agg (nz).toArray, .agg (fc (py (mt wplus Wp.o (wG) k))).toArray] rfl (cE20 _) (.agg (fc (0 - py (mt wplus Wp.o (wG) k))).toArray) (fun w hb => HS w _),
    fun L u => u_field u (gd0 rfl) 18 rfl 26 (.tmp 5) 2 rfl rfl rfl Tryd.underlying26 rfl i4 _ rfl,
    fun L u => u_load1 u (gd0 rfl) 19 rfl 4 (.tmp 18) rfl rfl rfl Tryd.underlying4 rfl _ rfl,
    fun L u => u_build u (gd0 rfl) 20 rfl 26 #[(0, (.tmp 13)), (1, (.tmp 17)), (2, (.tmp 19))] rfl [(0, .agg (fc (px (mt wplus Wp.o (wG) k))).toArray), (1, .agg (fc (0 - py (mt wplus Wp.o (wG) k))).toArray), (2, Value.bool ((mt wplus Wp.o (wG) k).isNone))] rfl (fc (px (mt wplus Wp.o (wG) k)) ++ fc (0 - py (mt wplus Wp.o (wG) k)) ++ [Value.bool ((mt wplus Wp.o (wG) k).isNone)]) (bP3 _ _ _),
    fun L u => u_alloc u (gd0 rfl) 26 rfl 6 rfl rfl z26 _ rfl,
    fun L u => u_store u (gd0 rfl) 26 (.tmp 6) (.tmp 20) rfl rfl rfl (vs := fc (px (mt wplus Wp.o (wG) k)) ++ fc (0 - py (mt wplus Wp.o (wG) k)) ++ [Value.bool ((mt wplus Wp.o (wG) k).isNone)]) rfl rfl i26 (lk rfl) rfl _ rfl,
    trivial⟩ [(1, .ptr 1 0), (3, .ptr 3 0), (4, .ptr 4 0), (5, .ptr 5 0), (6, .ptr 6 0)] [(1, nc ((k : Int))), (3, nz ++ nz ++ [Value.bool true]), (4, nc ((mod1 : Int))), (5, pc (mt wplus Wp.o (wG) k)), (6, fc (px (mt wplus Wp.o (wG) k)) ++ fc (0 - py (mt wplus Wp.o (wG) k)) ++ [Value.bool ((mt wplus Wp.o (wG) k).isNone)])] ⟨rfl, rfl, rfl, rfl, rfl, trivial⟩ ⟨rfl, rfl, rfl, rfl, rfl, trivial⟩ rfl (fun a w h => ?_)
  refine go_region h hm [eS 21 (.val (Value.bool true)), eS 22 (.val (Value.bool true)), eS 23 (.val (.agg (nc ((mod1 : Int))).toArray)), eS 24 (.val (.agg (pc (wG)).toArray)), eS 25 (.val (.agg (pc (mt wplus Wp.o (wG) mod1)).toArray)), eS 26 (.val (.agg (nz ++ nz ++ [Value.bool true]).toArray)), eS 27 (.val (Value.bool true)), eS 28 (.val (Value.bool true)), eS 29 (.val (Value.bool true)), eS 30 (.val (.agg (nc ((k : Int))).toArray)), eS 31 (.val (.agg (nc ((r : Int))).toArray)), eS 32 (.val (.agg (pc (wG)).toArray)), eS 33 (.val (.agg (pc (mt wplus Wp.o (wG) r)).toArray)), eS 34 (.val (.agg (pc (mt wplus Wp.o (wG) k)).toArray)), eS 35 (.val (Value.bool true)), eS 36 (.val (Value.bool true)), eS 37 (.val (Value.bool true)), eS 38 (.val (.agg (fc (px (mt wplus Wp.o (wG) k)) ++ fc (0 - py (mt wplus Wp.o (wG) k)) ++ [Value.bool ((mt wplus Wp.o (wG) k).isNone)]).toArray)), eS 39 (.val (Value.bool true)), eS 40 (.val (Value.bool true)), eS 41 (.val (Value.bool true)), eS 42 (.val (.agg (pc (mt wplus Wp.o (wG) k)).toArray)), eS 43 (.val (.agg (fc (px (mt wplus Wp.o (wG) k)) ++ fc (0 - py (mt wplus Wp.o (wG) k)) ++ [Value.bool ((mt wplus Wp.o (wG) k).isNone)]).toArray)), eS 44 (.val (.agg (pc (wplus (mt wplus Wp.o (wG) k) (wneg (mt wplus Wp.o (wG) k)))).toArray)), eS 45 (.val (.agg (nz ++ nz ++ [Value.bool true]).toArray)), eS 46 (.val (Value.bool true)), eS 47 (.val (Value.bool true)), eS 48 (.val (Value.bool true)), eS 49 (.val (.agg (pc (mt wplus Wp.o (wG) k)).toArray)), eS 50 (.val (.agg (nz ++ nz ++ [Value.bool true]).toArray)), eS 51 (.val (.agg (pc (wplus (mt wplus Wp.o (wG) k) (Wp.o))).toArray)), eS 52 (.val (.agg (pc (mt wplus Wp.o (wG) k)).toArray)), eS 53 (.val (Value.bool true)), eS 54 (.val (Value.bool true)), eS 55 (.val (Value.bool true)), eS 56 (.val (.agg (pc (mt wplus Wp.o (wG) k)).toArray)), eS 57 (.val (Value.bool true)), eS 58 (.val (Value.bool true)), eS 2 (.val (Value.bool true))] (by kernel_rfl) ⟨
    fun L u => u_call u (gd0 rfl) 21 rfl 9 #[] #[] rfl [] rfl (cE9 _) (Value.bool true) (fun w hb => awake_any (hT.keep (Bs.kp_of hb))),
    fun L u => u_move u (gd0 rfl) 22 rfl (.tmp 21) (Or.inl rfl) rfl,
    fun L u => u_load u (gd1 u 1 true rfl 22 rfl (lk rfl) rfl) 23 rfl 24 (.tmp 4) rfl rfl rfl Tryd.underlying24 rfl i24 (lk rfl) _ rfl,
    fun L u => u_call u (gd1 u 1 true rfl 22 rfl (lk rfl) rfl) 24 rfl 16 #[] #[] rfl [] rfl (cE16 _) (.agg (pc (wG)).toArray) (fun w hb => q_Base),
    fun L u => u_call u (gd1 u 1 true rfl 22 rfl (lk rfl) rfl) 25 rfl 14 #[(.tmp 23), (.tmp 24)] #[24, 26] rfl [.agg (nc ((mod1 : Int))).toArray, .agg (pc (wG)).toArray] rfl (cE14 _) (.agg (pc (mt wplus Wp.o (wG) mod1)).toArray) (fun w hb => q_MulP (hT.keep (Bs.kp_of hb)) hmod1 wG_on),
    fun L u => u_load u (gd1 u 1 true rfl 22 rfl (lk rfl) rfl) 26 rfl 26 (.tmp 3) rfl rfl rfl Tryd.underlying26 rfl i26 (lk rfl) _ rfl,
    fun L u => u_eql u (gd1 u 1 true rfl 22 rfl (lk rfl) rfl) 27 rfl 26 26 (.tmp 25) (.tmp 26) rfl rfl rfl Tryd.eqGuardType26 (true) (fun w => by rw [nz_pc, wG_order]; exact eq_pc_same _ w),
    fun L u => u_pick u (gd0 rfl) 28 rfl (.tmp 22) (.tmp 27) (.const (.bool false)) rfl rfl rfl rfl _ rfl,
    fun L u => u_move u (gd0 rfl) 29 rfl (.tmp 28) (Or.inl rfl) rfl,
    fun L u => u_load u (gd1 u 8 true rfl 29 rfl (lk rfl) rfl) 30 rfl 24 (.tmp 1) rfl rfl rfl Tryd.underlying24 rfl i24 (lk rfl) _ rfl,
    fun L u => u_call u (gd1 u 8 true rfl 29 rfl (lk rfl) rfl) 31 rfl 21 #[(.const (.int .i64 1)), (.tmp 30)] #[3, 24] rfl [(Value.int IntKind.i64 1), .agg (nc ((k : Int))).toArray] rfl (cE21 _) (.agg (nc ((r : Int))).toArray) (fun w hb => HF w),
    fun L u => u_call u (gd1 u 8 true rfl 29 rfl (lk rfl) rfl) 32 rfl 16 #[] #[] rfl [] rfl (cE16 _) (.agg (pc (wG)).toArray) (fun w hb => q_Base),
    fun L u => u_call u (gd1 u 8 true rfl 29 rfl (lk rfl) rfl) 33 rfl 14 #[(.tmp 31), (.tmp 32)] #[24, 26] rfl [.agg (nc ((r : Int))).toArray, .agg (pc (wG)).toArray] rfl (cE14 _) (.agg (pc (mt wplus Wp.o (wG) r)).toArray) (fun w hb => q_MulP (hT.keep (Bs.kp_of hb)) hr wG_on),
    fun L u => u_load u (gd1 u 8 true rfl 29 rfl (lk rfl) rfl) 34 rfl 26 (.tmp 5) rfl rfl rfl Tryd.underlying26 rfl i26 (lk rfl) _ rfl,
    fun L u => u_eql u (gd1 u 8 true rfl 29 rfl (lk rfl) rfl) 35 rfl 26 26 (.tmp 33) (.tmp 34) rfl rfl rfl Tryd.eqGuardType26 (true) (fun w => by rw [show mt wplus Wp.o wG r = mt wplus Wp.o wG k by rw [hre, mt_mod wgr wG_on wG_order]]; exact eq_pc_same _ w),
    fun L u => u_pick u (gd0 rfl) 36 rfl (.tmp 29) (.tmp 35) (.const (.bool false)) rfl rfl rfl rfl _ rfl,
    fun L u => u_move u (gd0 rfl) 37 rfl (.tmp 36) (Or.inl rfl) rfl,
    fun L u => u_load u (gd1 u 16 true rfl 37 rfl (lk rfl) rfl) 38 rfl 26 (.tmp 6) rfl rfl rfl Tryd.underlying26 rfl i26 (lk rfl) _ rfl,
    fun L u => u_call u (gd1 u 16 true rfl 37 rfl (lk rfl) rfl) 39 rfl 10 #[(.tmp 38)] #[26] rfl [.agg (fc (px (mt wplus Wp.o (wG) k)) ++ fc (0 - py (mt wplus Wp.o (wG) k)) ++ [Value.bool ((mt wplus Wp.o (wG) k).isNone)]).toArray] rfl (cE10 _) (Value.bool true) (fun w hb => by rw [mir_pc (mt wplus Wp.o (wG) k)]; exact q_FormedP (hT.keep (Bs.kp_of hb)) (wneg_on (mt_on wgr wG_on _))),
    fun L u => u_pick u (gd0 rfl) 40 rfl (.tmp 37) (.tmp 39) (.const (.bool false)) rfl rfl rfl rfl _ rfl,
    fun L u => u_move u (gd0 rfl) 41 rfl (.tmp 40) (Or.inl rfl) rfl,
    fun L u => u_load u (gd1 u 20 true rfl 41 rfl (lk rfl) rfl) 42 rfl 26 (.tmp 5) rfl rfl rfl Tryd.underlying26 rfl i26 (lk rfl) _ rfl,
    fun L u => u_load u (gd1 u 20 true rfl 41 rfl (lk rfl) rfl) 43 rfl 26 (.tmp 6) rfl rfl rfl Tryd.underlying26 rfl i26 (lk rfl) _ rfl,
    fun L u => u_call u (gd1 u 20 true rfl 41 rfl (lk rfl) rfl) 44 rfl 12 #[(.tmp 42), (.tmp 43)] #[26, 26] rfl [.agg (pc (mt wplus Wp.o (wG) k)).toArray, .agg (fc (px (mt wplus Wp.o (wG) k)) ++ fc (0 - py (mt wplus Wp.o (wG) k)) ++ [Value.bool ((mt wplus Wp.o (wG) k).isNone)]).toArray] rfl (cE12 _) (.agg (pc (wplus (mt wplus Wp.o (wG) k) (wneg (mt wplus Wp.o (wG) k)))).toArray) (fun w hb => by rw [mir_pc (mt wplus Wp.o (wG) k)]; exact q_AddP (hT.keep (Bs.kp_of hb)) (mt_on wgr wG_on _) (wneg_on (mt_on wgr wG_on _))),
    fun L u => u_load u (gd1 u 20 true rfl 41 rfl (lk rfl) rfl) 45 rfl 26 (.tmp 3) rfl rfl rfl Tryd.underlying26 rfl i26 (lk rfl) _ rfl,
    fun L u => u_eql u (gd1 u 20 true rfl 41 rfl (lk rfl) rfl) 46 rfl 26 26 (.tmp 44) (.tmp 45) rfl rfl rfl Tryd.eqGuardType26 (true) (fun w => by rw [nz_pc, wneg_add (mt wplus Wp.o (wG) k)]; exact eq_pc_same _ w),
    fun L u => u_pick u (gd0 rfl) 47 rfl (.tmp 41) (.tmp 46) (.const (.bool false)) rfl rfl rfl rfl _ rfl,
    fun L u => u_move u (gd0 rfl) 48 rfl (.tmp 47) (Or.inl rfl) rfl,
    fun L u => u_load u (gd1 u 27 true rfl 48 rfl (lk rfl) rfl) 49 rfl 26 (.tmp 5) rfl rfl rfl Tryd.underlying26 rfl i26 (lk rfl) _ rfl,
    fun L u => u_load u (gd1 u 27 true rfl 48 rfl (lk rfl) rfl) 50 rfl 26 (.tmp 3) rfl rfl rfl Tryd.underlying26 rfl i26 (lk rfl) _ rfl,
    fun L u => u_call u (gd1 u 27 true rfl 48 rfl (lk rfl) rfl) 51 rfl 12 #[(.tmp 49), (.tmp 50)] #[26, 26] rfl [.agg (pc (mt wplus Wp.o (wG) k)).toArray, .agg (nz ++ nz ++ [Value.bool true]).toArray] rfl (cE12 _) (.agg (pc (wplus (mt wplus Wp.o (wG) k) (Wp.o))).toArray) (fun w hb => by rw [nz_pc]; exact q_AddP (hT.keep (Bs.kp_of hb)) (mt_on wgr wG_on _) trivial),
    fun L u => u_load u (gd1 u 27 true rfl 48 rfl (lk rfl) rfl) 52 rfl 26 (.tmp 5) rfl rfl rfl Tryd.underlying26 rfl i26 (lk rfl) _ rfl,
    fun L u => u_eql u (gd1 u 27 true rfl 48 rfl (lk rfl) rfl) 53 rfl 26 26 (.tmp 51) (.tmp 52) rfl rfl rfl Tryd.eqGuardType26 (true) (fun w => by rw [wgr.add_o (mt_on wgr wG_on k)]; exact eq_pc_same _ w),
    fun L u => u_pick u (gd0 rfl) 54 rfl (.tmp 48) (.tmp 53) (.const (.bool false)) rfl rfl rfl rfl _ rfl,
    fun L u => u_move u (gd0 rfl) 55 rfl (.tmp 54) (Or.inl rfl) rfl,
    fun L u => u_load u (gd1 u 34 true rfl 55 rfl (lk rfl) rfl) 56 rfl 26 (.tmp 5) rfl rfl rfl Tryd.underlying26 rfl i26 (lk rfl) _ rfl,
    fun L u => u_call u (gd1 u 34 true rfl 55 rfl (lk rfl) rfl) 57 rfl 10 #[(.tmp 56)] #[26] rfl [.agg (pc (mt wplus Wp.o (wG) k)).toArray] rfl (cE10 _) (Value.bool true) (fun w hb => q_FormedP (hT.keep (Bs.kp_of hb)) (mt_on wgr wG_on _)),
    fun L u => u_pick u (gd0 rfl) 58 rfl (.tmp 55) (.tmp 57) (.const (.bool false)) rfl rfl rfl rfl _ rfl,
    fun L u => u_move u (gd0 rfl) 2 rfl (.tmp 58) (Or.inr rfl) rfl,
    trivial⟩ [(2, .val (Value.bool true))] [] ⟨rfl, trivial⟩ trivial rfl (fun a w h => ?_)
  refine wp_ret ?_
  refine ret_slot h 2 rfl (lk rfl) (Value.bool true) rfl ?_
  exact ⟨rfl, h.grows⟩
end Go.Proofs.YtimaaendbfjblaaDoor
namespace Go.Proofs.YtimaaendbfjblaaDoor
open Go.RowKit
attribute [local go_sem ↓] Go.wp_at_zero Go.wp_at_succ

def cb (a b : Int) (k : Nat) : Bool := C a b k == 1
theorem cb_zero (a b : Int) : cb a b 0 = false := by unfold cb; rw [C_zero]; rfl
theorem ref_add_0 (a b : Int) (k : Nat) (h : cb a b k = false) : IntKind.u64.wrap (L k a + L k b) = L k (a + b) := by
  have c1 := C_lo a b k
  have c2 := C_hi a b k
  have hc : C a b k = 0 := by unfold cb at h; simp at h; omega
  have e := add_word a b k
  rw [hc, Int.add_zero] at e
  rw [IntKind.wrap_u64, e]
theorem ref_add_1 (a b : Int) (k : Nat) (h : cb a b k = true) : IntKind.u64.wrap (IntKind.u64.wrap (L k a + L k b) + 1) = L k (a + b) := by
  have hc : C a b k = 1 := by unfold cb at h; simpa using h
  have e := add_word a b k
  rw [hc] at e
  rw [IntKind.wrap_u64, IntKind.wrap_u64, ← e]
  omega
theorem ref_add_o0 (a b : Int) (k : Nat) (h : cb a b k = false) : decide (L k (a + b) < L k a) = cb a b (k + 1) := by
  have c1 := C_lo a b k
  have c2 := C_hi a b k
  have hc : C a b k = 0 := by unfold cb at h; simp at h; omega
  have e := add_word a b k
  have f := add_carry a b k
  have a1 := L_lo k a
  have a2 := L_hi k a
  have b1 := L_lo k b
  have b2 := L_hi k b
  rw [hc] at e f
  unfold cb
  rw [← f, ← e, Bool.eq_iff_iff]
  simp only [decide_eq_true_eq, beq_iff_eq]
  omega
theorem ref_add_o1 (a b : Int) (k : Nat) (h : cb a b k = true) : (decide (IntKind.u64.wrap (L k a + L k b) < L k a) || (L k (a + b) == 0)) = cb a b (k + 1) := by
  have hc : C a b k = 1 := by unfold cb at h; simpa using h
  have e := add_word a b k
  have f := add_carry a b k
  have a1 := L_lo k a
  have a2 := L_hi k a
  have b1 := L_lo k b
  have b2 := L_hi k b
  rw [hc] at e f
  unfold cb
  rw [← f, ← e, IntKind.wrap_u64, Bool.eq_iff_iff]
  simp only [decide_eq_true_eq, beq_iff_eq, Bool.or_eq_true]
  omega

set_option maxHeartbeats 1000000 in
theorem ref_add_walk (a b : Int) (w : World) :
    Calls Tryd.prog 18 #[.agg #[.int .u64 (L 0 a), .int .u64 (L 1 a), .int .u64 (L 2 a), .int .u64 (L 3 a)], .agg #[.int .u64 (L 0 b), .int .u64 (L 1 b), .int .u64 (L 2 b), .int .u64 (L 3 b)]] w fun e w' =>
      e = .returned (.tuple #[.agg #[.int .u64 (L 0 (a + b)), .int .u64 (L 1 (a + b)), .int .u64 (L 2 (a + b)), .int .u64 (L 3 (a + b))], .bool (cb a b 4)]) ∧ Below w.heap.size w w' := by
  go_enter Tryd.func18, Tryd.ntmps18
  go_wp2
  go_loopw [7, 8] (fun s7 s8 w' => (s8 = .int .i64 0 ∧ s7 = .bool false ∧ ∃ n, w' = ((((w.alloc (.cells #[.int .u64 (L 0 a), .int .u64 (L 1 a), .int .u64 (L 2 a), .int .u64 (L 3 a)] 24)).alloc (.cells #[.int .u64 (L 0 b), .int .u64 (L 1 b), .int .u64 (L 2 b), .int .u64 (L 3 b)] 24)).alloc (.cells #[.int .u64 0, .int .u64 0, .int .u64 0, .int .u64 0] 24)).alloc (.cells #[.int .u64 0, .int .u64 0, .int .u64 0, .int .u64 0] 24)).drewN n) ∨ (s8 = .int .i64 1 ∧ s7 = .bool (cb a b 1) ∧ ∃ n, w' = ((((w.alloc (.cells #[.int .u64 (L 0 a), .int .u64 (L 1 a), .int .u64 (L 2 a), .int .u64 (L 3 a)] 24)).alloc (.cells #[.int .u64 (L 0 b), .int .u64 (L 1 b), .int .u64 (L 2 b), .int .u64 (L 3 b)] 24)).alloc (.cells #[.int .u64 0, .int .u64 0, .int .u64 0, .int .u64 0] 24)).alloc (.cells #[.int .u64 (L 0 (a + b)), .int .u64 0, .int .u64 0, .int .u64 0] 24)).drewN n) ∨ (s8 = .int .i64 2 ∧ s7 = .bool (cb a b 2) ∧ ∃ n, w' = ((((w.alloc (.cells #[.int .u64 (L 0 a), .int .u64 (L 1 a), .int .u64 (L 2 a), .int .u64 (L 3 a)] 24)).alloc (.cells #[.int .u64 (L 0 b), .int .u64 (L 1 b), .int .u64 (L 2 b), .int .u64 (L 3 b)] 24)).alloc (.cells #[.int .u64 0, .int .u64 0, .int .u64 0, .int .u64 0] 24)).alloc (.cells #[.int .u64 (L 0 (a + b)), .int .u64 (L 1 (a + b)), .int .u64 0, .int .u64 0] 24)).drewN n) ∨ (s8 = .int .i64 3 ∧ s7 = .bool (cb a b 3) ∧ ∃ n, w' = ((((w.alloc (.cells #[.int .u64 (L 0 a), .int .u64 (L 1 a), .int .u64 (L 2 a), .int .u64 (L 3 a)] 24)).alloc (.cells #[.int .u64 (L 0 b), .int .u64 (L 1 b), .int .u64 (L 2 b), .int .u64 (L 3 b)] 24)).alloc (.cells #[.int .u64 0, .int .u64 0, .int .u64 0, .int .u64 0] 24)).alloc (.cells #[.int .u64 (L 0 (a + b)), .int .u64 (L 1 (a + b)), .int .u64 (L 2 (a + b)), .int .u64 0] 24)).drewN n) ∨ (s8 = .int .i64 4 ∧ s7 = .bool (cb a b 4) ∧ ∃ n, w' = ((((w.alloc (.cells #[.int .u64 (L 0 a), .int .u64 (L 1 a), .int .u64 (L 2 a), .int .u64 (L 3 a)] 24)).alloc (.cells #[.int .u64 (L 0 b), .int .u64 (L 1 b), .int .u64 (L 2 b), .int .u64 (L 3 b)] 24)).alloc (.cells #[.int .u64 0, .int .u64 0, .int .u64 0, .int .u64 0] 24)).alloc (.cells #[.int .u64 (L 0 (a + b)), .int .u64 (L 1 (a + b)), .int .u64 (L 2 (a + b)), .int .u64 (L 3 (a + b))] 24)).drewN n)) (fun _ s8 _ => 4 - (intOf s8).toNat)
  case atStart => exact Or.inl ⟨rfl, rfl, 0, rfl⟩
  case round =>
    rcases hrel with ⟨rfl, rfl, n, rfl⟩ | ⟨rfl, rfl, n, rfl⟩ | ⟨rfl, rfl, n, rfl⟩ | ⟨rfl, rfl, n, rfl⟩ | ⟨rfl, rfl, n, rfl⟩
    · have q1 := ref_add_0 a b 0 (cb_zero a b)
      have q2 : decide (L 0 (a + b) < L 0 a) = cb a b 1 := ref_add_o0 a b 0 (cb_zero a b)
      go_wp2
      go_quiet (fail)
      go_wp2
      exact ⟨Or.inr (Or.inl ⟨rfl, (by first | rfl | exact congrArg Value.bool q3.symm), n + nq, set_out (by simp) _ _ _ _ _⟩), by simp [intOf]⟩
    · cases hcb : cb a b 1
      · have q1 := ref_add_0 a b 1 hcb
        have q2 : decide (L 1 (a + b) < L 1 a) = cb a b 2 := ref_add_o0 a b 1 hcb
        go_wp2
        go_quiet (fail)
        go_wp2
        exact ⟨Or.inr (Or.inr (Or.inl ⟨rfl, (by first | rfl | exact congrArg Value.bool q3.symm), n + nq, set_out (by simp) _ _ _ _ _⟩)), by simp [intOf]⟩
      · have q1 := ref_add_1 a b 1 hcb
        have q2 := ref_add_o1 a b 1 hcb
        by_cases o : IntKind.u64.wrap (L 1 a + L 1 b) < L 1 a
        · have q3 : cb a b 2 = true := by rw [← q2]; simp [o]
          clear q2
          go_wp2
          go_quiet (fail)
          go_wp2
          exact ⟨Or.inr (Or.inr (Or.inl ⟨rfl, (by first | rfl | exact congrArg Value.bool q3.symm), n + nq, set_out (by simp) _ _ _ _ _⟩)), by simp [intOf]⟩
        · have o2 : decide (IntKind.u64.wrap (L 1 a + L 1 b) < L 1 a) = false := by simpa using o
          have q3 : (L 1 (a + b) == 0) = cb a b 2 := by rw [o2, Bool.false_or] at q2; exact q2
          clear q2
          go_wp2
          go_quiet (fail)
          go_wp2
          exact ⟨Or.inr (Or.inr (Or.inl ⟨rfl, (by first | rfl | exact congrArg Value.bool q3.symm), n + nq, set_out (by simp) _ _ _ _ _⟩)), by simp [intOf]⟩
    · cases hcb : cb a b 2
      · have q1 := ref_add_0 a b 2 hcb
        have q2 : decide (L 2 (a + b) < L 2 a) = cb a b 3 := ref_add_o0 a b 2 hcb
        go_wp2
        go_quiet (fail)
        go_wp2
        exact ⟨Or.inr (Or.inr (Or.inr (Or.inl ⟨rfl, (by first | rfl | exact congrArg Value.bool q3.symm), n + nq, set_out (by simp) _ _ _ _ _⟩))), by simp [intOf]⟩
      · have q1 := ref_add_1 a b 2 hcb
        have q2 := ref_add_o1 a b 2 hcb
        by_cases o : IntKind.u64.wrap (L 2 a + L 2 b) < L 2 a
        · have q3 : cb a b 3 = true := by rw [← q2]; simp [o]
          clear q2
          go_wp2
          go_quiet (fail)
          go_wp2
          exact ⟨Or.inr (Or.inr (Or.inr (Or.inl ⟨rfl, (by first | rfl | exact congrArg Value.bool q3.symm), n + nq, set_out (by simp) _ _ _ _ _⟩))), by simp [intOf]⟩
        · have o2 : decide (IntKind.u64.wrap (L 2 a + L 2 b) < L 2 a) = false := by simpa using o
          have q3 : (L 2 (a + b) == 0) = cb a b 3 := by rw [o2, Bool.false_or] at q2; exact q2
          clear q2
          go_wp2
          go_quiet (fail)
          go_wp2
          exact ⟨Or.inr (Or.inr (Or.inr (Or.inl ⟨rfl, (by first | rfl | exact congrArg Value.bool q3.symm), n + nq, set_out (by simp) _ _ _ _ _⟩))), by simp [intOf]⟩
    · cases hcb : cb a b 3
      · have q1 := ref_add_0 a b 3 hcb
        have q2 : decide (L 3 (a + b) < L 3 a) = cb a b 4 := ref_add_o0 a b 3 hcb
        go_wp2
        go_quiet (fail)
        go_wp2
        exact ⟨Or.inr (Or.inr (Or.inr (Or.inr (⟨rfl, (by first | rfl | exact congrArg Value.bool q3.symm), n + nq, set_out (by simp) _ _ _ _ _⟩)))), by simp [intOf]⟩
      · have q1 := ref_add_1 a b 3 hcb
        have q2 := ref_add_o1 a b 3 hcb
        by_cases o : IntKind.u64.wrap (L 3 a + L 3 b) < L 3 a
        · have q3 : cb a b 4 = true := by rw [← q2]; simp [o]
          clear q2
          go_wp2
          go_quiet (fail)
          go_wp2
          exact ⟨Or.inr (Or.inr (Or.inr (Or.inr (⟨rfl, (by first | rfl | exact congrArg Value.bool q3.symm), n + nq, set_out (by simp) _ _ _ _ _⟩)))), by simp [intOf]⟩
        · have o2 : decide (IntKind.u64.wrap (L 3 a + L 3 b) < L 3 a) = false := by simpa using o
          have q3 : (L 3 (a + b) == 0) = cb a b 4 := by rw [o2, Bool.false_or] at q2; exact q2
          clear q2
          go_wp2
          go_quiet (fail)
          go_wp2
          exact ⟨Or.inr (Or.inr (Or.inr (Or.inr (⟨rfl, (by first | rfl | exact congrArg Value.bool q3.symm), n + nq, set_out (by simp) _ _ _ _ _⟩)))), by simp [intOf]⟩
    · go_wp2
      go_returns
      refine ⟨rfl, ?_⟩
      repeat' (first | (with_reducible exact Below.refl _ _) | (with_reducible refine K.drewN ?_ _) | (with_reducible refine K.drew ?_) | (with_reducible refine K.alloc ?_ _) | (with_reducible refine K.set ?_ ?_ _) | (simp; done) | (simp; omega))
end Go.Proofs.YtimaaendbfjblaaDoor
namespace Go.Proofs.YtimaaendbfjblaaDoor
open Go.RowKit
attribute [local go_sem ↓] Go.wp_at_zero Go.wp_at_succ

def db (a b : Int) (k : Nat) : Bool := D a b k == 1
theorem db_zero (a b : Int) : db a b 0 = false := by unfold db; rw [D_zero]; rfl
theorem db_f {a b : Int} {k : Nat} (h : db a b k = false) : D a b k = 0 := by
  have c1 := D_lo a b k
  have c2 := D_hi a b k
  unfold db at h; simp at h; omega
theorem db_t {a b : Int} {k : Nat} (h : db a b k = true) : D a b k = 1 := by unfold db at h; simpa using h
theorem ref_sub_0 (a b : Int) (k : Nat) (h : db a b k = false) : IntKind.u64.wrap (L k a - L k b) = L k (a - b) := by
  have e := sub_word a b k
  rw [db_f h, Int.sub_zero] at e
  rw [IntKind.wrap_u64, e]
theorem ref_sub_1 (a b : Int) (k : Nat) (h : db a b k = true) : IntKind.u64.wrap (IntKind.u64.wrap (L k a - L k b) - 1) = L k (a - b) := by
  have e := sub_word a b k
  rw [db_t h] at e
  rw [IntKind.wrap_u64, IntKind.wrap_u64, ← e]
  omega
theorem ref_sub_o0 (a b : Int) (k : Nat) (h : db a b k = false) : decide (L k a < L k b) = db a b (k + 1) := by
  have f := sub_carry a b k
  rw [db_f h, Int.add_zero] at f
  unfold db
  rw [← f, Bool.eq_iff_iff]
  simp only [decide_eq_true_eq, beq_iff_eq]
  split <;> omega
theorem ref_sub_o1 (a b : Int) (k : Nat) (h : db a b k = true) : (decide (L k a < L k b) || (IntKind.u64.wrap (L k a - L k b) == 0)) = db a b (k + 1) := by
  have f := sub_carry a b k
  have a1 := L_lo k a
  have a2 := L_hi k a
  have b1 := L_lo k b
  have b2 := L_hi k b
  rw [db_t h] at f
  unfold db
  rw [← f, IntKind.wrap_u64, Bool.eq_iff_iff]
  simp only [decide_eq_true_eq, beq_iff_eq, Bool.or_eq_true]
  split <;> omega

set_option maxHeartbeats 1000000 in
theorem ref_sub_walk (a b : Int) (w : World) :
    Calls Tryd.prog 48 #[.agg #[.int .u64 (L 0 a), .int .u64 (L 1 a), .int .u64 (L 2 a), .int .u64 (L 3 a)], .agg #[.int .u64 (L 0 b), .int .u64 (L 1 b), .int .u64 (L 2 b), .int .u64 (L 3 b)]] w fun e w' =>
      e = .returned (.tuple #[.agg #[.int .u64 (L 0 (a - b)), .int .u64 (L 1 (a - b)), .int .u64 (L 2 (a - b)), .int .u64 (L 3 (a - b))], .bool (db a b 4)]) ∧ Below w.heap.size w w' := by
  go_enter Tryd.func48, Tryd.ntmps48
  go_wp2
  go_loopw [7, 8] (fun s7 s8 w' => (s8 = .int .i64 0 ∧ s7 = .bool false ∧ ∃ n, w' = ((((w.alloc (.cells #[.int .u64 (L 0 a), .int .u64 (L 1 a), .int .u64 (L 2 a), .int .u64 (L 3 a)] 24)).alloc (.cells #[.int .u64 (L 0 b), .int .u64 (L 1 b), .int .u64 (L 2 b), .int .u64 (L 3 b)] 24)).alloc (.cells #[.int .u64 0, .int .u64 0, .int .u64 0, .int .u64 0] 24)).alloc (.cells #[.int .u64 0, .int .u64 0, .int .u64 0, .int .u64 0] 24)).drewN n) ∨ (s8 = .int .i64 1 ∧ s7 = .bool (db a b 1) ∧ ∃ n, w' = ((((w.alloc (.cells #[.int .u64 (L 0 a), .int .u64 (L 1 a), .int .u64 (L 2 a), .int .u64 (L 3 a)] 24)).alloc (.cells #[.int .u64 (L 0 b), .int .u64 (L 1 b), .int .u64 (L 2 b), .int .u64 (L 3 b)] 24)).alloc (.cells #[.int .u64 0, .int .u64 0, .int .u64 0, .int .u64 0] 24)).alloc (.cells #[.int .u64 (L 0 (a - b)), .int .u64 0, .int .u64 0, .int .u64 0] 24)).drewN n) ∨ (s8 = .int .i64 2 ∧ s7 = .bool (db a b 2) ∧ ∃ n, w' = ((((w.alloc (.cells #[.int .u64 (L 0 a), .int .u64 (L 1 a), .int .u64 (L 2 a), .int .u64 (L 3 a)] 24)).alloc (.cells #[.int .u64 (L 0 b), .int .u64 (L 1 b), .int .u64 (L 2 b), .int .u64 (L 3 b)] 24)).alloc (.cells #[.int .u64 0, .int .u64 0, .int .u64 0, .int .u64 0] 24)).alloc (.cells #[.int .u64 (L 0 (a - b)), .int .u64 (L 1 (a - b)), .int .u64 0, .int .u64 0] 24)).drewN n) ∨ (s8 = .int .i64 3 ∧ s7 = .bool (db a b 3) ∧ ∃ n, w' = ((((w.alloc (.cells #[.int .u64 (L 0 a), .int .u64 (L 1 a), .int .u64 (L 2 a), .int .u64 (L 3 a)] 24)).alloc (.cells #[.int .u64 (L 0 b), .int .u64 (L 1 b), .int .u64 (L 2 b), .int .u64 (L 3 b)] 24)).alloc (.cells #[.int .u64 0, .int .u64 0, .int .u64 0, .int .u64 0] 24)).alloc (.cells #[.int .u64 (L 0 (a - b)), .int .u64 (L 1 (a - b)), .int .u64 (L 2 (a - b)), .int .u64 0] 24)).drewN n) ∨ (s8 = .int .i64 4 ∧ s7 = .bool (db a b 4) ∧ ∃ n, w' = ((((w.alloc (.cells #[.int .u64 (L 0 a), .int .u64 (L 1 a), .int .u64 (L 2 a), .int .u64 (L 3 a)] 24)).alloc (.cells #[.int .u64 (L 0 b), .int .u64 (L 1 b), .int .u64 (L 2 b), .int .u64 (L 3 b)] 24)).alloc (.cells #[.int .u64 0, .int .u64 0, .int .u64 0, .int .u64 0] 24)).alloc (.cells #[.int .u64 (L 0 (a - b)), .int .u64 (L 1 (a - b)), .int .u64 (L 2 (a - b)), .int .u64 (L 3 (a - b))] 24)).drewN n)) (fun _ s8 _ => 4 - (intOf s8).toNat)
  case atStart => exact Or.inl ⟨rfl, rfl, 0, rfl⟩
  case round =>
    rcases hrel with ⟨rfl, rfl, n, rfl⟩ | ⟨rfl, rfl, n, rfl⟩ | ⟨rfl, rfl, n, rfl⟩ | ⟨rfl, rfl, n, rfl⟩ | ⟨rfl, rfl, n, rfl⟩
    · have q1 := ref_sub_0 a b 0 (db_zero a b)
      have q2 : decide (L 0 a < L 0 b) = db a b 1 := ref_sub_o0 a b 0 (db_zero a b)
      go_wp2
      go_quiet (fail)
      go_wp2
      go_quiet (fail)
      go_wp2
      exact ⟨Or.inr (Or.inl ⟨rfl, (by first | rfl | exact congrArg Value.bool q3.symm), _, set_out (by simp) _ _ _ _ _⟩), by simp [intOf]⟩
    · cases hcb : db a b 1
      · have q1 := ref_sub_0 a b 1 hcb
        have q2 : decide (L 1 a < L 1 b) = db a b 2 := ref_sub_o0 a b 1 hcb
        go_wp2
        go_quiet (fail)
        go_wp2
        go_quiet (fail)
        go_wp2
        exact ⟨Or.inr (Or.inr (Or.inl ⟨rfl, (by first | rfl | exact congrArg Value.bool q3.symm), _, set_out (by simp) _ _ _ _ _⟩)), by simp [intOf]⟩
      · have q1 := ref_sub_1 a b 1 hcb
        have q2 := ref_sub_o1 a b 1 hcb
        by_cases o : L 1 a < L 1 b
        · have q3 : db a b 2 = true := by rw [← q2]; simp [o]
          clear q2
          go_wp2
          go_quiet (fail)
          go_wp2
          go_quiet (fail)
          go_wp2
          exact ⟨Or.inr (Or.inr (Or.inl ⟨rfl, (by first | rfl | exact congrArg Value.bool q3.symm), _, set_out (by simp) _ _ _ _ _⟩)), by simp [intOf]⟩
        · have o2 : decide (L 1 a < L 1 b) = false := by simpa using o
          have q3 : (IntKind.u64.wrap (L 1 a - L 1 b) == 0) = db a b 2 := by rw [o2, Bool.false_or] at q2; exact q2
          clear q2
          go_wp2
          go_quiet (fail)
          go_wp2
          go_quiet (fail)
          go_wp2
          exact ⟨Or.inr (Or.inr (Or.inl ⟨rfl, (by first | rfl | exact congrArg Value.bool q3.symm), _, set_out (by simp) _ _ _ _ _⟩)), by simp [intOf]⟩
    · cases hcb : db a b 2
      · have q1 := ref_sub_0 a b 2 hcb
        have q2 : decide (L 2 a < L 2 b) = db a b 3 := ref_sub_o0 a b 2 hcb
        go_wp2
        go_quiet (fail)
        go_wp2
        go_quiet (fail)
        go_wp2
        exact ⟨Or.inr (Or.inr (Or.inr (Or.inl ⟨rfl, (by first | rfl | exact congrArg Value.bool q3.symm), _, set_out (by simp) _ _ _ _ _⟩))), by simp [intOf]⟩
      · have q1 := ref_sub_1 a b 2 hcb
        have q2 := ref_sub_o1 a b 2 hcb
        by_cases o : L 2 a < L 2 b
        · have q3 : db a b 3 = true := by rw [← q2]; simp [o]
          clear q2
          go_wp2
          go_quiet (fail)
          go_wp2
          go_quiet (fail)
          go_wp2
          exact ⟨Or.inr (Or.inr (Or.inr (Or.inl ⟨rfl, (by first | rfl | exact congrArg Value.bool q3.symm), _, set_out (by simp) _ _ _ _ _⟩))), by simp [intOf]⟩
        · have o2 : decide (L 2 a < L 2 b) = false := by simpa using o
          have q3 : (IntKind.u64.wrap (L 2 a - L 2 b) == 0) = db a b 3 := by rw [o2, Bool.false_or] at q2; exact q2
          clear q2
          go_wp2
          go_quiet (fail)
          go_wp2
          go_quiet (fail)
          go_wp2
          exact ⟨Or.inr (Or.inr (Or.inr (Or.inl ⟨rfl, (by first | rfl | exact congrArg Value.bool q3.symm), _, set_out (by simp) _ _ _ _ _⟩))), by simp [intOf]⟩
    · cases hcb : db a b 3
      · have q1 := ref_sub_0 a b 3 hcb
        have q2 : decide (L 3 a < L 3 b) = db a b 4 := ref_sub_o0 a b 3 hcb
        go_wp2
        go_quiet (fail)
        go_wp2
        go_quiet (fail)
        go_wp2
        exact ⟨Or.inr (Or.inr (Or.inr (Or.inr (⟨rfl, (by first | rfl | exact congrArg Value.bool q3.symm), _, set_out (by simp) _ _ _ _ _⟩)))), by simp [intOf]⟩
      · have q1 := ref_sub_1 a b 3 hcb
        have q2 := ref_sub_o1 a b 3 hcb
        by_cases o : L 3 a < L 3 b
        · have q3 : db a b 4 = true := by rw [← q2]; simp [o]
          clear q2
          go_wp2
          go_quiet (fail)
          go_wp2
          go_quiet (fail)
          go_wp2
          exact ⟨Or.inr (Or.inr (Or.inr (Or.inr (⟨rfl, (by first | rfl | exact congrArg Value.bool q3.symm), _, set_out (by simp) _ _ _ _ _⟩)))), by simp [intOf]⟩
        · have o2 : decide (L 3 a < L 3 b) = false := by simpa using o
          have q3 : (IntKind.u64.wrap (L 3 a - L 3 b) == 0) = db a b 4 := by rw [o2, Bool.false_or] at q2; exact q2
          clear q2
          go_wp2
          go_quiet (fail)
          go_wp2
          go_quiet (fail)
          go_wp2
          exact ⟨Or.inr (Or.inr (Or.inr (Or.inr (⟨rfl, (by first | rfl | exact congrArg Value.bool q3.symm), _, set_out (by simp) _ _ _ _ _⟩)))), by simp [intOf]⟩
    · go_wp2
      go_returns
      refine ⟨rfl, ?_⟩
      repeat' (first | (with_reducible exact Below.refl _ _) | (with_reducible refine K.drewN ?_ _) | (with_reducible refine K.drew ?_) | (with_reducible refine K.alloc ?_ _) | (with_reducible refine K.set ?_ ?_ _) | (simp; done) | (simp; omega))

theorem ref_add_any {a b : Int} (ha : Num a) (hb : Num b) (w : World) :
    Calls Tryd.prog 18 #[.agg #[.int .u64 (L 0 a), .int .u64 (L 1 a), .int .u64 (L 2 a), .int .u64 (L 3 a)], .agg #[.int .u64 (L 0 b), .int .u64 (L 1 b), .int .u64 (L 2 b), .int .u64 (L 3 b)]] w fun e w' =>
      e = .returned (.tuple #[.agg #[.int .u64 (L 0 (a + b)), .int .u64 (L 1 (a + b)), .int .u64 (L 2 (a + b)), .int .u64 (L 3 (a + b))], .bool (over a b)]) ∧ Below w.heap.size w w' := by
  rw [← C_four ha hb]; exact ref_add_walk a b w
theorem ref_sub_any {a b : Int} (ha : Num a) (hb : Num b) (w : World) :
    Calls Tryd.prog 48 #[.agg #[.int .u64 (L 0 a), .int .u64 (L 1 a), .int .u64 (L 2 a), .int .u64 (L 3 a)], .agg #[.int .u64 (L 0 b), .int .u64 (L 1 b), .int .u64 (L 2 b), .int .u64 (L 3 b)]] w fun e w' =>
      e = .returned (.tuple #[.agg #[.int .u64 (L 0 (a - b)), .int .u64 (L 1 (a - b)), .int .u64 (L 2 (a - b)), .int .u64 (L 3 (a - b))], .bool (under a b)]) ∧ Below w.heap.size w w' := by
  rw [← D_four ha hb]; exact ref_sub_walk a b w
end Go.Proofs.YtimaaendbfjblaaDoor
namespace Go.Proofs.YtimaaendbfjblaaDoor
open Go.RowKit
attribute [local go_sem ↓] Go.wp_at_zero Go.wp_at_succ

set_option maxHeartbeats 4000000 in
theorem ref_plus_any {m a b : Int} (hm : Num m) (ha : 0 ≤ a) (ha2 : a < m) (hb : 0 ≤ b) (hb2 : b < m) (w : World) :
    Calls Tryd.prog 49 #[.agg #[.int .u64 (L 0 m), .int .u64 (L 1 m), .int .u64 (L 2 m), .int .u64 (L 3 m)], .agg #[.int .u64 (L 0 a), .int .u64 (L 1 a), .int .u64 (L 2 a), .int .u64 (L 3 a)], .agg #[.int .u64 (L 0 b), .int .u64 (L 1 b), .int .u64 (L 2 b), .int .u64 (L 3 b)]] w fun e w' => e = .returned (.agg #[.int .u64 (L 0 ((a + b) % m)), .int .u64 (L 1 ((a + b) % m)), .int .u64 (L 2 ((a + b) % m)), .int .u64 (L 3 ((a + b) % m))]) ∧ Below w.heap.size w w' := by
  have na : Num a := ⟨ha, by have := hm.hi; omega⟩
  have nb : Num b := ⟨hb, by have := hm.hi; omega⟩
  have hmh := hm.hi
  by_cases o : M ≤ a + b
  · have ho : over a b = true := by unfold over; simpa using o
    have hr : (a + b) % m = a + b - m := mod_once (by omega) (by omega)
    rw [hr]
    clear hr o hmh
    go_enter Tryd.func49, Tryd.ntmps49
    go_wp2_with fail
    with_reducible refine Calls.mono (ref_add_any na nb _) ?_
    rw [ho]
    rintro e w1 ⟨rfl, hb1⟩
    have A1 := (((Arr.new w (w.heap.size) rfl 24 (L 0 m) (L 1 m) (L 2 m) (L 3 m)).alloc _).alloc _).alloc _ |>.keep hb1
    have R1 := (ArrW.new _ (w.heap.size + 1 + 1 + 1) (by simp) 24 0 0 0 0).keep hb1
    have hw1 : Below w.heap.size w w1 := K.call (K.alloc (K.alloc (K.alloc (K.alloc (Below.refl _ w) _) _) _) _) hb1
    clear hb1
    have ⟨ka, ka0, ka1, ka2, ka3⟩ := A1
    have ⟨kr, kr0, kr1, kr2, kr3, kf0, kf1, kf2, kf3⟩ := R1
    go_wp2_with fail
    with_reducible refine Calls.mono (ref_sub_walk (a + b) m _) ?_
    clear ka ka0 ka1 ka2 ka3 kr kr0 kr1 kr2 kr3 kf0 kf1 kf2 kf3
    rintro e w3 ⟨rfl, hb3⟩
    have hw3 : Below w.heap.size w w3 := K.call (K.alloc hw1 _) hb3
    have ⟨kr, kr0, kr1, kr2, kr3, kf0, kf1, kf2, kf3⟩ := (R1.alloc _).keep hb3
    clear hb3
    go_wp2_with fail
    exact bodyPost_ret (v := .agg #[.int .u64 (L 0 (a + b - m)), .int .u64 (L 1 (a + b - m)), .int .u64 (L 2 (a + b - m)), .int .u64 (L 3 (a + b - m))]) (by simp [results, Tryd.results49, go_sem, kr, kr0, kr1, kr2, kr3]) rfl ⟨rfl, K.alloc (K.set4 hw3 (by omega) _ _ _ _) _⟩
  · have ho : over a b = false := by unfold over; simpa using o
    have ns : Num (a + b) := ⟨by omega, by omega⟩
    by_cases l : a + b < m
    · have hr : (a + b) % m = a + b := mod_low (by omega) l
      rw [hr]
      clear hr o hmh
      go_enter Tryd.func49, Tryd.ntmps49
      go_wp2_with fail
      with_reducible refine Calls.mono (ref_add_any na nb _) ?_
      rw [ho]
      rintro e w1 ⟨rfl, hb1⟩
      have A1 := (((Arr.new w (w.heap.size) rfl 24 (L 0 m) (L 1 m) (L 2 m) (L 3 m)).alloc _).alloc _).alloc _ |>.keep hb1
      have R1 := (ArrW.new _ (w.heap.size + 1 + 1 + 1) (by simp) 24 0 0 0 0).keep hb1
      have hw1 : Below w.heap.size w w1 := K.call (K.alloc (K.alloc (K.alloc (K.alloc (Below.refl _ w) _) _) _) _) hb1
      clear hb1
      have ⟨ka, ka0, ka1, ka2, ka3⟩ := A1
      have ⟨kr, kr0, kr1, kr2, kr3, kf0, kf1, kf2, kf3⟩ := R1
      go_wp2_with fail
      with_reducible refine Calls.mono (less_true ns hm (by omega) _) ?_
      clear ka ka0 ka1 ka2 ka3 kr kr0 kr1 kr2 kr3 kf0 kf1 kf2 kf3
      rintro e w2 ⟨rfl, hb2⟩
      have A2 := (A1.alloc _).keep hb2
      have R2 := (R1.alloc _).keep hb2
      have S2 := (Arr.new w1 w1.heap.size rfl 24 (L 0 (a + b)) (L 1 (a + b)) (L 2 (a + b)) (L 3 (a + b))).keep hb2
      have hw2 : Below w.heap.size w w2 := K.call (K.alloc hw1 _) hb2
      clear A1 R1 hb2 hw1
      have ⟨ka, ka0, ka1, ka2, ka3⟩ := A2
      have ⟨ks, ks0, ks1, ks2, ks3⟩ := S2
      have ⟨kr, kr0, kr1, kr2, kr3, kf0, kf1, kf2, kf3⟩ := R2
      go_wp2_with fail
      exact bodyPost_ret (v := .agg #[.int .u64 (L 0 (a + b)), .int .u64 (L 1 (a + b)), .int .u64 (L 2 (a + b)), .int .u64 (L 3 (a + b))]) (by simp [results, Tryd.results49, go_sem, kr0, kr1, kr2, kr3]) rfl ⟨rfl, K.set4 hw2 (by omega) _ _ _ _⟩
    · have hr : (a + b) % m = a + b - m := mod_once (by omega) (by omega)
      rw [hr]
      clear hr o hmh
      go_enter Tryd.func49, Tryd.ntmps49
      go_wp2_with fail
      with_reducible refine Calls.mono (ref_add_any na nb _) ?_
      rw [ho]
      rintro e w1 ⟨rfl, hb1⟩
      have A1 := (((Arr.new w (w.heap.size) rfl 24 (L 0 m) (L 1 m) (L 2 m) (L 3 m)).alloc _).alloc _).alloc _ |>.keep hb1
      have R1 := (ArrW.new _ (w.heap.size + 1 + 1 + 1) (by simp) 24 0 0 0 0).keep hb1
      have hw1 : Below w.heap.size w w1 := K.call (K.alloc (K.alloc (K.alloc (K.alloc (Below.refl _ w) _) _) _) _) hb1
      clear hb1
      have ⟨ka, ka0, ka1, ka2, ka3⟩ := A1
      have ⟨kr, kr0, kr1, kr2, kr3, kf0, kf1, kf2, kf3⟩ := R1
      go_wp2_with fail
      with_reducible refine Calls.mono (less_false ns hm (by omega) _) ?_
      clear ka ka0 ka1 ka2 ka3 kr kr0 kr1 kr2 kr3 kf0 kf1 kf2 kf3
      rintro e w2 ⟨rfl, hb2⟩
      have A2 := (A1.alloc _).keep hb2
      have R2 := (R1.alloc _).keep hb2
      have S2 := (Arr.new w1 w1.heap.size rfl 24 (L 0 (a + b)) (L 1 (a + b)) (L 2 (a + b)) (L 3 (a + b))).keep hb2
      have hw2 : Below w.heap.size w w2 := K.call (K.alloc hw1 _) hb2
      clear A1 R1 hb2 hw1
      have ⟨ka, ka0, ka1, ka2, ka3⟩ := A2
      have ⟨ks, ks0, ks1, ks2, ks3⟩ := S2
      have ⟨kr, kr0, kr1, kr2, kr3, kf0, kf1, kf2, kf3⟩ := R2
      go_wp2_with fail
      with_reducible refine Calls.mono (ref_sub_walk (a + b) m _) ?_
      clear ka ka0 ka1 ka2 ka3 kr kr0 kr1 kr2 kr3 kf0 kf1 kf2 kf3 ks ks0 ks1 ks2 ks3
      rintro e w3 ⟨rfl, hb3⟩
      have hw3 : Below w.heap.size w w3 := K.call hw2 hb3
      have ⟨kr, kr0, kr1, kr2, kr3, kf0, kf1, kf2, kf3⟩ := R2.keep hb3
      clear hb3
      go_wp2_with fail
      exact bodyPost_ret (v := .agg #[.int .u64 (L 0 (a + b - m)), .int .u64 (L 1 (a + b - m)), .int .u64 (L 2 (a + b - m)), .int .u64 (L 3 (a + b - m))]) (by simp [results, Tryd.results49, go_sem, kr, kr0, kr1, kr2, kr3]) rfl ⟨rfl, K.alloc (K.set4 hw3 (by omega) _ _ _ _) _⟩
end Go.Proofs.YtimaaendbfjblaaDoor
namespace Go.Proofs.YtimaaendbfjblaaDoor
open Go.RowKit
attribute [local go_sem ↓] Go.wp_at_zero Go.wp_at_succ
attribute [local go_sem] eq4

/-- What the loop keeps: the number, the place of the answer, the modulus. -/
structure FoldS (w wr : World) (n : Nat) (x m : Int) : Prop where
  below : Below w.heap.size w wr
  X : ArrW wr (w.heap.size) (L 0 x) (L 1 x) (L 2 x) (L 3 x)
  R : ArrW wr (w.heap.size + 1) 0 0 0 0
  D : Arr wr n (L 0 m) (L 1 m) (L 2 m) (L 3 m)
theorem FoldS.call {w wr w1 : World} {n : Nat} {x m : Int} (h : FoldS w wr n x m) (hk : Below wr.heap.size wr w1) : FoldS w w1 n x m :=
  ⟨K.call h.below hk, h.X.keep hk, h.R.keep hk, h.D.keep hk⟩
theorem FoldS.alloc {w wr : World} {n : Nat} {x m : Int} (h : FoldS w wr n x m) (o : Obj) : FoldS w (wr.alloc o) n x m :=
  ⟨K.alloc h.below o, h.X.alloc o, h.R.alloc o, h.D.alloc o⟩
theorem FoldS.store {w wr : World} {n : Nat} {x m : Int} (h : FoldS w wr n x m) (hn : w.heap.size + 1 < n) (y : Int) : FoldS w ((((wr.setCell ⟨w.heap.size, 0, none⟩ (.int .u64 (L 0 y))).setCell ⟨w.heap.size, 1, none⟩ (.int .u64 (L 1 y))).setCell ⟨w.heap.size, 2, none⟩ (.int .u64 (L 2 y))).setCell ⟨w.heap.size, 3, none⟩ (.int .u64 (L 3 y))) n y m :=
  ⟨K.set4 h.below (Nat.le_refl _) _ _ _ _, h.X.stored _ _ _ _, h.R.set4 (by omega) _ _ _ _, h.D.set4 (by omega) _ _ _ _⟩

set_option maxHeartbeats 4000000 in
theorem ref_fold_any {k a : Int} (ha : Num a) (hm : 0 < md k) (hl : (L 0 (md k) == 0) = false) (w : World) :
    Calls Tryd.prog 21 #[.int .i64 k, .agg #[.int .u64 (L 0 a), .int .u64 (L 1 a), .int .u64 (L 2 a), .int .u64 (L 3 a)]] w fun e w' => e = .returned (.agg #[.int .u64 (L 0 (a % md k)), .int .u64 (L 1 (a % md k)), .int .u64 (L 2 (a % md k)), .int .u64 (L 3 (a % md k))]) ∧ Below w.heap.size w w' := by
  have nm := md_num k
  go_enter Tryd.func21, Tryd.ntmps21
  go_wp2_with fail
  with_reducible refine Calls.mono (ref_mod_any k _) ?_
  rintro e w1 ⟨rfl, hb1⟩
  have A1 := ((ArrW.new w (w.heap.size) rfl 24 (L 0 a) (L 1 a) (L 2 a) (L 3 a)).alloc _).keep hb1
  have R1 := (ArrW.new _ (w.heap.size + 1) (by simp) 24 0 0 0 0).keep hb1
  have hw1 : Below w.heap.size w w1 := K.call (K.alloc (K.alloc (Below.refl _ w) _) _) hb1
  have hS1 : FoldS w (w1.alloc (.cells #[.int .u64 (L 0 (md k)), .int .u64 (L 1 (md k)), .int .u64 (L 2 (md k)), .int .u64 (L 3 (md k))] 24)) w1.heap.size a (md k) := ⟨K.alloc hw1 _, A1.alloc _, R1.alloc _, Arr.new w1 w1.heap.size rfl 24 _ _ _ _⟩
  have hn : w.heap.size + 1 < w1.heap.size := R1.lt
  clear A1 R1 hw1 hb1
  generalize hmd : md k = m at *
  have HM : Hid (md k = m) := hmd
  clear hmd
  go_wp2_with fail
  go_loopg [] a.toNat (fun g wr => ∃ x : Int, g = x.toNat ∧ Num x ∧ x % m = a % m ∧ FoldS w wr w1.heap.size x m)
  case atStart => exact ⟨a, rfl, ha, rfl, hS1⟩
  case round =>
    obtain ⟨x, hg, nx, hxm, hS⟩ := hrel
    have HG : Hid (gk = x.toNat) := hg
    have HX : Hid (x % m = a % m) := hxm
    clear hg hxm hS1
    have hS0 := hS
    obtain ⟨hbw, ⟨xl, x0, x1, x2, x3, xf0, xf1, xf2, xf3⟩, ⟨rl, r0, r1, r2, r3, rf0, rf1, rf2, rf3⟩, ⟨ml, m0, m1, m2, m3⟩⟩ := hS0
    by_cases hlt : x < m
    · have HE : Hid (x = a % m) := by rw [← HX.out]; exact (Int.emod_eq_of_lt nx.lo hlt).symm
      go_wp2_with fail
      with_reducible refine Calls.mono (less_true nx nm (by omega) _) ?_
      clear hbw xl x0 x1 x2 x3 xf0 xf1 xf2 xf3 rl r0 r1 r2 r3 rf0 rf1 rf2 rf3 ml m0 m1 m2 m3
      rintro e w2 ⟨rfl, hb2⟩
      have hS2 := hS.call hb2
      clear hS hb2
      have hS0 := hS2
      obtain ⟨hbw, ⟨xl, x0, x1, x2, x3, xf0, xf1, xf2, xf3⟩, ⟨rl, r0, r1, r2, r3, rf0, rf1, rf2, rf3⟩, ⟨ml, m0, m1, m2, m3⟩⟩ := hS0
      go_wp2_with fail
      refine bodyPost_ret (v := .agg #[.int .u64 (L 0 x), .int .u64 (L 1 x), .int .u64 (L 2 x), .int .u64 (L 3 x)]) (by simp [results, Tryd.results21, go_sem, r0, r1, r2, r3]) rfl ⟨?_, K.set4 hS2.below (by omega) _ _ _ _⟩
      rw [HM.out, ← HE.out]
    · go_wp2_with fail
      with_reducible refine Calls.mono (less_false nx nm (by omega) _) ?_
      clear hbw xl x0 x1 x2 x3 xf0 xf1 xf2 xf3 rl r0 r1 r2 r3 rf0 rf1 rf2 rf3 ml m0 m1 m2 m3
      rintro e w2 ⟨rfl, hb2⟩
      have hS2 := hS.call hb2
      clear hS hb2
      have hS0 := hS2
      obtain ⟨hbw, ⟨xl, x0, x1, x2, x3, xf0, xf1, xf2, xf3⟩, ⟨rl, r0, r1, r2, r3, rf0, rf1, rf2, rf3⟩, ⟨ml, m0, m1, m2, m3⟩⟩ := hS0
      go_wp2_with fail
      with_reducible refine Calls.mono (ref_sub_walk x m _) ?_
      clear hbw xl x0 x1 x2 x3 xf0 xf1 xf2 xf3 rl r0 r1 r2 r3 rf0 rf1 rf2 rf3 ml m0 m1 m2 m3
      rintro e w3 ⟨rfl, hb3⟩
      have hS3 := hS2.call hb3
      clear hS2 hb3
      have hS0 := hS3
      obtain ⟨hbw, ⟨xl, x0, x1, x2, x3, xf0, xf1, xf2, xf3⟩, ⟨rl, r0, r1, r2, r3, rf0, rf1, rf2, rf3⟩, ⟨ml, m0, m1, m2, m3⟩⟩ := hS0
      go_wp2_with fail
      go_roundg (x - m).toNat
      case measure => rw [HG.out]; have := nx.lo; omega
      case rel => exact ⟨x - m, rfl, ⟨by omega, by have := nx.hi; omega⟩, by rw [Int.sub_emod_right]; exact HX.out, (hS3.store hn (x - m)).alloc _⟩
end Go.Proofs.YtimaaendbfjblaaDoor
namespace Go.Proofs.YtimaaendbfjblaaDoor
open Go.RowKit

theorem md_mod1 : md 1 = (mod1 : Int) := by kernel_rfl
theorem nat_num {k : Nat} (h : k < 2 ^ 256) : Num (k : Int) := ⟨by omega, by unfold M; omega⟩
theorem h_md (w : World) : Calls Tryd.prog 19 [.int .i64 1].toArray w fun e w' => e = .returned (.agg (nc (mod1 : Int)).toArray) ∧ Below w.heap.size w w' := by
  rw [← md_mod1]
  exact ref_mod_any 1 w
theorem h_fold {k : Nat} (hk : k < 2 ^ 256) (w : World) : Calls Tryd.prog 21 [.int .i64 1, .agg (nc (k : Int)).toArray].toArray w fun e w' => e = .returned (.agg (nc ((k % mod1 : Nat) : Int)).toArray) ∧ Below w.heap.size w w' := by
  rw [Int.natCast_emod, ← md_mod1]
  exact ref_fold_any (k := 1) (nat_num hk) (by rw [md_mod1]; decide +kernel) (by kernel_rfl) w
theorem nc_wrap (a : Int) : nc (a - M) = nc a := by
  unfold nc
  have h : ∀ k, k < 4 → L k (a - M) = L k a := fun k hk => by
    unfold L M B
    rcases (show k = 0 ∨ k = 1 ∨ k = 2 ∨ k = 3 by omega) with rfl | rfl | rfl | rfl <;> omega
  rw [h 0 (by omega), h 1 (by omega), h 2 (by omega), h 3 (by omega)]
theorem h_add_less {k1 k2 : Nat} (h1 : k1 < 2 ^ 256) (h2 : k2 < 2 ^ 256) (h : k1 + k2 < 2 ^ 256) (w : World) : Calls Tryd.prog 18 [.agg (nc (k1 : Int)).toArray, .agg (nc (k2 : Int)).toArray].toArray w fun e w' => e = .returned (.tuple [.agg (nc ((k1 + k2 : Nat) : Int)).toArray, .bool false].toArray) ∧ Below w.heap.size w w' := by
  have g := ref_add_any (nat_num h1) (nat_num h2) w
  have e : over (k1 : Int) (k2 : Int) = false := decide_eq_false (by unfold M; omega)
  rw [e] at g
  rw [Int.natCast_add]
  exact g
theorem h_add_over {k1 k2 : Nat} (h1 : k1 < 2 ^ 256) (h2 : k2 < 2 ^ 256) (h : 2 ^ 256 ≤ k1 + k2) (w : World) : Calls Tryd.prog 18 [.agg (nc (k1 : Int)).toArray, .agg (nc (k2 : Int)).toArray].toArray w fun e w' => e = .returned (.tuple [.agg (nc ((k1 + k2 - 2 ^ 256 : Nat) : Int)).toArray, .bool true].toArray) ∧ Below w.heap.size w w' := by
  have g := ref_add_any (nat_num h1) (nat_num h2) w
  have e : over (k1 : Int) (k2 : Int) = true := decide_eq_true (by unfold M; omega)
  rw [e] at g
  rw [show ((k1 + k2 - 2 ^ 256 : Nat) : Int) = (k1 : Int) + k2 - M by unfold M; omega, nc_wrap]
  exact g
theorem f_lt (y : Fin m0) : (y.val : Int) < md 0 := of_decide_eq_true (fin_lt y)
theorem s_md (w : World) : Calls Tryd.prog 19 [.int .i64 0].toArray w fun e w' => e = .returned (.agg (nc (md 0)).toArray) ∧ Below w.heap.size w w' := ref_mod_any 0 w
theorem s_fold (y : Fin m0) (w : World) : Calls Tryd.prog 21 [.int .i64 0, .agg (fc y).toArray].toArray w fun e w' => e = .returned (.agg (fc y).toArray) ∧ Below w.heap.size w w' := by
  have h := ref_fold_any (k := 0) (fin_num y) (by rw [md_m0]; decide +kernel) (by kernel_rfl) w
  rw [Int.emod_eq_of_lt (by omega) (f_lt y)] at h
  exact h
theorem s_fold0 (w : World) : Calls Tryd.prog 21 [.int .i64 0, .agg nz.toArray].toArray w fun e w' => e = .returned (.agg (fc 0).toArray) ∧ Below w.heap.size w w' := by
  rw [nz_fc]
  exact s_fold 0 w
theorem s_less {y : Fin m0} {t : Bool} (ht : decide (0 < y.val) = t) (w : World) : Calls Tryd.prog 47 [.agg (fc 0).toArray, .agg (fc y).toArray].toArray w fun e w' => e = .returned (.bool t) ∧ Below w.heap.size w w' := by
  have h := less_any (fin_num 0) (fin_num y) w
  have e : decide (((0 : Fin m0).val : Int) < (y.val : Int)) = t := by
    rw [← ht]
    have : (((0 : Fin m0).val : Int) < (y.val : Int)) = (0 < y.val) := by
      rw [show (0 : Fin m0).val = 0 from Fin.val_zero _]
      apply propext
      omega
    simp only [this]
  rw [e] at h
  exact h
theorem s_sub0 (y : Fin m0) (w : World) : Calls Tryd.prog 48 [.agg (nc (md 0)).toArray, .agg (fc y).toArray].toArray w fun e w' => e = .returned (.tuple [.agg (nc (md 0 - (y.val : Int))).toArray, .bool false].toArray) ∧ Below w.heap.size w w' := by
  have h := ref_sub_any (a := md 0) (by rw [md_m0]; exact ⟨by omega, by unfold M m0 q0; omega⟩) (fin_num y) w
  have e : under (md 0) (y.val : Int) = false := decide_eq_false (by have := f_lt y; omega)
  rw [e] at h
  exact h
theorem s_subz (w : World) : Calls Tryd.prog 48 [.agg (fc 0).toArray, .agg (fc 0).toArray].toArray w fun e w' => e = .returned (.tuple [.agg (fc 0).toArray, .bool false].toArray) ∧ Below w.heap.size w w' := by
  have h := ref_sub_any (fin_num 0) (fin_num 0) w
  have e : under ((0 : Fin m0).val : Int) ((0 : Fin m0).val : Int) = false := decide_eq_false (by omega)
  have z : ((0 : Fin m0).val : Int) - ((0 : Fin m0).val : Int) = ((0 : Fin m0).val : Int) := by rw [show (0 : Fin m0).val = 0 from Fin.val_zero _]; rfl
  rw [e, z] at h
  exact h
theorem neg_nc {y : Fin m0} (hy : 0 < y.val) : fc (0 - y) = nc (md 0 - (y.val : Int)) := by
  rw [fc_sub]
  congr 1
  have h := f_lt y
  rw [show (0 : Fin m0).val = 0 from Fin.val_zero _, show ((0 : Nat) : Int) - (y.val : Int) = (md 0 - (y.val : Int)) - md 0 by omega, Int.sub_emod, Int.emod_self, Int.sub_zero, Int.emod_emod_of_dvd _ (Int.dvd_refl _), Int.emod_eq_of_lt (by omega) (by omega)]
theorem s_plus {y : Fin m0} (hy : 0 < y.val) (w : World) : Calls Tryd.prog 49 [.agg (nc (md 0)).toArray, .agg (fc 0).toArray, .agg (nc (md 0 - (y.val : Int))).toArray].toArray w fun e w' => e = .returned (.agg (fc (0 - y)).toArray) ∧ Below w.heap.size w w' := by
  have h := ref_plus_any (m := md 0) (a := ((0 : Fin m0).val : Int)) (b := md 0 - (y.val : Int)) (by rw [md_m0]; exact ⟨by omega, by unfold M m0 q0; omega⟩) (by omega) (f_lt 0) (by have := f_lt y; omega) (by omega) w
  rw [neg_nc hy]
  rw [show ((0 : Fin m0).val : Int) + (md 0 - (y.val : Int)) = md 0 - (y.val : Int) by rw [show (0 : Fin m0).val = 0 from Fin.val_zero _]; omega, Int.emod_eq_of_lt (by have := f_lt y; omega) (by omega)] at h
  exact h
set_option maxRecDepth 100000 in
set_option maxHeartbeats 4000000 in
theorem h_sub_pos {w : World} {y : Fin m0} (hy : 0 < y.val) : Calls Tryd.prog 20 [Value.int .i64 0, .agg (nz).toArray, .agg (fc (y)).toArray].toArray w fun e w' => e = .returned (.agg (fc (0 - y)).toArray) ∧ Below w.heap.size w w' := by
  refine enter (args := [Value.int .i64 0, .agg (nz).toArray, .agg (fc (y)).toArray]) Tryd.func20 rfl 41 rfl (lk rfl) (fun a h => ?_)
  refine go_region h hm [eN 4 (nz), eN 5 (fc (y)), eN 6 (nz)] (by kernel_rfl) ⟨
    fun L u => u_box u (gd0 rfl) 24 (.tmp 1) rfl 4 rfl rfl rfl _ rfl,
    fun L u => u_box u (gd0 rfl) 24 (.tmp 2) rfl 5 rfl rfl rfl _ rfl,
    fun L u => u_alloc u (gd0 rfl) 24 rfl 6 rfl rfl z24 _ rfl,
    trivial⟩ [(0, .val (Value.int .i64 0)), (4, .ptr 4 0), (5, .ptr 5 0), (6, .ptr 6 0)] [(4, nz), (5, fc (y)), (6, nz)] ⟨rfl, rfl, rfl, rfl, trivial⟩ ⟨rfl, rfl, rfl, trivial⟩ rfl (fun a w h => ?_)
  refine go_region h hm [eS 13 (.val (Value.int .i64 0)), eS 14 (.val (.agg (nz).toArray)), eS 15 (.val (.agg (fc (0)).toArray)), eS 16 (.val (Value.int .i64 0)), eS 17 (.val (.agg (fc (y)).toArray)), eS 18 (.val (.agg (fc (y)).toArray)), eN 7 (nz), eN 8 (nz), eM 7 (fc (0)), eM 8 (fc (y))] (by kernel_rfl) ⟨
    fun L u => u_move u (gd0 rfl) 13 rfl (.tmp 0) (Or.inl rfl) rfl,
    fun L u => u_load u (gd0 rfl) 14 rfl 24 (.tmp 4) rfl rfl rfl Tryd.underlying24 rfl i24 (lk rfl) _ rfl,
    fun L u => u_call u (gd0 rfl) 15 rfl 21 #[(.tmp 13), (.tmp 14)] #[3, 24] rfl [Value.int .i64 0, .agg (nz).toArray] rfl (cE21 _) (.agg (fc (0)).toArray) (fun w hb => s_fold0 w),
    fun L u => u_move u (gd0 rfl) 16 rfl (.tmp 0) (Or.inl rfl) rfl,
    fun L u => u_load u (gd0 rfl) 17 rfl 24 (.tmp 5) rfl rfl rfl Tryd.underlying24 rfl i24 (lk rfl) _ rfl,
    fun L u => u_call u (gd0 rfl) 18 rfl 21 #[(.tmp 16), (.tmp 17)] #[3, 24] rfl [Value.int .i64 0, .agg (fc (y)).toArray] rfl (cE21 _) (.agg (fc (y)).toArray) (fun w hb => s_fold _ w),
    fun L u => u_alloc u (gd0 rfl) 24 rfl 7 rfl rfl z24 _ rfl,
    fun L u => u_alloc u (gd0 rfl) 24 rfl 8 rfl rfl z24 _ rfl,
    fun L u => u_store u (gd0 rfl) 24 (.tmp 7) (.tmp 15) rfl rfl rfl (vs := fc (0)) rfl rfl i24 (lk rfl) rfl _ rfl,
    fun L u => u_store u (gd0 rfl) 24 (.tmp 8) (.tmp 18) rfl rfl rfl (vs := fc (y)) rfl rfl i24 (lk rfl) rfl _ rfl,
    trivial⟩ [(0, .val (Value.int .i64 0)), (6, .ptr 6 0), (7, .ptr 7 0), (8, .ptr 8 0)] [(6, nz), (7, fc (0)), (8, fc (y))] ⟨rfl, rfl, rfl, rfl, trivial⟩ ⟨rfl, rfl, rfl, trivial⟩ rfl (fun a w h => ?_)
  refine wp_seq ?_
  refine go_region h hm [eS 19 (.val (.agg (fc (0)).toArray)), eS 20 (.val (.agg (fc (y)).toArray)), eS 21 (.val (Value.bool true))] (by kernel_rfl) ⟨
    fun L u => u_load u (gd0 rfl) 19 rfl 24 (.tmp 7) rfl rfl rfl Tryd.underlying24 rfl i24 (lk rfl) _ rfl,
    fun L u => u_load u (gd0 rfl) 20 rfl 24 (.tmp 8) rfl rfl rfl Tryd.underlying24 rfl i24 (lk rfl) _ rfl,
    fun L u => u_call u (gd0 rfl) 21 rfl 47 #[(.tmp 19), (.tmp 20)] #[24, 24] rfl [.agg (fc (0)).toArray, .agg (fc (y)).toArray] rfl (cE47 _) (Value.bool true) (fun w hb => s_less (decide_eq_true hy) w),
    trivial⟩ [(0, .val (Value.int .i64 0)), (6, .ptr 6 0), (7, .ptr 7 0), (8, .ptr 8 0), (21, .val (Value.bool true))] [(6, nz), (7, fc (0)), (8, fc (y))] ⟨rfl, rfl, rfl, rfl, rfl, trivial⟩ ⟨rfl, rfl, rfl, trivial⟩ rfl (fun a w h => ?_)
  refine go_cond h true rfl (fun ht => ?_) (fun hf => ?_)
  case refine_2 => cases hf
  refine go_region h hm [eS 23 (.val (Value.int .i64 0)), eS 24 (.val (.agg (nc (md 0)).toArray)), eS 25 (.val (.agg (fc (y)).toArray)), eS 26 (.val (.tuple [.agg (nc (md 0 - (y.val : Int))).toArray, Value.bool false].toArray)), eS 22 (.val (.tuple [.agg (nc (md 0 - (y.val : Int))).toArray, Value.bool false].toArray)), eS 27 (.val (.agg (nc (md 0 - (y.val : Int))).toArray)), eS 28 (.val (Value.bool false)), eN 9 (nz), eM 9 (nc (md 0 - (y.val : Int))), eS 10 (.val (Value.bool false))] (by kernel_rfl) ⟨
    fun L u => u_move u (gd0 rfl) 23 rfl (.tmp 0) (Or.inl rfl) rfl,
    fun L u => u_call u (gd0 rfl) 24 rfl 19 #[(.tmp 23)] #[3] rfl [Value.int .i64 0] rfl (cE19 _) (.agg (nc (md 0)).toArray) (fun w hb => s_md w),
    fun L u => u_load u (gd0 rfl) 25 rfl 24 (.tmp 8) rfl rfl rfl Tryd.underlying24 rfl i24 (lk rfl) _ rfl,
    fun L u => u_call u (gd0 rfl) 26 rfl 48 #[(.tmp 24), (.tmp 25)] #[24, 24] rfl [.agg (nc (md 0)).toArray, .agg (fc (y)).toArray] rfl (cE48 _) (.tuple [.agg (nc (md 0 - (y.val : Int))).toArray, Value.bool false].toArray) (fun w hb => s_sub0 _ w),
    fun L u => u_move u (gd0 rfl) 22 rfl (.tmp 26) (Or.inl rfl) rfl,
    fun L u => u_part u (gd0 rfl) 27 rfl (.tmp 22) 0 rfl (vs := [.agg (nc (md 0 - (y.val : Int))).toArray, Value.bool false]) rfl _ rfl,
    fun L u => u_part u (gd0 rfl) 28 rfl (.tmp 22) 1 rfl (vs := [.agg (nc (md 0 - (y.val : Int))).toArray, Value.bool false]) rfl _ rfl,
    fun L u => u_alloc u (gd0 rfl) 24 rfl 9 rfl rfl z24 _ rfl,
    fun L u => u_store u (gd0 rfl) 24 (.tmp 9) (.tmp 27) rfl rfl rfl (vs := nc (md 0 - (y.val : Int))) rfl rfl i24 (lk rfl) rfl _ rfl,
    fun L u => u_move u (gd0 rfl) 10 rfl (.tmp 28) (Or.inr rfl) rfl,
    trivial⟩ [(0, .val (Value.int .i64 0)), (6, .ptr 6 0), (7, .ptr 7 0), (9, .ptr 9 0)] [(6, nz), (7, fc (0)), (9, nc (md 0 - (y.val : Int)))] ⟨rfl, rfl, rfl, rfl, trivial⟩ ⟨rfl, rfl, rfl, trivial⟩ rfl (fun a w h => ?_)
  refine go_region h hm [eS 29 (.val (Value.int .i64 0)), eS 30 (.val (.agg (nc (md 0)).toArray)), eS 31 (.val (.agg (fc (0)).toArray)), eS 32 (.val (.agg (nc (md 0 - (y.val : Int))).toArray)), eS 33 (.val (.agg (fc (0 - y)).toArray)), eM 6 (fc (0 - y))] (by kernel_rfl) ⟨
    fun L u => u_move u (gd0 rfl) 29 rfl (.tmp 0) (Or.inl rfl) rfl,
    fun L u => u_call u (gd0 rfl) 30 rfl 19 #[(.tmp 29)] #[3] rfl [Value.int .i64 0] rfl (cE19 _) (.agg (nc (md 0)).toArray) (fun w hb => s_md w),
    fun L u => u_load u (gd0 rfl) 31 rfl 24 (.tmp 7) rfl rfl rfl Tryd.underlying24 rfl i24 (lk rfl) _ rfl,
    fun L u => u_load u (gd0 rfl) 32 rfl 24 (.tmp 9) rfl rfl rfl Tryd.underlying24 rfl i24 (lk rfl) _ rfl,
    fun L u => u_call u (gd0 rfl) 33 rfl 49 #[(.tmp 30), (.tmp 31), (.tmp 32)] #[24, 24, 24] rfl [.agg (nc (md 0)).toArray, .agg (fc (0)).toArray, .agg (nc (md 0 - (y.val : Int))).toArray] rfl (cE49 _) (.agg (fc (0 - y)).toArray) (fun w hb => s_plus hy w),
    fun L u => u_store u (gd0 rfl) 24 (.tmp 6) (.tmp 33) rfl rfl rfl (vs := fc (0 - y)) rfl rfl i24 (lk rfl) rfl _ rfl,
    trivial⟩ [(6, .ptr 6 0)] [(6, fc (0 - y))] ⟨rfl, trivial⟩ ⟨rfl, trivial⟩ rfl (fun a w h => ?_)
  refine wp_ret ?_
  refine then_ret ?_
  refine ret_row h 6 24 rfl (lk rfl) 6 rfl (fc (0 - y)) rfl _ Tryd.underlying24 rfl i24 ?_
  exact ⟨rfl, h.grows⟩
set_option maxRecDepth 100000 in
set_option maxHeartbeats 4000000 in
theorem h_sub_nil {w : World}  : Calls Tryd.prog 20 [Value.int .i64 0, .agg (nz).toArray, .agg (fc (0)).toArray].toArray w fun e w' => e = .returned (.agg (fc 0).toArray) ∧ Below w.heap.size w w' := by
  refine enter (args := [Value.int .i64 0, .agg (nz).toArray, .agg (fc (0)).toArray]) Tryd.func20 rfl 41 rfl (lk rfl) (fun a h => ?_)
  refine go_region h hm [eN 4 (nz), eN 5 (fc (0)), eN 6 (nz)] (by kernel_rfl) ⟨
    fun L u => u_box u (gd0 rfl) 24 (.tmp 1) rfl 4 rfl rfl rfl _ rfl,
    fun L u => u_box u (gd0 rfl) 24 (.tmp 2) rfl 5 rfl rfl rfl _ rfl,
    fun L u => u_alloc u (gd0 rfl) 24 rfl 6 rfl rfl z24 _ rfl,
    trivial⟩ [(0, .val (Value.int .i64 0)), (4, .ptr 4 0), (5, .ptr 5 0), (6, .ptr 6 0)] [(4, nz), (5, fc (0)), (6, nz)] ⟨rfl, rfl, rfl, rfl, trivial⟩ ⟨rfl, rfl, rfl, trivial⟩ rfl (fun a w h => ?_)
  refine go_region h hm [eS 13 (.val (Value.int .i64 0)), eS 14 (.val (.agg (nz).toArray)), eS 15 (.val (.agg (fc (0)).toArray)), eS 16 (.val (Value.int .i64 0)), eS 17 (.val (.agg (fc (0)).toArray)), eS 18 (.val (.agg (fc (0)).toArray)), eN 7 (nz), eN 8 (nz), eM 7 (fc (0)), eM 8 (fc (0))] (by kernel_rfl) ⟨
    fun L u => u_move u (gd0 rfl) 13 rfl (.tmp 0) (Or.inl rfl) rfl,
    fun L u => u_load u (gd0 rfl) 14 rfl 24 (.tmp 4) rfl rfl rfl Tryd.underlying24 rfl i24 (lk rfl) _ rfl,
    fun L u => u_call u (gd0 rfl) 15 rfl 21 #[(.tmp 13), (.tmp 14)] #[3, 24] rfl [Value.int .i64 0, .agg (nz).toArray] rfl (cE21 _) (.agg (fc (0)).toArray) (fun w hb => s_fold0 w),
    fun L u => u_move u (gd0 rfl) 16 rfl (.tmp 0) (Or.inl rfl) rfl,
    fun L u => u_load u (gd0 rfl) 17 rfl 24 (.tmp 5) rfl rfl rfl Tryd.underlying24 rfl i24 (lk rfl) _ rfl,
    fun L u => u_call u (gd0 rfl) 18 rfl 21 #[(.tmp 16), (.tmp 17)] #[3, 24] rfl [Value.int .i64 0, .agg (fc (0)).toArray] rfl (cE21 _) (.agg (fc (0)).toArray) (fun w hb => s_fold _ w),
    fun L u => u_alloc u (gd0 rfl) 24 rfl 7 rfl rfl z24 _ rfl,
    fun L u => u_alloc u (gd0 rfl) 24 rfl 8 rfl rfl z24 _ rfl,
    fun L u => u_store u (gd0 rfl) 24 (.tmp 7) (.tmp 15) rfl rfl rfl (vs := fc (0)) rfl rfl i24 (lk rfl) rfl _ rfl,
    fun L u => u_store u (gd0 rfl) 24 (.tmp 8) (.tmp 18) rfl rfl rfl (vs := fc (0)) rfl rfl i24 (lk rfl) rfl _ rfl,
    trivial⟩ [(0, .val (Value.int .i64 0)), (6, .ptr 6 0), (7, .ptr 7 0), (8, .ptr 8 0)] [(6, nz), (7, fc (0)), (8, fc (0))] ⟨rfl, rfl, rfl, rfl, trivial⟩ ⟨rfl, rfl, rfl, trivial⟩ rfl (fun a w h => ?_)
  refine wp_seq ?_
  refine go_region h hm [eS 19 (.val (.agg (fc (0)).toArray)), eS 20 (.val (.agg (fc (0)).toArray)), eS 21 (.val (Value.bool false))] (by kernel_rfl) ⟨
    fun L u => u_load u (gd0 rfl) 19 rfl 24 (.tmp 7) rfl rfl rfl Tryd.underlying24 rfl i24 (lk rfl) _ rfl,
    fun L u => u_load u (gd0 rfl) 20 rfl 24 (.tmp 8) rfl rfl rfl Tryd.underlying24 rfl i24 (lk rfl) _ rfl,
    fun L u => u_call u (gd0 rfl) 21 rfl 47 #[(.tmp 19), (.tmp 20)] #[24, 24] rfl [.agg (fc (0)).toArray, .agg (fc (0)).toArray] rfl (cE47 _) (Value.bool false) (fun w hb => s_less (decide_eq_false (by rw [show (0 : Fin m0).val = 0 from Fin.val_zero _]; omega)) w),
    trivial⟩ [(0, .val (Value.int .i64 0)), (6, .ptr 6 0), (7, .ptr 7 0), (8, .ptr 8 0), (21, .val (Value.bool false))] [(6, nz), (7, fc (0)), (8, fc (0))] ⟨rfl, rfl, rfl, rfl, rfl, trivial⟩ ⟨rfl, rfl, rfl, trivial⟩ rfl (fun a w h => ?_)
  refine go_cond h false rfl (fun ht => ?_) (fun hf => ?_)
  case refine_1 => cases ht
  refine wp_skip ?_
  refine then_norm ?_
  refine go_region h hm [eS 35 (.val (.agg (fc (0)).toArray)), eS 36 (.val (.agg (fc (0)).toArray)), eS 37 (.val (.tuple [.agg (fc (0)).toArray, Value.bool false].toArray)), eS 34 (.val (.tuple [.agg (fc (0)).toArray, Value.bool false].toArray)), eS 38 (.val (.agg (fc (0)).toArray)), eS 39 (.val (Value.bool false)), eN 11 (nz), eM 11 (fc (0)), eS 12 (.val (Value.bool false))] (by kernel_rfl) ⟨
    fun L u => u_load u (gd0 rfl) 35 rfl 24 (.tmp 7) rfl rfl rfl Tryd.underlying24 rfl i24 (lk rfl) _ rfl,
    fun L u => u_load u (gd0 rfl) 36 rfl 24 (.tmp 8) rfl rfl rfl Tryd.underlying24 rfl i24 (lk rfl) _ rfl,
    fun L u => u_call u (gd0 rfl) 37 rfl 48 #[(.tmp 35), (.tmp 36)] #[24, 24] rfl [.agg (fc (0)).toArray, .agg (fc (0)).toArray] rfl (cE48 _) (.tuple [.agg (fc (0)).toArray, Value.bool false].toArray) (fun w hb => s_subz w),
    fun L u => u_move u (gd0 rfl) 34 rfl (.tmp 37) (Or.inl rfl) rfl,
    fun L u => u_part u (gd0 rfl) 38 rfl (.tmp 34) 0 rfl (vs := [.agg (fc (0)).toArray, Value.bool false]) rfl _ rfl,
    fun L u => u_part u (gd0 rfl) 39 rfl (.tmp 34) 1 rfl (vs := [.agg (fc (0)).toArray, Value.bool false]) rfl _ rfl,
    fun L u => u_alloc u (gd0 rfl) 24 rfl 11 rfl rfl z24 _ rfl,
    fun L u => u_store u (gd0 rfl) 24 (.tmp 11) (.tmp 38) rfl rfl rfl (vs := fc (0)) rfl rfl i24 (lk rfl) rfl _ rfl,
    fun L u => u_move u (gd0 rfl) 12 rfl (.tmp 39) (Or.inr rfl) rfl,
    trivial⟩ [(6, .ptr 6 0), (11, .ptr 11 0)] [(6, nz), (11, fc (0))] ⟨rfl, rfl, trivial⟩ ⟨rfl, rfl, trivial⟩ rfl (fun a w h => ?_)
  refine go_region h hm [eS 40 (.val (.agg (fc (0)).toArray)), eM 6 (fc (0))] (by kernel_rfl) ⟨
    fun L u => u_load u (gd0 rfl) 40 rfl 24 (.tmp 11) rfl rfl rfl Tryd.underlying24 rfl i24 (lk rfl) _ rfl,
    fun L u => u_store u (gd0 rfl) 24 (.tmp 6) (.tmp 40) rfl rfl rfl (vs := fc (0)) rfl rfl i24 (lk rfl) rfl _ rfl,
    trivial⟩ [(6, .ptr 6 0)] [(6, fc (0))] ⟨rfl, trivial⟩ ⟨rfl, trivial⟩ rfl (fun a w h => ?_)
  refine wp_ret ?_
  refine ret_row h 6 24 rfl (lk rfl) 6 rfl (fc (0)) rfl _ Tryd.underlying24 rfl i24 ?_
  exact ⟨rfl, h.grows⟩
theorem h_sub (w : World) (y : Fin m0) : Calls Tryd.prog 20 [.int .i64 0, .agg nz.toArray, .agg (fc y).toArray].toArray w fun e w' => e = .returned (.agg (fc (0 - y)).toArray) ∧ Below w.heap.size w w' := by
  by_cases hy : 0 < y.val
  · exact h_sub_pos hy
  · obtain rfl : y = 0 := Fin.ext (by rw [show (0 : Fin m0).val = 0 from Fin.val_zero _]; omega)
    rw [sub_nil]
    exact h_sub_nil
end Go.Proofs.YtimaaendbfjblaaDoor
