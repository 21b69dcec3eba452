/- The statements of layer 9, walked over what the program answers. What the document's own Add answers, for all numbers: the same as limb.Add. What the document's own Sub answers, for all numbers: the same as limb.Sub. What the document's own Modulus and plus answer. What the document's own Fold answers: a number modulo each modulus. What the document's own numbers modulo the moduli are, as the statements of layer 9 ask them. The statements of layer 9, at whatever numbers and points come. -/
import Derived.Test.YtolehamdaceikaaDoorM22
import Derived.Test.YtolehamdaceikaaDoorM02
import Derived.Test.YtolehamdaceikaaDoorM18
import Derived.Test.YtolehamdaceikaaDoorM03
import Derived.Deep.LoopGhost
namespace Go.Proofs.YtolehamdaceikaaDoor
open Go.RowKit

set_option maxRecDepth 100000 in
set_option maxHeartbeats 4000000 in
theorem eadds_walk {w : World} (hT : Tab w) {X Y X2 Y2 : Int} (hX : Num X) (hY : Num Y) (hX2 : Num X2) (hY2 : Num Y2) (t t2 : Bool) : Calls Tryd.prog 3 [.agg (rc X Y t).toArray, .agg (rc X2 Y2 t2).toArray].toArray w fun e w' => e = .returned (.bool true) ∧ Below w.heap.size w w' := by
  refine enter (args := [.agg (rc X Y t).toArray, .agg (rc X2 Y2 t2).toArray]) Tryd.func3 rfl 22 rfl (lk rfl) (fun a h => ?_)
  refine go_region h hm [eN 2 (rc X Y t), eN 3 (rc X2 Y2 t2), eS 4 (.val (Value.bool false))] (by kernel_rfl) ⟨
    fun L u => u_box u (gd0 rfl) 26 (.tmp 0) rfl 2 rfl rfl rfl _ rfl,
    fun L u => u_box u (gd0 rfl) 26 (.tmp 1) rfl 3 rfl rfl rfl _ rfl,
    fun L u => u_move u (gd0 rfl) 4 rfl (.const (.bool false)) (Or.inr rfl) rfl,
    trivial⟩ [(2, .ptr 2 0), (3, .ptr 3 0)] [(2, rc X Y t), (3, rc X2 Y2 t2)] ⟨rfl, rfl, trivial⟩ ⟨rfl, rfl, trivial⟩ rfl (fun a w h => ?_)
  refine go_region h hm [eS 5 (.val (Value.bool true)), eS 6 (.val (Value.bool true)), eS 7 (.val (.agg (rc X Y t).toArray)), eS 8 (.val (Value.bool (fmdE X Y t))), eS 9 (.val (.agg (rc X Y t).toArray)), eS 10 (.val (Value.bool (fmdE X Y t))), eS 11 (.val (Value.bool true)), eS 12 (.val (Value.bool true)), eS 13 (.val (Value.bool true)), eS 14 (.val (.agg (rc X Y t).toArray)), eS 15 (.val (.agg (rc X2 Y2 t2).toArray)), eS 16 (.val (.agg (pcE (eadd (rpE X Y t) (rpE X2 Y2 t2))).toArray)), eS 17 (.val (.agg (rc X Y t).toArray)), eS 18 (.val (.agg (rc X2 Y2 t2).toArray)), eS 19 (.val (.agg (pcE (eadd (rpE X Y t) (rpE X2 Y2 t2))).toArray)), eS 20 (.val (Value.bool true)), eS 21 (.val (Value.bool true)), eS 4 (.val (Value.bool true))] (by kernel_rfl) ⟨
    fun L u => u_call u (gd0 rfl) 5 rfl 9 #[] #[] rfl [] rfl (cE9 _) (Value.bool true) (fun w hb => awakeE_any (hT.keep (Bs.kp_of hb))),
    fun L u => u_move u (gd0 rfl) 6 rfl (.tmp 5) (Or.inl rfl) rfl,
    fun L u => u_load u (gd1 u 1 true rfl 6 rfl (lk rfl) rfl) 7 rfl 26 (.tmp 2) rfl rfl rfl Tryd.underlying26 rfl i26 (lk rfl) _ rfl,
    fun L u => u_call u (gd1 u 1 true rfl 6 rfl (lk rfl) rfl) 8 rfl 10 #[(.tmp 7)] #[26] rfl [.agg (rc X Y t).toArray] rfl (cE10 _) (Value.bool (fmdE X Y t)) (fun w hb => e_Formed (hT.keep (Bs.kp_of hb)) hX hY t),
    fun L u => u_load u (gd1 u 1 true rfl 6 rfl (lk rfl) rfl) 9 rfl 26 (.tmp 2) rfl rfl rfl Tryd.underlying26 rfl i26 (lk rfl) _ rfl,
    fun L u => u_call u (gd1 u 1 true rfl 6 rfl (lk rfl) rfl) 10 rfl 11 #[(.tmp 9)] #[26] rfl [.agg (rc X Y t).toArray] rfl (cE11 _) (Value.bool (fmdE X Y t)) (fun w hb => s_Formed (hT.keep (Bs.kp_of hb)) hX hY t),
    fun L u => u_bin u (gd1 u 1 true rfl 6 rfl (lk rfl) rfl) 11 rfl .eql 4 4 (.tmp 8) (.tmp 10) rfl rfl rfl (eqg_bool _ _ _ _ _ _) (Value.bool true) (yes_of (fun w => t_eql _ Tryd.underlying4 _ _ w) rfl),
    fun L u => u_pick u (gd0 rfl) 12 rfl (.tmp 6) (.tmp 11) (.const (.bool false)) rfl rfl rfl rfl _ rfl,
    fun L u => u_move u (gd0 rfl) 13 rfl (.tmp 12) (Or.inl rfl) rfl,
    fun L u => u_load u (gd1 u 8 true rfl 13 rfl (lk rfl) rfl) 14 rfl 26 (.tmp 2) rfl rfl rfl Tryd.underlying26 rfl i26 (lk rfl) _ rfl,
    fun L u => u_load u (gd1 u 8 true rfl 13 rfl (lk rfl) rfl) 15 rfl 26 (.tmp 3) rfl rfl rfl Tryd.underlying26 rfl i26 (lk rfl) _ rfl,
    fun L u => u_call u (gd1 u 8 true rfl 13 rfl (lk rfl) rfl) 16 rfl 12 #[(.tmp 14), (.tmp 15)] #[26, 26] rfl [.agg (rc X Y t).toArray, .agg (rc X2 Y2 t2).toArray] rfl (cE12 _) (.agg (pcE (eadd (rpE X Y t) (rpE X2 Y2 t2))).toArray) (fun w hb => e_Add (hT.keep (Bs.kp_of hb)) hX hY hX2 hY2 t t2),
    fun L u => u_load u (gd1 u 8 true rfl 13 rfl (lk rfl) rfl) 17 rfl 26 (.tmp 2) rfl rfl rfl Tryd.underlying26 rfl i26 (lk rfl) _ rfl,
    fun L u => u_load u (gd1 u 8 true rfl 13 rfl (lk rfl) rfl) 18 rfl 26 (.tmp 3) rfl rfl rfl Tryd.underlying26 rfl i26 (lk rfl) _ rfl,
    fun L u => u_call u (gd1 u 8 true rfl 13 rfl (lk rfl) rfl) 19 rfl 13 #[(.tmp 17), (.tmp 18)] #[26, 26] rfl [.agg (rc X Y t).toArray, .agg (rc X2 Y2 t2).toArray] rfl (cE13 _) (.agg (pcE (eadd (rpE X Y t) (rpE X2 Y2 t2))).toArray) (fun w hb => s_Add (hT.keep (Bs.kp_of hb)) hX hY hX2 hY2 t t2),
    fun L u => u_eql u (gd1 u 8 true rfl 13 rfl (lk rfl) rfl) 20 rfl 26 26 (.tmp 16) (.tmp 19) rfl rfl rfl Tryd.eqGuardType26 (true) (fun w => eq_pcE_same _ w),
    fun L u => u_pick u (gd0 rfl) 21 rfl (.tmp 13) (.tmp 20) (.const (.bool false)) rfl rfl rfl rfl _ rfl,
    fun L u => u_move u (gd0 rfl) 4 rfl (.tmp 21) (Or.inr rfl) rfl,
    trivial⟩ [(4, .val (Value.bool true))] [] ⟨rfl, trivial⟩ trivial rfl (fun a w h => ?_)
  refine wp_ret ?_
  refine ret_slot h 4 rfl (lk rfl) (Value.bool true) rfl ?_
  exact ⟨rfl, h.grows⟩
set_option maxRecDepth 100000 in
set_option maxHeartbeats 4000000 in
theorem emult_walk {w : World} (hT : Tab w) {k : Nat} (hk : k < 2 ^ 256) {X Y : Int} (hX : Num X) (hY : Num Y) (t : Bool) : Calls Tryd.prog 4 [.agg (nc ((k : Int))).toArray, .agg (rc X Y t).toArray].toArray w fun e w' => e = .returned (.bool true) ∧ Below w.heap.size w w' := by
  refine enter (args := [.agg (nc ((k : Int))).toArray, .agg (rc X Y t).toArray]) Tryd.func4 rfl 15 rfl (lk rfl) (fun a h => ?_)
  refine go_region h hm [eN 2 (nc ((k : Int))), eN 3 (rc X Y t), eS 4 (.val (Value.bool false))] (by kernel_rfl) ⟨
    fun L u => u_box u (gd0 rfl) 24 (.tmp 0) rfl 2 rfl rfl rfl _ rfl,
    fun L u => u_box u (gd0 rfl) 26 (.tmp 1) rfl 3 rfl rfl rfl _ rfl,
    fun L u => u_move u (gd0 rfl) 4 rfl (.const (.bool false)) (Or.inr rfl) rfl,
    trivial⟩ [(2, .ptr 2 0), (3, .ptr 3 0)] [(2, nc ((k : Int))), (3, rc X Y t)] ⟨rfl, rfl, trivial⟩ ⟨rfl, rfl, trivial⟩ rfl (fun a w h => ?_)
  refine go_region h hm [eS 5 (.val (Value.bool true)), eS 6 (.val (Value.bool true)), eS 7 (.val (.agg (nc ((k : Int))).toArray)), eS 8 (.val (.agg (rc X Y t).toArray)), eS 9 (.val (.agg (pcE (mt eadd (Ep.o m2) (rpE X Y t) k)).toArray)), eS 10 (.val (.agg (nc ((k : Int))).toArray)), eS 11 (.val (.agg (rc X Y t).toArray)), eS 12 (.val (.agg (pcE (mt eadd (Ep.o m2) (rpE X Y t) k)).toArray)), eS 13 (.val (Value.bool true)), eS 14 (.val (Value.bool true)), eS 4 (.val (Value.bool true))] (by kernel_rfl) ⟨
    fun L u => u_call u (gd0 rfl) 5 rfl 9 #[] #[] rfl [] rfl (cE9 _) (Value.bool true) (fun w hb => awakeE_any (hT.keep (Bs.kp_of hb))),
    fun L u => u_move u (gd0 rfl) 6 rfl (.tmp 5) (Or.inl rfl) rfl,
    fun L u => u_load u (gd1 u 1 true rfl 6 rfl (lk rfl) rfl) 7 rfl 24 (.tmp 2) rfl rfl rfl Tryd.underlying24 rfl i24 (lk rfl) _ rfl,
    fun L u => u_load u (gd1 u 1 true rfl 6 rfl (lk rfl) rfl) 8 rfl 26 (.tmp 3) rfl rfl rfl Tryd.underlying26 rfl i26 (lk rfl) _ rfl,
    fun L u => u_call u (gd1 u 1 true rfl 6 rfl (lk rfl) rfl) 9 rfl 14 #[(.tmp 7), (.tmp 8)] #[24, 26] rfl [.agg (nc ((k : Int))).toArray, .agg (rc X Y t).toArray] rfl (cE14 _) (.agg (pcE (mt eadd (Ep.o m2) (rpE X Y t) k)).toArray) (fun w hb => e_Mul (hT.keep (Bs.kp_of hb)) hk hX hY t),
    fun L u => u_load u (gd1 u 1 true rfl 6 rfl (lk rfl) rfl) 10 rfl 24 (.tmp 2) rfl rfl rfl Tryd.underlying24 rfl i24 (lk rfl) _ rfl,
    fun L u => u_load u (gd1 u 1 true rfl 6 rfl (lk rfl) rfl) 11 rfl 26 (.tmp 3) rfl rfl rfl Tryd.underlying26 rfl i26 (lk rfl) _ rfl,
    fun L u => u_call u (gd1 u 1 true rfl 6 rfl (lk rfl) rfl) 12 rfl 15 #[(.tmp 10), (.tmp 11)] #[24, 26] rfl [.agg (nc ((k : Int))).toArray, .agg (rc X Y t).toArray] rfl (cE15 _) (.agg (pcE (mt eadd (Ep.o m2) (rpE X Y t) k)).toArray) (fun w hb => s_Mul (hT.keep (Bs.kp_of hb)) hk hX hY t),
    fun L u => u_eql u (gd1 u 1 true rfl 6 rfl (lk rfl) rfl) 13 rfl 26 26 (.tmp 9) (.tmp 12) rfl rfl rfl Tryd.eqGuardType26 (true) (fun w => eq_pcE_same _ w),
    fun L u => u_pick u (gd0 rfl) 14 rfl (.tmp 6) (.tmp 13) (.const (.bool false)) rfl rfl rfl rfl _ rfl,
    fun L u => u_move u (gd0 rfl) 4 rfl (.tmp 14) (Or.inr rfl) rfl,
    trivial⟩ [(4, .val (Value.bool true))] [] ⟨rfl, trivial⟩ trivial rfl (fun a w h => ?_)
  refine wp_ret ?_
  refine ret_slot h 4 rfl (lk rfl) (Value.bool true) rfl ?_
  exact ⟨rfl, h.grows⟩
set_option maxRecDepth 100000 in
set_option maxHeartbeats 4000000 in
theorem egroup_false {w : World} (hT : Tab w) {k1 k2 s : Nat} (hk1 : k1 < 2 ^ 256) (hk2 : k2 < 2 ^ 256) (hs : s < 2 ^ 256) (hse : s = k1 + k2) {X Y : Int} (hX : Num X) (hY : Num Y) (t : Bool) (HA : ∀ w : World, Calls Tryd.prog 18 [.agg (nc (k1 : Int)).toArray, .agg (nc (k2 : Int)).toArray].toArray w fun e w' => e = .returned (.tuple [.agg (nc (s : Int)).toArray, .bool false].toArray) ∧ Below w.heap.size w w') : Calls Tryd.prog 6 [.agg (nc ((k1 : Int))).toArray, .agg (nc ((k2 : Int))).toArray, .agg (rc X Y t).toArray].toArray w fun e w' => e = .returned (.bool true) ∧ Below w.heap.size w w' := by
  refine enter (args := [.agg (nc ((k1 : Int))).toArray, .agg (nc ((k2 : Int))).toArray, .agg (rc X Y t).toArray]) Tryd.func6 rfl 57 rfl (lk rfl) (fun a h => ?_)
  refine go_region h hm [eN 3 (nc ((k1 : Int))), eN 4 (nc ((k2 : Int))), eN 5 (rc X Y t), eS 6 (.val (Value.bool false))] (by kernel_rfl) ⟨
    fun L u => u_box u (gd0 rfl) 24 (.tmp 0) rfl 3 rfl rfl rfl _ rfl,
    fun L u => u_box u (gd0 rfl) 24 (.tmp 1) rfl 4 rfl rfl rfl _ rfl,
    fun L u => u_box u (gd0 rfl) 26 (.tmp 2) rfl 5 rfl rfl rfl _ rfl,
    fun L u => u_move u (gd0 rfl) 6 rfl (.const (.bool false)) (Or.inr rfl) rfl,
    trivial⟩ [(3, .ptr 3 0), (4, .ptr 4 0), (5, .ptr 5 0)] [(3, nc ((k1 : Int))), (4, nc ((k2 : Int))), (5, rc X Y t)] ⟨rfl, rfl, rfl, trivial⟩ ⟨rfl, rfl, rfl, trivial⟩ rfl (fun a w h => ?_)
  refine go_region h hm [eS 11 (.val (.agg (nc ((k1 : Int))).toArray)), eS 12 (.val (.agg (pcE (eG)).toArray)), eS 13 (.val (.agg (pcE (mt eadd (Ep.o m2) (eG) k1)).toArray)), eS 14 (.val (.agg (nc ((k2 : Int))).toArray)), eS 15 (.val (.agg (pcE (eG)).toArray)), eS 16 (.val (.agg (pcE (mt eadd (Ep.o m2) (eG) k2)).toArray)), eN 7 (nz ++ nz ++ [Value.bool false]), eN 8 (nz ++ nz ++ [Value.bool false]), eM 7 (pcE (mt eadd (Ep.o m2) (eG) k1)), eM 8 (pcE (mt eadd (Ep.o m2) (eG) k2))] (by kernel_rfl) ⟨
    fun L u => u_load u (gd0 rfl) 11 rfl 24 (.tmp 3) rfl rfl rfl Tryd.underlying24 rfl i24 (lk rfl) _ rfl,
    fun L u => u_call u (gd0 rfl) 12 rfl 16 #[] #[] rfl [] rfl (cE16 _) (.agg (pcE (eG)).toArray) (fun w hb => e_Base),
    fun L u => u_call u (gd0 rfl) 13 rfl 14 #[(.tmp 11), (.tmp 12)] #[24, 26] rfl [.agg (nc ((k1 : Int))).toArray, .agg (pcE (eG)).toArray] rfl (cE14 _) (.agg (pcE (mt eadd (Ep.o m2) (eG) k1)).toArray) (fun w hb => e_MulP (hT.keep (Bs.kp_of hb)) hk1 eG_on),
    fun L u => u_load u (gd0 rfl) 14 rfl 24 (.tmp 4) rfl rfl rfl Tryd.underlying24 rfl i24 (lk rfl) _ rfl,
    fun L u => u_call u (gd0 rfl) 15 rfl 16 #[] #[] rfl [] rfl (cE16 _) (.agg (pcE (eG)).toArray) (fun w hb => e_Base),
    fun L u => u_call u (gd0 rfl) 16 rfl 14 #[(.tmp 14), (.tmp 15)] #[24, 26] rfl [.agg (nc ((k2 : Int))).toArray, .agg (pcE (eG)).toArray] rfl (cE14 _) (.agg (pcE (mt eadd (Ep.o m2) (eG) k2)).toArray) (fun w hb => e_MulP (hT.keep (Bs.kp_of hb)) hk2 eG_on),
    fun L u => u_alloc u (gd0 rfl) 26 rfl 7 rfl rfl z26 _ rfl,
    fun L u => u_alloc u (gd0 rfl) 26 rfl 8 rfl rfl z26 _ rfl,
    fun L u => u_store u (gd0 rfl) 26 (.tmp 7) (.tmp 13) rfl rfl rfl (vs := pcE (mt eadd (Ep.o m2) (eG) k1)) rfl rfl i26 (lk rfl) rfl _ rfl,
    fun L u => u_store u (gd0 rfl) 26 (.tmp 8) (.tmp 16) rfl rfl rfl (vs := pcE (mt eadd (Ep.o m2) (eG) k2)) rfl rfl i26 (lk rfl) rfl _ rfl,
    trivial⟩ [(3, .ptr 3 0), (4, .ptr 4 0), (5, .ptr 5 0), (7, .ptr 7 0), (8, .ptr 8 0)] [(3, nc ((k1 : Int))), (4, nc ((k2 : Int))), (5, rc X Y t), (7, pcE (mt eadd (Ep.o m2) (eG) k1)), (8, pcE (mt eadd (Ep.o m2) (eG) k2))] ⟨rfl, rfl, rfl, rfl, rfl, trivial⟩ ⟨rfl, rfl, rfl, rfl, rfl, trivial⟩ rfl (fun a w h => ?_)
  refine go_region h hm [eS 18 (.val (.agg (nc ((k1 : Int))).toArray)), eS 19 (.val (.agg (nc ((k2 : Int))).toArray)), eS 20 (.val (.tuple [.agg (nc ((s : Int))).toArray, Value.bool false].toArray)), eS 17 (.val (.tuple [.agg (nc ((s : Int))).toArray, Value.bool false].toArray)), eS 21 (.val (.agg (nc ((s : Int))).toArray)), eS 22 (.val (Value.bool false)), eN 9 (nz), eM 9 (nc ((s : Int))), eS 10 (.val (Value.bool false))] (by kernel_rfl) ⟨
    fun L u => u_load u (gd0 rfl) 18 rfl 24 (.tmp 3) rfl rfl rfl Tryd.underlying24 rfl i24 (lk rfl) _ rfl,
    fun L u => u_load u (gd0 rfl) 19 rfl 24 (.tmp 4) rfl rfl rfl Tryd.underlying24 rfl i24 (lk rfl) _ rfl,
    fun L u => u_call u (gd0 rfl) 20 rfl 18 #[(.tmp 18), (.tmp 19)] #[24, 24] rfl [.agg (nc ((k1 : Int))).toArray, .agg (nc ((k2 : Int))).toArray] rfl (cE18 _) (.tuple [.agg (nc ((s : Int))).toArray, Value.bool false].toArray) (fun w hb => HA w),
    fun L u => u_move u (gd0 rfl) 17 rfl (.tmp 20) (Or.inl rfl) rfl,
    fun L u => u_part u (gd0 rfl) 21 rfl (.tmp 17) 0 rfl (vs := [.agg (nc ((s : Int))).toArray, Value.bool false]) rfl _ rfl,
    fun L u => u_part u (gd0 rfl) 22 rfl (.tmp 17) 1 rfl (vs := [.agg (nc ((s : Int))).toArray, Value.bool false]) rfl _ rfl,
    fun L u => u_alloc u (gd0 rfl) 24 rfl 9 rfl rfl z24 _ rfl,
    fun L u => u_store u (gd0 rfl) 24 (.tmp 9) (.tmp 21) rfl rfl rfl (vs := nc ((s : Int))) rfl rfl i24 (lk rfl) rfl _ rfl,
    fun L u => u_move u (gd0 rfl) 10 rfl (.tmp 22) (Or.inr rfl) rfl,
    trivial⟩ [(5, .ptr 5 0), (7, .ptr 7 0), (8, .ptr 8 0), (9, .ptr 9 0), (10, .val (Value.bool false))] [(5, rc X Y t), (7, pcE (mt eadd (Ep.o m2) (eG) k1)), (8, pcE (mt eadd (Ep.o m2) (eG) k2)), (9, nc ((s : Int)))] ⟨rfl, rfl, rfl, rfl, rfl, trivial⟩ ⟨rfl, rfl, rfl, rfl, trivial⟩ rfl (fun a w h => ?_)
  refine wp_seq ?_
  refine go_region h hm [eS 23 (.val (Value.bool true)), eS 24 (.val (Value.bool false)), eS 25 (.val (Value.bool false)), eS 26 (.val (.agg (pcE (mt eadd (Ep.o m2) (eG) k1)).toArray)), eS 27 (.val (.agg (pcE (mt eadd (Ep.o m2) (eG) k2)).toArray)), eS 28 (.val (.agg (pcE (eadd (mt eadd (Ep.o m2) (eG) k1) (mt eadd (Ep.o m2) (eG) k2))).toArray)), eS 29 (.val (.agg (pcE (mt eadd (Ep.o m2) (eG) k2)).toArray)), eS 30 (.val (.agg (pcE (mt eadd (Ep.o m2) (eG) k1)).toArray)), eS 31 (.val (.agg (pcE (eadd (mt eadd (Ep.o m2) (eG) k2) (mt eadd (Ep.o m2) (eG) k1))).toArray)), eS 32 (.val (Value.bool false)), eS 33 (.val (Value.bool false)), eS 34 (.val (Value.bool false)), eS 35 (.val (.agg (pcE (mt eadd (Ep.o m2) (eG) k1)).toArray)), eS 36 (.val (.agg (pcE (mt eadd (Ep.o m2) (eG) k2)).toArray)), eS 37 (.val (.agg (pcE (eadd (mt eadd (Ep.o m2) (eG) k1) (mt eadd (Ep.o m2) (eG) k2))).toArray)), eS 38 (.val (.agg (rc X Y t).toArray)), eS 39 (.val (.agg (pcE (eadd (eadd (mt eadd (Ep.o m2) (eG) k1) (mt eadd (Ep.o m2) (eG) k2)) (rpE X Y t))).toArray)), eS 40 (.val (.agg (pcE (mt eadd (Ep.o m2) (eG) k1)).toArray)), eS 41 (.val (.agg (pcE (mt eadd (Ep.o m2) (eG) k2)).toArray)), eS 42 (.val (.agg (rc X Y t).toArray)), eS 43 (.val (.agg (pcE (eadd (mt eadd (Ep.o m2) (eG) k2) (rpE X Y t))).toArray)), eS 44 (.val (.agg (pcE (eadd (mt eadd (Ep.o m2) (eG) k1) (eadd (mt eadd (Ep.o m2) (eG) k2) (rpE X Y t)))).toArray)), eS 45 (.val (Value.bool false)), eS 46 (.val (Value.bool false))] (by kernel_rfl) ⟨
    fun L u => u_call u (gd0 rfl) 23 rfl 9 #[] #[] rfl [] rfl (cE9 _) (Value.bool true) (fun w hb => awakeE_any (hT.keep (Bs.kp_of hb))),
    fun L u => u_not u (gd0 rfl) 24 rfl 4 (.tmp 23) rfl rfl _ rfl,
    fun L u => u_move u (gd0 rfl) 25 rfl (.tmp 24) (Or.inl rfl) rfl,
    fun L u => u_load u (gd1 u 2 false rfl 25 rfl (lk rfl) rfl) 26 rfl 26 (.tmp 7) rfl rfl rfl Tryd.underlying26 rfl i26 (lk rfl) _ rfl,
    fun L u => u_load u (gd1 u 2 false rfl 25 rfl (lk rfl) rfl) 27 rfl 26 (.tmp 8) rfl rfl rfl Tryd.underlying26 rfl i26 (lk rfl) _ rfl,
    fun L u => u_call u (gd1 u 2 false rfl 25 rfl (lk rfl) rfl) 28 rfl 12 #[(.tmp 26), (.tmp 27)] #[26, 26] rfl [.agg (pcE (mt eadd (Ep.o m2) (eG) k1)).toArray, .agg (pcE (mt eadd (Ep.o m2) (eG) k2)).toArray] rfl (cE12 _) (.agg (pcE (eadd (mt eadd (Ep.o m2) (eG) k1) (mt eadd (Ep.o m2) (eG) k2))).toArray) (fun w hb => e_AddP (hT.keep (Bs.kp_of hb)) (mt_on egr eG_on _) (mt_on egr eG_on _)),
    fun L u => u_load u (gd1 u 2 false rfl 25 rfl (lk rfl) rfl) 29 rfl 26 (.tmp 8) rfl rfl rfl Tryd.underlying26 rfl i26 (lk rfl) _ rfl,
    fun L u => u_load u (gd1 u 2 false rfl 25 rfl (lk rfl) rfl) 30 rfl 26 (.tmp 7) rfl rfl rfl Tryd.underlying26 rfl i26 (lk rfl) _ rfl,
    fun L u => u_call u (gd1 u 2 false rfl 25 rfl (lk rfl) rfl) 31 rfl 12 #[(.tmp 29), (.tmp 30)] #[26, 26] rfl [.agg (pcE (mt eadd (Ep.o m2) (eG) k2)).toArray, .agg (pcE (mt eadd (Ep.o m2) (eG) k1)).toArray] rfl (cE12 _) (.agg (pcE (eadd (mt eadd (Ep.o m2) (eG) k2) (mt eadd (Ep.o m2) (eG) k1))).toArray) (fun w hb => e_AddP (hT.keep (Bs.kp_of hb)) (mt_on egr eG_on _) (mt_on egr eG_on _)),
    fun L u => u_neq u (gd1 u 2 false rfl 25 rfl (lk rfl) rfl) 32 rfl 26 26 (.tmp 28) (.tmp 31) rfl rfl rfl Tryd.eqGuardType26 (true) (fun w => by rw [egr.comm (mt eadd (Ep.o m2) (eG) k1) (mt eadd (Ep.o m2) (eG) k2)]; exact eq_pcE_same _ w),
    fun L u => u_pick u (gd0 rfl) 33 rfl (.tmp 25) (.const (.bool true)) (.tmp 32) rfl rfl rfl rfl _ rfl,
    fun L u => u_move u (gd0 rfl) 34 rfl (.tmp 33) (Or.inl rfl) rfl,
    fun L u => u_load u (gd1 u 11 false rfl 34 rfl (lk rfl) rfl) 35 rfl 26 (.tmp 7) rfl rfl rfl Tryd.underlying26 rfl i26 (lk rfl) _ rfl,
    fun L u => u_load u (gd1 u 11 false rfl 34 rfl (lk rfl) rfl) 36 rfl 26 (.tmp 8) rfl rfl rfl Tryd.underlying26 rfl i26 (lk rfl) _ rfl,
    fun L u => u_call u (gd1 u 11 false rfl 34 rfl (lk rfl) rfl) 37 rfl 12 #[(.tmp 35), (.tmp 36)] #[26, 26] rfl [.agg (pcE (mt eadd (Ep.o m2) (eG) k1)).toArray, .agg (pcE (mt eadd (Ep.o m2) (eG) k2)).toArray] rfl (cE12 _) (.agg (pcE (eadd (mt eadd (Ep.o m2) (eG) k1) (mt eadd (Ep.o m2) (eG) k2))).toArray) (fun w hb => e_AddP (hT.keep (Bs.kp_of hb)) (mt_on egr eG_on _) (mt_on egr eG_on _)),
    fun L u => u_load u (gd1 u 11 false rfl 34 rfl (lk rfl) rfl) 38 rfl 26 (.tmp 5) rfl rfl rfl Tryd.underlying26 rfl i26 (lk rfl) _ rfl,
    fun L u => u_call u (gd1 u 11 false rfl 34 rfl (lk rfl) rfl) 39 rfl 12 #[(.tmp 37), (.tmp 38)] #[26, 26] rfl [.agg (pcE (eadd (mt eadd (Ep.o m2) (eG) k1) (mt eadd (Ep.o m2) (eG) k2))).toArray, .agg (rc X Y t).toArray] rfl (cE12 _) (.agg (pcE (eadd (eadd (mt eadd (Ep.o m2) (eG) k1) (mt eadd (Ep.o m2) (eG) k2)) (rpE X Y t))).toArray) (fun w hb => e_AddPR (hT.keep (Bs.kp_of hb)) (egr.mem (mt_on egr eG_on _) (mt_on egr eG_on _)) hX hY t),
    fun L u => u_load u (gd1 u 11 false rfl 34 rfl (lk rfl) rfl) 40 rfl 26 (.tmp 7) rfl rfl rfl Tryd.underlying26 rfl i26 (lk rfl) _ rfl,
    fun L u => u_load u (gd1 u 11 false rfl 34 rfl (lk rfl) rfl) 41 rfl 26 (.tmp 8) rfl rfl rfl Tryd.underlying26 rfl i26 (lk rfl) _ rfl,
    fun L u => u_load u (gd1 u 11 false rfl 34 rfl (lk rfl) rfl) 42 rfl 26 (.tmp 5) rfl rfl rfl Tryd.underlying26 rfl i26 (lk rfl) _ rfl,
    fun L u => u_call u (gd1 u 11 false rfl 34 rfl (lk rfl) rfl) 43 rfl 12 #[(.tmp 41), (.tmp 42)] #[26, 26] rfl [.agg (pcE (mt eadd (Ep.o m2) (eG) k2)).toArray, .agg (rc X Y t).toArray] rfl (cE12 _) (.agg (pcE (eadd (mt eadd (Ep.o m2) (eG) k2) (rpE X Y t))).toArray) (fun w hb => e_AddPR (hT.keep (Bs.kp_of hb)) (mt_on egr eG_on _) hX hY t),
    fun L u => u_call u (gd1 u 11 false rfl 34 rfl (lk rfl) rfl) 44 rfl 12 #[(.tmp 40), (.tmp 43)] #[26, 26] rfl [.agg (pcE (mt eadd (Ep.o m2) (eG) k1)).toArray, .agg (pcE (eadd (mt eadd (Ep.o m2) (eG) k2) (rpE X Y t))).toArray] rfl (cE12 _) (.agg (pcE (eadd (mt eadd (Ep.o m2) (eG) k1) (eadd (mt eadd (Ep.o m2) (eG) k2) (rpE X Y t)))).toArray) (fun w hb => e_AddP (hT.keep (Bs.kp_of hb)) (mt_on egr eG_on _) (egr.mem (mt_on egr eG_on _) (rpE_on X Y t))),
    fun L u => u_neq u (gd1 u 11 false rfl 34 rfl (lk rfl) rfl) 45 rfl 26 26 (.tmp 39) (.tmp 44) rfl rfl rfl Tryd.eqGuardType26 (true) (fun w => by rw [egr.ass (mt_on egr eG_on k1) (mt_on egr eG_on k2) (rpE_on X Y t)]; exact eq_pcE_same _ w),
    fun L u => u_pick u (gd0 rfl) 46 rfl (.tmp 34) (.const (.bool true)) (.tmp 45) rfl rfl rfl rfl _ rfl,
    trivial⟩ [(7, .ptr 7 0), (8, .ptr 8 0), (9, .ptr 9 0), (10, .val (Value.bool false)), (46, .val (Value.bool false))] [(7, pcE (mt eadd (Ep.o m2) (eG) k1)), (8, pcE (mt eadd (Ep.o m2) (eG) k2)), (9, nc ((s : Int)))] ⟨rfl, rfl, rfl, rfl, rfl, trivial⟩ ⟨rfl, rfl, rfl, trivial⟩ rfl (fun a w h => ?_)
  refine go_cond h false rfl (fun ht => ?_) (fun hf => ?_)
  case refine_1 => cases ht
  refine wp_skip ?_
  refine then_norm ?_
  refine go_region h hm [eS 47 (.val (Value.bool false)), eS 48 (.val (Value.bool false)), eS 49 (.val (.agg (nc ((s : Int))).toArray)), eS 50 (.val (.agg (pcE (eG)).toArray)), eS 51 (.val (.agg (pcE (mt eadd (Ep.o m2) (eG) s)).toArray)), eS 52 (.val (.agg (pcE (mt eadd (Ep.o m2) (eG) k1)).toArray)), eS 53 (.val (.agg (pcE (mt eadd (Ep.o m2) (eG) k2)).toArray)), eS 54 (.val (.agg (pcE (eadd (mt eadd (Ep.o m2) (eG) k1) (mt eadd (Ep.o m2) (eG) k2))).toArray)), eS 55 (.val (Value.bool true)), eS 56 (.val (Value.bool true)), eS 6 (.val (Value.bool true))] (by kernel_rfl) ⟨
    fun L u => u_move u (gd0 rfl) 47 rfl (.tmp 10) (Or.inl rfl) rfl,
    fun L u => u_move u (gd0 rfl) 48 rfl (.tmp 47) (Or.inl rfl) rfl,
    fun L u => u_load u (gd1 u 1 false rfl 48 rfl (lk rfl) rfl) 49 rfl 24 (.tmp 9) rfl rfl rfl Tryd.underlying24 rfl i24 (lk rfl) _ rfl,
    fun L u => u_call u (gd1 u 1 false rfl 48 rfl (lk rfl) rfl) 50 rfl 16 #[] #[] rfl [] rfl (cE16 _) (.agg (pcE (eG)).toArray) (fun w hb => e_Base),
    fun L u => u_call u (gd1 u 1 false rfl 48 rfl (lk rfl) rfl) 51 rfl 14 #[(.tmp 49), (.tmp 50)] #[24, 26] rfl [.agg (nc ((s : Int))).toArray, .agg (pcE (eG)).toArray] rfl (cE14 _) (.agg (pcE (mt eadd (Ep.o m2) (eG) s)).toArray) (fun w hb => e_MulP (hT.keep (Bs.kp_of hb)) hs eG_on),
    fun L u => u_load u (gd1 u 1 false rfl 48 rfl (lk rfl) rfl) 52 rfl 26 (.tmp 7) rfl rfl rfl Tryd.underlying26 rfl i26 (lk rfl) _ rfl,
    fun L u => u_load u (gd1 u 1 false rfl 48 rfl (lk rfl) rfl) 53 rfl 26 (.tmp 8) rfl rfl rfl Tryd.underlying26 rfl i26 (lk rfl) _ rfl,
    fun L u => u_call u (gd1 u 1 false rfl 48 rfl (lk rfl) rfl) 54 rfl 12 #[(.tmp 52), (.tmp 53)] #[26, 26] rfl [.agg (pcE (mt eadd (Ep.o m2) (eG) k1)).toArray, .agg (pcE (mt eadd (Ep.o m2) (eG) k2)).toArray] rfl (cE12 _) (.agg (pcE (eadd (mt eadd (Ep.o m2) (eG) k1) (mt eadd (Ep.o m2) (eG) k2))).toArray) (fun w hb => e_AddP (hT.keep (Bs.kp_of hb)) (mt_on egr eG_on _) (mt_on egr eG_on _)),
    fun L u => u_eql u (gd1 u 1 false rfl 48 rfl (lk rfl) rfl) 55 rfl 26 26 (.tmp 51) (.tmp 54) rfl rfl rfl Tryd.eqGuardType26 (true) (fun w => by rw [show mt eadd (Ep.o m2) eG s = eadd (mt eadd (Ep.o m2) eG k1) (mt eadd (Ep.o m2) eG k2) by rw [hse, mt_add egr eG_on]]; exact eq_pcE_same _ w),
    fun L u => u_pick u (gd0 rfl) 56 rfl (.tmp 48) (.const (.bool true)) (.tmp 55) rfl rfl rfl rfl _ rfl,
    fun L u => u_move u (gd0 rfl) 6 rfl (.tmp 56) (Or.inr rfl) rfl,
    trivial⟩ [(6, .val (Value.bool true))] [] ⟨rfl, trivial⟩ trivial rfl (fun a w h => ?_)
  refine wp_ret ?_
  refine ret_slot h 6 rfl (lk rfl) (Value.bool true) rfl ?_
  exact ⟨rfl, h.grows⟩
set_option maxRecDepth 100000 in
set_option maxHeartbeats 4000000 in
theorem egroup_true {w : World} (hT : Tab w) {k1 k2 s : Nat} (hk1 : k1 < 2 ^ 256) (hk2 : k2 < 2 ^ 256) {X Y : Int} (hX : Num X) (hY : Num Y) (t : Bool) (HA : ∀ w : World, Calls Tryd.prog 18 [.agg (nc (k1 : Int)).toArray, .agg (nc (k2 : Int)).toArray].toArray w fun e w' => e = .returned (.tuple [.agg (nc (s : Int)).toArray, .bool true].toArray) ∧ Below w.heap.size w w') : Calls Tryd.prog 6 [.agg (nc ((k1 : Int))).toArray, .agg (nc ((k2 : Int))).toArray, .agg (rc X Y t).toArray].toArray w fun e w' => e = .returned (.bool true) ∧ Below w.heap.size w w' := by
  refine enter (args := [.agg (nc ((k1 : Int))).toArray, .agg (nc ((k2 : Int))).toArray, .agg (rc X Y t).toArray]) Tryd.func6 rfl 57 rfl (lk rfl) (fun a h => ?_)
  refine go_region h hm [eN 3 (nc ((k1 : Int))), eN 4 (nc ((k2 : Int))), eN 5 (rc X Y t), eS 6 (.val (Value.bool false))] (by kernel_rfl) ⟨
    fun L u => u_box u (gd0 rfl) 24 (.tmp 0) rfl 3 rfl rfl rfl _ rfl,
    fun L u => u_box u (gd0 rfl) 24 (.tmp 1) rfl 4 rfl rfl rfl _ rfl,
    fun L u => u_box u (gd0 rfl) 26 (.tmp 2) rfl 5 rfl rfl rfl _ rfl,
    fun L u => u_move u (gd0 rfl) 6 rfl (.const (.bool false)) (Or.inr rfl) rfl,
    trivial⟩ [(3, .ptr 3 0), (4, .ptr 4 0), (5, .ptr 5 0)] [(3, nc ((k1 : Int))), (4, nc ((k2 : Int))), (5, rc X Y t)] ⟨rfl, rfl, rfl, trivial⟩ ⟨rfl, rfl, rfl, trivial⟩ rfl (fun a w h => ?_)
  refine go_region h hm [eS 11 (.val (.agg (nc ((k1 : Int))).toArray)), eS 12 (.val (.agg (pcE (eG)).toArray)), eS 13 (.val (.agg (pcE (mt eadd (Ep.o m2) (eG) k1)).toArray)), eS 14 (.val (.agg (nc ((k2 : Int))).toArray)), eS 15 (.val (.agg (pcE (eG)).toArray)), eS 16 (.val (.agg (pcE (mt eadd (Ep.o m2) (eG) k2)).toArray)), eN 7 (nz ++ nz ++ [Value.bool false]), eN 8 (nz ++ nz ++ [Value.bool false]), eM 7 (pcE (mt eadd (Ep.o m2) (eG) k1)), eM 8 (pcE (mt eadd (Ep.o m2) (eG) k2))] (by kernel_rfl) ⟨
    fun L u => u_load u (gd0 rfl) 11 rfl 24 (.tmp 3) rfl rfl rfl Tryd.underlying24 rfl i24 (lk rfl) _ rfl,
    fun L u => u_call u (gd0 rfl) 12 rfl 16 #[] #[] rfl [] rfl (cE16 _) (.agg (pcE (eG)).toArray) (fun w hb => e_Base),
    fun L u => u_call u (gd0 rfl) 13 rfl 14 #[(.tmp 11), (.tmp 12)] #[24, 26] rfl [.agg (nc ((k1 : Int))).toArray, .agg (pcE (eG)).toArray] rfl (cE14 _) (.agg (pcE (mt eadd (Ep.o m2) (eG) k1)).toArray) (fun w hb => e_MulP (hT.keep (Bs.kp_of hb)) hk1 eG_on),
    fun L u => u_load u (gd0 rfl) 14 rfl 24 (.tmp 4) rfl rfl rfl Tryd.underlying24 rfl i24 (lk rfl) _ rfl,
    fun L u => u_call u (gd0 rfl) 15 rfl 16 #[] #[] rfl [] rfl (cE16 _) (.agg (pcE (eG)).toArray) (fun w hb => e_Base),
    fun L u => u_call u (gd0 rfl) 16 rfl 14 #[(.tmp 14), (.tmp 15)] #[24, 26] rfl [.agg (nc ((k2 : Int))).toArray, .agg (pcE (eG)).toArray] rfl (cE14 _) (.agg (pcE (mt eadd (Ep.o m2) (eG) k2)).toArray) (fun w hb => e_MulP (hT.keep (Bs.kp_of hb)) hk2 eG_on),
    fun L u => u_alloc u (gd0 rfl) 26 rfl 7 rfl rfl z26 _ rfl,
    fun L u => u_alloc u (gd0 rfl) 26 rfl 8 rfl rfl z26 _ rfl,
    fun L u => u_store u (gd0 rfl) 26 (.tmp 7) (.tmp 13) rfl rfl rfl (vs := pcE (mt eadd (Ep.o m2) (eG) k1)) rfl rfl i26 (lk rfl) rfl _ rfl,
    fun L u => u_store u (gd0 rfl) 26 (.tmp 8) (.tmp 16) rfl rfl rfl (vs := pcE (mt eadd (Ep.o m2) (eG) k2)) rfl rfl i26 (lk rfl) rfl _ rfl,
    trivial⟩ [(3, .ptr 3 0), (4, .ptr 4 0), (5, .ptr 5 0), (7, .ptr 7 0), (8, .ptr 8 0)] [(3, nc ((k1 : Int))), (4, nc ((k2 : Int))), (5, rc X Y t), (7, pcE (mt eadd (Ep.o m2) (eG) k1)), (8, pcE (mt eadd (Ep.o m2) (eG) k2))] ⟨rfl, rfl, rfl, rfl, rfl, trivial⟩ ⟨rfl, rfl, rfl, rfl, rfl, trivial⟩ rfl (fun a w h => ?_)
  refine go_region h hm [eS 18 (.val (.agg (nc ((k1 : Int))).toArray)), eS 19 (.val (.agg (nc ((k2 : Int))).toArray)), eS 20 (.val (.tuple [.agg (nc ((s : Int))).toArray, Value.bool true].toArray)), eS 17 (.val (.tuple [.agg (nc ((s : Int))).toArray, Value.bool true].toArray)), eS 21 (.val (.agg (nc ((s : Int))).toArray)), eS 22 (.val (Value.bool true)), eN 9 (nz), eM 9 (nc ((s : Int))), eS 10 (.val (Value.bool true))] (by kernel_rfl) ⟨
    fun L u => u_load u (gd0 rfl) 18 rfl 24 (.tmp 3) rfl rfl rfl Tryd.underlying24 rfl i24 (lk rfl) _ rfl,
    fun L u => u_load u (gd0 rfl) 19 rfl 24 (.tmp 4) rfl rfl rfl Tryd.underlying24 rfl i24 (lk rfl) _ rfl,
    fun L u => u_call u (gd0 rfl) 20 rfl 18 #[(.tmp 18), (.tmp 19)] #[24, 24] rfl [.agg (nc ((k1 : Int))).toArray, .agg (nc ((k2 : Int))).toArray] rfl (cE18 _) (.tuple [.agg (nc ((s : Int))).toArray, Value.bool true].toArray) (fun w hb => HA w),
    fun L u => u_move u (gd0 rfl) 17 rfl (.tmp 20) (Or.inl rfl) rfl,
    fun L u => u_part u (gd0 rfl) 21 rfl (.tmp 17) 0 rfl (vs := [.agg (nc ((s : Int))).toArray, Value.bool true]) rfl _ rfl,
    fun L u => u_part u (gd0 rfl) 22 rfl (.tmp 17) 1 rfl (vs := [.agg (nc ((s : Int))).toArray, Value.bool true]) rfl _ rfl,
    fun L u => u_alloc u (gd0 rfl) 24 rfl 9 rfl rfl z24 _ rfl,
    fun L u => u_store u (gd0 rfl) 24 (.tmp 9) (.tmp 21) rfl rfl rfl (vs := nc ((s : Int))) rfl rfl i24 (lk rfl) rfl _ rfl,
    fun L u => u_move u (gd0 rfl) 10 rfl (.tmp 22) (Or.inr rfl) rfl,
    trivial⟩ [(5, .ptr 5 0), (7, .ptr 7 0), (8, .ptr 8 0), (9, .ptr 9 0), (10, .val (Value.bool true))] [(5, rc X Y t), (7, pcE (mt eadd (Ep.o m2) (eG) k1)), (8, pcE (mt eadd (Ep.o m2) (eG) k2)), (9, nc ((s : Int)))] ⟨rfl, rfl, rfl, rfl, rfl, trivial⟩ ⟨rfl, rfl, rfl, rfl, trivial⟩ rfl (fun a w h => ?_)
  refine wp_seq ?_
  refine go_region h hm [eS 23 (.val (Value.bool true)), eS 24 (.val (Value.bool false)), eS 25 (.val (Value.bool false)), eS 26 (.val (.agg (pcE (mt eadd (Ep.o m2) (eG) k1)).toArray)), eS 27 (.val (.agg (pcE (mt eadd (Ep.o m2) (eG) k2)).toArray)), eS 28 (.val (.agg (pcE (eadd (mt eadd (Ep.o m2) (eG) k1) (mt eadd (Ep.o m2) (eG) k2))).toArray)), eS 29 (.val (.agg (pcE (mt eadd (Ep.o m2) (eG) k2)).toArray)), eS 30 (.val (.agg (pcE (mt eadd (Ep.o m2) (eG) k1)).toArray)), eS 31 (.val (.agg (pcE (eadd (mt eadd (Ep.o m2) (eG) k2) (mt eadd (Ep.o m2) (eG) k1))).toArray)), eS 32 (.val (Value.bool false)), eS 33 (.val (Value.bool false)), eS 34 (.val (Value.bool false)), eS 35 (.val (.agg (pcE (mt eadd (Ep.o m2) (eG) k1)).toArray)), eS 36 (.val (.agg (pcE (mt eadd (Ep.o m2) (eG) k2)).toArray)), eS 37 (.val (.agg (pcE (eadd (mt eadd (Ep.o m2) (eG) k1) (mt eadd (Ep.o m2) (eG) k2))).toArray)), eS 38 (.val (.agg (rc X Y t).toArray)), eS 39 (.val (.agg (pcE (eadd (eadd (mt eadd (Ep.o m2) (eG) k1) (mt eadd (Ep.o m2) (eG) k2)) (rpE X Y t))).toArray)), eS 40 (.val (.agg (pcE (mt eadd (Ep.o m2) (eG) k1)).toArray)), eS 41 (.val (.agg (pcE (mt eadd (Ep.o m2) (eG) k2)).toArray)), eS 42 (.val (.agg (rc X Y t).toArray)), eS 43 (.val (.agg (pcE (eadd (mt eadd (Ep.o m2) (eG) k2) (rpE X Y t))).toArray)), eS 44 (.val (.agg (pcE (eadd (mt eadd (Ep.o m2) (eG) k1) (eadd (mt eadd (Ep.o m2) (eG) k2) (rpE X Y t)))).toArray)), eS 45 (.val (Value.bool false)), eS 46 (.val (Value.bool false))] (by kernel_rfl) ⟨
    fun L u => u_call u (gd0 rfl) 23 rfl 9 #[] #[] rfl [] rfl (cE9 _) (Value.bool true) (fun w hb => awakeE_any (hT.keep (Bs.kp_of hb))),
    fun L u => u_not u (gd0 rfl) 24 rfl 4 (.tmp 23) rfl rfl _ rfl,
    fun L u => u_move u (gd0 rfl) 25 rfl (.tmp 24) (Or.inl rfl) rfl,
    fun L u => u_load u (gd1 u 2 false rfl 25 rfl (lk rfl) rfl) 26 rfl 26 (.tmp 7) rfl rfl rfl Tryd.underlying26 rfl i26 (lk rfl) _ rfl,
    fun L u => u_load u (gd1 u 2 false rfl 25 rfl (lk rfl) rfl) 27 rfl 26 (.tmp 8) rfl rfl rfl Tryd.underlying26 rfl i26 (lk rfl) _ rfl,
    fun L u => u_call u (gd1 u 2 false rfl 25 rfl (lk rfl) rfl) 28 rfl 12 #[(.tmp 26), (.tmp 27)] #[26, 26] rfl [.agg (pcE (mt eadd (Ep.o m2) (eG) k1)).toArray, .agg (pcE (mt eadd (Ep.o m2) (eG) k2)).toArray] rfl (cE12 _) (.agg (pcE (eadd (mt eadd (Ep.o m2) (eG) k1) (mt eadd (Ep.o m2) (eG) k2))).toArray) (fun w hb => e_AddP (hT.keep (Bs.kp_of hb)) (mt_on egr eG_on _) (mt_on egr eG_on _)),
    fun L u => u_load u (gd1 u 2 false rfl 25 rfl (lk rfl) rfl) 29 rfl 26 (.tmp 8) rfl rfl rfl Tryd.underlying26 rfl i26 (lk rfl) _ rfl,
    fun L u => u_load u (gd1 u 2 false rfl 25 rfl (lk rfl) rfl) 30 rfl 26 (.tmp 7) rfl rfl rfl Tryd.underlying26 rfl i26 (lk rfl) _ rfl,
    fun L u => u_call u (gd1 u 2 false rfl 25 rfl (lk rfl) rfl) 31 rfl 12 #[(.tmp 29), (.tmp 30)] #[26, 26] rfl [.agg (pcE (mt eadd (Ep.o m2) (eG) k2)).toArray, .agg (pcE (mt eadd (Ep.o m2) (eG) k1)).toArray] rfl (cE12 _) (.agg (pcE (eadd (mt eadd (Ep.o m2) (eG) k2) (mt eadd (Ep.o m2) (eG) k1))).toArray) (fun w hb => e_AddP (hT.keep (Bs.kp_of hb)) (mt_on egr eG_on _) (mt_on egr eG_on _)),
    fun L u => u_neq u (gd1 u 2 false rfl 25 rfl (lk rfl) rfl) 32 rfl 26 26 (.tmp 28) (.tmp 31) rfl rfl rfl Tryd.eqGuardType26 (true) (fun w => by rw [egr.comm (mt eadd (Ep.o m2) (eG) k1) (mt eadd (Ep.o m2) (eG) k2)]; exact eq_pcE_same _ w),
    fun L u => u_pick u (gd0 rfl) 33 rfl (.tmp 25) (.const (.bool true)) (.tmp 32) rfl rfl rfl rfl _ rfl,
    fun L u => u_move u (gd0 rfl) 34 rfl (.tmp 33) (Or.inl rfl) rfl,
    fun L u => u_load u (gd1 u 11 false rfl 34 rfl (lk rfl) rfl) 35 rfl 26 (.tmp 7) rfl rfl rfl Tryd.underlying26 rfl i26 (lk rfl) _ rfl,
    fun L u => u_load u (gd1 u 11 false rfl 34 rfl (lk rfl) rfl) 36 rfl 26 (.tmp 8) rfl rfl rfl Tryd.underlying26 rfl i26 (lk rfl) _ rfl,
    fun L u => u_call u (gd1 u 11 false rfl 34 rfl (lk rfl) rfl) 37 rfl 12 #[(.tmp 35), (.tmp 36)] #[26, 26] rfl [.agg (pcE (mt eadd (Ep.o m2) (eG) k1)).toArray, .agg (pcE (mt eadd (Ep.o m2) (eG) k2)).toArray] rfl (cE12 _) (.agg (pcE (eadd (mt eadd (Ep.o m2) (eG) k1) (mt eadd (Ep.o m2) (eG) k2))).toArray) (fun w hb => e_AddP (hT.keep (Bs.kp_of hb)) (mt_on egr eG_on _) (mt_on egr eG_on _)),
    fun L u => u_load u (gd1 u 11 false rfl 34 rfl (lk rfl) rfl) 38 rfl 26 (.tmp 5) rfl rfl rfl Tryd.underlying26 rfl i26 (lk rfl) _ rfl,
    fun L u => u_call u (gd1 u 11 false rfl 34 rfl (lk rfl) rfl) 39 rfl 12 #[(.tmp 37), (.tmp 38)] #[26, 26] rfl [.agg (pcE (eadd (mt eadd (Ep.o m2) (eG) k1) (mt eadd (Ep.o m2) (eG) k2))).toArray, .agg (rc X Y t).toArray] rfl (cE12 _) (.agg (pcE (eadd (eadd (mt eadd (Ep.o m2) (eG) k1) (mt eadd (Ep.o m2) (eG) k2)) (rpE X Y t))).toArray) (fun w hb => e_AddPR (hT.keep (Bs.kp_of hb)) (egr.mem (mt_on egr eG_on _) (mt_on egr eG_on _)) hX hY t),
    fun L u => u_load u (gd1 u 11 false rfl 34 rfl (lk rfl) rfl) 40 rfl 26 (.tmp 7) rfl rfl rfl Tryd.underlying26 rfl i26 (lk rfl) _ rfl,
    fun L u => u_load u (gd1 u 11 false rfl 34 rfl (lk rfl) rfl) 41 rfl 26 (.tmp 8) rfl rfl rfl Tryd.underlying26 rfl i26 (lk rfl) _ rfl,
    fun L u => u_load u (gd1 u 11 false rfl 34 rfl (lk rfl) rfl) 42 rfl 26 (.tmp 5) rfl rfl rfl Tryd.underlying26 rfl i26 (lk rfl) _ rfl,
    fun L u => u_call u (gd1 u 11 false rfl 34 rfl (lk rfl) rfl) 43 rfl 12 #[(.tmp 41), (.tmp 42)] #[26, 26] rfl [.agg (pcE (mt eadd (Ep.o m2) (eG) k2)).toArray, .agg (rc X Y t).toArray] rfl (cE12 _) (.agg (pcE (eadd (mt eadd (Ep.o m2) (eG) k2) (rpE X Y t))).toArray) (fun w hb => e_AddPR (hT.keep (Bs.kp_of hb)) (mt_on egr eG_on _) hX hY t),
    fun L u => u_call u (gd1 u 11 false rfl 34 rfl (lk rfl) rfl) 44 rfl 12 #[(.tmp 40), (.tmp 43)] #[26, 26] rfl [.agg (pcE (mt eadd (Ep.o m2) (eG) k1)).toArray, .agg (pcE (eadd (mt eadd (Ep.o m2) (eG) k2) (rpE X Y t))).toArray] rfl (cE12 _) (.agg (pcE (eadd (mt eadd (Ep.o m2) (eG) k1) (eadd (mt eadd (Ep.o m2) (eG) k2) (rpE X Y t)))).toArray) (fun w hb => e_AddP (hT.keep (Bs.kp_of hb)) (mt_on egr eG_on _) (egr.mem (mt_on egr eG_on _) (rpE_on X Y t))),
    fun L u => u_neq u (gd1 u 11 false rfl 34 rfl (lk rfl) rfl) 45 rfl 26 26 (.tmp 39) (.tmp 44) rfl rfl rfl Tryd.eqGuardType26 (true) (fun w => by rw [egr.ass (mt_on egr eG_on k1) (mt_on egr eG_on k2) (rpE_on X Y t)]; exact eq_pcE_same _ w),
    fun L u => u_pick u (gd0 rfl) 46 rfl (.tmp 34) (.const (.bool true)) (.tmp 45) rfl rfl rfl rfl _ rfl,
    trivial⟩ [(7, .ptr 7 0), (8, .ptr 8 0), (9, .ptr 9 0), (10, .val (Value.bool true)), (46, .val (Value.bool false))] [(7, pcE (mt eadd (Ep.o m2) (eG) k1)), (8, pcE (mt eadd (Ep.o m2) (eG) k2)), (9, nc ((s : Int)))] ⟨rfl, rfl, rfl, rfl, rfl, trivial⟩ ⟨rfl, rfl, rfl, trivial⟩ rfl (fun a w h => ?_)
  refine go_cond h false rfl (fun ht => ?_) (fun hf => ?_)
  case refine_1 => cases ht
  refine wp_skip ?_
  refine then_norm ?_
  refine go_region h hm [eS 47 (.val (Value.bool true)), eS 48 (.val (Value.bool true)), eS 49 (.val undef), eS 50 (.val undef), eS 51 (.val undef), eS 52 (.val undef), eS 53 (.val undef), eS 54 (.val undef), eS 55 (.val undef), eS 56 (.val (Value.bool true)), eS 6 (.val (Value.bool true))] (by kernel_rfl) ⟨
    fun L u => u_move u (gd0 rfl) 47 rfl (.tmp 10) (Or.inl rfl) rfl,
    fun L u => u_move u (gd0 rfl) 48 rfl (.tmp 47) (Or.inl rfl) rfl,
    fun L u => u_no u 1 false rfl 48 rfl (lk rfl) rfl 49 rfl,
    fun L u => u_no u 1 false rfl 48 rfl (lk rfl) rfl 50 rfl,
    fun L u => u_no u 1 false rfl 48 rfl (lk rfl) rfl 51 rfl,
    fun L u => u_no u 1 false rfl 48 rfl (lk rfl) rfl 52 rfl,
    fun L u => u_no u 1 false rfl 48 rfl (lk rfl) rfl 53 rfl,
    fun L u => u_no u 1 false rfl 48 rfl (lk rfl) rfl 54 rfl,
    fun L u => u_no u 1 false rfl 48 rfl (lk rfl) rfl 55 rfl,
    fun L u => u_pick u (gd0 rfl) 56 rfl (.tmp 48) (.const (.bool true)) (.tmp 55) rfl rfl rfl rfl _ rfl,
    fun L u => u_move u (gd0 rfl) 6 rfl (.tmp 56) (Or.inr rfl) rfl,
    trivial⟩ [(6, .val (Value.bool true))] [] ⟨rfl, trivial⟩ trivial rfl (fun a w h => ?_)
  refine wp_ret ?_
  refine ret_slot h 6 rfl (lk rfl) (Value.bool true) rfl ?_
  exact ⟨rfl, h.grows⟩
set_option maxRecDepth 100000 in
set_option maxHeartbeats 4000000 in
theorem eboth_walk {w : World} (hT : Tab w) {k1 : Nat} (hk1 : k1 < 2 ^ 256) {X Y : Int} (hX : Num X) (hY : Num Y) (t : Bool) {k2 : Nat} (hk2 : k2 < 2 ^ 256) : Calls Tryd.prog 5 [.agg (nc ((k1 : Int))).toArray, .agg (rc X Y t).toArray, .agg (nc ((k2 : Int))).toArray].toArray w fun e w' => e = .returned (.bool true) ∧ Below w.heap.size w w' := by
  refine enter (args := [.agg (nc ((k1 : Int))).toArray, .agg (rc X Y t).toArray, .agg (nc ((k2 : Int))).toArray]) Tryd.func5 rfl 40 rfl (lk rfl) (fun a h => ?_)
  refine go_region h hm [eN 3 (nc ((k1 : Int))), eN 4 (rc X Y t), eN 5 (nc ((k2 : Int))), eS 6 (.val (Value.bool false))] (by kernel_rfl) ⟨
    fun L u => u_box u (gd0 rfl) 24 (.tmp 0) rfl 3 rfl rfl rfl _ rfl,
    fun L u => u_box u (gd0 rfl) 26 (.tmp 1) rfl 4 rfl rfl rfl _ rfl,
    fun L u => u_box u (gd0 rfl) 24 (.tmp 2) rfl 5 rfl rfl rfl _ rfl,
    fun L u => u_move u (gd0 rfl) 6 rfl (.const (.bool false)) (Or.inr rfl) rfl,
    trivial⟩ [(3, .ptr 3 0), (4, .ptr 4 0), (5, .ptr 5 0)] [(3, nc ((k1 : Int))), (4, rc X Y t), (5, nc ((k2 : Int)))] ⟨rfl, rfl, rfl, trivial⟩ ⟨rfl, rfl, rfl, trivial⟩ rfl (fun a w h => ?_)
  refine go_region h hm [eS 9 (.val (.agg (pcE (eG)).toArray)), eN 7 (nz ++ nz ++ [Value.bool false]), eM 7 (pcE (eG))] (by kernel_rfl) ⟨
    fun L u => u_call u (gd0 rfl) 9 rfl 16 #[] #[] rfl [] rfl (cE16 _) (.agg (pcE (eG)).toArray) (fun w hb => e_Base),
    fun L u => u_alloc u (gd0 rfl) 26 rfl 7 rfl rfl z26 _ rfl,
    fun L u => u_store u (gd0 rfl) 26 (.tmp 7) (.tmp 9) rfl rfl rfl (vs := pcE (eG)) rfl rfl i26 (lk rfl) rfl _ rfl,
    trivial⟩ [(3, .ptr 3 0), (4, .ptr 4 0), (5, .ptr 5 0), (7, .ptr 7 0)] [(3, nc ((k1 : Int))), (4, rc X Y t), (5, nc ((k2 : Int))), (7, pcE (eG))] ⟨rfl, rfl, rfl, rfl, trivial⟩ ⟨rfl, rfl, rfl, rfl, trivial⟩ rfl (fun a w h => ?_)
  refine go_region h hm [eS 10 (.val (.agg (nc ((k1 : Int))).toArray)), eS 11 (.val (.agg (rc X Y t).toArray)), eS 12 (.val (.agg (nc ((k2 : Int))).toArray)), eS 13 (.val (.agg (pcE (eG)).toArray)), eS 14 (.val (.agg (pcE (eadd (mt eadd (Ep.o m2) (rpE X Y t) k1) (mt eadd (Ep.o m2) (eG) k2))).toArray)), eN 8 (nz ++ nz ++ [Value.bool false]), eM 8 (pcE (eadd (mt eadd (Ep.o m2) (rpE X Y t) k1) (mt eadd (Ep.o m2) (eG) k2)))] (by kernel_rfl) ⟨
    fun L u => u_load u (gd0 rfl) 10 rfl 24 (.tmp 3) rfl rfl rfl Tryd.underlying24 rfl i24 (lk rfl) _ rfl,
    fun L u => u_load u (gd0 rfl) 11 rfl 26 (.tmp 4) rfl rfl rfl Tryd.underlying26 rfl i26 (lk rfl) _ rfl,
    fun L u => u_load u (gd0 rfl) 12 rfl 24 (.tmp 5) rfl rfl rfl Tryd.underlying24 rfl i24 (lk rfl) _ rfl,
    fun L u => u_load u (gd0 rfl) 13 rfl 26 (.tmp 7) rfl rfl rfl Tryd.underlying26 rfl i26 (lk rfl) _ rfl,
    fun L u => u_call u (gd0 rfl) 14 rfl 17 #[(.tmp 10), (.tmp 11), (.tmp 12), (.tmp 13)] #[24, 26, 24, 26] rfl [.agg (nc ((k1 : Int))).toArray, .agg (rc X Y t).toArray, .agg (nc ((k2 : Int))).toArray, .agg (pcE (eG)).toArray] rfl (cE17 _) (.agg (pcE (eadd (mt eadd (Ep.o m2) (rpE X Y t) k1) (mt eadd (Ep.o m2) (eG) k2))).toArray) (fun w hb => e_BothRP (hT.keep (Bs.kp_of hb)) hk1 hX hY t hk2 eG_on),
    fun L u => u_alloc u (gd0 rfl) 26 rfl 8 rfl rfl z26 _ rfl,
    fun L u => u_store u (gd0 rfl) 26 (.tmp 8) (.tmp 14) rfl rfl rfl (vs := pcE (eadd (mt eadd (Ep.o m2) (rpE X Y t) k1) (mt eadd (Ep.o m2) (eG) k2))) rfl rfl i26 (lk rfl) rfl _ rfl,
    trivial⟩ [(3, .ptr 3 0), (4, .ptr 4 0), (5, .ptr 5 0), (7, .ptr 7 0), (8, .ptr 8 0)] [(3, nc ((k1 : Int))), (4, rc X Y t), (5, nc ((k2 : Int))), (7, pcE (eG)), (8, pcE (eadd (mt eadd (Ep.o m2) (rpE X Y t) k1) (mt eadd (Ep.o m2) (eG) k2)))] ⟨rfl, rfl, rfl, rfl, rfl, trivial⟩ ⟨rfl, rfl, rfl, rfl, rfl, trivial⟩ rfl (fun a w h => ?_)
  refine go_region h hm [eS 15 (.val (Value.bool true)), eS 16 (.val (Value.bool true)), eS 17 (.val (.agg (pcE (eadd (mt eadd (Ep.o m2) (rpE X Y t) k1) (mt eadd (Ep.o m2) (eG) k2))).toArray)), eS 18 (.val (Value.bool true)), eS 19 (.val (Value.bool true)), eS 20 (.val (Value.bool true)), eS 21 (.val (.agg (pcE (eadd (mt eadd (Ep.o m2) (rpE X Y t) k1) (mt eadd (Ep.o m2) (eG) k2))).toArray)), eS 22 (.val (.agg (nc ((k1 : Int))).toArray)), eS 23 (.val (.agg (rc X Y t).toArray)), eS 24 (.val (.agg (pcE (mt eadd (Ep.o m2) (rpE X Y t) k1)).toArray)), eS 25 (.val (.agg (nc ((k2 : Int))).toArray)), eS 26 (.val (.agg (pcE (eG)).toArray)), eS 27 (.val (.agg (pcE (mt eadd (Ep.o m2) (eG) k2)).toArray)), eS 28 (.val (.agg (pcE (eadd (mt eadd (Ep.o m2) (rpE X Y t) k1) (mt eadd (Ep.o m2) (eG) k2))).toArray)), eS 29 (.val (Value.bool true)), eS 30 (.val (Value.bool true)), eS 31 (.val (Value.bool true)), eS 32 (.val (.agg (nc ((k2 : Int))).toArray)), eS 33 (.val (.agg (pcE (eG)).toArray)), eS 34 (.val (.agg (nc ((k1 : Int))).toArray)), eS 35 (.val (.agg (rc X Y t).toArray)), eS 36 (.val (.agg (pcE (eadd (mt eadd (Ep.o m2) (eG) k2) (mt eadd (Ep.o m2) (rpE X Y t) k1))).toArray)), eS 37 (.val (.agg (pcE (eadd (mt eadd (Ep.o m2) (rpE X Y t) k1) (mt eadd (Ep.o m2) (eG) k2))).toArray)), eS 38 (.val (Value.bool true)), eS 39 (.val (Value.bool true)), eS 6 (.val (Value.bool true))] (by kernel_rfl) ⟨
    fun L u => u_call u (gd0 rfl) 15 rfl 9 #[] #[] rfl [] rfl (cE9 _) (Value.bool true) (fun w hb => awakeE_any (hT.keep (Bs.kp_of hb))),
    fun L u => u_move u (gd0 rfl) 16 rfl (.tmp 15) (Or.inl rfl) rfl,
    fun L u => u_load u (gd1 u 1 true rfl 16 rfl (lk rfl) rfl) 17 rfl 26 (.tmp 8) rfl rfl rfl Tryd.underlying26 rfl i26 (lk rfl) _ rfl,
    fun L u => u_call u (gd1 u 1 true rfl 16 rfl (lk rfl) rfl) 18 rfl 10 #[(.tmp 17)] #[26] rfl [.agg (pcE (eadd (mt eadd (Ep.o m2) (rpE X Y t) k1) (mt eadd (Ep.o m2) (eG) k2))).toArray] rfl (cE10 _) (Value.bool true) (fun w hb => e_FormedP (hT.keep (Bs.kp_of hb)) (egr.mem (mt_on egr (rpE_on X Y t) _) (mt_on egr eG_on _))),
    fun L u => u_pick u (gd0 rfl) 19 rfl (.tmp 16) (.tmp 18) (.const (.bool false)) rfl rfl rfl rfl _ rfl,
    fun L u => u_move u (gd0 rfl) 20 rfl (.tmp 19) (Or.inl rfl) rfl,
    fun L u => u_load u (gd1 u 5 true rfl 20 rfl (lk rfl) rfl) 21 rfl 26 (.tmp 8) rfl rfl rfl Tryd.underlying26 rfl i26 (lk rfl) _ rfl,
    fun L u => u_load u (gd1 u 5 true rfl 20 rfl (lk rfl) rfl) 22 rfl 24 (.tmp 3) rfl rfl rfl Tryd.underlying24 rfl i24 (lk rfl) _ rfl,
    fun L u => u_load u (gd1 u 5 true rfl 20 rfl (lk rfl) rfl) 23 rfl 26 (.tmp 4) rfl rfl rfl Tryd.underlying26 rfl i26 (lk rfl) _ rfl,
    fun L u => u_call u (gd1 u 5 true rfl 20 rfl (lk rfl) rfl) 24 rfl 14 #[(.tmp 22), (.tmp 23)] #[24, 26] rfl [.agg (nc ((k1 : Int))).toArray, .agg (rc X Y t).toArray] rfl (cE14 _) (.agg (pcE (mt eadd (Ep.o m2) (rpE X Y t) k1)).toArray) (fun w hb => e_Mul (hT.keep (Bs.kp_of hb)) hk1 hX hY t),
    fun L u => u_load u (gd1 u 5 true rfl 20 rfl (lk rfl) rfl) 25 rfl 24 (.tmp 5) rfl rfl rfl Tryd.underlying24 rfl i24 (lk rfl) _ rfl,
    fun L u => u_load u (gd1 u 5 true rfl 20 rfl (lk rfl) rfl) 26 rfl 26 (.tmp 7) rfl rfl rfl Tryd.underlying26 rfl i26 (lk rfl) _ rfl,
    fun L u => u_call u (gd1 u 5 true rfl 20 rfl (lk rfl) rfl) 27 rfl 14 #[(.tmp 25), (.tmp 26)] #[24, 26] rfl [.agg (nc ((k2 : Int))).toArray, .agg (pcE (eG)).toArray] rfl (cE14 _) (.agg (pcE (mt eadd (Ep.o m2) (eG) k2)).toArray) (fun w hb => e_MulP (hT.keep (Bs.kp_of hb)) hk2 eG_on),
    fun L u => u_call u (gd1 u 5 true rfl 20 rfl (lk rfl) rfl) 28 rfl 12 #[(.tmp 24), (.tmp 27)] #[26, 26] rfl [.agg (pcE (mt eadd (Ep.o m2) (rpE X Y t) k1)).toArray, .agg (pcE (mt eadd (Ep.o m2) (eG) k2)).toArray] rfl (cE12 _) (.agg (pcE (eadd (mt eadd (Ep.o m2) (rpE X Y t) k1) (mt eadd (Ep.o m2) (eG) k2))).toArray) (fun w hb => e_AddP (hT.keep (Bs.kp_of hb)) (mt_on egr (rpE_on X Y t) _) (mt_on egr eG_on _)),
    fun L u => u_eql u (gd1 u 5 true rfl 20 rfl (lk rfl) rfl) 29 rfl 26 26 (.tmp 21) (.tmp 28) rfl rfl rfl Tryd.eqGuardType26 (true) (fun w => eq_pcE_same _ w),
    fun L u => u_pick u (gd0 rfl) 30 rfl (.tmp 20) (.tmp 29) (.const (.bool false)) rfl rfl rfl rfl _ rfl,
    fun L u => u_move u (gd0 rfl) 31 rfl (.tmp 30) (Or.inl rfl) rfl,
    fun L u => u_load u (gd1 u 16 true rfl 31 rfl (lk rfl) rfl) 32 rfl 24 (.tmp 5) rfl rfl rfl Tryd.underlying24 rfl i24 (lk rfl) _ rfl,
    fun L u => u_load u (gd1 u 16 true rfl 31 rfl (lk rfl) rfl) 33 rfl 26 (.tmp 7) rfl rfl rfl Tryd.underlying26 rfl i26 (lk rfl) _ rfl,
    fun L u => u_load u (gd1 u 16 true rfl 31 rfl (lk rfl) rfl) 34 rfl 24 (.tmp 3) rfl rfl rfl Tryd.underlying24 rfl i24 (lk rfl) _ rfl,
    fun L u => u_load u (gd1 u 16 true rfl 31 rfl (lk rfl) rfl) 35 rfl 26 (.tmp 4) rfl rfl rfl Tryd.underlying26 rfl i26 (lk rfl) _ rfl,
    fun L u => u_call u (gd1 u 16 true rfl 31 rfl (lk rfl) rfl) 36 rfl 17 #[(.tmp 32), (.tmp 33), (.tmp 34), (.tmp 35)] #[24, 26, 24, 26] rfl [.agg (nc ((k2 : Int))).toArray, .agg (pcE (eG)).toArray, .agg (nc ((k1 : Int))).toArray, .agg (rc X Y t).toArray] rfl (cE17 _) (.agg (pcE (eadd (mt eadd (Ep.o m2) (eG) k2) (mt eadd (Ep.o m2) (rpE X Y t) k1))).toArray) (fun w hb => e_BothPR (hT.keep (Bs.kp_of hb)) hk2 eG_on hk1 hX hY t),
    fun L u => u_load u (gd1 u 16 true rfl 31 rfl (lk rfl) rfl) 37 rfl 26 (.tmp 8) rfl rfl rfl Tryd.underlying26 rfl i26 (lk rfl) _ rfl,
    fun L u => u_eql u (gd1 u 16 true rfl 31 rfl (lk rfl) rfl) 38 rfl 26 26 (.tmp 36) (.tmp 37) rfl rfl rfl Tryd.eqGuardType26 (true) (fun w => by rw [egr.comm (mt eadd (Ep.o m2) (eG) k2) (mt eadd (Ep.o m2) (rpE X Y t) k1)]; exact eq_pcE_same _ w),
    fun L u => u_pick u (gd0 rfl) 39 rfl (.tmp 31) (.tmp 38) (.const (.bool false)) rfl rfl rfl rfl _ rfl,
    fun L u => u_move u (gd0 rfl) 6 rfl (.tmp 39) (Or.inr rfl) rfl,
    trivial⟩ [(6, .val (Value.bool true))] [] ⟨rfl, trivial⟩ trivial rfl (fun a w h => ?_)
  refine wp_ret ?_
  refine ret_slot h 6 rfl (lk rfl) (Value.bool true) rfl ?_
  exact ⟨rfl, h.grows⟩
set_option maxRecDepth 100000 in
set_option maxHeartbeats 4000000 in
theorem eorder_walk {w : World} (hT : Tab w) {k r : Nat} (hk : k < 2 ^ 256) (hr : r < 2 ^ 256) (hre : r = k % mod3) (HMd : ∀ w : World, Calls Tryd.prog 20 [.int .i64 3].toArray w fun e w' => e = .returned (.agg (nc (mod3 : Int)).toArray) ∧ Below w.heap.size w w') (HF : ∀ w : World, Calls Tryd.prog 21 [.int .i64 3, .agg (nc (k : Int)).toArray].toArray w fun e w' => e = .returned (.agg (nc (r : Int)).toArray) ∧ Below w.heap.size w w') (HS : ∀ (w : World) (y : Fin m2), Calls Tryd.prog 19 [.int .i64 2, .agg nz.toArray, .agg (gc y).toArray].toArray w fun e w' => e = .returned (.agg (gc (0 - y)).toArray) ∧ Below w.heap.size w w') : Calls Tryd.prog 7 [.agg (nc ((k : Int))).toArray].toArray w fun e w' => e = .returned (.bool true) ∧ Below w.heap.size w w' := by
  obtain ⟨one, hone⟩ : ∃ z : Fin m2, z = 1 := ⟨_, rfl⟩
  refine enter (args := [.agg (nc ((k : Int))).toArray]) Tryd.func7 rfl 56 rfl (lk rfl) (fun a h => ?_)
  refine go_region h hm [eN 1 (nc ((k : Int))), eS 2 (.val (Value.bool false))] (by kernel_rfl) ⟨
    fun L u => u_box u (gd0 rfl) 24 (.tmp 0) rfl 1 rfl rfl rfl _ rfl,
    fun L u => u_move u (gd0 rfl) 2 rfl (.const (.bool false)) (Or.inr rfl) rfl,
    trivial⟩ [(1, .ptr 1 0)] [(1, nc ((k : Int)))] ⟨rfl, trivial⟩ ⟨rfl, trivial⟩ rfl (fun a w h => ?_)
  refine go_region h hm [eS 6 (.val (.agg (gc (one)).toArray)), eS 7 (.val (.agg (nz ++ gc (one) ++ [Value.bool false]).toArray)), eN 3 (nz ++ nz ++ [Value.bool false]), eM 3 (nz ++ gc (one) ++ [Value.bool false])] (by kernel_rfl) ⟨
    fun L u => u_build u (gd0 rfl) 6 rfl 24 #[(0, (.const (.int .u64 1))), (1, (.const (.int .u64 0))), (2, (.const (.int .u64 0))), (3, (.const (.int .u64 0)))] rfl [(0, (Value.int IntKind.u64 1)), (1, (Value.int IntKind.u64 0)), (2, (Value.int IntKind.u64 0)), (3, (Value.int IntKind.u64 0))] rfl (gc (one)) (g_bN4x hone),
    fun L u => u_build u (gd0 rfl) 7 rfl 26 #[(1, (.tmp 6))] rfl [(1, .agg (gc (one)).toArray)] rfl (nz ++ gc (one) ++ [Value.bool false]) (g_bY _),
    fun L u => u_alloc u (gd0 rfl) 26 rfl 3 rfl rfl z26 _ rfl,
    fun L u => u_store u (gd0 rfl) 26 (.tmp 3) (.tmp 7) rfl rfl rfl (vs := nz ++ gc (one) ++ [Value.bool false]) rfl rfl i26 (lk rfl) rfl _ rfl,
    trivial⟩ [(1, .ptr 1 0), (3, .ptr 3 0)] [(1, nc ((k : Int))), (3, nz ++ gc (one) ++ [Value.bool false])] ⟨rfl, rfl, trivial⟩ ⟨rfl, rfl, trivial⟩ rfl (fun a w h => ?_)
  refine go_region h hm [eS 8 (.val (.agg (nc ((k : Int))).toArray)), eS 9 (.val (.agg (pcE (eG)).toArray)), eS 10 (.val (.agg (pcE (mt eadd (Ep.o m2) (eG) k)).toArray)), eN 4 (nz ++ nz ++ [Value.bool false]), eM 4 (pcE (mt eadd (Ep.o m2) (eG) k))] (by kernel_rfl) ⟨
    fun L u => u_load u (gd0 rfl) 8 rfl 24 (.tmp 1) rfl rfl rfl Tryd.underlying24 rfl i24 (lk rfl) _ rfl,
    fun L u => u_call u (gd0 rfl) 9 rfl 16 #[] #[] rfl [] rfl (cE16 _) (.agg (pcE (eG)).toArray) (fun w hb => e_Base),
    fun L u => u_call u (gd0 rfl) 10 rfl 14 #[(.tmp 8), (.tmp 9)] #[24, 26] rfl [.agg (nc ((k : Int))).toArray, .agg (pcE (eG)).toArray] rfl (cE14 _) (.agg (pcE (mt eadd (Ep.o m2) (eG) k)).toArray) (fun w hb => e_MulP (hT.keep (Bs.kp_of hb)) hk eG_on),
    fun L u => u_alloc u (gd0 rfl) 26 rfl 4 rfl rfl z26 _ rfl,
    fun L u => u_store u (gd0 rfl) 26 (.tmp 4) (.tmp 10) rfl rfl rfl (vs := pcE (mt eadd (Ep.o m2) (eG) k)) rfl rfl i26 (lk rfl) rfl _ rfl,
    trivial⟩ [(1, .ptr 1 0), (3, .ptr 3 0), (4, .ptr 4 0)] [(1, nc ((k : Int))), (3, nz ++ gc (one) ++ [Value.bool false]), (4, pcE (mt eadd (Ep.o m2) (eG) k))] ⟨rfl, rfl, rfl, trivial⟩ ⟨rfl, rfl, rfl, trivial⟩ rfl (fun a w h => ?_)
  refine go_region h hm [eS 11 (.val (.agg (nz).toArray)), eS 12 (.ptr 4 0), eS 13 (.val (.agg (gc ((mt eadd (Ep.o m2) (eG) k).x)).toArray)), eS 14 (.val (.agg (gc (0 - (mt eadd (Ep.o m2) (eG) k).x)).toArray)), eS 15 (.ptr 4 4), eS 16 (.val (.agg (gc ((mt eadd (Ep.o m2) (eG) k).y)).toArray)), eS 17 (.val (.agg (gc (0 - (mt eadd (Ep.o m2) (eG) k).x) ++ gc ((mt eadd (Ep.o m2) (eG) k).y) ++ [Value.bool false]).toArray)), eN 5 (nz ++ nz ++ [Value.bool false]), eM 5 (gc (0 - (mt eadd (Ep.o m2) (eG) k).x) ++ gc ((mt eadd (Ep.o m2) (eG) k).y) ++ [Value.bool false])] (by kernel_rfl) ⟨
    fun L u => u_build u (gd0 rfl) 11 rfl 24 #[] rfl [] rfl (nz) (g_bN0),
    fun L u => u_field u (gd0 rfl) 12 rfl 26 (.tmp 4) 0 rfl rfl rfl Tryd.underlying26 rfl i24 _ rfl,
    fun L u => u_load u (gd0 rfl) 13 rfl 24 (.tmp 12) rfl rfl rfl Tryd.underlying24 rfl i24 (lk rfl) _ rfl,
    fun L u => u_call u (gd0 rfl) 14 rfl 19 #[(.const (.int .i64 2)), (.tmp 11), (.tmp 13)] #[3, 24, 24] rfl [(Value.int IntKind.i64 2), .agg (nz).toArray, .agg (gc ((mt eadd (Ep.o m2) (eG) k).x)).toArray] rfl (cE19 _) (.agg (gc (0 - (mt eadd (Ep.o m2) (eG) k).x)).toArray) (fun w hb => HS w _),
    fun L u => u_field u (gd0 rfl) 15 rfl 26 (.tmp 4) 1 rfl rfl rfl Tryd.underlying26 rfl i24 _ rfl,
    fun L u => u_load u (gd0 rfl) 16 rfl 24 (.tmp 15) rfl rfl rfl Tryd.underlying24 rfl i24 (lk rfl) _ rfl,
    fun L u => u_build u (gd0 rfl) 17 rfl 26 #[(0, (.tmp 14)), (1, (.tmp 16))] rfl [(0, .agg (gc (0 - (mt eadd (Ep.o m2) (eG) k).x)).toArray), (1, .agg (gc ((mt eadd (Ep.o m2) (eG) k).y)).toArray)] rfl (gc (0 - (mt eadd (Ep.o m2) (eG) k).x) ++ gc ((mt eadd (Ep.o m2) (eG) k).y) ++ [Value.bool false]) (g_bP _ _),
    fun L u => u_alloc u (gd0 rfl) 26 rfl 5 rfl rfl z26 _ rfl,
    fun L u => u_store u (gd0 rfl) 26 (.tmp 5) (.tmp 17) rfl rfl rfl (vs := gc (0 - (mt eadd (Ep.o m2) (eG) k).x) ++ gc ((mt eadd (Ep.o m2) (eG) k).y) ++ [Value.bool false]) rfl rfl i26 (lk rfl) rfl _ rfl,
    trivial⟩ [(1, .ptr 1 0), (3, .ptr 3 0), (4, .ptr 4 0), (5, .ptr 5 0)] [(1, nc ((k : Int))), (3, nz ++ gc (one) ++ [Value.bool false]), (4, pcE (mt eadd (Ep.o m2) (eG) k)), (5, gc (0 - (mt eadd (Ep.o m2) (eG) k).x) ++ gc ((mt eadd (Ep.o m2) (eG) k).y) ++ [Value.bool false])] ⟨rfl, rfl, rfl, rfl, trivial⟩ ⟨rfl, rfl, rfl, rfl, trivial⟩ rfl (fun a w h => ?_)
  refine go_region h hm [eS 18 (.val (Value.bool true)), eS 19 (.val (Value.bool true)), eS 20 (.val (.agg (nc ((mod3 : Int))).toArray)), eS 21 (.val (.agg (pcE (eG)).toArray)), eS 22 (.val (.agg (pcE (mt eadd (Ep.o m2) (eG) mod3)).toArray)), eS 23 (.val (.agg (nz ++ gc (one) ++ [Value.bool false]).toArray)), eS 24 (.val (Value.bool true)), eS 25 (.val (Value.bool true)), eS 26 (.val (Value.bool true)), eS 27 (.val (.agg (nc ((k : Int))).toArray)), eS 28 (.val (.agg (nc ((r : Int))).toArray)), eS 29 (.val (.agg (pcE (eG)).toArray)), eS 30 (.val (.agg (pcE (mt eadd (Ep.o m2) (eG) r)).toArray)), eS 31 (.val (.agg (pcE (mt eadd (Ep.o m2) (eG) k)).toArray)), eS 32 (.val (Value.bool true)), eS 33 (.val (Value.bool true)), eS 34 (.val (Value.bool true)), eS 35 (.val (.agg (gc (0 - (mt eadd (Ep.o m2) (eG) k).x) ++ gc ((mt eadd (Ep.o m2) (eG) k).y) ++ [Value.bool false]).toArray)), eS 36 (.val (Value.bool true)), eS 37 (.val (Value.bool true)), eS 38 (.val (Value.bool true)), eS 39 (.val (.agg (pcE (mt eadd (Ep.o m2) (eG) k)).toArray)), eS 40 (.val (.agg (gc (0 - (mt eadd (Ep.o m2) (eG) k).x) ++ gc ((mt eadd (Ep.o m2) (eG) k).y) ++ [Value.bool false]).toArray)), eS 41 (.val (.agg (pcE (eadd (mt eadd (Ep.o m2) (eG) k) (eneg (mt eadd (Ep.o m2) (eG) k)))).toArray)), eS 42 (.val (.agg (nz ++ gc (one) ++ [Value.bool false]).toArray)), eS 43 (.val (Value.bool true)), eS 44 (.val (Value.bool true)), eS 45 (.val (Value.bool true)), eS 46 (.val (.agg (pcE (mt eadd (Ep.o m2) (eG) k)).toArray)), eS 47 (.val (.agg (nz ++ gc (one) ++ [Value.bool false]).toArray)), eS 48 (.val (.agg (pcE (eadd (mt eadd (Ep.o m2) (eG) k) (Ep.o m2))).toArray)), eS 49 (.val (.agg (pcE (mt eadd (Ep.o m2) (eG) k)).toArray)), eS 50 (.val (Value.bool true)), eS 51 (.val (Value.bool true)), eS 52 (.val (Value.bool true)), eS 53 (.val (.agg (pcE (mt eadd (Ep.o m2) (eG) k)).toArray)), eS 54 (.val (Value.bool true)), eS 55 (.val (Value.bool true)), eS 2 (.val (Value.bool true))] (by kernel_rfl) ⟨
    fun L u => u_call u (gd0 rfl) 18 rfl 9 #[] #[] rfl [] rfl (cE9 _) (Value.bool true) (fun w hb => awakeE_any (hT.keep (Bs.kp_of hb))),
    fun L u => u_move u (gd0 rfl) 19 rfl (.tmp 18) (Or.inl rfl) rfl,
    fun L u => u_call u (gd1 u 1 true rfl 19 rfl (lk rfl) rfl) 20 rfl 20 #[(.const (.int .i64 3))] #[3] rfl [(Value.int IntKind.i64 3)] rfl (cE20 _) (.agg (nc ((mod3 : Int))).toArray) (fun w hb => HMd w),
    fun L u => u_call u (gd1 u 1 true rfl 19 rfl (lk rfl) rfl) 21 rfl 16 #[] #[] rfl [] rfl (cE16 _) (.agg (pcE (eG)).toArray) (fun w hb => e_Base),
    fun L u => u_call u (gd1 u 1 true rfl 19 rfl (lk rfl) rfl) 22 rfl 14 #[(.tmp 20), (.tmp 21)] #[24, 26] rfl [.agg (nc ((mod3 : Int))).toArray, .agg (pcE (eG)).toArray] rfl (cE14 _) (.agg (pcE (mt eadd (Ep.o m2) (eG) mod3)).toArray) (fun w hb => e_MulP (hT.keep (Bs.kp_of hb)) hmod3 eG_on),
    fun L u => u_load u (gd1 u 1 true rfl 19 rfl (lk rfl) rfl) 23 rfl 26 (.tmp 3) rfl rfl rfl Tryd.underlying26 rfl i26 (lk rfl) _ rfl,
    fun L u => u_eql u (gd1 u 1 true rfl 19 rfl (lk rfl) rfl) 24 rfl 26 26 (.tmp 22) (.tmp 23) rfl rfl rfl Tryd.eqGuardType26 (true) (fun w => by rw [oE_pc hone, eG_order]; exact eq_pcE_same _ w),
    fun L u => u_pick u (gd0 rfl) 25 rfl (.tmp 19) (.tmp 24) (.const (.bool false)) rfl rfl rfl rfl _ rfl,
    fun L u => u_move u (gd0 rfl) 26 rfl (.tmp 25) (Or.inl rfl) rfl,
    fun L u => u_load u (gd1 u 8 true rfl 26 rfl (lk rfl) rfl) 27 rfl 24 (.tmp 1) rfl rfl rfl Tryd.underlying24 rfl i24 (lk rfl) _ rfl,
    fun L u => u_call u (gd1 u 8 true rfl 26 rfl (lk rfl) rfl) 28 rfl 21 #[(.const (.int .i64 3)), (.tmp 27)] #[3, 24] rfl [(Value.int IntKind.i64 3), .agg (nc ((k : Int))).toArray] rfl (cE21 _) (.agg (nc ((r : Int))).toArray) (fun w hb => HF w),
    fun L u => u_call u (gd1 u 8 true rfl 26 rfl (lk rfl) rfl) 29 rfl 16 #[] #[] rfl [] rfl (cE16 _) (.agg (pcE (eG)).toArray) (fun w hb => e_Base),
    fun L u => u_call u (gd1 u 8 true rfl 26 rfl (lk rfl) rfl) 30 rfl 14 #[(.tmp 28), (.tmp 29)] #[24, 26] rfl [.agg (nc ((r : Int))).toArray, .agg (pcE (eG)).toArray] rfl (cE14 _) (.agg (pcE (mt eadd (Ep.o m2) (eG) r)).toArray) (fun w hb => e_MulP (hT.keep (Bs.kp_of hb)) hr eG_on),
    fun L u => u_load u (gd1 u 8 true rfl 26 rfl (lk rfl) rfl) 31 rfl 26 (.tmp 4) rfl rfl rfl Tryd.underlying26 rfl i26 (lk rfl) _ rfl,
    fun L u => u_eql u (gd1 u 8 true rfl 26 rfl (lk rfl) rfl) 32 rfl 26 26 (.tmp 30) (.tmp 31) rfl rfl rfl Tryd.eqGuardType26 (true) (fun w => by rw [show mt eadd (Ep.o m2) eG r = mt eadd (Ep.o m2) eG k by rw [hre, mt_mod egr eG_on eG_order]]; exact eq_pcE_same _ w),
    fun L u => u_pick u (gd0 rfl) 33 rfl (.tmp 26) (.tmp 32) (.const (.bool false)) rfl rfl rfl rfl _ rfl,
    fun L u => u_move u (gd0 rfl) 34 rfl (.tmp 33) (Or.inl rfl) rfl,
    fun L u => u_load u (gd1 u 16 true rfl 34 rfl (lk rfl) rfl) 35 rfl 26 (.tmp 5) rfl rfl rfl Tryd.underlying26 rfl i26 (lk rfl) _ rfl,
    fun L u => u_call u (gd1 u 16 true rfl 34 rfl (lk rfl) rfl) 36 rfl 10 #[(.tmp 35)] #[26] rfl [.agg (gc (0 - (mt eadd (Ep.o m2) (eG) k).x) ++ gc ((mt eadd (Ep.o m2) (eG) k).y) ++ [Value.bool false]).toArray] rfl (cE10 _) (Value.bool true) (fun w hb => by rw [mirE_pc (mt eadd (Ep.o m2) (eG) k)]; exact e_FormedP (hT.keep (Bs.kp_of hb)) (eneg_on (mt_on egr eG_on _))),
    fun L u => u_pick u (gd0 rfl) 37 rfl (.tmp 34) (.tmp 36) (.const (.bool false)) rfl rfl rfl rfl _ rfl,
    fun L u => u_move u (gd0 rfl) 38 rfl (.tmp 37) (Or.inl rfl) rfl,
    fun L u => u_load u (gd1 u 20 true rfl 38 rfl (lk rfl) rfl) 39 rfl 26 (.tmp 4) rfl rfl rfl Tryd.underlying26 rfl i26 (lk rfl) _ rfl,
    fun L u => u_load u (gd1 u 20 true rfl 38 rfl (lk rfl) rfl) 40 rfl 26 (.tmp 5) rfl rfl rfl Tryd.underlying26 rfl i26 (lk rfl) _ rfl,
    fun L u => u_call u (gd1 u 20 true rfl 38 rfl (lk rfl) rfl) 41 rfl 12 #[(.tmp 39), (.tmp 40)] #[26, 26] rfl [.agg (pcE (mt eadd (Ep.o m2) (eG) k)).toArray, .agg (gc (0 - (mt eadd (Ep.o m2) (eG) k).x) ++ gc ((mt eadd (Ep.o m2) (eG) k).y) ++ [Value.bool false]).toArray] rfl (cE12 _) (.agg (pcE (eadd (mt eadd (Ep.o m2) (eG) k) (eneg (mt eadd (Ep.o m2) (eG) k)))).toArray) (fun w hb => by rw [mirE_pc (mt eadd (Ep.o m2) (eG) k)]; exact e_AddP (hT.keep (Bs.kp_of hb)) (mt_on egr eG_on _) (eneg_on (mt_on egr eG_on _))),
    fun L u => u_load u (gd1 u 20 true rfl 38 rfl (lk rfl) rfl) 42 rfl 26 (.tmp 3) rfl rfl rfl Tryd.underlying26 rfl i26 (lk rfl) _ rfl,
    fun L u => u_eql u (gd1 u 20 true rfl 38 rfl (lk rfl) rfl) 43 rfl 26 26 (.tmp 41) (.tmp 42) rfl rfl rfl Tryd.eqGuardType26 (true) (fun w => by rw [oE_pc hone, eneg_add (mt_on egr eG_on k)]; exact eq_pcE_same _ w),
    fun L u => u_pick u (gd0 rfl) 44 rfl (.tmp 38) (.tmp 43) (.const (.bool false)) rfl rfl rfl rfl _ rfl,
    fun L u => u_move u (gd0 rfl) 45 rfl (.tmp 44) (Or.inl rfl) rfl,
    fun L u => u_load u (gd1 u 27 true rfl 45 rfl (lk rfl) rfl) 46 rfl 26 (.tmp 4) rfl rfl rfl Tryd.underlying26 rfl i26 (lk rfl) _ rfl,
    fun L u => u_load u (gd1 u 27 true rfl 45 rfl (lk rfl) rfl) 47 rfl 26 (.tmp 3) rfl rfl rfl Tryd.underlying26 rfl i26 (lk rfl) _ rfl,
    fun L u => u_call u (gd1 u 27 true rfl 45 rfl (lk rfl) rfl) 48 rfl 12 #[(.tmp 46), (.tmp 47)] #[26, 26] rfl [.agg (pcE (mt eadd (Ep.o m2) (eG) k)).toArray, .agg (nz ++ gc (one) ++ [Value.bool false]).toArray] rfl (cE12 _) (.agg (pcE (eadd (mt eadd (Ep.o m2) (eG) k) (Ep.o m2))).toArray) (fun w hb => by rw [oE_pc hone]; exact e_AddP (hT.keep (Bs.kp_of hb)) (mt_on egr eG_on _) egr.zero),
    fun L u => u_load u (gd1 u 27 true rfl 45 rfl (lk rfl) rfl) 49 rfl 26 (.tmp 4) rfl rfl rfl Tryd.underlying26 rfl i26 (lk rfl) _ rfl,
    fun L u => u_eql u (gd1 u 27 true rfl 45 rfl (lk rfl) rfl) 50 rfl 26 26 (.tmp 48) (.tmp 49) rfl rfl rfl Tryd.eqGuardType26 (true) (fun w => by rw [egr.add_o (mt_on egr eG_on k)]; exact eq_pcE_same _ w),
    fun L u => u_pick u (gd0 rfl) 51 rfl (.tmp 45) (.tmp 50) (.const (.bool false)) rfl rfl rfl rfl _ rfl,
    fun L u => u_move u (gd0 rfl) 52 rfl (.tmp 51) (Or.inl rfl) rfl,
    fun L u => u_load u (gd1 u 34 true rfl 52 rfl (lk rfl) rfl) 53 rfl 26 (.tmp 4) rfl rfl rfl Tryd.underlying26 rfl i26 (lk rfl) _ rfl,
    fun L u => u_call u (gd1 u 34 true rfl 52 rfl (lk rfl) rfl) 54 rfl 10 #[(.tmp 53)] #[26] rfl [.agg (pcE (mt eadd (Ep.o m2) (eG) k)).toArray] rfl (cE10 _) (Value.bool true) (fun w hb => e_FormedP (hT.keep (Bs.kp_of hb)) (mt_on egr eG_on _)),
    fun L u => u_pick u (gd0 rfl) 55 rfl (.tmp 52) (.tmp 54) (.const (.bool false)) rfl rfl rfl rfl _ rfl,
    fun L u => u_move u (gd0 rfl) 2 rfl (.tmp 55) (Or.inr rfl) rfl,
    trivial⟩ [(2, .val (Value.bool true))] [] ⟨rfl, trivial⟩ trivial rfl (fun a w h => ?_)
  refine wp_ret ?_
  refine ret_slot h 2 rfl (lk rfl) (Value.bool true) rfl ?_
  exact ⟨rfl, h.grows⟩
end Go.Proofs.YtolehamdaceikaaDoor
namespace Go.Proofs.YtolehamdaceikaaDoor
open Go.RowKit
attribute [local go_sem ↓] Go.wp_at_zero Go.wp_at_succ

def cb (a b : Int) (k : Nat) : Bool := C a b k == 1
theorem cb_zero (a b : Int) : cb a b 0 = false := by unfold cb; rw [C_zero]; rfl
theorem ref_add_0 (a b : Int) (k : Nat) (h : cb a b k = false) : IntKind.u64.wrap (L k a + L k b) = L k (a + b) := by
  have c1 := C_lo a b k
  have c2 := C_hi a b k
  have hc : C a b k = 0 := by unfold cb at h; simp at h; omega
  have e := add_word a b k
  rw [hc, Int.add_zero] at e
  rw [IntKind.wrap_u64, e]
theorem ref_add_1 (a b : Int) (k : Nat) (h : cb a b k = true) : IntKind.u64.wrap (IntKind.u64.wrap (L k a + L k b) + 1) = L k (a + b) := by
  have hc : C a b k = 1 := by unfold cb at h; simpa using h
  have e := add_word a b k
  rw [hc] at e
  rw [IntKind.wrap_u64, IntKind.wrap_u64, ← e]
  omega
theorem ref_add_o0 (a b : Int) (k : Nat) (h : cb a b k = false) : decide (L k (a + b) < L k a) = cb a b (k + 1) := by
  have c1 := C_lo a b k
  have c2 := C_hi a b k
  have hc : C a b k = 0 := by unfold cb at h; simp at h; omega
  have e := add_word a b k
  have f := add_carry a b k
  have a1 := L_lo k a
  have a2 := L_hi k a
  have b1 := L_lo k b
  have b2 := L_hi k b
  rw [hc] at e f
  unfold cb
  rw [← f, ← e, Bool.eq_iff_iff]
  simp only [decide_eq_true_eq, beq_iff_eq]
  omega
theorem ref_add_o1 (a b : Int) (k : Nat) (h : cb a b k = true) : (decide (IntKind.u64.wrap (L k a + L k b) < L k a) || (L k (a + b) == 0)) = cb a b (k + 1) := by
  have hc : C a b k = 1 := by unfold cb at h; simpa using h
  have e := add_word a b k
  have f := add_carry a b k
  have a1 := L_lo k a
  have a2 := L_hi k a
  have b1 := L_lo k b
  have b2 := L_hi k b
  rw [hc] at e f
  unfold cb
  rw [← f, ← e, IntKind.wrap_u64, Bool.eq_iff_iff]
  simp only [decide_eq_true_eq, beq_iff_eq, Bool.or_eq_true]
  omega

set_option maxHeartbeats 1000000 in
theorem ref_add_walk (a b : Int) (w : World) :
    Calls Tryd.prog 18 #[.agg #[.int .u64 (L 0 a), .int .u64 (L 1 a), .int .u64 (L 2 a), .int .u64 (L 3 a)], .agg #[.int .u64 (L 0 b), .int .u64 (L 1 b), .int .u64 (L 2 b), .int .u64 (L 3 b)]] w fun e w' =>
      e = .returned (.tuple #[.agg #[.int .u64 (L 0 (a + b)), .int .u64 (L 1 (a + b)), .int .u64 (L 2 (a + b)), .int .u64 (L 3 (a + b))], .bool (cb a b 4)]) ∧ Below w.heap.size w w' := by
  go_enter Tryd.func18, Tryd.ntmps18
  go_wp2
  go_loopw [7, 8] (fun s7 s8 w' => (s8 = .int .i64 0 ∧ s7 = .bool false ∧ ∃ n, w' = ((((w.alloc (.cells #[.int .u64 (L 0 a), .int .u64 (L 1 a), .int .u64 (L 2 a), .int .u64 (L 3 a)] 24)).alloc (.cells #[.int .u64 (L 0 b), .int .u64 (L 1 b), .int .u64 (L 2 b), .int .u64 (L 3 b)] 24)).alloc (.cells #[.int .u64 0, .int .u64 0, .int .u64 0, .int .u64 0] 24)).alloc (.cells #[.int .u64 0, .int .u64 0, .int .u64 0, .int .u64 0] 24)).drewN n) ∨ (s8 = .int .i64 1 ∧ s7 = .bool (cb a b 1) ∧ ∃ n, w' = ((((w.alloc (.cells #[.int .u64 (L 0 a), .int .u64 (L 1 a), .int .u64 (L 2 a), .int .u64 (L 3 a)] 24)).alloc (.cells #[.int .u64 (L 0 b), .int .u64 (L 1 b), .int .u64 (L 2 b), .int .u64 (L 3 b)] 24)).alloc (.cells #[.int .u64 0, .int .u64 0, .int .u64 0, .int .u64 0] 24)).alloc (.cells #[.int .u64 (L 0 (a + b)), .int .u64 0, .int .u64 0, .int .u64 0] 24)).drewN n) ∨ (s8 = .int .i64 2 ∧ s7 = .bool (cb a b 2) ∧ ∃ n, w' = ((((w.alloc (.cells #[.int .u64 (L 0 a), .int .u64 (L 1 a), .int .u64 (L 2 a), .int .u64 (L 3 a)] 24)).alloc (.cells #[.int .u64 (L 0 b), .int .u64 (L 1 b), .int .u64 (L 2 b), .int .u64 (L 3 b)] 24)).alloc (.cells #[.int .u64 0, .int .u64 0, .int .u64 0, .int .u64 0] 24)).alloc (.cells #[.int .u64 (L 0 (a + b)), .int .u64 (L 1 (a + b)), .int .u64 0, .int .u64 0] 24)).drewN n) ∨ (s8 = .int .i64 3 ∧ s7 = .bool (cb a b 3) ∧ ∃ n, w' = ((((w.alloc (.cells #[.int .u64 (L 0 a), .int .u64 (L 1 a), .int .u64 (L 2 a), .int .u64 (L 3 a)] 24)).alloc (.cells #[.int .u64 (L 0 b), .int .u64 (L 1 b), .int .u64 (L 2 b), .int .u64 (L 3 b)] 24)).alloc (.cells #[.int .u64 0, .int .u64 0, .int .u64 0, .int .u64 0] 24)).alloc (.cells #[.int .u64 (L 0 (a + b)), .int .u64 (L 1 (a + b)), .int .u64 (L 2 (a + b)), .int .u64 0] 24)).drewN n) ∨ (s8 = .int .i64 4 ∧ s7 = .bool (cb a b 4) ∧ ∃ n, w' = ((((w.alloc (.cells #[.int .u64 (L 0 a), .int .u64 (L 1 a), .int .u64 (L 2 a), .int .u64 (L 3 a)] 24)).alloc (.cells #[.int .u64 (L 0 b), .int .u64 (L 1 b), .int .u64 (L 2 b), .int .u64 (L 3 b)] 24)).alloc (.cells #[.int .u64 0, .int .u64 0, .int .u64 0, .int .u64 0] 24)).alloc (.cells #[.int .u64 (L 0 (a + b)), .int .u64 (L 1 (a + b)), .int .u64 (L 2 (a + b)), .int .u64 (L 3 (a + b))] 24)).drewN n)) (fun _ s8 _ => 4 - (intOf s8).toNat)
  case atStart => exact Or.inl ⟨rfl, rfl, 0, rfl⟩
  case round =>
    rcases hrel with ⟨rfl, rfl, n, rfl⟩ | ⟨rfl, rfl, n, rfl⟩ | ⟨rfl, rfl, n, rfl⟩ | ⟨rfl, rfl, n, rfl⟩ | ⟨rfl, rfl, n, rfl⟩
    · have q1 := ref_add_0 a b 0 (cb_zero a b)
      have q2 : decide (L 0 (a + b) < L 0 a) = cb a b 1 := ref_add_o0 a b 0 (cb_zero a b)
      go_wp2
      go_quiet (fail)
      go_wp2
      exact ⟨Or.inr (Or.inl ⟨rfl, (by first | rfl | exact congrArg Value.bool q3.symm), n + nq, set_out (by simp) _ _ _ _ _⟩), by simp [intOf]⟩
    · cases hcb : cb a b 1
      · have q1 := ref_add_0 a b 1 hcb
        have q2 : decide (L 1 (a + b) < L 1 a) = cb a b 2 := ref_add_o0 a b 1 hcb
        go_wp2
        go_quiet (fail)
        go_wp2
        exact ⟨Or.inr (Or.inr (Or.inl ⟨rfl, (by first | rfl | exact congrArg Value.bool q3.symm), n + nq, set_out (by simp) _ _ _ _ _⟩)), by simp [intOf]⟩
      · have q1 := ref_add_1 a b 1 hcb
        have q2 := ref_add_o1 a b 1 hcb
        by_cases o : IntKind.u64.wrap (L 1 a + L 1 b) < L 1 a
        · have q3 : cb a b 2 = true := by rw [← q2]; simp [o]
          clear q2
          go_wp2
          go_quiet (fail)
          go_wp2
          exact ⟨Or.inr (Or.inr (Or.inl ⟨rfl, (by first | rfl | exact congrArg Value.bool q3.symm), n + nq, set_out (by simp) _ _ _ _ _⟩)), by simp [intOf]⟩
        · have o2 : decide (IntKind.u64.wrap (L 1 a + L 1 b) < L 1 a) = false := by simpa using o
          have q3 : (L 1 (a + b) == 0) = cb a b 2 := by rw [o2, Bool.false_or] at q2; exact q2
          clear q2
          go_wp2
          go_quiet (fail)
          go_wp2
          exact ⟨Or.inr (Or.inr (Or.inl ⟨rfl, (by first | rfl | exact congrArg Value.bool q3.symm), n + nq, set_out (by simp) _ _ _ _ _⟩)), by simp [intOf]⟩
    · cases hcb : cb a b 2
      · have q1 := ref_add_0 a b 2 hcb
        have q2 : decide (L 2 (a + b) < L 2 a) = cb a b 3 := ref_add_o0 a b 2 hcb
        go_wp2
        go_quiet (fail)
        go_wp2
        exact ⟨Or.inr (Or.inr (Or.inr (Or.inl ⟨rfl, (by first | rfl | exact congrArg Value.bool q3.symm), n + nq, set_out (by simp) _ _ _ _ _⟩))), by simp [intOf]⟩
      · have q1 := ref_add_1 a b 2 hcb
        have q2 := ref_add_o1 a b 2 hcb
        by_cases o : IntKind.u64.wrap (L 2 a + L 2 b) < L 2 a
        · have q3 : cb a b 3 = true := by rw [← q2]; simp [o]
          clear q2
          go_wp2
          go_quiet (fail)
          go_wp2
          exact ⟨Or.inr (Or.inr (Or.inr (Or.inl ⟨rfl, (by first | rfl | exact congrArg Value.bool q3.symm), n + nq, set_out (by simp) _ _ _ _ _⟩))), by simp [intOf]⟩
        · have o2 : decide (IntKind.u64.wrap (L 2 a + L 2 b) < L 2 a) = false := by simpa using o
          have q3 : (L 2 (a + b) == 0) = cb a b 3 := by rw [o2, Bool.false_or] at q2; exact q2
          clear q2
          go_wp2
          go_quiet (fail)
          go_wp2
          exact ⟨Or.inr (Or.inr (Or.inr (Or.inl ⟨rfl, (by first | rfl | exact congrArg Value.bool q3.symm), n + nq, set_out (by simp) _ _ _ _ _⟩))), by simp [intOf]⟩
    · cases hcb : cb a b 3
      · have q1 := ref_add_0 a b 3 hcb
        have q2 : decide (L 3 (a + b) < L 3 a) = cb a b 4 := ref_add_o0 a b 3 hcb
        go_wp2
        go_quiet (fail)
        go_wp2
        exact ⟨Or.inr (Or.inr (Or.inr (Or.inr (⟨rfl, (by first | rfl | exact congrArg Value.bool q3.symm), n + nq, set_out (by simp) _ _ _ _ _⟩)))), by simp [intOf]⟩
      · have q1 := ref_add_1 a b 3 hcb
        have q2 := ref_add_o1 a b 3 hcb
        by_cases o : IntKind.u64.wrap (L 3 a + L 3 b) < L 3 a
        · have q3 : cb a b 4 = true := by rw [← q2]; simp [o]
          clear q2
          go_wp2
          go_quiet (fail)
          go_wp2
          exact ⟨Or.inr (Or.inr (Or.inr (Or.inr (⟨rfl, (by first | rfl | exact congrArg Value.bool q3.symm), n + nq, set_out (by simp) _ _ _ _ _⟩)))), by simp [intOf]⟩
        · have o2 : decide (IntKind.u64.wrap (L 3 a + L 3 b) < L 3 a) = false := by simpa using o
          have q3 : (L 3 (a + b) == 0) = cb a b 4 := by rw [o2, Bool.false_or] at q2; exact q2
          clear q2
          go_wp2
          go_quiet (fail)
          go_wp2
          exact ⟨Or.inr (Or.inr (Or.inr (Or.inr (⟨rfl, (by first | rfl | exact congrArg Value.bool q3.symm), n + nq, set_out (by simp) _ _ _ _ _⟩)))), by simp [intOf]⟩
    · go_wp2
      go_returns
      refine ⟨rfl, ?_⟩
      repeat' (first | (with_reducible exact Below.refl _ _) | (with_reducible refine K.drewN ?_ _) | (with_reducible refine K.drew ?_) | (with_reducible refine K.alloc ?_ _) | (with_reducible refine K.set ?_ ?_ _) | (simp; done) | (simp; omega))
end Go.Proofs.YtolehamdaceikaaDoor
namespace Go.Proofs.YtolehamdaceikaaDoor
open Go.RowKit
attribute [local go_sem ↓] Go.wp_at_zero Go.wp_at_succ

def db (a b : Int) (k : Nat) : Bool := D a b k == 1
theorem db_zero (a b : Int) : db a b 0 = false := by unfold db; rw [D_zero]; rfl
theorem db_f {a b : Int} {k : Nat} (h : db a b k = false) : D a b k = 0 := by
  have c1 := D_lo a b k
  have c2 := D_hi a b k
  unfold db at h; simp at h; omega
theorem db_t {a b : Int} {k : Nat} (h : db a b k = true) : D a b k = 1 := by unfold db at h; simpa using h
theorem ref_sub_0 (a b : Int) (k : Nat) (h : db a b k = false) : IntKind.u64.wrap (L k a - L k b) = L k (a - b) := by
  have e := sub_word a b k
  rw [db_f h, Int.sub_zero] at e
  rw [IntKind.wrap_u64, e]
theorem ref_sub_1 (a b : Int) (k : Nat) (h : db a b k = true) : IntKind.u64.wrap (IntKind.u64.wrap (L k a - L k b) - 1) = L k (a - b) := by
  have e := sub_word a b k
  rw [db_t h] at e
  rw [IntKind.wrap_u64, IntKind.wrap_u64, ← e]
  omega
theorem ref_sub_o0 (a b : Int) (k : Nat) (h : db a b k = false) : decide (L k a < L k b) = db a b (k + 1) := by
  have f := sub_carry a b k
  rw [db_f h, Int.add_zero] at f
  unfold db
  rw [← f, Bool.eq_iff_iff]
  simp only [decide_eq_true_eq, beq_iff_eq]
  split <;> omega
theorem ref_sub_o1 (a b : Int) (k : Nat) (h : db a b k = true) : (decide (L k a < L k b) || (IntKind.u64.wrap (L k a - L k b) == 0)) = db a b (k + 1) := by
  have f := sub_carry a b k
  have a1 := L_lo k a
  have a2 := L_hi k a
  have b1 := L_lo k b
  have b2 := L_hi k b
  rw [db_t h] at f
  unfold db
  rw [← f, IntKind.wrap_u64, Bool.eq_iff_iff]
  simp only [decide_eq_true_eq, beq_iff_eq, Bool.or_eq_true]
  split <;> omega

set_option maxHeartbeats 1000000 in
theorem ref_sub_walk (a b : Int) (w : World) :
    Calls Tryd.prog 48 #[.agg #[.int .u64 (L 0 a), .int .u64 (L 1 a), .int .u64 (L 2 a), .int .u64 (L 3 a)], .agg #[.int .u64 (L 0 b), .int .u64 (L 1 b), .int .u64 (L 2 b), .int .u64 (L 3 b)]] w fun e w' =>
      e = .returned (.tuple #[.agg #[.int .u64 (L 0 (a - b)), .int .u64 (L 1 (a - b)), .int .u64 (L 2 (a - b)), .int .u64 (L 3 (a - b))], .bool (db a b 4)]) ∧ Below w.heap.size w w' := by
  go_enter Tryd.func48, Tryd.ntmps48
  go_wp2
  go_loopw [7, 8] (fun s7 s8 w' => (s8 = .int .i64 0 ∧ s7 = .bool false ∧ ∃ n, w' = ((((w.alloc (.cells #[.int .u64 (L 0 a), .int .u64 (L 1 a), .int .u64 (L 2 a), .int .u64 (L 3 a)] 24)).alloc (.cells #[.int .u64 (L 0 b), .int .u64 (L 1 b), .int .u64 (L 2 b), .int .u64 (L 3 b)] 24)).alloc (.cells #[.int .u64 0, .int .u64 0, .int .u64 0, .int .u64 0] 24)).alloc (.cells #[.int .u64 0, .int .u64 0, .int .u64 0, .int .u64 0] 24)).drewN n) ∨ (s8 = .int .i64 1 ∧ s7 = .bool (db a b 1) ∧ ∃ n, w' = ((((w.alloc (.cells #[.int .u64 (L 0 a), .int .u64 (L 1 a), .int .u64 (L 2 a), .int .u64 (L 3 a)] 24)).alloc (.cells #[.int .u64 (L 0 b), .int .u64 (L 1 b), .int .u64 (L 2 b), .int .u64 (L 3 b)] 24)).alloc (.cells #[.int .u64 0, .int .u64 0, .int .u64 0, .int .u64 0] 24)).alloc (.cells #[.int .u64 (L 0 (a - b)), .int .u64 0, .int .u64 0, .int .u64 0] 24)).drewN n) ∨ (s8 = .int .i64 2 ∧ s7 = .bool (db a b 2) ∧ ∃ n, w' = ((((w.alloc (.cells #[.int .u64 (L 0 a), .int .u64 (L 1 a), .int .u64 (L 2 a), .int .u64 (L 3 a)] 24)).alloc (.cells #[.int .u64 (L 0 b), .int .u64 (L 1 b), .int .u64 (L 2 b), .int .u64 (L 3 b)] 24)).alloc (.cells #[.int .u64 0, .int .u64 0, .int .u64 0, .int .u64 0] 24)).alloc (.cells #[.int .u64 (L 0 (a - b)), .int .u64 (L 1 (a - b)), .int .u64 0, .int .u64 0] 24)).drewN n) ∨ (s8 = .int .i64 3 ∧ s7 = .bool (db a b 3) ∧ ∃ n, w' = ((((w.alloc (.cells #[.int .u64 (L 0 a), .int .u64 (L 1 a), .int .u64 (L 2 a), .int .u64 (L 3 a)] 24)).alloc (.cells #[.int .u64 (L 0 b), .int .u64 (L 1 b), .int .u64 (L 2 b), .int .u64 (L 3 b)] 24)).alloc (.cells #[.int .u64 0, .int .u64 0, .int .u64 0, .int .u64 0] 24)).alloc (.cells #[.int .u64 (L 0 (a - b)), .int .u64 (L 1 (a - b)), .int .u64 (L 2 (a - b)), .int .u64 0] 24)).drewN n) ∨ (s8 = .int .i64 4 ∧ s7 = .bool (db a b 4) ∧ ∃ n, w' = ((((w.alloc (.cells #[.int .u64 (L 0 a), .int .u64 (L 1 a), .int .u64 (L 2 a), .int .u64 (L 3 a)] 24)).alloc (.cells #[.int .u64 (L 0 b), .int .u64 (L 1 b), .int .u64 (L 2 b), .int .u64 (L 3 b)] 24)).alloc (.cells #[.int .u64 0, .int .u64 0, .int .u64 0, .int .u64 0] 24)).alloc (.cells #[.int .u64 (L 0 (a - b)), .int .u64 (L 1 (a - b)), .int .u64 (L 2 (a - b)), .int .u64 (L 3 (a - b))] 24)).drewN n)) (fun _ s8 _ => 4 - (intOf s8).toNat)
  case atStart => exact Or.inl ⟨rfl, rfl, 0, rfl⟩
  case round =>
    rcases hrel with ⟨rfl, rfl, n, rfl⟩ | ⟨rfl, rfl, n, rfl⟩ | ⟨rfl, rfl, n, rfl⟩ | ⟨rfl, rfl, n, rfl⟩ | ⟨rfl, rfl, n, rfl⟩
    · have q1 := ref_sub_0 a b 0 (db_zero a b)
      have q2 : decide (L 0 a < L 0 b) = db a b 1 := ref_sub_o0 a b 0 (db_zero a b)
      go_wp2
      go_quiet (fail)
      go_wp2
      go_quiet (fail)
      go_wp2
      exact ⟨Or.inr (Or.inl ⟨rfl, (by first | rfl | exact congrArg Value.bool q3.symm), _, set_out (by simp) _ _ _ _ _⟩), by simp [intOf]⟩
    · cases hcb : db a b 1
      · have q1 := ref_sub_0 a b 1 hcb
        have q2 : decide (L 1 a < L 1 b) = db a b 2 := ref_sub_o0 a b 1 hcb
        go_wp2
        go_quiet (fail)
        go_wp2
        go_quiet (fail)
        go_wp2
        exact ⟨Or.inr (Or.inr (Or.inl ⟨rfl, (by first | rfl | exact congrArg Value.bool q3.symm), _, set_out (by simp) _ _ _ _ _⟩)), by simp [intOf]⟩
      · have q1 := ref_sub_1 a b 1 hcb
        have q2 := ref_sub_o1 a b 1 hcb
        by_cases o : L 1 a < L 1 b
        · have q3 : db a b 2 = true := by rw [← q2]; simp [o]
          clear q2
          go_wp2
          go_quiet (fail)
          go_wp2
          go_quiet (fail)
          go_wp2
          exact ⟨Or.inr (Or.inr (Or.inl ⟨rfl, (by first | rfl | exact congrArg Value.bool q3.symm), _, set_out (by simp) _ _ _ _ _⟩)), by simp [intOf]⟩
        · have o2 : decide (L 1 a < L 1 b) = false := by simpa using o
          have q3 : (IntKind.u64.wrap (L 1 a - L 1 b) == 0) = db a b 2 := by rw [o2, Bool.false_or] at q2; exact q2
          clear q2
          go_wp2
          go_quiet (fail)
          go_wp2
          go_quiet (fail)
          go_wp2
          exact ⟨Or.inr (Or.inr (Or.inl ⟨rfl, (by first | rfl | exact congrArg Value.bool q3.symm), _, set_out (by simp) _ _ _ _ _⟩)), by simp [intOf]⟩
    · cases hcb : db a b 2
      · have q1 := ref_sub_0 a b 2 hcb
        have q2 : decide (L 2 a < L 2 b) = db a b 3 := ref_sub_o0 a b 2 hcb
        go_wp2
        go_quiet (fail)
        go_wp2
        go_quiet (fail)
        go_wp2
        exact ⟨Or.inr (Or.inr (Or.inr (Or.inl ⟨rfl, (by first | rfl | exact congrArg Value.bool q3.symm), _, set_out (by simp) _ _ _ _ _⟩))), by simp [intOf]⟩
      · have q1 := ref_sub_1 a b 2 hcb
        have q2 := ref_sub_o1 a b 2 hcb
        by_cases o : L 2 a < L 2 b
        · have q3 : db a b 3 = true := by rw [← q2]; simp [o]
          clear q2
          go_wp2
          go_quiet (fail)
          go_wp2
          go_quiet (fail)
          go_wp2
          exact ⟨Or.inr (Or.inr (Or.inr (Or.inl ⟨rfl, (by first | rfl | exact congrArg Value.bool q3.symm), _, set_out (by simp) _ _ _ _ _⟩))), by simp [intOf]⟩
        · have o2 : decide (L 2 a < L 2 b) = false := by simpa using o
          have q3 : (IntKind.u64.wrap (L 2 a - L 2 b) == 0) = db a b 3 := by rw [o2, Bool.false_or] at q2; exact q2
          clear q2
          go_wp2
          go_quiet (fail)
          go_wp2
          go_quiet (fail)
          go_wp2
          exact ⟨Or.inr (Or.inr (Or.inr (Or.inl ⟨rfl, (by first | rfl | exact congrArg Value.bool q3.symm), _, set_out (by simp) _ _ _ _ _⟩))), by simp [intOf]⟩
    · cases hcb : db a b 3
      · have q1 := ref_sub_0 a b 3 hcb
        have q2 : decide (L 3 a < L 3 b) = db a b 4 := ref_sub_o0 a b 3 hcb
        go_wp2
        go_quiet (fail)
        go_wp2
        go_quiet (fail)
        go_wp2
        exact ⟨Or.inr (Or.inr (Or.inr (Or.inr (⟨rfl, (by first | rfl | exact congrArg Value.bool q3.symm), _, set_out (by simp) _ _ _ _ _⟩)))), by simp [intOf]⟩
      · have q1 := ref_sub_1 a b 3 hcb
        have q2 := ref_sub_o1 a b 3 hcb
        by_cases o : L 3 a < L 3 b
        · have q3 : db a b 4 = true := by rw [← q2]; simp [o]
          clear q2
          go_wp2
          go_quiet (fail)
          go_wp2
          go_quiet (fail)
          go_wp2
          exact ⟨Or.inr (Or.inr (Or.inr (Or.inr (⟨rfl, (by first | rfl | exact congrArg Value.bool q3.symm), _, set_out (by simp) _ _ _ _ _⟩)))), by simp [intOf]⟩
        · have o2 : decide (L 3 a < L 3 b) = false := by simpa using o
          have q3 : (IntKind.u64.wrap (L 3 a - L 3 b) == 0) = db a b 4 := by rw [o2, Bool.false_or] at q2; exact q2
          clear q2
          go_wp2
          go_quiet (fail)
          go_wp2
          go_quiet (fail)
          go_wp2
          exact ⟨Or.inr (Or.inr (Or.inr (Or.inr (⟨rfl, (by first | rfl | exact congrArg Value.bool q3.symm), _, set_out (by simp) _ _ _ _ _⟩)))), by simp [intOf]⟩
    · go_wp2
      go_returns
      refine ⟨rfl, ?_⟩
      repeat' (first | (with_reducible exact Below.refl _ _) | (with_reducible refine K.drewN ?_ _) | (with_reducible refine K.drew ?_) | (with_reducible refine K.alloc ?_ _) | (with_reducible refine K.set ?_ ?_ _) | (simp; done) | (simp; omega))

theorem ref_add_any {a b : Int} (ha : Num a) (hb : Num b) (w : World) :
    Calls Tryd.prog 18 #[.agg #[.int .u64 (L 0 a), .int .u64 (L 1 a), .int .u64 (L 2 a), .int .u64 (L 3 a)], .agg #[.int .u64 (L 0 b), .int .u64 (L 1 b), .int .u64 (L 2 b), .int .u64 (L 3 b)]] w fun e w' =>
      e = .returned (.tuple #[.agg #[.int .u64 (L 0 (a + b)), .int .u64 (L 1 (a + b)), .int .u64 (L 2 (a + b)), .int .u64 (L 3 (a + b))], .bool (over a b)]) ∧ Below w.heap.size w w' := by
  rw [← C_four ha hb]; exact ref_add_walk a b w
theorem ref_sub_any {a b : Int} (ha : Num a) (hb : Num b) (w : World) :
    Calls Tryd.prog 48 #[.agg #[.int .u64 (L 0 a), .int .u64 (L 1 a), .int .u64 (L 2 a), .int .u64 (L 3 a)], .agg #[.int .u64 (L 0 b), .int .u64 (L 1 b), .int .u64 (L 2 b), .int .u64 (L 3 b)]] w fun e w' =>
      e = .returned (.tuple #[.agg #[.int .u64 (L 0 (a - b)), .int .u64 (L 1 (a - b)), .int .u64 (L 2 (a - b)), .int .u64 (L 3 (a - b))], .bool (under a b)]) ∧ Below w.heap.size w w' := by
  rw [← D_four ha hb]; exact ref_sub_walk a b w
end Go.Proofs.YtolehamdaceikaaDoor
namespace Go.Proofs.YtolehamdaceikaaDoor
open Go.RowKit
attribute [local go_sem ↓] Go.wp_at_zero Go.wp_at_succ

set_option maxHeartbeats 4000000 in
theorem ref_plus_any {m a b : Int} (hm : Num m) (ha : 0 ≤ a) (ha2 : a < m) (hb : 0 ≤ b) (hb2 : b < m) (w : World) :
    Calls Tryd.prog 49 #[.agg #[.int .u64 (L 0 m), .int .u64 (L 1 m), .int .u64 (L 2 m), .int .u64 (L 3 m)], .agg #[.int .u64 (L 0 a), .int .u64 (L 1 a), .int .u64 (L 2 a), .int .u64 (L 3 a)], .agg #[.int .u64 (L 0 b), .int .u64 (L 1 b), .int .u64 (L 2 b), .int .u64 (L 3 b)]] w fun e w' => e = .returned (.agg #[.int .u64 (L 0 ((a + b) % m)), .int .u64 (L 1 ((a + b) % m)), .int .u64 (L 2 ((a + b) % m)), .int .u64 (L 3 ((a + b) % m))]) ∧ Below w.heap.size w w' := by
  have na : Num a := ⟨ha, by have := hm.hi; omega⟩
  have nb : Num b := ⟨hb, by have := hm.hi; omega⟩
  have hmh := hm.hi
  by_cases o : M ≤ a + b
  · have ho : over a b = true := by unfold over; simpa using o
    have hr : (a + b) % m = a + b - m := mod_once (by omega) (by omega)
    rw [hr]
    clear hr o hmh
    go_enter Tryd.func49, Tryd.ntmps49
    go_wp2_with fail
    with_reducible refine Calls.mono (ref_add_any na nb _) ?_
    rw [ho]
    rintro e w1 ⟨rfl, hb1⟩
    have A1 := (((Arr.new w (w.heap.size) rfl 24 (L 0 m) (L 1 m) (L 2 m) (L 3 m)).alloc _).alloc _).alloc _ |>.keep hb1
    have R1 := (ArrW.new _ (w.heap.size + 1 + 1 + 1) (by simp) 24 0 0 0 0).keep hb1
    have hw1 : Below w.heap.size w w1 := K.call (K.alloc (K.alloc (K.alloc (K.alloc (Below.refl _ w) _) _) _) _) hb1
    clear hb1
    have ⟨ka, ka0, ka1, ka2, ka3⟩ := A1
    have ⟨kr, kr0, kr1, kr2, kr3, kf0, kf1, kf2, kf3⟩ := R1
    go_wp2_with fail
    with_reducible refine Calls.mono (ref_sub_walk (a + b) m _) ?_
    clear ka ka0 ka1 ka2 ka3 kr kr0 kr1 kr2 kr3 kf0 kf1 kf2 kf3
    rintro e w3 ⟨rfl, hb3⟩
    have hw3 : Below w.heap.size w w3 := K.call (K.alloc hw1 _) hb3
    have ⟨kr, kr0, kr1, kr2, kr3, kf0, kf1, kf2, kf3⟩ := (R1.alloc _).keep hb3
    clear hb3
    go_wp2_with fail
    exact bodyPost_ret (v := .agg #[.int .u64 (L 0 (a + b - m)), .int .u64 (L 1 (a + b - m)), .int .u64 (L 2 (a + b - m)), .int .u64 (L 3 (a + b - m))]) (by simp [results, Tryd.results49, go_sem, kr, kr0, kr1, kr2, kr3]) rfl ⟨rfl, K.alloc (K.set4 hw3 (by omega) _ _ _ _) _⟩
  · have ho : over a b = false := by unfold over; simpa using o
    have ns : Num (a + b) := ⟨by omega, by omega⟩
    by_cases l : a + b < m
    · have hr : (a + b) % m = a + b := mod_low (by omega) l
      rw [hr]
      clear hr o hmh
      go_enter Tryd.func49, Tryd.ntmps49
      go_wp2_with fail
      with_reducible refine Calls.mono (ref_add_any na nb _) ?_
      rw [ho]
      rintro e w1 ⟨rfl, hb1⟩
      have A1 := (((Arr.new w (w.heap.size) rfl 24 (L 0 m) (L 1 m) (L 2 m) (L 3 m)).alloc _).alloc _).alloc _ |>.keep hb1
      have R1 := (ArrW.new _ (w.heap.size + 1 + 1 + 1) (by simp) 24 0 0 0 0).keep hb1
      have hw1 : Below w.heap.size w w1 := K.call (K.alloc (K.alloc (K.alloc (K.alloc (Below.refl _ w) _) _) _) _) hb1
      clear hb1
      have ⟨ka, ka0, ka1, ka2, ka3⟩ := A1
      have ⟨kr, kr0, kr1, kr2, kr3, kf0, kf1, kf2, kf3⟩ := R1
      go_wp2_with fail
      with_reducible refine Calls.mono (less_true ns hm (by omega) _) ?_
      clear ka ka0 ka1 ka2 ka3 kr kr0 kr1 kr2 kr3 kf0 kf1 kf2 kf3
      rintro e w2 ⟨rfl, hb2⟩
      have A2 := (A1.alloc _).keep hb2
      have R2 := (R1.alloc _).keep hb2
      have S2 := (Arr.new w1 w1.heap.size rfl 24 (L 0 (a + b)) (L 1 (a + b)) (L 2 (a + b)) (L 3 (a + b))).keep hb2
      have hw2 : Below w.heap.size w w2 := K.call (K.alloc hw1 _) hb2
      clear A1 R1 hb2 hw1
      have ⟨ka, ka0, ka1, ka2, ka3⟩ := A2
      have ⟨ks, ks0, ks1, ks2, ks3⟩ := S2
      have ⟨kr, kr0, kr1, kr2, kr3, kf0, kf1, kf2, kf3⟩ := R2
      go_wp2_with fail
      exact bodyPost_ret (v := .agg #[.int .u64 (L 0 (a + b)), .int .u64 (L 1 (a + b)), .int .u64 (L 2 (a + b)), .int .u64 (L 3 (a + b))]) (by simp [results, Tryd.results49, go_sem, kr0, kr1, kr2, kr3]) rfl ⟨rfl, K.set4 hw2 (by omega) _ _ _ _⟩
    · have hr : (a + b) % m = a + b - m := mod_once (by omega) (by omega)
      rw [hr]
      clear hr o hmh
      go_enter Tryd.func49, Tryd.ntmps49
      go_wp2_with fail
      with_reducible refine Calls.mono (ref_add_any na nb _) ?_
      rw [ho]
      rintro e w1 ⟨rfl, hb1⟩
      have A1 := (((Arr.new w (w.heap.size) rfl 24 (L 0 m) (L 1 m) (L 2 m) (L 3 m)).alloc _).alloc _).alloc _ |>.keep hb1
      have R1 := (ArrW.new _ (w.heap.size + 1 + 1 + 1) (by simp) 24 0 0 0 0).keep hb1
      have hw1 : Below w.heap.size w w1 := K.call (K.alloc (K.alloc (K.alloc (K.alloc (Below.refl _ w) _) _) _) _) hb1
      clear hb1
      have ⟨ka, ka0, ka1, ka2, ka3⟩ := A1
      have ⟨kr, kr0, kr1, kr2, kr3, kf0, kf1, kf2, kf3⟩ := R1
      go_wp2_with fail
      with_reducible refine Calls.mono (less_false ns hm (by omega) _) ?_
      clear ka ka0 ka1 ka2 ka3 kr kr0 kr1 kr2 kr3 kf0 kf1 kf2 kf3
      rintro e w2 ⟨rfl, hb2⟩
      have A2 := (A1.alloc _).keep hb2
      have R2 := (R1.alloc _).keep hb2
      have S2 := (Arr.new w1 w1.heap.size rfl 24 (L 0 (a + b)) (L 1 (a + b)) (L 2 (a + b)) (L 3 (a + b))).keep hb2
      have hw2 : Below w.heap.size w w2 := K.call (K.alloc hw1 _) hb2
      clear A1 R1 hb2 hw1
      have ⟨ka, ka0, ka1, ka2, ka3⟩ := A2
      have ⟨ks, ks0, ks1, ks2, ks3⟩ := S2
      have ⟨kr, kr0, kr1, kr2, kr3, kf0, kf1, kf2, kf3⟩ := R2
      go_wp2_with fail
      with_reducible refine Calls.mono (ref_sub_walk (a + b) m _) ?_
      clear ka ka0 ka1 ka2 ka3 kr kr0 kr1 kr2 kr3 kf0 kf1 kf2 kf3 ks ks0 ks1 ks2 ks3
      rintro e w3 ⟨rfl, hb3⟩
      have hw3 : Below w.heap.size w w3 := K.call hw2 hb3
      have ⟨kr, kr0, kr1, kr2, kr3, kf0, kf1, kf2, kf3⟩ := R2.keep hb3
      clear hb3
      go_wp2_with fail
      exact bodyPost_ret (v := .agg #[.int .u64 (L 0 (a + b - m)), .int .u64 (L 1 (a + b - m)), .int .u64 (L 2 (a + b - m)), .int .u64 (L 3 (a + b - m))]) (by simp [results, Tryd.results49, go_sem, kr, kr0, kr1, kr2, kr3]) rfl ⟨rfl, K.alloc (K.set4 hw3 (by omega) _ _ _ _) _⟩
end Go.Proofs.YtolehamdaceikaaDoor
namespace Go.Proofs.YtolehamdaceikaaDoor
open Go.RowKit
attribute [local go_sem ↓] Go.wp_at_zero Go.wp_at_succ
attribute [local go_sem] eq4

/-- What the loop keeps: the number, the place of the answer, the modulus. -/
structure FoldS (w wr : World) (n : Nat) (x m : Int) : Prop where
  below : Below w.heap.size w wr
  X : ArrW wr (w.heap.size) (L 0 x) (L 1 x) (L 2 x) (L 3 x)
  R : ArrW wr (w.heap.size + 1) 0 0 0 0
  D : Arr wr n (L 0 m) (L 1 m) (L 2 m) (L 3 m)
theorem FoldS.call {w wr w1 : World} {n : Nat} {x m : Int} (h : FoldS w wr n x m) (hk : Below wr.heap.size wr w1) : FoldS w w1 n x m :=
  ⟨K.call h.below hk, h.X.keep hk, h.R.keep hk, h.D.keep hk⟩
theorem FoldS.alloc {w wr : World} {n : Nat} {x m : Int} (h : FoldS w wr n x m) (o : Obj) : FoldS w (wr.alloc o) n x m :=
  ⟨K.alloc h.below o, h.X.alloc o, h.R.alloc o, h.D.alloc o⟩
theorem FoldS.store {w wr : World} {n : Nat} {x m : Int} (h : FoldS w wr n x m) (hn : w.heap.size + 1 < n) (y : Int) : FoldS w ((((wr.setCell ⟨w.heap.size, 0, none⟩ (.int .u64 (L 0 y))).setCell ⟨w.heap.size, 1, none⟩ (.int .u64 (L 1 y))).setCell ⟨w.heap.size, 2, none⟩ (.int .u64 (L 2 y))).setCell ⟨w.heap.size, 3, none⟩ (.int .u64 (L 3 y))) n y m :=
  ⟨K.set4 h.below (Nat.le_refl _) _ _ _ _, h.X.stored _ _ _ _, h.R.set4 (by omega) _ _ _ _, h.D.set4 (by omega) _ _ _ _⟩

set_option maxHeartbeats 4000000 in
theorem ref_fold_any {k a : Int} (ha : Num a) (hm : 0 < md k) (hl : (L 0 (md k) == 0) = false) (w : World) :
    Calls Tryd.prog 21 #[.int .i64 k, .agg #[.int .u64 (L 0 a), .int .u64 (L 1 a), .int .u64 (L 2 a), .int .u64 (L 3 a)]] w fun e w' => e = .returned (.agg #[.int .u64 (L 0 (a % md k)), .int .u64 (L 1 (a % md k)), .int .u64 (L 2 (a % md k)), .int .u64 (L 3 (a % md k))]) ∧ Below w.heap.size w w' := by
  have nm := md_num k
  go_enter Tryd.func21, Tryd.ntmps21
  go_wp2_with fail
  with_reducible refine Calls.mono (ref_mod_any k _) ?_
  rintro e w1 ⟨rfl, hb1⟩
  have A1 := ((ArrW.new w (w.heap.size) rfl 24 (L 0 a) (L 1 a) (L 2 a) (L 3 a)).alloc _).keep hb1
  have R1 := (ArrW.new _ (w.heap.size + 1) (by simp) 24 0 0 0 0).keep hb1
  have hw1 : Below w.heap.size w w1 := K.call (K.alloc (K.alloc (Below.refl _ w) _) _) hb1
  have hS1 : FoldS w (w1.alloc (.cells #[.int .u64 (L 0 (md k)), .int .u64 (L 1 (md k)), .int .u64 (L 2 (md k)), .int .u64 (L 3 (md k))] 24)) w1.heap.size a (md k) := ⟨K.alloc hw1 _, A1.alloc _, R1.alloc _, Arr.new w1 w1.heap.size rfl 24 _ _ _ _⟩
  have hn : w.heap.size + 1 < w1.heap.size := R1.lt
  clear A1 R1 hw1 hb1
  generalize hmd : md k = m at *
  have HM : Hid (md k = m) := hmd
  clear hmd
  go_wp2_with fail
  go_loopg [] a.toNat (fun g wr => ∃ x : Int, g = x.toNat ∧ Num x ∧ x % m = a % m ∧ FoldS w wr w1.heap.size x m)
  case atStart => exact ⟨a, rfl, ha, rfl, hS1⟩
  case round =>
    obtain ⟨x, hg, nx, hxm, hS⟩ := hrel
    have HG : Hid (gk = x.toNat) := hg
    have HX : Hid (x % m = a % m) := hxm
    clear hg hxm hS1
    have hS0 := hS
    obtain ⟨hbw, ⟨xl, x0, x1, x2, x3, xf0, xf1, xf2, xf3⟩, ⟨rl, r0, r1, r2, r3, rf0, rf1, rf2, rf3⟩, ⟨ml, m0, m1, m2, m3⟩⟩ := hS0
    by_cases hlt : x < m
    · have HE : Hid (x = a % m) := by rw [← HX.out]; exact (Int.emod_eq_of_lt nx.lo hlt).symm
      go_wp2_with fail
      with_reducible refine Calls.mono (less_true nx nm (by omega) _) ?_
      clear hbw xl x0 x1 x2 x3 xf0 xf1 xf2 xf3 rl r0 r1 r2 r3 rf0 rf1 rf2 rf3 ml m0 m1 m2 m3
      rintro e w2 ⟨rfl, hb2⟩
      have hS2 := hS.call hb2
      clear hS hb2
      have hS0 := hS2
      obtain ⟨hbw, ⟨xl, x0, x1, x2, x3, xf0, xf1, xf2, xf3⟩, ⟨rl, r0, r1, r2, r3, rf0, rf1, rf2, rf3⟩, ⟨ml, m0, m1, m2, m3⟩⟩ := hS0
      go_wp2_with fail
      refine bodyPost_ret (v := .agg #[.int .u64 (L 0 x), .int .u64 (L 1 x), .int .u64 (L 2 x), .int .u64 (L 3 x)]) (by simp [results, Tryd.results21, go_sem, r0, r1, r2, r3]) rfl ⟨?_, K.set4 hS2.below (by omega) _ _ _ _⟩
      rw [HM.out, ← HE.out]
    · go_wp2_with fail
      with_reducible refine Calls.mono (less_false nx nm (by omega) _) ?_
      clear hbw xl x0 x1 x2 x3 xf0 xf1 xf2 xf3 rl r0 r1 r2 r3 rf0 rf1 rf2 rf3 ml m0 m1 m2 m3
      rintro e w2 ⟨rfl, hb2⟩
      have hS2 := hS.call hb2
      clear hS hb2
      have hS0 := hS2
      obtain ⟨hbw, ⟨xl, x0, x1, x2, x3, xf0, xf1, xf2, xf3⟩, ⟨rl, r0, r1, r2, r3, rf0, rf1, rf2, rf3⟩, ⟨ml, m0, m1, m2, m3⟩⟩ := hS0
      go_wp2_with fail
      with_reducible refine Calls.mono (ref_sub_walk x m _) ?_
      clear hbw xl x0 x1 x2 x3 xf0 xf1 xf2 xf3 rl r0 r1 r2 r3 rf0 rf1 rf2 rf3 ml m0 m1 m2 m3
      rintro e w3 ⟨rfl, hb3⟩
      have hS3 := hS2.call hb3
      clear hS2 hb3
      have hS0 := hS3
      obtain ⟨hbw, ⟨xl, x0, x1, x2, x3, xf0, xf1, xf2, xf3⟩, ⟨rl, r0, r1, r2, r3, rf0, rf1, rf2, rf3⟩, ⟨ml, m0, m1, m2, m3⟩⟩ := hS0
      go_wp2_with fail
      go_roundg (x - m).toNat
      case measure => rw [HG.out]; have := nx.lo; omega
      case rel => exact ⟨x - m, rfl, ⟨by omega, by have := nx.hi; omega⟩, by rw [Int.sub_emod_right]; exact HX.out, (hS3.store hn (x - m)).alloc _⟩
end Go.Proofs.YtolehamdaceikaaDoor
namespace Go.Proofs.YtolehamdaceikaaDoor
open Go.RowKit

theorem md_mod3 : md 3 = (mod3 : Int) := by kernel_rfl
theorem nat_num {k : Nat} (h : k < 2 ^ 256) : Num (k : Int) := ⟨by omega, by unfold M; omega⟩
theorem h_md (w : World) : Calls Tryd.prog 20 [.int .i64 3].toArray w fun e w' => e = .returned (.agg (nc (mod3 : Int)).toArray) ∧ Below w.heap.size w w' := by
  rw [← md_mod3]
  exact ref_mod_any 3 w
theorem h_fold {k : Nat} (hk : k < 2 ^ 256) (w : World) : Calls Tryd.prog 21 [.int .i64 3, .agg (nc (k : Int)).toArray].toArray w fun e w' => e = .returned (.agg (nc ((k % mod3 : Nat) : Int)).toArray) ∧ Below w.heap.size w w' := by
  rw [Int.natCast_emod, ← md_mod3]
  exact ref_fold_any (k := 3) (nat_num hk) (by rw [md_mod3]; decide +kernel) (by kernel_rfl) w
theorem nc_wrap (a : Int) : nc (a - M) = nc a := by
  unfold nc
  have h : ∀ k, k < 4 → L k (a - M) = L k a := fun k hk => by
    unfold L M B
    rcases (show k = 0 ∨ k = 1 ∨ k = 2 ∨ k = 3 by omega) with rfl | rfl | rfl | rfl <;> omega
  rw [h 0 (by omega), h 1 (by omega), h 2 (by omega), h 3 (by omega)]
theorem h_add_less {k1 k2 : Nat} (h1 : k1 < 2 ^ 256) (h2 : k2 < 2 ^ 256) (h : k1 + k2 < 2 ^ 256) (w : World) : Calls Tryd.prog 18 [.agg (nc (k1 : Int)).toArray, .agg (nc (k2 : Int)).toArray].toArray w fun e w' => e = .returned (.tuple [.agg (nc ((k1 + k2 : Nat) : Int)).toArray, .bool false].toArray) ∧ Below w.heap.size w w' := by
  have g := ref_add_any (nat_num h1) (nat_num h2) w
  have e : over (k1 : Int) (k2 : Int) = false := decide_eq_false (by unfold M; omega)
  rw [e] at g
  rw [Int.natCast_add]
  exact g
theorem h_add_over {k1 k2 : Nat} (h1 : k1 < 2 ^ 256) (h2 : k2 < 2 ^ 256) (h : 2 ^ 256 ≤ k1 + k2) (w : World) : Calls Tryd.prog 18 [.agg (nc (k1 : Int)).toArray, .agg (nc (k2 : Int)).toArray].toArray w fun e w' => e = .returned (.tuple [.agg (nc ((k1 + k2 - 2 ^ 256 : Nat) : Int)).toArray, .bool true].toArray) ∧ Below w.heap.size w w' := by
  have g := ref_add_any (nat_num h1) (nat_num h2) w
  have e : over (k1 : Int) (k2 : Int) = true := decide_eq_true (by unfold M; omega)
  rw [e] at g
  rw [show ((k1 + k2 - 2 ^ 256 : Nat) : Int) = (k1 : Int) + k2 - M by unfold M; omega, nc_wrap]
  exact g
theorem f_lt (y : Fin m2) : (y.val : Int) < md 2 := of_decide_eq_true (gin_lt y)
theorem s_md (w : World) : Calls Tryd.prog 20 [.int .i64 2].toArray w fun e w' => e = .returned (.agg (nc (md 2)).toArray) ∧ Below w.heap.size w w' := ref_mod_any 2 w
theorem s_fold (y : Fin m2) (w : World) : Calls Tryd.prog 21 [.int .i64 2, .agg (gc y).toArray].toArray w fun e w' => e = .returned (.agg (gc y).toArray) ∧ Below w.heap.size w w' := by
  have h := ref_fold_any (k := 2) (gin_num y) (by rw [md_m2]; decide +kernel) (by kernel_rfl) w
  rw [Int.emod_eq_of_lt (by omega) (f_lt y)] at h
  exact h
theorem s_fold0 (w : World) : Calls Tryd.prog 21 [.int .i64 2, .agg nz.toArray].toArray w fun e w' => e = .returned (.agg (gc 0).toArray) ∧ Below w.heap.size w w' := by
  rw [nz_gc]
  exact s_fold 0 w
theorem s9_less {y : Fin m2} {t : Bool} (ht : decide (0 < y.val) = t) (w : World) : Calls Tryd.prog 47 [.agg (gc 0).toArray, .agg (gc y).toArray].toArray w fun e w' => e = .returned (.bool t) ∧ Below w.heap.size w w' := by
  have h := less_any (gin_num 0) (gin_num y) w
  have e : decide (((0 : Fin m2).val : Int) < (y.val : Int)) = t := by
    rw [← ht]
    have : (((0 : Fin m2).val : Int) < (y.val : Int)) = (0 < y.val) := by
      rw [show (0 : Fin m2).val = 0 from Fin.val_zero _]
      apply propext
      omega
    simp only [this]
  rw [e] at h
  exact h
theorem s9_sub0 (y : Fin m2) (w : World) : Calls Tryd.prog 48 [.agg (nc (md 2)).toArray, .agg (gc y).toArray].toArray w fun e w' => e = .returned (.tuple [.agg (nc (md 2 - (y.val : Int))).toArray, .bool false].toArray) ∧ Below w.heap.size w w' := by
  have h := ref_sub_any (a := md 2) (by rw [md_m2]; exact ⟨by omega, by unfold M m2 q2; omega⟩) (gin_num y) w
  have e : under (md 2) (y.val : Int) = false := decide_eq_false (by have := f_lt y; omega)
  rw [e] at h
  exact h
theorem s_subz (w : World) : Calls Tryd.prog 48 [.agg (gc 0).toArray, .agg (gc 0).toArray].toArray w fun e w' => e = .returned (.tuple [.agg (gc 0).toArray, .bool false].toArray) ∧ Below w.heap.size w w' := by
  have h := ref_sub_any (gin_num 0) (gin_num 0) w
  have e : under ((0 : Fin m2).val : Int) ((0 : Fin m2).val : Int) = false := decide_eq_false (by omega)
  have z : ((0 : Fin m2).val : Int) - ((0 : Fin m2).val : Int) = ((0 : Fin m2).val : Int) := by rw [show (0 : Fin m2).val = 0 from Fin.val_zero _]; rfl
  rw [e, z] at h
  exact h
theorem neg_nc {y : Fin m2} (hy : 0 < y.val) : gc (0 - y) = nc (md 2 - (y.val : Int)) := by
  rw [gc_sub]
  congr 1
  have h := f_lt y
  rw [show (0 : Fin m2).val = 0 from Fin.val_zero _, show ((0 : Nat) : Int) - (y.val : Int) = (md 2 - (y.val : Int)) - md 2 by omega, Int.sub_emod, Int.emod_self, Int.sub_zero, Int.emod_emod_of_dvd _ (Int.dvd_refl _), Int.emod_eq_of_lt (by omega) (by omega)]
theorem s9_plus {y : Fin m2} (hy : 0 < y.val) (w : World) : Calls Tryd.prog 49 [.agg (nc (md 2)).toArray, .agg (gc 0).toArray, .agg (nc (md 2 - (y.val : Int))).toArray].toArray w fun e w' => e = .returned (.agg (gc (0 - y)).toArray) ∧ Below w.heap.size w w' := by
  have h := ref_plus_any (m := md 2) (a := ((0 : Fin m2).val : Int)) (b := md 2 - (y.val : Int)) (by rw [md_m2]; exact ⟨by omega, by unfold M m2 q2; omega⟩) (by omega) (f_lt 0) (by have := f_lt y; omega) (by omega) w
  rw [neg_nc hy]
  rw [show ((0 : Fin m2).val : Int) + (md 2 - (y.val : Int)) = md 2 - (y.val : Int) by rw [show (0 : Fin m2).val = 0 from Fin.val_zero _]; omega, Int.emod_eq_of_lt (by have := f_lt y; omega) (by omega)] at h
  exact h
set_option maxRecDepth 100000 in
set_option maxHeartbeats 4000000 in
theorem h_sub_pos {w : World} {y : Fin m2} (hy : 0 < y.val) : Calls Tryd.prog 19 [Value.int .i64 2, .agg (nz).toArray, .agg (gc (y)).toArray].toArray w fun e w' => e = .returned (.agg (gc (0 - y)).toArray) ∧ Below w.heap.size w w' := by
  refine enter (args := [Value.int .i64 2, .agg (nz).toArray, .agg (gc (y)).toArray]) Tryd.func19 rfl 41 rfl (lk rfl) (fun a h => ?_)
  refine go_region h hm [eN 4 (nz), eN 5 (gc (y)), eN 6 (nz)] (by kernel_rfl) ⟨
    fun L u => u_box u (gd0 rfl) 24 (.tmp 1) rfl 4 rfl rfl rfl _ rfl,
    fun L u => u_box u (gd0 rfl) 24 (.tmp 2) rfl 5 rfl rfl rfl _ rfl,
    fun L u => u_alloc u (gd0 rfl) 24 rfl 6 rfl rfl z24 _ rfl,
    trivial⟩ [(0, .val (Value.int .i64 2)), (4, .ptr 4 0), (5, .ptr 5 0), (6, .ptr 6 0)] [(4, nz), (5, gc (y)), (6, nz)] ⟨rfl, rfl, rfl, rfl, trivial⟩ ⟨rfl, rfl, rfl, trivial⟩ rfl (fun a w h => ?_)
  refine go_region h hm [eS 13 (.val (Value.int .i64 2)), eS 14 (.val (.agg (nz).toArray)), eS 15 (.val (.agg (gc (0)).toArray)), eS 16 (.val (Value.int .i64 2)), eS 17 (.val (.agg (gc (y)).toArray)), eS 18 (.val (.agg (gc (y)).toArray)), eN 7 (nz), eN 8 (nz), eM 7 (gc (0)), eM 8 (gc (y))] (by kernel_rfl) ⟨
    fun L u => u_move u (gd0 rfl) 13 rfl (.tmp 0) (Or.inl rfl) rfl,
    fun L u => u_load u (gd0 rfl) 14 rfl 24 (.tmp 4) rfl rfl rfl Tryd.underlying24 rfl i24 (lk rfl) _ rfl,
    fun L u => u_call u (gd0 rfl) 15 rfl 21 #[(.tmp 13), (.tmp 14)] #[3, 24] rfl [Value.int .i64 2, .agg (nz).toArray] rfl (cE21 _) (.agg (gc (0)).toArray) (fun w hb => s_fold0 w),
    fun L u => u_move u (gd0 rfl) 16 rfl (.tmp 0) (Or.inl rfl) rfl,
    fun L u => u_load u (gd0 rfl) 17 rfl 24 (.tmp 5) rfl rfl rfl Tryd.underlying24 rfl i24 (lk rfl) _ rfl,
    fun L u => u_call u (gd0 rfl) 18 rfl 21 #[(.tmp 16), (.tmp 17)] #[3, 24] rfl [Value.int .i64 2, .agg (gc (y)).toArray] rfl (cE21 _) (.agg (gc (y)).toArray) (fun w hb => s_fold _ w),
    fun L u => u_alloc u (gd0 rfl) 24 rfl 7 rfl rfl z24 _ rfl,
    fun L u => u_alloc u (gd0 rfl) 24 rfl 8 rfl rfl z24 _ rfl,
    fun L u => u_store u (gd0 rfl) 24 (.tmp 7) (.tmp 15) rfl rfl rfl (vs := gc (0)) rfl rfl i24 (lk rfl) rfl _ rfl,
    fun L u => u_store u (gd0 rfl) 24 (.tmp 8) (.tmp 18) rfl rfl rfl (vs := gc (y)) rfl rfl i24 (lk rfl) rfl _ rfl,
    trivial⟩ [(0, .val (Value.int .i64 2)), (6, .ptr 6 0), (7, .ptr 7 0), (8, .ptr 8 0)] [(6, nz), (7, gc (0)), (8, gc (y))] ⟨rfl, rfl, rfl, rfl, trivial⟩ ⟨rfl, rfl, rfl, trivial⟩ rfl (fun a w h => ?_)
  refine wp_seq ?_
  refine go_region h hm [eS 19 (.val (.agg (gc (0)).toArray)), eS 20 (.val (.agg (gc (y)).toArray)), eS 21 (.val (Value.bool true))] (by kernel_rfl) ⟨
    fun L u => u_load u (gd0 rfl) 19 rfl 24 (.tmp 7) rfl rfl rfl Tryd.underlying24 rfl i24 (lk rfl) _ rfl,
    fun L u => u_load u (gd0 rfl) 20 rfl 24 (.tmp 8) rfl rfl rfl Tryd.underlying24 rfl i24 (lk rfl) _ rfl,
    fun L u => u_call u (gd0 rfl) 21 rfl 47 #[(.tmp 19), (.tmp 20)] #[24, 24] rfl [.agg (gc (0)).toArray, .agg (gc (y)).toArray] rfl (cE47 _) (Value.bool true) (fun w hb => s9_less (decide_eq_true hy) w),
    trivial⟩ [(0, .val (Value.int .i64 2)), (6, .ptr 6 0), (7, .ptr 7 0), (8, .ptr 8 0), (21, .val (Value.bool true))] [(6, nz), (7, gc (0)), (8, gc (y))] ⟨rfl, rfl, rfl, rfl, rfl, trivial⟩ ⟨rfl, rfl, rfl, trivial⟩ rfl (fun a w h => ?_)
  refine go_cond h true rfl (fun ht => ?_) (fun hf => ?_)
  case refine_2 => cases hf
  refine go_region h hm [eS 23 (.val (Value.int .i64 2)), eS 24 (.val (.agg (nc (md 2)).toArray)), eS 25 (.val (.agg (gc (y)).toArray)), eS 26 (.val (.tuple [.agg (nc (md 2 - (y.val : Int))).toArray, Value.bool false].toArray)), eS 22 (.val (.tuple [.agg (nc (md 2 - (y.val : Int))).toArray, Value.bool false].toArray)), eS 27 (.val (.agg (nc (md 2 - (y.val : Int))).toArray)), eS 28 (.val (Value.bool false)), eN 9 (nz), eM 9 (nc (md 2 - (y.val : Int))), eS 10 (.val (Value.bool false))] (by kernel_rfl) ⟨
    fun L u => u_move u (gd0 rfl) 23 rfl (.tmp 0) (Or.inl rfl) rfl,
    fun L u => u_call u (gd0 rfl) 24 rfl 20 #[(.tmp 23)] #[3] rfl [Value.int .i64 2] rfl (cE20 _) (.agg (nc (md 2)).toArray) (fun w hb => s_md w),
    fun L u => u_load u (gd0 rfl) 25 rfl 24 (.tmp 8) rfl rfl rfl Tryd.underlying24 rfl i24 (lk rfl) _ rfl,
    fun L u => u_call u (gd0 rfl) 26 rfl 48 #[(.tmp 24), (.tmp 25)] #[24, 24] rfl [.agg (nc (md 2)).toArray, .agg (gc (y)).toArray] rfl (cE48 _) (.tuple [.agg (nc (md 2 - (y.val : Int))).toArray, Value.bool false].toArray) (fun w hb => s9_sub0 _ w),
    fun L u => u_move u (gd0 rfl) 22 rfl (.tmp 26) (Or.inl rfl) rfl,
    fun L u => u_part u (gd0 rfl) 27 rfl (.tmp 22) 0 rfl (vs := [.agg (nc (md 2 - (y.val : Int))).toArray, Value.bool false]) rfl _ rfl,
    fun L u => u_part u (gd0 rfl) 28 rfl (.tmp 22) 1 rfl (vs := [.agg (nc (md 2 - (y.val : Int))).toArray, Value.bool false]) rfl _ rfl,
    fun L u => u_alloc u (gd0 rfl) 24 rfl 9 rfl rfl z24 _ rfl,
    fun L u => u_store u (gd0 rfl) 24 (.tmp 9) (.tmp 27) rfl rfl rfl (vs := nc (md 2 - (y.val : Int))) rfl rfl i24 (lk rfl) rfl _ rfl,
    fun L u => u_move u (gd0 rfl) 10 rfl (.tmp 28) (Or.inr rfl) rfl,
    trivial⟩ [(0, .val (Value.int .i64 2)), (6, .ptr 6 0), (7, .ptr 7 0), (9, .ptr 9 0)] [(6, nz), (7, gc (0)), (9, nc (md 2 - (y.val : Int)))] ⟨rfl, rfl, rfl, rfl, trivial⟩ ⟨rfl, rfl, rfl, trivial⟩ rfl (fun a w h => ?_)
  refine go_region h hm [eS 29 (.val (Value.int .i64 2)), eS 30 (.val (.agg (nc (md 2)).toArray)), eS 31 (.val (.agg (gc (0)).toArray)), eS 32 (.val (.agg (nc (md 2 - (y.val : Int))).toArray)), eS 33 (.val (.agg (gc (0 - y)).toArray)), eM 6 (gc (0 - y))] (by kernel_rfl) ⟨
    fun L u => u_move u (gd0 rfl) 29 rfl (.tmp 0) (Or.inl rfl) rfl,
    fun L u => u_call u (gd0 rfl) 30 rfl 20 #[(.tmp 29)] #[3] rfl [Value.int .i64 2] rfl (cE20 _) (.agg (nc (md 2)).toArray) (fun w hb => s_md w),
    fun L u => u_load u (gd0 rfl) 31 rfl 24 (.tmp 7) rfl rfl rfl Tryd.underlying24 rfl i24 (lk rfl) _ rfl,
    fun L u => u_load u (gd0 rfl) 32 rfl 24 (.tmp 9) rfl rfl rfl Tryd.underlying24 rfl i24 (lk rfl) _ rfl,
    fun L u => u_call u (gd0 rfl) 33 rfl 49 #[(.tmp 30), (.tmp 31), (.tmp 32)] #[24, 24, 24] rfl [.agg (nc (md 2)).toArray, .agg (gc (0)).toArray, .agg (nc (md 2 - (y.val : Int))).toArray] rfl (cE49 _) (.agg (gc (0 - y)).toArray) (fun w hb => s9_plus hy w),
    fun L u => u_store u (gd0 rfl) 24 (.tmp 6) (.tmp 33) rfl rfl rfl (vs := gc (0 - y)) rfl rfl i24 (lk rfl) rfl _ rfl,
    trivial⟩ [(6, .ptr 6 0)] [(6, gc (0 - y))] ⟨rfl, trivial⟩ ⟨rfl, trivial⟩ rfl (fun a w h => ?_)
  refine wp_ret ?_
  refine then_ret ?_
  refine ret_row h 6 24 rfl (lk rfl) 6 rfl (gc (0 - y)) rfl _ Tryd.underlying24 rfl i24 ?_
  exact ⟨rfl, h.grows⟩
set_option maxRecDepth 100000 in
set_option maxHeartbeats 4000000 in
theorem h_sub_nil {w : World}  : Calls Tryd.prog 19 [Value.int .i64 2, .agg (nz).toArray, .agg (gc (0)).toArray].toArray w fun e w' => e = .returned (.agg (gc 0).toArray) ∧ Below w.heap.size w w' := by
  refine enter (args := [Value.int .i64 2, .agg (nz).toArray, .agg (gc (0)).toArray]) Tryd.func19 rfl 41 rfl (lk rfl) (fun a h => ?_)
  refine go_region h hm [eN 4 (nz), eN 5 (gc (0)), eN 6 (nz)] (by kernel_rfl) ⟨
    fun L u => u_box u (gd0 rfl) 24 (.tmp 1) rfl 4 rfl rfl rfl _ rfl,
    fun L u => u_box u (gd0 rfl) 24 (.tmp 2) rfl 5 rfl rfl rfl _ rfl,
    fun L u => u_alloc u (gd0 rfl) 24 rfl 6 rfl rfl z24 _ rfl,
    trivial⟩ [(0, .val (Value.int .i64 2)), (4, .ptr 4 0), (5, .ptr 5 0), (6, .ptr 6 0)] [(4, nz), (5, gc (0)), (6, nz)] ⟨rfl, rfl, rfl, rfl, trivial⟩ ⟨rfl, rfl, rfl, trivial⟩ rfl (fun a w h => ?_)
  refine go_region h hm [eS 13 (.val (Value.int .i64 2)), eS 14 (.val (.agg (nz).toArray)), eS 15 (.val (.agg (gc (0)).toArray)), eS 16 (.val (Value.int .i64 2)), eS 17 (.val (.agg (gc (0)).toArray)), eS 18 (.val (.agg (gc (0)).toArray)), eN 7 (nz), eN 8 (nz), eM 7 (gc (0)), eM 8 (gc (0))] (by kernel_rfl) ⟨
    fun L u => u_move u (gd0 rfl) 13 rfl (.tmp 0) (Or.inl rfl) rfl,
    fun L u => u_load u (gd0 rfl) 14 rfl 24 (.tmp 4) rfl rfl rfl Tryd.underlying24 rfl i24 (lk rfl) _ rfl,
    fun L u => u_call u (gd0 rfl) 15 rfl 21 #[(.tmp 13), (.tmp 14)] #[3, 24] rfl [Value.int .i64 2, .agg (nz).toArray] rfl (cE21 _) (.agg (gc (0)).toArray) (fun w hb => s_fold0 w),
    fun L u => u_move u (gd0 rfl) 16 rfl (.tmp 0) (Or.inl rfl) rfl,
    fun L u => u_load u (gd0 rfl) 17 rfl 24 (.tmp 5) rfl rfl rfl Tryd.underlying24 rfl i24 (lk rfl) _ rfl,
    fun L u => u_call u (gd0 rfl) 18 rfl 21 #[(.tmp 16), (.tmp 17)] #[3, 24] rfl [Value.int .i64 2, .agg (gc (0)).toArray] rfl (cE21 _) (.agg (gc (0)).toArray) (fun w hb => s_fold _ w),
    fun L u => u_alloc u (gd0 rfl) 24 rfl 7 rfl rfl z24 _ rfl,
    fun L u => u_alloc u (gd0 rfl) 24 rfl 8 rfl rfl z24 _ rfl,
    fun L u => u_store u (gd0 rfl) 24 (.tmp 7) (.tmp 15) rfl rfl rfl (vs := gc (0)) rfl rfl i24 (lk rfl) rfl _ rfl,
    fun L u => u_store u (gd0 rfl) 24 (.tmp 8) (.tmp 18) rfl rfl rfl (vs := gc (0)) rfl rfl i24 (lk rfl) rfl _ rfl,
    trivial⟩ [(0, .val (Value.int .i64 2)), (6, .ptr 6 0), (7, .ptr 7 0), (8, .ptr 8 0)] [(6, nz), (7, gc (0)), (8, gc (0))] ⟨rfl, rfl, rfl, rfl, trivial⟩ ⟨rfl, rfl, rfl, trivial⟩ rfl (fun a w h => ?_)
  refine wp_seq ?_
  refine go_region h hm [eS 19 (.val (.agg (gc (0)).toArray)), eS 20 (.val (.agg (gc (0)).toArray)), eS 21 (.val (Value.bool false))] (by kernel_rfl) ⟨
    fun L u => u_load u (gd0 rfl) 19 rfl 24 (.tmp 7) rfl rfl rfl Tryd.underlying24 rfl i24 (lk rfl) _ rfl,
    fun L u => u_load u (gd0 rfl) 20 rfl 24 (.tmp 8) rfl rfl rfl Tryd.underlying24 rfl i24 (lk rfl) _ rfl,
    fun L u => u_call u (gd0 rfl) 21 rfl 47 #[(.tmp 19), (.tmp 20)] #[24, 24] rfl [.agg (gc (0)).toArray, .agg (gc (0)).toArray] rfl (cE47 _) (Value.bool false) (fun w hb => s9_less (decide_eq_false (by rw [show (0 : Fin m2).val = 0 from Fin.val_zero _]; omega)) w),
    trivial⟩ [(0, .val (Value.int .i64 2)), (6, .ptr 6 0), (7, .ptr 7 0), (8, .ptr 8 0), (21, .val (Value.bool false))] [(6, nz), (7, gc (0)), (8, gc (0))] ⟨rfl, rfl, rfl, rfl, rfl, trivial⟩ ⟨rfl, rfl, rfl, trivial⟩ rfl (fun a w h => ?_)
  refine go_cond h false rfl (fun ht => ?_) (fun hf => ?_)
  case refine_1 => cases ht
  refine wp_skip ?_
  refine then_norm ?_
  refine go_region h hm [eS 35 (.val (.agg (gc (0)).toArray)), eS 36 (.val (.agg (gc (0)).toArray)), eS 37 (.val (.tuple [.agg (gc (0)).toArray, Value.bool false].toArray)), eS 34 (.val (.tuple [.agg (gc (0)).toArray, Value.bool false].toArray)), eS 38 (.val (.agg (gc (0)).toArray)), eS 39 (.val (Value.bool false)), eN 11 (nz), eM 11 (gc (0)), eS 12 (.val (Value.bool false))] (by kernel_rfl) ⟨
    fun L u => u_load u (gd0 rfl) 35 rfl 24 (.tmp 7) rfl rfl rfl Tryd.underlying24 rfl i24 (lk rfl) _ rfl,
    fun L u => u_load u (gd0 rfl) 36 rfl 24 (.tmp 8) rfl rfl rfl Tryd.underlying24 rfl i24 (lk rfl) _ rfl,
    fun L u => u_call u (gd0 rfl) 37 rfl 48 #[(.tmp 35), (.tmp 36)] #[24, 24] rfl [.agg (gc (0)).toArray, .agg (gc (0)).toArray] rfl (cE48 _) (.tuple [.agg (gc (0)).toArray, Value.bool false].toArray) (fun w hb => s_subz w),
    fun L u => u_move u (gd0 rfl) 34 rfl (.tmp 37) (Or.inl rfl) rfl,
    fun L u => u_part u (gd0 rfl) 38 rfl (.tmp 34) 0 rfl (vs := [.agg (gc (0)).toArray, Value.bool false]) rfl _ rfl,
    fun L u => u_part u (gd0 rfl) 39 rfl (.tmp 34) 1 rfl (vs := [.agg (gc (0)).toArray, Value.bool false]) rfl _ rfl,
    fun L u => u_alloc u (gd0 rfl) 24 rfl 11 rfl rfl z24 _ rfl,
    fun L u => u_store u (gd0 rfl) 24 (.tmp 11) (.tmp 38) rfl rfl rfl (vs := gc (0)) rfl rfl i24 (lk rfl) rfl _ rfl,
    fun L u => u_move u (gd0 rfl) 12 rfl (.tmp 39) (Or.inr rfl) rfl,
    trivial⟩ [(6, .ptr 6 0), (11, .ptr 11 0)] [(6, nz), (11, gc (0))] ⟨rfl, rfl, trivial⟩ ⟨rfl, rfl, trivial⟩ rfl (fun a w h => ?_)
  refine go_region h hm [eS 40 (.val (.agg (gc (0)).toArray)), eM 6 (gc (0))] (by kernel_rfl) ⟨
    fun L u => u_load u (gd0 rfl) 40 rfl 24 (.tmp 11) rfl rfl rfl Tryd.underlying24 rfl i24 (lk rfl) _ rfl,
    fun L u => u_store u (gd0 rfl) 24 (.tmp 6) (.tmp 40) rfl rfl rfl (vs := gc (0)) rfl rfl i24 (lk rfl) rfl _ rfl,
    trivial⟩ [(6, .ptr 6 0)] [(6, gc (0))] ⟨rfl, trivial⟩ ⟨rfl, trivial⟩ rfl (fun a w h => ?_)
  refine wp_ret ?_
  refine ret_row h 6 24 rfl (lk rfl) 6 rfl (gc (0)) rfl _ Tryd.underlying24 rfl i24 ?_
  exact ⟨rfl, h.grows⟩
theorem h_sub (w : World) (y : Fin m2) : Calls Tryd.prog 19 [.int .i64 2, .agg nz.toArray, .agg (gc y).toArray].toArray w fun e w' => e = .returned (.agg (gc (0 - y)).toArray) ∧ Below w.heap.size w w' := by
  by_cases hy : 0 < y.val
  · exact h_sub_pos hy
  · obtain rfl : y = 0 := Fin.ext (by rw [show (0 : Fin m2).val = 0 from Fin.val_zero _]; omega)
    rw [sub_nilE]
    exact h_sub_nil
end Go.Proofs.YtolehamdaceikaaDoor
namespace Go.Proofs.YtolehamdaceikaaDoor
open Go.RowKit

theorem edAdds_walk {w : World} (hT : Tab w) {X0 Y0 : Int} (hX0 : Num X0) (hY0 : Num Y0) (t0 : Bool) {X1 Y1 : Int} (hX1 : Num X1) (hY1 : Num Y1) (t1 : Bool) : Calls Tryd.prog 3 #[.agg #[.int .u64 (L 0 X0), .int .u64 (L 1 X0), .int .u64 (L 2 X0), .int .u64 (L 3 X0), .int .u64 (L 0 Y0), .int .u64 (L 1 Y0), .int .u64 (L 2 Y0), .int .u64 (L 3 Y0), .bool t0], .agg #[.int .u64 (L 0 X1), .int .u64 (L 1 X1), .int .u64 (L 2 X1), .int .u64 (L 3 X1), .int .u64 (L 0 Y1), .int .u64 (L 1 Y1), .int .u64 (L 2 Y1), .int .u64 (L 3 Y1), .bool t1]] w fun e w' => e = .returned (.bool true) ∧ Below w.heap.size w w' := by
  exact eadds_walk hT hX0 hY0 hX1 hY1 t0 t1
theorem edMultiplies_walk {w : World} (hT : Tab w) {a0 : Int} (ha0 : Num a0) {X1 Y1 : Int} (hX1 : Num X1) (hY1 : Num Y1) (t1 : Bool) : Calls Tryd.prog 4 #[.agg #[.int .u64 (L 0 a0), .int .u64 (L 1 a0), .int .u64 (L 2 a0), .int .u64 (L 3 a0)], .agg #[.int .u64 (L 0 X1), .int .u64 (L 1 X1), .int .u64 (L 2 X1), .int .u64 (L 3 X1), .int .u64 (L 0 Y1), .int .u64 (L 1 Y1), .int .u64 (L 2 Y1), .int .u64 (L 3 Y1), .bool t1]] w fun e w' => e = .returned (.bool true) ∧ Below w.heap.size w w' := by
  obtain ⟨k0, rfl⟩ := Int.eq_ofNat_of_zero_le ha0.lo
  have hk0 : k0 < 2 ^ 256 := by have := ha0.hi; unfold M at this; omega
  exact emult_walk hT hk0 hX1 hY1 t1
theorem edBoth_walk {w : World} (hT : Tab w) {a0 : Int} (ha0 : Num a0) {X1 Y1 : Int} (hX1 : Num X1) (hY1 : Num Y1) (t1 : Bool) {a2 : Int} (ha2 : Num a2) : Calls Tryd.prog 5 #[.agg #[.int .u64 (L 0 a0), .int .u64 (L 1 a0), .int .u64 (L 2 a0), .int .u64 (L 3 a0)], .agg #[.int .u64 (L 0 X1), .int .u64 (L 1 X1), .int .u64 (L 2 X1), .int .u64 (L 3 X1), .int .u64 (L 0 Y1), .int .u64 (L 1 Y1), .int .u64 (L 2 Y1), .int .u64 (L 3 Y1), .bool t1], .agg #[.int .u64 (L 0 a2), .int .u64 (L 1 a2), .int .u64 (L 2 a2), .int .u64 (L 3 a2)]] w fun e w' => e = .returned (.bool true) ∧ Below w.heap.size w w' := by
  obtain ⟨k0, rfl⟩ := Int.eq_ofNat_of_zero_le ha0.lo
  have hk0 : k0 < 2 ^ 256 := by have := ha0.hi; unfold M at this; omega
  obtain ⟨k2, rfl⟩ := Int.eq_ofNat_of_zero_le ha2.lo
  have hk2 : k2 < 2 ^ 256 := by have := ha2.hi; unfold M at this; omega
  exact eboth_walk hT hk0 hX1 hY1 t1 hk2
theorem edGroup_walk {w : World} (hT : Tab w) {a0 : Int} (ha0 : Num a0) {a1 : Int} (ha1 : Num a1) {X2 Y2 : Int} (hX2 : Num X2) (hY2 : Num Y2) (t2 : Bool) : Calls Tryd.prog 6 #[.agg #[.int .u64 (L 0 a0), .int .u64 (L 1 a0), .int .u64 (L 2 a0), .int .u64 (L 3 a0)], .agg #[.int .u64 (L 0 a1), .int .u64 (L 1 a1), .int .u64 (L 2 a1), .int .u64 (L 3 a1)], .agg #[.int .u64 (L 0 X2), .int .u64 (L 1 X2), .int .u64 (L 2 X2), .int .u64 (L 3 X2), .int .u64 (L 0 Y2), .int .u64 (L 1 Y2), .int .u64 (L 2 Y2), .int .u64 (L 3 Y2), .bool t2]] w fun e w' => e = .returned (.bool true) ∧ Below w.heap.size w w' := by
  obtain ⟨k0, rfl⟩ := Int.eq_ofNat_of_zero_le ha0.lo
  have hk0 : k0 < 2 ^ 256 := by have := ha0.hi; unfold M at this; omega
  obtain ⟨k1, rfl⟩ := Int.eq_ofNat_of_zero_le ha1.lo
  have hk1 : k1 < 2 ^ 256 := by have := ha1.hi; unfold M at this; omega
  by_cases h : k0 + k1 < 2 ^ 256
  · exact egroup_false hT hk0 hk1 h rfl hX2 hY2 t2 (fun w => h_add_less hk0 hk1 h w)
  · exact egroup_true hT hk0 hk1 hX2 hY2 t2 (fun w => h_add_over hk0 hk1 (by omega) w)
theorem edOrder_walk {w : World} (hT : Tab w) {a0 : Int} (ha0 : Num a0) : Calls Tryd.prog 7 #[.agg #[.int .u64 (L 0 a0), .int .u64 (L 1 a0), .int .u64 (L 2 a0), .int .u64 (L 3 a0)]] w fun e w' => e = .returned (.bool true) ∧ Below w.heap.size w w' := by
  obtain ⟨k0, rfl⟩ := Int.eq_ofNat_of_zero_le ha0.lo
  have hk0 : k0 < 2 ^ 256 := by have := ha0.hi; unfold M at this; omega
  exact eorder_walk hT hk0 (Nat.lt_trans (Nat.mod_lt _ (by decide +kernel)) hmod3) rfl h_md (h_fold hk0) h_sub
end Go.Proofs.YtolehamdaceikaaDoor
