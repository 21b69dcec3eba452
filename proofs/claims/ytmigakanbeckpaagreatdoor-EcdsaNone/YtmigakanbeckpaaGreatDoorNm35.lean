/- EcdsaNone: the walk. How the parameters, and the listed variables, are read before the call. -/
import Derived.Test.YtmigakanbeckpaaGreatDoorNm33
import Derived.Test.YtmigakanbeckpaaGreatDoorNm34
import Derived.Test.YtmigakanbeckpaaGreatDoorNm02
import Derived.Test.YtmigakanbeckpaaGreatDoorNm32
import Derived.Test.YtmigakanbeckpaaGreatDoorNm28
import Derived.Test.YtmigakanbeckpaaGreatDoorTie
import Derived.Test.YtmigakanbeckpaaGreatDoorCards
import Derived.ProofKit
import Derived.LaidMore
import Derived.MakeChecks
import Derived.Lib.LaidTab
import Derived.Stop.LaidErr
import Derived.Laws.IdiomArrays
import Derived.OpenShut
import Derived.Carry
import Derived.ChangeMaps5
import Derived.Stop.Joined
set_option maxRecDepth 100000
set_option maxHeartbeats 4000000
namespace Go.Proofs.YtmigakanbeckpaaGreatDoor
open Go.RowKit
theorem cT18 (vs:List Value):∀ w,(callFunc 18 vs.toArray).run Tryz.prog w=.ok (.enter 18 vs.toArray) w:=callFunc_enter Tryz.func18 (by kernel_rfl) (by kernel_rfl) _
theorem cT22 (vs:List Value):∀ w,(callFunc 22 vs.toArray).run Tryz.prog w=.ok (.enter 22 vs.toArray) w:=callFunc_enter Tryz.func22 (by kernel_rfl) (by kernel_rfl) _
theorem none_n {w:World} (hT:Tab w) {D n c m k:Nat} {z y:Option Addr} (hn:300<n):Calls Tryz.prog 7 [.agg (nc (((D:Nat):Int))).toArray,Value.slice (z) (n) (c),Value.slice (y) (m) (k)].toArray w fun e w'=>e=.returned (.bool true)∧Below w.heap.size w w':=by
 refine enter (args:=[.agg (nc (((D:Nat):Int))).toArray,Value.slice (z) (n) (c),Value.slice (y) (m) (k)]) Tryz.func7 rfl 83 rfl (lk rfl) (fun a h=>?_)
 refine aX h [] [eN 3 _,eS 6 _] ⟨rfl,rfl,T0⟩ [(1,.val (Value.slice (z) (n) (c))),(2,.val (Value.slice (y) (m) (k))),(3,.ptr 3 0)] [(3,nc (((D:Nat):Int)))] (fun a w h=>?_)
 refine wp_seq ?_
 refine aX h [0,4,5] [eS 16 (.val (Value.bool true)),eS 17 _,eS 18 _,eS 19 _,eS 20 (.val (Value.int .i64 ((n:Nat):Int))),eS 21 (.val (Value.bool true)),eS 22 _,eS 23 _,eS 24 _,eS 25 _,eS 26 _,eS 27 _] ⟨fun L u=>u_call u (gd0 rfl) _ rfl _ _ _ rfl [] rfl (cT8 _) _ (fun w hb=>awk (hT.keep (Bs.kp_of hb))),rfl,rfl,rfl,fun L u=>u_lenV u (gd1 u 2 false rfl 18 rfl (lk rfl) rfl) 20 rfl (.tmp 19) 25 rfl rfl Tryz.underlying25,fun L u=>u_bin u (gd1 u 2 false rfl 18 rfl (lk rfl) rfl) _ rfl _ _ _ _ _ rfl rfl rfl (eqg_int _ _ _ _ _ _ _ _) _ (yes_of (fun w=>i_gtr _ _ _ _ w) (by omega)),rfl,rfl,rfl,rfl,rfl,rfl,T0⟩ [(1,_),(2,_),(3,_),(27,.val (Value.bool true))] [(3,_)] (fun a w h=>?_)
 refine go_cond h true rfl (fun ht=>?_) (fun hf=>?_)
 case refine_2=>cases hf
 refine aX h [0] [eS 28 (.val (Value.bool true)),eS 6 _] ⟨fun L u=>u_call u (gd0 rfl) _ rfl _ _ _ rfl [] rfl (cT8 _) _ (fun w hb=>awk (hT.keep (Bs.kp_of hb))),rfl,T0⟩ [(6,.val (Value.bool true))] [] (fun a w h=>?_)
 refine wp_ret ?_
 refine then_ret ?_
 refine ret_slot h 6 rfl (lk rfl) (Value.bool true) rfl ?_
 exact ⟨rfl,h.grows⟩
theorem none_m {w:World} (hT:Tab w) {D n c m k:Nat} {z y:Option Addr} (hn:n≤300) (hj:300<m):Calls Tryz.prog 7 [.agg (nc (((D:Nat):Int))).toArray,Value.slice (z) (n) (c),Value.slice (y) (m) (k)].toArray w fun e w'=>e=.returned (.bool true)∧Below w.heap.size w w':=by
 refine enter (args:=[.agg (nc (((D:Nat):Int))).toArray,Value.slice (z) (n) (c),Value.slice (y) (m) (k)]) Tryz.func7 rfl 83 rfl (lk rfl) (fun a h=>?_)
 refine aX h [] [eN 3 _,eS 6 _] ⟨rfl,rfl,T0⟩ [(1,.val (Value.slice (z) (n) (c))),(2,.val (Value.slice (y) (m) (k))),(3,.ptr 3 0)] [(3,nc (((D:Nat):Int)))] (fun a w h=>?_)
 refine wp_seq ?_
 refine aX h [0,4,5,9,10] [eS 16 (.val (Value.bool true)),eS 17 _,eS 18 _,eS 19 _,eS 20 (.val (Value.int .i64 ((n:Nat):Int))),eS 21 (.val (Value.bool false)),eS 22 _,eS 23 _,eS 24 _,eS 25 (.val (Value.int .i64 ((m:Nat):Int))),eS 26 (.val (Value.bool true)),eS 27 _] ⟨fun L u=>u_call u (gd0 rfl) _ rfl _ _ _ rfl [] rfl (cT8 _) _ (fun w hb=>awk (hT.keep (Bs.kp_of hb))),rfl,rfl,rfl,fun L u=>u_lenV u (gd1 u 2 false rfl 18 rfl (lk rfl) rfl) 20 rfl (.tmp 19) 25 rfl rfl Tryz.underlying25,fun L u=>u_bin u (gd1 u 2 false rfl 18 rfl (lk rfl) rfl) _ rfl _ _ _ _ _ rfl rfl rfl (eqg_int _ _ _ _ _ _ _ _) _ (no_of (fun w=>i_gtr _ _ _ _ w) (by omega)),rfl,rfl,rfl,fun L u=>u_lenV u (gd1 u 7 false rfl 23 rfl (lk rfl) rfl) 25 rfl (.tmp 24) 25 rfl rfl Tryz.underlying25,fun L u=>u_bin u (gd1 u 7 false rfl 23 rfl (lk rfl) rfl) _ rfl _ _ _ _ _ rfl rfl rfl (eqg_int _ _ _ _ _ _ _ _) _ (yes_of (fun w=>i_gtr _ _ _ _ w) (by omega)),rfl,T0⟩ [(1,_),(2,_),(3,_),(27,.val (Value.bool true))] [(3,_)] (fun a w h=>?_)
 refine go_cond h true rfl (fun ht=>?_) (fun hf=>?_)
 case refine_2=>cases hf
 refine aX h [0] [eS 28 (.val (Value.bool true)),eS 6 _] ⟨fun L u=>u_call u (gd0 rfl) _ rfl _ _ _ rfl [] rfl (cT8 _) _ (fun w hb=>awk (hT.keep (Bs.kp_of hb))),rfl,T0⟩ [(6,.val (Value.bool true))] [] (fun a w h=>?_)
 refine wp_ret ?_
 refine then_ret ?_
 refine ret_slot h 6 rfl (lk rfl) (Value.bool true) rfl ?_
 exact ⟨rfl,h.grows⟩
theorem none_no {w:World} (hT:Tab w) {D n c m k:Nat} {z y:Option Addr} (hD:D<2 ^ 256) (hn:n≤300) (hj:m≤300) (hw:wi D=false) (hSg:∀ w1,Below w.heap.size w w1→Calls Tryz.prog 16 [.agg (nc (((D:Nat):Int))).toArray,Value.slice (z) (n) (c)].toArray w1 fun e w'=>∃ v Fp,e=.returned v∧(tupPd (rdPd (0) ([])) (.bool false)).p v Fp w'∧(∀ b,Fp b=true→w1.heap.size≤b∧b<w'.heap.size)∧Below w1.heap.size w1 w'):Calls Tryz.prog 7 [.agg (nc (((D:Nat):Int))).toArray,Value.slice (z) (n) (c),Value.slice (y) (m) (k)].toArray w fun e w'=>e=.returned (.bool true)∧Below w.heap.size w w':=by
 refine enter (args:=[.agg (nc (((D:Nat):Int))).toArray,Value.slice (z) (n) (c),Value.slice (y) (m) (k)]) Tryz.func7 rfl 83 rfl (lk rfl) (fun a h=>?_)
 refine aX h [] [eN 3 _,eS 6 _] ⟨rfl,rfl,T0⟩ [(1,.val (Value.slice (z) (n) (c))),(2,.val (Value.slice (y) (m) (k))),(3,.ptr 3 0)] [(3,nc (((D:Nat):Int)))] (fun a w h=>?_)
 refine wp_seq ?_
 refine aX h [0,4,5,9,10] [eS 16 (.val (Value.bool true)),eS 17 _,eS 18 _,eS 19 _,eS 20 (.val (Value.int .i64 ((n:Nat):Int))),eS 21 (.val (Value.bool false)),eS 22 _,eS 23 _,eS 24 _,eS 25 (.val (Value.int .i64 ((m:Nat):Int))),eS 26 (.val (Value.bool false)),eS 27 _] ⟨fun L u=>u_call u (gd0 rfl) _ rfl _ _ _ rfl [] rfl (cT8 _) _ (fun w hb=>awk (hT.keep (Bs.kp_of hb))),rfl,rfl,rfl,fun L u=>u_lenV u (gd1 u 2 false rfl 18 rfl (lk rfl) rfl) 20 rfl (.tmp 19) 25 rfl rfl Tryz.underlying25,fun L u=>u_bin u (gd1 u 2 false rfl 18 rfl (lk rfl) rfl) _ rfl _ _ _ _ _ rfl rfl rfl (eqg_int _ _ _ _ _ _ _ _) _ (no_of (fun w=>i_gtr _ _ _ _ w) (by omega)),rfl,rfl,rfl,fun L u=>u_lenV u (gd1 u 7 false rfl 23 rfl (lk rfl) rfl) 25 rfl (.tmp 24) 25 rfl rfl Tryz.underlying25,fun L u=>u_bin u (gd1 u 7 false rfl 23 rfl (lk rfl) rfl) _ rfl _ _ _ _ _ rfl rfl rfl (eqg_int _ _ _ _ _ _ _ _) _ (no_of (fun w=>i_gtr _ _ _ _ w) (by omega)),rfl,T0⟩ [(1,_),(2,_),(3,_),(27,.val (Value.bool false))] [(3,_)] (fun a w h=>?_)
 refine go_cond h false rfl (fun ht=>?_) (fun hf=>?_)
 case refine_1=>cases ht
 refine wp_skip ?_
 refine then_norm ?_
 refine aXQ h [1,2,3,4,5] [eS 30 _,eQ 31 (tupPd (rdPd (0) ([])) (Value.bool false)),eS 29 (.unk 31 id),eS 32 (.unk 31 fstV),eS 33 (.val (Value.bool false)),eS 7 (.unk 31 fstV),eS 8 _] ⟨rfl,fun L u=>u_callQ u (gd0 rfl) 31 rfl rfl 9 #[(.tmp 30)] #[24] rfl [.val (.agg (nc (((D:Nat):Int))).toArray)] rfl (fun vs w=>callFunc_enter Tryz.func9 (by kernel_rfl) (by kernel_rfl) vs w) (tupPd (rdPd (0) ([])) (Value.bool false)) (fun β a w hr=>qPubN (hT.keep (Bs.kp_of hr.bl)) hD hw),fun L u=>u_copyQ u (gd0 rfl) 29 rfl (.tmp 31) (Or.inl rfl) rfl rfl,fun L u=>u_ext0T u (gd0 rfl) 32 rfl (.tmp 29) rfl rfl rfl,fun L u=>u_ext1T u (gd0 rfl) 33 rfl (.tmp 29) rfl rfl rfl,fun L u=>u_copyQ u (gd0 rfl) 7 rfl (.tmp 32) (Or.inr rfl) rfl rfl,rfl,T0⟩ [(1,_),(2,_),(3,_),(7,.unk 31 fstV),(8,.val (Value.bool false))] [(3,_)] [(31,tupPd (rdPd (0) ([])) (Value.bool false))] (fun a w h=>?_)
 refine aXQ h [2,3,4,5,6] [eS 35 _,eS 36 _,eQ 37 (tupPd (rdPd (0) ([])) (Value.bool false)),eS 34 (.unk 37 id),eS 38 (.unk 37 fstV),eS 39 (.val (Value.bool false)),eS 9 (.unk 37 fstV),eS 10 _] ⟨rfl,rfl,fun L u=>u_callQ u (gd0 rfl) 37 rfl rfl 16 #[(.tmp 35),(.tmp 36)] #[24,25] rfl [.val (.agg (nc (((D:Nat):Int))).toArray),.val (Value.slice (z) (n) (c))] rfl (fun vs w=>callFunc_enter Tryz.func16 (by kernel_rfl) (by kernel_rfl) vs w) (tupPd (rdPd (0) ([])) (Value.bool false)) (fun β a w hr=>hSg w (Bs.kp_of hr.bl)),fun L u=>u_copyQ u (gd0 rfl) 34 rfl (.tmp 37) (Or.inl rfl) rfl rfl,fun L u=>u_ext0T u (gd0 rfl) 38 rfl (.tmp 34) rfl rfl rfl,fun L u=>u_ext1T u (gd0 rfl) 39 rfl (.tmp 34) rfl rfl rfl,fun L u=>u_copyQ u (gd0 rfl) 9 rfl (.tmp 38) (Or.inr rfl) rfl rfl,rfl,T0⟩ [(1,_),(2,_),(7,_),(8,_),(9,.unk 37 fstV),(10,.val (Value.bool false))] [] [(31,tupPd (rdPd (0) ([])) (Value.bool false)),(37,tupPd (rdPd (0) ([])) (Value.bool false))] (fun a w h=>?_)
 refine wp_seq ?_
 refine aXQ h [] [eS 40 _,eS 41 _] ⟨rfl,rfl,T0⟩ [(1,_),(2,_),(7,_),(9,_),(10,_),(41,.val (Value.bool true))] [] [(31,tupPd (rdPd (0) ([])) (Value.bool false)),(37,tupPd (rdPd (0) ([])) (Value.bool false))] (fun a w h=>?_)
 refine go_cond h true rfl (fun ht=>?_) (fun hf=>?_)
 case refine_2=>cases hf
 refine aX h [3,4,5,8,9,10] [eS 42 _,eS 43 _,eS 44 _,eS 45 (.unk 37 fstV),eS 46 (.val (Value.int .i64 ((0:Nat):Int))),eS 47 (.val (Value.bool true)),eS 48 _,eS 49 _,eS 50 (.unk 31 fstV),eS 51 (.val (Value.int .i64 ((0:Nat):Int))),eS 52 (.val (Value.bool true)),eS 53 _,eS 6 _] ⟨rfl,rfl,rfl,fun L u=>u_copyQ u (gd1 u 2 true rfl 44 rfl (lk rfl) rfl) 45 rfl (.tmp 9) (Or.inl rfl) rfl rfl,fun L u=>q_len u (gd1 u 2 true rfl 44 rfl (lk rfl) rfl) 46 rfl (.tmp 45) rfl rfl rfl (vr_fst vr_rd).vw,fun L u=>u_bin u (gd1 u 2 true rfl 44 rfl (lk rfl) rfl) _ rfl _ _ _ _ _ rfl rfl rfl (eqg_int _ _ _ _ _ _ _ _) _ (yes_of (fun w=>i_eql _ _ _ _ w) (by omega)),rfl,rfl,fun L u=>u_copyQ u (gd1 u 7 true rfl 49 rfl (lk rfl) rfl) 50 rfl (.tmp 7) (Or.inl rfl) rfl rfl,fun L u=>q_len u (gd1 u 7 true rfl 49 rfl (lk rfl) rfl) 51 rfl (.tmp 50) rfl rfl rfl (vr_fst vr_rd).vw,fun L u=>u_bin u (gd1 u 7 true rfl 49 rfl (lk rfl) rfl) _ rfl _ _ _ _ _ rfl rfl rfl (eqg_int _ _ _ _ _ _ _ _) _ (yes_of (fun w=>i_eql _ _ _ _ w) (by omega)),rfl,rfl,T0⟩ [(6,.val (Value.bool true))] [] (fun a w h=>?_)
 refine wp_ret ?_
 refine then_ret ?_
 refine ret_slot h 6 rfl (lk rfl) (Value.bool true) rfl ?_
 exact ⟨rfl,h.grows⟩
theorem none_11 {w:World} (hT:Tab w) {D n c m k:Nat} {z y:Option Addr} (hn:n≤300) (hj:m≤300) {n1 n3:Nat} {l1 l3:List Nat} {t3:Bool} {r s:Nat} {a0:Wp m0} (hPb:∀ w1,Below w.heap.size w w1→Calls Tryz.prog 9 [.agg (nc (((D:Nat):Int))).toArray].toArray w1 fun e w'=>∃ v Fp,e=.returned v∧(tupPd (rdPd (n1) (l1)) (.bool true)).p v Fp w'∧(∀ b,Fp b=true→w1.heap.size≤b∧b<w'.heap.size)∧Below w1.heap.size w1 w') (hSg:∀ w1,Below w.heap.size w w1→Calls Tryz.prog 16 [.agg (nc (((D:Nat):Int))).toArray,Value.slice (z) (n) (c)].toArray w1 fun e w'=>∃ v Fp,e=.returned v∧(tupPd (rdPd (n3) (l3)) (.bool t3)).p v Fp w'∧(∀ b,Fp b=true→w1.heap.size≤b∧b<w'.heap.size)∧Below w1.heap.size w1 w') (hS:∀ w1,Below w.heap.size w w1→Calls Tryz.prog 18 [Value.slice (y) (m) (k)].toArray w1 fun e w'=>e=.returned (.tuple [.agg (nc ((r:Nat):Int)).toArray,.agg (nc ((s:Nat):Int)).toArray,.bool true].toArray)∧Below w1.heap.size w1 w') (hP:∀ w1,Below w.heap.size w w1→Calls Tryz.prog 22 [Value.slice (y) (m) (k)].toArray w1 fun e w'=>e=.returned (.tuple [.agg (pc a0).toArray,.bool true].toArray)∧Below w1.heap.size w1 w'):Calls Tryz.prog 7 [.agg (nc (((D:Nat):Int))).toArray,Value.slice (z) (n) (c),Value.slice (y) (m) (k)].toArray w fun e w'=>e=.returned (.bool true)∧Below w.heap.size w w':=by
 refine enter (args:=[.agg (nc (((D:Nat):Int))).toArray,Value.slice (z) (n) (c),Value.slice (y) (m) (k)]) Tryz.func7 rfl 83 rfl (lk rfl) (fun a h=>?_)
 refine aX h [] [eN 3 _,eS 6 _] ⟨rfl,rfl,T0⟩ [(1,.val (Value.slice (z) (n) (c))),(2,.val (Value.slice (y) (m) (k))),(3,.ptr 3 0)] [(3,nc (((D:Nat):Int)))] (fun a w h=>?_)
 refine wp_seq ?_
 refine aX h [0,4,5,9,10] [eS 16 (.val (Value.bool true)),eS 17 _,eS 18 _,eS 19 _,eS 20 (.val (Value.int .i64 ((n:Nat):Int))),eS 21 (.val (Value.bool false)),eS 22 _,eS 23 _,eS 24 _,eS 25 (.val (Value.int .i64 ((m:Nat):Int))),eS 26 (.val (Value.bool false)),eS 27 _] ⟨fun L u=>u_call u (gd0 rfl) _ rfl _ _ _ rfl [] rfl (cT8 _) _ (fun w hb=>awk (hT.keep (Bs.kp_of hb))),rfl,rfl,rfl,fun L u=>u_lenV u (gd1 u 2 false rfl 18 rfl (lk rfl) rfl) 20 rfl (.tmp 19) 25 rfl rfl Tryz.underlying25,fun L u=>u_bin u (gd1 u 2 false rfl 18 rfl (lk rfl) rfl) _ rfl _ _ _ _ _ rfl rfl rfl (eqg_int _ _ _ _ _ _ _ _) _ (no_of (fun w=>i_gtr _ _ _ _ w) (by omega)),rfl,rfl,rfl,fun L u=>u_lenV u (gd1 u 7 false rfl 23 rfl (lk rfl) rfl) 25 rfl (.tmp 24) 25 rfl rfl Tryz.underlying25,fun L u=>u_bin u (gd1 u 7 false rfl 23 rfl (lk rfl) rfl) _ rfl _ _ _ _ _ rfl rfl rfl (eqg_int _ _ _ _ _ _ _ _) _ (no_of (fun w=>i_gtr _ _ _ _ w) (by omega)),rfl,T0⟩ [(1,_),(2,_),(3,_),(27,.val (Value.bool false))] [(3,_)] (fun a w h=>?_)
 refine go_cond h false rfl (fun ht=>?_) (fun hf=>?_)
 case refine_1=>cases ht
 refine wp_skip ?_
 refine then_norm ?_
 refine aXQ h [1,2,3,4,5] [eS 30 _,eQ 31 (tupPd (rdPd (n1) (l1)) (Value.bool true)),eS 29 (.unk 31 id),eS 32 (.unk 31 fstV),eS 33 (.val (Value.bool true)),eS 7 (.unk 31 fstV),eS 8 _] ⟨rfl,fun L u=>u_callQ u (gd0 rfl) 31 rfl rfl 9 #[(.tmp 30)] #[24] rfl [.val (.agg (nc (((D:Nat):Int))).toArray)] rfl (fun vs w=>callFunc_enter Tryz.func9 (by kernel_rfl) (by kernel_rfl) vs w) (tupPd (rdPd (n1) (l1)) (Value.bool true)) (fun β a w hr=>hPb w (Bs.kp_of hr.bl)),fun L u=>u_copyQ u (gd0 rfl) 29 rfl (.tmp 31) (Or.inl rfl) rfl rfl,fun L u=>u_ext0T u (gd0 rfl) 32 rfl (.tmp 29) rfl rfl rfl,fun L u=>u_ext1T u (gd0 rfl) 33 rfl (.tmp 29) rfl rfl rfl,fun L u=>u_copyQ u (gd0 rfl) 7 rfl (.tmp 32) (Or.inr rfl) rfl rfl,rfl,T0⟩ [(1,_),(2,_),(3,_),(7,.unk 31 fstV),(8,.val (Value.bool true))] [(3,_)] [(31,tupPd (rdPd (n1) (l1)) (Value.bool true))] (fun a w h=>?_)
 refine aXQ h [2,3,4,5,6] [eS 35 _,eS 36 _,eQ 37 (tupPd (rdPd (n3) (l3)) (Value.bool t3)),eS 34 (.unk 37 id),eS 38 (.unk 37 fstV),eS 39 (.val (Value.bool t3)),eS 9 (.unk 37 fstV),eS 10 _] ⟨rfl,rfl,fun L u=>u_callQ u (gd0 rfl) 37 rfl rfl 16 #[(.tmp 35),(.tmp 36)] #[24,25] rfl [.val (.agg (nc (((D:Nat):Int))).toArray),.val (Value.slice (z) (n) (c))] rfl (fun vs w=>callFunc_enter Tryz.func16 (by kernel_rfl) (by kernel_rfl) vs w) (tupPd (rdPd (n3) (l3)) (Value.bool t3)) (fun β a w hr=>hSg w (Bs.kp_of hr.bl)),fun L u=>u_copyQ u (gd0 rfl) 34 rfl (.tmp 37) (Or.inl rfl) rfl rfl,fun L u=>u_ext0T u (gd0 rfl) 38 rfl (.tmp 34) rfl rfl rfl,fun L u=>u_ext1T u (gd0 rfl) 39 rfl (.tmp 34) rfl rfl rfl,fun L u=>u_copyQ u (gd0 rfl) 9 rfl (.tmp 38) (Or.inr rfl) rfl rfl,rfl,T0⟩ [(1,_),(2,_),(7,_),(8,_),(9,.unk 37 fstV),(10,.val (Value.bool t3))] [] [(31,tupPd (rdPd (n1) (l1)) (Value.bool true)),(37,tupPd (rdPd (n3) (l3)) (Value.bool t3))] (fun a w h=>?_)
 refine wp_seq ?_
 refine aXQ h [] [eS 40 _,eS 41 _] ⟨rfl,rfl,T0⟩ [(1,_),(2,_),(7,_),(9,_),(10,_),(41,.val (Value.bool false))] [] [(31,tupPd (rdPd (n1) (l1)) (Value.bool true)),(37,tupPd (rdPd (n3) (l3)) (Value.bool t3))] (fun a w h=>?_)
 refine go_cond h false rfl (fun ht=>?_) (fun hf=>?_)
 case refine_1=>cases ht
 refine wp_skip ?_
 refine then_norm ?_
 refine aXQ h [1] [eS 55 _,eS 56 (.val (.tuple [Value.agg (nc (((r:Nat):Int))).toArray,.agg (nc (((s:Nat):Int))).toArray,Value.bool true].toArray)),eS 54 _,eS 57 _,eS 58 _,eS 59 _,eN 11 _,eN 12 _,eM 11 _,eM 12 _,eS 13 _] ⟨rfl,fun L u=>u_call u (gd0 rfl) _ rfl _ _ _ rfl [_] rfl (cT18 _) _ (fun w hb=>hS w (Bs.kp_of hb)),rfl,rfl,rfl,rfl,rfl,rfl,rfl,rfl,rfl,T0⟩ [(1,_),(2,_),(7,_),(9,_),(13,.val (Value.bool true))] [] [(31,tupPd (rdPd (n1) (l1)) (Value.bool true)),(37,tupPd (rdPd (n3) (l3)) (Value.bool t3))] (fun a w h=>?_)
 refine aXQ h [1] [eS 61 _,eS 62 (.val (.tuple [Value.agg (pc (a0)).toArray,Value.bool true].toArray)),eS 60 _,eS 63 _,eS 64 _,eN 14 _,eM 14 _,eS 15 _] ⟨rfl,fun L u=>u_call u (gd0 rfl) _ rfl _ _ _ rfl [_] rfl (cT22 _) _ (fun w hb=>hP w (Bs.kp_of hb)),rfl,rfl,rfl,rfl,rfl,rfl,T0⟩ [(1,_),(2,_),(7,_),(9,_),(13,_),(15,.val (Value.bool true))] [] [(31,tupPd (rdPd (n1) (l1)) (Value.bool true)),(37,tupPd (rdPd (n3) (l3)) (Value.bool t3))] (fun a w h=>?_)
 refine aX h [] [eS 65 _,eS 66 _,eS 67 _,eS 68 _,eS 69 _,eS 70 _,eS 71 _,eS 72 _,eS 73 _,eS 74 _,eS 75 _,eS 76 _,eS 77 _,eS 78 _,eS 79 _,eS 80 _,eS 81 _,eS 82 _,eS 6 _] ⟨rfl,rfl,rfl,rfl,rfl,rfl,rfl,rfl,rfl,rfl,rfl,rfl,rfl,rfl,rfl,rfl,rfl,rfl,rfl,T0⟩ [(6,.val (Value.bool true))] [] (fun a w h=>?_)
 refine wp_ret ?_
 refine ret_slot h 6 rfl (lk rfl) (Value.bool true) rfl ?_
 exact ⟨rfl,h.grows⟩
theorem none_10 {w:World} (hT:Tab w) {D n c m k:Nat} {z y:Option Addr} (hn:n≤300) (hj:m≤300) {n1 n3:Nat} {l1 l3:List Nat} {t3:Bool} {r s:Nat} (hPb:∀ w1,Below w.heap.size w w1→Calls Tryz.prog 9 [.agg (nc (((D:Nat):Int))).toArray].toArray w1 fun e w'=>∃ v Fp,e=.returned v∧(tupPd (rdPd (n1) (l1)) (.bool true)).p v Fp w'∧(∀ b,Fp b=true→w1.heap.size≤b∧b<w'.heap.size)∧Below w1.heap.size w1 w') (hSg:∀ w1,Below w.heap.size w w1→Calls Tryz.prog 16 [.agg (nc (((D:Nat):Int))).toArray,Value.slice (z) (n) (c)].toArray w1 fun e w'=>∃ v Fp,e=.returned v∧(tupPd (rdPd (n3) (l3)) (.bool t3)).p v Fp w'∧(∀ b,Fp b=true→w1.heap.size≤b∧b<w'.heap.size)∧Below w1.heap.size w1 w') (hS:∀ w1,Below w.heap.size w w1→Calls Tryz.prog 18 [Value.slice (y) (m) (k)].toArray w1 fun e w'=>e=.returned (.tuple [.agg (nc ((r:Nat):Int)).toArray,.agg (nc ((s:Nat):Int)).toArray,.bool true].toArray)∧Below w1.heap.size w1 w') (hP:∀ w1,Below w.heap.size w w1→Calls Tryz.prog 22 [Value.slice (y) (m) (k)].toArray w1 fun e w'=>e=.returned (.tuple [.agg (nz++nz++[Value.bool true]).toArray,.bool false].toArray)∧Below w1.heap.size w1 w') (hV2:∀ w1 v F,Below w.heap.size w w1→(rdPd n3 l3).p v F w1→Calls Tryz.prog 14 [Value.slice (y) (m) (k),Value.slice (z) (n) (c),v].toArray w1 fun e w'=>e=.returned (.bool false)∧Below w1.heap.size w1 w'):Calls Tryz.prog 7 [.agg (nc (((D:Nat):Int))).toArray,Value.slice (z) (n) (c),Value.slice (y) (m) (k)].toArray w fun e w'=>e=.returned (.bool true)∧Below w.heap.size w w':=by
 refine enter (args:=[.agg (nc (((D:Nat):Int))).toArray,Value.slice (z) (n) (c),Value.slice (y) (m) (k)]) Tryz.func7 rfl 83 rfl (lk rfl) (fun a h=>?_)
 refine aX h [] [eN 3 _,eS 6 _] ⟨rfl,rfl,T0⟩ [(1,.val (Value.slice (z) (n) (c))),(2,.val (Value.slice (y) (m) (k))),(3,.ptr 3 0)] [(3,nc (((D:Nat):Int)))] (fun a w h=>?_)
 refine wp_seq ?_
 refine aX h [0,4,5,9,10] [eS 16 (.val (Value.bool true)),eS 17 _,eS 18 _,eS 19 _,eS 20 (.val (Value.int .i64 ((n:Nat):Int))),eS 21 (.val (Value.bool false)),eS 22 _,eS 23 _,eS 24 _,eS 25 (.val (Value.int .i64 ((m:Nat):Int))),eS 26 (.val (Value.bool false)),eS 27 _] ⟨fun L u=>u_call u (gd0 rfl) _ rfl _ _ _ rfl [] rfl (cT8 _) _ (fun w hb=>awk (hT.keep (Bs.kp_of hb))),rfl,rfl,rfl,fun L u=>u_lenV u (gd1 u 2 false rfl 18 rfl (lk rfl) rfl) 20 rfl (.tmp 19) 25 rfl rfl Tryz.underlying25,fun L u=>u_bin u (gd1 u 2 false rfl 18 rfl (lk rfl) rfl) _ rfl _ _ _ _ _ rfl rfl rfl (eqg_int _ _ _ _ _ _ _ _) _ (no_of (fun w=>i_gtr _ _ _ _ w) (by omega)),rfl,rfl,rfl,fun L u=>u_lenV u (gd1 u 7 false rfl 23 rfl (lk rfl) rfl) 25 rfl (.tmp 24) 25 rfl rfl Tryz.underlying25,fun L u=>u_bin u (gd1 u 7 false rfl 23 rfl (lk rfl) rfl) _ rfl _ _ _ _ _ rfl rfl rfl (eqg_int _ _ _ _ _ _ _ _) _ (no_of (fun w=>i_gtr _ _ _ _ w) (by omega)),rfl,T0⟩ [(1,_),(2,_),(3,_),(27,.val (Value.bool false))] [(3,_)] (fun a w h=>?_)
 refine go_cond h false rfl (fun ht=>?_) (fun hf=>?_)
 case refine_1=>cases ht
 refine wp_skip ?_
 refine then_norm ?_
 refine aXQ h [1,2,3,4,5] [eS 30 _,eQ 31 (tupPd (rdPd (n1) (l1)) (Value.bool true)),eS 29 (.unk 31 id),eS 32 (.unk 31 fstV),eS 33 (.val (Value.bool true)),eS 7 (.unk 31 fstV),eS 8 _] ⟨rfl,fun L u=>u_callQ u (gd0 rfl) 31 rfl rfl 9 #[(.tmp 30)] #[24] rfl [.val (.agg (nc (((D:Nat):Int))).toArray)] rfl (fun vs w=>callFunc_enter Tryz.func9 (by kernel_rfl) (by kernel_rfl) vs w) (tupPd (rdPd (n1) (l1)) (Value.bool true)) (fun β a w hr=>hPb w (Bs.kp_of hr.bl)),fun L u=>u_copyQ u (gd0 rfl) 29 rfl (.tmp 31) (Or.inl rfl) rfl rfl,fun L u=>u_ext0T u (gd0 rfl) 32 rfl (.tmp 29) rfl rfl rfl,fun L u=>u_ext1T u (gd0 rfl) 33 rfl (.tmp 29) rfl rfl rfl,fun L u=>u_copyQ u (gd0 rfl) 7 rfl (.tmp 32) (Or.inr rfl) rfl rfl,rfl,T0⟩ [(1,_),(2,_),(3,_),(7,.unk 31 fstV),(8,.val (Value.bool true))] [(3,_)] [(31,tupPd (rdPd (n1) (l1)) (Value.bool true))] (fun a w h=>?_)
 refine aXQ h [2,3,4,5,6] [eS 35 _,eS 36 _,eQ 37 (tupPd (rdPd (n3) (l3)) (Value.bool t3)),eS 34 (.unk 37 id),eS 38 (.unk 37 fstV),eS 39 (.val (Value.bool t3)),eS 9 (.unk 37 fstV),eS 10 _] ⟨rfl,rfl,fun L u=>u_callQ u (gd0 rfl) 37 rfl rfl 16 #[(.tmp 35),(.tmp 36)] #[24,25] rfl [.val (.agg (nc (((D:Nat):Int))).toArray),.val (Value.slice (z) (n) (c))] rfl (fun vs w=>callFunc_enter Tryz.func16 (by kernel_rfl) (by kernel_rfl) vs w) (tupPd (rdPd (n3) (l3)) (Value.bool t3)) (fun β a w hr=>hSg w (Bs.kp_of hr.bl)),fun L u=>u_copyQ u (gd0 rfl) 34 rfl (.tmp 37) (Or.inl rfl) rfl rfl,fun L u=>u_ext0T u (gd0 rfl) 38 rfl (.tmp 34) rfl rfl rfl,fun L u=>u_ext1T u (gd0 rfl) 39 rfl (.tmp 34) rfl rfl rfl,fun L u=>u_copyQ u (gd0 rfl) 9 rfl (.tmp 38) (Or.inr rfl) rfl rfl,rfl,T0⟩ [(1,_),(2,_),(7,_),(8,_),(9,.unk 37 fstV),(10,.val (Value.bool t3))] [] [(31,tupPd (rdPd (n1) (l1)) (Value.bool true)),(37,tupPd (rdPd (n3) (l3)) (Value.bool t3))] (fun a w h=>?_)
 refine wp_seq ?_
 refine aXQ h [] [eS 40 _,eS 41 _] ⟨rfl,rfl,T0⟩ [(1,_),(2,_),(7,_),(9,_),(10,_),(41,.val (Value.bool false))] [] [(31,tupPd (rdPd (n1) (l1)) (Value.bool true)),(37,tupPd (rdPd (n3) (l3)) (Value.bool t3))] (fun a w h=>?_)
 refine go_cond h false rfl (fun ht=>?_) (fun hf=>?_)
 case refine_1=>cases ht
 refine wp_skip ?_
 refine then_norm ?_
 refine aXQ h [1] [eS 55 _,eS 56 (.val (.tuple [Value.agg (nc (((r:Nat):Int))).toArray,.agg (nc (((s:Nat):Int))).toArray,Value.bool true].toArray)),eS 54 _,eS 57 _,eS 58 _,eS 59 _,eN 11 _,eN 12 _,eM 11 _,eM 12 _,eS 13 _] ⟨rfl,fun L u=>u_call u (gd0 rfl) _ rfl _ _ _ rfl [_] rfl (cT18 _) _ (fun w hb=>hS w (Bs.kp_of hb)),rfl,rfl,rfl,rfl,rfl,rfl,rfl,rfl,rfl,T0⟩ [(1,_),(2,_),(7,_),(9,_),(13,.val (Value.bool true))] [] [(31,tupPd (rdPd (n1) (l1)) (Value.bool true)),(37,tupPd (rdPd (n3) (l3)) (Value.bool t3))] (fun a w h=>?_)
 refine aXQ h [1] [eS 61 _,eS 62 (.val (.tuple [Value.agg (nz++nz++[Value.bool true]).toArray,Value.bool false].toArray)),eS 60 _,eS 63 _,eS 64 _,eN 14 _,eM 14 _,eS 15 _] ⟨rfl,fun L u=>u_call u (gd0 rfl) _ rfl _ _ _ rfl [_] rfl (cT22 _) _ (fun w hb=>hP w (Bs.kp_of hb)),rfl,rfl,rfl,rfl,rfl,rfl,T0⟩ [(1,_),(2,_),(7,_),(9,_),(13,_),(15,.val (Value.bool false))] [] [(31,tupPd (rdPd (n1) (l1)) (Value.bool true)),(37,tupPd (rdPd (n3) (l3)) (Value.bool t3))] (fun a w h=>?_)
 refine aX h [13,14] [eS 65 _,eS 66 _,eS 67 _,eS 68 _,eS 69 _,eS 70 _,eS 71 _,eS 72 _,eS 73 _,eS 74 _,eS 75 _,eS 76 _,eS 77 _,eS 78 (.unk 37 fstV),eS 79 (.val (Value.bool false)),eS 80 _,eS 81 _,eS 82 _,eS 6 _] ⟨rfl,rfl,rfl,rfl,rfl,rfl,rfl,rfl,rfl,rfl,rfl,rfl,rfl,fun L u=>u_copyQ u (gd1 u 10 false rfl 75 rfl (lk rfl) rfl) 78 rfl (.tmp 9) (Or.inl rfl) rfl rfl,fun L u=>u_callR u (gd1 u 10 false rfl 75 rfl (lk rfl) rfl) 79 rfl 14 #[(.tmp 76),(.tmp 77),(.tmp 78)] #[25,25,25] rfl [.val (Value.slice (y) (m) (k)),.val (Value.slice (z) (n) (c)),.unk 37 fstV] rfl (fun vs w=>callFunc_enter Tryz.func14 (by kernel_rfl) (by kernel_rfl) vs w) (Value.bool false) (fun β a w hr=>hV2 w _ _ (Bs.kp_of hr.bl) (fst_rd (hr.thing (x:=37) (u.q rfl)))),rfl,rfl,rfl,rfl,T0⟩ [(6,.val (Value.bool true))] [] (fun a w h=>?_)
 refine wp_ret ?_
 refine ret_slot h 6 rfl (lk rfl) (Value.bool true) rfl ?_
 exact ⟨rfl,h.grows⟩
theorem none_01 {w:World} (hT:Tab w) {D n c m k:Nat} {z y:Option Addr} (hn:n≤300) (hj:m≤300) {n1 n3:Nat} {l1 l3:List Nat} {t3:Bool} {a0:Wp m0} (hPb:∀ w1,Below w.heap.size w w1→Calls Tryz.prog 9 [.agg (nc (((D:Nat):Int))).toArray].toArray w1 fun e w'=>∃ v Fp,e=.returned v∧(tupPd (rdPd (n1) (l1)) (.bool true)).p v Fp w'∧(∀ b,Fp b=true→w1.heap.size≤b∧b<w'.heap.size)∧Below w1.heap.size w1 w') (hSg:∀ w1,Below w.heap.size w w1→Calls Tryz.prog 16 [.agg (nc (((D:Nat):Int))).toArray,Value.slice (z) (n) (c)].toArray w1 fun e w'=>∃ v Fp,e=.returned v∧(tupPd (rdPd (n3) (l3)) (.bool t3)).p v Fp w'∧(∀ b,Fp b=true→w1.heap.size≤b∧b<w'.heap.size)∧Below w1.heap.size w1 w') (hS:∀ w1,Below w.heap.size w w1→Calls Tryz.prog 18 [Value.slice (y) (m) (k)].toArray w1 fun e w'=>e=.returned (.tuple [.agg nz.toArray,.agg nz.toArray,.bool false].toArray)∧Below w1.heap.size w1 w') (hP:∀ w1,Below w.heap.size w w1→Calls Tryz.prog 22 [Value.slice (y) (m) (k)].toArray w1 fun e w'=>e=.returned (.tuple [.agg (pc a0).toArray,.bool true].toArray)∧Below w1.heap.size w1 w') (hV1:∀ w1 v F,Below w.heap.size w w1→(rdPd n1 l1).p v F w1→Calls Tryz.prog 14 [v,Value.slice (z) (n) (c),Value.slice (y) (m) (k)].toArray w1 fun e w'=>e=.returned (.bool false)∧Below w1.heap.size w1 w'):Calls Tryz.prog 7 [.agg (nc (((D:Nat):Int))).toArray,Value.slice (z) (n) (c),Value.slice (y) (m) (k)].toArray w fun e w'=>e=.returned (.bool true)∧Below w.heap.size w w':=by
 refine enter (args:=[.agg (nc (((D:Nat):Int))).toArray,Value.slice (z) (n) (c),Value.slice (y) (m) (k)]) Tryz.func7 rfl 83 rfl (lk rfl) (fun a h=>?_)
 refine aX h [] [eN 3 _,eS 6 _] ⟨rfl,rfl,T0⟩ [(1,.val (Value.slice (z) (n) (c))),(2,.val (Value.slice (y) (m) (k))),(3,.ptr 3 0)] [(3,nc (((D:Nat):Int)))] (fun a w h=>?_)
 refine wp_seq ?_
 refine aX h [0,4,5,9,10] [eS 16 (.val (Value.bool true)),eS 17 _,eS 18 _,eS 19 _,eS 20 (.val (Value.int .i64 ((n:Nat):Int))),eS 21 (.val (Value.bool false)),eS 22 _,eS 23 _,eS 24 _,eS 25 (.val (Value.int .i64 ((m:Nat):Int))),eS 26 (.val (Value.bool false)),eS 27 _] ⟨fun L u=>u_call u (gd0 rfl) _ rfl _ _ _ rfl [] rfl (cT8 _) _ (fun w hb=>awk (hT.keep (Bs.kp_of hb))),rfl,rfl,rfl,fun L u=>u_lenV u (gd1 u 2 false rfl 18 rfl (lk rfl) rfl) 20 rfl (.tmp 19) 25 rfl rfl Tryz.underlying25,fun L u=>u_bin u (gd1 u 2 false rfl 18 rfl (lk rfl) rfl) _ rfl _ _ _ _ _ rfl rfl rfl (eqg_int _ _ _ _ _ _ _ _) _ (no_of (fun w=>i_gtr _ _ _ _ w) (by omega)),rfl,rfl,rfl,fun L u=>u_lenV u (gd1 u 7 false rfl 23 rfl (lk rfl) rfl) 25 rfl (.tmp 24) 25 rfl rfl Tryz.underlying25,fun L u=>u_bin u (gd1 u 7 false rfl 23 rfl (lk rfl) rfl) _ rfl _ _ _ _ _ rfl rfl rfl (eqg_int _ _ _ _ _ _ _ _) _ (no_of (fun w=>i_gtr _ _ _ _ w) (by omega)),rfl,T0⟩ [(1,_),(2,_),(3,_),(27,.val (Value.bool false))] [(3,_)] (fun a w h=>?_)
 refine go_cond h false rfl (fun ht=>?_) (fun hf=>?_)
 case refine_1=>cases ht
 refine wp_skip ?_
 refine then_norm ?_
 refine aXQ h [1,2,3,4,5] [eS 30 _,eQ 31 (tupPd (rdPd (n1) (l1)) (Value.bool true)),eS 29 (.unk 31 id),eS 32 (.unk 31 fstV),eS 33 (.val (Value.bool true)),eS 7 (.unk 31 fstV),eS 8 _] ⟨rfl,fun L u=>u_callQ u (gd0 rfl) 31 rfl rfl 9 #[(.tmp 30)] #[24] rfl [.val (.agg (nc (((D:Nat):Int))).toArray)] rfl (fun vs w=>callFunc_enter Tryz.func9 (by kernel_rfl) (by kernel_rfl) vs w) (tupPd (rdPd (n1) (l1)) (Value.bool true)) (fun β a w hr=>hPb w (Bs.kp_of hr.bl)),fun L u=>u_copyQ u (gd0 rfl) 29 rfl (.tmp 31) (Or.inl rfl) rfl rfl,fun L u=>u_ext0T u (gd0 rfl) 32 rfl (.tmp 29) rfl rfl rfl,fun L u=>u_ext1T u (gd0 rfl) 33 rfl (.tmp 29) rfl rfl rfl,fun L u=>u_copyQ u (gd0 rfl) 7 rfl (.tmp 32) (Or.inr rfl) rfl rfl,rfl,T0⟩ [(1,_),(2,_),(3,_),(7,.unk 31 fstV),(8,.val (Value.bool true))] [(3,_)] [(31,tupPd (rdPd (n1) (l1)) (Value.bool true))] (fun a w h=>?_)
 refine aXQ h [2,3,4,5,6] [eS 35 _,eS 36 _,eQ 37 (tupPd (rdPd (n3) (l3)) (Value.bool t3)),eS 34 (.unk 37 id),eS 38 (.unk 37 fstV),eS 39 (.val (Value.bool t3)),eS 9 (.unk 37 fstV),eS 10 _] ⟨rfl,rfl,fun L u=>u_callQ u (gd0 rfl) 37 rfl rfl 16 #[(.tmp 35),(.tmp 36)] #[24,25] rfl [.val (.agg (nc (((D:Nat):Int))).toArray),.val (Value.slice (z) (n) (c))] rfl (fun vs w=>callFunc_enter Tryz.func16 (by kernel_rfl) (by kernel_rfl) vs w) (tupPd (rdPd (n3) (l3)) (Value.bool t3)) (fun β a w hr=>hSg w (Bs.kp_of hr.bl)),fun L u=>u_copyQ u (gd0 rfl) 34 rfl (.tmp 37) (Or.inl rfl) rfl rfl,fun L u=>u_ext0T u (gd0 rfl) 38 rfl (.tmp 34) rfl rfl rfl,fun L u=>u_ext1T u (gd0 rfl) 39 rfl (.tmp 34) rfl rfl rfl,fun L u=>u_copyQ u (gd0 rfl) 9 rfl (.tmp 38) (Or.inr rfl) rfl rfl,rfl,T0⟩ [(1,_),(2,_),(7,_),(8,_),(9,.unk 37 fstV),(10,.val (Value.bool t3))] [] [(31,tupPd (rdPd (n1) (l1)) (Value.bool true)),(37,tupPd (rdPd (n3) (l3)) (Value.bool t3))] (fun a w h=>?_)
 refine wp_seq ?_
 refine aXQ h [] [eS 40 _,eS 41 _] ⟨rfl,rfl,T0⟩ [(1,_),(2,_),(7,_),(9,_),(10,_),(41,.val (Value.bool false))] [] [(31,tupPd (rdPd (n1) (l1)) (Value.bool true)),(37,tupPd (rdPd (n3) (l3)) (Value.bool t3))] (fun a w h=>?_)
 refine go_cond h false rfl (fun ht=>?_) (fun hf=>?_)
 case refine_1=>cases ht
 refine wp_skip ?_
 refine then_norm ?_
 refine aXQ h [1] [eS 55 _,eS 56 (.val (.tuple [Value.agg (nz).toArray,.agg (nz).toArray,Value.bool false].toArray)),eS 54 _,eS 57 _,eS 58 _,eS 59 _,eN 11 _,eN 12 _,eM 11 _,eM 12 _,eS 13 _] ⟨rfl,fun L u=>u_call u (gd0 rfl) _ rfl _ _ _ rfl [_] rfl (cT18 _) _ (fun w hb=>hS w (Bs.kp_of hb)),rfl,rfl,rfl,rfl,rfl,rfl,rfl,rfl,rfl,T0⟩ [(1,_),(2,_),(7,_),(9,_),(13,.val (Value.bool false))] [] [(31,tupPd (rdPd (n1) (l1)) (Value.bool true)),(37,tupPd (rdPd (n3) (l3)) (Value.bool t3))] (fun a w h=>?_)
 refine aXQ h [1] [eS 61 _,eS 62 (.val (.tuple [Value.agg (pc (a0)).toArray,Value.bool true].toArray)),eS 60 _,eS 63 _,eS 64 _,eN 14 _,eM 14 _,eS 15 _] ⟨rfl,fun L u=>u_call u (gd0 rfl) _ rfl _ _ _ rfl [_] rfl (cT22 _) _ (fun w hb=>hP w (Bs.kp_of hb)),rfl,rfl,rfl,rfl,rfl,rfl,T0⟩ [(1,_),(2,_),(7,_),(9,_),(13,_),(15,.val (Value.bool true))] [] [(31,tupPd (rdPd (n1) (l1)) (Value.bool true)),(37,tupPd (rdPd (n3) (l3)) (Value.bool t3))] (fun a w h=>?_)
 refine aX h [2,5] [eS 65 _,eS 66 _,eS 67 (.unk 31 fstV),eS 68 _,eS 69 _,eS 70 (.val (Value.bool false)),eS 71 _,eS 72 _,eS 73 _,eS 74 _,eS 75 _,eS 76 _,eS 77 _,eS 78 _,eS 79 _,eS 80 _,eS 81 _,eS 82 _,eS 6 _] ⟨rfl,rfl,fun L u=>u_copyQ u (gd1 u 1 false rfl 66 rfl (lk rfl) rfl) 67 rfl (.tmp 7) (Or.inl rfl) rfl rfl,rfl,rfl,fun L u=>u_callR u (gd1 u 1 false rfl 66 rfl (lk rfl) rfl) 70 rfl 14 #[(.tmp 67),(.tmp 68),(.tmp 69)] #[25,25,25] rfl [.unk 31 fstV,.val (Value.slice (z) (n) (c)),.val (Value.slice (y) (m) (k))] rfl (fun vs w=>callFunc_enter Tryz.func14 (by kernel_rfl) (by kernel_rfl) vs w) (Value.bool false) (fun β a w hr=>hV1 w _ _ (Bs.kp_of hr.bl) (fst_rd (hr.thing (x:=31) (u.q rfl)))),rfl,rfl,rfl,rfl,rfl,rfl,rfl,rfl,rfl,rfl,rfl,rfl,rfl,T0⟩ [(6,.val (Value.bool true))] [] (fun a w h=>?_)
 refine wp_ret ?_
 refine ret_slot h 6 rfl (lk rfl) (Value.bool true) rfl ?_
 exact ⟨rfl,h.grows⟩
theorem none_00 {w:World} (hT:Tab w) {D n c m k:Nat} {z y:Option Addr} (hn:n≤300) (hj:m≤300) {n1 n3:Nat} {l1 l3:List Nat} {t3:Bool} (hPb:∀ w1,Below w.heap.size w w1→Calls Tryz.prog 9 [.agg (nc (((D:Nat):Int))).toArray].toArray w1 fun e w'=>∃ v Fp,e=.returned v∧(tupPd (rdPd (n1) (l1)) (.bool true)).p v Fp w'∧(∀ b,Fp b=true→w1.heap.size≤b∧b<w'.heap.size)∧Below w1.heap.size w1 w') (hSg:∀ w1,Below w.heap.size w w1→Calls Tryz.prog 16 [.agg (nc (((D:Nat):Int))).toArray,Value.slice (z) (n) (c)].toArray w1 fun e w'=>∃ v Fp,e=.returned v∧(tupPd (rdPd (n3) (l3)) (.bool t3)).p v Fp w'∧(∀ b,Fp b=true→w1.heap.size≤b∧b<w'.heap.size)∧Below w1.heap.size w1 w') (hS:∀ w1,Below w.heap.size w w1→Calls Tryz.prog 18 [Value.slice (y) (m) (k)].toArray w1 fun e w'=>e=.returned (.tuple [.agg nz.toArray,.agg nz.toArray,.bool false].toArray)∧Below w1.heap.size w1 w') (hP:∀ w1,Below w.heap.size w w1→Calls Tryz.prog 22 [Value.slice (y) (m) (k)].toArray w1 fun e w'=>e=.returned (.tuple [.agg (nz++nz++[Value.bool true]).toArray,.bool false].toArray)∧Below w1.heap.size w1 w') (hV1:∀ w1 v F,Below w.heap.size w w1→(rdPd n1 l1).p v F w1→Calls Tryz.prog 14 [v,Value.slice (z) (n) (c),Value.slice (y) (m) (k)].toArray w1 fun e w'=>e=.returned (.bool false)∧Below w1.heap.size w1 w') (hV2:∀ w1 v F,Below w.heap.size w w1→(rdPd n3 l3).p v F w1→Calls Tryz.prog 14 [Value.slice (y) (m) (k),Value.slice (z) (n) (c),v].toArray w1 fun e w'=>e=.returned (.bool false)∧Below w1.heap.size w1 w'):Calls Tryz.prog 7 [.agg (nc (((D:Nat):Int))).toArray,Value.slice (z) (n) (c),Value.slice (y) (m) (k)].toArray w fun e w'=>e=.returned (.bool true)∧Below w.heap.size w w':=by
 refine enter (args:=[.agg (nc (((D:Nat):Int))).toArray,Value.slice (z) (n) (c),Value.slice (y) (m) (k)]) Tryz.func7 rfl 83 rfl (lk rfl) (fun a h=>?_)
 refine aX h [] [eN 3 _,eS 6 _] ⟨rfl,rfl,T0⟩ [(1,.val (Value.slice (z) (n) (c))),(2,.val (Value.slice (y) (m) (k))),(3,.ptr 3 0)] [(3,nc (((D:Nat):Int)))] (fun a w h=>?_)
 refine wp_seq ?_
 refine aX h [0,4,5,9,10] [eS 16 (.val (Value.bool true)),eS 17 _,eS 18 _,eS 19 _,eS 20 (.val (Value.int .i64 ((n:Nat):Int))),eS 21 (.val (Value.bool false)),eS 22 _,eS 23 _,eS 24 _,eS 25 (.val (Value.int .i64 ((m:Nat):Int))),eS 26 (.val (Value.bool false)),eS 27 _] ⟨fun L u=>u_call u (gd0 rfl) _ rfl _ _ _ rfl [] rfl (cT8 _) _ (fun w hb=>awk (hT.keep (Bs.kp_of hb))),rfl,rfl,rfl,fun L u=>u_lenV u (gd1 u 2 false rfl 18 rfl (lk rfl) rfl) 20 rfl (.tmp 19) 25 rfl rfl Tryz.underlying25,fun L u=>u_bin u (gd1 u 2 false rfl 18 rfl (lk rfl) rfl) _ rfl _ _ _ _ _ rfl rfl rfl (eqg_int _ _ _ _ _ _ _ _) _ (no_of (fun w=>i_gtr _ _ _ _ w) (by omega)),rfl,rfl,rfl,fun L u=>u_lenV u (gd1 u 7 false rfl 23 rfl (lk rfl) rfl) 25 rfl (.tmp 24) 25 rfl rfl Tryz.underlying25,fun L u=>u_bin u (gd1 u 7 false rfl 23 rfl (lk rfl) rfl) _ rfl _ _ _ _ _ rfl rfl rfl (eqg_int _ _ _ _ _ _ _ _) _ (no_of (fun w=>i_gtr _ _ _ _ w) (by omega)),rfl,T0⟩ [(1,_),(2,_),(3,_),(27,.val (Value.bool false))] [(3,_)] (fun a w h=>?_)
 refine go_cond h false rfl (fun ht=>?_) (fun hf=>?_)
 case refine_1=>cases ht
 refine wp_skip ?_
 refine then_norm ?_
 refine aXQ h [1,2,3,4,5] [eS 30 _,eQ 31 (tupPd (rdPd (n1) (l1)) (Value.bool true)),eS 29 (.unk 31 id),eS 32 (.unk 31 fstV),eS 33 (.val (Value.bool true)),eS 7 (.unk 31 fstV),eS 8 _] ⟨rfl,fun L u=>u_callQ u (gd0 rfl) 31 rfl rfl 9 #[(.tmp 30)] #[24] rfl [.val (.agg (nc (((D:Nat):Int))).toArray)] rfl (fun vs w=>callFunc_enter Tryz.func9 (by kernel_rfl) (by kernel_rfl) vs w) (tupPd (rdPd (n1) (l1)) (Value.bool true)) (fun β a w hr=>hPb w (Bs.kp_of hr.bl)),fun L u=>u_copyQ u (gd0 rfl) 29 rfl (.tmp 31) (Or.inl rfl) rfl rfl,fun L u=>u_ext0T u (gd0 rfl) 32 rfl (.tmp 29) rfl rfl rfl,fun L u=>u_ext1T u (gd0 rfl) 33 rfl (.tmp 29) rfl rfl rfl,fun L u=>u_copyQ u (gd0 rfl) 7 rfl (.tmp 32) (Or.inr rfl) rfl rfl,rfl,T0⟩ [(1,_),(2,_),(3,_),(7,.unk 31 fstV),(8,.val (Value.bool true))] [(3,_)] [(31,tupPd (rdPd (n1) (l1)) (Value.bool true))] (fun a w h=>?_)
 refine aXQ h [2,3,4,5,6] [eS 35 _,eS 36 _,eQ 37 (tupPd (rdPd (n3) (l3)) (Value.bool t3)),eS 34 (.unk 37 id),eS 38 (.unk 37 fstV),eS 39 (.val (Value.bool t3)),eS 9 (.unk 37 fstV),eS 10 _] ⟨rfl,rfl,fun L u=>u_callQ u (gd0 rfl) 37 rfl rfl 16 #[(.tmp 35),(.tmp 36)] #[24,25] rfl [.val (.agg (nc (((D:Nat):Int))).toArray),.val (Value.slice (z) (n) (c))] rfl (fun vs w=>callFunc_enter Tryz.func16 (by kernel_rfl) (by kernel_rfl) vs w) (tupPd (rdPd (n3) (l3)) (Value.bool t3)) (fun β a w hr=>hSg w (Bs.kp_of hr.bl)),fun L u=>u_copyQ u (gd0 rfl) 34 rfl (.tmp 37) (Or.inl rfl) rfl rfl,fun L u=>u_ext0T u (gd0 rfl) 38 rfl (.tmp 34) rfl rfl rfl,fun L u=>u_ext1T u (gd0 rfl) 39 rfl (.tmp 34) rfl rfl rfl,fun L u=>u_copyQ u (gd0 rfl) 9 rfl (.tmp 38) (Or.inr rfl) rfl rfl,rfl,T0⟩ [(1,_),(2,_),(7,_),(8,_),(9,.unk 37 fstV),(10,.val (Value.bool t3))] [] [(31,tupPd (rdPd (n1) (l1)) (Value.bool true)),(37,tupPd (rdPd (n3) (l3)) (Value.bool t3))] (fun a w h=>?_)
 refine wp_seq ?_
 refine aXQ h [] [eS 40 _,eS 41 _] ⟨rfl,rfl,T0⟩ [(1,_),(2,_),(7,_),(9,_),(10,_),(41,.val (Value.bool false))] [] [(31,tupPd (rdPd (n1) (l1)) (Value.bool true)),(37,tupPd (rdPd (n3) (l3)) (Value.bool t3))] (fun a w h=>?_)
 refine go_cond h false rfl (fun ht=>?_) (fun hf=>?_)
 case refine_1=>cases ht
 refine wp_skip ?_
 refine then_norm ?_
 refine aXQ h [1] [eS 55 _,eS 56 (.val (.tuple [Value.agg (nz).toArray,.agg (nz).toArray,Value.bool false].toArray)),eS 54 _,eS 57 _,eS 58 _,eS 59 _,eN 11 _,eN 12 _,eM 11 _,eM 12 _,eS 13 _] ⟨rfl,fun L u=>u_call u (gd0 rfl) _ rfl _ _ _ rfl [_] rfl (cT18 _) _ (fun w hb=>hS w (Bs.kp_of hb)),rfl,rfl,rfl,rfl,rfl,rfl,rfl,rfl,rfl,T0⟩ [(1,_),(2,_),(7,_),(9,_),(13,.val (Value.bool false))] [] [(31,tupPd (rdPd (n1) (l1)) (Value.bool true)),(37,tupPd (rdPd (n3) (l3)) (Value.bool t3))] (fun a w h=>?_)
 refine aXQ h [1] [eS 61 _,eS 62 (.val (.tuple [Value.agg (nz++nz++[Value.bool true]).toArray,Value.bool false].toArray)),eS 60 _,eS 63 _,eS 64 _,eN 14 _,eM 14 _,eS 15 _] ⟨rfl,fun L u=>u_call u (gd0 rfl) _ rfl _ _ _ rfl [_] rfl (cT22 _) _ (fun w hb=>hP w (Bs.kp_of hb)),rfl,rfl,rfl,rfl,rfl,rfl,T0⟩ [(1,_),(2,_),(7,_),(9,_),(13,_),(15,.val (Value.bool false))] [] [(31,tupPd (rdPd (n1) (l1)) (Value.bool true)),(37,tupPd (rdPd (n3) (l3)) (Value.bool t3))] (fun a w h=>?_)
 refine aX h [2,5,13,14] [eS 65 _,eS 66 _,eS 67 (.unk 31 fstV),eS 68 _,eS 69 _,eS 70 (.val (Value.bool false)),eS 71 _,eS 72 _,eS 73 _,eS 74 _,eS 75 _,eS 76 _,eS 77 _,eS 78 (.unk 37 fstV),eS 79 (.val (Value.bool false)),eS 80 _,eS 81 _,eS 82 _,eS 6 _] ⟨rfl,rfl,fun L u=>u_copyQ u (gd1 u 1 false rfl 66 rfl (lk rfl) rfl) 67 rfl (.tmp 7) (Or.inl rfl) rfl rfl,rfl,rfl,fun L u=>u_callR u (gd1 u 1 false rfl 66 rfl (lk rfl) rfl) 70 rfl 14 #[(.tmp 67),(.tmp 68),(.tmp 69)] #[25,25,25] rfl [.unk 31 fstV,.val (Value.slice (z) (n) (c)),.val (Value.slice (y) (m) (k))] rfl (fun vs w=>callFunc_enter Tryz.func14 (by kernel_rfl) (by kernel_rfl) vs w) (Value.bool false) (fun β a w hr=>hV1 w _ _ (Bs.kp_of hr.bl) (fst_rd (hr.thing (x:=31) (u.q rfl)))),rfl,rfl,rfl,rfl,rfl,rfl,rfl,fun L u=>u_copyQ u (gd1 u 10 false rfl 75 rfl (lk rfl) rfl) 78 rfl (.tmp 9) (Or.inl rfl) rfl rfl,fun L u=>u_callR u (gd1 u 10 false rfl 75 rfl (lk rfl) rfl) 79 rfl 14 #[(.tmp 76),(.tmp 77),(.tmp 78)] #[25,25,25] rfl [.val (Value.slice (y) (m) (k)),.val (Value.slice (z) (n) (c)),.unk 37 fstV] rfl (fun vs w=>callFunc_enter Tryz.func14 (by kernel_rfl) (by kernel_rfl) vs w) (Value.bool false) (fun β a w hr=>hV2 w _ _ (Bs.kp_of hr.bl) (fst_rd (hr.thing (x:=37) (u.q rfl)))),rfl,rfl,rfl,rfl,T0⟩ [(6,.val (Value.bool true))] [] (fun a w h=>?_)
 refine wp_ret ?_
 refine ret_slot h 6 rfl (lk rfl) (Value.bool true) rfl ?_
 exact ⟨rfl,h.grows⟩
theorem sign_some {w:World} {D n c:Nat} {z:Option Addr} {f:Nat→Nat} (hT:Tab w) (hH:Sh.Tab w) (hD:D<2 ^ 256) (hba:BA w z n f) (hc:n≤c) (hcm:c≤maxLen) (hn:n≤9223372036854775807):∃ n3 l3 t3,∀ w1,Below w.heap.size w w1→Calls Tryz.prog 16 [.agg (nc (((D:Nat):Int))).toArray,Value.slice (z) (n) (c)].toArray w1 fun e w'=>∃ v Fp,e=.returned v∧(tupPd (rdPd (n3) (l3)) (.bool t3)).p v Fp w'∧(∀ b,Fp b=true→w1.heap.size≤b∧b<w'.heap.size)∧Below w1.heap.size w1 w':=by
 cases hX:sgn D (zN f n) (nns D (mo ((zN f n:Nat):Int))) with
 | none=>exact ⟨0,[],false,fun w1 hb=>qSign_no (hT.keep hb) (hH.keep hb) hD (hba.keep hb) hc hcm hn hX⟩
 | some q=>exact ⟨_,_,true,fun w1 hb=>qSign_yes (hT.keep hb) (hH.keep hb) hD (hba.keep hb) hc hcm hn (r:=q.1) (s:=q.2) hX⟩
theorem ver_sig {w:World} (hT:Tab w) (hH:Sh.Tab w) {n c m k n1:Nat} {z y:Option Addr} {f:Nat→Nat} {l1:List Nat} (hba:BA w z n f) (hc:n≤c) (hcm:c≤maxLen) (hn:n≤800000) {v:Value} {F:Nat→Bool} (hv:(rdPd n1 l1).p v F w) (hS:∀ w1,Below w.heap.size w w1→Calls Tryz.prog 36 [Value.slice (y) (m) (k)].toArray w1 fun e w'=>e=.returned (dsV none)∧Below w1.heap.size w1 w'):Calls Tryz.prog 14 [v,Value.slice (z) (n) (c),Value.slice (y) (m) (k)].toArray w fun e w'=>e=.returned (.bool false)∧Below w.heap.size w w':=by
 obtain ⟨z1,c1,rfl,h2,h3,h4,_⟩:=hv
 obtain ⟨X,hX,_,hPP⟩:=dec_point hT h4 h2
 have q:=qVer hT hH hba hc hcm hn hX (S:=none) (fun r s e=>by cases e) hPP hS
 rw [show vrfX X none (zN f n)=false from by cases X with | none=>rfl | some a=>exact vrf_n a _] at q
 exact q
theorem ver_key {w:World} {n c m k n3:Nat} {z y:Option Addr} {l3:List Nat} {v:Value} {F:Nat→Bool} (hv:(rdPd n3 l3).p v F w) (hP:∀ w1,Below w.heap.size w w1→Calls Tryz.prog 35 [Value.slice (y) (m) (k)].toArray w1 fun e w'=>e=.returned (dpV none)∧Below w1.heap.size w1 w'):Calls Tryz.prog 14 [Value.slice (y) (m) (k),Value.slice (z) (n) (c),v].toArray w fun e w'=>e=.returned (.bool false)∧Below w.heap.size w w':=by
 obtain ⟨z1,c1,rfl,_⟩:=hv
 exact qVer_0 hP
theorem ecdsaNone_walk {w:World} (hT:Tab w) (hH:Sh.Tab w) (hE:De.Tab w) {D n c m k:Nat} {z y:Option Addr} {f g:Nat→Nat} (hD:D<2 ^ 256) (hba:BA w z n f) (hc:n≤c∧c≤maxLen) (hbj:BA w y m g) (hk:m≤k∧k≤maxLen):Calls Tryz.prog 7 [.agg (nc (((D:Nat):Int))).toArray,Value.slice (z) (n) (c),Value.slice (y) (m) (k)].toArray w fun e w'=>e=.returned (.bool true)∧Below w.heap.size w w':=by
 by_cases hn:300<n
 ·exact none_n hT hn
 by_cases hj:300<m
 ·exact none_m hT (by omega) hj
 cases hw:wi D with
 | false=>exact none_no hT hD (by omega) (by omega) hw (fun w1 hb=>qSign_no (hT.keep hb) (hH.keep hb) hD (hba.keep hb) hc.1 hc.2 (by omega) (by rw [nns_no hw];rfl))
 | true =>
  obtain ⟨X,_,hRP,hPP⟩:=dec_point hT hbj hk.1
  obtain ⟨Sg,_,_,hRS,hPS⟩:=der_both hE hbj hk.1 (by omega)
  obtain ⟨n3,l3,t3,hSg⟩:=sign_some hT hH hD hba hc.1 hc.2 (by omega)
  have hPb:=fun w1 (hb:Below w.heap.size w w1)=>qPubY (w:=w1) (hT.keep hb) hD hw
  have hV1:Sg=none→∀ w1 v F,Below w.heap.size w w1→(rdPd (ptL (mt wplus Wp.o wG D)).length (ptL (mt wplus Wp.o wG D))).p v F w1→Calls Tryz.prog 14 [v,Value.slice (z) (n) (c),Value.slice (y) (m) (k)].toArray w1 fun e w'=>e=.returned (.bool false)∧Below w1.heap.size w1 w':=fun e w1 v F hb hv=>ver_sig (hT.keep hb) (hH.keep hb) (hba.keep hb) hc.1 hc.2 (by omega) hv (fun w2 hb2=>by rw [← e];exact hPS w2 (K.call hb hb2))
  have hV2:X=none→∀ w1 v F,Below w.heap.size w w1→(rdPd n3 l3).p v F w1→Calls Tryz.prog 14 [Value.slice (y) (m) (k),Value.slice (z) (n) (c),v].toArray w1 fun e w'=>e=.returned (.bool false)∧Below w1.heap.size w1 w':=fun e w1 v F hb hv=>ver_key hv (fun w2 hb2=>by rw [← e];exact hPP w2 (K.call hb hb2))
  cases Sg with
  | none =>
   cases X with
   | none=>exact none_00 hT (by omega) (by omega) hPb hSg hRS hRP (hV1 rfl) (hV2 rfl)
   | some a=>exact none_01 hT (by omega) (by omega) hPb hSg hRS hRP (hV1 rfl)
  | some q =>
   cases X with
   | none=>exact none_10 hT (by omega) (by omega) hPb hSg hRS hRP (hV2 rfl)
   | some a=>exact none_11 hT (by omega) (by omega) hPb hSg hRS hRP
end Go.Proofs.YtmigakanbeckpaaGreatDoor
namespace Go.Proofs.YtmigakanbeckpaaGreatDoor
set_option maxRecDepth 100000
open Go.ChangeShapes Go.WideShapes Go.ChangeAt Go.RowKit
theorem own:ownKnob Tryz.prog.godebug=none:=by kernel_rfl
theorem cellsU64:Tryz.prog.cellsOf 22=1:=by kernel_rfl
theorem cellsNat:Tryz.prog.cellsOf 24=4:=by kernel_rfl
theorem word_of_wf {x:Int} (h:(Lit.int .u64 x).wf=true):0≤x∧x<18446744073709551616:=by
 simp [Lit.wf,IntKind.min,IntKind.max,IntKind.signed,IntKind.bits] at h
 exact ⟨by omega,by omega⟩
theorem wf_of_word {x:Int} (h:0≤x∧x<18446744073709551616):(Lit.int .u64 x).wf=true:=by
 simp [Lit.wf,IntKind.min,IntKind.max,IntKind.signed,IntKind.bits]
 omega
theorem list4 {α:Type} (l:List α) (h:(⟨l⟩:Array α).size=4):∃ a b c d,l=[a,b,c,d]:=by
 match l,h with
 | [a,b,c,d],_=>exact ⟨a,b,c,d,rfl⟩
theorem open_nat {H:Type} {enc:TypeId × Value→H} {W:World} {base:Nat} {v:Value} {d:DataW H} {p:List MemPlace}
  (hv:Value.okWide Tryz.prog W .any base 24 v) (h:DataW.Trod enc Tryz.prog W 0 (fun _=>true) true 24 v d p) :
  ∃ a,Num a∧v=.agg #[.int .u64 (L 0 a),.int .u64 (L 1 a),.int .u64 (L 2 a),.int .u64 (L 3 a)]∧d=DataW.agg [.lit (.int .u64 (L 0 a)),.lit (.int .u64 (L 1 a)),.lit (.int .u64 (L 2 a)),.lit (.int .u64 (L 3 a))]∧p=[]:=by
 obtain ⟨cs,rfl,hsz,_⟩:∃ cs,v=.agg cs∧cs.size=Tryz.prog.cellsOf 24∧Row.okWide Tryz.prog W .any base 24 cs:=by
  simpa [Value.okWide,Tryz.underlying24] using hv
 rw [cellsNat] at hsz
 obtain ⟨l⟩:=cs
 obtain ⟨c0,c1,c2,c3,rfl⟩:=list4 l hsz
 obtain ⟨fuel,hf⟩:=h
 obtain ⟨y0,y1,y2,y3,m,hx,hy0,hy1,hy2,hy3⟩:=trod_array4 Tryz.underlying24 cellsU64 hf
 obtain ⟨x0,e0,rfl,w0⟩:=DataW.trod_int Tryz.underlying22 hy0
 obtain ⟨x1,e1,rfl,w1⟩:=DataW.trod_int Tryz.underlying22 hy1
 obtain ⟨x2,e2,rfl,w2⟩:=DataW.trod_int Tryz.underlying22 hy2
 obtain ⟨x3,e3,rfl,w3⟩:=DataW.trod_int Tryz.underlying22 hy3
 simp at e0 e1 e2 e3
 subst e0 e1 e2 e3
 simp only [Prod.mk.injEq] at hx
 obtain ⟨rfl,rfl⟩:=hx
 obtain ⟨a,ha,rfl,rfl,rfl,rfl⟩:=num_of x0 x1 x2 x3 (word_of_wf w0) (word_of_wf w1) (word_of_wf w2) (word_of_wf w3)
 exact ⟨a,ha,rfl,rfl,rfl⟩
theorem shut_nat {H:Type} {enc:TypeId × Value→H} (W:World) (sp:Nat→Bool) (a:Int) :
  DataW.Trod enc Tryz.prog W 0 sp true 24 (.agg #[.int .u64 (L 0 a),.int .u64 (L 1 a),.int .u64 (L 2 a),.int .u64 (L 3 a)]) (DataW.agg [.lit (.int .u64 (L 0 a)),.lit (.int .u64 (L 1 a)),.lit (.int .u64 (L 2 a)),.lit (.int .u64 (L 3 a))]) []:=by
 have w0:=wf_of_word ⟨L_lo 0 a,L_hi 0 a⟩
 have w1:=wf_of_word ⟨L_lo 1 a,L_hi 1 a⟩
 have w2:=wf_of_word ⟨L_lo 2 a,L_hi 2 a⟩
 have w3:=wf_of_word ⟨L_lo 3 a,L_hi 3 a⟩
 exact ⟨2,by simp [DataW.trod,Value.cells,Tryz.underlying24,Tryz.underlying22,cellsNat,cellsU64,w0,w1,w2,w3,show List.range 4=[0,1,2,3] from rfl]⟩
theorem Tryz.laidOut:laidOutB Tryz.prog=true:=by kernel_rfl
theorem cellsU8:Tryz.prog.cellsOf 5=1:=by kernel_rfl
theorem natOf {a:Int} (h:Num a):∃ A:Nat,a=(A:Int)∧A<2 ^ 256:=⟨a.toNat,by have:=h.lo;omega,by have h2:=h.hi;have:=h.lo;unfold M at h2;omega⟩
theorem open_bytes {H:Type} {enc:TypeId × Value→H} {W:World} {base:Nat} {v:Value} {d:DataW H} {p:List MemPlace}
  (hv:Value.okWide Tryz.prog W .any base 25 v) (h:DataW.Trod enc Tryz.prog W 0 (fun _=>true) true 25 v d p) :
  ∃ a n c f,v=.slice a n c∧BA W a n f∧n≤c∧c≤maxLen:=by
 obtain ⟨a0,len,cap,rfl⟩:=okWide_slice Tryz.underlying25 hv
 obtain ⟨fuel,hf⟩:=h
 rcases open_ints Tryz.underlying25 Tryz.underlying5 cellsU8 hf with ⟨hcs,hx⟩ | ⟨a,len',cap',zs,hcs,_,hl,hm,hz,hx,hcell,hwz⟩
 ·simp [Value.cells] at hcs
  obtain ⟨rfl,rfl,rfl⟩:=hcs
  exact ⟨none,0,0,fun _=>0,rfl,⟨fun _=>by omega,Or.inl rfl⟩,by omega,by unfold maxLen;omega⟩
 ·simp [Value.cells] at hcs
  obtain ⟨rfl,rfl,rfl⟩:=hcs
  simp only [if_true] at hz
  have hr:∀ i,0≤zs.getD i 0∧zs.getD i 0<256:=fun i=>by
   have h:=range_u8 hwz i
   simp only [List.getD_eq_getElem?_getD]
   omega
  refine ⟨some a,len,cap,fun i=>(zs.getD i 0).toNat,rfl,⟨fun i=>by have:=hr i;omega,?_⟩,hl,hm⟩
  by_cases h0:len=0
  ·exact Or.inl h0
  ·obtain ⟨b,off,rfl,hc⟩:=ints_at hcell (by omega)
   exact Or.inr ⟨b,off,rfl,⟨fun i hi=>by
    have:=hr i
    rw [hc i (by omega),Int.toNat_of_nonneg this.1]⟩⟩
theorem gMod : Tryz.prog.globalNamed "chronicle/field.moduli" = some 1 := by kernel_rfl
theorem tMod:(Tryz.prog.globals[1]?).map (·.type)=some 129:=by kernel_rfl
theorem gB : Tryz.prog.globalNamed "chronicle/p256.curveB" = some 0 := by kernel_rfl
theorem tB:(Tryz.prog.globals[0]?).map (·.type)=some 24:=by kernel_rfl
theorem gFirst : Tryz.prog.globalNamed "chronicle/sha256.first" = some 2 := by kernel_rfl
theorem tFirst:(Tryz.prog.globals[2]?).map (·.type)=some 111:=by kernel_rfl
theorem gK : Tryz.prog.globalNamed "chronicle/sha256.constants" = some 4 := by kernel_rfl
theorem tK:(Tryz.prog.globals[4]?).map (·.type)=some 151:=by kernel_rfl
theorem gErr : Tryz.prog.globalNamed "chronicle/der.errByte" = some 3 := by kernel_rfl
theorem tErr:(Tryz.prog.globals[3]?).map (·.type)=some 141:=by kernel_rfl
theorem cellsModuli:Tryz.prog.cellsOf 129=16:=by kernel_rfl
theorem cellsMod:Tryz.prog.cellsOf 107=4:=by kernel_rfl
theorem cellsU32:Tryz.prog.cellsOf 109=1:=by kernel_rfl
theorem cellsSt:Tryz.prog.cellsOf 111=8:=by kernel_rfl
theorem cellsW64:Tryz.prog.cellsOf 151=64:=by kernel_rfl
theorem list16 {α:Type} (l:List α) (h:l.length=16):∃ x0 x1 x2 x3 x4 x5 x6 x7 x8 x9 x10 x11 x12 x13 x14 x15,l=[x0,x1,x2,x3,x4,x5,x6,x7,x8,x9,x10,x11,x12,x13,x14,x15]:=by
 match l,h with
 | [x0,x1,x2,x3,x4,x5,x6,x7,x8,x9,x10,x11,x12,x13,x14,x15],_=>exact ⟨x0,x1,x2,x3,x4,x5,x6,x7,x8,x9,x10,x11,x12,x13,x14,x15,rfl⟩
theorem cells_of_table {H:Type} {enc:TypeId × Value→H} {W:World} {sp:Nat→Bool} {held:Bool} {fuel:Nat} {l:List Value} {p:List MemPlace}
  (h:DataW.trod enc Tryz.prog W 0 sp held fuel 129 l=some (Rows.laid_chronicle_field_moduli,p)):l=[.int .u64 18446744073709551615,.int .u64 4294967295,.int .u64 0,.int .u64 18446744069414584321,.int .u64 17562291160714782033,.int .u64 13611842547513532036,.int .u64 18446744073709551615,.int .u64 18446744069414584320,.int .u64 18446744073709551597,.int .u64 18446744073709551615,.int .u64 18446744073709551615,.int .u64 9223372036854775807,.int .u64 6346243789798364141,.int .u64 1503914060200516822,.int .u64 0,.int .u64 1152921504606846976]:=by
 cases fuel with
 | zero=>simp [DataW.trod] at h
 | succ fuel =>
  simp only [DataW.trod,Tryz.underlying129,cellsModuli,cellsMod] at h
  split at h
  ·rename_i hl
   obtain ⟨x0,x1,x2,x3,x4,x5,x6,x7,x8,x9,x10,x11,x12,x13,x14,x15,rfl⟩:=list16 l (by simpa using hl)
   rw [show List.range 4=[0,1,2,3] from rfl] at h
   simp only [Option.map_eq_some_iff,List.mapM_cons,List.mapM_nil,Option.bind_eq_bind,Option.bind_eq_some_iff,Option.pure_def,Option.some.injEq] at h
   obtain ⟨ys,⟨y0,h0,_,⟨y1,h1,_,⟨y2,h2,_,⟨y3,h3,_,rfl,rfl⟩,rfl⟩,rfl⟩,rfl⟩,hx⟩:=h
   obtain ⟨d0,p0⟩:=y0
   obtain ⟨d1,p1⟩:=y1
   obtain ⟨d2,p2⟩:=y2
   obtain ⟨d3,p3⟩:=y3
   simp only [Rows.laid_chronicle_field_moduli,List.map_cons,List.map_nil,Prod.mk.injEq,DataW.agg.injEq,List.cons.injEq,and_true] at hx
   obtain ⟨⟨e0,e1,e2,e3⟩,_⟩:=hx
   subst e0 e1 e2 e3
   have g0:=Lib.cells_of_tab (k:=.u64) (zs:=[18446744073709551615,4294967295,0,18446744069414584321]) Tryz.underlying107 Tryz.underlying22 cellsU64 cellsMod h0
   have g1:=Lib.cells_of_tab (k:=.u64) (zs:=[17562291160714782033,13611842547513532036,18446744073709551615,18446744069414584320]) Tryz.underlying107 Tryz.underlying22 cellsU64 cellsMod h1
   have g2:=Lib.cells_of_tab (k:=.u64) (zs:=[18446744073709551597,18446744073709551615,18446744073709551615,9223372036854775807]) Tryz.underlying107 Tryz.underlying22 cellsU64 cellsMod h2
   have g3:=Lib.cells_of_tab (k:=.u64) (zs:=[6346243789798364141,1503914060200516822,0,1152921504606846976]) Tryz.underlying107 Tryz.underlying22 cellsU64 cellsMod h3
   simp at g0 g1 g2 g3
   simp [g0,g1,g2,g3]
  ·cases h
theorem first_at:∀ i,i<8→([1779033703,3144134277,1013904242,2773480762,1359893119,2600822924,528734635,1541459225]:List Int).getD i 0=Sh.wn (Sh.start.w i):=by decide +kernel
theorem k_at:∀ i,i<64→([1116352408,1899447441,3049323471,3921009573,961987163,1508970993,2453635748,2870763221,3624381080,310598401,607225278,1426881987,1925078388,2162078206,2614888103,3248222580,3835390401,4022224774,264347078,604807628,770255983,1249150122,1555081692,1996064986,2554220882,2821834349,2952996808,3210313671,3336571891,3584528711,113926993,338241895,666307205,773529912,1294757372,1396182291,1695183700,1986661051,2177026350,2456956037,2730485921,2820302411,3259730800,3345764771,3516065817,3600352804,4094571909,275423344,430227734,506948616,659060556,883997877,958139571,1322822218,1537002063,1747873779,1955562222,2024104815,2227730452,2361852424,2428436474,2756734187,3204031479,3329325298]:List Int).getD i 0=Sh.wn (Sh.kW i):=by decide +kernel
theorem cellsSErr:Tryz.prog.cellsOf 179=1:=by kernel_rfl
theorem cellsStr:Tryz.prog.cellsOf 9=1:=by kernel_rfl
theorem star : "*" ++ "errors.errorString" = "*errors.errorString" := by decide
theorem rowErr (u : TypeId) (h : Tryz.prog.typeName? 3 u = some "*errors.errorString") : u = 163 :=
 typeName_ptr_named (nm := "errors.errorString") (by rw [star]; kernel_rfl) (by kernel_rfl) (by decide) u (by rw [star]; exact h)
def laid1 : List (String × DataW Unit) := [("chronicle/sha256.first", Rows.laid_chronicle_sha256_first), ("chronicle/sha256.constants", Rows.laid_chronicle_sha256_constants), ("chronicle/field.moduli", Rows.laid_chronicle_field_moduli), ("chronicle/p256.curveB", Rows.laid_chronicle_p256_curveB), ("chronicle/der.errByte", Rows.laid_chronicle_der_errByte)]
theorem tab_of_laid {W:World} (h:laidMetH Tryz.prog laid1 W):Tab W∧Sh.Tab W∧De.Tab W:=by
 rw [MakeChecks.laidMetH_plain _ _ _ (by kernel_rfl)] at h
 have hf : Lib.TabIs Tryz.prog W "chronicle/sha256.first" .u32 [1779033703, 3144134277, 1013904242, 2773480762, 1359893119, 2600822924, 528734635, 1541459225] := Lib.tabIs_of_head (rest := [("chronicle/sha256.constants", Rows.laid_chronicle_sha256_constants), ("chronicle/field.moduli", Rows.laid_chronicle_field_moduli), ("chronicle/p256.curveB", Rows.laid_chronicle_p256_curveB), ("chronicle/der.errByte", Rows.laid_chronicle_der_errByte)]) gFirst tFirst Tryz.underlying111 Tryz.underlying109 cellsU32 cellsSt h
 have h0x:=h.tail
 have hk : Lib.TabIs Tryz.prog W "chronicle/sha256.constants" .u32 [1116352408, 1899447441, 3049323471, 3921009573, 961987163, 1508970993, 2453635748, 2870763221, 3624381080, 310598401, 607225278, 1426881987, 1925078388, 2162078206, 2614888103, 3248222580, 3835390401, 4022224774, 264347078, 604807628, 770255983, 1249150122, 1555081692, 1996064986, 2554220882, 2821834349, 2952996808, 3210313671, 3336571891, 3584528711, 113926993, 338241895, 666307205, 773529912, 1294757372, 1396182291, 1695183700, 1986661051, 2177026350, 2456956037, 2730485921, 2820302411, 3259730800, 3345764771, 3516065817, 3600352804, 4094571909, 275423344, 430227734, 506948616, 659060556, 883997877, 958139571, 1322822218, 1537002063, 1747873779, 1955562222, 2024104815, 2227730452, 2361852424, 2428436474, 2756734187, 3204031479, 3329325298] := Lib.tabIs_of_head (rest := [("chronicle/field.moduli", Rows.laid_chronicle_field_moduli), ("chronicle/p256.curveB", Rows.laid_chronicle_p256_curveB), ("chronicle/der.errByte", Rows.laid_chronicle_der_errByte)]) gK tK Tryz.underlying151 Tryz.underlying109 cellsU32 cellsW64 h0x
 have h1x:=h0x.tail
 have hmo:=h1x
 have h2x:=h1x.tail
 have hB : Lib.TabIs Tryz.prog W "chronicle/p256.curveB" .u64 [4309448131093880907, 7285987128567378166, 12964664127075681980, 6540974713487397863] := Lib.tabIs_of_head (rest := [("chronicle/der.errByte", Rows.laid_chronicle_der_errByte)]) gB tB Tryz.underlying24 Tryz.underlying22 cellsU64 cellsNat h2x
 have h3x:=h2x.tail
 obtain ⟨a0,s0,hv0,-,-,-⟩:=laid_sentinel h3x gErr tErr Tryz.underlying141 rowErr Tryz.underlying163 Tryz.underlying179 rfl rfl Tryz.underlying9 cellsSErr cellsStr
 obtain ⟨ps,⟨g,t,cs,fuel,p,q,hg,ht,hvar,hd,_,_⟩,_⟩:=hmo
 obtain rfl:=Option.some.inj (gMod.symm.trans hg)
 obtain rfl:=Option.some.inj (tMod.symm.trans ht)
 have hcs:=cells_of_table hd
 obtain ⟨l⟩:=cs
 simp only at hcs
 subst hcs
 refine ⟨?_,?_,?_⟩
 ·exact ⟨World.var?_cell hg hvar 0,World.var?_cell hg hvar 1,World.var?_cell hg hvar 2,World.var?_cell hg hvar 3,World.var?_cell hg hvar 4,World.var?_cell hg hvar 5,World.var?_cell hg hvar 6,World.var?_cell hg hvar 7,World.var?_cell hg hvar 8,World.var?_cell hg hvar 9,World.var?_cell hg hvar 10,World.var?_cell hg hvar 11,World.var?_cell hg hvar 12,World.var?_cell hg hvar 13,World.var?_cell hg hvar 14,World.var?_cell hg hvar 15,hB.cell gB 0 (by decide),hB.cell gB 1 (by decide),hB.cell gB 2 (by decide),hB.cell gB 3 (by decide)⟩
 ·exact ⟨fun i hi=>by rw [← first_at i hi];exact hf.cell gFirst i hi,fun i hi=>by rw [← k_at i hi];exact hk.cell gK i hi⟩
 ·exact ⟨_,_,by have h0:=World.var?_cell gErr hv0 0;simpa using h0⟩
theorem door_met (os:Os) (args:Array Value):laidMetH Tryz.prog laid1 ((World.doorLaid Tryz.prog 200 os).forCall (fun _ _=>0) ⟨#[],args,[]⟩).memory :=
 laidMetH_of_parts3 (fuel:=8) (laidMet_of_run' 8 (by kernel_rfl) (by kernel_rfl)) (by kernel_rfl) (by kernel_rfl)
end Go.Proofs.YtmigakanbeckpaaGreatDoor
