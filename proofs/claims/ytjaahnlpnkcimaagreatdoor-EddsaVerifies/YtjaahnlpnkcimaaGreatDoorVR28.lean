/- EddsaVerifies, walked. How the parameters, and the listed variables, are read before the call. -/
import Derived.Test.YtjaahnlpnkcimaaGreatDoorVR27
import Derived.Test.YtjaahnlpnkcimaaGreatDoorVR26
import Derived.Test.YtjaahnlpnkcimaaGreatDoorTie
import Derived.Test.YtjaahnlpnkcimaaGreatDoorCards
import Derived.ProofKit
import Derived.LaidMore
import Derived.MakeChecks
import Derived.Lib.LaidTab
import Derived.Stop.LaidErr
import Derived.Laws.IdiomArrays
import Derived.OpenShut
import Derived.Carry
import Derived.ChangeMaps5
import Derived.Stop.Joined
set_option maxRecDepth 100000
set_option maxHeartbeats 4000000
namespace Go.Proofs.YtjaahnlpnkcimaaGreatDoor
set_option maxRecDepth 100000
open Go.RowKit
theorem lVer_long0 {w:World} (hT:Tab w) (hH:Sx.Tab w) {n0 c0:Nat} {z0:Option Addr} {f0:Nat→Nat} (_hb0:BA w z0 n0 f0) (_hc0:n0≤c0) (_hm0:c0≤maxLen) {n1 c1:Nat} {z1:Option Addr} {f1:Nat→Nat} (_hb1:BA w z1 n1 f1) (_hc1:n1≤c1) (_hm1:c1≤maxLen) {n2 c2:Nat} {z2:Option Addr} {f2:Nat→Nat} (_hb2:BA w z2 n2 f2) (_hc2:n2≤c2) (_hm2:c2≤maxLen) (g0:300<n0):Calls Tryz.prog 4 [Value.slice (z0) (n0) (c0),Value.slice (z1) (n1) (c1),Value.slice (z2) (n2) (c2)].toArray w fun e w'=>e=.returned (.bool true)∧Below w.heap.size w w':=by
 refine enter (args:=[Value.slice (z0) (n0) (c0),Value.slice (z1) (n1) (c1),Value.slice (z2) (n2) (c2)]) Tryz.func4 rfl 34 rfl (lk rfl) (fun a h=>?_)
 refine a_region TTE h hm [] [eS 6 _] (by kernel_rfl) ⟨rfl,T0⟩ [(0,.val (Value.slice (z0) (n0) (c0))),(1,.val (Value.slice (z1) (n1) (c1))),(2,.val (Value.slice (z2) (n2) (c2)))] [] ⟨rfl,rfl,rfl,T0⟩ T0 rfl (fun a w h=>?_)
 refine wp_seq ?_
 refine a_region TTE h hm [0,4,5] [eS 7 (.val (Value.bool true)),eS 8 _,eS 9 _,eS 10 _,eS 11 (.val (Value.int .i64 ((n0:Nat):Int))),eS 12 (.val (Value.bool true)),eS 13 _,eS 14 _,eS 15 _,eS 16 _,eS 17 _,eS 18 _,eS 19 _,eS 20 _,eS 21 _,eS 22 _,eS 23 _] (by kernel_rfl) ⟨fun L u=>u_call u (gd0 rfl) _ rfl _ _ _ rfl [] rfl (cZ5 _) _ (fun w hb=>awk (hT.keep (Bs.kp_of hb)) (hH.keep (Bs.kp_of hb))),rfl,rfl,rfl,fun L u=>u_lenV u (gd1 u 2 false rfl 9 rfl (lk rfl) rfl) 11 rfl (.tmp 10) 24 rfl rfl Tryz.underlying24,fun L u=>u_bin u (gd1 u 2 false rfl 9 rfl (lk rfl) rfl) _ rfl _ _ _ _ _ rfl rfl rfl (eqg_int _ _ _ _ _ _ _ _) _ (yes_of (fun w=>i_gtr _ _ _ _ w) (by omega)),rfl,rfl,rfl,rfl,rfl,rfl,rfl,rfl,rfl,rfl,rfl,T0⟩ [(0,_),(1,_),(2,_),(23,.val (Value.bool true))] [] ⟨rfl,rfl,rfl,rfl,T0⟩ T0 rfl (fun a w h=>?_)
 refine go_cond h true rfl (fun ht=>?_) (fun hf=>?_)
 case refine_2=>cases hf
 refine a_region TTE h hm [0] [eS 24 (.val (Value.bool true)),eS 6 _] (by kernel_rfl) ⟨fun L u=>u_call u (gd0 rfl) _ rfl _ _ _ rfl [] rfl (cZ5 _) _ (fun w hb=>awk (hT.keep (Bs.kp_of hb)) (hH.keep (Bs.kp_of hb))),rfl,T0⟩ [(6,.val (Value.bool true))] [] ⟨rfl,T0⟩ T0 rfl (fun a w h=>?_)
 refine wp_ret ?_
 refine then_ret ?_
 refine ret_slot h 6 rfl (lk rfl) (Value.bool true) rfl ?_
 exact ⟨rfl,h.grows⟩
theorem lVer_long1 {w:World} (hT:Tab w) (hH:Sx.Tab w) {n0 c0:Nat} {z0:Option Addr} {f0:Nat→Nat} (_hb0:BA w z0 n0 f0) (_hc0:n0≤c0) (_hm0:c0≤maxLen) {n1 c1:Nat} {z1:Option Addr} {f1:Nat→Nat} (_hb1:BA w z1 n1 f1) (_hc1:n1≤c1) (_hm1:c1≤maxLen) {n2 c2:Nat} {z2:Option Addr} {f2:Nat→Nat} (_hb2:BA w z2 n2 f2) (_hc2:n2≤c2) (_hm2:c2≤maxLen) (g0:n0≤300) (g1:300<n1):Calls Tryz.prog 4 [Value.slice (z0) (n0) (c0),Value.slice (z1) (n1) (c1),Value.slice (z2) (n2) (c2)].toArray w fun e w'=>e=.returned (.bool true)∧Below w.heap.size w w':=by
 refine enter (args:=[Value.slice (z0) (n0) (c0),Value.slice (z1) (n1) (c1),Value.slice (z2) (n2) (c2)]) Tryz.func4 rfl 34 rfl (lk rfl) (fun a h=>?_)
 refine a_region TTE h hm [] [eS 6 _] (by kernel_rfl) ⟨rfl,T0⟩ [(0,.val (Value.slice (z0) (n0) (c0))),(1,.val (Value.slice (z1) (n1) (c1))),(2,.val (Value.slice (z2) (n2) (c2)))] [] ⟨rfl,rfl,rfl,T0⟩ T0 rfl (fun a w h=>?_)
 refine wp_seq ?_
 refine a_region TTE h hm [0,4,5,9,10] [eS 7 (.val (Value.bool true)),eS 8 _,eS 9 _,eS 10 _,eS 11 (.val (Value.int .i64 ((n0:Nat):Int))),eS 12 (.val (Value.bool false)),eS 13 _,eS 14 _,eS 15 _,eS 16 (.val (Value.int .i64 ((n1:Nat):Int))),eS 17 (.val (Value.bool true)),eS 18 _,eS 19 _,eS 20 _,eS 21 _,eS 22 _,eS 23 _] (by kernel_rfl) ⟨fun L u=>u_call u (gd0 rfl) _ rfl _ _ _ rfl [] rfl (cZ5 _) _ (fun w hb=>awk (hT.keep (Bs.kp_of hb)) (hH.keep (Bs.kp_of hb))),rfl,rfl,rfl,fun L u=>u_lenV u (gd1 u 2 false rfl 9 rfl (lk rfl) rfl) 11 rfl (.tmp 10) 24 rfl rfl Tryz.underlying24,fun L u=>u_bin u (gd1 u 2 false rfl 9 rfl (lk rfl) rfl) _ rfl _ _ _ _ _ rfl rfl rfl (eqg_int _ _ _ _ _ _ _ _) _ (no_of (fun w=>i_gtr _ _ _ _ w) (by omega)),rfl,rfl,rfl,fun L u=>u_lenV u (gd1 u 7 false rfl 14 rfl (lk rfl) rfl) 16 rfl (.tmp 15) 24 rfl rfl Tryz.underlying24,fun L u=>u_bin u (gd1 u 7 false rfl 14 rfl (lk rfl) rfl) _ rfl _ _ _ _ _ rfl rfl rfl (eqg_int _ _ _ _ _ _ _ _) _ (yes_of (fun w=>i_gtr _ _ _ _ w) (by omega)),rfl,rfl,rfl,rfl,rfl,rfl,T0⟩ [(0,_),(1,_),(2,_),(23,.val (Value.bool true))] [] ⟨rfl,rfl,rfl,rfl,T0⟩ T0 rfl (fun a w h=>?_)
 refine go_cond h true rfl (fun ht=>?_) (fun hf=>?_)
 case refine_2=>cases hf
 refine a_region TTE h hm [0] [eS 24 (.val (Value.bool true)),eS 6 _] (by kernel_rfl) ⟨fun L u=>u_call u (gd0 rfl) _ rfl _ _ _ rfl [] rfl (cZ5 _) _ (fun w hb=>awk (hT.keep (Bs.kp_of hb)) (hH.keep (Bs.kp_of hb))),rfl,T0⟩ [(6,.val (Value.bool true))] [] ⟨rfl,T0⟩ T0 rfl (fun a w h=>?_)
 refine wp_ret ?_
 refine then_ret ?_
 refine ret_slot h 6 rfl (lk rfl) (Value.bool true) rfl ?_
 exact ⟨rfl,h.grows⟩
theorem lVer_long2 {w:World} (hT:Tab w) (hH:Sx.Tab w) {n0 c0:Nat} {z0:Option Addr} {f0:Nat→Nat} (_hb0:BA w z0 n0 f0) (_hc0:n0≤c0) (_hm0:c0≤maxLen) {n1 c1:Nat} {z1:Option Addr} {f1:Nat→Nat} (_hb1:BA w z1 n1 f1) (_hc1:n1≤c1) (_hm1:c1≤maxLen) {n2 c2:Nat} {z2:Option Addr} {f2:Nat→Nat} (_hb2:BA w z2 n2 f2) (_hc2:n2≤c2) (_hm2:c2≤maxLen) (g0:n0≤300) (g1:n1≤300) (g2:300<n2):Calls Tryz.prog 4 [Value.slice (z0) (n0) (c0),Value.slice (z1) (n1) (c1),Value.slice (z2) (n2) (c2)].toArray w fun e w'=>e=.returned (.bool true)∧Below w.heap.size w w':=by
 refine enter (args:=[Value.slice (z0) (n0) (c0),Value.slice (z1) (n1) (c1),Value.slice (z2) (n2) (c2)]) Tryz.func4 rfl 34 rfl (lk rfl) (fun a h=>?_)
 refine a_region TTE h hm [] [eS 6 _] (by kernel_rfl) ⟨rfl,T0⟩ [(0,.val (Value.slice (z0) (n0) (c0))),(1,.val (Value.slice (z1) (n1) (c1))),(2,.val (Value.slice (z2) (n2) (c2)))] [] ⟨rfl,rfl,rfl,T0⟩ T0 rfl (fun a w h=>?_)
 refine wp_seq ?_
 refine a_region TTE h hm [0,4,5,9,10,14,15] [eS 7 (.val (Value.bool true)),eS 8 _,eS 9 _,eS 10 _,eS 11 (.val (Value.int .i64 ((n0:Nat):Int))),eS 12 (.val (Value.bool false)),eS 13 _,eS 14 _,eS 15 _,eS 16 (.val (Value.int .i64 ((n1:Nat):Int))),eS 17 (.val (Value.bool false)),eS 18 _,eS 19 _,eS 20 _,eS 21 (.val (Value.int .i64 ((n2:Nat):Int))),eS 22 (.val (Value.bool true)),eS 23 _] (by kernel_rfl) ⟨fun L u=>u_call u (gd0 rfl) _ rfl _ _ _ rfl [] rfl (cZ5 _) _ (fun w hb=>awk (hT.keep (Bs.kp_of hb)) (hH.keep (Bs.kp_of hb))),rfl,rfl,rfl,fun L u=>u_lenV u (gd1 u 2 false rfl 9 rfl (lk rfl) rfl) 11 rfl (.tmp 10) 24 rfl rfl Tryz.underlying24,fun L u=>u_bin u (gd1 u 2 false rfl 9 rfl (lk rfl) rfl) _ rfl _ _ _ _ _ rfl rfl rfl (eqg_int _ _ _ _ _ _ _ _) _ (no_of (fun w=>i_gtr _ _ _ _ w) (by omega)),rfl,rfl,rfl,fun L u=>u_lenV u (gd1 u 7 false rfl 14 rfl (lk rfl) rfl) 16 rfl (.tmp 15) 24 rfl rfl Tryz.underlying24,fun L u=>u_bin u (gd1 u 7 false rfl 14 rfl (lk rfl) rfl) _ rfl _ _ _ _ _ rfl rfl rfl (eqg_int _ _ _ _ _ _ _ _) _ (no_of (fun w=>i_gtr _ _ _ _ w) (by omega)),rfl,rfl,rfl,fun L u=>u_lenV u (gd1 u 12 false rfl 19 rfl (lk rfl) rfl) 21 rfl (.tmp 20) 24 rfl rfl Tryz.underlying24,fun L u=>u_bin u (gd1 u 12 false rfl 19 rfl (lk rfl) rfl) _ rfl _ _ _ _ _ rfl rfl rfl (eqg_int _ _ _ _ _ _ _ _) _ (yes_of (fun w=>i_gtr _ _ _ _ w) (by omega)),rfl,T0⟩ [(0,_),(1,_),(2,_),(23,.val (Value.bool true))] [] ⟨rfl,rfl,rfl,rfl,T0⟩ T0 rfl (fun a w h=>?_)
 refine go_cond h true rfl (fun ht=>?_) (fun hf=>?_)
 case refine_2=>cases hf
 refine a_region TTE h hm [0] [eS 24 (.val (Value.bool true)),eS 6 _] (by kernel_rfl) ⟨fun L u=>u_call u (gd0 rfl) _ rfl _ _ _ rfl [] rfl (cZ5 _) _ (fun w hb=>awk (hT.keep (Bs.kp_of hb)) (hH.keep (Bs.kp_of hb))),rfl,T0⟩ [(6,.val (Value.bool true))] [] ⟨rfl,T0⟩ T0 rfl (fun a w h=>?_)
 refine wp_ret ?_
 refine then_ret ?_
 refine ret_slot h 6 rfl (lk rfl) (Value.bool true) rfl ?_
 exact ⟨rfl,h.grows⟩
theorem lVer_at {w:World} (hT:Tab w) (hH:Sx.Tab w) (hX:TabX w) {n0 c0:Nat} {z0:Option Addr} {f0:Nat→Nat} (hb0:BA w z0 n0 f0) (hc0:n0≤c0) (hm0:c0≤maxLen) {n1 c1:Nat} {z1:Option Addr} {f1:Nat→Nat} (hb1:BA w z1 n1 f1) (hc1:n1≤c1) (hm1:c1≤maxLen) {n2 c2:Nat} {z2:Option Addr} {f2:Nat→Nat} (hb2:BA w z2 n2 f2) (hc2:n2≤c2) (hm2:c2≤maxLen) (g0:n0≤300) (g1:n1≤300) (g2:n2≤300) {B:Bool} (hB:vOk (fl f0 n0) (fl f1 n1) (fl f2 n2)=B):Calls Tryz.prog 4 [Value.slice (z0) (n0) (c0),Value.slice (z1) (n1) (c1),Value.slice (z2) (n2) (c2)].toArray w fun e w'=>e=.returned (.bool true)∧Below w.heap.size w w':=by
 refine enter (args:=[Value.slice (z0) (n0) (c0),Value.slice (z1) (n1) (c1),Value.slice (z2) (n2) (c2)]) Tryz.func4 rfl 34 rfl (lk rfl) (fun a h=>?_)
 refine a_region TTE h hm [] [eS 6 _] (by kernel_rfl) ⟨rfl,T0⟩ [(0,.val (Value.slice (z0) (n0) (c0))),(1,.val (Value.slice (z1) (n1) (c1))),(2,.val (Value.slice (z2) (n2) (c2)))] [] ⟨rfl,rfl,rfl,T0⟩ T0 rfl (fun a w h=>?_)
 refine wp_seq ?_
 refine a_region TTE h hm [0,4,5,9,10,14,15] [eS 7 (.val (Value.bool true)),eS 8 _,eS 9 _,eS 10 _,eS 11 (.val (Value.int .i64 ((n0:Nat):Int))),eS 12 (.val (Value.bool false)),eS 13 _,eS 14 _,eS 15 _,eS 16 (.val (Value.int .i64 ((n1:Nat):Int))),eS 17 (.val (Value.bool false)),eS 18 _,eS 19 _,eS 20 _,eS 21 (.val (Value.int .i64 ((n2:Nat):Int))),eS 22 (.val (Value.bool false)),eS 23 _] (by kernel_rfl) ⟨fun L u=>u_call u (gd0 rfl) _ rfl _ _ _ rfl [] rfl (cZ5 _) _ (fun w hb=>awk (hT.keep (Bs.kp_of hb)) (hH.keep (Bs.kp_of hb))),rfl,rfl,rfl,fun L u=>u_lenV u (gd1 u 2 false rfl 9 rfl (lk rfl) rfl) 11 rfl (.tmp 10) 24 rfl rfl Tryz.underlying24,fun L u=>u_bin u (gd1 u 2 false rfl 9 rfl (lk rfl) rfl) _ rfl _ _ _ _ _ rfl rfl rfl (eqg_int _ _ _ _ _ _ _ _) _ (no_of (fun w=>i_gtr _ _ _ _ w) (by omega)),rfl,rfl,rfl,fun L u=>u_lenV u (gd1 u 7 false rfl 14 rfl (lk rfl) rfl) 16 rfl (.tmp 15) 24 rfl rfl Tryz.underlying24,fun L u=>u_bin u (gd1 u 7 false rfl 14 rfl (lk rfl) rfl) _ rfl _ _ _ _ _ rfl rfl rfl (eqg_int _ _ _ _ _ _ _ _) _ (no_of (fun w=>i_gtr _ _ _ _ w) (by omega)),rfl,rfl,rfl,fun L u=>u_lenV u (gd1 u 12 false rfl 19 rfl (lk rfl) rfl) 21 rfl (.tmp 20) 24 rfl rfl Tryz.underlying24,fun L u=>u_bin u (gd1 u 12 false rfl 19 rfl (lk rfl) rfl) _ rfl _ _ _ _ _ rfl rfl rfl (eqg_int _ _ _ _ _ _ _ _) _ (no_of (fun w=>i_gtr _ _ _ _ w) (by omega)),rfl,T0⟩ [(0,_),(1,_),(2,_),(23,.val (Value.bool false))] [] ⟨rfl,rfl,rfl,rfl,T0⟩ T0 rfl (fun a w h=>?_)
 refine go_cond h false rfl (fun ht=>?_) (fun hf=>?_)
 case refine_1=>cases ht
 refine wp_skip ?_
 refine then_norm ?_
 refine a_region TTE h hm [3,7,8] [eS 25 _,eS 26 _,eS 27 _,eS 28 (.val (Value.bool B)),eS 29 _,eS 30 _,eS 31 _,eS 32 (.val (Value.bool B)),eS 33 (.val (Value.bool true)),eS 6 _] (by kernel_rfl) ⟨rfl,rfl,rfl,fun L u=>u_call u (gd0 rfl) _ rfl _ _ _ rfl [_,_,_] rfl (cZ11 _) (Value.bool B) (fun w hb=>by have q:=pVer (hT.keep (Bs.kp_of hb)) (hX.keep (Bs.kp_of hb)) (hH.keep (Bs.kp_of hb)) (pt_ba (hb0.keep (Bs.kp_of hb)) hc0 hm0) (pt_ba (hb1.keep (Bs.kp_of hb)) hc1 hm1) (pt_ba (hb2.keep (Bs.kp_of hb)) hc2 hm2) (by rw [fl_len,fl_len];omega);rw [hB] at q;exact q),rfl,rfl,rfl,fun L u=>u_call u (gd0 rfl) _ rfl _ _ _ rfl [_,_,_] rfl (cZ12 _) (Value.bool B) (fun w hb=>by have q:=rVer (hT.keep (Bs.kp_of hb)) (pt_ba (hb0.keep (Bs.kp_of hb)) hc0 hm0) (pt_ba (hb1.keep (Bs.kp_of hb)) hc1 hm1) (pt_ba (hb2.keep (Bs.kp_of hb)) hc2 hm2) (by rw [fl_len,fl_len];omega);rw [hB] at q;exact q),fun L u=>u_bin u (gd0 rfl) _ rfl _ _ _ _ _ rfl rfl rfl (eqg_bool _ _ _ _ _ _) _ (t_eqB _ Tryz.underlying4 B B true (by cases B <;> rfl)),rfl,T0⟩ [(6,.val (Value.bool true))] [] ⟨rfl,T0⟩ T0 rfl (fun a w h=>?_)
 refine wp_ret ?_
 refine ret_slot h 6 rfl (lk rfl) (Value.bool true) rfl ?_
 exact ⟨rfl,h.grows⟩
theorem lVer {w:World} (hT:Tab w) (hH:Sx.Tab w) (hX:TabX w) {n0 c0:Nat} {z0:Option Addr} {f0:Nat→Nat} (hb0:BA w z0 n0 f0) (hc0:n0≤c0) (hm0:c0≤maxLen) {n1 c1:Nat} {z1:Option Addr} {f1:Nat→Nat} (hb1:BA w z1 n1 f1) (hc1:n1≤c1) (hm1:c1≤maxLen) {n2 c2:Nat} {z2:Option Addr} {f2:Nat→Nat} (hb2:BA w z2 n2 f2) (hc2:n2≤c2) (hm2:c2≤maxLen):Calls Tryz.prog 4 [Value.slice (z0) (n0) (c0),Value.slice (z1) (n1) (c1),Value.slice (z2) (n2) (c2)].toArray w fun e w'=>e=.returned (.bool true)∧Below w.heap.size w w':=by
 rcases Nat.lt_or_ge 300 n0 with g0 | g0
 ·exact lVer_long0 hT hH hb0 hc0 hm0 hb1 hc1 hm1 hb2 hc2 hm2 g0
 rcases Nat.lt_or_ge 300 n1 with g1 | g1
 ·exact lVer_long1 hT hH hb0 hc0 hm0 hb1 hc1 hm1 hb2 hc2 hm2 g0 g1
 rcases Nat.lt_or_ge 300 n2 with g2 | g2
 ·exact lVer_long2 hT hH hb0 hc0 hm0 hb1 hc1 hm1 hb2 hc2 hm2 g0 g1 g2
 exact lVer_at hT hH hX hb0 hc0 hm0 hb1 hc1 hm1 hb2 hc2 hm2 g0 g1 g2 rfl
end Go.Proofs.YtjaahnlpnkcimaaGreatDoor
namespace Go.Proofs.YtjaahnlpnkcimaaGreatDoor
set_option maxRecDepth 100000
open Go.ChangeShapes Go.WideShapes Go.ChangeAt Go.RowKit
theorem own:ownKnob Tryz.prog.godebug=none:=by kernel_rfl
theorem cellsU64:Tryz.prog.cellsOf 32=1:=by kernel_rfl
theorem cellsNat:Tryz.prog.cellsOf 34=4:=by kernel_rfl
theorem Tryz.laidOut:laidOutB Tryz.prog=true:=by kernel_rfl
theorem cellsU8:Tryz.prog.cellsOf 5=1:=by kernel_rfl
theorem open_bytes {H:Type} {enc:TypeId × Value→H} {W:World} {base:Nat} {v:Value} {d:DataW H} {p:List MemPlace}
  (hv:Value.okWide Tryz.prog W .any base 24 v) (h:DataW.Trod enc Tryz.prog W 0 (fun _=>true) true 24 v d p) :
  ∃ a n c f,v=.slice a n c∧BA W a n f∧n≤c∧c≤maxLen:=by
 obtain ⟨a0,len,cap,rfl⟩:=okWide_slice Tryz.underlying24 hv
 obtain ⟨fuel,hf⟩:=h
 rcases open_ints Tryz.underlying24 Tryz.underlying5 cellsU8 hf with ⟨hcs,hx⟩ | ⟨a,len',cap',zs,hcs,_,hl,hm,hz,hx,hcell,hwz⟩
 ·simp [Value.cells] at hcs
  obtain ⟨rfl,rfl,rfl⟩:=hcs
  exact ⟨none,0,0,fun _=>0,rfl,⟨fun _=>by omega,Or.inl rfl⟩,by omega,by unfold maxLen;omega⟩
 ·simp [Value.cells] at hcs
  obtain ⟨rfl,rfl,rfl⟩:=hcs
  simp only [if_true] at hz
  have hr:∀ i,0≤zs.getD i 0∧zs.getD i 0<256:=fun i=>by
   have h:=range_u8 hwz i
   simp only [List.getD_eq_getElem?_getD]
   omega
  refine ⟨some a,len,cap,fun i=>(zs.getD i 0).toNat,rfl,⟨fun i=>by have:=hr i;omega,?_⟩,hl,hm⟩
  by_cases h0:len=0
  ·exact Or.inl h0
  ·obtain ⟨b,off,rfl,hc⟩:=ints_at hcell (by omega)
   exact Or.inr ⟨b,off,rfl,⟨fun i hi=>by
    have:=hr i
    rw [hc i (by omega),Int.toNat_of_nonneg this.1]⟩⟩
theorem gMod : Tryz.prog.globalNamed "chronicle/field.moduli" = some 1 := by kernel_rfl
theorem tMod:(Tryz.prog.globals[1]?).map (·.type)=some 103:=by kernel_rfl
theorem gCd : Tryz.prog.globalNamed "chronicle/ed.curveD" = some 4 := by kernel_rfl
theorem tCd:(Tryz.prog.globals[4]?).map (·.type)=some 34:=by kernel_rfl
theorem gFirst : Tryz.prog.globalNamed "chronicle/sha512.first" = some 0 := by kernel_rfl
theorem tFirst:(Tryz.prog.globals[0]?).map (·.type)=some 91:=by kernel_rfl
theorem gK : Tryz.prog.globalNamed "chronicle/sha512.constants" = some 5 := by kernel_rfl
theorem tK:(Tryz.prog.globals[5]?).map (·.type)=some 113:=by kernel_rfl
theorem gRp : Tryz.prog.globalNamed "chronicle/ed.rootPower" = some 2 := by kernel_rfl
theorem tRp:(Tryz.prog.globals[2]?).map (·.type)=some 34:=by kernel_rfl
theorem gTn : Tryz.prog.globalNamed "chronicle/ed.turn" = some 3 := by kernel_rfl
theorem tTn:(Tryz.prog.globals[3]?).map (·.type)=some 34:=by kernel_rfl
theorem cellsModuli:Tryz.prog.cellsOf 103=16:=by kernel_rfl
theorem cellsMod:Tryz.prog.cellsOf 67=4:=by kernel_rfl
theorem cellsSt:Tryz.prog.cellsOf 91=8:=by kernel_rfl
theorem cellsW80:Tryz.prog.cellsOf 113=80:=by kernel_rfl
theorem list16 {α:Type} (l:List α) (h:l.length=16):∃ x0 x1 x2 x3 x4 x5 x6 x7 x8 x9 x10 x11 x12 x13 x14 x15,l=[x0,x1,x2,x3,x4,x5,x6,x7,x8,x9,x10,x11,x12,x13,x14,x15]:=by
 match l,h with
 | [x0,x1,x2,x3,x4,x5,x6,x7,x8,x9,x10,x11,x12,x13,x14,x15],_=>exact ⟨x0,x1,x2,x3,x4,x5,x6,x7,x8,x9,x10,x11,x12,x13,x14,x15,rfl⟩
theorem cells_of_table {H:Type} {enc:TypeId × Value→H} {W:World} {sp:Nat→Bool} {held:Bool} {fuel:Nat} {l:List Value} {p:List MemPlace}
  (h:DataW.trod enc Tryz.prog W 0 sp held fuel 103 l=some (Rows.laid_chronicle_field_moduli,p)):l=[.int .u64 18446744073709551615,.int .u64 4294967295,.int .u64 0,.int .u64 18446744069414584321,.int .u64 17562291160714782033,.int .u64 13611842547513532036,.int .u64 18446744073709551615,.int .u64 18446744069414584320,.int .u64 18446744073709551597,.int .u64 18446744073709551615,.int .u64 18446744073709551615,.int .u64 9223372036854775807,.int .u64 6346243789798364141,.int .u64 1503914060200516822,.int .u64 0,.int .u64 1152921504606846976]:=by
 cases fuel with
 | zero=>simp [DataW.trod] at h
 | succ fuel =>
  simp only [DataW.trod,Tryz.underlying103,cellsModuli,cellsMod] at h
  split at h
  ·rename_i hl
   obtain ⟨x0,x1,x2,x3,x4,x5,x6,x7,x8,x9,x10,x11,x12,x13,x14,x15,rfl⟩:=list16 l (by simpa using hl)
   rw [show List.range 4=[0,1,2,3] from rfl] at h
   simp only [Option.map_eq_some_iff,List.mapM_cons,List.mapM_nil,Option.bind_eq_bind,Option.bind_eq_some_iff,Option.pure_def,Option.some.injEq] at h
   obtain ⟨ys,⟨y0,h0,_,⟨y1,h1,_,⟨y2,h2,_,⟨y3,h3,_,rfl,rfl⟩,rfl⟩,rfl⟩,rfl⟩,hx⟩:=h
   obtain ⟨d0,p0⟩:=y0
   obtain ⟨d1,p1⟩:=y1
   obtain ⟨d2,p2⟩:=y2
   obtain ⟨d3,p3⟩:=y3
   simp only [Rows.laid_chronicle_field_moduli,List.map_cons,List.map_nil,Prod.mk.injEq,DataW.agg.injEq,List.cons.injEq,and_true] at hx
   obtain ⟨⟨e0,e1,e2,e3⟩,_⟩:=hx
   subst e0 e1 e2 e3
   have g0:=Lib.cells_of_tab (k:=.u64) (zs:=[18446744073709551615,4294967295,0,18446744069414584321]) Tryz.underlying67 Tryz.underlying32 cellsU64 cellsMod h0
   have g1:=Lib.cells_of_tab (k:=.u64) (zs:=[17562291160714782033,13611842547513532036,18446744073709551615,18446744069414584320]) Tryz.underlying67 Tryz.underlying32 cellsU64 cellsMod h1
   have g2:=Lib.cells_of_tab (k:=.u64) (zs:=[18446744073709551597,18446744073709551615,18446744073709551615,9223372036854775807]) Tryz.underlying67 Tryz.underlying32 cellsU64 cellsMod h2
   have g3:=Lib.cells_of_tab (k:=.u64) (zs:=[6346243789798364141,1503914060200516822,0,1152921504606846976]) Tryz.underlying67 Tryz.underlying32 cellsU64 cellsMod h3
   simp at g0 g1 g2 g3
   simp [g0,g1,g2,g3]
  ·cases h
theorem first_at:∀ i,i<8→([7640891576956012808,13503953896175478587,4354685564936845355,11912009170470909681,5840696475078001361,11170449401992604703,2270897969802886507,6620516959819538809]:List Int).getD i 0=Sx.wn (Sx.start.w i):=by decide +kernel
theorem k_at:∀ i,i<80→([4794697086780616226,8158064640168781261,13096744586834688815,16840607885511220156,4131703408338449720,6480981068601479193,10538285296894168987,12329834152419229976,15566598209576043074,1334009975649890238,2608012711638119052,6128411473006802146,8268148722764581231,9286055187155687089,11230858885718282805,13951009754708518548,16472876342353939154,17275323862435702243,1135362057144423861,2597628984639134821,3308224258029322869,5365058923640841347,6679025012923562964,8573033837759648693,10970295158949994411,12119686244451234320,12683024718118986047,13788192230050041572,14330467153632333762,15395433587784984357,489312712824947311,1452737877330783856,2861767655752347644,3322285676063803686,5560940570517711597,5996557281743188959,7280758554555802590,8532644243296465576,9350256976987008742,10552545826968843579,11727347734174303076,12113106623233404929,14000437183269869457,14369950271660146224,15101387698204529176,15463397548674623760,17586052441742319658,1182934255886127544,1847814050463011016,2177327727835720531,2830643537854262169,3796741975233480872,4115178125766777443,5681478168544905931,6601373596472566643,7507060721942968483,8399075790359081724,8693463985226723168,9568029438360202098,10144078919501101548,10430055236837252648,11840083180663258601,13761210420658862357,14299343276471374635,14566680578165727644,15097957966210449927,16922976911328602910,17689382322260857208,500013540394364858,748580250866718886,1242879168328830382,1977374033974150939,2944078676154940804,3659926193048069267,4368137639120453308,4836135668995329356,5532061633213252278,6448918945643986474,6902733635092675308,7801388544844847127]:List Int).getD i 0=Sx.wn (Sx.kW i):=by decide +kernel
def laid1 : List (String × DataW Unit) := [("chronicle/sha512.first", Rows.laid_chronicle_sha512_first), ("chronicle/sha512.constants", Rows.laid_chronicle_sha512_constants), ("chronicle/field.moduli", Rows.laid_chronicle_field_moduli), ("chronicle/ed.curveD", Rows.laid_chronicle_ed_curveD), ("chronicle/ed.rootPower", Rows.laid_chronicle_ed_rootPower), ("chronicle/ed.turn", Rows.laid_chronicle_ed_turn)]
theorem tab_of_laid {W:World} (h:laidMetH Tryz.prog laid1 W):Tab W∧Sx.Tab W∧TabX W:=by
 rw [MakeChecks.laidMetH_plain _ _ _ (by kernel_rfl)] at h
 have vFirst : Lib.TabIs Tryz.prog W "chronicle/sha512.first" .u64 [7640891576956012808, 13503953896175478587, 4354685564936845355, 11912009170470909681, 5840696475078001361, 11170449401992604703, 2270897969802886507, 6620516959819538809] := Lib.tabIs_of_head (rest := [("chronicle/sha512.constants", Rows.laid_chronicle_sha512_constants), ("chronicle/field.moduli", Rows.laid_chronicle_field_moduli), ("chronicle/ed.curveD", Rows.laid_chronicle_ed_curveD), ("chronicle/ed.rootPower", Rows.laid_chronicle_ed_rootPower), ("chronicle/ed.turn", Rows.laid_chronicle_ed_turn)]) gFirst tFirst Tryz.underlying91 Tryz.underlying32 cellsU64 cellsSt h
 have h0x:=h.tail
 have vK : Lib.TabIs Tryz.prog W "chronicle/sha512.constants" .u64 [4794697086780616226, 8158064640168781261, 13096744586834688815, 16840607885511220156, 4131703408338449720, 6480981068601479193, 10538285296894168987, 12329834152419229976, 15566598209576043074, 1334009975649890238, 2608012711638119052, 6128411473006802146, 8268148722764581231, 9286055187155687089, 11230858885718282805, 13951009754708518548, 16472876342353939154, 17275323862435702243, 1135362057144423861, 2597628984639134821, 3308224258029322869, 5365058923640841347, 6679025012923562964, 8573033837759648693, 10970295158949994411, 12119686244451234320, 12683024718118986047, 13788192230050041572, 14330467153632333762, 15395433587784984357, 489312712824947311, 1452737877330783856, 2861767655752347644, 3322285676063803686, 5560940570517711597, 5996557281743188959, 7280758554555802590, 8532644243296465576, 9350256976987008742, 10552545826968843579, 11727347734174303076, 12113106623233404929, 14000437183269869457, 14369950271660146224, 15101387698204529176, 15463397548674623760, 17586052441742319658, 1182934255886127544, 1847814050463011016, 2177327727835720531, 2830643537854262169, 3796741975233480872, 4115178125766777443, 5681478168544905931, 6601373596472566643, 7507060721942968483, 8399075790359081724, 8693463985226723168, 9568029438360202098, 10144078919501101548, 10430055236837252648, 11840083180663258601, 13761210420658862357, 14299343276471374635, 14566680578165727644, 15097957966210449927, 16922976911328602910, 17689382322260857208, 500013540394364858, 748580250866718886, 1242879168328830382, 1977374033974150939, 2944078676154940804, 3659926193048069267, 4368137639120453308, 4836135668995329356, 5532061633213252278, 6448918945643986474, 6902733635092675308, 7801388544844847127] := Lib.tabIs_of_head (rest := [("chronicle/field.moduli", Rows.laid_chronicle_field_moduli), ("chronicle/ed.curveD", Rows.laid_chronicle_ed_curveD), ("chronicle/ed.rootPower", Rows.laid_chronicle_ed_rootPower), ("chronicle/ed.turn", Rows.laid_chronicle_ed_turn)]) gK tK Tryz.underlying113 Tryz.underlying32 cellsU64 cellsW80 h0x
 have h1x:=h0x.tail
 have hmo:=h1x
 have h2x:=h1x.tail
 have vCd : Lib.TabIs Tryz.prog W "chronicle/ed.curveD" .u64 [8496970652267935907, 31536524315187371, 10144147576115030168, 5909686906226998899] := Lib.tabIs_of_head (rest := [("chronicle/ed.rootPower", Rows.laid_chronicle_ed_rootPower), ("chronicle/ed.turn", Rows.laid_chronicle_ed_turn)]) gCd tCd Tryz.underlying34 Tryz.underlying32 cellsU64 cellsNat h2x
 have h3x:=h2x.tail
 have vRp : Lib.TabIs Tryz.prog W "chronicle/ed.rootPower" .u64 [18446744073709551614, 18446744073709551615, 18446744073709551615, 1152921504606846975] := Lib.tabIs_of_head (rest := [("chronicle/ed.turn", Rows.laid_chronicle_ed_turn)]) gRp tRp Tryz.underlying34 Tryz.underlying32 cellsU64 cellsNat h3x
 have h4x:=h3x.tail
 have vTn : Lib.TabIs Tryz.prog W "chronicle/ed.turn" .u64 [14190309331451158704, 3405592160176694392, 3120150775007532967, 3135389899092516619] := Lib.tabIs_of_head (rest := []) gTn tTn Tryz.underlying34 Tryz.underlying32 cellsU64 cellsNat h4x
 obtain ⟨ps,⟨g,t,cs,fuel,p,q,hg,ht,hvar,hd,_,_⟩,_⟩:=hmo
 obtain rfl:=Option.some.inj (gMod.symm.trans hg)
 obtain rfl:=Option.some.inj (tMod.symm.trans ht)
 have hcs:=cells_of_table hd
 obtain ⟨l⟩:=cs
 simp only at hcs
 subst hcs
 refine ⟨?_,?_,?_⟩
 ·exact ⟨World.var?_cell hg hvar 0,World.var?_cell hg hvar 1,World.var?_cell hg hvar 2,World.var?_cell hg hvar 3,World.var?_cell hg hvar 4,World.var?_cell hg hvar 5,World.var?_cell hg hvar 6,World.var?_cell hg hvar 7,World.var?_cell hg hvar 8,World.var?_cell hg hvar 9,World.var?_cell hg hvar 10,World.var?_cell hg hvar 11,World.var?_cell hg hvar 12,World.var?_cell hg hvar 13,World.var?_cell hg hvar 14,World.var?_cell hg hvar 15,vCd.cell gCd 0 (by decide),vCd.cell gCd 1 (by decide),vCd.cell gCd 2 (by decide),vCd.cell gCd 3 (by decide)⟩
 ·exact ⟨fun i hi=>by rw [← first_at i hi];exact vFirst.cell gFirst i hi,fun i hi=>by rw [← k_at i hi];exact vK.cell gK i hi⟩
 ·exact ⟨vRp.cell gRp 0 (by decide),vRp.cell gRp 1 (by decide),vRp.cell gRp 2 (by decide),vRp.cell gRp 3 (by decide),vTn.cell gTn 0 (by decide),vTn.cell gTn 1 (by decide),vTn.cell gTn 2 (by decide),vTn.cell gTn 3 (by decide)⟩
theorem door_met (os:Os) (args:Array Value):laidMetH Tryz.prog laid1 ((World.doorLaid Tryz.prog 200 os).forCall (fun _ _=>0) ⟨#[],args,[]⟩).memory :=
 laidMetH_of_parts3 (fuel:=8) (laidMet_of_run' 8 (by kernel_rfl) (by kernel_rfl)) (by kernel_rfl) (by kernel_rfl)
end Go.Proofs.YtjaahnlpnkcimaaGreatDoor
