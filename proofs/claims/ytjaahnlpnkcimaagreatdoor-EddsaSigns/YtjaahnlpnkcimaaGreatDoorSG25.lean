/- What the program's own Formed, lift, drop, times, Add, Mul, Both and Base answer. What the program's own Encode of layer 9 answers. What the program's own Decode of layer 9 answers. -/
import Derived.Test.YtjaahnlpnkcimaaGreatDoorSG24
import Derived.Test.YtjaahnlpnkcimaaGreatDoorSG23
import Derived.Test.YtjaahnlpnkcimaaGreatDoorSG05
import Derived.Test.YtjaahnlpnkcimaaGreatDoorSG06
import Derived.Test.YtjaahnlpnkcimaaGreatDoorSG22
set_option maxRecDepth 100000
set_option maxHeartbeats 8000000
namespace Go.Proofs.YtjaahnlpnkcimaaGreatDoor
set_option maxRecDepth 100000
open Go.RowKit
theorem e_below {w:World} (hT:Tab w) {a:Int} (ha:Num a) {t:Bool} (ht:decide (a<md 2)=t):Calls Tryz.prog 27 [.int .i64 2,.agg (nc a).toArray].toArray w fun e w'=>e=.returned (.bool t)∧Below w.heap.size w w':=by
 rw [← ht]
 exact below_any ha hT
theorem e_formed_none {w:World} {X Y:Int}:Calls Tryz.prog 59 [.agg (nc (X)++nc (Y)++[Value.bool true]).toArray].toArray w fun e w'=>e=.returned (.bool false)∧Below w.heap.size w w':=by
 refine enter (args:=[.agg (nc (X)++nc (Y)++[Value.bool true]).toArray]) Tryz.func59 rfl 40 rfl (lk rfl) (fun a h=>?_)
 refine aX h [] [eN 1 _,eS 2 _] ⟨rfl,rfl,T0⟩ [(1,.ptr 1 0)] [(1,nc (X)++nc (Y)++[Value.bool true])] (fun a w h=>?_)
 refine wp_seq ?_
 refine aX h [] [eS 5 _,eS 6 _,eS 7 _,eS 8 _,eS 9 _,eS 10 _,eS 11 _,eS 12 _,eS 13 _,eS 14 _,eS 15 _,eS 16 _,eS 17 _,eS 18 _] ⟨rfl,rfl,rfl,rfl,rfl,rfl,rfl,rfl,rfl,rfl,rfl,rfl,rfl,rfl,T0⟩ [(1,_),(18,.val (Value.bool true))] [(1,_)] (fun a w h=>?_)
 refine go_cond h true rfl (fun ht=>?_) (fun hf=>?_)
 case refine_2=>cases hf
 refine aX h [] [eS 2 _] ⟨rfl,T0⟩ [(2,.val (Value.bool false))] [] (fun a w h=>?_)
 refine wp_ret ?_
 refine then_ret ?_
 refine ret_slot h 2 rfl (lk rfl) (Value.bool false) rfl ?_
 exact ⟨rfl,h.grows⟩
theorem e_formed_x {w:World} (hT:Tab w) {X Y:Int} (hX:Num X) (bX:decide (X<md 2)=false):Calls Tryz.prog 59 [.agg (nc (X)++nc (Y)++[Value.bool false]).toArray].toArray w fun e w'=>e=.returned (.bool false)∧Below w.heap.size w w':=by
 refine enter (args:=[.agg (nc (X)++nc (Y)++[Value.bool false]).toArray]) Tryz.func59 rfl 40 rfl (lk rfl) (fun a h=>?_)
 refine aX h [] [eN 1 _,eS 2 _] ⟨rfl,rfl,T0⟩ [(1,.ptr 1 0)] [(1,nc (X)++nc (Y)++[Value.bool false])] (fun a w h=>?_)
 refine wp_seq ?_
 refine aX h [5] [eS 5 _,eS 6 _,eS 7 _,eS 8 _,eS 9 _,eS 10 _,eS 11 _,eS 12 _,eS 13 _,eS 14 _,eS 15 _,eS 16 _,eS 17 _,eS 18 _] ⟨rfl,rfl,rfl,rfl,rfl,fun L u=>u_call u (gd1 u 2 false rfl 7 rfl (lk rfl) rfl) _ rfl _ _ _ rfl [_,_] rfl (cE27 _) _ (fun w hb=>e_below (hT.keep (Bs.kp_of hb)) hX bX),rfl,rfl,rfl,rfl,rfl,rfl,rfl,rfl,T0⟩ [(1,_),(18,.val (Value.bool true))] [(1,_)] (fun a w h=>?_)
 refine go_cond h true rfl (fun ht=>?_) (fun hf=>?_)
 case refine_2=>cases hf
 refine aX h [] [eS 2 _] ⟨rfl,T0⟩ [(2,.val (Value.bool false))] [] (fun a w h=>?_)
 refine wp_ret ?_
 refine then_ret ?_
 refine ret_slot h 2 rfl (lk rfl) (Value.bool false) rfl ?_
 exact ⟨rfl,h.grows⟩
theorem e_formed_y {w:World} (hT:Tab w) {X Y:Int} (hX:Num X) (bX:decide (X<md 2)=true) (hY:Num Y) (bY:decide (Y<md 2)=false):Calls Tryz.prog 59 [.agg (nc (X)++nc (Y)++[Value.bool false]).toArray].toArray w fun e w'=>e=.returned (.bool false)∧Below w.heap.size w w':=by
 refine enter (args:=[.agg (nc (X)++nc (Y)++[Value.bool false]).toArray]) Tryz.func59 rfl 40 rfl (lk rfl) (fun a h=>?_)
 refine aX h [] [eN 1 _,eS 2 _] ⟨rfl,rfl,T0⟩ [(1,.ptr 1 0)] [(1,nc (X)++nc (Y)++[Value.bool false])] (fun a w h=>?_)
 refine wp_seq ?_
 refine aX h [5,11] [eS 5 _,eS 6 _,eS 7 _,eS 8 _,eS 9 _,eS 10 _,eS 11 _,eS 12 _,eS 13 _,eS 14 _,eS 15 _,eS 16 _,eS 17 _,eS 18 _] ⟨rfl,rfl,rfl,rfl,rfl,fun L u=>u_call u (gd1 u 2 false rfl 7 rfl (lk rfl) rfl) _ rfl _ _ _ rfl [_,_] rfl (cE27 _) _ (fun w hb=>e_below (hT.keep (Bs.kp_of hb)) hX bX),rfl,rfl,rfl,rfl,rfl,fun L u=>u_call u (gd1 u 8 false rfl 13 rfl (lk rfl) rfl) _ rfl _ _ _ rfl [_,_] rfl (cE27 _) _ (fun w hb=>e_below (hT.keep (Bs.kp_of hb)) hY bY),rfl,rfl,T0⟩ [(1,_),(18,.val (Value.bool true))] [(1,_)] (fun a w h=>?_)
 refine go_cond h true rfl (fun ht=>?_) (fun hf=>?_)
 case refine_2=>cases hf
 refine aX h [] [eS 2 _] ⟨rfl,T0⟩ [(2,.val (Value.bool false))] [] (fun a w h=>?_)
 refine wp_ret ?_
 refine then_ret ?_
 refine ret_slot h 2 rfl (lk rfl) (Value.bool false) rfl ?_
 exact ⟨rfl,h.grows⟩
theorem eformed_poly {p:Nat} [NeZero p] (d x y:Fin p) {one:Fin p} (hone:one=1) {v1:Fin p} (ev1:v1=x*x) {v2:Fin p} (ev2:v2=y*y) {v3:Fin p} (ev3:v3=v2-v1) {v4:Fin p} (ev4:v4=v1*v2) {v5:Fin p} (ev5:v5=d*v4) {v6:Fin p} (ev6:v6=one+v5):decide (v3=v6)=decide (y*y-x*x=1+d*(x*x*(y*y))):=by
 subst hone ev1 ev2 ev3 ev4 ev5 ev6
 have e:∀ l r l2 r2:Fin p,l=l2→r=r2→decide (l=r)=decide (l2=r2):=fun l r l2 r2 h1 h2=>by rw [h1,h2]
 apply e <;> grobner
theorem e_formed_at {w:World} (hT:Tab w) (x y:Fin m2):Calls Tryz.prog 59 [.agg (gc (x)++gc (y)++[Value.bool false]).toArray].toArray w fun e w'=>e=.returned (.bool (decide (y*y-x*x=1+ed*(x*x*(y*y)))))∧Below w.heap.size w w':=by
 obtain ⟨one,hone⟩:∃ z:Fin m2,z=1:=⟨_,rfl⟩
 obtain ⟨v1,ev1⟩:∃ z:Fin m2,z=x*x:=⟨_,rfl⟩
 obtain ⟨v2,ev2⟩:∃ z:Fin m2,z=y*y:=⟨_,rfl⟩
 obtain ⟨v3,ev3⟩:∃ z:Fin m2,z=v2-v1:=⟨_,rfl⟩
 obtain ⟨v4,ev4⟩:∃ z:Fin m2,z=v1*v2:=⟨_,rfl⟩
 obtain ⟨v5,ev5⟩:∃ z:Fin m2,z=ed*v4:=⟨_,rfl⟩
 obtain ⟨v6,ev6⟩:∃ z:Fin m2,z=one+v5:=⟨_,rfl⟩
 have hpp:=eformed_poly ed x y hone ev1 ev2 ev3 ev4 ev5 ev6
 refine enter (args:=[.agg (gc (x)++gc (y)++[Value.bool false]).toArray]) Tryz.func59 rfl 40 rfl (lk rfl) (fun a h=>?_)
 refine aX h [] [eN 1 _,eS 2 _] ⟨rfl,rfl,T0⟩ [(1,.ptr 1 0)] [(1,gc (x)++gc (y)++[Value.bool false])] (fun a w h=>?_)
 refine wp_seq ?_
 refine aX h [5,11] [eS 5 _,eS 6 _,eS 7 _,eS 8 _,eS 9 _,eS 10 _,eS 11 _,eS 12 _,eS 13 _,eS 14 _,eS 15 _,eS 16 _,eS 17 _,eS 18 _] ⟨rfl,rfl,rfl,rfl,rfl,fun L u=>u_call u (gd1 u 2 false rfl 7 rfl (lk rfl) rfl) _ rfl _ _ _ rfl [_,_] rfl (cE27 _) _ (fun w hb=>e_below (hT.keep (Bs.kp_of hb)) (gin_num _) (gin_lt _)),rfl,rfl,rfl,rfl,rfl,fun L u=>u_call u (gd1 u 8 false rfl 13 rfl (lk rfl) rfl) _ rfl _ _ _ rfl [_,_] rfl (cE27 _) _ (fun w hb=>e_below (hT.keep (Bs.kp_of hb)) (gin_num _) (gin_lt _)),rfl,rfl,T0⟩ [(1,_),(18,.val (Value.bool false))] [(1,_)] (fun a w h=>?_)
 refine go_cond h false rfl (fun ht=>?_) (fun hf=>?_)
 case refine_1=>cases ht
 refine wp_skip ?_
 refine then_norm ?_
 refine aX h [4,9] [eS 19 _,eS 20 _,eS 21 _,eS 22 _,eS 23 (.val (.agg (gc (v1)).toArray)),eS 24 _,eS 25 _,eS 26 _,eS 27 _,eS 28 (.val (.agg (gc (v2)).toArray)),eN 3 _,eN 4 _,eM 3 _,eM 4 _] ⟨rfl,rfl,rfl,rfl,fun L u=>u_call u (gd0 rfl) _ rfl _ _ _ rfl [_,_] rfl (cE91 _) (.agg (gc (v1)).toArray) (fun w hb=>by have g:=e_mul (hT.keep (Bs.kp_of hb)) x x;rw [← ev1] at g;exact g),rfl,rfl,rfl,rfl,fun L u=>u_call u (gd0 rfl) _ rfl _ _ _ rfl [_,_] rfl (cE91 _) (.agg (gc (v2)).toArray) (fun w hb=>by have g:=e_mul (hT.keep (Bs.kp_of hb)) y y;rw [← ev2] at g;exact g),rfl,rfl,rfl,rfl,T0⟩ [(3,.ptr 3 0),(4,.ptr 4 0)] [(3,gc (v1)),(4,gc (v2))] (fun a w h=>?_)
 refine aX h [2,3,4,7,8,9,10] [eS 29 _,eS 30 _,eS 31 (.val (.agg (gc (v3)).toArray)),eS 32 _,eS 33 (.val (.agg (gc (ed)).toArray)),eS 34 _,eS 35 _,eS 36 (.val (.agg (gc (v4)).toArray)),eS 37 (.val (.agg (gc (v5)).toArray)),eS 38 (.val (.agg (gc (v6)).toArray)),eS 39 (.val (Value.bool (decide (v3=v6)))),eS 2 _] ⟨rfl,rfl,fun L u=>u_call u (gd0 rfl) _ rfl _ _ _ rfl [_,_] rfl (cE58 _) (.agg (gc (v3)).toArray) (fun w hb=>by have g:=e_sub (hT.keep (Bs.kp_of hb)) v2 v1;rw [← ev3] at g;exact g),fun L u=>u_call u (gd0 rfl) _ rfl _ _ _ rfl [] rfl (cE90 _) _ (fun w hb=>e_one hone),fun L u=>u_loadXR u (gd0 rfl) 33 rfl 34 (.global 4) rfl rfl Tryz.underlying34 rfl (gc (ed)) i34 rfl (hT.ed) rfl,rfl,rfl,fun L u=>u_call u (gd0 rfl) _ rfl _ _ _ rfl [_,_] rfl (cE91 _) (.agg (gc (v4)).toArray) (fun w hb=>by have g:=e_mul (hT.keep (Bs.kp_of hb)) v1 v2;rw [← ev4] at g;exact g),fun L u=>u_call u (gd0 rfl) _ rfl _ _ _ rfl [_,_] rfl (cE91 _) (.agg (gc (v5)).toArray) (fun w hb=>by have g:=e_mul (hT.keep (Bs.kp_of hb)) ed v4;rw [← ev5] at g;exact g),fun L u=>u_call u (gd0 rfl) _ rfl _ _ _ rfl [_,_] rfl (cE92 _) (.agg (gc (v6)).toArray) (fun w hb=>by have g:=e_add (hT.keep (Bs.kp_of hb)) one v5;rw [← ev6] at g;exact g),fun L u=>u_eql u (gd0 rfl) 39 rfl 34 34 (.tmp 31) (.tmp 38) rfl rfl rfl Tryz.eqGuardType34 (decide (v3=v6)) (fun w=>eq_gc _ _ w),rfl,T0⟩ [(2,.val (Value.bool (decide (v3=v6))))] [] (fun a w h=>?_)
 refine wp_ret ?_
 refine ret_slot h 2 rfl (lk rfl) (Value.bool (decide (v3=v6))) rfl ?_
 exact ⟨by rw [← hpp],h.grows⟩
theorem e_Formed {w:World} (hT:Tab w) {X Y:Int} (hX:Num X) (hY:Num Y) (t:Bool):Calls Tryz.prog 59 [.agg (rc X Y t).toArray].toArray w fun e w'=>e=.returned (.bool (fmdE X Y t))∧Below w.heap.size w w':=by
 unfold fmdE
 cases t with
 | true =>
  rw [decide_eq_false (fun h=>by cases h.1)]
  exact e_formed_none
 | false =>
  by_cases h1:X<md 2
  ·by_cases h2:Y<md 2
   ·have e3:decide (false=false∧X<md 2∧Y<md 2∧(kc Y:Fin m2)*kc Y-kc X*kc X=1+ed*(kc X*kc X*(kc Y*kc Y)))=decide ((kc Y:Fin m2)*kc Y-kc X*kc X=1+ed*(kc X*kc X*(kc Y*kc Y))):=decide_eq_decide.2 ⟨fun h=>h.2.2.2,fun h=>⟨rfl,h1,h2,h⟩⟩
    rw [e3,rc,nc_gc hX.lo h1,nc_gc hY.lo h2]
    exact e_formed_at hT (kc X) (kc Y)
   ·rw [decide_eq_false (fun h=>h2 h.2.2.1)]
    exact e_formed_y hT hX (decide_eq_true h1) hY (decide_eq_false h2)
  ·rw [decide_eq_false (fun h=>h1 h.2.1)]
   exact e_formed_x hT hX (decide_eq_false h1)
theorem xl_o:xc (xlift (Ep.o m2))=gc (Ep.o m2).x++gc (Ep.o m2).y++gc 1++gc ((Ep.o m2).x*(Ep.o m2).y):=rfl
theorem xl_at (x y:Fin m2):xc (xlift ⟨x,y⟩)=gc x++gc y++gc 1++gc (x*y):=rfl
theorem e_lift_none {w:World} (hT:Tab w) {X Y:Int} (hX:Num X) (hY:Num Y) (hf0:fmdE X Y true=false):Calls Tryz.prog 65 [.agg (nc (X)++nc (Y)++[Value.bool true]).toArray].toArray w fun e w'=>e=.returned (.agg (xc (xlift (Ep.o m2))).toArray)∧Below w.heap.size w w':=by
 obtain ⟨one,hone⟩:∃ z:Fin m2,z=1:=⟨_,rfl⟩
 refine enter (args:=[.agg (nc (X)++nc (Y)++[Value.bool true]).toArray]) Tryz.func65 rfl 18 rfl (lk rfl) (fun a h=>?_)
 refine aX h [] [eN 1 _,eN 2 _] ⟨rfl,rfl,T0⟩ [(1,.ptr 1 0),(2,.ptr 2 0)] [(1,nc (X)++nc (Y)++[Value.bool true]),(2,nz++nz++nz++nz)] (fun a w h=>?_)
 refine wp_seq ?_
 refine aX h [1] [eS 3 _,eS 4 (.val (Value.bool false)),eS 5 _] ⟨rfl,fun L u=>u_call u (gd0 rfl) _ rfl _ _ _ rfl [_] rfl (cE59 _) (Value.bool false) (fun w hb=>by have f:=e_Formed (hT.keep (Bs.kp_of hb)) hX hY true;rw [hf0] at f;exact f),rfl,T0⟩ [(1,_),(2,_),(5,.val (Value.bool true))] [(1,_),(2,_)] (fun a w h=>?_)
 refine go_cond h true rfl (fun ht=>?_) (fun hf=>?_)
 case refine_2=>cases hf
 refine aE h [0] [eS 6 _,eM 1 _] ⟨fun L u=>u_call u (gd0 rfl) _ rfl _ _ _ rfl [] rfl (cE53 _) _ (fun w hb=>e_neutral),rfl,T0⟩ [(1,_),(2,_)] [(1,pcE (Ep.o m2)),(2,_)] (fun a w h=>?_)
 refine then_norm ?_
 refine aX h [4,9,10] [eS 7 _,eS 8 _,eS 9 _,eS 10 _,eS 11 _,eS 12 _,eS 13 _,eS 14 _,eS 15 _,eS 16 _,eS 17 (.val (.agg (gc ((Ep.o m2).x)++gc ((Ep.o m2).y)++gc (one)++gc (((Ep.o m2).x)*((Ep.o m2).y))).toArray)),eM 2 _] ⟨rfl,rfl,rfl,rfl,fun L u=>u_call u (gd0 rfl) _ rfl _ _ _ rfl [] rfl (cE90 _) _ (fun w hb=>e_one hone),rfl,rfl,rfl,rfl,fun L u=>u_call u (gd0 rfl) _ rfl _ _ _ rfl [_,_] rfl (cE91 _) _ (fun w hb=>e_mul (hT.keep (Bs.kp_of hb)) _ _),fun L u=>u_build u (gd0 rfl) 17 rfl 81 #[(0,(.tmp 8)),(1,(.tmp 10)),(2,(.tmp 11)),(3,(.tmp 16))] rfl [(0,.agg (gc ((Ep.o m2).x)).toArray),(1,.agg (gc ((Ep.o m2).y)).toArray),(2,.agg (gc (one)).toArray),(3,.agg (gc (((Ep.o m2).x)*((Ep.o m2).y))).toArray)] rfl (gc ((Ep.o m2).x)++gc ((Ep.o m2).y)++gc (one)++gc (((Ep.o m2).x)*((Ep.o m2).y))) (g_bX _ _ _ _),rfl,T0⟩ [(2,_)] [(2,gc ((Ep.o m2).x)++gc ((Ep.o m2).y)++gc (one)++gc (((Ep.o m2).x)*((Ep.o m2).y)))] (fun a w h=>?_)
 refine wp_ret ?_
 refine ret_row h 2 81 rfl (lk rfl) 2 rfl (gc ((Ep.o m2).x)++gc ((Ep.o m2).y)++gc (one)++gc (((Ep.o m2).x)*((Ep.o m2).y))) rfl _ Tryz.underlying81 rfl i81 ?_
 exact ⟨by rw [xl_o,hone],h.grows⟩
theorem e_lift_off {w:World} (hT:Tab w) {X Y:Int} (hX:Num X) (hY:Num Y) (hf0:fmdE X Y false=false):Calls Tryz.prog 65 [.agg (nc (X)++nc (Y)++[Value.bool false]).toArray].toArray w fun e w'=>e=.returned (.agg (xc (xlift (Ep.o m2))).toArray)∧Below w.heap.size w w':=by
 obtain ⟨one,hone⟩:∃ z:Fin m2,z=1:=⟨_,rfl⟩
 refine enter (args:=[.agg (nc (X)++nc (Y)++[Value.bool false]).toArray]) Tryz.func65 rfl 18 rfl (lk rfl) (fun a h=>?_)
 refine aX h [] [eN 1 _,eN 2 _] ⟨rfl,rfl,T0⟩ [(1,.ptr 1 0),(2,.ptr 2 0)] [(1,nc (X)++nc (Y)++[Value.bool false]),(2,nz++nz++nz++nz)] (fun a w h=>?_)
 refine wp_seq ?_
 refine aX h [1] [eS 3 _,eS 4 (.val (Value.bool false)),eS 5 _] ⟨rfl,fun L u=>u_call u (gd0 rfl) _ rfl _ _ _ rfl [_] rfl (cE59 _) (Value.bool false) (fun w hb=>by have f:=e_Formed (hT.keep (Bs.kp_of hb)) hX hY false;rw [hf0] at f;exact f),rfl,T0⟩ [(1,_),(2,_),(5,.val (Value.bool true))] [(1,_),(2,_)] (fun a w h=>?_)
 refine go_cond h true rfl (fun ht=>?_) (fun hf=>?_)
 case refine_2=>cases hf
 refine aE h [0] [eS 6 _,eM 1 _] ⟨fun L u=>u_call u (gd0 rfl) _ rfl _ _ _ rfl [] rfl (cE53 _) _ (fun w hb=>e_neutral),rfl,T0⟩ [(1,_),(2,_)] [(1,pcE (Ep.o m2)),(2,_)] (fun a w h=>?_)
 refine then_norm ?_
 refine aX h [4,9,10] [eS 7 _,eS 8 _,eS 9 _,eS 10 _,eS 11 _,eS 12 _,eS 13 _,eS 14 _,eS 15 _,eS 16 _,eS 17 (.val (.agg (gc ((Ep.o m2).x)++gc ((Ep.o m2).y)++gc (one)++gc (((Ep.o m2).x)*((Ep.o m2).y))).toArray)),eM 2 _] ⟨rfl,rfl,rfl,rfl,fun L u=>u_call u (gd0 rfl) _ rfl _ _ _ rfl [] rfl (cE90 _) _ (fun w hb=>e_one hone),rfl,rfl,rfl,rfl,fun L u=>u_call u (gd0 rfl) _ rfl _ _ _ rfl [_,_] rfl (cE91 _) _ (fun w hb=>e_mul (hT.keep (Bs.kp_of hb)) _ _),fun L u=>u_build u (gd0 rfl) 17 rfl 81 #[(0,(.tmp 8)),(1,(.tmp 10)),(2,(.tmp 11)),(3,(.tmp 16))] rfl [(0,.agg (gc ((Ep.o m2).x)).toArray),(1,.agg (gc ((Ep.o m2).y)).toArray),(2,.agg (gc (one)).toArray),(3,.agg (gc (((Ep.o m2).x)*((Ep.o m2).y))).toArray)] rfl (gc ((Ep.o m2).x)++gc ((Ep.o m2).y)++gc (one)++gc (((Ep.o m2).x)*((Ep.o m2).y))) (g_bX _ _ _ _),rfl,T0⟩ [(2,_)] [(2,gc ((Ep.o m2).x)++gc ((Ep.o m2).y)++gc (one)++gc (((Ep.o m2).x)*((Ep.o m2).y)))] (fun a w h=>?_)
 refine wp_ret ?_
 refine ret_row h 2 81 rfl (lk rfl) 2 rfl (gc ((Ep.o m2).x)++gc ((Ep.o m2).y)++gc (one)++gc (((Ep.o m2).x)*((Ep.o m2).y))) rfl _ Tryz.underlying81 rfl i81 ?_
 exact ⟨by rw [xl_o,hone],h.grows⟩
theorem e_lift_on {w:World} (hT:Tab w) {x y:Fin m2} (hq:y*y-x*x=1+ed*(x*x*(y*y))):Calls Tryz.prog 65 [.agg (gc (x)++gc (y)++[Value.bool false]).toArray].toArray w fun e w'=>e=.returned (.agg (xc (xlift ⟨x,y⟩)).toArray)∧Below w.heap.size w w':=by
 obtain ⟨one,hone⟩:∃ z:Fin m2,z=1:=⟨_,rfl⟩
 refine enter (args:=[.agg (gc (x)++gc (y)++[Value.bool false]).toArray]) Tryz.func65 rfl 18 rfl (lk rfl) (fun a h=>?_)
 refine aX h [] [eN 1 _,eN 2 _] ⟨rfl,rfl,T0⟩ [(1,.ptr 1 0),(2,.ptr 2 0)] [(1,gc (x)++gc (y)++[Value.bool false]),(2,nz++nz++nz++nz)] (fun a w h=>?_)
 refine wp_seq ?_
 refine aX h [1] [eS 3 _,eS 4 (.val (Value.bool true)),eS 5 _] ⟨rfl,fun L u=>u_call u (gd0 rfl) _ rfl _ _ _ rfl [_] rfl (cE59 _) (Value.bool true) (fun w hb=>by have f:=e_formed_at (hT.keep (Bs.kp_of hb)) x y;rw [decide_eq_true hq] at f;exact f),rfl,T0⟩ [(1,_),(2,_),(5,.val (Value.bool false))] [(1,_),(2,_)] (fun a w h=>?_)
 refine go_cond h false rfl (fun ht=>?_) (fun hf=>?_)
 case refine_1=>cases ht
 refine wp_skip ?_
 refine then_norm ?_
 refine aX h [4,9,10] [eS 7 _,eS 8 _,eS 9 _,eS 10 _,eS 11 _,eS 12 _,eS 13 _,eS 14 _,eS 15 _,eS 16 _,eS 17 (.val (.agg (gc (x)++gc (y)++gc (one)++gc (x*y)).toArray)),eM 2 _] ⟨rfl,rfl,rfl,rfl,fun L u=>u_call u (gd0 rfl) _ rfl _ _ _ rfl [] rfl (cE90 _) _ (fun w hb=>e_one hone),rfl,rfl,rfl,rfl,fun L u=>u_call u (gd0 rfl) _ rfl _ _ _ rfl [_,_] rfl (cE91 _) _ (fun w hb=>e_mul (hT.keep (Bs.kp_of hb)) _ _),fun L u=>u_build u (gd0 rfl) 17 rfl 81 #[(0,(.tmp 8)),(1,(.tmp 10)),(2,(.tmp 11)),(3,(.tmp 16))] rfl [(0,.agg (gc (x)).toArray),(1,.agg (gc (y)).toArray),(2,.agg (gc (one)).toArray),(3,.agg (gc (x*y)).toArray)] rfl (gc (x)++gc (y)++gc (one)++gc (x*y)) (g_bX _ _ _ _),rfl,T0⟩ [(2,_)] [(2,gc (x)++gc (y)++gc (one)++gc (x*y))] (fun a w h=>?_)
 refine wp_ret ?_
 refine ret_row h 2 81 rfl (lk rfl) 2 rfl (gc (x)++gc (y)++gc (one)++gc (x*y)) rfl _ Tryz.underlying81 rfl i81 ?_
 exact ⟨by rw [xl_at,hone],h.grows⟩
theorem e_lift {w:World} (hT:Tab w) {X Y:Int} (hX:Num X) (hY:Num Y) (t:Bool):Calls Tryz.prog 65 [.agg (rc X Y t).toArray].toArray w fun e w'=>e=.returned (.agg (xc (xlift (rpE X Y t))).toArray)∧Below w.heap.size w w':=by
 by_cases h:fmdE X Y t=false
 ·rw [fmdE_rp h]
  cases t with
  | true=>exact e_lift_none hT hX hY h
  | false=>exact e_lift_off hT hX hY h
 ·have h2:fmdE X Y t=true:=by simpa using h
  have hd:t=false∧X<md 2∧Y<md 2∧(kc Y:Fin m2)*kc Y-kc X*kc X=1+ed*(kc X*kc X*(kc Y*kc Y)):=of_decide_eq_true h2
  rw [show rpE X Y t=⟨kc X,kc Y⟩ from if_pos hd,hd.1,rc,nc_gc hX.lo hd.2.1,nc_gc hY.lo hd.2.2.1]
  exact e_lift_on hT hd.2.2.2
theorem e_lift_o {w:World} (hT:Tab w):Calls Tryz.prog 65 [.agg (pcE (Ep.o m2)).toArray].toArray w fun e w'=>e=.returned (.agg (xc (xlift (Ep.o m2))).toArray)∧Below w.heap.size w w':=by
 exact e_lift_on hT (Ep.o_on ed)
theorem e_drop {w:World} (hT:Tab w) (x y z t:Fin m2):Calls Tryz.prog 63 [.agg (gc (x)++gc (y)++gc (z)++gc (t)).toArray].toArray w fun e w'=>e=.returned (.agg (pcE (xdrop ⟨x,y,z,t⟩)).toArray)∧Below w.heap.size w w':=by
 refine enter (args:=[.agg (gc (x)++gc (y)++gc (z)++gc (t)).toArray]) Tryz.func63 rfl 16 rfl (lk rfl) (fun a h=>?_)
 refine aX h [] [eN 1 _,eN 2 _] ⟨rfl,rfl,T0⟩ [(1,.ptr 1 0),(2,.ptr 2 0)] [(1,gc (x)++gc (y)++gc (z)++gc (t)),(2,nz++nz++[Value.bool false])] (fun a w h=>?_)
 refine aX h [2] [eS 4 _,eS 5 _,eS 6 _,eN 3 _,eM 3 _] ⟨rfl,rfl,fun L u=>u_call u (gd0 rfl) _ rfl _ _ _ rfl [_,_] rfl (cE70 _) _ (fun w hb=>d_inv (hT.keep (Bs.kp_of hb)) _),rfl,rfl,T0⟩ [(1,_),(2,_),(3,.ptr 3 0)] [(1,_),(2,_),(3,gc (fiv (z)))] (fun a w h=>?_)
 refine aX h [3,7,8] [eS 7 _,eS 8 _,eS 9 _,eS 10 _,eS 11 _,eS 12 _,eS 13 _,eS 14 _,eS 15 (.val (.agg (gc (x*(fiv (z)))++gc (y*(fiv (z)))++[Value.bool false]).toArray)),eM 2 _] ⟨rfl,rfl,rfl,fun L u=>u_call u (gd0 rfl) _ rfl _ _ _ rfl [_,_] rfl (cE91 _) _ (fun w hb=>e_mul (hT.keep (Bs.kp_of hb)) _ _),rfl,rfl,rfl,fun L u=>u_call u (gd0 rfl) _ rfl _ _ _ rfl [_,_] rfl (cE91 _) _ (fun w hb=>e_mul (hT.keep (Bs.kp_of hb)) _ _),fun L u=>u_build u (gd0 rfl) 15 rfl 40 #[(0,(.tmp 10)),(1,(.tmp 14))] rfl [(0,.agg (gc (x*(fiv (z)))).toArray),(1,.agg (gc (y*(fiv (z)))).toArray)] rfl (gc (x*(fiv (z)))++gc (y*(fiv (z)))++[Value.bool false]) (g_bP _ _),rfl,T0⟩ [(2,_)] [(2,gc (x*(fiv (z)))++gc (y*(fiv (z)))++[Value.bool false])] (fun a w h=>?_)
 refine wp_ret ?_
 refine ret_row h 2 40 rfl (lk rfl) 2 rfl (gc (x*(fiv (z)))++gc (y*(fiv (z)))++[Value.bool false]) rfl _ Tryz.underlying40 rfl i40 ?_
 exact ⟨rfl,h.grows⟩
theorem e_bit {w:World} (k i:Nat) (hi:i<256):Calls Tryz.prog 54 [.agg (nc (k:Int)).toArray,.int .i64 (i:Int)].toArray w fun e w'=>e=.returned (.int .i64 ((k / 2 ^ i % 2:Nat):Int))∧Below w.heap.size w w':=by
 have h:=bit_any (k:Int) (i:Int) w
 have e:bt (k:Int) (i:Int)=((k / 2 ^ i % 2:Nat):Int):=by
  unfold bt
  rw [if_pos (by omega),Int.toNat_natCast,Int.natCast_emod,Int.natCast_ediv,Int.natCast_pow]
  rfl
 rw [e] at h
 exact h
theorem e_times {w:World} (hT:Tab w) (k:Nat) (x y z t:Fin m2):Calls Tryz.prog 64 [.agg (nc ((k:Int))).toArray,.agg (gc (x)++gc (y)++gc (z)++gc (t)).toArray].toArray w fun e w'=>e=.returned (.agg (xc (xm xadd k ⟨x,y,z,t⟩ (256))).toArray)∧Below w.heap.size w w':=by
 refine enter (args:=[.agg (nc ((k:Int))).toArray,.agg (gc (x)++gc (y)++gc (z)++gc (t)).toArray]) Tryz.func64 rfl 24 rfl (lk rfl) (fun a h=>?_)
 refine aX h [] [eN 2 _,eN 3 _,eN 4 _] ⟨rfl,rfl,rfl,T0⟩ [(2,.ptr 2 0),(3,.ptr 3 0),(4,.ptr 4 0)] [(2,nc ((k:Int))),(3,gc (x)++gc (y)++gc (z)++gc (t)),(4,nz++nz++nz++nz)] (fun a w h=>?_)
 refine aX h [0,1] [eS 7 _,eS 8 _,eN 5 _,eM 5 _] ⟨fun L u=>u_call u (gd0 rfl) _ rfl _ _ _ rfl [] rfl (cE53 _) _ (fun w hb=>e_neutral),fun L u=>u_call u (gd0 rfl) _ rfl _ _ _ rfl [_] rfl (cE65 _) _ (fun w hb=>e_lift_o (hT.keep (Bs.kp_of hb))),rfl,rfl,T0⟩ [(2,_),(3,_),(4,_),(5,.ptr 5 0)] [(2,_),(3,_),(4,_),(5,gc ((xlift (Ep.o m2)).x)++gc ((xlift (Ep.o m2)).y)++gc ((xlift (Ep.o m2)).z)++gc ((xlift (Ep.o m2)).t))] (fun a w h=>?_)
 refine wp_seq ?_
 refine aX h [] [eS 6 _] ⟨rfl,T0⟩ [(2,_),(3,_),(4,_),(5,_),(6,.val ((Value.int IntKind.i64 255)))] [(2,_),(3,_),(4,_),(5,_)] (fun a w h=>?_)
 refine wp_block ?_
 refine go_loop (fun (j:Nat)=>SS.mk' [(2,.ptr 2 0),(3,.ptr 3 0),(4,.ptr 4 0),(5,.ptr 5 0),(6,.val (Value.int .i64 (255-((j:Nat):Int))))] [(2,nc ((k:Int))),(3,gc (x)++gc (y)++gc (z)++gc (t)),(4,nz++nz++nz++nz),(5,gc ((xm xadd k ⟨x,y,z,t⟩ (j)).x)++gc ((xm xadd k ⟨x,y,z,t⟩ (j)).y)++gc ((xm xadd k ⟨x,y,z,t⟩ (j)).z)++gc ((xm xadd k ⟨x,y,z,t⟩ (j)).t))]) (fun j=>j≤256) (fun j=>256-j) (i:=0) (h.keep [(2,.ptr 2 0),(3,.ptr 3 0),(4,.ptr 4 0),(5,.ptr 5 0),(6,.val (Value.int .i64 (255-((0:Nat):Int))))] [(2,nc ((k:Int))),(3,gc (x)++gc (y)++gc (z)++gc (t)),(4,nz++nz++nz++nz),(5,gc ((xm xadd k ⟨x,y,z,t⟩ (0)).x)++gc ((xm xadd k ⟨x,y,z,t⟩ (0)).y)++gc ((xm xadd k ⟨x,y,z,t⟩ (0)).z)++gc ((xm xadd k ⟨x,y,z,t⟩ (0)).t))] ⟨rfl,rfl,rfl,rfl,rfl,T0⟩ ⟨rfl,rfl,rfl,rfl,T0⟩ rfl) (Nat.zero_le _) (fun j a w hG h=>?_)
 by_cases hs:j<256
 ·skip
  by_cases hb:k / 2 ^ (255-j) % 2=1
  ·skip
   refine wp_seq ?_
   refine aX h [1] [eS 9 _,eS 10 (.val (Value.bool true))] ⟨rfl,fun L u=>u_bin u (gd0 rfl) _ rfl _ _ _ _ _ rfl rfl rfl (eqg_int _ _ _ _ _ _ _ _) _ (yes_of (fun w=>i_geq _ _ _ _ w) (by omega)),T0⟩ [(2,_),(3,_),(4,_),(5,_),(6,_),(10,.val (Value.bool true))] [(2,_),(3,_),(4,_),(5,_)] (fun a w h=>?_)
   refine go_cond h true rfl (fun ht=>?_) (fun hf=>?_)
   case refine_2=>cases hf
   refine wp_skip ?_
   refine then_norm ?_
   refine wp_seq ?_
   refine wp_block ?_
   refine aX h [2] [eS 13 _,eS 14 _,eS 15 _,eM 5 _] ⟨rfl,rfl,fun L u=>u_call u (gd0 rfl) _ rfl _ _ _ rfl [_,_] rfl (cE66 _) _ (fun w hb=>e_plus (hT.keep (Bs.kp_of hb)) _ _ _ _ _ _ _ _),rfl,T0⟩ [(2,_),(3,_),(4,_),(5,_),(6,_)] [(2,_),(3,_),(4,_),(5,gc ((xadd (xm xadd k ⟨x,y,z,t⟩ (j)) (xm xadd k ⟨x,y,z,t⟩ (j))).x)++gc ((xadd (xm xadd k ⟨x,y,z,t⟩ (j)) (xm xadd k ⟨x,y,z,t⟩ (j))).y)++gc ((xadd (xm xadd k ⟨x,y,z,t⟩ (j)) (xm xadd k ⟨x,y,z,t⟩ (j))).z)++gc ((xadd (xm xadd k ⟨x,y,z,t⟩ (j)) (xm xadd k ⟨x,y,z,t⟩ (j))).t))] (fun a w h=>?_)
   refine aX h [2,3] [eS 16 _,eS 17 _,eS 18 (.val (Value.int .i64 ((k / 2 ^ (255-j) % 2:Nat):Int))),eS 19 (.val (Value.bool true))] ⟨rfl,rfl,fun L u=>u_call u (gd0 rfl) _ rfl _ _ _ rfl [_,_] rfl (cE54 _) (Value.int .i64 ((k / 2 ^ (255-j) % 2:Nat):Int)) (fun w hb=>by have:=e_bit (w:=w) k (255-j) (by omega);rw [show (((255-j:Nat)):Int)=255-(j:Int) by omega] at this;exact this),fun L u=>u_bin u (gd0 rfl) _ rfl _ _ _ _ _ rfl rfl rfl (eqg_int _ _ _ _ _ _ _ _) _ (yes_of (fun w=>i_eql _ _ _ _ w) (by omega)),T0⟩ [(2,_),(3,_),(4,_),(5,_),(6,_),(19,.val (Value.bool true))] [(2,_),(3,_),(4,_),(5,_)] (fun a w h=>?_)
   refine go_cond h true rfl (fun ht=>?_) (fun hf=>?_)
   case refine_2=>cases hf
   refine aE h [2] [eS 20 _,eS 21 _,eS 22 _,eM 5 _] ⟨rfl,rfl,fun L u=>u_call u (gd0 rfl) _ rfl _ _ _ rfl [_,_] rfl (cE66 _) _ (fun w hb=>e_plus (hT.keep (Bs.kp_of hb)) _ _ _ _ _ _ _ _),rfl,T0⟩ [(2,_),(3,_),(4,_),(5,_),(6,_)] [(2,_),(3,_),(4,_),(5,gc ((xadd (xadd (xm xadd k ⟨x,y,z,t⟩ (j)) (xm xadd k ⟨x,y,z,t⟩ (j))) (⟨x,y,z,t⟩)).x)++gc ((xadd (xadd (xm xadd k ⟨x,y,z,t⟩ (j)) (xm xadd k ⟨x,y,z,t⟩ (j))) (⟨x,y,z,t⟩)).y)++gc ((xadd (xadd (xm xadd k ⟨x,y,z,t⟩ (j)) (xm xadd k ⟨x,y,z,t⟩ (j))) (⟨x,y,z,t⟩)).z)++gc ((xadd (xadd (xm xadd k ⟨x,y,z,t⟩ (j)) (xm xadd k ⟨x,y,z,t⟩ (j))) (⟨x,y,z,t⟩)).t))] (fun a w h=>?_)
   refine blk_norm ?_
   refine then_norm ?_
   refine aE h [1] [eS 11 _,eS 12 (.val (Value.int .i64 (255-((j+1:Nat):Int)))),eS 6 _] ⟨rfl,fun L u=>u_bin u (gd0 rfl) _ rfl _ _ _ _ _ rfl rfl rfl (eqg_int _ _ _ _ _ _ _ _) _ (fun w=>i_sub _ _ _ _ (by omega) (by omega) w),rfl,T0⟩ [(2,_),(3,_),(4,_),(5,_),(6,.val (Value.int .i64 (255-((j+1:Nat):Int))))] [(2,_),(3,_),(4,_),(5,_)] (fun a w h=>?_)
   refine then_norm ?_
   exact ⟨j+1,(by omega),(by omega),h.keep [(2,.ptr 2 0),(3,.ptr 3 0),(4,.ptr 4 0),(5,.ptr 5 0),(6,.val (Value.int .i64 (255-((j+1:Nat):Int))))] [(2,nc ((k:Int))),(3,gc (x)++gc (y)++gc (z)++gc (t)),(4,nz++nz++nz++nz),(5,gc ((xm xadd k ⟨x,y,z,t⟩ (j+1)).x)++gc ((xm xadd k ⟨x,y,z,t⟩ (j+1)).y)++gc ((xm xadd k ⟨x,y,z,t⟩ (j+1)).z)++gc ((xm xadd k ⟨x,y,z,t⟩ (j+1)).t))] ⟨rfl,rfl,rfl,rfl,rfl,trivial⟩ ⟨rfl,rfl,rfl,(congrArg (fun p:X4=>some (gc p.x++gc p.y++gc p.z++gc p.t)) (show xm xadd k ⟨x,y,z,t⟩ (j+1)=_ from if_pos hb).symm),trivial⟩ rfl⟩
  ·skip
   refine wp_seq ?_
   refine aX h [1] [eS 9 _,eS 10 (.val (Value.bool true))] ⟨rfl,fun L u=>u_bin u (gd0 rfl) _ rfl _ _ _ _ _ rfl rfl rfl (eqg_int _ _ _ _ _ _ _ _) _ (yes_of (fun w=>i_geq _ _ _ _ w) (by omega)),T0⟩ [(2,_),(3,_),(4,_),(5,_),(6,_),(10,.val (Value.bool true))] [(2,_),(3,_),(4,_),(5,_)] (fun a w h=>?_)
   refine go_cond h true rfl (fun ht=>?_) (fun hf=>?_)
   case refine_2=>cases hf
   refine wp_skip ?_
   refine then_norm ?_
   refine wp_seq ?_
   refine wp_block ?_
   refine aX h [2] [eS 13 _,eS 14 _,eS 15 _,eM 5 _] ⟨rfl,rfl,fun L u=>u_call u (gd0 rfl) _ rfl _ _ _ rfl [_,_] rfl (cE66 _) _ (fun w hb=>e_plus (hT.keep (Bs.kp_of hb)) _ _ _ _ _ _ _ _),rfl,T0⟩ [(2,_),(3,_),(4,_),(5,_),(6,_)] [(2,_),(3,_),(4,_),(5,gc ((xadd (xm xadd k ⟨x,y,z,t⟩ (j)) (xm xadd k ⟨x,y,z,t⟩ (j))).x)++gc ((xadd (xm xadd k ⟨x,y,z,t⟩ (j)) (xm xadd k ⟨x,y,z,t⟩ (j))).y)++gc ((xadd (xm xadd k ⟨x,y,z,t⟩ (j)) (xm xadd k ⟨x,y,z,t⟩ (j))).z)++gc ((xadd (xm xadd k ⟨x,y,z,t⟩ (j)) (xm xadd k ⟨x,y,z,t⟩ (j))).t))] (fun a w h=>?_)
   refine aX h [2,3] [eS 16 _,eS 17 _,eS 18 (.val (Value.int .i64 ((k / 2 ^ (255-j) % 2:Nat):Int))),eS 19 (.val (Value.bool false))] ⟨rfl,rfl,fun L u=>u_call u (gd0 rfl) _ rfl _ _ _ rfl [_,_] rfl (cE54 _) (Value.int .i64 ((k / 2 ^ (255-j) % 2:Nat):Int)) (fun w hb=>by have:=e_bit (w:=w) k (255-j) (by omega);rw [show (((255-j:Nat)):Int)=255-(j:Int) by omega] at this;exact this),fun L u=>u_bin u (gd0 rfl) _ rfl _ _ _ _ _ rfl rfl rfl (eqg_int _ _ _ _ _ _ _ _) _ (no_of (fun w=>i_eql _ _ _ _ w) (by omega)),T0⟩ [(2,_),(3,_),(4,_),(5,_),(6,_),(19,.val (Value.bool false))] [(2,_),(3,_),(4,_),(5,_)] (fun a w h=>?_)
   refine go_cond h false rfl (fun ht=>?_) (fun hf=>?_)
   case refine_1=>cases ht
   refine wp_skip ?_
   refine blk_norm ?_
   refine then_norm ?_
   refine aE h [1] [eS 11 _,eS 12 (.val (Value.int .i64 (255-((j+1:Nat):Int)))),eS 6 _] ⟨rfl,fun L u=>u_bin u (gd0 rfl) _ rfl _ _ _ _ _ rfl rfl rfl (eqg_int _ _ _ _ _ _ _ _) _ (fun w=>i_sub _ _ _ _ (by omega) (by omega) w),rfl,T0⟩ [(2,_),(3,_),(4,_),(5,_),(6,.val (Value.int .i64 (255-((j+1:Nat):Int))))] [(2,_),(3,_),(4,_),(5,_)] (fun a w h=>?_)
   refine then_norm ?_
   exact ⟨j+1,(by omega),(by omega),h.keep [(2,.ptr 2 0),(3,.ptr 3 0),(4,.ptr 4 0),(5,.ptr 5 0),(6,.val (Value.int .i64 (255-((j+1:Nat):Int))))] [(2,nc ((k:Int))),(3,gc (x)++gc (y)++gc (z)++gc (t)),(4,nz++nz++nz++nz),(5,gc ((xm xadd k ⟨x,y,z,t⟩ (j+1)).x)++gc ((xm xadd k ⟨x,y,z,t⟩ (j+1)).y)++gc ((xm xadd k ⟨x,y,z,t⟩ (j+1)).z)++gc ((xm xadd k ⟨x,y,z,t⟩ (j+1)).t))] ⟨rfl,rfl,rfl,rfl,rfl,trivial⟩ ⟨rfl,rfl,rfl,(congrArg (fun p:X4=>some (gc p.x++gc p.y++gc p.z++gc p.t)) (show xm xadd k ⟨x,y,z,t⟩ (j+1)=_ from if_neg hb).symm),trivial⟩ rfl⟩
 ·skip
  refine wp_seq ?_
  refine aX h [1] [eS 9 _,eS 10 (.val (Value.bool false))] ⟨rfl,fun L u=>u_bin u (gd0 rfl) _ rfl _ _ _ _ _ rfl rfl rfl (eqg_int _ _ _ _ _ _ _ _) _ (no_of (fun w=>i_geq _ _ _ _ w) (by omega)),T0⟩ [(2,_),(3,_),(4,_),(5,_),(6,_),(10,.val (Value.bool false))] [(2,_),(3,_),(4,_),(5,_)] (fun a w h=>?_)
  refine go_cond h false rfl (fun ht=>?_) (fun hf=>?_)
  case refine_1=>cases ht
  refine wp_exit ?_
  refine then_exit ?_
  refine then_exit ?_
  refine blk_exit ?_
  refine then_norm ?_
  refine aX h [] [eS 23 _,eM 4 _] ⟨rfl,rfl,T0⟩ [(4,_)] [(4,gc ((xm xadd k ⟨x,y,z,t⟩ (j)).x)++gc ((xm xadd k ⟨x,y,z,t⟩ (j)).y)++gc ((xm xadd k ⟨x,y,z,t⟩ (j)).z)++gc ((xm xadd k ⟨x,y,z,t⟩ (j)).t))] (fun a w h=>?_)
  refine wp_ret ?_
  refine ret_row h 4 81 rfl (lk rfl) 4 rfl (gc ((xm xadd k ⟨x,y,z,t⟩ (j)).x)++gc ((xm xadd k ⟨x,y,z,t⟩ (j)).y)++gc ((xm xadd k ⟨x,y,z,t⟩ (j)).z)++gc ((xm xadd k ⟨x,y,z,t⟩ (j)).t)) rfl _ Tryz.underlying81 rfl i81 ?_
  exact ⟨by rw [show j=256 by omega];rfl,h.grows⟩
theorem e_Mul0 {w:World} (hT:Tab w) (k:Nat) {X Y:Int} (hX:Num X) (hY:Num Y) (t:Bool):Calls Tryz.prog 28 [.agg (nc ((k:Int))).toArray,.agg (rc X Y t).toArray].toArray w fun e w'=>e=.returned (.agg (pcE (xdrop (xm xadd k (xlift (rpE X Y t)) 256))).toArray)∧Below w.heap.size w w':=by
 refine enter (args:=[.agg (nc ((k:Int))).toArray,.agg (rc X Y t).toArray]) Tryz.func28 rfl 10 rfl (lk rfl) (fun a h=>?_)
 refine aX h [] [eN 2 _,eN 3 _,eN 4 _] ⟨rfl,rfl,rfl,T0⟩ [(2,.ptr 2 0),(3,.ptr 3 0),(4,.ptr 4 0)] [(2,nc ((k:Int))),(3,rc X Y t),(4,nz++nz++[Value.bool false])] (fun a w h=>?_)
 refine aX h [2,3,4] [eS 5 _,eS 6 _,eS 7 _,eS 8 _,eS 9 _,eM 4 _] ⟨rfl,rfl,fun L u=>u_call u (gd0 rfl) _ rfl _ _ _ rfl [_] rfl (cE65 _) _ (fun w hb=>e_lift (hT.keep (Bs.kp_of hb)) hX hY t),fun L u=>u_call u (gd0 rfl) _ rfl _ _ _ rfl [_,_] rfl (cE64 _) _ (fun w hb=>e_times (hT.keep (Bs.kp_of hb)) _ _ _ _ _),fun L u=>u_call u (gd0 rfl) _ rfl _ _ _ rfl [_] rfl (cE63 _) _ (fun w hb=>e_drop (hT.keep (Bs.kp_of hb)) _ _ _ _),rfl,T0⟩ [(4,_)] [(4,pcE (xdrop (xm xadd k (xlift (rpE X Y t)) 256)))] (fun a w h=>?_)
 refine wp_ret ?_
 refine ret_row h 4 40 rfl (lk rfl) 4 rfl (pcE (xdrop (xm xadd k (xlift (rpE X Y t)) 256))) rfl _ Tryz.underlying40 rfl i40 ?_
 exact ⟨rfl,h.grows⟩
theorem xl_on (X Y:Int) (t:Bool):Xo (xlift (rpE X Y t)):=xo_lift (rpE_on X Y t)
theorem e_Mul {w:World} (hT:Tab w) {k:Nat} (hk:k<2 ^ 256) {X Y:Int} (hX:Num X) (hY:Num Y) (t:Bool):Calls Tryz.prog 28 [.agg (nc (k:Int)).toArray,.agg (rc X Y t).toArray].toArray w fun e w'=>e=.returned (.agg (pcE (mt eadd (Ep.o m2) (rpE X Y t) k)).toArray)∧Below w.heap.size w w':=by
 have h:=e_Mul0 hT k hX hY t
 rw [xm_all xadd_sums hk (xl_on X Y t),xdrop_lift] at h
 exact h
theorem e_Base {w:World} :Calls Tryz.prog 29 [].toArray w fun e w'=>e=.returned (.agg (pcE eG).toArray)∧Below w.heap.size w w':=by
 refine enter (args:=[]) Tryz.func29 rfl 4 rfl (lk rfl) (fun a h=>?_)
 refine aX h [] [eN 0 _] ⟨rfl,T0⟩ [(0,.ptr 0 0)] [(0,nz++nz++[Value.bool false])] (fun a w h=>?_)
 refine aX h [0,1,2] [eS 1 (.val (.agg ([(Value.int IntKind.u64 14507833142362363162)]++[(Value.int IntKind.u64 7578651490590762930)]++[(Value.int IntKind.u64 13881468655802702940)]++[(Value.int IntKind.u64 2407515759118799870)]).toArray)),eS 2 (.val (.agg ([(Value.int IntKind.u64 7378697629483820632)]++[(Value.int IntKind.u64 7378697629483820646)]++[(Value.int IntKind.u64 7378697629483820646)]++[(Value.int IntKind.u64 7378697629483820646)]).toArray)),eS 3 (.val (.agg ([(Value.int IntKind.u64 14507833142362363162)]++[(Value.int IntKind.u64 7578651490590762930)]++[(Value.int IntKind.u64 13881468655802702940)]++[(Value.int IntKind.u64 2407515759118799870)]++[(Value.int IntKind.u64 7378697629483820632)]++[(Value.int IntKind.u64 7378697629483820646)]++[(Value.int IntKind.u64 7378697629483820646)]++[(Value.int IntKind.u64 7378697629483820646)]++[Value.bool false]).toArray)),eM 0 _] ⟨fun L u=>u_build u (gd0 rfl) 1 rfl 34 #[(0,(.const (.int .u64 14507833142362363162))),(1,(.const (.int .u64 7578651490590762930))),(2,(.const (.int .u64 13881468655802702940))),(3,(.const (.int .u64 2407515759118799870)))] rfl [(0,(Value.int IntKind.u64 14507833142362363162)),(1,(Value.int IntKind.u64 7578651490590762930)),(2,(Value.int IntKind.u64 13881468655802702940)),(3,(Value.int IntKind.u64 2407515759118799870))] rfl ([(Value.int IntKind.u64 14507833142362363162)]++[(Value.int IntKind.u64 7578651490590762930)]++[(Value.int IntKind.u64 13881468655802702940)]++[(Value.int IntKind.u64 2407515759118799870)]) (g_bN4 _ _ _ _),fun L u=>u_build u (gd0 rfl) 2 rfl 34 #[(0,(.const (.int .u64 7378697629483820632))),(1,(.const (.int .u64 7378697629483820646))),(2,(.const (.int .u64 7378697629483820646))),(3,(.const (.int .u64 7378697629483820646)))] rfl [(0,(Value.int IntKind.u64 7378697629483820632)),(1,(Value.int IntKind.u64 7378697629483820646)),(2,(Value.int IntKind.u64 7378697629483820646)),(3,(Value.int IntKind.u64 7378697629483820646))] rfl ([(Value.int IntKind.u64 7378697629483820632)]++[(Value.int IntKind.u64 7378697629483820646)]++[(Value.int IntKind.u64 7378697629483820646)]++[(Value.int IntKind.u64 7378697629483820646)]) (g_bN4 _ _ _ _),fun L u=>u_build u (gd0 rfl) 3 rfl 40 #[(0,(.tmp 1)),(1,(.tmp 2))] rfl [(0,.agg ([(Value.int IntKind.u64 14507833142362363162)]++[(Value.int IntKind.u64 7578651490590762930)]++[(Value.int IntKind.u64 13881468655802702940)]++[(Value.int IntKind.u64 2407515759118799870)]).toArray),(1,.agg ([(Value.int IntKind.u64 7378697629483820632)]++[(Value.int IntKind.u64 7378697629483820646)]++[(Value.int IntKind.u64 7378697629483820646)]++[(Value.int IntKind.u64 7378697629483820646)]).toArray)] rfl ([(Value.int IntKind.u64 14507833142362363162)]++[(Value.int IntKind.u64 7578651490590762930)]++[(Value.int IntKind.u64 13881468655802702940)]++[(Value.int IntKind.u64 2407515759118799870)]++[(Value.int IntKind.u64 7378697629483820632)]++[(Value.int IntKind.u64 7378697629483820646)]++[(Value.int IntKind.u64 7378697629483820646)]++[(Value.int IntKind.u64 7378697629483820646)]++[Value.bool false]) (g_bPc _ _ _ _ _ _ _ _),rfl,T0⟩ [(0,_)] [(0,[(Value.int IntKind.u64 14507833142362363162)]++[(Value.int IntKind.u64 7578651490590762930)]++[(Value.int IntKind.u64 13881468655802702940)]++[(Value.int IntKind.u64 2407515759118799870)]++[(Value.int IntKind.u64 7378697629483820632)]++[(Value.int IntKind.u64 7378697629483820646)]++[(Value.int IntKind.u64 7378697629483820646)]++[(Value.int IntKind.u64 7378697629483820646)]++[Value.bool false])] (fun a w h=>?_)
 refine wp_ret ?_
 refine ret_row h 0 40 rfl (lk rfl) 0 rfl ([(Value.int IntKind.u64 14507833142362363162)]++[(Value.int IntKind.u64 7578651490590762930)]++[(Value.int IntKind.u64 13881468655802702940)]++[(Value.int IntKind.u64 2407515759118799870)]++[(Value.int IntKind.u64 7378697629483820632)]++[(Value.int IntKind.u64 7378697629483820646)]++[(Value.int IntKind.u64 7378697629483820646)]++[(Value.int IntKind.u64 7378697629483820646)]++[Value.bool false]) rfl _ Tryz.underlying40 rfl i40 ?_
 exact ⟨by rw [pcE_G],h.grows⟩
end Go.Proofs.YtjaahnlpnkcimaaGreatDoor
namespace Go.Proofs.YtjaahnlpnkcimaaGreatDoor
set_option maxRecDepth 100000
open Go.RowKit
section
variable {P:Program} {W:Bs} {n:Nat} {ops:Array Oper} {i:Nat} {o:Oper} {L:Nat→Bool} {xs:List OE} {σ:SS}
theorem u_lenE (u:Up ops i o L) (hg:Gd ops n o (run L 0 xs σ)) (dd:Nat) (hdd:o.dst=some dd) (x:Operand) (t:TypeId) (ho:o.op=.call { callee:=.builtin .len,args:=#[x],argTypes:=#[t] }) {y off m c:Nat} (hx:lookO n ops i o xs σ x=some (.sli y off m c)) {e:TypeId} (hu:P.underlying t=some (.slice e)):GStep P W n ops o (run L 0 xs σ) ((eS dd (.val (.int .i64 (m:Int)))).app (run L 0 xs σ)):=by
 refine u_any u hg dd hdd _ (fun x c hp=>by cases hp) fun β a w hr=>?_
 unfold execOp
 simp [ho,resolve,invoke,builtin,hr.eval (u.ev hx),SV.at,Builtin.len_,goInt,run_underlying hu]
end
theorem e_bit0 {w:World} (k:Nat):Calls Tryz.prog 54 [.agg (nc (k:Int)).toArray,.int .i64 0].toArray w fun e w'=>e=.returned (.int .i64 ((k % 2:Nat):Int))∧Below w.heap.size w w':=by
 have h:=e_bit (w:=w) k 0 (by omega)
 rw [Nat.pow_zero,Nat.div_one] at h
 exact h
theorem e_odd_t {w:World} {x:Fin m2} (hp:x.val % 2=1):Calls Tryz.prog 57 [.agg (gc (x)).toArray].toArray w fun e w'=>e=.returned (.bool true)∧Below w.heap.size w w':=by
 refine enter (args:=[.agg (gc (x)).toArray]) Tryz.func57 rfl 6 rfl (lk rfl) (fun a h=>?_)
 refine aX h [] [eN 1 _,eS 2 _] ⟨rfl,rfl,T0⟩ [(1,.ptr 1 0)] [(1,gc (x))] (fun a w h=>?_)
 refine aX h [1,2] [eS 3 _,eS 4 _,eS 5 (.val (Value.bool true)),eS 2 _] ⟨rfl,fun L u=>u_call u (gd0 rfl) _ rfl _ _ _ rfl [_,_] rfl (cE54 _) _ (fun w hb=>e_bit0 x.val),fun L u=>u_bin u (gd0 rfl) _ rfl _ _ _ _ _ rfl rfl rfl (eqg_int _ _ _ _ _ _ _ _) _ (yes_of (fun w=>i_eql _ _ _ _ w) (by omega)),rfl,T0⟩ [(2,.val (Value.bool true))] [] (fun a w h=>?_)
 refine wp_ret ?_
 refine ret_slot h 2 rfl (lk rfl) (Value.bool true) rfl ?_
 exact ⟨rfl,h.grows⟩
theorem e_odd_f {w:World} {x:Fin m2} (hp:x.val % 2=0):Calls Tryz.prog 57 [.agg (gc (x)).toArray].toArray w fun e w'=>e=.returned (.bool false)∧Below w.heap.size w w':=by
 refine enter (args:=[.agg (gc (x)).toArray]) Tryz.func57 rfl 6 rfl (lk rfl) (fun a h=>?_)
 refine aX h [] [eN 1 _,eS 2 _] ⟨rfl,rfl,T0⟩ [(1,.ptr 1 0)] [(1,gc (x))] (fun a w h=>?_)
 refine aX h [1,2] [eS 3 _,eS 4 _,eS 5 (.val (Value.bool false)),eS 2 _] ⟨rfl,fun L u=>u_call u (gd0 rfl) _ rfl _ _ _ rfl [_,_] rfl (cE54 _) _ (fun w hb=>e_bit0 x.val),fun L u=>u_bin u (gd0 rfl) _ rfl _ _ _ _ _ rfl rfl rfl (eqg_int _ _ _ _ _ _ _ _) _ (no_of (fun w=>i_eql _ _ _ _ w) (by omega)),rfl,T0⟩ [(2,.val (Value.bool false))] [] (fun a w h=>?_)
 refine wp_ret ?_
 refine ret_slot h 2 rfl (lk rfl) (Value.bool false) rfl ?_
 exact ⟨rfl,h.grows⟩
theorem ox_even:((Ep.o m2).x).val % 2=0:=by decide +kernel
theorem e_enc_even {w:World} (hT:Tab w) {x y:Fin m2} (hq:y*y-x*x=1+ed*(x*x*(y*y))) (hp:x.val % 2=0):Calls Tryz.prog 36 [.agg (gc (x)++gc (y)++[Value.bool false]).toArray].toArray w fun e w'=>NewC (fun i=>Y i (((code ⟨x,y⟩:Nat)):Int)) w e w':=by
 refine enter (args:=[.agg (gc (x)++gc (y)++[Value.bool false]).toArray]) Tryz.func36 rfl 23 rfl (lk rfl) (fun a h=>?_)
 refine aX h [] [eN 1 _,eS 2 _] ⟨rfl,rfl,T0⟩ [(1,.ptr 1 0)] [(1,gc (x)++gc (y)++[Value.bool false])] (fun a w h=>?_)
 refine wp_seq ?_
 refine aX h [1] [eS 4 _,eS 5 (.val (Value.bool true)),eS 6 _] ⟨rfl,fun L u=>u_call u (gd0 rfl) _ rfl _ _ _ rfl [_] rfl (cE59 _) (Value.bool true) (fun w hb=>by have f:=e_formed_at (hT.keep (Bs.kp_of hb)) x y;rw [decide_eq_true hq] at f;exact f),rfl,T0⟩ [(1,_),(6,.val (Value.bool false))] [(1,_)] (fun a w h=>?_)
 refine go_cond h false rfl (fun ht=>?_) (fun hf=>?_)
 case refine_1=>cases ht
 refine wp_skip ?_
 refine then_norm ?_
 refine aX h [2] [eS 8 _,eS 9 _,(⟨some (10,.sli 10 0 32 32),some (10,by32 (fun i=>Y i ((((y).val:Nat):Int)))),none,none,none⟩:OE),eS 3 _] ⟨rfl,rfl,fun L u=>u_callN u (gd0 rfl) 10 rfl rfl 22 #[(.tmp 9)] #[34] rfl [.val (.agg (gc (y)).toArray)] rfl (fun vs w=>callFunc_enter Tryz.func22 (by kernel_rfl) (by kernel_rfl) vs w) (some (32,32)) (by32 (fun i=>Y i ((((y).val:Nat):Int)))) (fun β a w hr=>e_PutC ((((y).val:Nat):Int)) w),rfl,T0⟩ [(1,_),(3,.sli 10 0 32 32)] [(1,_),(10,by32 (fun i=>Y i ((((y).val:Nat):Int))))] (fun a w h=>?_)
 refine wp_seq ?_
 refine aX h [2] [eS 11 _,eS 12 _,eS 13 _] ⟨rfl,rfl,fun L u=>u_call u (gd0 rfl) _ rfl _ _ _ rfl [_] rfl (cE57 _) _ (fun w hb=>e_odd_f hp),T0⟩ [(3,_),(13,.val (Value.bool false))] [(10,_)] (fun a w h=>?_)
 refine go_cond h false rfl (fun ht=>?_) (fun hf=>?_)
 case refine_1=>cases ht
 refine wp_skip ?_
 refine then_norm ?_
 refine aX h [] [eS 22 _,eS 2 _] ⟨rfl,rfl,T0⟩ [(2,.sli 10 0 32 32)] [(10,_)] (fun a w h=>?_)
 refine wp_ret ?_
 refine ret_newC (cs:=by32 (fun i=>Y i ((((y).val:Nat):Int)))) h 2 rfl (lk rfl) 10 rfl rfl ?_
 refine by32_ext ?_;intro i hi;show Y i _=Y i _;rw [code_even (a:=⟨x,y⟩) hp]
theorem e_enc_odd {w:World} (hT:Tab w) {x y:Fin m2} (hq:y*y-x*x=1+ed*(x*x*(y*y))) (hp:x.val % 2=1) (hb0:0≤Y 31 ((y.val:Nat):Int)) (hb1:Y 31 ((y.val:Nat):Int)<128):Calls Tryz.prog 36 [.agg (gc (x)++gc (y)++[Value.bool false]).toArray].toArray w fun e w'=>NewC (fun i=>Y i (((code ⟨x,y⟩:Nat)):Int)) w e w':=by
 refine enter (args:=[.agg (gc (x)++gc (y)++[Value.bool false]).toArray]) Tryz.func36 rfl 23 rfl (lk rfl) (fun a h=>?_)
 refine aX h [] [eN 1 _,eS 2 _] ⟨rfl,rfl,T0⟩ [(1,.ptr 1 0)] [(1,gc (x)++gc (y)++[Value.bool false])] (fun a w h=>?_)
 refine wp_seq ?_
 refine aX h [1] [eS 4 _,eS 5 (.val (Value.bool true)),eS 6 _] ⟨rfl,fun L u=>u_call u (gd0 rfl) _ rfl _ _ _ rfl [_] rfl (cE59 _) (Value.bool true) (fun w hb=>by have f:=e_formed_at (hT.keep (Bs.kp_of hb)) x y;rw [decide_eq_true hq] at f;exact f),rfl,T0⟩ [(1,_),(6,.val (Value.bool false))] [(1,_)] (fun a w h=>?_)
 refine go_cond h false rfl (fun ht=>?_) (fun hf=>?_)
 case refine_1=>cases ht
 refine wp_skip ?_
 refine then_norm ?_
 refine aX h [2] [eS 8 _,eS 9 _,(⟨some (10,.sli 10 0 32 32),some (10,by32 (fun i=>Y i ((((y).val:Nat):Int)))),none,none,none⟩:OE),eS 3 _] ⟨rfl,rfl,fun L u=>u_callN u (gd0 rfl) 10 rfl rfl 22 #[(.tmp 9)] #[34] rfl [.val (.agg (gc (y)).toArray)] rfl (fun vs w=>callFunc_enter Tryz.func22 (by kernel_rfl) (by kernel_rfl) vs w) (some (32,32)) (by32 (fun i=>Y i ((((y).val:Nat):Int)))) (fun β a w hr=>e_PutC ((((y).val:Nat):Int)) w),rfl,T0⟩ [(1,_),(3,.sli 10 0 32 32)] [(1,_),(10,by32 (fun i=>Y i ((((y).val:Nat):Int))))] (fun a w h=>?_)
 refine wp_seq ?_
 refine aX h [2] [eS 11 _,eS 12 _,eS 13 _] ⟨rfl,rfl,fun L u=>u_call u (gd0 rfl) _ rfl _ _ _ rfl [_] rfl (cE57 _) _ (fun w hb=>e_odd_t hp),T0⟩ [(3,_),(13,.val (Value.bool true))] [(10,_)] (fun a w h=>?_)
 refine go_cond h true rfl (fun ht=>?_) (fun hf=>?_)
 case refine_2=>cases hf
 refine aE h [2,3,4,6,7] [eS 14 _,eS 15 _,eS 16 (.val (Value.int .i64 32)),eS 17 (.val (Value.int .i64 31)),eS 18 (.ptr 10 31),eS 19 _,eS 20 (.val (Value.int .u8 (((fun i=>Y i ((((y).val:Nat):Int))) 31)+128))),eS 21 (.ptr 10 31),eM 10 _] ⟨rfl,rfl,fun L u=>u_lenE u (gd0 rfl) 16 rfl (.tmp 15) 24 rfl rfl Tryz.underlying24,fun L u=>u_bin u (gd0 rfl) _ rfl _ _ _ _ _ rfl rfl rfl (eqg_int _ _ _ _ _ _ _ _) _ (fun w=>i_sub _ _ _ _ (by decide) (by decide) w),fun L u=>u_atS u (gd0 rfl) 18 rfl 24 (.tmp 14) (.tmp 17) rfl rfl rfl (k:=31) rfl Tryz.underlying24 i5 (by decide) 31 rfl,rfl,fun L u=>u_bin u (gd0 rfl) _ rfl _ _ _ _ _ rfl rfl rfl (eqg_int _ _ _ _ _ _ _ _) _ (fun w=>i_orB _ _ _ hb0 hb1 rfl w),fun L u=>u_atS u (gd0 rfl) 21 rfl 24 (.tmp 14) (.tmp 17) rfl rfl rfl (k:=31) rfl Tryz.underlying24 i5 (by decide) 31 rfl,rfl,T0⟩ [(3,_)] [(10,by31 (fun i=>Y i ((((y).val:Nat):Int))) ((((fun i=>Y i ((((y).val:Nat):Int))) 31)+128)))] (fun a w h=>?_)
 refine then_norm ?_
 refine aX h [] [eS 22 _,eS 2 _] ⟨rfl,rfl,T0⟩ [(2,.sli 10 0 32 32)] [(10,_)] (fun a w h=>?_)
 refine wp_ret ?_
 refine ret_newC (cs:=by31 (fun i=>Y i ((((y).val:Nat):Int))) ((((fun i=>Y i ((((y).val:Nat):Int))) 31)+128))) h 2 rfl (lk rfl) 10 rfl rfl ?_
 refine by31_ext ?_ ?_;(intro i hi;show Y i _=Y i _;exact (e_on (a:=⟨x,y⟩) i hi).symm);(show Y 31 _+128=Y 31 _;exact (code_top (a:=⟨x,y⟩) hp).symm)
theorem e_enc_off {w:World} (hT:Tab w) {A B:Int} {t:Bool} (hF:∀ {w:World},Tab w→Calls Tryz.prog 59 [.agg (nc A++nc B++[Value.bool t]).toArray].toArray w fun e w'=>e=.returned (.bool false)∧Below w.heap.size w w'):Calls Tryz.prog 36 [.agg (nc (A)++nc (B)++[Value.bool t]).toArray].toArray w fun e w'=>NewC (fun i=>Y i (((code (Ep.o m2):Nat)):Int)) w e w':=by
 refine enter (args:=[.agg (nc (A)++nc (B)++[Value.bool t]).toArray]) Tryz.func36 rfl 23 rfl (lk rfl) (fun a h=>?_)
 refine aX h [] [eN 1 _,eS 2 _] ⟨rfl,rfl,T0⟩ [(1,.ptr 1 0)] [(1,nc (A)++nc (B)++[Value.bool t])] (fun a w h=>?_)
 refine wp_seq ?_
 refine aX h [1] [eS 4 _,eS 5 _,eS 6 _] ⟨rfl,fun L u=>u_call u (gd0 rfl) _ rfl _ _ _ rfl [_] rfl (cE59 _) _ (fun w hb=>hF (hT.keep (Bs.kp_of hb))),rfl,T0⟩ [(1,_),(6,.val (Value.bool true))] [(1,_)] (fun a w h=>?_)
 refine go_cond h true rfl (fun ht=>?_) (fun hf=>?_)
 case refine_2=>cases hf
 refine aE h [0] [eS 7 _,eM 1 _] ⟨fun L u=>u_call u (gd0 rfl) _ rfl _ _ _ rfl [] rfl (cE53 _) _ (fun w hb=>e_neutral),rfl,T0⟩ [(1,_)] [(1,pcE (Ep.o m2))] (fun a w h=>?_)
 refine then_norm ?_
 refine aX h [2] [eS 8 _,eS 9 _,(⟨some (10,.sli 10 0 32 32),some (10,by32 (fun i=>Y i (((((Ep.o m2).y).val:Nat):Int)))),none,none,none⟩:OE),eS 3 _] ⟨rfl,rfl,fun L u=>u_callN u (gd0 rfl) 10 rfl rfl 22 #[(.tmp 9)] #[34] rfl [.val (.agg (gc ((Ep.o m2).y)).toArray)] rfl (fun vs w=>callFunc_enter Tryz.func22 (by kernel_rfl) (by kernel_rfl) vs w) (some (32,32)) (by32 (fun i=>Y i (((((Ep.o m2).y).val:Nat):Int)))) (fun β a w hr=>e_PutC (((((Ep.o m2).y).val:Nat):Int)) w),rfl,T0⟩ [(1,_),(3,.sli 10 0 32 32)] [(1,_),(10,by32 (fun i=>Y i (((((Ep.o m2).y).val:Nat):Int))))] (fun a w h=>?_)
 refine wp_seq ?_
 refine aX h [2] [eS 11 _,eS 12 _,eS 13 _] ⟨rfl,rfl,fun L u=>u_call u (gd0 rfl) _ rfl _ _ _ rfl [_] rfl (cE57 _) _ (fun w hb=>e_odd_f (x:=(Ep.o m2).x) ox_even),T0⟩ [(3,_),(13,.val (Value.bool false))] [(10,_)] (fun a w h=>?_)
 refine go_cond h false rfl (fun ht=>?_) (fun hf=>?_)
 case refine_1=>cases ht
 refine wp_skip ?_
 refine then_norm ?_
 refine aX h [] [eS 22 _,eS 2 _] ⟨rfl,rfl,T0⟩ [(2,.sli 10 0 32 32)] [(10,_)] (fun a w h=>?_)
 refine wp_ret ?_
 refine ret_newC (cs:=by32 (fun i=>Y i (((((Ep.o m2).y).val:Nat):Int)))) h 2 rfl (lk rfl) 10 rfl rfl ?_
 refine by32_ext ?_;intro i hi;show Y i _=Y i _;rw [code_o];rfl
theorem e_EncC {w:World} (hT:Tab w) {X Y:Int} (hX:Num X) (hY:Num Y) (t:Bool):Calls Tryz.prog 36 [.agg (rc X Y t).toArray].toArray w fun e w'=>NewC (fun i=>Go.Proofs.YtjaahnlpnkcimaaGreatDoor.Y i (((code (rpE X Y t):Nat)):Int)) w e w':=by
 by_cases h:fmdE X Y t=false
 ·rw [fmdE_rp h]
  refine e_enc_off hT (fun hT=>?_)
  have f:=e_Formed hT hX hY t
  rw [h] at f
  exact f
 ·have h2:fmdE X Y t=true:=by simpa using h
  have hd:t=false∧X<md 2∧Y<md 2∧(kc Y:Fin m2)*kc Y-kc X*kc X=1+ed*(kc X*kc X*(kc Y*kc Y)):=of_decide_eq_true h2
  rw [show rpE X Y t=⟨kc X,kc Y⟩ from if_pos hd,hd.1,rc,nc_gc hX.lo hd.2.1,nc_gc hY.lo hd.2.2.1]
  obtain ⟨a,b,_⟩:=Y_top (y:=(((kc Y:Fin m2).val:Nat):Int)) (by omega) (y_int ⟨kc X,kc Y⟩)
  by_cases hp:(kc X:Fin m2).val % 2=0
  ·exact e_enc_even hT hd.2.2.2 hp
  ·exact e_enc_odd hT hd.2.2.2 (by omega) a b
end Go.Proofs.YtjaahnlpnkcimaaGreatDoor
namespace Go.Proofs.YtjaahnlpnkcimaaGreatDoor
set_option maxRecDepth 100000
open Go.RowKit
theorem nc_ex8:nc ((ex8:Nat):Int)=[Value.int .u64 18446744073709551614]++[Value.int .u64 18446744073709551615]++[Value.int .u64 18446744073709551615]++[Value.int .u64 1152921504606846975]:=by kernel_rfl
theorem TabX.ex {w:World} (h:TabX w):w.rangeAt 2 0 (nc ((ex8:Nat):Int)):=by
 rw [nc_ex8]
 intro j v hj
 match j,hj with
 | 0,hj=>cases hj;exact h.crootPower0
 | 1,hj=>cases hj;exact h.crootPower1
 | 2,hj=>cases hj;exact h.crootPower2
 | 3,hj=>cases hj;exact h.crootPower3
 | j+4,hj=>cases hj
theorem e_Lit {w:World} {b o c:Nat} {f:Nat→Nat} (hlt:∀ i,f i<256) (hrd:Rd w b o 32 (fun i=>((f i:Nat):Int))) {u:Nat} (hu:LN f u):Calls Tryz.prog 26 [.slice (some ⟨b,o,none⟩) 32 c].toArray w fun e w'=>e=.returned (.tuple [.agg (nc (u:Int)).toArray,.bool true].toArray)∧Below w.heap.size w w':=by
 have h:=little_any (cap:=c) (fun i=>⟨by omega,by have:=hlt i;omega⟩) hrd
 have e:∀ o,o+8≤32→E (fun i=>((f i:Nat):Int)) o 8=E (fun i=>Y i (u:Int)) o 8:=fun o ho=>E_congr o 8 (fun i hi=>(hu.at_ _ (by omega)).symm)
 have w4:=E_words (u:Int)
 rw [e 0 (by omega),e 8 (by omega),e 16 (by omega),e 24 (by omega),w4.1,w4.2.1,w4.2.2.1,w4.2.2.2] at h
 exact h
end Go.Proofs.YtjaahnlpnkcimaaGreatDoor
