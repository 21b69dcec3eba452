/- What the program's own Formed, lift, drop, times, Add, Mul, Both and Base answer. What the program answers at points. Small facts that every walk wants (no type of the program is named). Rows of bytes in memory. Rows of bytes that may grow. Bytes that are handed in, and bytes that are appended to a row of one's own (no function of the program is named). Words of 32 bits. The message's blocks, as a list (no function of the program is named). What the document's own turned answers. Rows of words in memory; what the document's own Start and K answer. Rows of bytes as cells. Texts, one behind the other; rows of bytes of one's own, as bytes that are handed on. Texts, one behind the other; hashes as values (no function of the program is named). What the document's own words answers. -/
import Derived.Test.YtmigakanbeckpaaGreatDoorRm22
import Derived.Test.YtmigakanbeckpaaGreatDoorRows
import Derived.WalkKit
import Derived.WalkSpells
import Derived.WalkSmall
import Derived.Laws.Externs
import Derived.Laws.Pointers
import Derived.Laws.BitsAllLaws
import Derived.Deep.RegionHeld3
import Derived.Deep.DrawnRows
import Derived.RowKit3
import Derived.LoopN
import Derived.Handy
import Derived.BigQuiet
import Derived.Deep.QuietTactic
import Derived.ChangeKeysEq
import Derived.Deep.AppendLies
import Derived.OwnWalk
import Derived.Deep.WholeRow
import Derived.Deep.MidRow
import Derived.Deep.DeepCutAuto
import Derived.Deep.LoopGhost
import Derived.BigRegion
set_option maxRecDepth 100000
set_option maxHeartbeats 8000000
namespace Go.Proofs.YtmigakanbeckpaaGreatDoor
set_option maxRecDepth 100000
open Go.RowKit
theorem q_below {w:World} (hT:Tab w) {a:Int} (ha:Num a) {t:Bool} (ht:decide (a<md 0)=t):Calls Tryz.prog 50 [.int .i64 0,.agg (nc a).toArray].toArray w fun e w'=>e=.returned (.bool t)∧Below w.heap.size w w':=by
 rw [← ht]
 exact below_any ha hT
theorem q_formed_none {w:World} {X Y:Int} (hX:Num X) (hY:Num Y):Calls Tryz.prog 51 [.agg (nc (X)++nc (Y)++[Value.bool true]).toArray].toArray w fun e w'=>e=.returned (.bool (decide (X=0∧Y=0)))∧Below w.heap.size w w':=by
 refine enter (args:=[.agg (nc (X)++nc (Y)++[Value.bool true]).toArray]) Tryz.func51 rfl 27 rfl (lk rfl) (fun a h=>?_)
 refine aX h [] [eN 1 _,eS 2 _] ⟨rfl,rfl,T0⟩ [(1,.ptr 1 0)] [(1,nc (X)++nc (Y)++[Value.bool true])] (fun a w h=>?_)
 refine wp_seq ?_
 refine aX h [] [eS 3 _,eS 4 _] ⟨rfl,rfl,T0⟩ [(1,_),(4,.val (Value.bool true))] [(1,_)] (fun a w h=>?_)
 refine go_cond h true rfl (fun ht=>?_) (fun hf=>?_)
 case refine_2=>cases hf
 refine aX h [1,2] [eS 5 _,eS 6 _,eS 7 (.val (Value.bool (decide (X=0∧Y=0)))),eS 2 _] ⟨rfl,fun L u=>u_call u (gd0 rfl) _ rfl _ _ _ rfl [] rfl (cE69 _) _ (fun w hb=>q_neutral),fun L u=>u_eql u (gd0 rfl) 7 rfl 44 44 (.tmp 5) (.tmp 6) rfl rfl rfl Tryz.eqGuardType44 (decide (X=0∧Y=0)) (fun w=>eq_none hX hY w),rfl,T0⟩ [(2,.val (Value.bool (decide (X=0∧Y=0))))] [] (fun a w h=>?_)
 refine wp_ret ?_
 refine then_ret ?_
 refine ret_slot h 2 rfl (lk rfl) (Value.bool (decide (X=0∧Y=0))) rfl ?_
 exact ⟨rfl,h.grows⟩
theorem q_formed_x {w:World} (hT:Tab w) {X Y:Int} (hX:Num X) (bX:decide (X<md 0)=false):Calls Tryz.prog 51 [.agg (nc (X)++nc (Y)++[Value.bool false]).toArray].toArray w fun e w'=>e=.returned (.bool false)∧Below w.heap.size w w':=by
 refine enter (args:=[.agg (nc (X)++nc (Y)++[Value.bool false]).toArray]) Tryz.func51 rfl 27 rfl (lk rfl) (fun a h=>?_)
 refine aX h [] [eN 1 _,eS 2 _] ⟨rfl,rfl,T0⟩ [(1,.ptr 1 0)] [(1,nc (X)++nc (Y)++[Value.bool false])] (fun a w h=>?_)
 refine wp_seq ?_
 refine aX h [] [eS 3 _,eS 4 _] ⟨rfl,rfl,T0⟩ [(1,_),(4,.val (Value.bool false))] [(1,_)] (fun a w h=>?_)
 refine go_cond h false rfl (fun ht=>?_) (fun hf=>?_)
 case refine_1=>cases ht
 refine wp_skip ?_
 refine then_norm ?_
 refine aX h [2] [eS 8 _,eS 9 _,eS 10 _,eS 11 _,eS 12 _,eS 13 _,eS 14 _,eS 15 _,eS 16 _,eS 17 _,eS 18 _,eS 19 _,eS 20 _,eS 21 _,eS 22 _,eS 23 _,eS 24 _,eS 25 _,eS 26 _,eS 2 _] ⟨rfl,rfl,fun L u=>u_call u (gd0 rfl) _ rfl _ _ _ rfl [_,_] rfl (cE50 _) _ (fun w hb=>q_below (hT.keep (Bs.kp_of hb)) hX bX),rfl,rfl,rfl,rfl,rfl,rfl,rfl,rfl,rfl,rfl,rfl,rfl,rfl,rfl,rfl,rfl,rfl,T0⟩ [(2,.val (Value.bool false))] [] (fun a w h=>?_)
 refine wp_ret ?_
 refine ret_slot h 2 rfl (lk rfl) (Value.bool false) rfl ?_
 exact ⟨rfl,h.grows⟩
theorem q_formed_y {w:World} (hT:Tab w) {X Y:Int} (hX:Num X) (bX:decide (X<md 0)=true) (hY:Num Y) (bY:decide (Y<md 0)=false):Calls Tryz.prog 51 [.agg (nc (X)++nc (Y)++[Value.bool false]).toArray].toArray w fun e w'=>e=.returned (.bool false)∧Below w.heap.size w w':=by
 refine enter (args:=[.agg (nc (X)++nc (Y)++[Value.bool false]).toArray]) Tryz.func51 rfl 27 rfl (lk rfl) (fun a h=>?_)
 refine aX h [] [eN 1 _,eS 2 _] ⟨rfl,rfl,T0⟩ [(1,.ptr 1 0)] [(1,nc (X)++nc (Y)++[Value.bool false])] (fun a w h=>?_)
 refine wp_seq ?_
 refine aX h [] [eS 3 _,eS 4 _] ⟨rfl,rfl,T0⟩ [(1,_),(4,.val (Value.bool false))] [(1,_)] (fun a w h=>?_)
 refine go_cond h false rfl (fun ht=>?_) (fun hf=>?_)
 case refine_1=>cases ht
 refine wp_skip ?_
 refine then_norm ?_
 refine aX h [2,6] [eS 8 _,eS 9 _,eS 10 _,eS 11 _,eS 12 _,eS 13 _,eS 14 _,eS 15 _,eS 16 _,eS 17 _,eS 18 _,eS 19 _,eS 20 _,eS 21 _,eS 22 _,eS 23 _,eS 24 _,eS 25 _,eS 26 _,eS 2 _] ⟨rfl,rfl,fun L u=>u_call u (gd0 rfl) _ rfl _ _ _ rfl [_,_] rfl (cE50 _) _ (fun w hb=>q_below (hT.keep (Bs.kp_of hb)) hX bX),rfl,rfl,rfl,fun L u=>u_call u (gd1 u 3 true rfl 11 rfl (lk rfl) rfl) _ rfl _ _ _ rfl [_,_] rfl (cE50 _) _ (fun w hb=>q_below (hT.keep (Bs.kp_of hb)) hY bY),rfl,rfl,rfl,rfl,rfl,rfl,rfl,rfl,rfl,rfl,rfl,rfl,rfl,T0⟩ [(2,.val (Value.bool false))] [] (fun a w h=>?_)
 refine wp_ret ?_
 refine ret_slot h 2 rfl (lk rfl) (Value.bool false) rfl ?_
 exact ⟨rfl,h.grows⟩
theorem formed_poly {p:Nat} [NeZero p] (b x y:Fin p) {v1:Fin p} (ev1:v1=y*y) {v2:Fin p} (ev2:v2=x*x*x-(x+x+x)+b):decide (v1=v2)=decide (y*y=x*x*x-3*x+b):=by
 subst ev1 ev2
 have e:∀ l r l2 r2:Fin p,l=l2→r=r2→decide (l=r)=decide (l2=r2):=fun l r l2 r2 h1 h2=>by rw [h1,h2]
 apply e <;> grobner
theorem q_formed_at {w:World} (hT:Tab w) (x y:Fin m0):Calls Tryz.prog 51 [.agg (fc (x)++fc (y)++[Value.bool false]).toArray].toArray w fun e w'=>e=.returned (.bool (decide (y*y=x*x*x-3*x+wb)))∧Below w.heap.size w w':=by
 obtain ⟨v1,ev1⟩:∃ z,z=y*y:=⟨_,rfl⟩
 obtain ⟨v2,ev2⟩:∃ z,z=x*x*x-(x+x+x)+wb:=⟨_,rfl⟩
 have hpp:=formed_poly wb x y ev1 ev2
 refine enter (args:=[.agg (fc (x)++fc (y)++[Value.bool false]).toArray]) Tryz.func51 rfl 27 rfl (lk rfl) (fun a h=>?_)
 refine aX h [] [eN 1 _,eS 2 _] ⟨rfl,rfl,T0⟩ [(1,.ptr 1 0)] [(1,fc (x)++fc (y)++[Value.bool false])] (fun a w h=>?_)
 refine wp_seq ?_
 refine aX h [] [eS 3 _,eS 4 _] ⟨rfl,rfl,T0⟩ [(1,_),(4,.val (Value.bool false))] [(1,_)] (fun a w h=>?_)
 refine go_cond h false rfl (fun ht=>?_) (fun hf=>?_)
 case refine_1=>cases ht
 refine wp_skip ?_
 refine then_norm ?_
 refine aX h [2,6,13,16,17] [eS 8 _,eS 9 _,eS 10 _,eS 11 _,eS 12 _,eS 13 _,eS 14 _,eS 15 _,eS 16 _,eS 17 _,eS 18 _,eS 19 _,eS 20 _,eS 21 (.val (.agg (fc (v1)).toArray)),eS 22 _,eS 23 _,eS 24 (.val (.agg (fc (v2)).toArray)),eS 25 (.val (Value.bool (decide (v1=v2)))),eS 26 _,eS 2 _] ⟨rfl,rfl,fun L u=>u_call u (gd0 rfl) _ rfl _ _ _ rfl [_,_] rfl (cE50 _) _ (fun w hb=>q_below (hT.keep (Bs.kp_of hb)) (fin_num _) (fin_lt _)),rfl,rfl,rfl,fun L u=>u_call u (gd1 u 3 true rfl 11 rfl (lk rfl) rfl) _ rfl _ _ _ rfl [_,_] rfl (cE50 _) _ (fun w hb=>q_below (hT.keep (Bs.kp_of hb)) (fin_num _) (fin_lt _)),rfl,rfl,rfl,rfl,rfl,rfl,fun L u=>u_call u (gd1 u 8 true rfl 16 rfl (lk rfl) rfl) _ rfl _ _ _ rfl [_,_] rfl (cE90 _) (.agg (fc (v1)).toArray) (fun w hb=>by have g:=q_mul (hT.keep (Bs.kp_of hb)) y y;rw [← ev1] at g;exact g),rfl,rfl,fun L u=>u_call u (gd1 u 8 true rfl 16 rfl (lk rfl) rfl) _ rfl _ _ _ rfl [_] rfl (cE91 _) (.agg (fc (v2)).toArray) (fun w hb=>by have g:=q_right (hT.keep (Bs.kp_of hb)) x;rw [← ev2] at g;exact g),fun L u=>u_eql u (gd1 u 8 true rfl 16 rfl (lk rfl) rfl) 25 rfl 24 24 (.tmp 21) (.tmp 24) rfl rfl rfl Tryz.eqGuardType24 (decide (v1=v2)) (fun w=>eq_fc _ _ w),rfl,rfl,T0⟩ [(2,.val (Value.bool (decide (v1=v2))))] [] (fun a w h=>?_)
 refine wp_ret ?_
 refine ret_slot h 2 rfl (lk rfl) (Value.bool (decide (v1=v2))) rfl ?_
 exact ⟨by rw [← hpp],h.grows⟩
theorem q_Formed {w:World} (hT:Tab w) {X Y:Int} (hX:Num X) (hY:Num Y) (t:Bool):Calls Tryz.prog 51 [.agg (rc X Y t).toArray].toArray w fun e w'=>e=.returned (.bool (fmd X Y t))∧Below w.heap.size w w':=by
 cases t with
 | true=>exact q_formed_none hX hY
 | false =>
  rw [show fmd X Y false=decide (X<md 0∧Y<md 0∧(kc Y:Fin m0)*kc Y=kc X*kc X*kc X-3*kc X+wb) from rfl]
  by_cases h1:X<md 0
  ·by_cases h2:Y<md 0
   ·have e1:=nc_kc hX.lo h1
    have e2:=nc_kc hY.lo h2
    have h:=q_formed_at hT (kc X) (kc Y)
    rw [rc,e1,e2]
    have e3:decide (X<md 0∧Y<md 0∧(kc Y:Fin m0)*kc Y=kc X*kc X*kc X-3*kc X+wb)=decide ((kc Y:Fin m0)*kc Y=kc X*kc X*kc X-3*kc X+wb):=by
     have:(X<md 0∧Y<md 0∧(kc Y:Fin m0)*kc Y=kc X*kc X*kc X-3*kc X+wb)=((kc Y:Fin m0)*kc Y=kc X*kc X*kc X-3*kc X+wb):=propext ⟨fun h=>h.2.2,fun h=>⟨h1,h2,h⟩⟩
     simp only [this]
    rw [e3]
    exact h
   ·rw [decide_eq_false (fun h=>h2 h.2.1)]
    exact q_formed_y hT hX (decide_eq_true h1) hY (decide_eq_false h2)
  ·rw [decide_eq_false (fun h=>h1 h.1)]
   exact q_formed_x hT hX (decide_eq_false h1)
theorem q_lift_none {w:World} {X Y:Int}:Calls Tryz.prog 95 [.agg (nc (X)++nc (Y)++[Value.bool true]).toArray].toArray w fun e w'=>e=.returned (.agg (jc (Wp.lift (none:Wp m0))).toArray)∧Below w.heap.size w w':=by
 obtain ⟨one,hone⟩:∃ z:Fin m0,z=1:=⟨_,rfl⟩
 refine enter (args:=[.agg (nc (X)++nc (Y)++[Value.bool true]).toArray]) Tryz.func95 rfl 18 rfl (lk rfl) (fun a h=>?_)
 refine aX h [] [eN 1 _,eN 2 _] ⟨rfl,rfl,T0⟩ [(1,.ptr 1 0),(2,.ptr 2 0)] [(1,nc (X)++nc (Y)++[Value.bool true]),(2,nz++nz++nz)] (fun a w h=>?_)
 refine wp_seq ?_
 refine aX h [] [eS 3 _,eS 4 _,eS 5 _,eS 6 _,eS 7 _,eS 8 _,eS 9 _] ⟨rfl,rfl,rfl,rfl,rfl,rfl,rfl,T0⟩ [(1,_),(2,_),(9,.val (Value.bool true))] [(1,_),(2,_)] (fun a w h=>?_)
 refine go_cond h true rfl (fun ht=>?_) (fun hf=>?_)
 case refine_2=>cases hf
 refine aX h [0,1] [eS 10 (.val (.agg (fc (one)).toArray)),eS 11 (.val (.agg (nz++fc (one)++nz).toArray)),eM 2 _] ⟨fun L u=>u_build u (gd0 rfl) 10 rfl 24 #[(0,(.const (.int .u64 1)))] rfl [(0,(Value.int IntKind.u64 1))] rfl (fc (one)) (bN1x hone),fun L u=>u_build u (gd0 rfl) 11 rfl 96 #[(1,(.tmp 10))] rfl [(1,.agg (fc (one)).toArray)] rfl (nz++fc (one)++nz) (bQ1 _),rfl,T0⟩ [(2,_)] [(2,nz++fc (one)++nz)] (fun a w h=>?_)
 refine wp_ret ?_
 refine then_ret ?_
 refine ret_row h 2 96 rfl (lk rfl) 2 rfl (nz++fc (one)++nz) rfl _ Tryz.underlying96 rfl i96 ?_
 exact ⟨by rw [l_none,hone,nz_fc],h.grows⟩
theorem q_lift_off {w:World} (hT:Tab w) {X Y:Int} (hX:Num X) (hY:Num Y) (hf0:fmd X Y false=false):Calls Tryz.prog 95 [.agg (nc (X)++nc (Y)++[Value.bool false]).toArray].toArray w fun e w'=>e=.returned (.agg (jc (Wp.lift (none:Wp m0))).toArray)∧Below w.heap.size w w':=by
 obtain ⟨one,hone⟩:∃ z:Fin m0,z=1:=⟨_,rfl⟩
 refine enter (args:=[.agg (nc (X)++nc (Y)++[Value.bool false]).toArray]) Tryz.func95 rfl 18 rfl (lk rfl) (fun a h=>?_)
 refine aX h [] [eN 1 _,eN 2 _] ⟨rfl,rfl,T0⟩ [(1,.ptr 1 0),(2,.ptr 2 0)] [(1,nc (X)++nc (Y)++[Value.bool false]),(2,nz++nz++nz)] (fun a w h=>?_)
 refine wp_seq ?_
 refine aX h [4] [eS 3 _,eS 4 _,eS 5 _,eS 6 _,eS 7 (.val (Value.bool false)),eS 8 _,eS 9 _] ⟨rfl,rfl,rfl,rfl,fun L u=>u_call u (gd1 u 2 false rfl 5 rfl (lk rfl) rfl) _ rfl _ _ _ rfl [_] rfl (cE51 _) (Value.bool false) (fun w hb=>by have f:=q_Formed (hT.keep (Bs.kp_of hb)) hX hY false;rw [hf0] at f;exact f),rfl,rfl,T0⟩ [(1,_),(2,_),(9,.val (Value.bool true))] [(1,_),(2,_)] (fun a w h=>?_)
 refine go_cond h true rfl (fun ht=>?_) (fun hf=>?_)
 case refine_2=>cases hf
 refine aX h [0,1] [eS 10 (.val (.agg (fc (one)).toArray)),eS 11 (.val (.agg (nz++fc (one)++nz).toArray)),eM 2 _] ⟨fun L u=>u_build u (gd0 rfl) 10 rfl 24 #[(0,(.const (.int .u64 1)))] rfl [(0,(Value.int IntKind.u64 1))] rfl (fc (one)) (bN1x hone),fun L u=>u_build u (gd0 rfl) 11 rfl 96 #[(1,(.tmp 10))] rfl [(1,.agg (fc (one)).toArray)] rfl (nz++fc (one)++nz) (bQ1 _),rfl,T0⟩ [(2,_)] [(2,nz++fc (one)++nz)] (fun a w h=>?_)
 refine wp_ret ?_
 refine then_ret ?_
 refine ret_row h 2 96 rfl (lk rfl) 2 rfl (nz++fc (one)++nz) rfl _ Tryz.underlying96 rfl i96 ?_
 exact ⟨by rw [l_none,hone,nz_fc],h.grows⟩
theorem q_lift_on {w:World} (hT:Tab w) {x y:Fin m0} (hq:y*y=x*x*x-3*x+wb):Calls Tryz.prog 95 [.agg (fc (x)++fc (y)++[Value.bool false]).toArray].toArray w fun e w'=>e=.returned (.agg (jc (Wp.lift (some (x,y)))).toArray)∧Below w.heap.size w w':=by
 obtain ⟨one,hone⟩:∃ z:Fin m0,z=1:=⟨_,rfl⟩
 refine enter (args:=[.agg (fc (x)++fc (y)++[Value.bool false]).toArray]) Tryz.func95 rfl 18 rfl (lk rfl) (fun a h=>?_)
 refine aX h [] [eN 1 _,eN 2 _] ⟨rfl,rfl,T0⟩ [(1,.ptr 1 0),(2,.ptr 2 0)] [(1,fc (x)++fc (y)++[Value.bool false]),(2,nz++nz++nz)] (fun a w h=>?_)
 refine wp_seq ?_
 refine aX h [4] [eS 3 _,eS 4 _,eS 5 _,eS 6 _,eS 7 (.val (Value.bool true)),eS 8 _,eS 9 _] ⟨rfl,rfl,rfl,rfl,fun L u=>u_call u (gd1 u 2 false rfl 5 rfl (lk rfl) rfl) _ rfl _ _ _ rfl [_] rfl (cE51 _) (Value.bool true) (fun w hb=>by have f:=q_formed_at (hT.keep (Bs.kp_of hb)) x y;rw [decide_eq_true hq] at f;exact f),rfl,rfl,T0⟩ [(1,_),(2,_),(9,.val (Value.bool false))] [(1,_),(2,_)] (fun a w h=>?_)
 refine go_cond h false rfl (fun ht=>?_) (fun hf=>?_)
 case refine_1=>cases ht
 refine wp_skip ?_
 refine then_norm ?_
 refine aX h [4,5] [eS 12 _,eS 13 _,eS 14 _,eS 15 _,eS 16 (.val (.agg (fc (one)).toArray)),eS 17 (.val (.agg (fc (x)++fc (y)++fc (one)).toArray)),eM 2 _] ⟨rfl,rfl,rfl,rfl,fun L u=>u_build u (gd0 rfl) 16 rfl 24 #[(0,(.const (.int .u64 1)))] rfl [(0,(Value.int IntKind.u64 1))] rfl (fc (one)) (bN1x hone),fun L u=>u_build u (gd0 rfl) 17 rfl 96 #[(0,(.tmp 13)),(1,(.tmp 15)),(2,(.tmp 16))] rfl [(0,.agg (fc (x)).toArray),(1,.agg (fc (y)).toArray),(2,.agg (fc (one)).toArray)] rfl (fc (x)++fc (y)++fc (one)) (bQ3 _ _ _),rfl,T0⟩ [(2,_)] [(2,fc (x)++fc (y)++fc (one))] (fun a w h=>?_)
 refine wp_ret ?_
 refine ret_row h 2 96 rfl (lk rfl) 2 rfl (fc (x)++fc (y)++fc (one)) rfl _ Tryz.underlying96 rfl i96 ?_
 exact ⟨by rw [l_some,hone],h.grows⟩
theorem q_lift {w:World} (hT:Tab w) {X Y:Int} (hX:Num X) (hY:Num Y) (t:Bool):Calls Tryz.prog 95 [.agg (rc X Y t).toArray].toArray w fun e w'=>e=.returned (.agg (jc (rp X Y t).lift).toArray)∧Below w.heap.size w w':=by
 cases t with
 | true=>exact q_lift_none
 | false =>
  by_cases h:X<md 0∧Y<md 0∧(kc Y:Fin m0)*kc Y=kc X*kc X*kc X-3*kc X+wb
  ·rw [show rp X Y false=some (kc X,kc Y) from if_pos ⟨rfl,h⟩,rc,nc_kc hX.lo h.1,nc_kc hY.lo h.2.1]
   exact q_lift_on hT h.2.2
  ·rw [show rp X Y false=none from if_neg (fun hq=>h hq.2)]
   exact q_lift_off hT hX hY ((show fmd X Y false=decide (X<md 0∧Y<md 0∧(kc Y:Fin m0)*kc Y=kc X*kc X*kc X-3*kc X+wb) from rfl).trans (decide_eq_false h))
theorem q_lift_o {w:World} {one:Fin m0} (hone:one=1):Calls Tryz.prog 95 [.agg (nz++nz++[Value.bool true]).toArray].toArray w fun e w'=>e=.returned (.agg (nz++fc one++nz).toArray)∧Below w.heap.size w w':=by
 have h:=q_lift_none (w:=w) (X:=0) (Y:=0)
 rw [l_none,← hone,← nz_fc] at h
 rw [← nz_nc] at h
 exact h
theorem q_drop {w:World} (hT:Tab w) (x y z:Fin m0):Calls Tryz.prog 93 [.agg (fc (x)++fc (y)++fc (z)).toArray].toArray w fun e w'=>e=.returned (.agg (pc (nm fiv ⟨x,y,z⟩)).toArray)∧Below w.heap.size w w':=by
 by_cases h0:z=0
 ·skip
  refine enter (args:=[.agg (fc (x)++fc (y)++fc (z)).toArray]) Tryz.func93 rfl 21 rfl (lk rfl) (fun a h=>?_)
  refine aX h [] [eN 1 _,eN 2 _] ⟨rfl,rfl,T0⟩ [(1,.ptr 1 0),(2,.ptr 2 0)] [(1,fc (x)++fc (y)++fc (z)),(2,nz++nz++[Value.bool false])] (fun a w h=>?_)
  refine wp_seq ?_
  refine aX h [2,3] [eS 4 _,eS 5 _,eS 6 (.val (.agg (nz).toArray)),eS 7 (.val (Value.bool true))] ⟨rfl,rfl,fun L u=>u_build u (gd0 rfl) 6 rfl 24 #[] rfl [] rfl (nz) (bN0),fun L u=>u_eql u (gd0 rfl) 7 rfl 24 24 (.tmp 5) (.tmp 6) rfl rfl rfl Tryz.eqGuardType24 (true) (eqz_t h0),T0⟩ [(1,_),(2,_),(7,.val (Value.bool true))] [(1,_),(2,_)] (fun a w h=>?_)
  refine go_cond h true rfl (fun ht=>?_) (fun hf=>?_)
  case refine_2=>cases hf
  refine aX h [0] [eS 8 _,eM 2 _] ⟨fun L u=>u_call u (gd0 rfl) _ rfl _ _ _ rfl [] rfl (cE69 _) _ (fun w hb=>q_neutral),rfl,T0⟩ [(2,_)] [(2,nz++nz++[Value.bool true])] (fun a w h=>?_)
  refine wp_ret ?_
  refine then_ret ?_
  refine ret_row h 2 44 rfl (lk rfl) 2 rfl (nz++nz++[Value.bool true]) rfl _ Tryz.underlying44 rfl i44 ?_
  exact ⟨by have e:nm fiv (⟨x,y,z⟩:P3 (Fin m0))=Wp.o:=if_pos h0;rw [e,nz_fc];rfl,h.grows⟩
 ·skip
  refine enter (args:=[.agg (fc (x)++fc (y)++fc (z)).toArray]) Tryz.func93 rfl 21 rfl (lk rfl) (fun a h=>?_)
  refine aX h [] [eN 1 _,eN 2 _] ⟨rfl,rfl,T0⟩ [(1,.ptr 1 0),(2,.ptr 2 0)] [(1,fc (x)++fc (y)++fc (z)),(2,nz++nz++[Value.bool false])] (fun a w h=>?_)
  refine wp_seq ?_
  refine aX h [2,3] [eS 4 _,eS 5 _,eS 6 (.val (.agg (nz).toArray)),eS 7 (.val (Value.bool false))] ⟨rfl,rfl,fun L u=>u_build u (gd0 rfl) 6 rfl 24 #[] rfl [] rfl (nz) (bN0),fun L u=>u_eql u (gd0 rfl) 7 rfl 24 24 (.tmp 5) (.tmp 6) rfl rfl rfl Tryz.eqGuardType24 (false) (eqz_f h0),T0⟩ [(1,_),(2,_),(7,.val (Value.bool false))] [(1,_),(2,_)] (fun a w h=>?_)
  refine go_cond h false rfl (fun ht=>?_) (fun hf=>?_)
  case refine_1=>cases ht
  refine wp_skip ?_
  refine then_norm ?_
  refine aX h [2] [eS 9 _,eS 10 _,eS 11 _,eN 3 _,eM 3 _] ⟨rfl,rfl,fun L u=>u_call u (gd0 rfl) _ rfl _ _ _ rfl [_,_] rfl (cE76 _) _ (fun w hb=>c_inv (hT.keep (Bs.kp_of hb)) _),rfl,rfl,T0⟩ [(1,_),(2,_),(3,.ptr 3 0)] [(1,_),(2,_),(3,fc (fiv (z)))] (fun a w h=>?_)
  refine aX h [3,7,8] [eS 12 _,eS 13 _,eS 14 _,eS 15 _,eS 16 _,eS 17 _,eS 18 _,eS 19 _,eS 20 (.val (.agg (fc (x*(fiv (z)))++fc (y*(fiv (z)))++[Value.bool false]).toArray)),eM 2 _] ⟨rfl,rfl,rfl,fun L u=>u_call u (gd0 rfl) _ rfl _ _ _ rfl [_,_] rfl (cE90 _) _ (fun w hb=>q_mul (hT.keep (Bs.kp_of hb)) _ _),rfl,rfl,rfl,fun L u=>u_call u (gd0 rfl) _ rfl _ _ _ rfl [_,_] rfl (cE90 _) _ (fun w hb=>q_mul (hT.keep (Bs.kp_of hb)) _ _),fun L u=>u_build u (gd0 rfl) 20 rfl 44 #[(0,(.tmp 15)),(1,(.tmp 19))] rfl [(0,.agg (fc (x*(fiv (z)))).toArray),(1,.agg (fc (y*(fiv (z)))).toArray)] rfl (fc (x*(fiv (z)))++fc (y*(fiv (z)))++[Value.bool false]) (bP _ _),rfl,T0⟩ [(2,_)] [(2,fc (x*(fiv (z)))++fc (y*(fiv (z)))++[Value.bool false])] (fun a w h=>?_)
  refine wp_ret ?_
  refine ret_row h 2 44 rfl (lk rfl) 2 rfl (fc (x*(fiv (z)))++fc (y*(fiv (z)))++[Value.bool false]) rfl _ Tryz.underlying44 rfl i44 ?_
  exact ⟨by have e:nm fiv (⟨x,y,z⟩:P3 (Fin m0))=Wp.pt (x*fiv z) (y*fiv z):=if_neg h0;rw [e];rfl,h.grows⟩
theorem q_bit {w:World} (k i:Nat) (hi:i<256):Calls Tryz.prog 126 [.agg (nc (k:Int)).toArray,.int .i64 (i:Int)].toArray w fun e w'=>e=.returned (.int .i64 ((k / 2 ^ i % 2:Nat):Int))∧Below w.heap.size w w':=by
 have h:=bit_any (k:Int) (i:Int) w
 have e:bt (k:Int) (i:Int)=((k / 2 ^ i % 2:Nat):Int):=by
  unfold bt
  rw [if_pos (by omega),Int.toNat_natCast,Int.natCast_emod,Int.natCast_ediv,Int.natCast_pow]
  rfl
 rw [e] at h
 exact h
theorem q_times {w:World} (hT:Tab w) (k:Nat) (x y z:Fin m0):Calls Tryz.prog 94 [.agg (nc ((k:Int))).toArray,.agg (fc (x)++fc (y)++fc (z)).toArray].toArray w fun e w'=>e=.returned (.agg (jc (wm k ⟨x,y,z⟩ 256)).toArray)∧Below w.heap.size w w':=by
 obtain ⟨one,hone⟩:∃ z:Fin m0,z=1:=⟨_,rfl⟩
 refine enter (args:=[.agg (nc ((k:Int))).toArray,.agg (fc (x)++fc (y)++fc (z)).toArray]) Tryz.func94 rfl 24 rfl (lk rfl) (fun a h=>?_)
 refine aX h [] [eN 2 _,eN 3 _,eN 4 _] ⟨rfl,rfl,rfl,T0⟩ [(2,.ptr 2 0),(3,.ptr 3 0),(4,.ptr 4 0)] [(2,nc ((k:Int))),(3,fc (x)++fc (y)++fc (z)),(4,nz++nz++nz)] (fun a w h=>?_)
 refine aX h [0,1] [eS 7 _,eS 8 _,eN 5 _,eM 5 _] ⟨fun L u=>u_call u (gd0 rfl) _ rfl _ _ _ rfl [] rfl (cE69 _) _ (fun w hb=>q_neutral),fun L u=>u_call u (gd0 rfl) _ rfl _ _ _ rfl [_] rfl (cE95 _) _ (fun w hb=>q_lift_o hone),rfl,rfl,T0⟩ [(2,_),(3,_),(4,_),(5,.ptr 5 0)] [(2,_),(3,_),(4,_),(5,nz++fc (one)++nz)] (fun a w h=>?_)
 refine wp_seq ?_
 refine aX h [] [eS 6 _] ⟨rfl,T0⟩ [(2,_),(3,_),(4,_),(5,_),(6,.val ((Value.int IntKind.i64 255)))] [(2,_),(3,_),(4,_),(5,_)] (fun a w h=>?_)
 refine wp_block ?_
 refine go_loop (fun (j:Nat)=>SS.mk' [(2,.ptr 2 0),(3,.ptr 3 0),(4,.ptr 4 0),(5,.ptr 5 0),(6,.val (Value.int .i64 (255-((j:Nat):Int))))] [(2,nc ((k:Int))),(3,fc (x)++fc (y)++fc (z)),(4,nz++nz++nz),(5,fc ((wm k ⟨x,y,z⟩ (j)).x)++fc ((wm k ⟨x,y,z⟩ (j)).y)++fc ((wm k ⟨x,y,z⟩ (j)).z))]) (fun j=>j≤256) (fun j=>256-j) (i:=0) (h.keep [(2,.ptr 2 0),(3,.ptr 3 0),(4,.ptr 4 0),(5,.ptr 5 0),(6,.val (Value.int .i64 (255-((0:Nat):Int))))] [(2,nc ((k:Int))),(3,fc (x)++fc (y)++fc (z)),(4,nz++nz++nz),(5,fc ((wm k ⟨x,y,z⟩ (0)).x)++fc ((wm k ⟨x,y,z⟩ (0)).y)++fc ((wm k ⟨x,y,z⟩ (0)).z))] ⟨rfl,rfl,rfl,rfl,rfl,T0⟩ ⟨rfl,rfl,rfl,(by rw [hone,nz_fc];rfl),T0⟩ rfl) (Nat.zero_le _) (fun j a w hG h=>?_)
 by_cases hs:j<256
 ·skip
  by_cases hb:k / 2 ^ (255-j) % 2=1
  ·skip
   refine wp_seq ?_
   refine aX h [1] [eS 9 _,eS 10 (.val (Value.bool true))] ⟨rfl,fun L u=>u_bin u (gd0 rfl) _ rfl _ _ _ _ _ rfl rfl rfl (eqg_int _ _ _ _ _ _ _ _) _ (yes_of (fun w=>i_geq _ _ _ _ w) (by omega)),T0⟩ [(2,_),(3,_),(4,_),(5,_),(6,_),(10,.val (Value.bool true))] [(2,_),(3,_),(4,_),(5,_)] (fun a w h=>?_)
   refine go_cond h true rfl (fun ht=>?_) (fun hf=>?_)
   case refine_2=>cases hf
   refine wp_skip ?_
   refine then_norm ?_
   refine wp_seq ?_
   refine wp_block ?_
   refine aX h [2] [eS 13 _,eS 14 _,eS 15 _,eM 5 _] ⟨rfl,rfl,fun L u=>u_call u (gd0 rfl) _ rfl _ _ _ rfl [_,_] rfl (cE114 _) _ (fun w hb=>q_plus (hT.keep (Bs.kp_of hb)) _ _ _ _ _ _),rfl,T0⟩ [(2,_),(3,_),(4,_),(5,_),(6,_)] [(2,_),(3,_),(4,_),(5,fc ((wa wb (wm k ⟨x,y,z⟩ (j)) (wm k ⟨x,y,z⟩ (j))).x)++fc ((wa wb (wm k ⟨x,y,z⟩ (j)) (wm k ⟨x,y,z⟩ (j))).y)++fc ((wa wb (wm k ⟨x,y,z⟩ (j)) (wm k ⟨x,y,z⟩ (j))).z))] (fun a w h=>?_)
   refine aX h [2,3] [eS 16 _,eS 17 _,eS 18 (.val (Value.int .i64 ((k / 2 ^ (255-j) % 2:Nat):Int))),eS 19 (.val (Value.bool true))] ⟨rfl,rfl,fun L u=>u_call u (gd0 rfl) _ rfl _ _ _ rfl [_,_] rfl (cE126 _) (Value.int .i64 ((k / 2 ^ (255-j) % 2:Nat):Int)) (fun w hb=>by have:=q_bit (w:=w) k (255-j) (by omega);rw [show (((255-j:Nat)):Int)=255-(j:Int) by omega] at this;exact this),fun L u=>u_bin u (gd0 rfl) _ rfl _ _ _ _ _ rfl rfl rfl (eqg_int _ _ _ _ _ _ _ _) _ (yes_of (fun w=>i_eql _ _ _ _ w) (by omega)),T0⟩ [(2,_),(3,_),(4,_),(5,_),(6,_),(19,.val (Value.bool true))] [(2,_),(3,_),(4,_),(5,_)] (fun a w h=>?_)
   refine go_cond h true rfl (fun ht=>?_) (fun hf=>?_)
   case refine_2=>cases hf
   refine aE h [2] [eS 20 _,eS 21 _,eS 22 _,eM 5 _] ⟨rfl,rfl,fun L u=>u_call u (gd0 rfl) _ rfl _ _ _ rfl [_,_] rfl (cE114 _) _ (fun w hb=>q_plus (hT.keep (Bs.kp_of hb)) _ _ _ _ _ _),rfl,T0⟩ [(2,_),(3,_),(4,_),(5,_),(6,_)] [(2,_),(3,_),(4,_),(5,fc ((wa wb (wa wb (wm k ⟨x,y,z⟩ (j)) (wm k ⟨x,y,z⟩ (j))) (⟨x,y,z⟩)).x)++fc ((wa wb (wa wb (wm k ⟨x,y,z⟩ (j)) (wm k ⟨x,y,z⟩ (j))) (⟨x,y,z⟩)).y)++fc ((wa wb (wa wb (wm k ⟨x,y,z⟩ (j)) (wm k ⟨x,y,z⟩ (j))) (⟨x,y,z⟩)).z))] (fun a w h=>?_)
   refine blk_norm ?_
   refine then_norm ?_
   refine aE h [1] [eS 11 _,eS 12 (.val (Value.int .i64 (255-((j+1:Nat):Int)))),eS 6 _] ⟨rfl,fun L u=>u_bin u (gd0 rfl) _ rfl _ _ _ _ _ rfl rfl rfl (eqg_int _ _ _ _ _ _ _ _) _ (fun w=>i_sub _ _ _ _ (by omega) (by omega) w),rfl,T0⟩ [(2,_),(3,_),(4,_),(5,_),(6,.val (Value.int .i64 (255-((j+1:Nat):Int))))] [(2,_),(3,_),(4,_),(5,_)] (fun a w h=>?_)
   refine then_norm ?_
   exact ⟨j+1,(by omega),(by omega),h.keep [(2,.ptr 2 0),(3,.ptr 3 0),(4,.ptr 4 0),(5,.ptr 5 0),(6,.val (Value.int .i64 (255-((j+1:Nat):Int))))] [(2,nc ((k:Int))),(3,fc (x)++fc (y)++fc (z)),(4,nz++nz++nz),(5,fc ((wm k ⟨x,y,z⟩ (j+1)).x)++fc ((wm k ⟨x,y,z⟩ (j+1)).y)++fc ((wm k ⟨x,y,z⟩ (j+1)).z))] ⟨rfl,rfl,rfl,rfl,rfl,trivial⟩ ⟨rfl,rfl,rfl,(congrArg (fun p:P3 (Fin m0)=>some (fc p.x++fc p.y++fc p.z)) (show wm k ⟨x,y,z⟩ (j+1)=_ from if_pos hb).symm),trivial⟩ rfl⟩
  ·skip
   refine wp_seq ?_
   refine aX h [1] [eS 9 _,eS 10 (.val (Value.bool true))] ⟨rfl,fun L u=>u_bin u (gd0 rfl) _ rfl _ _ _ _ _ rfl rfl rfl (eqg_int _ _ _ _ _ _ _ _) _ (yes_of (fun w=>i_geq _ _ _ _ w) (by omega)),T0⟩ [(2,_),(3,_),(4,_),(5,_),(6,_),(10,.val (Value.bool true))] [(2,_),(3,_),(4,_),(5,_)] (fun a w h=>?_)
   refine go_cond h true rfl (fun ht=>?_) (fun hf=>?_)
   case refine_2=>cases hf
   refine wp_skip ?_
   refine then_norm ?_
   refine wp_seq ?_
   refine wp_block ?_
   refine aX h [2] [eS 13 _,eS 14 _,eS 15 _,eM 5 _] ⟨rfl,rfl,fun L u=>u_call u (gd0 rfl) _ rfl _ _ _ rfl [_,_] rfl (cE114 _) _ (fun w hb=>q_plus (hT.keep (Bs.kp_of hb)) _ _ _ _ _ _),rfl,T0⟩ [(2,_),(3,_),(4,_),(5,_),(6,_)] [(2,_),(3,_),(4,_),(5,fc ((wa wb (wm k ⟨x,y,z⟩ (j)) (wm k ⟨x,y,z⟩ (j))).x)++fc ((wa wb (wm k ⟨x,y,z⟩ (j)) (wm k ⟨x,y,z⟩ (j))).y)++fc ((wa wb (wm k ⟨x,y,z⟩ (j)) (wm k ⟨x,y,z⟩ (j))).z))] (fun a w h=>?_)
   refine aX h [2,3] [eS 16 _,eS 17 _,eS 18 (.val (Value.int .i64 ((k / 2 ^ (255-j) % 2:Nat):Int))),eS 19 (.val (Value.bool false))] ⟨rfl,rfl,fun L u=>u_call u (gd0 rfl) _ rfl _ _ _ rfl [_,_] rfl (cE126 _) (Value.int .i64 ((k / 2 ^ (255-j) % 2:Nat):Int)) (fun w hb=>by have:=q_bit (w:=w) k (255-j) (by omega);rw [show (((255-j:Nat)):Int)=255-(j:Int) by omega] at this;exact this),fun L u=>u_bin u (gd0 rfl) _ rfl _ _ _ _ _ rfl rfl rfl (eqg_int _ _ _ _ _ _ _ _) _ (no_of (fun w=>i_eql _ _ _ _ w) (by omega)),T0⟩ [(2,_),(3,_),(4,_),(5,_),(6,_),(19,.val (Value.bool false))] [(2,_),(3,_),(4,_),(5,_)] (fun a w h=>?_)
   refine go_cond h false rfl (fun ht=>?_) (fun hf=>?_)
   case refine_1=>cases ht
   refine wp_skip ?_
   refine blk_norm ?_
   refine then_norm ?_
   refine aE h [1] [eS 11 _,eS 12 (.val (Value.int .i64 (255-((j+1:Nat):Int)))),eS 6 _] ⟨rfl,fun L u=>u_bin u (gd0 rfl) _ rfl _ _ _ _ _ rfl rfl rfl (eqg_int _ _ _ _ _ _ _ _) _ (fun w=>i_sub _ _ _ _ (by omega) (by omega) w),rfl,T0⟩ [(2,_),(3,_),(4,_),(5,_),(6,.val (Value.int .i64 (255-((j+1:Nat):Int))))] [(2,_),(3,_),(4,_),(5,_)] (fun a w h=>?_)
   refine then_norm ?_
   exact ⟨j+1,(by omega),(by omega),h.keep [(2,.ptr 2 0),(3,.ptr 3 0),(4,.ptr 4 0),(5,.ptr 5 0),(6,.val (Value.int .i64 (255-((j+1:Nat):Int))))] [(2,nc ((k:Int))),(3,fc (x)++fc (y)++fc (z)),(4,nz++nz++nz),(5,fc ((wm k ⟨x,y,z⟩ (j+1)).x)++fc ((wm k ⟨x,y,z⟩ (j+1)).y)++fc ((wm k ⟨x,y,z⟩ (j+1)).z))] ⟨rfl,rfl,rfl,rfl,rfl,trivial⟩ ⟨rfl,rfl,rfl,(congrArg (fun p:P3 (Fin m0)=>some (fc p.x++fc p.y++fc p.z)) (show wm k ⟨x,y,z⟩ (j+1)=_ from if_neg hb).symm),trivial⟩ rfl⟩
 ·skip
  refine wp_seq ?_
  refine aX h [1] [eS 9 _,eS 10 (.val (Value.bool false))] ⟨rfl,fun L u=>u_bin u (gd0 rfl) _ rfl _ _ _ _ _ rfl rfl rfl (eqg_int _ _ _ _ _ _ _ _) _ (no_of (fun w=>i_geq _ _ _ _ w) (by omega)),T0⟩ [(2,_),(3,_),(4,_),(5,_),(6,_),(10,.val (Value.bool false))] [(2,_),(3,_),(4,_),(5,_)] (fun a w h=>?_)
  refine go_cond h false rfl (fun ht=>?_) (fun hf=>?_)
  case refine_1=>cases ht
  refine wp_exit ?_
  refine then_exit ?_
  refine then_exit ?_
  refine blk_exit ?_
  refine then_norm ?_
  refine aX h [] [eS 23 _,eM 4 _] ⟨rfl,rfl,T0⟩ [(4,_)] [(4,fc ((wm k ⟨x,y,z⟩ (j)).x)++fc ((wm k ⟨x,y,z⟩ (j)).y)++fc ((wm k ⟨x,y,z⟩ (j)).z))] (fun a w h=>?_)
  refine wp_ret ?_
  refine ret_row h 4 96 rfl (lk rfl) 4 rfl (fc ((wm k ⟨x,y,z⟩ (j)).x)++fc ((wm k ⟨x,y,z⟩ (j)).y)++fc ((wm k ⟨x,y,z⟩ (j)).z)) rfl _ Tryz.underlying96 rfl i96 ?_
  exact ⟨by rw [show j=256 by omega];rfl,h.grows⟩
theorem q_Mul0 {w:World} (hT:Tab w) (k:Nat) {X Y:Int} (hX:Num X) (hY:Num Y) (t:Bool):Calls Tryz.prog 53 [.agg (nc ((k:Int))).toArray,.agg (rc X Y t).toArray].toArray w fun e w'=>e=.returned (.agg (pc (nm fiv (wm k (rp X Y t).lift 256))).toArray)∧Below w.heap.size w w':=by
 refine enter (args:=[.agg (nc ((k:Int))).toArray,.agg (rc X Y t).toArray]) Tryz.func53 rfl 10 rfl (lk rfl) (fun a h=>?_)
 refine aX h [] [eN 2 _,eN 3 _,eN 4 _] ⟨rfl,rfl,rfl,T0⟩ [(2,.ptr 2 0),(3,.ptr 3 0),(4,.ptr 4 0)] [(2,nc ((k:Int))),(3,rc X Y t),(4,nz++nz++[Value.bool false])] (fun a w h=>?_)
 refine aX h [2,3,4] [eS 5 _,eS 6 _,eS 7 _,eS 8 _,eS 9 _,eM 4 _] ⟨rfl,rfl,fun L u=>u_call u (gd0 rfl) _ rfl _ _ _ rfl [_] rfl (cE95 _) _ (fun w hb=>q_lift (hT.keep (Bs.kp_of hb)) hX hY t),fun L u=>u_call u (gd0 rfl) _ rfl _ _ _ rfl [_,_] rfl (cE94 _) _ (fun w hb=>q_times (hT.keep (Bs.kp_of hb)) _ _ _ _),fun L u=>u_call u (gd0 rfl) _ rfl _ _ _ rfl [_] rfl (cE93 _) _ (fun w hb=>q_drop (hT.keep (Bs.kp_of hb)) _ _ _),rfl,T0⟩ [(4,_)] [(4,pc (nm fiv (wm k ((rp X Y t).lift) 256)))] (fun a w h=>?_)
 refine wp_ret ?_
 refine ret_row h 4 44 rfl (lk rfl) 4 rfl (pc (nm fiv (wm k ((rp X Y t).lift) 256))) rfl _ Tryz.underlying44 rfl i44 ?_
 exact ⟨rfl,h.grows⟩
theorem q_Both0 {w:World} (hT:Tab w) (k1:Nat) {X Y:Int} (hX:Num X) (hY:Num Y) (t:Bool) (k2:Nat) {X2 Y2:Int} (hX2:Num X2) (hY2:Num Y2) (t2:Bool):Calls Tryz.prog 73 [.agg (nc ((k1:Int))).toArray,.agg (rc X Y t).toArray,.agg (nc ((k2:Int))).toArray,.agg (rc X2 Y2 t2).toArray].toArray w fun e w'=>e=.returned (.agg (pc (nm fiv (wa wb (wm k1 (rp X Y t).lift 256) (wm k2 (rp X2 Y2 t2).lift 256)))).toArray)∧Below w.heap.size w w':=by
 refine enter (args:=[.agg (nc ((k1:Int))).toArray,.agg (rc X Y t).toArray,.agg (nc ((k2:Int))).toArray,.agg (rc X2 Y2 t2).toArray]) Tryz.func73 rfl 19 rfl (lk rfl) (fun a h=>?_)
 refine aX h [] [eN 4 _,eN 5 _,eN 6 _,eN 7 _,eN 8 _] ⟨rfl,rfl,rfl,rfl,rfl,T0⟩ [(4,.ptr 4 0),(5,.ptr 5 0),(6,.ptr 6 0),(7,.ptr 7 0),(8,.ptr 8 0)] [(4,nc ((k1:Int))),(5,rc X Y t),(6,nc ((k2:Int))),(7,rc X2 Y2 t2),(8,nz++nz++[Value.bool false])] (fun a w h=>?_)
 refine aX h [2,3,6,7,8,9] [eS 9 _,eS 10 _,eS 11 _,eS 12 _,eS 13 _,eS 14 _,eS 15 _,eS 16 _,eS 17 _,eS 18 _,eM 8 _] ⟨rfl,rfl,fun L u=>u_call u (gd0 rfl) _ rfl _ _ _ rfl [_] rfl (cE95 _) _ (fun w hb=>q_lift (hT.keep (Bs.kp_of hb)) hX hY t),fun L u=>u_call u (gd0 rfl) _ rfl _ _ _ rfl [_,_] rfl (cE94 _) _ (fun w hb=>q_times (hT.keep (Bs.kp_of hb)) _ _ _ _),rfl,rfl,fun L u=>u_call u (gd0 rfl) _ rfl _ _ _ rfl [_] rfl (cE95 _) _ (fun w hb=>q_lift (hT.keep (Bs.kp_of hb)) hX2 hY2 t2),fun L u=>u_call u (gd0 rfl) _ rfl _ _ _ rfl [_,_] rfl (cE94 _) _ (fun w hb=>q_times (hT.keep (Bs.kp_of hb)) _ _ _ _),fun L u=>u_call u (gd0 rfl) _ rfl _ _ _ rfl [_,_] rfl (cE114 _) _ (fun w hb=>q_plus (hT.keep (Bs.kp_of hb)) _ _ _ _ _ _),fun L u=>u_call u (gd0 rfl) _ rfl _ _ _ rfl [_] rfl (cE93 _) _ (fun w hb=>q_drop (hT.keep (Bs.kp_of hb)) _ _ _),rfl,T0⟩ [(8,_)] [(8,pc (nm fiv (wa wb (wm k1 ((rp X Y t).lift) 256) (wm k2 ((rp X2 Y2 t2).lift) 256))))] (fun a w h=>?_)
 refine wp_ret ?_
 refine ret_row h 8 44 rfl (lk rfl) 8 rfl (pc (nm fiv (wa wb (wm k1 ((rp X Y t).lift) 256) (wm k2 ((rp X2 Y2 t2).lift) 256)))) rfl _ Tryz.underlying44 rfl i44 ?_
 exact ⟨rfl,h.grows⟩
theorem l_on (X Y:Int) (t:Bool):On wb (rp X Y t).lift:=on_lift wk0 (rp_on X Y t)
theorem q_Mul {w:World} (hT:Tab w) {k:Nat} (hk:k<2 ^ 256) {X Y:Int} (hX:Num X) (hY:Num Y) (t:Bool):Calls Tryz.prog 53 [.agg (nc (k:Int)).toArray,.agg (rc X Y t).toArray].toArray w fun e w'=>e=.returned (.agg (pc (mt wplus Wp.o (rp X Y t) k)).toArray)∧Below w.heap.size w w':=by
 have h:=q_Mul0 hT k hX hY t
 rw [wm_all hk (l_on X Y t),nm_lift fld0] at h
 exact h
theorem q_Both {w:World} (hT:Tab w) {k1:Nat} (hk1:k1<2 ^ 256) {X Y:Int} (hX:Num X) (hY:Num Y) (t:Bool) {k2:Nat} (hk2:k2<2 ^ 256) {X2 Y2:Int} (hX2:Num X2) (hY2:Num Y2) (t2:Bool):Calls Tryz.prog 73 [.agg (nc (k1:Int)).toArray,.agg (rc X Y t).toArray,.agg (nc (k2:Int)).toArray,.agg (rc X2 Y2 t2).toArray].toArray w fun e w'=>e=.returned (.agg (pc (wplus (mt wplus Wp.o (rp X Y t) k1) (mt wplus Wp.o (rp X2 Y2 t2) k2))).toArray)∧Below w.heap.size w w':=by
 have h:=q_Both0 hT k1 hX hY t k2 hX2 hY2 t2
 rw [wa_nm (wm_on (l_on X Y t) _) (wm_on (l_on X2 Y2 t2) _),wm_all hk1 (l_on X Y t),wm_all hk2 (l_on X2 Y2 t2),nm_lift fld0,nm_lift fld0] at h
 exact h
theorem q_Base {w:World} :Calls Tryz.prog 54 [].toArray w fun e w'=>e=.returned (.agg (pc wG).toArray)∧Below w.heap.size w w':=by
 refine enter (args:=[]) Tryz.func54 rfl 4 rfl (lk rfl) (fun a h=>?_)
 refine aX h [] [eN 0 _] ⟨rfl,T0⟩ [(0,.ptr 0 0)] [(0,nz++nz++[Value.bool false])] (fun a w h=>?_)
 refine aX h [0,1,2] [eS 1 (.val (.agg ([(Value.int IntKind.u64 17627433388654248598)]++[(Value.int IntKind.u64 8575836109218198432)]++[(Value.int IntKind.u64 17923454489921339634)]++[(Value.int IntKind.u64 7716867327612699207)]).toArray)),eS 2 (.val (.agg ([(Value.int IntKind.u64 14678990851816772085)]++[(Value.int IntKind.u64 3156516839386865358)]++[(Value.int IntKind.u64 10297457778147434006)]++[(Value.int IntKind.u64 5756518291402817435)]).toArray)),eS 3 (.val (.agg ([(Value.int IntKind.u64 17627433388654248598)]++[(Value.int IntKind.u64 8575836109218198432)]++[(Value.int IntKind.u64 17923454489921339634)]++[(Value.int IntKind.u64 7716867327612699207)]++[(Value.int IntKind.u64 14678990851816772085)]++[(Value.int IntKind.u64 3156516839386865358)]++[(Value.int IntKind.u64 10297457778147434006)]++[(Value.int IntKind.u64 5756518291402817435)]++[Value.bool false]).toArray)),eM 0 _] ⟨fun L u=>u_build u (gd0 rfl) 1 rfl 24 #[(0,(.const (.int .u64 17627433388654248598))),(1,(.const (.int .u64 8575836109218198432))),(2,(.const (.int .u64 17923454489921339634))),(3,(.const (.int .u64 7716867327612699207)))] rfl [(0,(Value.int IntKind.u64 17627433388654248598)),(1,(Value.int IntKind.u64 8575836109218198432)),(2,(Value.int IntKind.u64 17923454489921339634)),(3,(Value.int IntKind.u64 7716867327612699207))] rfl ([(Value.int IntKind.u64 17627433388654248598)]++[(Value.int IntKind.u64 8575836109218198432)]++[(Value.int IntKind.u64 17923454489921339634)]++[(Value.int IntKind.u64 7716867327612699207)]) (bN4 _ _ _ _),fun L u=>u_build u (gd0 rfl) 2 rfl 24 #[(0,(.const (.int .u64 14678990851816772085))),(1,(.const (.int .u64 3156516839386865358))),(2,(.const (.int .u64 10297457778147434006))),(3,(.const (.int .u64 5756518291402817435)))] rfl [(0,(Value.int IntKind.u64 14678990851816772085)),(1,(Value.int IntKind.u64 3156516839386865358)),(2,(Value.int IntKind.u64 10297457778147434006)),(3,(Value.int IntKind.u64 5756518291402817435))] rfl ([(Value.int IntKind.u64 14678990851816772085)]++[(Value.int IntKind.u64 3156516839386865358)]++[(Value.int IntKind.u64 10297457778147434006)]++[(Value.int IntKind.u64 5756518291402817435)]) (bN4 _ _ _ _),fun L u=>u_build u (gd0 rfl) 3 rfl 44 #[(0,(.tmp 1)),(1,(.tmp 2))] rfl [(0,.agg ([(Value.int IntKind.u64 17627433388654248598)]++[(Value.int IntKind.u64 8575836109218198432)]++[(Value.int IntKind.u64 17923454489921339634)]++[(Value.int IntKind.u64 7716867327612699207)]).toArray),(1,.agg ([(Value.int IntKind.u64 14678990851816772085)]++[(Value.int IntKind.u64 3156516839386865358)]++[(Value.int IntKind.u64 10297457778147434006)]++[(Value.int IntKind.u64 5756518291402817435)]).toArray)] rfl ([(Value.int IntKind.u64 17627433388654248598)]++[(Value.int IntKind.u64 8575836109218198432)]++[(Value.int IntKind.u64 17923454489921339634)]++[(Value.int IntKind.u64 7716867327612699207)]++[(Value.int IntKind.u64 14678990851816772085)]++[(Value.int IntKind.u64 3156516839386865358)]++[(Value.int IntKind.u64 10297457778147434006)]++[(Value.int IntKind.u64 5756518291402817435)]++[Value.bool false]) (bPc _ _ _ _ _ _ _ _),rfl,T0⟩ [(0,_)] [(0,[(Value.int IntKind.u64 17627433388654248598)]++[(Value.int IntKind.u64 8575836109218198432)]++[(Value.int IntKind.u64 17923454489921339634)]++[(Value.int IntKind.u64 7716867327612699207)]++[(Value.int IntKind.u64 14678990851816772085)]++[(Value.int IntKind.u64 3156516839386865358)]++[(Value.int IntKind.u64 10297457778147434006)]++[(Value.int IntKind.u64 5756518291402817435)]++[Value.bool false])] (fun a w h=>?_)
 refine wp_ret ?_
 refine ret_row h 0 44 rfl (lk rfl) 0 rfl ([(Value.int IntKind.u64 17627433388654248598)]++[(Value.int IntKind.u64 8575836109218198432)]++[(Value.int IntKind.u64 17923454489921339634)]++[(Value.int IntKind.u64 7716867327612699207)]++[(Value.int IntKind.u64 14678990851816772085)]++[(Value.int IntKind.u64 3156516839386865358)]++[(Value.int IntKind.u64 10297457778147434006)]++[(Value.int IntKind.u64 5756518291402817435)]++[Value.bool false]) rfl _ Tryz.underlying44 rfl i44 ?_
 exact ⟨by rw [pc_G],h.grows⟩
end Go.Proofs.YtmigakanbeckpaaGreatDoor
namespace Go.Proofs.YtmigakanbeckpaaGreatDoor
set_option maxRecDepth 100000
open Go.RowKit
theorem fmd_pc {a:Wp m0} (h:a.on wb):fmd ((px a).val:Int) ((py a).val:Int) a.isNone=true:=by
 cases a with
 | none =>
  have z:((0:Fin m0).val:Int)=0:=by rw [show (0:Fin m0).val=0 from Fin.val_zero _];rfl
  show decide (((0:Fin m0).val:Int)=0∧((0:Fin m0).val:Int)=0)=true
  exact decide_eq_true ⟨z,z⟩
 | some q =>
  obtain ⟨x,y⟩:=q
  have hc:y*y=x*x*x-3*x+wb:=h
  have hd:(x.val:Int)<md 0∧(y.val:Int)<md 0∧(kc (y.val:Int):Fin m0)*kc (y.val:Int)=kc (x.val:Int)*kc (x.val:Int)*kc (x.val:Int)-3*kc (x.val:Int)+wb:=⟨of_decide_eq_true (fin_lt x),of_decide_eq_true (fin_lt y),by rw [kc_self,kc_self];exact hc⟩
  have e:fmd (x.val:Int) (y.val:Int) false=decide ((x.val:Int)<md 0∧(y.val:Int)<md 0∧(kc (y.val:Int):Fin m0)*kc (y.val:Int)=kc (x.val:Int)*kc (x.val:Int)*kc (x.val:Int)-3*kc (x.val:Int)+wb):=if_neg (by decide)
  exact e.trans (decide_eq_true hd)
theorem nz_pc:nz++nz++[Value.bool true]=pc Wp.o:=by rw [nz_fc];rfl
def wneg (a:Wp m0):Wp m0:=match a with
 | none=>none
 | some q=>some (q.1,0-q.2)
theorem neg_sq {p:Nat} [NeZero p] (y:Fin p):(0-y)*(0-y)=y*y:=by grobner
theorem wneg_on {a:Wp m0} (h:a.on wb):(wneg a).on wb:=by
 cases a with
 | none=>trivial
 | some q =>
  obtain ⟨x,y⟩:=q
  have hc:y*y=x*x*x-3*x+wb:=h
  show (0-y)*(0-y)=x*x*x-3*x+wb
  rw [neg_sq]
  exact hc
theorem mir_z {p:Nat} [NeZero p] {b x y:Fin p}:(wa b ⟨x,y,1⟩ ⟨x,0-y,1⟩).z=0:=by
 rw [wa_eq]
 show _=(0:Fin p)
 grobner
theorem wneg_add (a:Wp m0):wplus a (wneg a)=Wp.o:=by
 cases a with
 | none=>exact wgr.add_o (a:=Wp.o) trivial
 | some q =>
  obtain ⟨x,y⟩:=q
  show nm fiv (wa wb ⟨x,y,1⟩ ⟨x,0-y,1⟩)=Wp.o
  unfold nm
  rw [if_pos mir_z]
end Go.Proofs.YtmigakanbeckpaaGreatDoor
namespace Go.Proofs.YtmigakanbeckpaaGreatDoor.Sh
set_option maxRecDepth 100000
open Go.RowKit
theorem later {W w1:World} {p:Addr} {v:Value} (hb:Below W.heap.size W w1) (h:W.cell? p=some v):w1.cell? p=some v:=by
 have hp:p.block<W.heap.size:=by
  cases Nat.lt_or_ge p.block W.heap.size with
  | inl h=>exact h
  | inr h' =>
   have:W.heap[p.block]?=none:=by simp [h']
   simp [World.cell?,this] at h
 rw [hb.cell hp];exact h
theorem K.alloc {w w':World} (h:Below w.heap.size w w') (o:Obj):Below w.heap.size w (w'.alloc o):=h.alloc h.size o
theorem K.call {w w' w1:World} (h:Below w.heap.size w w') (hb:Below w'.heap.size w' w1):Below w.heap.size w w1:=h.trans (hb.mono h.size)
theorem K.drew {w w':World} (h:Below w.heap.size w w'):Below w.heap.size w w'.drew:=h.drew
theorem K.set {W w':World} {p:Addr} (h:Below W.heap.size W w') (hp:W.heap.size≤p.block) (u:Value):Below W.heap.size W (w'.setCell p u):=h.setCell hp u
theorem hide {p:Prop} (h:p):Hid p:=h
end Go.Proofs.YtmigakanbeckpaaGreatDoor.Sh
namespace Go.Proofs.YtmigakanbeckpaaGreatDoor.Sh
set_option maxRecDepth 100000
open Go.RowKit
structure Rd (w:World) (b o n:Nat) (f:Nat→Int):Prop where
 c:∀ i,i<n→w.cell? ⟨b,o+i,none⟩=some (.int .u8 (f i))
structure Row8 (w:World) (b n:Nat) (f:Nat→Int):Prop where
 lt:b<w.heap.size
 c:∀ i,i<n→w.cell? ⟨b,i,none⟩=some (.int .u8 (f i))
 z:∀ i,i<n→w.frozen? ⟨b,i,none⟩=false
theorem Rd.keep {W w1:World} {b o n:Nat} {f:Nat→Int} (h:Rd W b o n f) (hb:Below W.heap.size W w1):Rd w1 b o n f :=
 ⟨fun i hi=>later hb (h.c i hi)⟩
theorem Rd.part {w:World} {b o n:Nat} {f:Nat→Int} (h:Rd w b o n f) (k m:Nat) (hk:k+m≤n):Rd w b (o+k) m (fun i=>f (k+i)) :=
 ⟨fun i hi=>by have:=h.c (k+i) (by omega);rwa [← Nat.add_assoc] at this⟩
theorem Rd.congr {w:World} {b o n:Nat} {f g:Nat→Int} (h:Rd w b o n f) (e:∀ i,i<n→f i=g i):Rd w b o n g :=
 ⟨fun i hi=>by rw [← e i hi];exact h.c i hi⟩
theorem Row8.keep {W w1:World} {b n:Nat} {f:Nat→Int} (h:Row8 W b n f) (hb:Below W.heap.size W w1):Row8 w1 b n f :=
 ⟨Nat.lt_of_lt_of_le h.lt hb.size,fun i hi=>later hb (h.c i hi),fun i hi=>(hb.frozen (p:=⟨b,i,none⟩) h.lt).trans (h.z i hi)⟩
theorem Row8.rd {w:World} {b n:Nat} {f:Nat→Int} (h:Row8 w b n f):Rd w b 0 n f:=⟨fun i hi=>by rw [Nat.zero_add];exact h.c i hi⟩
theorem Row8.congr {w:World} {b n:Nat} {f g:Nat→Int} (h:Row8 w b n f) (e:∀ i,i<n→f i=g i):Row8 w b n g :=
 ⟨h.lt,fun i hi=>by rw [← e i hi];exact h.c i hi,h.z⟩
theorem Row8.store {w:World} {b n:Nat} {f:Nat→Int} (h:Row8 w b n f) (k:Nat) (hk:k<n) (v:Int):Row8 (w.setCell ⟨b,k,none⟩ (.int .u8 v)) b n (fun i=>if i=k then v else f i):=by
 refine ⟨by simpa using h.lt,fun i hi=>?_,fun i hi=>by rw [World.frozen?_setCell];exact h.z i hi⟩
 have hc:=h.c i hi
 have hcs:=h.c k hk
 by_cases e:i=k
 ·subst e;simp [go_sem,hc]
 ·simp [go_sem,hc,e]
end Go.Proofs.YtmigakanbeckpaaGreatDoor.Sh
namespace Go.Proofs.YtmigakanbeckpaaGreatDoor.Sh
set_option maxRecDepth 100000
open Go.RowKit
theorem info8:(Tryz.prog.info? 5).map (fun i=>(i.zero,i.size,i.bytes))=some (some (.int .u8 0),1,1):=by kernel_rfl
def cells8 (l:List Nat):List Value:=l.map (fun (x:Nat)=>Value.int .u8 (x:Int))
theorem own_rd {w:World} {base n:Nat} {v:Value} {f:Nat→Int} {xs:List Value} (h:w.ownsRow base 5 1 v n xs) (hx:∀ j,j<n→xs[j]?=some (.int .u8 (f j))) (hn:0<n):∃ g cap,v=.slice (some ⟨g,0,none⟩) n cap∧base≤g∧Row8 w g n f:=by
 rcases h.2 with ⟨_,h0⟩ | ⟨g,cap,cur,rfl,hg,_⟩
 ·omega
 ·refine ⟨g,cap,rfl,hg,(h.lt g rfl).2,fun j hj=>?_,fun j _=>h.frozenAt j⟩
  rw [h.cellAt j (by omega)];exact hx j hj
theorem own_cap {w:World} {base n g cap:Nat} {xs:List Value} (h:w.ownsRow base 5 1 (.slice (some ⟨g,0,none⟩) n cap) n xs):n≤cap:=by
 rcases h.2 with ⟨h1,_⟩ | ⟨g',cap',cur,h1,_,_,hle,_⟩
 ·cases h1
 ·cases h1;exact hle
theorem cells8_at (l:List Nat) (i:Nat) (h:i<l.length):(cells8 l)[i]?=some (Value.int .u8 ((l.getD i 0:Nat):Int)):=by
 simp [cells8,h]
theorem getD_lt {l:List Nat} (h:∀ x ∈ l,x<256) (i:Nat):l.getD i 0<256:=by
 rw [List.getD_eq_getElem?_getD]
 by_cases hi:i<l.length
 ·rw [List.getElem?_eq_getElem hi];exact h _ (List.getElem_mem hi)
 ·rw [List.getElem?_eq_none (by omega)];simp
theorem Rd.first {w:World} {b o n:Nat} {f:Nat→Int} (h:Rd w b o n f) (m:Nat) (hm:m≤n):Rd w b o m f:=⟨fun i hi=>h.c i (by omega)⟩
end Go.Proofs.YtmigakanbeckpaaGreatDoor.Sh
namespace Go.Proofs.YtmigakanbeckpaaGreatDoor.Sh
set_option maxRecDepth 100000
open Go.RowKit
structure BA (w:World) (a:Option Addr) (n:Nat) (f:Nat→Nat):Prop where
 lt:∀ i,f i<256
 at_:n=0∨∃ b o,a=some ⟨b,o,none⟩∧Rd w b o n (fun i=>((f i:Nat):Int))
theorem BA.keep {W w1:World} {a:Option Addr} {n:Nat} {f:Nat→Nat} (h:BA W a n f) (hb:Below W.heap.size W w1):BA w1 a n f :=
 ⟨h.lt,h.at_.elim Or.inl fun ⟨b,o,e,hr⟩=>Or.inr ⟨b,o,e,hr.keep hb⟩⟩
def fl (f:Nat→Nat) (n:Nat):List Nat:=(List.range n).map f
theorem fl_len (f:Nat→Nat) (n:Nat):(fl f n).length=n:=by simp [fl]
theorem fl_at (f:Nat→Nat) {n i:Nat} (h:i<n):(fl f n)[i]?=some (f i):=by simp [fl,h]
theorem fl_lt {f:Nat→Nat} (hf:∀ i,f i<256) (n:Nat):∀ x ∈ fl f n,x<256:=by
 intro x hx
 simp only [fl,List.mem_map] at hx
 obtain ⟨i,_,rfl⟩:=hx
 exact hf i
theorem cells8_len (l:List Nat):(cells8 l).length=l.length:=by simp [cells8]
theorem cells8_one (l:List Nat):∀ u ∈ cells8 l,u.oneCell'=true:=by
 intro u hu
 simp only [cells8,List.mem_map] at hu
 obtain ⟨i,_,rfl⟩:=hu
 rfl
theorem run_append_zero {P:Program} (w:World) (base:Nat) (t ty e:TypeId) (i:TypeInfo) (size:Nat) (ht:P.underlying t=some (.slice e)) (hi:P.info? e=some i)
  (v:Value) (n:Nat) (xs:List Value) (hown:w.ownsRow base e size v n xs) (x:Option Addr) (c:Nat) :
  (Builtin.append_ #[t,t] ty #[v,.slice x 0 c]).run P w=.ok v w:=by
 rcases hown.2 with ⟨rfl,rfl⟩ | ⟨g,cap,cur,rfl,_,_,hnc,_⟩
 ·cases x <;> simp [Builtin.append_,run_underlying ht,sizeOf,typeInfo,hi,Builtin.lenOf,Builtin.firstCells,loadCells,loadCellsFrom]
 ·cases x <;> simp [Builtin.append_,run_underlying ht,sizeOf,typeInfo,hi,Builtin.lenOf,Builtin.firstCells,hnc,storeCells,loadCells,loadCellsFrom]
theorem run_app {W:World} {base:Nat} {v:Value} {n:Nat} {l:List Nat} (hown:W.ownsRow base 5 1 v n (cells8 l)) {x:Option Addr} {m c:Nat} {f:Nat→Nat} (hx:BA W x m f) (hb:n+m≤1000000) (hbase:base≤W.heap.size) (ty:TypeId) :
  ∃ v' w',(Builtin.append_ #[25,25] ty #[v,.slice x m c]).run Tryz.prog W=.ok v' w'∧w'.ownsRow base 5 1 v' (n+m) (cells8 (l++fl f m))∧W.grownBy w' v.ownBlock:=by
 obtain ⟨i0,hi,hz0,hz1,hz2⟩:=info_parts info8
 rcases hx.at_ with rfl | ⟨b,o,rfl,hr⟩
 ·refine ⟨v,W,run_append_zero W base _ _ 5 i0 1 Tryz.underlying25 hi v n _ hown x c,?_,World.grownBy.refl _ _⟩
  rw [show fl f 0=[] from rfl,List.append_nil]
  exact hown
 ·obtain ⟨v',w',h1,h2,h3,_⟩:=run_append_own (P:=Tryz.prog) W base 25 ty 5 i0 (.int .u8 0) 1 1 Tryz.underlying25 hi hz0 hz1 hz2 rfl (by decide) v n _ hown ⟨b,o,none⟩ m c (cells8 (fl f m)) (by rw [cells8_len,fl_len];omega) (fun j u hu=>by
   have hj:j<m:=by
    rcases Nat.lt_or_ge j m with h' | h'
    ·exact h'
    ·rw [List.getElem?_eq_none (by rw [cells8_len,fl_len];exact h')] at hu;cases hu
   have hc:=hr.c j hj
   rw [cells8_at _ j (by rw [fl_len];exact hj),List.getD_eq_getElem?_getD,fl_at f hj] at hu
   have ea:(⟨b,o,none⟩:Addr).add j=⟨b,o+j,none⟩:=by unfold Addr.add;split <;> simp_all
   rw [ea,hc]
   simpa using hu) (cells8_one _) (by unfold maxLen;omega) (by omega) hbase
  refine ⟨v',w',h1,?_,h3⟩
  rw [show cells8 (l++fl f m)=cells8 l++cells8 (fl f m) from List.map_append]
  exact h2
theorem wpList_app {W:World} {ops:Array Oper} {rest:List Oper} {op:Oper} {a:Act} {Q:Exit→Act→World→Prop} (hgd:op.guard=none) (s x:Operand)
  (ho:op.op=.call { callee:=.builtin .append,args:=#[s,x],argTypes:=#[25,25] })
  {base:Nat} {v:Value} {n:Nat} {l:List Nat} (hs:a.eval s=v) (hown:W.ownsRow base 5 1 v n (cells8 l)) {y:Option Addr} {m c:Nat} {f:Nat→Nat} (hx:a.eval x=.slice y m c) (hy:BA W y m f) (hb:n+m≤1000000) (hbase:base≤W.heap.size)
  (h:∀ v' w',w'.ownsRow base 5 1 v' (n+m) (cells8 (l++fl f m))→W.grownBy w' v.ownBlock→wpList Tryz.prog ops Q rest (a.put op.dst v') w'):wpList Tryz.prog ops Q (op :: rest) a W:=by
 refine wpList_plain hgd fun K hK=>?_
 obtain ⟨v',w',hr,h2,h3⟩:=run_app (c:=c) hown hy hb hbase op.type
 unfold Oper.wp execOp
 simp only [ho,resolve,invoke,builtin,Sem.run_bind,Sem.run_pure,Result.andThen_ok,List.map_toArray,List.map_cons,List.map_nil,hs,hx,hr]
 exact hK _ _ (h v' w' h2 h3)
theorem one_made (w:World) (x:Nat) (h:x<256):BA (w.alloc (.cells #[.int .u8 (x:Int)] 5)) (some ⟨w.heap.size,0,none⟩) 1 (fun _=>x) :=
 ⟨fun _=>h,Or.inr ⟨_,_,rfl,⟨fun i hi=>by
  obtain rfl:i=0:=by omega
  rw [cell_of_row _ _ _ _ _ _ (heap_alloc_new w _)];rfl⟩⟩⟩
end Go.Proofs.YtmigakanbeckpaaGreatDoor.Sh
namespace Go.Proofs.YtmigakanbeckpaaGreatDoor.Sh
set_option maxRecDepth 100000
open Go.RowKit
abbrev Wd:=BitVec 32
def wn (x:Wd):Int:=(x.toNat:Int)
def wadd (x y:Wd):Wd:=x+y
def wor (x y:Wd):Wd:=x ||| y
def wand (x y:Wd):Wd:=x &&& y
def wxor (x y:Wd):Wd:=x ^^^ y
def wnot (x:Wd):Wd := ~~~x
def wshr (x:Wd) (n:Nat):Wd:=x >>> n
def wshl (x:Wd) (n:Nat):Wd:=x <<< n
def wmul (x:Wd) (n:Nat):Wd:=x*BitVec.ofNat 32 n
theorem wn_lt (x:Wd):wn x<4294967296:=by have:=x.isLt;unfold wn;omega
theorem wn_nn (x:Wd):0≤wn x:=by unfold wn;omega
theorem wn_of (n:Nat) (h:n<4294967296):wn (BitVec.ofNat 32 n)=(n:Int):=by
 unfold wn;rw [BitVec.toNat_ofNat];omega
theorem wn_add (x y:Wd):IntKind.u32.wrap (wn x+wn y)=wn (wadd x y):=by
 unfold wn wadd;rw [IntKind.wrap_u32',BitVec.toNat_add];omega
theorem wn_or (x y:Wd):bits .or .u32 (wn x) (wn y)=wn (wor x y):=by
 unfold wn wor;rw [u32_or_nat _ _ x.isLt y.isLt,BitVec.toNat_or]
theorem wn_and (x y:Wd):bits .and .u32 (wn x) (wn y)=wn (wand x y):=by
 unfold wn wand;rw [u32_and_nat _ _ x.isLt y.isLt,BitVec.toNat_and]
theorem wn_xor (x y:Wd):bits .xor .u32 (wn x) (wn y)=wn (wxor x y):=by
 unfold wn wxor;rw [u32_xor_nat _ _ x.isLt y.isLt,BitVec.toNat_xor]
theorem wn_shr (x:Wd) (n:Nat):wn x / (2 ^ n:Nat)=wn (wshr x n):=by
 unfold wn wshr;rw [BitVec.toNat_ushiftRight,Nat.shiftRight_eq_div_pow];rfl
theorem wn_shl (x:Wd) (n:Nat):(wn x*(2 ^ n:Nat)) % 4294967296=wn (wshl x n):=by
 unfold wn wshl;rw [BitVec.toNat_shiftLeft,Nat.shiftLeft_eq]
 omega
theorem wn_shl' (x:Wd) (n:Nat):wn x <<< n % 4294967296=wn (wshl x n):=by
 rw [Int.shiftLeft_eq,← wn_shl];rfl
def rotr (x:Wd) (n:Nat):Wd:=x >>> n ||| x <<< (32-n)
def ssg0 (x:Wd):Wd:=rotr x 7 ^^^ rotr x 18 ^^^ x >>> 3
def ssg1 (x:Wd):Wd:=rotr x 17 ^^^ rotr x 19 ^^^ x >>> 10
def bsg0 (x:Wd):Wd:=rotr x 2 ^^^ rotr x 13 ^^^ rotr x 22
def bsg1 (x:Wd):Wd:=rotr x 6 ^^^ rotr x 11 ^^^ rotr x 25
def chW (x y z:Wd):Wd:=x &&& y ||| ~~~x &&& z
def majW (x y z:Wd):Wd:=x &&& y ||| x &&& z ||| y &&& z
structure St where (a:Wd) (b:Wd) (c:Wd) (d:Wd) (e:Wd) (f:Wd) (g:Wd) (h:Wd) deriving DecidableEq
def rnd (s:St) (k w:Wd):St :=
 ⟨(s.h+bsg1 s.e+chW s.e s.f s.g+k+w)+(bsg0 s.a+majW s.a s.b s.c),s.a,s.b,s.c,s.d+(s.h+bsg1 s.e+chW s.e s.f s.g+k+w),s.e,s.f,s.g⟩
def rnds (k w:Nat→Wd) (s:St):Nat→St
 | 0=>s
 | t+1=>rnd (rnds k w s t) (k t) (w t)
def addS (s v:St):St:=⟨s.a+v.a,s.b+v.b,s.c+v.c,s.d+v.d,s.e+v.e,s.f+v.f,s.g+v.g,s.h+v.h⟩
def kList:List Nat:=[1116352408,1899447441,3049323471,3921009573,961987163,1508970993,2453635748,2870763221,3624381080,310598401,607225278,1426881987,1925078388,2162078206,2614888103,3248222580,3835390401,4022224774,264347078,604807628,770255983,1249150122,1555081692,1996064986,2554220882,2821834349,2952996808,3210313671,3336571891,3584528711,113926993,338241895,666307205,773529912,1294757372,1396182291,1695183700,1986661051,2177026350,2456956037,2730485921,2820302411,3259730800,3345764771,3516065817,3600352804,4094571909,275423344,430227734,506948616,659060556,883997877,958139571,1322822218,1537002063,1747873779,1955562222,2024104815,2227730452,2361852424,2428436474,2756734187,3204031479,3329325298]
def kW (t:Nat):Wd:=BitVec.ofNat 32 (kList.getD t 0)
def start:St:=⟨1779033703#32,3144134277#32,1013904242#32,2773480762#32,1359893119#32,2600822924#32,528734635#32,1541459225#32⟩
def sched (m:Nat→Wd) (t:Nat):Wd:=if t<16 then m t else ssg1 (sched m (t-2))+sched m (t-7)+ssg0 (sched m (t-15))+sched m (t-16)
termination_by t
decreasing_by all_goals omega
theorem sched_low (m:Nat→Wd) {t:Nat} (h:t<16):sched m t=m t:=by rw [sched,if_pos h]
theorem sched_up (m:Nat→Wd) {t:Nat} (h:¬ t<16):sched m t=ssg1 (sched m (t-2))+sched m (t-7)+ssg0 (sched m (t-15))+sched m (t-16):=by rw [sched,if_neg h]
def wordP (p:Nat→Nat) (t:Nat):Nat→Wd
 | 0=>0
 | i+1=>wordP p t i*BitVec.ofNat 32 256+BitVec.ofNat 32 (p (4*t+i))
def takeB (s:St) (p:Nat→Nat):St:=addS s (rnds kW (sched (fun t=>wordP p t 4)) s 64)
def padLen (n:Nat):Nat:=(n+8) / 64*64+64
def pad (f:Nat→Nat) (n i:Nat):Nat:=if i<n then f i else if i=n then 128 else if i<padLen n-8 then 0 else (8*n) / 256 ^ (padLen n-1-i) % 256
def hs (p:Nat→Nat):Nat→St
 | 0=>start
 | k+1=>takeB (hs p k) (fun i=>p (64*k+i))
def hashS (f:Nat→Nat) (n:Nat):St:=hs (pad f n) (padLen n / 64)
def St.w (s:St):Nat→Wd
 | 0=>s.a
 | 1=>s.b
 | 2=>s.c
 | 3=>s.d
 | 4=>s.e
 | 5=>s.f
 | 6=>s.g
 | _=>s.h
def hByte (s:St) (i:Nat):Nat:=(s.w (i / 4)).toNat / 256 ^ (3-i % 4) % 256
end Go.Proofs.YtmigakanbeckpaaGreatDoor.Sh
namespace Go.Proofs.YtmigakanbeckpaaGreatDoor.Sh
set_option maxRecDepth 100000
def zs (n:Nat):Nat:=padLen n-8-(n+1)
theorem zs_eq (n:Nat):n+1+zs n=padLen n-8∧(n+1+zs n) % 64=56∧padLen n % 64=0∧n+9≤padLen n:=by unfold zs padLen;omega
def lenB (n:Nat):Nat→List Nat
 | 0=>[]
 | i+1=>lenB n i++[8*n / 256 ^ (7-i) % 256]
theorem lenB_len (n:Nat):∀ i,(lenB n i).length=i
 | 0=>rfl
 | i+1=>by simp [lenB,lenB_len n i]
theorem lenB_at (n:Nat):∀ (i j:Nat),j<i→(lenB n i).getD j 0=8*n / 256 ^ (7-j) % 256
 | 0,j,h=>by omega
 | i+1,j,h=>by
  simp only [lenB]
  by_cases e:j=i
  ·subst e
   rw [List.getD_eq_getElem?_getD,List.getElem?_append_right (by rw [lenB_len];omega),lenB_len,Nat.sub_self];rfl
  ·rw [List.getD_eq_getElem?_getD,List.getElem?_append_left (by rw [lenB_len];omega),← List.getD_eq_getElem?_getD]
   exact lenB_at n i j (by omega)
def padL (f:Nat→Nat) (n:Nat):List Nat:=fl f n++[128]++List.replicate (zs n) 0++lenB n 8
theorem padL_at (f:Nat→Nat) (n i:Nat) (h:i<padLen n):(padL f n).getD i 0=pad f n i:=by
 have hz:=zs_eq n
 unfold pad padL
 by_cases h1:i<n
 ·rw [if_pos h1,List.append_assoc,List.append_assoc,List.getD_eq_getElem?_getD,List.getElem?_append_left (by rw [fl_len];exact h1),fl_at f h1];rfl
 ·rw [if_neg h1]
  by_cases h2:i=n
  ·rw [if_pos h2,List.append_assoc,List.append_assoc,List.getD_eq_getElem?_getD,List.getElem?_append_right (by rw [fl_len];omega),fl_len,h2,Nat.sub_self];rfl
  ·rw [if_neg h2]
   by_cases h3:i<padLen n-8
   ·rw [if_pos h3,List.getD_eq_getElem?_getD,List.getElem?_append_left (by simp only [List.length_append,fl_len,List.length_replicate,List.length_cons,List.length_nil];omega),List.getElem?_append_right (by simp only [List.length_append,fl_len,List.length_cons,List.length_nil];omega)]
    simp only [List.length_append,fl_len,List.length_cons,List.length_nil]
    rw [List.getElem?_replicate,if_pos (by omega)];rfl
   ·rw [if_neg h3,List.getD_eq_getElem?_getD,List.getElem?_append_right (by simp only [List.length_append,fl_len,List.length_replicate,List.length_cons,List.length_nil];omega)]
    simp only [List.length_append,fl_len,List.length_replicate,List.length_cons,List.length_nil]
    rw [← List.getD_eq_getElem?_getD,lenB_at n 8 _ (by omega)]
    congr 2
    congr 1
    omega
end Go.Proofs.YtmigakanbeckpaaGreatDoor.Sh
namespace Go.Proofs.YtmigakanbeckpaaGreatDoor.Sh
set_option maxRecDepth 100000
open Go.RowKit
attribute [local go_sem ↓] Go.wp_at_zero Go.wp_at_succ
attribute [local go_sem] wn_or
end Go.Proofs.YtmigakanbeckpaaGreatDoor.Sh
namespace Go.Proofs.YtmigakanbeckpaaGreatDoor.Sh
set_option maxRecDepth 100000
open Go.RowKit
attribute [local go_sem ↓] Go.wp_at_zero Go.wp_at_succ
def aw (f:Nat→Wd) (n:Nat):List Value:=(List.range n).map (fun t=>Value.int .u32 (wn (f t)))
theorem aw_len (f:Nat→Wd) (n:Nat):(aw f n).length=n:=by simp [aw]
theorem aw_at (f:Nat→Wd) {n i:Nat} (h:i<n):(aw f n)[i]?=some (.int .u32 (wn (f i))):=by simp [aw,h]
theorem aw_one (f:Nat→Wd) (n:Nat):∀ v ∈ aw f n,v.oneCell'=true:=by
 intro v hv
 simp only [aw,List.mem_map] at hv
 obtain ⟨i,_,rfl⟩:=hv
 rfl
structure RowW (w:World) (b n:Nat) (f:Nat→Wd):Prop where
 lt:b<w.heap.size
 c:∀ i,i<n→w.cell? ⟨b,i,none⟩=some (.int .u32 (wn (f i)))
 z:∀ i,i<n→w.frozen? ⟨b,i,none⟩=false
theorem RowW.keep {W w1:World} {b n:Nat} {f:Nat→Wd} (h:RowW W b n f) (hb:Below W.heap.size W w1):RowW w1 b n f :=
 ⟨Nat.lt_of_lt_of_le h.lt hb.size,fun i hi=>later hb (h.c i hi),fun i hi=>(hb.frozen (p:=⟨b,i,none⟩) h.lt).trans (h.z i hi)⟩
theorem RowW.congr {w:World} {b n:Nat} {f g:Nat→Wd} (h:RowW w b n f) (e:∀ i,i<n→f i=g i):RowW w b n g :=
 ⟨h.lt,fun i hi=>by rw [← e i hi];exact h.c i hi,h.z⟩
theorem RowW.store {w:World} {b n:Nat} {f:Nat→Wd} (h:RowW w b n f) (k:Nat) (hk:k<n) (v:Wd):RowW (w.setCell ⟨b,k,none⟩ (.int .u32 (wn v))) b n (fun i=>if i=k then v else f i):=by
 refine ⟨by simpa using h.lt,fun i hi=>?_,fun i hi=>by rw [World.frozen?_setCell];exact h.z i hi⟩
 have hc:=h.c i hi
 have hcs:=h.c k hk
 by_cases e:i=k
 ·subst e;simp [go_sem,hc]
 ·simp [go_sem,hc,e]
theorem RowW.other {w:World} {b n:Nat} {f:Nat→Wd} (h:RowW w b n f) {g:Nat} (hg:b≠g) (k:Nat) (v:Value):RowW (w.setCell ⟨g,k,none⟩ v) b n f :=
 ⟨by simpa using h.lt,fun i hi=>by rw [World.cell?_setCell_other _ _ _ _ (by intro e;injection e with e1;exact hg e1.symm)];exact h.c i hi,fun i hi=>by rw [World.frozen?_setCell];exact h.z i hi⟩
theorem RowW.range {w:World} {b n:Nat} {f:Nat→Wd} (h:RowW w b n f):w.rangeAt b 0 (aw f n):=fun j v hv=>by
 have hj:j<n:=by
  rcases Nat.lt_or_ge j n with h' | h'
  ·exact h'
  ·rw [List.getElem?_eq_none (by rw [aw_len];exact h')] at hv;cases hv
 rw [aw_at f hj] at hv
 rw [Nat.zero_add,h.c j hj];exact hv
theorem RowW.there {w:World} {b n:Nat} {f:Nat→Wd} (h:RowW w b n f):w.there b 0 n:=fun j hj=>by
 rw [Nat.zero_add,h.c j hj,h.z j hj];exact ⟨rfl,rfl⟩
theorem size_setCells (b:Nat):∀ (vs:List Value) (o:Nat) (w:World),(w.setCells b o vs).heap.size=w.heap.size
 | [],_,_=>rfl
 | v :: r,o,w=>by rw [World.setCells,size_setCells b r];simp
theorem RowW.stored {w:World} {b n:Nat} {f:Nat→Wd} (h:RowW w b n f) (g:Nat→Wd):RowW (w.setCells b 0 (aw g n)) b n g:=by
 have ht:w.there b 0 (aw g n).length:=by rw [aw_len];exact h.there
 have hr:=World.rangeAt_setCells_same w b 0 (aw g n) ht
 refine ⟨by rw [size_setCells];exact h.lt,fun i hi=>?_,fun i hi=>by rw [World.frozen?_setCells];exact h.z i hi⟩
 have:=hr i _ (aw_at g hi)
 rwa [Nat.zero_add] at this
theorem RowW.made (w:World) (t:TypeId) (n:Nat) (f:Nat→Wd) (cs:Array Value) (h:cs=(aw f n).toArray):RowW (w.alloc (.cells cs t)) w.heap.size n f:=by
 subst h
 refine ⟨by simp,fun i hi=>?_,fun i _=>?_⟩
 ·rw [cell_of_row _ _ _ _ _ _ (heap_alloc_new w _)]
  have:=aw_at f hi
  simpa using this
 ·exact frozen_of_row _ _ _ _ _ (heap_alloc_new w _)
theorem wpList_store_new {P:Program} {W:World} {ops:Array Oper} {rest:List Oper} {op:Oper} {a:Act} {Q:Exit→Act→World→Prop} (hgd:op.guard=none) (t:TypeId) (x y:Operand) (ho:op.op=.store t x y)
  (c c':Array Value) (hx:a.eval x=.pointer (some ⟨W.heap.size,0,none⟩)) (hy:a.eval y=.agg c') (hi:(P.info? t).map (·.size)=some c'.size) (hs:c.size=c'.size) (h1:c'.all (·.oneCell')=true)
  (h:wpList P ops Q rest (a.put op.dst undef) (W.alloc (.cells c' t))):wpList P ops Q (op :: rest) a (W.alloc (.cells c t)):=by
 refine wpList_plain hgd fun K hK=>?_
 unfold Oper.wp execOp
 simp only [ho,hx,hy,Instr.storeAt,Instr.sureAddr,Sem.run_bind,Sem.run_pure,Result.andThen_ok,run_storeVar_new W t c c' hi hs h1]
 exact hK _ _ h
theorem results_cell_mid {P:Program} {fn:Func} {p:Tmp} {ty:TypeId} (h:fn.results=#[.cell p ty]) (tmps:Array Value) (w:World) (b:Nat) (cs:List Value) (d:TypeDesc)
  (hp:tmps.getD p undef=.pointer (some ⟨b,0,none⟩)) (hc:w.rangeAt b 0 cs) (hu:P.underlying ty=some d) (hd:d.isRow=true) (hi:(P.info? ty).map (·.size)=some cs.length) :
  (results fn tmps).run P w=.ok (.agg cs.toArray) w:=by
 have hp':tmps[p]?.getD undef=.pointer (some ⟨b,0,none⟩):=by simpa using hp
 simp [results,h,hp',asAddr,run_loadVar_mid w b 0 ty cs d hc hu hd hi]
theorem wn_wrap (x:Wd):IntKind.u32.wrap (wn x)=wn x:=by
 have:=wn_nn x
 have:=wn_lt x
 rw [IntKind.wrap_u32'];omega
theorem info64W:(Tryz.prog.info? 151).map (·.size)=some 64:=by kernel_rfl
end Go.Proofs.YtmigakanbeckpaaGreatDoor.Sh
namespace Go.Proofs.YtmigakanbeckpaaGreatDoor.Sh
set_option maxRecDepth 100000
open Go.RowKit
def ab (f:Nat→Nat) (n:Nat):List Value:=(List.range n).map (fun t=>Value.int .u8 ((f t:Nat):Int))
theorem ab_len (f:Nat→Nat) (n:Nat):(ab f n).length=n:=by simp [ab]
theorem ab_at (f:Nat→Nat) {n i:Nat} (h:i<n):(ab f n)[i]?=some (.int .u8 ((f i:Nat):Int)):=by simp [ab,h]
theorem ab_one (f:Nat→Nat) (n:Nat):∀ v ∈ ab f n,v.oneCell'=true:=by
 intro v hv
 simp only [ab,List.mem_map] at hv
 obtain ⟨i,_,rfl⟩:=hv
 rfl
abbrev RowB (w:World) (b n:Nat) (f:Nat→Nat):Prop:=Row8 w b n (fun i=>((f i:Nat):Int))
theorem RowB.range {w:World} {b n:Nat} {f:Nat→Nat} (h:RowB w b n f):w.rangeAt b 0 (ab f n):=fun j v hv=>by
 have hj:j<n:=by
  rcases Nat.lt_or_ge j n with h' | h'
  ·exact h'
  ·rw [List.getElem?_eq_none (by rw [ab_len];exact h')] at hv;cases hv
 rw [ab_at f hj] at hv
 rw [Nat.zero_add,h.c j hj];exact hv
theorem RowB.there {w:World} {b n:Nat} {f:Nat→Nat} (h:RowB w b n f) (g:Nat→Nat):w.there b 0 (ab g n).toArray.size:=by
 rw [List.size_toArray,ab_len]
 intro j hj
 rw [Nat.zero_add,h.c j hj,h.z j hj];exact ⟨rfl,rfl⟩
theorem RowB.stored {w:World} {b n:Nat} {f:Nat→Nat} (h:RowB w b n f) (g:Nat→Nat):RowB (w.setCells b 0 (ab g n)) b n g:=by
 have ht:=h.there g
 rw [List.size_toArray] at ht
 have hr:=World.rangeAt_setCells_same w b 0 (ab g n) ht
 refine ⟨by rw [size_setCells];exact h.lt,fun i hi=>?_,fun i hi=>by rw [World.frozen?_setCells];exact h.z i hi⟩
 have:=hr i _ (ab_at g hi)
 rwa [Nat.zero_add] at this
theorem Row8.apart {w:World} {b n:Nat} {f:Nat→Int} (h:Row8 w b n f) {g:Nat} (hg:b≠g) (o:Nat) (vs:List Value):Row8 (w.setCells g o vs) b n f :=
 ⟨by rw [size_setCells];exact h.lt,fun i hi=>by rw [World.cell?_setCells_out g vs o w ⟨b,i,none⟩ (fun e _=>absurd e hg)];exact h.c i hi,fun i hi=>by rw [World.frozen?_setCells];exact h.z i hi⟩
theorem Rd.apart {w:World} {b o n:Nat} {f:Nat→Int} (h:Rd w b o n f) {g:Nat} (hg:b≠g) (u:Nat) (vs:List Value):Rd (w.setCells g u vs) b o n f :=
 ⟨fun i hi=>by rw [World.cell?_setCells_out g vs u w ⟨b,o+i,none⟩ (fun e _=>absurd e hg)];exact h.c i hi⟩
theorem RowB.made (w:World) (t:TypeId) (n:Nat) (f:Nat→Nat) (cs:Array Value) (h:cs=(ab f n).toArray):RowB (w.alloc (.cells cs t)) w.heap.size n f:=by
 subst h
 refine ⟨by simp,fun i hi=>?_,fun i _=>?_⟩
 ·rw [cell_of_row _ _ _ _ _ _ (heap_alloc_new w _)]
  have:=ab_at f hi
  simpa using this
 ·exact frozen_of_row _ _ _ _ _ (heap_alloc_new w _)
theorem row8_other {w:World} {b n:Nat} {f:Nat→Int} (h:Row8 w b n f) {g:Nat} (hg:b≠g) (k:Nat) (v:Value):Row8 (w.setCell ⟨g,k,none⟩ v) b n f :=
 ⟨by simpa using h.lt,fun i hi=>by rw [World.cell?_setCell_other _ _ _ _ (by intro e;injection e with e1;exact hg e1.symm)];exact h.c i hi,fun i hi=>by rw [World.frozen?_setCell];exact h.z i hi⟩
theorem zeros32:(#[.int .u8 0,.int .u8 0,.int .u8 0,.int .u8 0,.int .u8 0,.int .u8 0,.int .u8 0,.int .u8 0,.int .u8 0,.int .u8 0,.int .u8 0,.int .u8 0,.int .u8 0,.int .u8 0,.int .u8 0,.int .u8 0,.int .u8 0,.int .u8 0,.int .u8 0,.int .u8 0,.int .u8 0,.int .u8 0,.int .u8 0,.int .u8 0,.int .u8 0,.int .u8 0,.int .u8 0,.int .u8 0,.int .u8 0,.int .u8 0,.int .u8 0,.int .u8 0]:Array Value)=(ab (fun _=>0) 32).toArray:=by kernel_rfl
theorem infoH:(Tryz.prog.info? 60).map (·.size)=some 32:=by kernel_rfl
theorem inH (f:Nat→Nat):(Tryz.prog.info? 60).map (·.size)=some (ab f 32).toArray.size:=by rw [List.size_toArray,ab_len];exact infoH
theorem ilH (f:Nat→Nat):(Tryz.prog.info? 60).map (·.size)=some (ab f 32).length:=by rw [ab_len];exact infoH
end Go.Proofs.YtmigakanbeckpaaGreatDoor.Sh
namespace Go.Proofs.YtmigakanbeckpaaGreatDoor.Sh
set_option maxRecDepth 100000
open Go.RowKit
def cat (f:Nat→Nat) (n:Nat) (g:Nat→Nat) (i:Nat):Nat:=if i<n then f i else g (i-n)
theorem cat_zero (z g:Nat→Nat):cat z 0 g=g:=by funext i;unfold cat;rw [if_neg (by omega),Nat.sub_zero]
theorem cat_assoc (f g h:Nat→Nat) (n m:Nat):cat (cat f n g) (n+m) h=cat f n (cat g m h):=by
 funext i
 unfold cat
 by_cases h1:i<n
 ·rw [if_pos (by omega),if_pos h1,if_pos h1]
 ·rw [if_neg h1,if_neg h1]
  by_cases h2:i<n+m
  ·rw [if_pos h2,if_pos (by omega)]
  ·rw [if_neg h2,if_neg (by omega)]
   congr 1
   omega
end Go.Proofs.YtmigakanbeckpaaGreatDoor.Sh
namespace Go.Proofs.YtmigakanbeckpaaGreatDoor.Sh
set_option maxRecDepth 100000
open Go.RowKit
theorem word_congr {p q:Nat→Nat} (t:Nat):∀ (i:Nat),i≤4→(∀ j,j<i→p (4*t+j)=q (4*t+j))→wordP p t i=wordP q t i
 | 0,_,_=>rfl
 | i+1,hi,h=>by simp only [wordP];rw [word_congr t i (by omega) (fun j hj=>h j (by omega)),h i (by omega)]
theorem sched_congr {m l:Nat→Wd} (h:∀ t,t<16→m t=l t):∀ (t:Nat),t<64→sched m t=sched l t:=fun t=>by
 induction t using Nat.strongRecOn with
 | ind t ih =>
  intro ht
  by_cases e:t<16
  ·rw [sched_low _ e,sched_low _ e,h t e]
  ·rw [sched_up _ e,sched_up _ e,ih (t-2) (by omega) (by omega),ih (t-7) (by omega) (by omega),ih (t-15) (by omega) (by omega),ih (t-16) (by omega) (by omega)]
theorem rnds_congr {k w v:Nat→Wd} (s:St):∀ (t:Nat),(∀ i,i<t→w i=v i)→rnds k w s t=rnds k v s t
 | 0,_=>rfl
 | t+1,h=>by simp only [rnds];rw [rnds_congr s t (fun i hi=>h i (by omega)),h t (by omega)]
theorem takeB_congr {p q:Nat→Nat} (s:St) (h:∀ i,i<64→p i=q i):takeB s p=takeB s q:=by
 unfold takeB
 rw [rnds_congr s 64 (fun i hi=>sched_congr (fun t ht=>word_congr t 4 (by omega) (fun j hj=>h _ (by omega))) i hi)]
theorem hs_congr {p q:Nat→Nat}:∀ (k:Nat),(∀ i,i<64*k→p i=q i)→hs p k=hs q k
 | 0,_=>rfl
 | k+1,h=>by
  simp only [hs]
  rw [hs_congr k (fun i hi=>h i (by omega)),takeB_congr (q:=fun i=>q (64*k+i)) _ (fun i hi=>h _ (by omega))]
theorem cat_cat (f g:Nat→Nat) (n k:Nat):cat (cat f n g) (n+k) (fun i=>g (k+i))=cat f n g:=by
 funext i
 unfold cat
 by_cases h1:i<n+k
 ·rw [if_pos h1]
 ·rw [if_neg h1,if_neg (by omega)]
  show g (k+(i-(n+k)))=_
  congr 1
  omega
theorem pad_congr {f g:Nat→Nat} {n:Nat} (h:∀ i,i<n→f i=g i) (i:Nat):pad f n i=pad g n i:=by
 unfold pad
 by_cases h1:i<n
 ·rw [if_pos h1,if_pos h1,h i h1]
 ·rw [if_neg h1,if_neg h1]
theorem hashS_congr {f g:Nat→Nat} {n:Nat} (h:∀ i,i<n→f i=g i):hashS f n=hashS g n:=by
 unfold hashS
 exact hs_congr _ (fun i _=>pad_congr h i)
def hA (f:Nat→Nat) (n:Nat):Array Value:=(ab (hByte (hashS f n)) 32).toArray
end Go.Proofs.YtmigakanbeckpaaGreatDoor.Sh
namespace Go.Proofs.YtmigakanbeckpaaGreatDoor.Sh
set_option maxRecDepth 100000
open Go.RowKit
attribute [local go_sem ↓] Go.wp_at_zero Go.wp_at_succ
theorem wn_mod (x:Wd):wn x % 4294967296=wn x:=by
 have:=wn_nn x
 have:=wn_lt x
 omega
theorem wn_add' (x y:Wd):(wn x+wn y) % 4294967296=wn (wadd x y):=by rw [← wn_add,IntKind.wrap_u32']
attribute [local go_sem] wn_add wn_xor wn_wrap wn_mod wn_add'
def Only (A:Act) (W:World):Exit→Act→World→Prop
 | .normal,a,w=>a=A∧w=W
 | _,_,_=>False
theorem Only.intro (A:Act) (W:World):Only A W .normal A W:=⟨rfl,rfl⟩
theorem Only.out {A:Act} {W:World} {Q:Exit→Act→World→Prop} (h:Q .normal A W):∀ e a w,Only A W e a w→Q e a w:=by
 intro e a w hq
 cases e <;> first | exact (hq:False).elim | (obtain ⟨rfl,rfl⟩:=hq;exact h)
def w1 (p:Nat→Nat) (t i j:Nat):Wd:=if j<t then wordP p j 4 else if j=t then wordP p t i else 0
def w2 (m:Nat→Wd) (t j:Nat):Wd:=if j<t then sched m j else 0
theorem zeros64:(#[.int .u32 0,.int .u32 0,.int .u32 0,.int .u32 0,.int .u32 0,.int .u32 0,.int .u32 0,.int .u32 0,.int .u32 0,.int .u32 0,.int .u32 0,.int .u32 0,.int .u32 0,.int .u32 0,.int .u32 0,.int .u32 0,.int .u32 0,.int .u32 0,.int .u32 0,.int .u32 0,.int .u32 0,.int .u32 0,.int .u32 0,.int .u32 0,.int .u32 0,.int .u32 0,.int .u32 0,.int .u32 0,.int .u32 0,.int .u32 0,.int .u32 0,.int .u32 0,.int .u32 0,.int .u32 0,.int .u32 0,.int .u32 0,.int .u32 0,.int .u32 0,.int .u32 0,.int .u32 0,.int .u32 0,.int .u32 0,.int .u32 0,.int .u32 0,.int .u32 0,.int .u32 0,.int .u32 0,.int .u32 0,.int .u32 0,.int .u32 0,.int .u32 0,.int .u32 0,.int .u32 0,.int .u32 0,.int .u32 0,.int .u32 0,.int .u32 0,.int .u32 0,.int .u32 0,.int .u32 0,.int .u32 0,.int .u32 0,.int .u32 0,.int .u32 0]:Array Value)=(aw (fun _=>0) 64).toArray:=by kernel_rfl
theorem below_setCells {w w':World} {b:Nat}:∀ (vs:List Value) (o:Nat),Below w.heap.size w w'→w.heap.size≤b→Below w.heap.size w (w'.setCells b o vs):=by
 intro vs
 induction vs generalizing w' with
 | nil=>intro o h _;exact h
 | cons v r ih=>intro o h hb;rw [World.setCells];exact ih (o+1) (K.set h hb v) hb
end Go.Proofs.YtmigakanbeckpaaGreatDoor.Sh
