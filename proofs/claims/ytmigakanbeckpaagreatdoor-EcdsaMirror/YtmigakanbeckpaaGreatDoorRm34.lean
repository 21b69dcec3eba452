/- What the document's own Verify of layer 11 answers, over what both Decodes and Right answer. What both Decodes of points answer; what the program's own right answers. What both Verifies answer. What both Publics answer, and that the program is awake. A key's bytes, and a signature's, are taken for what they are. What the document's own Add answers, for all numbers: the same as limb.Add. What the document's own Sub answers, for all numbers: the same as limb.Sub. What the document's own Modulus and plus answer. What the document's own Fold answers: a number modulo each modulus. -/
import Derived.Test.YtmigakanbeckpaaGreatDoorRm33
import Derived.Test.YtmigakanbeckpaaGreatDoorRm32
import Derived.Test.YtmigakanbeckpaaGreatDoorRm28
import Derived.Test.YtmigakanbeckpaaGreatDoorRm29
import Derived.Test.YtmigakanbeckpaaGreatDoorRm02
import Derived.Test.YtmigakanbeckpaaGreatDoorRm22
import Derived.Test.YtmigakanbeckpaaGreatDoorRm05
import Derived.Deep.LoopGhost
set_option maxRecDepth 100000
set_option maxHeartbeats 4000000
namespace Go.Proofs.YtmigakanbeckpaaGreatDoor
open Go.RowKit
end Go.Proofs.YtmigakanbeckpaaGreatDoor
namespace Go.Proofs.YtmigakanbeckpaaGreatDoor
open Go.RowKit
def dpV (X:Option (Wp m0)):Value:=match X with
 | none=>.tuple [.agg (nz++nz++[Value.bool true]).toArray,.bool false].toArray
 | some a=>.tuple [.agg (pc a).toArray,.bool true].toArray
theorem qBothP {w:World} (hT:Tab w) {k1 k2:Nat} (hk1:k1<2 ^ 256) (hk2:k2<2 ^ 256) {a b:Wp m0} (ha:a.on wb) (hb:b.on wb):Calls Tryz.prog 73 [.agg (nc (k1:Int)).toArray,.agg (pc a).toArray,.agg (nc (k2:Int)).toArray,.agg (pc b).toArray].toArray w fun e w'=>e=.returned (.agg (pc (wplus (mt wplus Wp.o a k1) (mt wplus Wp.o b k2))).toArray)∧Below w.heap.size w w':=by
 have h:=q_Both hT hk1 (fin_num (px a)) (fin_num (py a)) a.isNone hk2 (fin_num (px b)) (fin_num (py b)) b.isNone
 rw [rp_pc ha,rp_pc hb] at h
 exact h
theorem cT37 (vs:List Value):∀ w,(callFunc 37 vs.toArray).run Tryz.prog w=.ok (.enter 37 vs.toArray) w:=callFunc_enter Tryz.func37 (by kernel_rfl) (by kernel_rfl) _
theorem cT35 (vs:List Value):∀ w,(callFunc 35 vs.toArray).run Tryz.prog w=.ok (.enter 35 vs.toArray) w:=callFunc_enter Tryz.func35 (by kernel_rfl) (by kernel_rfl) _
theorem cT36 (vs:List Value):∀ w,(callFunc 36 vs.toArray).run Tryz.prog w=.ok (.enter 36 vs.toArray) w:=callFunc_enter Tryz.func36 (by kernel_rfl) (by kernel_rfl) _
theorem cT73 (vs:List Value):∀ w,(callFunc 73 vs.toArray).run Tryz.prog w=.ok (.enter 73 vs.toArray) w:=callFunc_enter Tryz.func73 (by kernel_rfl) (by kernel_rfl) _
theorem qRgt_n {w:World} (hT:Tab w) {Z r s:Nat} (hZ:Z<2 ^ 256) (hr:r<2 ^ 256) (hs:s<2 ^ 256) {x y:Fin m0} {a0:Wp m0} (ha:a0.on wb) (hxy:a0=some (x,y)) (hB:sumO a0 Z r s=Wp.o):Calls Tryz.prog 37 [.agg (fc (x)++fc (y)++[Value.bool false]).toArray,.agg (nc (((Z:Nat):Int))).toArray,.agg (nc (((r:Nat):Int))).toArray,.agg (nc (((s:Nat):Int))).toArray].toArray w fun e w'=>e=.returned (.bool false)∧Below w.heap.size w w':=by
 refine enter (args:=[.agg (fc (x)++fc (y)++[Value.bool false]).toArray,.agg (nc (((Z:Nat):Int))).toArray,.agg (nc (((r:Nat):Int))).toArray,.agg (nc (((s:Nat):Int))).toArray]) Tryz.func37 rfl 28 rfl (lk rfl) (fun a h=>?_)
 refine aX h [] [eN 4 _,eN 5 _,eN 6 _,eN 7 _,eS 8 _] ⟨rfl,rfl,rfl,rfl,rfl,T0⟩ [(4,.ptr 4 0),(5,.ptr 5 0),(6,.ptr 6 0),(7,.ptr 7 0)] [(4,fc (x)++fc (y)++[Value.bool false]),(5,nc (((Z:Nat):Int))),(6,nc (((r:Nat):Int))),(7,nc (((s:Nat):Int)))] (fun a w h=>?_)
 refine aX h [2,3,6,8] [eS 10 _,eS 11 _,eS 12 (.val (.agg (nc (((u1O Z s:Nat):Int))).toArray)),eS 13 (.val (.agg (pc (wG)).toArray)),eS 14 _,eS 15 _,eS 16 (.val (.agg (nc (((u1O r s:Nat):Int))).toArray)),eS 17 _,eS 18 (.val (.agg (nz++nz++[Value.bool true]).toArray)),eN 9 _,eM 9 _] ⟨rfl,rfl,fun L u=>u_call u (gd0 rfl) _ rfl _ _ _ rfl [_,_] rfl (cT74 _) _ (fun w hb=>qQ (hT.keep (Bs.kp_of hb)) hZ hs),fun L u=>u_call u (gd0 rfl) _ rfl _ _ _ rfl [] rfl (cT54 _) _ (fun w hb=>q_Base),rfl,rfl,fun L u=>u_call u (gd0 rfl) _ rfl _ _ _ rfl [_,_] rfl (cT74 _) _ (fun w hb=>qQ (hT.keep (Bs.kp_of hb)) hr hs),rfl,fun L u=>u_call u (gd0 rfl) _ rfl _ _ _ rfl [_,_,_,_] rfl (cT73 _) (.agg (nz++nz++[Value.bool true]).toArray) (fun w hb=>by have q:=qBothP (hT.keep (Bs.kp_of hb)) (k1:=u1O Z s) (k2:=u1O r s) (mo_num _) (mo_num _) wG_on ha;rw [show wplus (mt wplus Wp.o wG (u1O Z s)) (mt wplus Wp.o a0 (u1O r s))=_ from hB,hxy] at q;rw [← nz_pc] at q;exact q),rfl,rfl,T0⟩ [(6,_),(9,.ptr 9 0)] [(6,_),(9,nz++nz++[Value.bool true])] (fun a w h=>?_)
 refine aX h [] [eS 19 _,eS 20 _,eS 21 _,eS 22 _,eS 23 _,eS 24 _,eS 25 _,eS 26 _,eS 27 _,eS 8 _] ⟨rfl,rfl,rfl,rfl,rfl,rfl,rfl,rfl,rfl,rfl,T0⟩ [(8,.val (Value.bool false))] [] (fun a w h=>?_)
 refine wp_ret ?_
 refine ret_slot h 8 rfl (lk rfl) (Value.bool false) rfl ?_
 exact ⟨rfl,h.grows⟩
theorem qRgt_y {w:World} (hT:Tab w) {Z r s:Nat} (hZ:Z<2 ^ 256) (hr:r<2 ^ 256) (hs:s<2 ^ 256) {x y:Fin m0} {a0:Wp m0} (ha:a0.on wb) (hxy:a0=some (x,y)) {X Y:Fin m0} (hB:sumO a0 Z r s=some (X,Y)) (he:((mo (X.val:Int):Nat):Int)=(r:Int)):Calls Tryz.prog 37 [.agg (fc (x)++fc (y)++[Value.bool false]).toArray,.agg (nc (((Z:Nat):Int))).toArray,.agg (nc (((r:Nat):Int))).toArray,.agg (nc (((s:Nat):Int))).toArray].toArray w fun e w'=>e=.returned (.bool true)∧Below w.heap.size w w':=by
 refine enter (args:=[.agg (fc (x)++fc (y)++[Value.bool false]).toArray,.agg (nc (((Z:Nat):Int))).toArray,.agg (nc (((r:Nat):Int))).toArray,.agg (nc (((s:Nat):Int))).toArray]) Tryz.func37 rfl 28 rfl (lk rfl) (fun a h=>?_)
 refine aX h [] [eN 4 _,eN 5 _,eN 6 _,eN 7 _,eS 8 _] ⟨rfl,rfl,rfl,rfl,rfl,T0⟩ [(4,.ptr 4 0),(5,.ptr 5 0),(6,.ptr 6 0),(7,.ptr 7 0)] [(4,fc (x)++fc (y)++[Value.bool false]),(5,nc (((Z:Nat):Int))),(6,nc (((r:Nat):Int))),(7,nc (((s:Nat):Int)))] (fun a w h=>?_)
 refine aX h [2,3,6,8] [eS 10 _,eS 11 _,eS 12 (.val (.agg (nc (((u1O Z s:Nat):Int))).toArray)),eS 13 (.val (.agg (pc (wG)).toArray)),eS 14 _,eS 15 _,eS 16 (.val (.agg (nc (((u1O r s:Nat):Int))).toArray)),eS 17 _,eS 18 (.val (.agg (fc (X)++fc (Y)++[Value.bool false]).toArray)),eN 9 _,eM 9 _] ⟨rfl,rfl,fun L u=>u_call u (gd0 rfl) _ rfl _ _ _ rfl [_,_] rfl (cT74 _) _ (fun w hb=>qQ (hT.keep (Bs.kp_of hb)) hZ hs),fun L u=>u_call u (gd0 rfl) _ rfl _ _ _ rfl [] rfl (cT54 _) _ (fun w hb=>q_Base),rfl,rfl,fun L u=>u_call u (gd0 rfl) _ rfl _ _ _ rfl [_,_] rfl (cT74 _) _ (fun w hb=>qQ (hT.keep (Bs.kp_of hb)) hr hs),rfl,fun L u=>u_call u (gd0 rfl) _ rfl _ _ _ rfl [_,_,_,_] rfl (cT73 _) (.agg (fc (X)++fc (Y)++[Value.bool false]).toArray) (fun w hb=>by have q:=qBothP (hT.keep (Bs.kp_of hb)) (k1:=u1O Z s) (k2:=u1O r s) (mo_num _) (mo_num _) wG_on ha;rw [show wplus (mt wplus Wp.o wG (u1O Z s)) (mt wplus Wp.o a0 (u1O r s))=_ from hB,hxy] at q;exact q),rfl,rfl,T0⟩ [(6,_),(9,.ptr 9 0)] [(6,_),(9,fc (X)++fc (Y)++[Value.bool false])] (fun a w h=>?_)
 refine aX h [5,7] [eS 19 _,eS 20 _,eS 21 _,eS 22 _,eS 23 _,eS 24 (.val (.agg (nc (((mo (X.val:Int):Nat):Int))).toArray)),eS 25 _,eS 26 (.val (Value.bool true)),eS 27 _,eS 8 _] ⟨rfl,rfl,rfl,rfl,rfl,fun L u=>u_call u (gd1 u 3 true rfl 22 rfl (lk rfl) rfl) _ rfl _ _ _ rfl [_] rfl (cT75 _) _ (fun w hb=>qX_at (hT.keep (Bs.kp_of hb)) (mo_eq _)),rfl,fun L u=>u_eql u (gd1 u 3 true rfl 22 rfl (lk rfl) rfl) 26 rfl 24 24 (.tmp 24) (.tmp 25) rfl rfl rfl Tryz.eqGuardType24 (true) (fun w=>eq_rs (mo_num _) hr (decide_eq_true he) w),rfl,rfl,T0⟩ [(8,.val (Value.bool true))] [] (fun a w h=>?_)
 refine wp_ret ?_
 refine ret_slot h 8 rfl (lk rfl) (Value.bool true) rfl ?_
 exact ⟨rfl,h.grows⟩
theorem qRgt_d {w:World} (hT:Tab w) {Z r s:Nat} (hZ:Z<2 ^ 256) (hr:r<2 ^ 256) (hs:s<2 ^ 256) {x y:Fin m0} {a0:Wp m0} (ha:a0.on wb) (hxy:a0=some (x,y)) {X Y:Fin m0} (hB:sumO a0 Z r s=some (X,Y)) (he:¬ ((mo (X.val:Int):Nat):Int)=(r:Int)):Calls Tryz.prog 37 [.agg (fc (x)++fc (y)++[Value.bool false]).toArray,.agg (nc (((Z:Nat):Int))).toArray,.agg (nc (((r:Nat):Int))).toArray,.agg (nc (((s:Nat):Int))).toArray].toArray w fun e w'=>e=.returned (.bool false)∧Below w.heap.size w w':=by
 refine enter (args:=[.agg (fc (x)++fc (y)++[Value.bool false]).toArray,.agg (nc (((Z:Nat):Int))).toArray,.agg (nc (((r:Nat):Int))).toArray,.agg (nc (((s:Nat):Int))).toArray]) Tryz.func37 rfl 28 rfl (lk rfl) (fun a h=>?_)
 refine aX h [] [eN 4 _,eN 5 _,eN 6 _,eN 7 _,eS 8 _] ⟨rfl,rfl,rfl,rfl,rfl,T0⟩ [(4,.ptr 4 0),(5,.ptr 5 0),(6,.ptr 6 0),(7,.ptr 7 0)] [(4,fc (x)++fc (y)++[Value.bool false]),(5,nc (((Z:Nat):Int))),(6,nc (((r:Nat):Int))),(7,nc (((s:Nat):Int)))] (fun a w h=>?_)
 refine aX h [2,3,6,8] [eS 10 _,eS 11 _,eS 12 (.val (.agg (nc (((u1O Z s:Nat):Int))).toArray)),eS 13 (.val (.agg (pc (wG)).toArray)),eS 14 _,eS 15 _,eS 16 (.val (.agg (nc (((u1O r s:Nat):Int))).toArray)),eS 17 _,eS 18 (.val (.agg (fc (X)++fc (Y)++[Value.bool false]).toArray)),eN 9 _,eM 9 _] ⟨rfl,rfl,fun L u=>u_call u (gd0 rfl) _ rfl _ _ _ rfl [_,_] rfl (cT74 _) _ (fun w hb=>qQ (hT.keep (Bs.kp_of hb)) hZ hs),fun L u=>u_call u (gd0 rfl) _ rfl _ _ _ rfl [] rfl (cT54 _) _ (fun w hb=>q_Base),rfl,rfl,fun L u=>u_call u (gd0 rfl) _ rfl _ _ _ rfl [_,_] rfl (cT74 _) _ (fun w hb=>qQ (hT.keep (Bs.kp_of hb)) hr hs),rfl,fun L u=>u_call u (gd0 rfl) _ rfl _ _ _ rfl [_,_,_,_] rfl (cT73 _) (.agg (fc (X)++fc (Y)++[Value.bool false]).toArray) (fun w hb=>by have q:=qBothP (hT.keep (Bs.kp_of hb)) (k1:=u1O Z s) (k2:=u1O r s) (mo_num _) (mo_num _) wG_on ha;rw [show wplus (mt wplus Wp.o wG (u1O Z s)) (mt wplus Wp.o a0 (u1O r s))=_ from hB,hxy] at q;exact q),rfl,rfl,T0⟩ [(6,_),(9,.ptr 9 0)] [(6,_),(9,fc (X)++fc (Y)++[Value.bool false])] (fun a w h=>?_)
 refine aX h [5,7] [eS 19 _,eS 20 _,eS 21 _,eS 22 _,eS 23 _,eS 24 (.val (.agg (nc (((mo (X.val:Int):Nat):Int))).toArray)),eS 25 _,eS 26 (.val (Value.bool false)),eS 27 _,eS 8 _] ⟨rfl,rfl,rfl,rfl,rfl,fun L u=>u_call u (gd1 u 3 true rfl 22 rfl (lk rfl) rfl) _ rfl _ _ _ rfl [_] rfl (cT75 _) _ (fun w hb=>qX_at (hT.keep (Bs.kp_of hb)) (mo_eq _)),rfl,fun L u=>u_eql u (gd1 u 3 true rfl 22 rfl (lk rfl) rfl) 26 rfl 24 24 (.tmp 24) (.tmp 25) rfl rfl rfl Tryz.eqGuardType24 (false) (fun w=>eq_rs (mo_num _) hr (decide_eq_false he) w),rfl,rfl,T0⟩ [(8,.val (Value.bool false))] [] (fun a w h=>?_)
 refine wp_ret ?_
 refine ret_slot h 8 rfl (lk rfl) (Value.bool false) rfl ?_
 exact ⟨rfl,h.grows⟩
theorem xeq_no {q:Fin m0 × Fin m0} {r:Nat} (h:¬ mo (q.1.val:Int)=r):xeq q r=false:=by
 unfold xeq
 exact decide_eq_false h
theorem rgt_cases {a:Wp m0} {z r s:Nat}:(sumO a z r s=Wp.o∧rgt a z r s=false)∨∃ X Y,sumO a z r s=some (X,Y)∧((mo (X.val:Int)=r∧rgt a z r s=true)∨(¬ mo (X.val:Int)=r∧rgt a z r s=false)):=by
 unfold rgt
 cases sumO a z r s with
 | none=>exact Or.inl ⟨rfl,rfl⟩
 | some q =>
  refine Or.inr ⟨q.1,q.2,rfl,?_⟩
  rw [rgtO_some]
  by_cases h:mo (q.1.val:Int)=r
  ·exact Or.inl ⟨h,xeq_of h⟩
  ·exact Or.inr ⟨h,xeq_no h⟩
theorem qRgt {w:World} (hT:Tab w) {Z r s:Nat} (hZ:Z<2 ^ 256) (hr:r<2 ^ 256) (hs:s<2 ^ 256) {x y:Fin m0} {a0:Wp m0} (ha:a0.on wb) (hxy:a0=some (x,y)):Calls Tryz.prog 37 [.agg (fc (x)++fc (y)++[Value.bool false]).toArray,.agg (nc (((Z:Nat):Int))).toArray,.agg (nc (((r:Nat):Int))).toArray,.agg (nc (((s:Nat):Int))).toArray].toArray w fun e w'=>e=.returned (.bool (rgt a0 Z r s))∧Below w.heap.size w w':=by
 rcases rgt_cases (a:=a0) (z:=Z) (r:=r) (s:=s) with ⟨h1,h2⟩ | ⟨X,Y,h1,⟨h2,h3⟩ | ⟨h2,h3⟩⟩
 ·rw [h2];exact qRgt_n hT hZ hr hs ha hxy h1
 ·rw [h3];exact qRgt_y hT hZ hr hs ha hxy h1 (by omega)
 ·rw [h3];exact qRgt_d hT hZ hr hs ha hxy h1 (by omega)
end Go.Proofs.YtmigakanbeckpaaGreatDoor
namespace Go.Proofs.YtmigakanbeckpaaGreatDoor
open Go.RowKit
theorem qVer_o {w:World} {n1 c1 n2 c2 n3 c3:Nat} {z1 z2 z3:Option Addr} (hP:∀ w1,Below w.heap.size w w1→Calls Tryz.prog 35 [Value.slice (z1) (n1) (c1)].toArray w1 fun e w'=>e=.returned (.tuple [.agg (nz++nz++[Value.bool true]).toArray,.bool true].toArray)∧Below w1.heap.size w1 w'):Calls Tryz.prog 14 [Value.slice (z1) (n1) (c1),Value.slice (z2) (n2) (c2),Value.slice (z3) (n3) (c3)].toArray w fun e w'=>e=.returned (.bool false)∧Below w.heap.size w w':=by
 refine enter (args:=[Value.slice (z1) (n1) (c1),Value.slice (z2) (n2) (c2),Value.slice (z3) (n3) (c3)]) Tryz.func14 rfl 45 rfl (lk rfl) (fun a h=>?_)
 refine aX h [] [eS 6 _] ⟨rfl,T0⟩ [(0,.val (Value.slice (z1) (n1) (c1))),(1,.val (Value.slice (z2) (n2) (c2))),(2,.val (Value.slice (z3) (n3) (c3)))] [] (fun a w h=>?_)
 refine aX h [1] [eS 12 _,eS 13 (.val (.tuple [Value.agg (nz++nz++[Value.bool true]).toArray,Value.bool true].toArray)),eS 11 _,eS 14 _,eS 15 _,eN 7 _,eM 7 _,eS 8 _] ⟨rfl,fun L u=>u_call u (gd0 rfl) _ rfl _ _ _ rfl [_] rfl (cT35 _) _ (fun w hb=>hP w (Bs.kp_of hb)),rfl,rfl,rfl,rfl,rfl,rfl,T0⟩ [(1,_),(2,_),(7,.ptr 7 0),(8,.val (Value.bool true))] [(7,nz++nz++[Value.bool true])] (fun a w h=>?_)
 refine wp_seq ?_
 refine aX h [] [eS 16 _,eS 17 _,eS 18 _,eS 19 _,eS 20 _,eS 21 _] ⟨rfl,rfl,rfl,rfl,rfl,rfl,T0⟩ [(1,_),(2,_),(7,_),(21,.val (Value.bool true))] [(7,_)] (fun a w h=>?_)
 refine go_cond h true rfl (fun ht=>?_) (fun hf=>?_)
 case refine_2=>cases hf
 refine aX h [] [eS 6 _] ⟨rfl,T0⟩ [(6,.val (Value.bool false))] [] (fun a w h=>?_)
 refine wp_ret ?_
 refine then_ret ?_
 refine ret_slot h 6 rfl (lk rfl) (Value.bool false) rfl ?_
 exact ⟨rfl,h.grows⟩
theorem qVer_r {w:World} (hT:Tab w) {n1 c1 n2 c2 n3 c3:Nat} {z1 z2 z3:Option Addr} {x y:Fin m0} {r s:Nat} (hr:r<2 ^ 256) (_:s<2 ^ 256) (hP:∀ w1,Below w.heap.size w w1→Calls Tryz.prog 35 [Value.slice (z1) (n1) (c1)].toArray w1 fun e w'=>e=.returned (.tuple [.agg (fc (x)++fc (y)++[Value.bool false]).toArray,.bool true].toArray)∧Below w1.heap.size w1 w') (hS:∀ w1,Below w.heap.size w w1→Calls Tryz.prog 36 [Value.slice (z3) (n3) (c3)].toArray w1 fun e w'=>e=.returned (.tuple [.agg (nc ((r:Nat):Int)).toArray,.agg (nc ((s:Nat):Int)).toArray,.bool true].toArray)∧Below w1.heap.size w1 w') (hwr:wi r=false):Calls Tryz.prog 14 [Value.slice (z1) (n1) (c1),Value.slice (z2) (n2) (c2),Value.slice (z3) (n3) (c3)].toArray w fun e w'=>e=.returned (.bool false)∧Below w.heap.size w w':=by
 refine enter (args:=[Value.slice (z1) (n1) (c1),Value.slice (z2) (n2) (c2),Value.slice (z3) (n3) (c3)]) Tryz.func14 rfl 45 rfl (lk rfl) (fun a h=>?_)
 refine aX h [] [eS 6 _] ⟨rfl,T0⟩ [(0,.val (Value.slice (z1) (n1) (c1))),(1,.val (Value.slice (z2) (n2) (c2))),(2,.val (Value.slice (z3) (n3) (c3)))] [] (fun a w h=>?_)
 refine aX h [1] [eS 12 _,eS 13 (.val (.tuple [Value.agg (fc (x)++fc (y)++[Value.bool false]).toArray,Value.bool true].toArray)),eS 11 _,eS 14 _,eS 15 _,eN 7 _,eM 7 _,eS 8 _] ⟨rfl,fun L u=>u_call u (gd0 rfl) _ rfl _ _ _ rfl [_] rfl (cT35 _) _ (fun w hb=>hP w (Bs.kp_of hb)),rfl,rfl,rfl,rfl,rfl,rfl,T0⟩ [(1,_),(2,_),(7,.ptr 7 0),(8,.val (Value.bool true))] [(7,fc (x)++fc (y)++[Value.bool false])] (fun a w h=>?_)
 refine wp_seq ?_
 refine aX h [] [eS 16 _,eS 17 _,eS 18 _,eS 19 _,eS 20 _,eS 21 _] ⟨rfl,rfl,rfl,rfl,rfl,rfl,T0⟩ [(1,_),(2,_),(7,_),(21,.val (Value.bool false))] [(7,_)] (fun a w h=>?_)
 refine go_cond h false rfl (fun ht=>?_) (fun hf=>?_)
 case refine_1=>cases ht
 refine wp_skip ?_
 refine then_norm ?_
 refine aX h [1] [eS 23 _,eS 24 (.val (.tuple [Value.agg (nc (((r:Nat):Int))).toArray,.agg (nc (((s:Nat):Int))).toArray,Value.bool true].toArray)),eS 22 _,eS 25 _,eS 26 _,eS 27 _,eN 9 _,eN 10 _,eM 9 _,eM 10 _,eS 8 _] ⟨rfl,fun L u=>u_call u (gd0 rfl) _ rfl _ _ _ rfl [_] rfl (cT36 _) _ (fun w hb=>hS w (Bs.kp_of hb)),rfl,rfl,rfl,rfl,rfl,rfl,rfl,rfl,rfl,T0⟩ [(1,_),(7,_),(8,.val (Value.bool true)),(9,.ptr 9 0),(10,.ptr 10 0)] [(7,_),(9,nc (((r:Nat):Int))),(10,nc (((s:Nat):Int)))] (fun a w h=>?_)
 refine aX h [3] [eS 28 _,eS 29 _,eS 30 _,eS 31 (.val (Value.bool false)),eS 32 _,eS 33 _,eS 34 _,eS 35 _,eS 36 _,eS 37 _,eS 38 _,eS 39 _,eS 40 _,eS 41 _,eS 42 _,eS 43 _,eS 44 _,eS 6 _] ⟨rfl,rfl,rfl,fun L u=>u_call u (gd1 u 1 true rfl 29 rfl (lk rfl) rfl) _ rfl _ _ _ rfl [_] rfl (cT25 _) (Value.bool false) (fun w hb=>by have q:=qIn (hT.keep (Bs.kp_of hb)) hr;rw [hwr] at q;exact q),rfl,rfl,rfl,rfl,rfl,rfl,rfl,rfl,rfl,rfl,rfl,rfl,rfl,rfl,T0⟩ [(6,.val (Value.bool false))] [] (fun a w h=>?_)
 refine wp_ret ?_
 refine ret_slot h 6 rfl (lk rfl) (Value.bool false) rfl ?_
 exact ⟨rfl,h.grows⟩
theorem qVer_s {w:World} (hT:Tab w) {n1 c1 n2 c2 n3 c3:Nat} {z1 z2 z3:Option Addr} {x y:Fin m0} {r s:Nat} (hr:r<2 ^ 256) (hs:s<2 ^ 256) (hP:∀ w1,Below w.heap.size w w1→Calls Tryz.prog 35 [Value.slice (z1) (n1) (c1)].toArray w1 fun e w'=>e=.returned (.tuple [.agg (fc (x)++fc (y)++[Value.bool false]).toArray,.bool true].toArray)∧Below w1.heap.size w1 w') (hS:∀ w1,Below w.heap.size w w1→Calls Tryz.prog 36 [Value.slice (z3) (n3) (c3)].toArray w1 fun e w'=>e=.returned (.tuple [.agg (nc ((r:Nat):Int)).toArray,.agg (nc ((s:Nat):Int)).toArray,.bool true].toArray)∧Below w1.heap.size w1 w') (hwr:wi r=true) (hws:wi s=false):Calls Tryz.prog 14 [Value.slice (z1) (n1) (c1),Value.slice (z2) (n2) (c2),Value.slice (z3) (n3) (c3)].toArray w fun e w'=>e=.returned (.bool false)∧Below w.heap.size w w':=by
 refine enter (args:=[Value.slice (z1) (n1) (c1),Value.slice (z2) (n2) (c2),Value.slice (z3) (n3) (c3)]) Tryz.func14 rfl 45 rfl (lk rfl) (fun a h=>?_)
 refine aX h [] [eS 6 _] ⟨rfl,T0⟩ [(0,.val (Value.slice (z1) (n1) (c1))),(1,.val (Value.slice (z2) (n2) (c2))),(2,.val (Value.slice (z3) (n3) (c3)))] [] (fun a w h=>?_)
 refine aX h [1] [eS 12 _,eS 13 (.val (.tuple [Value.agg (fc (x)++fc (y)++[Value.bool false]).toArray,Value.bool true].toArray)),eS 11 _,eS 14 _,eS 15 _,eN 7 _,eM 7 _,eS 8 _] ⟨rfl,fun L u=>u_call u (gd0 rfl) _ rfl _ _ _ rfl [_] rfl (cT35 _) _ (fun w hb=>hP w (Bs.kp_of hb)),rfl,rfl,rfl,rfl,rfl,rfl,T0⟩ [(1,_),(2,_),(7,.ptr 7 0),(8,.val (Value.bool true))] [(7,fc (x)++fc (y)++[Value.bool false])] (fun a w h=>?_)
 refine wp_seq ?_
 refine aX h [] [eS 16 _,eS 17 _,eS 18 _,eS 19 _,eS 20 _,eS 21 _] ⟨rfl,rfl,rfl,rfl,rfl,rfl,T0⟩ [(1,_),(2,_),(7,_),(21,.val (Value.bool false))] [(7,_)] (fun a w h=>?_)
 refine go_cond h false rfl (fun ht=>?_) (fun hf=>?_)
 case refine_1=>cases ht
 refine wp_skip ?_
 refine then_norm ?_
 refine aX h [1] [eS 23 _,eS 24 (.val (.tuple [Value.agg (nc (((r:Nat):Int))).toArray,.agg (nc (((s:Nat):Int))).toArray,Value.bool true].toArray)),eS 22 _,eS 25 _,eS 26 _,eS 27 _,eN 9 _,eN 10 _,eM 9 _,eM 10 _,eS 8 _] ⟨rfl,fun L u=>u_call u (gd0 rfl) _ rfl _ _ _ rfl [_] rfl (cT36 _) _ (fun w hb=>hS w (Bs.kp_of hb)),rfl,rfl,rfl,rfl,rfl,rfl,rfl,rfl,rfl,T0⟩ [(1,_),(7,_),(8,.val (Value.bool true)),(9,.ptr 9 0),(10,.ptr 10 0)] [(7,_),(9,nc (((r:Nat):Int))),(10,nc (((s:Nat):Int)))] (fun a w h=>?_)
 refine aX h [3,7] [eS 28 _,eS 29 _,eS 30 _,eS 31 (.val (Value.bool true)),eS 32 _,eS 33 _,eS 34 _,eS 35 (.val (Value.bool false)),eS 36 _,eS 37 _,eS 38 _,eS 39 _,eS 40 _,eS 41 _,eS 42 _,eS 43 _,eS 44 _,eS 6 _] ⟨rfl,rfl,rfl,fun L u=>u_call u (gd1 u 1 true rfl 29 rfl (lk rfl) rfl) _ rfl _ _ _ rfl [_] rfl (cT25 _) (Value.bool true) (fun w hb=>by have q:=qIn (hT.keep (Bs.kp_of hb)) hr;rw [hwr] at q;exact q),rfl,rfl,rfl,fun L u=>u_call u (gd1 u 5 true rfl 33 rfl (lk rfl) rfl) _ rfl _ _ _ rfl [_] rfl (cT25 _) (Value.bool false) (fun w hb=>by have q:=qIn (hT.keep (Bs.kp_of hb)) hs;rw [hws] at q;exact q),rfl,rfl,rfl,rfl,rfl,rfl,rfl,rfl,rfl,rfl,T0⟩ [(6,.val (Value.bool false))] [] (fun a w h=>?_)
 refine wp_ret ?_
 refine ret_slot h 6 rfl (lk rfl) (Value.bool false) rfl ?_
 exact ⟨rfl,h.grows⟩
theorem qVer_y {w:World} (hT:Tab w) {n1 c1 n2 c2 n3 c3:Nat} {z1 z2 z3:Option Addr} {x y:Fin m0} {r s:Nat} (hr:r<2 ^ 256) (hs:s<2 ^ 256) (hP:∀ w1,Below w.heap.size w w1→Calls Tryz.prog 35 [Value.slice (z1) (n1) (c1)].toArray w1 fun e w'=>e=.returned (.tuple [.agg (fc (x)++fc (y)++[Value.bool false]).toArray,.bool true].toArray)∧Below w1.heap.size w1 w') (hS:∀ w1,Below w.heap.size w w1→Calls Tryz.prog 36 [Value.slice (z3) (n3) (c3)].toArray w1 fun e w'=>e=.returned (.tuple [.agg (nc ((r:Nat):Int)).toArray,.agg (nc ((s:Nat):Int)).toArray,.bool true].toArray)∧Below w1.heap.size w1 w') (hH:Sh.Tab w) {f:Nat→Nat} (hba:BA w z2 n2 f) (hc:n2≤c2) (hcm:c2≤maxLen) (hn:n2≤800000) {a0:Wp m0} (ha:a0.on wb) (hxy:a0=some (x,y)) (hwr:wi r=true) (hws:wi s=true):Calls Tryz.prog 14 [Value.slice (z1) (n1) (c1),Value.slice (z2) (n2) (c2),Value.slice (z3) (n3) (c3)].toArray w fun e w'=>e=.returned (.bool (rgt a0 (zN f n2) r s))∧Below w.heap.size w w':=by
 refine enter (args:=[Value.slice (z1) (n1) (c1),Value.slice (z2) (n2) (c2),Value.slice (z3) (n3) (c3)]) Tryz.func14 rfl 45 rfl (lk rfl) (fun a h=>?_)
 refine aX h [] [eS 6 _] ⟨rfl,T0⟩ [(0,.val (Value.slice (z1) (n1) (c1))),(1,.val (Value.slice (z2) (n2) (c2))),(2,.val (Value.slice (z3) (n3) (c3)))] [] (fun a w h=>?_)
 refine aX h [1] [eS 12 _,eS 13 (.val (.tuple [Value.agg (fc (x)++fc (y)++[Value.bool false]).toArray,Value.bool true].toArray)),eS 11 _,eS 14 _,eS 15 _,eN 7 _,eM 7 _,eS 8 _] ⟨rfl,fun L u=>u_call u (gd0 rfl) _ rfl _ _ _ rfl [_] rfl (cT35 _) _ (fun w hb=>hP w (Bs.kp_of hb)),rfl,rfl,rfl,rfl,rfl,rfl,T0⟩ [(1,_),(2,_),(7,.ptr 7 0),(8,.val (Value.bool true))] [(7,fc (x)++fc (y)++[Value.bool false])] (fun a w h=>?_)
 refine wp_seq ?_
 refine aX h [] [eS 16 _,eS 17 _,eS 18 _,eS 19 _,eS 20 _,eS 21 _] ⟨rfl,rfl,rfl,rfl,rfl,rfl,T0⟩ [(1,_),(2,_),(7,_),(21,.val (Value.bool false))] [(7,_)] (fun a w h=>?_)
 refine go_cond h false rfl (fun ht=>?_) (fun hf=>?_)
 case refine_1=>cases ht
 refine wp_skip ?_
 refine then_norm ?_
 refine aX h [1] [eS 23 _,eS 24 (.val (.tuple [Value.agg (nc (((r:Nat):Int))).toArray,.agg (nc (((s:Nat):Int))).toArray,Value.bool true].toArray)),eS 22 _,eS 25 _,eS 26 _,eS 27 _,eN 9 _,eN 10 _,eM 9 _,eM 10 _,eS 8 _] ⟨rfl,fun L u=>u_call u (gd0 rfl) _ rfl _ _ _ rfl [_] rfl (cT36 _) _ (fun w hb=>hS w (Bs.kp_of hb)),rfl,rfl,rfl,rfl,rfl,rfl,rfl,rfl,rfl,T0⟩ [(1,_),(7,_),(8,.val (Value.bool true)),(9,.ptr 9 0),(10,.ptr 10 0)] [(7,_),(9,nc (((r:Nat):Int))),(10,nc (((s:Nat):Int)))] (fun a w h=>?_)
 refine aX h [3,7,12,15] [eS 28 _,eS 29 _,eS 30 _,eS 31 (.val (Value.bool true)),eS 32 _,eS 33 _,eS 34 _,eS 35 (.val (Value.bool true)),eS 36 _,eS 37 _,eS 38 _,eS 39 _,eS 40 (.val (.agg (nc (((zN f n2:Nat):Int))).toArray)),eS 41 _,eS 42 _,eS 43 (.val (Value.bool (rgt a0 (zN f n2) r s))),eS 44 _,eS 6 _] ⟨rfl,rfl,rfl,fun L u=>u_call u (gd1 u 1 true rfl 29 rfl (lk rfl) rfl) _ rfl _ _ _ rfl [_] rfl (cT25 _) (Value.bool true) (fun w hb=>by have q:=qIn (hT.keep (Bs.kp_of hb)) hr;rw [hwr] at q;exact q),rfl,rfl,rfl,fun L u=>u_call u (gd1 u 5 true rfl 33 rfl (lk rfl) rfl) _ rfl _ _ _ rfl [_] rfl (cT25 _) (Value.bool true) (fun w hb=>by have q:=qIn (hT.keep (Bs.kp_of hb)) hs;rw [hws] at q;exact q),rfl,rfl,rfl,rfl,fun L u=>u_call u (gd1 u 9 true rfl 37 rfl (lk rfl) rfl) _ rfl _ _ _ rfl [_] rfl (cT31 _) _ (fun w hb=>qNum (hH.keep (Bs.kp_of hb)) (hba.keep (Bs.kp_of hb)) hc hcm (by omega)),rfl,rfl,fun L u=>u_call u (gd1 u 9 true rfl 37 rfl (lk rfl) rfl) _ rfl _ _ _ rfl [_,_,_,_] rfl (cT37 _) _ (fun w hb=>qRgt (hT.keep (Bs.kp_of hb)) (zN_lt f n2) hr hs ha hxy),rfl,rfl,T0⟩ [(6,.val (Value.bool (rgt a0 (zN f n2) r s)))] [] (fun a w h=>?_)
 refine wp_ret ?_
 refine ret_slot h 6 rfl (lk rfl) (Value.bool (rgt a0 (zN f n2) r s)) rfl ?_
 exact ⟨rfl,h.grows⟩
end Go.Proofs.YtmigakanbeckpaaGreatDoor
namespace Go.Proofs.YtmigakanbeckpaaGreatDoor
open Go.RowKit
theorem fst_rd {p:Pd} {b v:Value} {F:Nat→Bool} {w:World} (h:(tupPd p b).p v F w):p.p (fstV v) F w:=by
 obtain ⟨u,rfl,hu⟩:=h
 exact hu
theorem sameV {n:Nat} {l:List Nat} {v1 v2:Value} {F1 F2:Nat→Bool} {w:World} (hn:n≤1000) (h1:(rdPd n l).p v1 F1 w) (h2:(rdPd n l).p v2 F2 w):Calls Tryz.prog 11 [v1,v2].toArray w fun e w'=>e=.returned (.bool true)∧Below w.heap.size w w':=by
 obtain ⟨z1,c1,rfl,_,_,b1,_⟩:=h1
 obtain ⟨z2,c2,rfl,_,_,b2,_⟩:=h2
 exact same_ba hn b1 b2
theorem ptL_len (a:Wp m0):(ptL a).length≤65:=by
 cases a with
 | none=>decide
 | some q=>exact Nat.le_of_eq (fl_len _ _)
theorem nb1X:Tryz.prog.built 24 [(0,.int .u64 1),(1,.int .u64 0),(2,.int .u64 0),(3,.int .u64 0)]=some (nc ((1:Nat):Int)).toArray:=by kernel_rfl
theorem wi_1:wi 1=true:=by decide
theorem cT8 (vs:List Value):∀ w,(callFunc 8 vs.toArray).run Tryz.prog w=.ok (.enter 8 vs.toArray) w:=callFunc_enter Tryz.func8 (by kernel_rfl) (by kernel_rfl) _
theorem cT24 (vs:List Value):∀ w,(callFunc 24 vs.toArray).run Tryz.prog w=.ok (.enter 24 vs.toArray) w:=callFunc_enter Tryz.func24 (by kernel_rfl) (by kernel_rfl) _
theorem qPubY {w:World} (hT:Tab w) {D:Nat} (hD:D<2 ^ 256) (hw:wi D=true):Calls Tryz.prog 9 [.agg (nc (((D:Nat):Int))).toArray].toArray w fun e w'=>∃ v Fp,e=.returned v∧(tupPd (rdPd ((ptL (mt wplus Wp.o wG D)).length) (ptL (mt wplus Wp.o wG D))) (.bool true)).p v Fp w'∧(∀ b,Fp b=true→w.heap.size≤b∧b<w'.heap.size)∧Below w.heap.size w w':=by
 refine enter (args:=[.agg (nc (((D:Nat):Int))).toArray]) Tryz.func9 rfl 10 rfl (lk rfl) (fun a h=>?_)
 refine aX h [] [eN 1 _,eS 2 _,eS 3 _] ⟨rfl,rfl,rfl,T0⟩ [(1,.ptr 1 0)] [(1,nc (((D:Nat):Int)))] (fun a w h=>?_)
 refine wp_seq ?_
 refine aX h [1] [eS 4 _,eS 5 (.val (Value.bool true)),eS 6 _] ⟨rfl,fun L u=>u_call u (gd0 rfl) _ rfl _ _ _ rfl [_] rfl (cT25 _) (Value.bool true) (fun w hb=>by have q:=qIn (hT.keep (Bs.kp_of hb)) hD;rw [hw] at q;exact q),rfl,T0⟩ [(1,_),(6,.val (Value.bool false))] [(1,_)] (fun a w h=>?_)
 refine go_cond h false rfl (fun ht=>?_) (fun hf=>?_)
 case refine_1=>cases ht
 refine wp_skip ?_
 refine then_norm ?_
 refine aXQ h [1,2,3] [eS 7 _,eS 8 (.val (.agg (pc (mt wplus Wp.o wG D)).toArray)),eQ 9 (rdPd ((ptL (mt wplus Wp.o wG D)).length) (ptL (mt wplus Wp.o wG D))),eS 2 (.unk 9 id),eS 3 _] ⟨rfl,fun L u=>u_call u (gd0 rfl) _ rfl _ _ _ rfl [_] rfl (cT27 _) _ (fun w hb=>qTB (hT.keep (Bs.kp_of hb)) hD),fun L u=>u_callQ u (gd0 rfl) 9 rfl rfl 26 #[(.tmp 8)] #[44] rfl [.val (.agg (pc (mt wplus Wp.o wG D)).toArray)] rfl (fun vs w=>callFunc_enter Tryz.func26 (by kernel_rfl) (by kernel_rfl) vs w) (rdPd ((ptL (mt wplus Wp.o wG D)).length) (ptL (mt wplus Wp.o wG D))) (fun β a w hr=>qEncP (hT.keep (Bs.kp_of hr.bl)) (mt_on wgr wG_on D)),fun L u=>u_copyQ u (gd0 rfl) 2 rfl (.tmp 9) (Or.inr rfl) rfl rfl,rfl,T0⟩ [(2,.unk 9 id),(3,.val (Value.bool true))] [] [(9,rdPd ((ptL (mt wplus Wp.o wG D)).length) (ptL (mt wplus Wp.o wG D)))] (fun a w h=>?_)
 refine wp_ret ?_
 refine ret_tv h 2 3 rfl (lk rfl) (lk rfl) 9 id rfl rfl (Value.bool true) rfl (fun v F hp hF=>?_)
 exact ⟨_,F,rfl,⟨v,rfl,hp⟩,hF,h.grows⟩
theorem awk {w:World} (hT:Tab w):Calls Tryz.prog 8 [].toArray w fun e w'=>e=.returned (.bool true)∧Below w.heap.size w w':=by
 refine enter (args:=[]) Tryz.func8 rfl 15 rfl (lk rfl) (fun a h=>?_)
 refine aX h [] [eS 0 _] ⟨rfl,T0⟩ [] [] (fun a w h=>?_)
 refine aXQ h [0,1,2,3,4,5] [eS 4 (.val (.agg (nc (((1:Nat):Int))).toArray)),eQ 5 (tupPd (rdPd ((ptL wG).length) (ptL wG)) (Value.bool true)),eS 3 (.unk 5 id),eS 6 (.unk 5 fstV),eS 7 (.val (Value.bool true)),eS 1 (.unk 5 fstV),eS 2 _] ⟨fun L u=>u_build u (gd0 rfl) 4 rfl 24 #[(0,(.const (.int .u64 1))),(1,(.const (.int .u64 0))),(2,(.const (.int .u64 0))),(3,(.const (.int .u64 0)))] rfl [(0,(Value.int IntKind.u64 1)),(1,(Value.int IntKind.u64 0)),(2,(Value.int IntKind.u64 0)),(3,(Value.int IntKind.u64 0))] rfl (nc (((1:Nat):Int))) (nb1X),fun L u=>u_callQ u (gd0 rfl) 5 rfl rfl 9 #[(.tmp 4)] #[24] rfl [.val (.agg (nc (((1:Nat):Int))).toArray)] rfl (fun vs w=>callFunc_enter Tryz.func9 (by kernel_rfl) (by kernel_rfl) vs w) (tupPd (rdPd ((ptL wG).length) (ptL wG)) (Value.bool true)) (fun β a w hr=>by have q:=qPubY (D:=1) (hT.keep (Bs.kp_of hr.bl)) (by decide) wi_1;rw [mt_one wgr wG_on] at q;exact q),fun L u=>u_copyQ u (gd0 rfl) 3 rfl (.tmp 5) (Or.inl rfl) rfl rfl,fun L u=>u_ext0T u (gd0 rfl) 6 rfl (.tmp 3) rfl rfl rfl,fun L u=>u_ext1T u (gd0 rfl) 7 rfl (.tmp 3) rfl rfl rfl,fun L u=>u_copyQ u (gd0 rfl) 1 rfl (.tmp 6) (Or.inr rfl) rfl rfl,rfl,T0⟩ [(1,.unk 5 fstV),(2,.val (Value.bool true))] [] [(5,tupPd (rdPd ((ptL wG).length) (ptL wG)) (Value.bool true))] (fun a w h=>?_)
 refine aX h [2,3,4,5] [eS 8 _,eS 9 _,eS 10 (.unk 5 fstV),eS 11 (.val (.agg (pc (wG)).toArray)),eQ 12 (rdPd ((ptL wG).length) (ptL wG)),eS 13 (.val (Value.bool true)),eS 14 _,eS 0 _] ⟨rfl,rfl,fun L u=>u_copyQ u (gd1 u 1 true rfl 9 rfl (lk rfl) rfl) 10 rfl (.tmp 1) (Or.inl rfl) rfl rfl,fun L u=>u_call u (gd1 u 1 true rfl 9 rfl (lk rfl) rfl) _ rfl _ _ _ rfl [] rfl (cT24 _) _ (fun w hb=>r_Base),fun L u=>u_callQ u (gd1 u 1 true rfl 9 rfl (lk rfl) rfl) 12 rfl rfl 23 #[(.tmp 11)] #[44] rfl [.val (.agg (pc (wG)).toArray)] rfl (fun vs w=>callFunc_enter Tryz.func23 (by kernel_rfl) (by kernel_rfl) vs w) (rdPd ((ptL wG).length) (ptL wG)) (fun β a w hr=>rEncP (hT.keep (Bs.kp_of hr.bl)) wG_on),fun L u=>u_callR u (gd1 u 1 true rfl 9 rfl (lk rfl) rfl) 13 rfl 11 #[(.tmp 10),(.tmp 12)] #[25,25] rfl [.unk 5 fstV,.unk 12 id] rfl (fun vs w=>callFunc_enter Tryz.func11 (by kernel_rfl) (by kernel_rfl) vs w) (Value.bool true) (fun β a w hr=>sameV (Nat.le_trans (ptL_len _) (by decide)) (fst_rd (hr.thing (x:=5) (u.q rfl))) (hr.thing (x:=12) (u.q rfl))),rfl,rfl,T0⟩ [(0,.val (Value.bool true))] [] (fun a w h=>?_)
 refine wp_ret ?_
 refine ret_slot h 0 rfl (lk rfl) (Value.bool true) rfl ?_
 exact ⟨rfl,h.grows⟩
end Go.Proofs.YtmigakanbeckpaaGreatDoor
namespace Go.Proofs.YtmigakanbeckpaaGreatDoor
open Go.RowKit
theorem ptB_x (X Y0:Int) {i:Nat} (h:i<32):ptB X Y0 (1+i)=bgB X i:=by
 unfold ptB cat
 rw [if_pos (by omega),if_neg (by omega),show 1+i-1=i by omega]
theorem ptB_y (X Y0:Int) (i:Nat):ptB X Y0 (33+i)=bgB Y0 i:=by
 unfold ptB cat
 rw [if_neg (by omega),show 33+i-33=i by omega]
theorem fl_get {f:Nat→Nat} {n i:Nat} (h:i<n):(fl f n).getD i 0=f i:=by
 rw [List.getD_eq_getElem?_getD,fl_at f h]
 rfl
theorem dec_ptL {w:World} (hT:Tab w) {a:Wp m0} (ha:a.on wb) (hne:a≠Wp.o) {v:Value} {F:Nat→Bool} (hv:(rdPd (ptL a).length (ptL a)).p v F w):∀ w1,Below w.heap.size w w1→Calls Tryz.prog 35 [v].toArray w1 fun e w'=>e=.returned (dpV (some a))∧Below w1.heap.size w1 w':=by
 cases a with
 | none=>exact absurd rfl hne
 | some q =>
  obtain ⟨x,y⟩:=q
  have el:(ptL (some (x,y))).length=65:=fl_len _ _
  rw [el] at hv
  obtain ⟨z,c,rfl,h2,_,h4,_⟩:=hv
  rcases h4.at_ with h0 | ⟨b,o,rfl,hr⟩
  ·cases h0
  have hg:∀ i,i<65→(ptL (some (x,y))).getD i 0=ptB (x.val:Int) (y.val:Int) i:=fun i hi=>fl_get hi
  have hU:BN (fun i=>(ptL (some (x,y))).getD i 0) 1 (x.val:Int):=⟨fin_num x,fun i hi=>by
   show _=(((ptL (some (x,y))).getD (1+(31-i)) 0:Nat):Int)
   rw [hg _ (by omega),ptB_x _ _ (by omega),bgB_int,show 31-(31-i)=i by omega]⟩
  have hV:BN (fun i=>(ptL (some (x,y))).getD i 0) 33 (y.val:Int):=⟨fin_num y,fun i hi=>by
   show _=(((ptL (some (x,y))).getD (33+(31-i)) 0:Nat):Int)
   rw [hg _ (by omega),ptB_y,bgB_int,show 31-(31-i)=i by omega]⟩
  intro w1 hb
  exact q_dec_F (hT.keep hb) (h4.keep hb) (hr.keep hb) h2 hU hV (by show (ptL (some (x,y))).getD 0 0=4;rw [hg 0 (by omega)];rfl) (fmd_some ha rfl)
theorem dec_sig {w:World} (hE:De.Tab w) {r s:Nat} (hr:r<2 ^ 256) (hs:s<2 ^ 256) {v:Value} {F:Nat→Bool} (hv:(rdPd (De.msz r+De.msz s+6) (De.dE r s)).p v F w):∀ w1,Below w.heap.size w w1→Calls Tryz.prog 36 [v].toArray w1 fun e w'=>e=.returned (.tuple [.agg (nc ((r:Nat):Int)).toArray,.agg (nc ((s:Nat):Int)).toArray,.bool true].toArray)∧Below w1.heap.size w1 w':=by
 obtain ⟨z,c,rfl,h2,h3,h4,_⟩:=hv
 have b1:=(De.msz_spec hr).2.2.2
 have b2:=(De.msz_spec hs).2.2.2
 have hf:=(De.fl_getD h3).symm
 have hp:=De.pair_no hr hs hf
 have e2:=De.ddec_of (De.nV_lt (fun i=>(De.dE r s).getD (2+i) 0)) (De.nV_lt (fun i=>(De.dE r s).getD (4+(De.dE r s).getD 3 0+i) 0))
 rw [De.pair_yes hp,← hf,De.ddec_of hr hs] at e2
 have e3:=Option.some.inj e2
 intro w1 hb
 exact De.dec_some (h4.keep hb) (hE.keep hb) h2 (by omega) hp (congrArg Prod.fst e3).symm (congrArg Prod.snd e3).symm
theorem dec_pt {w:World} (hT:Tab w) {x y:Fin m0} {a:Wp m0} (ha:a.on wb) (hxy:a=some (x,y)) {v:Value} {F:Nat→Bool} (hv:(rdPd (ptL a).length (ptL a)).p v F w):∀ w1,Below w.heap.size w w1→Calls Tryz.prog 35 [v].toArray w1 fun e w'=>e=.returned (.tuple [.agg (fc (x)++fc (y)++[Value.bool false]).toArray,.bool true].toArray)∧Below w1.heap.size w1 w':=by
 have q:=dec_ptL hT ha (by rw [hxy];exact nofun) hv
 subst hxy
 exact q
theorem ver_y {w:World} (hT:Tab w) (hH:Sh.Tab w) (hE:De.Tab w) {n c:Nat} {z:Option Addr} {f:Nat→Nat} (hba:BA w z n f) (hc:n≤c) (hcm:c≤maxLen) (hn:n≤800000) {a:Wp m0} (ha:a.on wb) (hne:a≠Wp.o) {r s:Nat} (hr:wi r=true) (hs:wi s=true) {v1 v3:Value} {F1 F3:Nat→Bool} (h1:(rdPd (ptL a).length (ptL a)).p v1 F1 w) (h3:(rdPd (De.msz r+De.msz s+6) (De.dE r s)).p v3 F3 w):Calls Tryz.prog 14 [v1,Value.slice (z) (n) (c),v3].toArray w fun e w'=>e=.returned (.bool (rgt a (zN f n) r s))∧Below w.heap.size w w':=by
 obtain ⟨x,y,hxy⟩:∃ x y,a=some (x,y):=by
  cases a with
  | none=>exact absurd rfl hne
  | some q=>exact ⟨q.1,q.2,rfl⟩
 have hP:=dec_pt hT ha hxy h1
 have hS:=dec_sig hE (wi_lt hr) (wi_lt hs) h3
 obtain ⟨z1,c1,rfl,_⟩:=h1
 obtain ⟨z3,c3,rfl,_⟩:=h3
 exact qVer_y hT (wi_lt hr) (wi_lt hs) hP hS hH hba hc hcm hn ha hxy hr hs
end Go.Proofs.YtmigakanbeckpaaGreatDoor
namespace Go.Proofs.YtmigakanbeckpaaGreatDoor
set_option maxRecDepth 100000
open Go.RowKit
attribute [local go_sem ↓] Go.wp_at_zero Go.wp_at_succ
def cb (a b:Int) (k:Nat):Bool:=C a b k == 1
theorem cb_zero (a b:Int):cb a b 0=false:=by unfold cb;rw [C_zero];rfl
theorem ref_add_0 (a b:Int) (k:Nat) (h:cb a b k=false):IntKind.u64.wrap (L k a+L k b)=L k (a+b):=by
 have c1:=C_lo a b k
 have c2:=C_hi a b k
 have hc:C a b k=0:=by unfold cb at h;simp at h;omega
 have e:=add_word a b k
 rw [hc,Int.add_zero] at e
 rw [IntKind.wrap_u64,e]
theorem ref_add_1 (a b:Int) (k:Nat) (h:cb a b k=true):IntKind.u64.wrap (IntKind.u64.wrap (L k a+L k b)+1)=L k (a+b):=by
 have hc:C a b k=1:=by unfold cb at h;simpa using h
 have e:=add_word a b k
 rw [hc] at e
 rw [IntKind.wrap_u64,IntKind.wrap_u64,← e]
 omega
theorem ref_add_o0 (a b:Int) (k:Nat) (h:cb a b k=false):decide (L k (a+b)<L k a)=cb a b (k+1):=by
 have c1:=C_lo a b k
 have c2:=C_hi a b k
 have hc:C a b k=0:=by unfold cb at h;simp at h;omega
 have e:=add_word a b k
 have f:=add_carry a b k
 have a1:=L_lo k a
 have a2:=L_hi k a
 have b1:=L_lo k b
 have b2:=L_hi k b
 rw [hc] at e f
 unfold cb
 rw [← f,← e,Bool.eq_iff_iff]
 simp only [decide_eq_true_eq,beq_iff_eq]
 omega
theorem ref_add_o1 (a b:Int) (k:Nat) (h:cb a b k=true):(decide (IntKind.u64.wrap (L k a+L k b)<L k a) || (L k (a+b) == 0))=cb a b (k+1):=by
 have hc:C a b k=1:=by unfold cb at h;simpa using h
 have e:=add_word a b k
 have f:=add_carry a b k
 have a1:=L_lo k a
 have a2:=L_hi k a
 have b1:=L_lo k b
 have b2:=L_hi k b
 rw [hc] at e f
 unfold cb
 rw [← f,← e,IntKind.wrap_u64,Bool.eq_iff_iff]
 simp only [decide_eq_true_eq,beq_iff_eq,Bool.or_eq_true]
 omega
theorem ref_add_walk (a b:Int) (w:World) :
  Calls Tryz.prog 81 #[.agg #[.int .u64 (L 0 a),.int .u64 (L 1 a),.int .u64 (L 2 a),.int .u64 (L 3 a)],.agg #[.int .u64 (L 0 b),.int .u64 (L 1 b),.int .u64 (L 2 b),.int .u64 (L 3 b)]] w fun e w' =>
   e=.returned (.tuple #[.agg #[.int .u64 (L 0 (a+b)),.int .u64 (L 1 (a+b)),.int .u64 (L 2 (a+b)),.int .u64 (L 3 (a+b))],.bool (cb a b 4)])∧Below w.heap.size w w':=by
 go_enter Tryz.func81,Tryz.ntmps81
 go_wp2
 go_loopw [7,8] (fun s7 s8 w'=>(s8=.int .i64 0∧s7=.bool false∧∃ n,w'=((((w.alloc (.cells #[.int .u64 (L 0 a),.int .u64 (L 1 a),.int .u64 (L 2 a),.int .u64 (L 3 a)] 24)).alloc (.cells #[.int .u64 (L 0 b),.int .u64 (L 1 b),.int .u64 (L 2 b),.int .u64 (L 3 b)] 24)).alloc (.cells #[.int .u64 0,.int .u64 0,.int .u64 0,.int .u64 0] 24)).alloc (.cells #[.int .u64 0,.int .u64 0,.int .u64 0,.int .u64 0] 24)).drewN n)∨(s8=.int .i64 1∧s7=.bool (cb a b 1)∧∃ n,w'=((((w.alloc (.cells #[.int .u64 (L 0 a),.int .u64 (L 1 a),.int .u64 (L 2 a),.int .u64 (L 3 a)] 24)).alloc (.cells #[.int .u64 (L 0 b),.int .u64 (L 1 b),.int .u64 (L 2 b),.int .u64 (L 3 b)] 24)).alloc (.cells #[.int .u64 0,.int .u64 0,.int .u64 0,.int .u64 0] 24)).alloc (.cells #[.int .u64 (L 0 (a+b)),.int .u64 0,.int .u64 0,.int .u64 0] 24)).drewN n)∨(s8=.int .i64 2∧s7=.bool (cb a b 2)∧∃ n,w'=((((w.alloc (.cells #[.int .u64 (L 0 a),.int .u64 (L 1 a),.int .u64 (L 2 a),.int .u64 (L 3 a)] 24)).alloc (.cells #[.int .u64 (L 0 b),.int .u64 (L 1 b),.int .u64 (L 2 b),.int .u64 (L 3 b)] 24)).alloc (.cells #[.int .u64 0,.int .u64 0,.int .u64 0,.int .u64 0] 24)).alloc (.cells #[.int .u64 (L 0 (a+b)),.int .u64 (L 1 (a+b)),.int .u64 0,.int .u64 0] 24)).drewN n)∨(s8=.int .i64 3∧s7=.bool (cb a b 3)∧∃ n,w'=((((w.alloc (.cells #[.int .u64 (L 0 a),.int .u64 (L 1 a),.int .u64 (L 2 a),.int .u64 (L 3 a)] 24)).alloc (.cells #[.int .u64 (L 0 b),.int .u64 (L 1 b),.int .u64 (L 2 b),.int .u64 (L 3 b)] 24)).alloc (.cells #[.int .u64 0,.int .u64 0,.int .u64 0,.int .u64 0] 24)).alloc (.cells #[.int .u64 (L 0 (a+b)),.int .u64 (L 1 (a+b)),.int .u64 (L 2 (a+b)),.int .u64 0] 24)).drewN n)∨(s8=.int .i64 4∧s7=.bool (cb a b 4)∧∃ n,w'=((((w.alloc (.cells #[.int .u64 (L 0 a),.int .u64 (L 1 a),.int .u64 (L 2 a),.int .u64 (L 3 a)] 24)).alloc (.cells #[.int .u64 (L 0 b),.int .u64 (L 1 b),.int .u64 (L 2 b),.int .u64 (L 3 b)] 24)).alloc (.cells #[.int .u64 0,.int .u64 0,.int .u64 0,.int .u64 0] 24)).alloc (.cells #[.int .u64 (L 0 (a+b)),.int .u64 (L 1 (a+b)),.int .u64 (L 2 (a+b)),.int .u64 (L 3 (a+b))] 24)).drewN n)) (fun _ s8 _=>4-(intOf s8).toNat)
 case atStart=>exact Or.inl ⟨rfl,rfl,0,rfl⟩
 case round =>
  rcases hrel with ⟨rfl,rfl,n,rfl⟩ | ⟨rfl,rfl,n,rfl⟩ | ⟨rfl,rfl,n,rfl⟩ | ⟨rfl,rfl,n,rfl⟩ | ⟨rfl,rfl,n,rfl⟩
  ·have q1:=ref_add_0 a b 0 (cb_zero a b)
   have q2:decide (L 0 (a+b)<L 0 a)=cb a b 1:=ref_add_o0 a b 0 (cb_zero a b)
   go_wp2
   go_quiet (fail)
   go_wp2
   exact ⟨Or.inr (Or.inl ⟨rfl,(by first | rfl | exact congrArg Value.bool q3.symm),n+nq,set_out (by simp) _ _ _ _ _⟩),by simp [intOf]⟩
  ·cases hcb:cb a b 1
   ·have q1:=ref_add_0 a b 1 hcb
    have q2:decide (L 1 (a+b)<L 1 a)=cb a b 2:=ref_add_o0 a b 1 hcb
    go_wp2
    go_quiet (fail)
    go_wp2
    exact ⟨Or.inr (Or.inr (Or.inl ⟨rfl,(by first | rfl | exact congrArg Value.bool q3.symm),n+nq,set_out (by simp) _ _ _ _ _⟩)),by simp [intOf]⟩
   ·have q1:=ref_add_1 a b 1 hcb
    have q2:=ref_add_o1 a b 1 hcb
    by_cases o:IntKind.u64.wrap (L 1 a+L 1 b)<L 1 a
    ·have q3:cb a b 2=true:=by rw [← q2];simp [o]
     clear q2
     go_wp2
     go_quiet (fail)
     go_wp2
     exact ⟨Or.inr (Or.inr (Or.inl ⟨rfl,(by first | rfl | exact congrArg Value.bool q3.symm),n+nq,set_out (by simp) _ _ _ _ _⟩)),by simp [intOf]⟩
    ·have o2:decide (IntKind.u64.wrap (L 1 a+L 1 b)<L 1 a)=false:=by simpa using o
     have q3:(L 1 (a+b) == 0)=cb a b 2:=by rw [o2,Bool.false_or] at q2;exact q2
     clear q2
     go_wp2
     go_quiet (fail)
     go_wp2
     exact ⟨Or.inr (Or.inr (Or.inl ⟨rfl,(by first | rfl | exact congrArg Value.bool q3.symm),n+nq,set_out (by simp) _ _ _ _ _⟩)),by simp [intOf]⟩
  ·cases hcb:cb a b 2
   ·have q1:=ref_add_0 a b 2 hcb
    have q2:decide (L 2 (a+b)<L 2 a)=cb a b 3:=ref_add_o0 a b 2 hcb
    go_wp2
    go_quiet (fail)
    go_wp2
    exact ⟨Or.inr (Or.inr (Or.inr (Or.inl ⟨rfl,(by first | rfl | exact congrArg Value.bool q3.symm),n+nq,set_out (by simp) _ _ _ _ _⟩))),by simp [intOf]⟩
   ·have q1:=ref_add_1 a b 2 hcb
    have q2:=ref_add_o1 a b 2 hcb
    by_cases o:IntKind.u64.wrap (L 2 a+L 2 b)<L 2 a
    ·have q3:cb a b 3=true:=by rw [← q2];simp [o]
     clear q2
     go_wp2
     go_quiet (fail)
     go_wp2
     exact ⟨Or.inr (Or.inr (Or.inr (Or.inl ⟨rfl,(by first | rfl | exact congrArg Value.bool q3.symm),n+nq,set_out (by simp) _ _ _ _ _⟩))),by simp [intOf]⟩
    ·have o2:decide (IntKind.u64.wrap (L 2 a+L 2 b)<L 2 a)=false:=by simpa using o
     have q3:(L 2 (a+b) == 0)=cb a b 3:=by rw [o2,Bool.false_or] at q2;exact q2
     clear q2
     go_wp2
     go_quiet (fail)
     go_wp2
     exact ⟨Or.inr (Or.inr (Or.inr (Or.inl ⟨rfl,(by first | rfl | exact congrArg Value.bool q3.symm),n+nq,set_out (by simp) _ _ _ _ _⟩))),by simp [intOf]⟩
  ·cases hcb:cb a b 3
   ·have q1:=ref_add_0 a b 3 hcb
    have q2:decide (L 3 (a+b)<L 3 a)=cb a b 4:=ref_add_o0 a b 3 hcb
    go_wp2
    go_quiet (fail)
    go_wp2
    exact ⟨Or.inr (Or.inr (Or.inr (Or.inr (⟨rfl,(by first | rfl | exact congrArg Value.bool q3.symm),n+nq,set_out (by simp) _ _ _ _ _⟩)))),by simp [intOf]⟩
   ·have q1:=ref_add_1 a b 3 hcb
    have q2:=ref_add_o1 a b 3 hcb
    by_cases o:IntKind.u64.wrap (L 3 a+L 3 b)<L 3 a
    ·have q3:cb a b 4=true:=by rw [← q2];simp [o]
     clear q2
     go_wp2
     go_quiet (fail)
     go_wp2
     exact ⟨Or.inr (Or.inr (Or.inr (Or.inr (⟨rfl,(by first | rfl | exact congrArg Value.bool q3.symm),n+nq,set_out (by simp) _ _ _ _ _⟩)))),by simp [intOf]⟩
    ·have o2:decide (IntKind.u64.wrap (L 3 a+L 3 b)<L 3 a)=false:=by simpa using o
     have q3:(L 3 (a+b) == 0)=cb a b 4:=by rw [o2,Bool.false_or] at q2;exact q2
     clear q2
     go_wp2
     go_quiet (fail)
     go_wp2
     exact ⟨Or.inr (Or.inr (Or.inr (Or.inr (⟨rfl,(by first | rfl | exact congrArg Value.bool q3.symm),n+nq,set_out (by simp) _ _ _ _ _⟩)))),by simp [intOf]⟩
  ·go_wp2
   go_returns
   refine ⟨rfl,?_⟩
   repeat' (first | (with_reducible exact Below.refl _ _) | (with_reducible refine K.drewN ?_ _) | (with_reducible refine K.drew ?_) | (with_reducible refine K.alloc ?_ _) | (with_reducible refine K.set ?_ ?_ _) | (simp;done) | (simp;omega))
end Go.Proofs.YtmigakanbeckpaaGreatDoor
namespace Go.Proofs.YtmigakanbeckpaaGreatDoor
set_option maxRecDepth 100000
open Go.RowKit
attribute [local go_sem ↓] Go.wp_at_zero Go.wp_at_succ
def db (a b:Int) (k:Nat):Bool:=D a b k == 1
theorem db_zero (a b:Int):db a b 0=false:=by unfold db;rw [D_zero];rfl
theorem db_f {a b:Int} {k:Nat} (h:db a b k=false):D a b k=0:=by
 have c1:=D_lo a b k
 have c2:=D_hi a b k
 unfold db at h;simp at h;omega
theorem db_t {a b:Int} {k:Nat} (h:db a b k=true):D a b k=1:=by unfold db at h;simpa using h
theorem ref_sub_0 (a b:Int) (k:Nat) (h:db a b k=false):IntKind.u64.wrap (L k a-L k b)=L k (a-b):=by
 have e:=sub_word a b k
 rw [db_f h,Int.sub_zero] at e
 rw [IntKind.wrap_u64,e]
theorem ref_sub_1 (a b:Int) (k:Nat) (h:db a b k=true):IntKind.u64.wrap (IntKind.u64.wrap (L k a-L k b)-1)=L k (a-b):=by
 have e:=sub_word a b k
 rw [db_t h] at e
 rw [IntKind.wrap_u64,IntKind.wrap_u64,← e]
 omega
theorem ref_sub_o0 (a b:Int) (k:Nat) (h:db a b k=false):decide (L k a<L k b)=db a b (k+1):=by
 have f:=sub_carry a b k
 rw [db_f h,Int.add_zero] at f
 unfold db
 rw [← f,Bool.eq_iff_iff]
 simp only [decide_eq_true_eq,beq_iff_eq]
 split <;> omega
theorem ref_sub_o1 (a b:Int) (k:Nat) (h:db a b k=true):(decide (L k a<L k b) || (IntKind.u64.wrap (L k a-L k b) == 0))=db a b (k+1):=by
 have f:=sub_carry a b k
 have a1:=L_lo k a
 have a2:=L_hi k a
 have b1:=L_lo k b
 have b2:=L_hi k b
 rw [db_t h] at f
 unfold db
 rw [← f,IntKind.wrap_u64,Bool.eq_iff_iff]
 simp only [decide_eq_true_eq,beq_iff_eq,Bool.or_eq_true]
 split <;> omega
theorem ref_sub_walk (a b:Int) (w:World) :
  Calls Tryz.prog 44 #[.agg #[.int .u64 (L 0 a),.int .u64 (L 1 a),.int .u64 (L 2 a),.int .u64 (L 3 a)],.agg #[.int .u64 (L 0 b),.int .u64 (L 1 b),.int .u64 (L 2 b),.int .u64 (L 3 b)]] w fun e w' =>
   e=.returned (.tuple #[.agg #[.int .u64 (L 0 (a-b)),.int .u64 (L 1 (a-b)),.int .u64 (L 2 (a-b)),.int .u64 (L 3 (a-b))],.bool (db a b 4)])∧Below w.heap.size w w':=by
 go_enter Tryz.func44,Tryz.ntmps44
 go_wp2
 go_loopw [7,8] (fun s7 s8 w'=>(s8=.int .i64 0∧s7=.bool false∧∃ n,w'=((((w.alloc (.cells #[.int .u64 (L 0 a),.int .u64 (L 1 a),.int .u64 (L 2 a),.int .u64 (L 3 a)] 24)).alloc (.cells #[.int .u64 (L 0 b),.int .u64 (L 1 b),.int .u64 (L 2 b),.int .u64 (L 3 b)] 24)).alloc (.cells #[.int .u64 0,.int .u64 0,.int .u64 0,.int .u64 0] 24)).alloc (.cells #[.int .u64 0,.int .u64 0,.int .u64 0,.int .u64 0] 24)).drewN n)∨(s8=.int .i64 1∧s7=.bool (db a b 1)∧∃ n,w'=((((w.alloc (.cells #[.int .u64 (L 0 a),.int .u64 (L 1 a),.int .u64 (L 2 a),.int .u64 (L 3 a)] 24)).alloc (.cells #[.int .u64 (L 0 b),.int .u64 (L 1 b),.int .u64 (L 2 b),.int .u64 (L 3 b)] 24)).alloc (.cells #[.int .u64 0,.int .u64 0,.int .u64 0,.int .u64 0] 24)).alloc (.cells #[.int .u64 (L 0 (a-b)),.int .u64 0,.int .u64 0,.int .u64 0] 24)).drewN n)∨(s8=.int .i64 2∧s7=.bool (db a b 2)∧∃ n,w'=((((w.alloc (.cells #[.int .u64 (L 0 a),.int .u64 (L 1 a),.int .u64 (L 2 a),.int .u64 (L 3 a)] 24)).alloc (.cells #[.int .u64 (L 0 b),.int .u64 (L 1 b),.int .u64 (L 2 b),.int .u64 (L 3 b)] 24)).alloc (.cells #[.int .u64 0,.int .u64 0,.int .u64 0,.int .u64 0] 24)).alloc (.cells #[.int .u64 (L 0 (a-b)),.int .u64 (L 1 (a-b)),.int .u64 0,.int .u64 0] 24)).drewN n)∨(s8=.int .i64 3∧s7=.bool (db a b 3)∧∃ n,w'=((((w.alloc (.cells #[.int .u64 (L 0 a),.int .u64 (L 1 a),.int .u64 (L 2 a),.int .u64 (L 3 a)] 24)).alloc (.cells #[.int .u64 (L 0 b),.int .u64 (L 1 b),.int .u64 (L 2 b),.int .u64 (L 3 b)] 24)).alloc (.cells #[.int .u64 0,.int .u64 0,.int .u64 0,.int .u64 0] 24)).alloc (.cells #[.int .u64 (L 0 (a-b)),.int .u64 (L 1 (a-b)),.int .u64 (L 2 (a-b)),.int .u64 0] 24)).drewN n)∨(s8=.int .i64 4∧s7=.bool (db a b 4)∧∃ n,w'=((((w.alloc (.cells #[.int .u64 (L 0 a),.int .u64 (L 1 a),.int .u64 (L 2 a),.int .u64 (L 3 a)] 24)).alloc (.cells #[.int .u64 (L 0 b),.int .u64 (L 1 b),.int .u64 (L 2 b),.int .u64 (L 3 b)] 24)).alloc (.cells #[.int .u64 0,.int .u64 0,.int .u64 0,.int .u64 0] 24)).alloc (.cells #[.int .u64 (L 0 (a-b)),.int .u64 (L 1 (a-b)),.int .u64 (L 2 (a-b)),.int .u64 (L 3 (a-b))] 24)).drewN n)) (fun _ s8 _=>4-(intOf s8).toNat)
 case atStart=>exact Or.inl ⟨rfl,rfl,0,rfl⟩
 case round =>
  rcases hrel with ⟨rfl,rfl,n,rfl⟩ | ⟨rfl,rfl,n,rfl⟩ | ⟨rfl,rfl,n,rfl⟩ | ⟨rfl,rfl,n,rfl⟩ | ⟨rfl,rfl,n,rfl⟩
  ·have q1:=ref_sub_0 a b 0 (db_zero a b)
   have q2:decide (L 0 a<L 0 b)=db a b 1:=ref_sub_o0 a b 0 (db_zero a b)
   go_wp2
   go_quiet (fail)
   go_wp2
   go_quiet (fail)
   go_wp2
   exact ⟨Or.inr (Or.inl ⟨rfl,(by first | rfl | exact congrArg Value.bool q3.symm),_,set_out (by simp) _ _ _ _ _⟩),by simp [intOf]⟩
  ·cases hcb:db a b 1
   ·have q1:=ref_sub_0 a b 1 hcb
    have q2:decide (L 1 a<L 1 b)=db a b 2:=ref_sub_o0 a b 1 hcb
    go_wp2
    go_quiet (fail)
    go_wp2
    go_quiet (fail)
    go_wp2
    exact ⟨Or.inr (Or.inr (Or.inl ⟨rfl,(by first | rfl | exact congrArg Value.bool q3.symm),_,set_out (by simp) _ _ _ _ _⟩)),by simp [intOf]⟩
   ·have q1:=ref_sub_1 a b 1 hcb
    have q2:=ref_sub_o1 a b 1 hcb
    by_cases o:L 1 a<L 1 b
    ·have q3:db a b 2=true:=by rw [← q2];simp [o]
     clear q2
     go_wp2
     go_quiet (fail)
     go_wp2
     go_quiet (fail)
     go_wp2
     exact ⟨Or.inr (Or.inr (Or.inl ⟨rfl,(by first | rfl | exact congrArg Value.bool q3.symm),_,set_out (by simp) _ _ _ _ _⟩)),by simp [intOf]⟩
    ·have o2:decide (L 1 a<L 1 b)=false:=by simpa using o
     have q3:(IntKind.u64.wrap (L 1 a-L 1 b) == 0)=db a b 2:=by rw [o2,Bool.false_or] at q2;exact q2
     clear q2
     go_wp2
     go_quiet (fail)
     go_wp2
     go_quiet (fail)
     go_wp2
     exact ⟨Or.inr (Or.inr (Or.inl ⟨rfl,(by first | rfl | exact congrArg Value.bool q3.symm),_,set_out (by simp) _ _ _ _ _⟩)),by simp [intOf]⟩
  ·cases hcb:db a b 2
   ·have q1:=ref_sub_0 a b 2 hcb
    have q2:decide (L 2 a<L 2 b)=db a b 3:=ref_sub_o0 a b 2 hcb
    go_wp2
    go_quiet (fail)
    go_wp2
    go_quiet (fail)
    go_wp2
    exact ⟨Or.inr (Or.inr (Or.inr (Or.inl ⟨rfl,(by first | rfl | exact congrArg Value.bool q3.symm),_,set_out (by simp) _ _ _ _ _⟩))),by simp [intOf]⟩
   ·have q1:=ref_sub_1 a b 2 hcb
    have q2:=ref_sub_o1 a b 2 hcb
    by_cases o:L 2 a<L 2 b
    ·have q3:db a b 3=true:=by rw [← q2];simp [o]
     clear q2
     go_wp2
     go_quiet (fail)
     go_wp2
     go_quiet (fail)
     go_wp2
     exact ⟨Or.inr (Or.inr (Or.inr (Or.inl ⟨rfl,(by first | rfl | exact congrArg Value.bool q3.symm),_,set_out (by simp) _ _ _ _ _⟩))),by simp [intOf]⟩
    ·have o2:decide (L 2 a<L 2 b)=false:=by simpa using o
     have q3:(IntKind.u64.wrap (L 2 a-L 2 b) == 0)=db a b 3:=by rw [o2,Bool.false_or] at q2;exact q2
     clear q2
     go_wp2
     go_quiet (fail)
     go_wp2
     go_quiet (fail)
     go_wp2
     exact ⟨Or.inr (Or.inr (Or.inr (Or.inl ⟨rfl,(by first | rfl | exact congrArg Value.bool q3.symm),_,set_out (by simp) _ _ _ _ _⟩))),by simp [intOf]⟩
  ·cases hcb:db a b 3
   ·have q1:=ref_sub_0 a b 3 hcb
    have q2:decide (L 3 a<L 3 b)=db a b 4:=ref_sub_o0 a b 3 hcb
    go_wp2
    go_quiet (fail)
    go_wp2
    go_quiet (fail)
    go_wp2
    exact ⟨Or.inr (Or.inr (Or.inr (Or.inr (⟨rfl,(by first | rfl | exact congrArg Value.bool q3.symm),_,set_out (by simp) _ _ _ _ _⟩)))),by simp [intOf]⟩
   ·have q1:=ref_sub_1 a b 3 hcb
    have q2:=ref_sub_o1 a b 3 hcb
    by_cases o:L 3 a<L 3 b
    ·have q3:db a b 4=true:=by rw [← q2];simp [o]
     clear q2
     go_wp2
     go_quiet (fail)
     go_wp2
     go_quiet (fail)
     go_wp2
     exact ⟨Or.inr (Or.inr (Or.inr (Or.inr (⟨rfl,(by first | rfl | exact congrArg Value.bool q3.symm),_,set_out (by simp) _ _ _ _ _⟩)))),by simp [intOf]⟩
    ·have o2:decide (L 3 a<L 3 b)=false:=by simpa using o
     have q3:(IntKind.u64.wrap (L 3 a-L 3 b) == 0)=db a b 4:=by rw [o2,Bool.false_or] at q2;exact q2
     clear q2
     go_wp2
     go_quiet (fail)
     go_wp2
     go_quiet (fail)
     go_wp2
     exact ⟨Or.inr (Or.inr (Or.inr (Or.inr (⟨rfl,(by first | rfl | exact congrArg Value.bool q3.symm),_,set_out (by simp) _ _ _ _ _⟩)))),by simp [intOf]⟩
  ·go_wp2
   go_returns
   refine ⟨rfl,?_⟩
   repeat' (first | (with_reducible exact Below.refl _ _) | (with_reducible refine K.drewN ?_ _) | (with_reducible refine K.drew ?_) | (with_reducible refine K.alloc ?_ _) | (with_reducible refine K.set ?_ ?_ _) | (simp;done) | (simp;omega))
theorem ref_add_any {a b:Int} (ha:Num a) (hb:Num b) (w:World) :
  Calls Tryz.prog 81 #[.agg #[.int .u64 (L 0 a),.int .u64 (L 1 a),.int .u64 (L 2 a),.int .u64 (L 3 a)],.agg #[.int .u64 (L 0 b),.int .u64 (L 1 b),.int .u64 (L 2 b),.int .u64 (L 3 b)]] w fun e w' =>
   e=.returned (.tuple #[.agg #[.int .u64 (L 0 (a+b)),.int .u64 (L 1 (a+b)),.int .u64 (L 2 (a+b)),.int .u64 (L 3 (a+b))],.bool (over a b)])∧Below w.heap.size w w':=by
 rw [← C_four ha hb];exact ref_add_walk a b w
theorem ref_sub_any {a b:Int} (ha:Num a) (hb:Num b) (w:World) :
  Calls Tryz.prog 44 #[.agg #[.int .u64 (L 0 a),.int .u64 (L 1 a),.int .u64 (L 2 a),.int .u64 (L 3 a)],.agg #[.int .u64 (L 0 b),.int .u64 (L 1 b),.int .u64 (L 2 b),.int .u64 (L 3 b)]] w fun e w' =>
   e=.returned (.tuple #[.agg #[.int .u64 (L 0 (a-b)),.int .u64 (L 1 (a-b)),.int .u64 (L 2 (a-b)),.int .u64 (L 3 (a-b))],.bool (under a b)])∧Below w.heap.size w w':=by
 rw [← D_four ha hb];exact ref_sub_walk a b w
end Go.Proofs.YtmigakanbeckpaaGreatDoor
namespace Go.Proofs.YtmigakanbeckpaaGreatDoor
set_option maxRecDepth 100000
open Go.RowKit
attribute [local go_sem ↓] Go.wp_at_zero Go.wp_at_succ
theorem ref_plus_any {m a b:Int} (hm:Num m) (ha:0≤a) (ha2:a<m) (hb:0≤b) (hb2:b<m) (w:World) :
  Calls Tryz.prog 45 #[.agg #[.int .u64 (L 0 m),.int .u64 (L 1 m),.int .u64 (L 2 m),.int .u64 (L 3 m)],.agg #[.int .u64 (L 0 a),.int .u64 (L 1 a),.int .u64 (L 2 a),.int .u64 (L 3 a)],.agg #[.int .u64 (L 0 b),.int .u64 (L 1 b),.int .u64 (L 2 b),.int .u64 (L 3 b)]] w fun e w'=>e=.returned (.agg #[.int .u64 (L 0 ((a+b) % m)),.int .u64 (L 1 ((a+b) % m)),.int .u64 (L 2 ((a+b) % m)),.int .u64 (L 3 ((a+b) % m))])∧Below w.heap.size w w':=by
 have na:Num a:=⟨ha,by have:=hm.hi;omega⟩
 have nb:Num b:=⟨hb,by have:=hm.hi;omega⟩
 have hmh:=hm.hi
 by_cases o:M≤a+b
 ·have ho:over a b=true:=by unfold over;simpa using o
  have hr:(a+b) % m=a+b-m:=mod_once (by omega) (by omega)
  rw [hr]
  clear hr o hmh
  go_enter Tryz.func45,Tryz.ntmps45
  go_wp2_with fail
  with_reducible refine Calls.mono (ref_add_any na nb _) ?_
  rw [ho]
  rintro e w1 ⟨rfl,hb1⟩
  have A1:=(((Arr.new w (w.heap.size) rfl 24 (L 0 m) (L 1 m) (L 2 m) (L 3 m)).alloc _).alloc _).alloc _ |>.keep hb1
  have R1:=(ArrW.new _ (w.heap.size+1+1+1) (by simp) 24 0 0 0 0).keep hb1
  have hw1:Below w.heap.size w w1:=K.call (K.alloc (K.alloc (K.alloc (K.alloc (Below.refl _ w) _) _) _) _) hb1
  clear hb1
  have ⟨ka,ka0,ka1,ka2,ka3⟩:=A1
  have ⟨kr,kr0,kr1,kr2,kr3,kf0,kf1,kf2,kf3⟩:=R1
  go_wp2_with fail
  with_reducible refine Calls.mono (ref_sub_walk (a+b) m _) ?_
  clear ka ka0 ka1 ka2 ka3 kr kr0 kr1 kr2 kr3 kf0 kf1 kf2 kf3
  rintro e w3 ⟨rfl,hb3⟩
  have hw3:Below w.heap.size w w3:=K.call (K.alloc hw1 _) hb3
  have ⟨kr,kr0,kr1,kr2,kr3,kf0,kf1,kf2,kf3⟩:=(R1.alloc _).keep hb3
  clear hb3
  go_wp2_with fail
  exact bodyPost_ret (v:=.agg #[.int .u64 (L 0 (a+b-m)),.int .u64 (L 1 (a+b-m)),.int .u64 (L 2 (a+b-m)),.int .u64 (L 3 (a+b-m))]) (by simp [results,Tryz.results45,go_sem,kr,kr0,kr1,kr2,kr3]) rfl ⟨rfl,K.alloc (K.set4 hw3 (by omega) _ _ _ _) _⟩
 ·have ho:over a b=false:=by unfold over;simpa using o
  have ns:Num (a+b):=⟨by omega,by omega⟩
  by_cases l:a+b<m
  ·have hr:(a+b) % m=a+b:=mod_low (by omega) l
   rw [hr]
   clear hr o hmh
   go_enter Tryz.func45,Tryz.ntmps45
   go_wp2_with fail
   with_reducible refine Calls.mono (ref_add_any na nb _) ?_
   rw [ho]
   rintro e w1 ⟨rfl,hb1⟩
   have A1:=(((Arr.new w (w.heap.size) rfl 24 (L 0 m) (L 1 m) (L 2 m) (L 3 m)).alloc _).alloc _).alloc _ |>.keep hb1
   have R1:=(ArrW.new _ (w.heap.size+1+1+1) (by simp) 24 0 0 0 0).keep hb1
   have hw1:Below w.heap.size w w1:=K.call (K.alloc (K.alloc (K.alloc (K.alloc (Below.refl _ w) _) _) _) _) hb1
   clear hb1
   have ⟨ka,ka0,ka1,ka2,ka3⟩:=A1
   have ⟨kr,kr0,kr1,kr2,kr3,kf0,kf1,kf2,kf3⟩:=R1
   go_wp2_with fail
   with_reducible refine Calls.mono (less_true ns hm (by omega) _) ?_
   clear ka ka0 ka1 ka2 ka3 kr kr0 kr1 kr2 kr3 kf0 kf1 kf2 kf3
   rintro e w2 ⟨rfl,hb2⟩
   have A2:=(A1.alloc _).keep hb2
   have R2:=(R1.alloc _).keep hb2
   have S2:=(Arr.new w1 w1.heap.size rfl 24 (L 0 (a+b)) (L 1 (a+b)) (L 2 (a+b)) (L 3 (a+b))).keep hb2
   have hw2:Below w.heap.size w w2:=K.call (K.alloc hw1 _) hb2
   clear A1 R1 hb2 hw1
   have ⟨ka,ka0,ka1,ka2,ka3⟩:=A2
   have ⟨ks,ks0,ks1,ks2,ks3⟩:=S2
   have ⟨kr,kr0,kr1,kr2,kr3,kf0,kf1,kf2,kf3⟩:=R2
   go_wp2_with fail
   exact bodyPost_ret (v:=.agg #[.int .u64 (L 0 (a+b)),.int .u64 (L 1 (a+b)),.int .u64 (L 2 (a+b)),.int .u64 (L 3 (a+b))]) (by simp [results,Tryz.results45,go_sem,kr0,kr1,kr2,kr3]) rfl ⟨rfl,K.set4 hw2 (by omega) _ _ _ _⟩
  ·have hr:(a+b) % m=a+b-m:=mod_once (by omega) (by omega)
   rw [hr]
   clear hr o hmh
   go_enter Tryz.func45,Tryz.ntmps45
   go_wp2_with fail
   with_reducible refine Calls.mono (ref_add_any na nb _) ?_
   rw [ho]
   rintro e w1 ⟨rfl,hb1⟩
   have A1:=(((Arr.new w (w.heap.size) rfl 24 (L 0 m) (L 1 m) (L 2 m) (L 3 m)).alloc _).alloc _).alloc _ |>.keep hb1
   have R1:=(ArrW.new _ (w.heap.size+1+1+1) (by simp) 24 0 0 0 0).keep hb1
   have hw1:Below w.heap.size w w1:=K.call (K.alloc (K.alloc (K.alloc (K.alloc (Below.refl _ w) _) _) _) _) hb1
   clear hb1
   have ⟨ka,ka0,ka1,ka2,ka3⟩:=A1
   have ⟨kr,kr0,kr1,kr2,kr3,kf0,kf1,kf2,kf3⟩:=R1
   go_wp2_with fail
   with_reducible refine Calls.mono (less_false ns hm (by omega) _) ?_
   clear ka ka0 ka1 ka2 ka3 kr kr0 kr1 kr2 kr3 kf0 kf1 kf2 kf3
   rintro e w2 ⟨rfl,hb2⟩
   have A2:=(A1.alloc _).keep hb2
   have R2:=(R1.alloc _).keep hb2
   have S2:=(Arr.new w1 w1.heap.size rfl 24 (L 0 (a+b)) (L 1 (a+b)) (L 2 (a+b)) (L 3 (a+b))).keep hb2
   have hw2:Below w.heap.size w w2:=K.call (K.alloc hw1 _) hb2
   clear A1 R1 hb2 hw1
   have ⟨ka,ka0,ka1,ka2,ka3⟩:=A2
   have ⟨ks,ks0,ks1,ks2,ks3⟩:=S2
   have ⟨kr,kr0,kr1,kr2,kr3,kf0,kf1,kf2,kf3⟩:=R2
   go_wp2_with fail
   with_reducible refine Calls.mono (ref_sub_walk (a+b) m _) ?_
   clear ka ka0 ka1 ka2 ka3 kr kr0 kr1 kr2 kr3 kf0 kf1 kf2 kf3 ks ks0 ks1 ks2 ks3
   rintro e w3 ⟨rfl,hb3⟩
   have hw3:Below w.heap.size w w3:=K.call hw2 hb3
   have ⟨kr,kr0,kr1,kr2,kr3,kf0,kf1,kf2,kf3⟩:=R2.keep hb3
   clear hb3
   go_wp2_with fail
   exact bodyPost_ret (v:=.agg #[.int .u64 (L 0 (a+b-m)),.int .u64 (L 1 (a+b-m)),.int .u64 (L 2 (a+b-m)),.int .u64 (L 3 (a+b-m))]) (by simp [results,Tryz.results45,go_sem,kr,kr0,kr1,kr2,kr3]) rfl ⟨rfl,K.alloc (K.set4 hw3 (by omega) _ _ _ _) _⟩
end Go.Proofs.YtmigakanbeckpaaGreatDoor
namespace Go.Proofs.YtmigakanbeckpaaGreatDoor
set_option maxRecDepth 100000
open Go.RowKit
attribute [local go_sem ↓] Go.wp_at_zero Go.wp_at_succ
attribute [local go_sem] eq4
structure FoldS (w wr:World) (n:Nat) (x m:Int):Prop where
 below:Below w.heap.size w wr
 X:ArrW wr (w.heap.size) (L 0 x) (L 1 x) (L 2 x) (L 3 x)
 R:ArrW wr (w.heap.size+1) 0 0 0 0
 D:Arr wr n (L 0 m) (L 1 m) (L 2 m) (L 3 m)
theorem FoldS.call {w wr w1:World} {n:Nat} {x m:Int} (h:FoldS w wr n x m) (hk:Below wr.heap.size wr w1):FoldS w w1 n x m :=
 ⟨K.call h.below hk,h.X.keep hk,h.R.keep hk,h.D.keep hk⟩
theorem FoldS.alloc {w wr:World} {n:Nat} {x m:Int} (h:FoldS w wr n x m) (o:Obj):FoldS w (wr.alloc o) n x m :=
 ⟨K.alloc h.below o,h.X.alloc o,h.R.alloc o,h.D.alloc o⟩
theorem FoldS.store {w wr:World} {n:Nat} {x m:Int} (h:FoldS w wr n x m) (hn:w.heap.size+1<n) (y:Int):FoldS w ((((wr.setCell ⟨w.heap.size,0,none⟩ (.int .u64 (L 0 y))).setCell ⟨w.heap.size,1,none⟩ (.int .u64 (L 1 y))).setCell ⟨w.heap.size,2,none⟩ (.int .u64 (L 2 y))).setCell ⟨w.heap.size,3,none⟩ (.int .u64 (L 3 y))) n y m :=
 ⟨K.set4 h.below (Nat.le_refl _) _ _ _ _,h.X.stored _ _ _ _,h.R.set4 (by omega) _ _ _ _,h.D.set4 (by omega) _ _ _ _⟩
theorem ref_fold_any {k a:Int} (ha:Num a) (hm:0<md k) (hl:(L 0 (md k) == 0)=false) (w:World) :
  Calls Tryz.prog 42 #[.int .i64 k,.agg #[.int .u64 (L 0 a),.int .u64 (L 1 a),.int .u64 (L 2 a),.int .u64 (L 3 a)]] w fun e w'=>e=.returned (.agg #[.int .u64 (L 0 (a % md k)),.int .u64 (L 1 (a % md k)),.int .u64 (L 2 (a % md k)),.int .u64 (L 3 (a % md k))])∧Below w.heap.size w w':=by
 have nm:=md_num k
 go_enter Tryz.func42,Tryz.ntmps42
 go_wp2_with fail
 with_reducible refine Calls.mono (ref_mod_any k _) ?_
 rintro e w1 ⟨rfl,hb1⟩
 have A1:=((ArrW.new w (w.heap.size) rfl 24 (L 0 a) (L 1 a) (L 2 a) (L 3 a)).alloc _).keep hb1
 have R1:=(ArrW.new _ (w.heap.size+1) (by simp) 24 0 0 0 0).keep hb1
 have hw1:Below w.heap.size w w1:=K.call (K.alloc (K.alloc (Below.refl _ w) _) _) hb1
 have hS1:FoldS w (w1.alloc (.cells #[.int .u64 (L 0 (md k)),.int .u64 (L 1 (md k)),.int .u64 (L 2 (md k)),.int .u64 (L 3 (md k))] 24)) w1.heap.size a (md k):=⟨K.alloc hw1 _,A1.alloc _,R1.alloc _,Arr.new w1 w1.heap.size rfl 24 _ _ _ _⟩
 have hn:w.heap.size+1<w1.heap.size:=R1.lt
 clear A1 R1 hw1 hb1
 generalize hmd:md k=m at *
 have HM:Hid (md k=m):=hmd
 clear hmd
 go_wp2_with fail
 go_loopg [] a.toNat (fun g wr=>∃ x:Int,g=x.toNat∧Num x∧x % m=a % m∧FoldS w wr w1.heap.size x m)
 case atStart=>exact ⟨a,rfl,ha,rfl,hS1⟩
 case round =>
  obtain ⟨x,hg,nx,hxm,hS⟩:=hrel
  have HG:Hid (gk=x.toNat):=hg
  have HX:Hid (x % m=a % m):=hxm
  clear hg hxm hS1
  have hS0:=hS
  obtain ⟨hbw,⟨xl,x0,x1,x2,x3,xf0,xf1,xf2,xf3⟩,⟨rl,r0,r1,r2,r3,rf0,rf1,rf2,rf3⟩,⟨ml,m0,m1,m2,m3⟩⟩:=hS0
  by_cases hlt:x<m
  ·have HE:Hid (x=a % m):=by rw [← HX.out];exact (Int.emod_eq_of_lt nx.lo hlt).symm
   go_wp2_with fail
   with_reducible refine Calls.mono (less_true nx nm (by omega) _) ?_
   clear hbw xl x0 x1 x2 x3 xf0 xf1 xf2 xf3 rl r0 r1 r2 r3 rf0 rf1 rf2 rf3 ml m0 m1 m2 m3
   rintro e w2 ⟨rfl,hb2⟩
   have hS2:=hS.call hb2
   clear hS hb2
   have hS0:=hS2
   obtain ⟨hbw,⟨xl,x0,x1,x2,x3,xf0,xf1,xf2,xf3⟩,⟨rl,r0,r1,r2,r3,rf0,rf1,rf2,rf3⟩,⟨ml,m0,m1,m2,m3⟩⟩:=hS0
   go_wp2_with fail
   refine bodyPost_ret (v:=.agg #[.int .u64 (L 0 x),.int .u64 (L 1 x),.int .u64 (L 2 x),.int .u64 (L 3 x)]) (by simp [results,Tryz.results42,go_sem,r0,r1,r2,r3]) rfl ⟨?_,K.set4 hS2.below (by omega) _ _ _ _⟩
   rw [HM.out,← HE.out]
  ·go_wp2_with fail
   with_reducible refine Calls.mono (less_false nx nm (by omega) _) ?_
   clear hbw xl x0 x1 x2 x3 xf0 xf1 xf2 xf3 rl r0 r1 r2 r3 rf0 rf1 rf2 rf3 ml m0 m1 m2 m3
   rintro e w2 ⟨rfl,hb2⟩
   have hS2:=hS.call hb2
   clear hS hb2
   have hS0:=hS2
   obtain ⟨hbw,⟨xl,x0,x1,x2,x3,xf0,xf1,xf2,xf3⟩,⟨rl,r0,r1,r2,r3,rf0,rf1,rf2,rf3⟩,⟨ml,m0,m1,m2,m3⟩⟩:=hS0
   go_wp2_with fail
   with_reducible refine Calls.mono (ref_sub_walk x m _) ?_
   clear hbw xl x0 x1 x2 x3 xf0 xf1 xf2 xf3 rl r0 r1 r2 r3 rf0 rf1 rf2 rf3 ml m0 m1 m2 m3
   rintro e w3 ⟨rfl,hb3⟩
   have hS3:=hS2.call hb3
   clear hS2 hb3
   have hS0:=hS3
   obtain ⟨hbw,⟨xl,x0,x1,x2,x3,xf0,xf1,xf2,xf3⟩,⟨rl,r0,r1,r2,r3,rf0,rf1,rf2,rf3⟩,⟨ml,m0,m1,m2,m3⟩⟩:=hS0
   go_wp2_with fail
   go_roundg (x-m).toNat
   case measure=>rw [HG.out];have:=nx.lo;omega
   case rel=>exact ⟨x-m,rfl,⟨by omega,by have:=nx.hi;omega⟩,by rw [Int.sub_emod_right];exact HX.out,(hS3.store hn (x-m)).alloc _⟩
end Go.Proofs.YtmigakanbeckpaaGreatDoor
