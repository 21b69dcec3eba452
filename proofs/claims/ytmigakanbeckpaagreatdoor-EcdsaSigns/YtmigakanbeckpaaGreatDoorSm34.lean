/- A part of the proof. -/
import Derived.Test.YtmigakanbeckpaaGreatDoorSm33
import Derived.Test.YtmigakanbeckpaaGreatDoorSm32
import Derived.Test.YtmigakanbeckpaaGreatDoorSm28
import Derived.Test.YtmigakanbeckpaaGreatDoorSm29
import Derived.Test.YtmigakanbeckpaaGreatDoorSm02
import Derived.Test.YtmigakanbeckpaaGreatDoorTie
import Derived.Test.YtmigakanbeckpaaGreatDoorCards
import Derived.ProofKit
import Derived.LaidMore
import Derived.MakeChecks
import Derived.Lib.LaidTab
import Derived.Stop.LaidErr
import Derived.Laws.IdiomArrays
import Derived.OpenShut
import Derived.Carry
import Derived.ChangeMaps5
import Derived.Stop.Joined
set_option maxRecDepth 100000
set_option maxHeartbeats 4000000
namespace Go.Proofs.YtmigakanbeckpaaGreatDoor
open Go.RowKit
def dpV (X:Option (Wp m0)):Value:=match X with
 | none=>.tuple [.agg (nz++nz++[Value.bool true]).toArray,.bool false].toArray
 | some a=>.tuple [.agg (pc a).toArray,.bool true].toArray
theorem qBothP {w:World} (hT:Tab w) {k1 k2:Nat} (hk1:k1<2 ^ 256) (hk2:k2<2 ^ 256) {a b:Wp m0} (ha:a.on wb) (hb:b.on wb):Calls Tryz.prog 73 [.agg (nc (k1:Int)).toArray,.agg (pc a).toArray,.agg (nc (k2:Int)).toArray,.agg (pc b).toArray].toArray w fun e w'=>e=.returned (.agg (pc (wplus (mt wplus Wp.o a k1) (mt wplus Wp.o b k2))).toArray)∧Below w.heap.size w w':=by
 have h:=q_Both hT hk1 (qD (px a)) (qD (py a)) a.isNone hk2 (qD (px b)) (qD (py b)) b.isNone
 rw [rp_pc ha,rp_pc hb] at h
 exact h
theorem cT37 (vs:List Value):∀ w,(callFunc 37 vs.toArray).run Tryz.prog w=.ok (.enter 37 vs.toArray) w:=zA Tryz.func37 (by kernel_rfl) (by kernel_rfl) _
theorem cT35 (vs:List Value):∀ w,(callFunc 35 vs.toArray).run Tryz.prog w=.ok (.enter 35 vs.toArray) w:=zA Tryz.func35 (by kernel_rfl) (by kernel_rfl) _
theorem cT36 (vs:List Value):∀ w,(callFunc 36 vs.toArray).run Tryz.prog w=.ok (.enter 36 vs.toArray) w:=zA Tryz.func36 (by kernel_rfl) (by kernel_rfl) _
theorem cT73 (vs:List Value):∀ w,(callFunc 73 vs.toArray).run Tryz.prog w=.ok (.enter 73 vs.toArray) w:=zA Tryz.func73 (by kernel_rfl) (by kernel_rfl) _
theorem qRgt_n {w:World} (hT:Tab w) {Z r s:Nat} (hZ:Z<2 ^ 256) (hr:r<2 ^ 256) (hs:s<2 ^ 256) {x y:Fin m0} {a0:Wp m0} (ha:a0.on wb) (hxy:a0=some (x,y)) (hB:sumO a0 Z r s=Wp.o):Calls Tryz.prog 37 [.agg (fc (x)++fc (y)++[Value.bool false]).toArray,.agg (nc ((Z:Int))).toArray,.agg (nc ((r:Int))).toArray,.agg (nc ((s:Int))).toArray].toArray w fun e w'=>e=.returned (.bool false)∧Below w.heap.size w w':=by
 refine enter Tryz.func37 rfl 28 rfl (lk rfl) (fun a h=>?_)
 refine aX h [] [eN 4 _,eN 5 _,eN 6 _,eN 7 _,eS 8 _] ⟨rfl,rfl,rfl,rfl,rfl,T0⟩ [(4,.ptr 4 0),(5,.ptr 5 0),(6,.ptr 6 0),(7,.ptr 7 0)] [(4,fc (x)++fc (y)++[Value.bool false]),(5,nc ((Z:Int))),(6,nc ((r:Int))),(7,nc ((s:Int)))] (fun a w h=>?_)
 refine aX h [2,3,6,8] [eS 10 _,eS 11 _,eS 12 (.val (.agg (nc (((u1O Z s:Nat):Int))).toArray)),eS 13 (.val (.agg (pc (wG)).toArray)),eS 14 _,eS 15 _,eS 16 (.val (.agg (nc (((u1O r s:Nat):Int))).toArray)),eS 17 _,eS 18 (.val (.agg (nz++nz++[Value.bool true]).toArray)),eN 9 _,eM 9 _] ⟨rfl,rfl,fun L u=>u_call u (gd0 rfl) _ rfl _ _ _ rfl [_,_] rfl (cT74 _) _ (fun w hb=>qQ (hT.keep (Bs.kp_of hb)) hZ hs),fun L u=>u_call u (gd0 rfl) _ rfl _ _ _ rfl [] rfl (cT54 _) _ (fun w hb=>q_Base),rfl,rfl,fun L u=>u_call u (gd0 rfl) _ rfl _ _ _ rfl [_,_] rfl (cT74 _) _ (fun w hb=>qQ (hT.keep (Bs.kp_of hb)) hr hs),rfl,fun L u=>u_call u (gd0 rfl) _ rfl _ _ _ rfl [_,_,_,_] rfl (cT73 _) (.agg (nz++nz++[Value.bool true]).toArray) (fun w hb=>by have q:=qBothP (hT.keep (Bs.kp_of hb)) (k1:=u1O Z s) (k2:=u1O r s) (qE _) (qE _) wG_on ha;rw [show wplus (mt wplus Wp.o wG (u1O Z s)) (mt wplus Wp.o a0 (u1O r s))=_ from hB,hxy] at q;rw [← nz_pc] at q;exact q),rfl,rfl,T0⟩ [(6,_),(9,.ptr 9 0)] [(6,_),(9,nz++nz++[Value.bool true])] (fun a w h=>?_)
 refine aX h [] [eS 19 _,eS 20 _,eS 21 _,eS 22 _,eS 23 _,eS 24 _,eS 25 _,eS 26 _,eS 27 _,eS 8 _] ⟨rfl,rfl,rfl,rfl,rfl,rfl,rfl,rfl,rfl,rfl,T0⟩ [(8,.val (.bool false))] [] (fun a w h=>?_)
 refine wp_ret ?_
 refine zR h 8 rfl (lk rfl) (Value.bool false) rfl ?_
 exact ⟨rfl,h.grows⟩
theorem qRgt_y {w:World} (hT:Tab w) {Z r s:Nat} (hZ:Z<2 ^ 256) (hr:r<2 ^ 256) (hs:s<2 ^ 256) {x y:Fin m0} {a0:Wp m0} (ha:a0.on wb) (hxy:a0=some (x,y)) {X Y:Fin m0} (hB:sumO a0 Z r s=some (X,Y)) (he:((mo (X.val:Int):Nat):Int)=(r:Int)):Calls Tryz.prog 37 [.agg (fc (x)++fc (y)++[Value.bool false]).toArray,.agg (nc ((Z:Int))).toArray,.agg (nc ((r:Int))).toArray,.agg (nc ((s:Int))).toArray].toArray w fun e w'=>e=.returned (.bool true)∧Below w.heap.size w w':=by
 refine enter Tryz.func37 rfl 28 rfl (lk rfl) (fun a h=>?_)
 refine aX h [] [eN 4 _,eN 5 _,eN 6 _,eN 7 _,eS 8 _] ⟨rfl,rfl,rfl,rfl,rfl,T0⟩ [(4,.ptr 4 0),(5,.ptr 5 0),(6,.ptr 6 0),(7,.ptr 7 0)] [(4,fc (x)++fc (y)++[Value.bool false]),(5,nc ((Z:Int))),(6,nc ((r:Int))),(7,nc ((s:Int)))] (fun a w h=>?_)
 refine aX h [2,3,6,8] [eS 10 _,eS 11 _,eS 12 (.val (.agg (nc (((u1O Z s:Nat):Int))).toArray)),eS 13 (.val (.agg (pc (wG)).toArray)),eS 14 _,eS 15 _,eS 16 (.val (.agg (nc (((u1O r s:Nat):Int))).toArray)),eS 17 _,eS 18 (.val (.agg (fc (X)++fc (Y)++[Value.bool false]).toArray)),eN 9 _,eM 9 _] ⟨rfl,rfl,fun L u=>u_call u (gd0 rfl) _ rfl _ _ _ rfl [_,_] rfl (cT74 _) _ (fun w hb=>qQ (hT.keep (Bs.kp_of hb)) hZ hs),fun L u=>u_call u (gd0 rfl) _ rfl _ _ _ rfl [] rfl (cT54 _) _ (fun w hb=>q_Base),rfl,rfl,fun L u=>u_call u (gd0 rfl) _ rfl _ _ _ rfl [_,_] rfl (cT74 _) _ (fun w hb=>qQ (hT.keep (Bs.kp_of hb)) hr hs),rfl,fun L u=>u_call u (gd0 rfl) _ rfl _ _ _ rfl [_,_,_,_] rfl (cT73 _) (.agg (fc (X)++fc (Y)++[Value.bool false]).toArray) (fun w hb=>by have q:=qBothP (hT.keep (Bs.kp_of hb)) (k1:=u1O Z s) (k2:=u1O r s) (qE _) (qE _) wG_on ha;rw [show wplus (mt wplus Wp.o wG (u1O Z s)) (mt wplus Wp.o a0 (u1O r s))=_ from hB,hxy] at q;exact q),rfl,rfl,T0⟩ [(6,_),(9,.ptr 9 0)] [(6,_),(9,fc (X)++fc (Y)++[Value.bool false])] (fun a w h=>?_)
 refine aX h [5,7] [eS 19 _,eS 20 _,eS 21 _,eS 22 _,eS 23 _,eS 24 (.val (.agg (nc (((mo (X.val:Int):Nat):Int))).toArray)),eS 25 _,eS 26 (.val (.bool true)),eS 27 _,eS 8 _] ⟨rfl,rfl,rfl,rfl,rfl,fun L u=>u_call u (gd1 u 3 true rfl 22 rfl (lk rfl) rfl) _ rfl _ _ _ rfl [_] rfl (cT75 _) _ (fun w hb=>qX_at (hT.keep (Bs.kp_of hb)) (mo_eq _)),rfl,fun L u=>u_eql u (gd1 u 3 true rfl 22 rfl (lk rfl) rfl) 26 rfl 24 24 (.tmp 24) (.tmp 25) rfl rfl rfl Tryz.eqGuardType24 (true) (fun w=>eq_rs (qE _) hr (decide_eq_true he) w),rfl,rfl,T0⟩ [(8,.val (.bool true))] [] (fun a w h=>?_)
 refine wp_ret ?_
 refine zR h 8 rfl (lk rfl) (Value.bool true) rfl ?_
 exact ⟨rfl,h.grows⟩
theorem qRgt_d {w:World} (hT:Tab w) {Z r s:Nat} (hZ:Z<2 ^ 256) (hr:r<2 ^ 256) (hs:s<2 ^ 256) {x y:Fin m0} {a0:Wp m0} (ha:a0.on wb) (hxy:a0=some (x,y)) {X Y:Fin m0} (hB:sumO a0 Z r s=some (X,Y)) (he:¬ ((mo (X.val:Int):Nat):Int)=(r:Int)):Calls Tryz.prog 37 [.agg (fc (x)++fc (y)++[Value.bool false]).toArray,.agg (nc ((Z:Int))).toArray,.agg (nc ((r:Int))).toArray,.agg (nc ((s:Int))).toArray].toArray w fun e w'=>e=.returned (.bool false)∧Below w.heap.size w w':=by
 refine enter Tryz.func37 rfl 28 rfl (lk rfl) (fun a h=>?_)
 refine aX h [] [eN 4 _,eN 5 _,eN 6 _,eN 7 _,eS 8 _] ⟨rfl,rfl,rfl,rfl,rfl,T0⟩ [(4,.ptr 4 0),(5,.ptr 5 0),(6,.ptr 6 0),(7,.ptr 7 0)] [(4,fc (x)++fc (y)++[Value.bool false]),(5,nc ((Z:Int))),(6,nc ((r:Int))),(7,nc ((s:Int)))] (fun a w h=>?_)
 refine aX h [2,3,6,8] [eS 10 _,eS 11 _,eS 12 (.val (.agg (nc (((u1O Z s:Nat):Int))).toArray)),eS 13 (.val (.agg (pc (wG)).toArray)),eS 14 _,eS 15 _,eS 16 (.val (.agg (nc (((u1O r s:Nat):Int))).toArray)),eS 17 _,eS 18 (.val (.agg (fc (X)++fc (Y)++[Value.bool false]).toArray)),eN 9 _,eM 9 _] ⟨rfl,rfl,fun L u=>u_call u (gd0 rfl) _ rfl _ _ _ rfl [_,_] rfl (cT74 _) _ (fun w hb=>qQ (hT.keep (Bs.kp_of hb)) hZ hs),fun L u=>u_call u (gd0 rfl) _ rfl _ _ _ rfl [] rfl (cT54 _) _ (fun w hb=>q_Base),rfl,rfl,fun L u=>u_call u (gd0 rfl) _ rfl _ _ _ rfl [_,_] rfl (cT74 _) _ (fun w hb=>qQ (hT.keep (Bs.kp_of hb)) hr hs),rfl,fun L u=>u_call u (gd0 rfl) _ rfl _ _ _ rfl [_,_,_,_] rfl (cT73 _) (.agg (fc (X)++fc (Y)++[Value.bool false]).toArray) (fun w hb=>by have q:=qBothP (hT.keep (Bs.kp_of hb)) (k1:=u1O Z s) (k2:=u1O r s) (qE _) (qE _) wG_on ha;rw [show wplus (mt wplus Wp.o wG (u1O Z s)) (mt wplus Wp.o a0 (u1O r s))=_ from hB,hxy] at q;exact q),rfl,rfl,T0⟩ [(6,_),(9,.ptr 9 0)] [(6,_),(9,fc (X)++fc (Y)++[Value.bool false])] (fun a w h=>?_)
 refine aX h [5,7] [eS 19 _,eS 20 _,eS 21 _,eS 22 _,eS 23 _,eS 24 (.val (.agg (nc (((mo (X.val:Int):Nat):Int))).toArray)),eS 25 _,eS 26 (.val (.bool false)),eS 27 _,eS 8 _] ⟨rfl,rfl,rfl,rfl,rfl,fun L u=>u_call u (gd1 u 3 true rfl 22 rfl (lk rfl) rfl) _ rfl _ _ _ rfl [_] rfl (cT75 _) _ (fun w hb=>qX_at (hT.keep (Bs.kp_of hb)) (mo_eq _)),rfl,fun L u=>u_eql u (gd1 u 3 true rfl 22 rfl (lk rfl) rfl) 26 rfl 24 24 (.tmp 24) (.tmp 25) rfl rfl rfl Tryz.eqGuardType24 (false) (fun w=>eq_rs (qE _) hr (decide_eq_false he) w),rfl,rfl,T0⟩ [(8,.val (.bool false))] [] (fun a w h=>?_)
 refine wp_ret ?_
 refine zR h 8 rfl (lk rfl) (Value.bool false) rfl ?_
 exact ⟨rfl,h.grows⟩
theorem xeq_no {q:Fin m0 × Fin m0} {r:Nat} (h:¬ mo (q.1.val:Int)=r):xeq q r=false:=by
 unfold xeq
 exact decide_eq_false h
theorem rgt_cases {a:Wp m0} {z r s:Nat}:(sumO a z r s=Wp.o∧rgt a z r s=false)∨∃ X Y,sumO a z r s=some (X,Y)∧((mo (X.val:Int)=r∧rgt a z r s=true)∨(¬ mo (X.val:Int)=r∧rgt a z r s=false)):=by
 unfold rgt
 cases sumO a z r s with
 | none=>exact Or.inl ⟨rfl,rfl⟩
 | some q =>
  refine Or.inr ⟨q.1,q.2,rfl,?_⟩
  rw [rgtO_some]
  by_cases h:mo (q.1.val:Int)=r
  ·exact Or.inl ⟨h,xeq_of h⟩
  ·exact Or.inr ⟨h,xeq_no h⟩
theorem qRgt {w:World} (hT:Tab w) {Z r s:Nat} (hZ:Z<2 ^ 256) (hr:r<2 ^ 256) (hs:s<2 ^ 256) {x y:Fin m0} {a0:Wp m0} (ha:a0.on wb) (hxy:a0=some (x,y)):Calls Tryz.prog 37 [.agg (fc (x)++fc (y)++[Value.bool false]).toArray,.agg (nc ((Z:Int))).toArray,.agg (nc ((r:Int))).toArray,.agg (nc ((s:Int))).toArray].toArray w fun e w'=>e=.returned (.bool (rgt a0 Z r s))∧Below w.heap.size w w':=by
 rcases rgt_cases (a:=a0) (z:=Z) (r:=r) (s:=s) with ⟨h1,h2⟩ | ⟨X,Y,h1,⟨h2,h3⟩ | ⟨h2,h3⟩⟩
 ·rw [h2];exact qRgt_n hT hZ hr hs ha hxy h1
 ·rw [h3];exact qRgt_y hT hZ hr hs ha hxy h1 (by omega)
 ·rw [h3];exact qRgt_d hT hZ hr hs ha hxy h1 (by omega)
theorem qVer_y {w:World} (hT:Tab w) {n1 c1 n2 c2 n3 c3:Nat} {z1 z2 z3:Option Addr} {x y:Fin m0} {r s:Nat} (hr:r<2 ^ 256) (hs:s<2 ^ 256) (hP:∀ w1,Below w.heap.size w w1→Calls Tryz.prog 35 [Value.slice (z1) (n1) (c1)].toArray w1 fun e w'=>e=.returned (.tuple [.agg (fc (x)++fc (y)++[Value.bool false]).toArray,.bool true].toArray)∧Below w1.heap.size w1 w') (hS:∀ w1,Below w.heap.size w w1→Calls Tryz.prog 36 [Value.slice (z3) (n3) (c3)].toArray w1 fun e w'=>e=.returned (.tuple [.agg (nc (r:Int)).toArray,.agg (nc (s:Int)).toArray,.bool true].toArray)∧Below w1.heap.size w1 w') (hH:Sh.Tab w) {f:Nat→Nat} (hba:BA w z2 n2 f) (hc:n2≤c2) (hcm:c2≤maxLen) (hn:n2≤800000) {a0:Wp m0} (ha:a0.on wb) (hxy:a0=some (x,y)) (hwr:wi r=true) (hws:wi s=true):Calls Tryz.prog 14 [Value.slice (z1) (n1) (c1),Value.slice (z2) (n2) (c2),Value.slice (z3) (n3) (c3)].toArray w fun e w'=>e=.returned (.bool (rgt a0 (zN f n2) r s))∧Below w.heap.size w w':=by
 refine enter Tryz.func14 rfl 45 rfl (lk rfl) (fun a h=>?_)
 refine aX h [] [eS 6 _] ⟨rfl,T0⟩ [(0,.val (.slice (z1) (n1) (c1))),(1,.val (.slice (z2) (n2) (c2))),(2,.val (.slice (z3) (n3) (c3)))] [] (fun a w h=>?_)
 refine aX h [1] [eS 12 _,eS 13 (.val (.tuple [Value.agg (fc (x)++fc (y)++[Value.bool false]).toArray,Value.bool true].toArray)),eS 11 _,eS 14 _,eS 15 _,eN 7 _,eM 7 _,eS 8 _] ⟨rfl,fun L u=>u_call u (gd0 rfl) _ rfl _ _ _ rfl [_] rfl (cT35 _) _ (fun w hb=>hP w (Bs.kp_of hb)),rfl,rfl,rfl,rfl,rfl,rfl,T0⟩ [(1,_),(2,_),(7,.ptr 7 0),(8,.val (.bool true))] [(7,fc (x)++fc (y)++[Value.bool false])] (fun a w h=>?_)
 refine wp_seq ?_
 refine aX h [] [eS 16 _,eS 17 _,eS 18 _,eS 19 _,eS 20 _,eS 21 _] ⟨rfl,rfl,rfl,rfl,rfl,rfl,T0⟩ [(1,_),(2,_),(7,_),(21,.val (.bool false))] [(7,_)] (fun a w h=>?_)
 refine zE h false rfl (fun ht=>?_) (fun hf=>?_)
 case refine_1=>cases ht
 refine wp_skip ?_
 refine zB ?_
 refine aX h [1] [eS 23 _,eS 24 (.val (.tuple [Value.agg (nc ((r:Int))).toArray,.agg (nc ((s:Int))).toArray,Value.bool true].toArray)),eS 22 _,eS 25 _,eS 26 _,eS 27 _,eN 9 _,eN 10 _,eM 9 _,eM 10 _,eS 8 _] ⟨rfl,fun L u=>u_call u (gd0 rfl) _ rfl _ _ _ rfl [_] rfl (cT36 _) _ (fun w hb=>hS w (Bs.kp_of hb)),rfl,rfl,rfl,rfl,rfl,rfl,rfl,rfl,rfl,T0⟩ [(1,_),(7,_),(8,.val (.bool true)),(9,.ptr 9 0),(10,.ptr 10 0)] [(7,_),(9,nc ((r:Int))),(10,nc ((s:Int)))] (fun a w h=>?_)
 refine aX h [3,7,12,15] [eS 28 _,eS 29 _,eS 30 _,eS 31 (.val (.bool true)),eS 32 _,eS 33 _,eS 34 _,eS 35 (.val (.bool true)),eS 36 _,eS 37 _,eS 38 _,eS 39 _,eS 40 (.val (.agg (nc (((zN f n2:Nat):Int))).toArray)),eS 41 _,eS 42 _,eS 43 (.val (.bool (rgt a0 (zN f n2) r s))),eS 44 _,eS 6 _] ⟨rfl,rfl,rfl,fun L u=>u_call u (gd1 u 1 true rfl 29 rfl (lk rfl) rfl) _ rfl _ _ _ rfl [_] rfl (cT25 _) (Value.bool true) (fun w hb=>by have q:=qIn (hT.keep (Bs.kp_of hb)) hr;rw [hwr] at q;exact q),rfl,rfl,rfl,fun L u=>u_call u (gd1 u 5 true rfl 33 rfl (lk rfl) rfl) _ rfl _ _ _ rfl [_] rfl (cT25 _) (Value.bool true) (fun w hb=>by have q:=qIn (hT.keep (Bs.kp_of hb)) hs;rw [hws] at q;exact q),rfl,rfl,rfl,rfl,fun L u=>u_call u (gd1 u 9 true rfl 37 rfl (lk rfl) rfl) _ rfl _ _ _ rfl [_] rfl (cT31 _) _ (fun w hb=>qNum (hH.keep (Bs.kp_of hb)) (hba.keep (Bs.kp_of hb)) hc hcm (by omega)),rfl,rfl,fun L u=>u_call u (gd1 u 9 true rfl 37 rfl (lk rfl) rfl) _ rfl _ _ _ rfl [_,_,_,_] rfl (cT37 _) _ (fun w hb=>qRgt (hT.keep (Bs.kp_of hb)) (zN_lt f n2) hr hs ha hxy),rfl,rfl,T0⟩ [(6,.val (.bool (rgt a0 (zN f n2) r s)))] [] (fun a w h=>?_)
 refine wp_ret ?_
 refine zR h 6 rfl (lk rfl) (Value.bool (rgt a0 (zN f n2) r s)) rfl ?_
 exact ⟨rfl,h.grows⟩
theorem fst_rd {p:Pd} {b v:Value} {F:Nat→Bool} {w:World} (h:(tupPd p b).p v F w):p.p (fstV v) F w:=by
 obtain ⟨u,rfl,hu⟩:=h
 exact hu
theorem rd_nilV (w:World):(rdPd 0 []).p (.slice none 0 0) (fun _=>false) w:=⟨none,0,rfl,Nat.le_refl _,rfl,⟨fun i=>by simp,Or.inl rfl⟩,fun p hp=>by cases hp⟩
theorem sameV {n:Nat} {l:List Nat} {v1 v2:Value} {F1 F2:Nat→Bool} {w:World} (hn:n≤1000) (h1:(rdPd n l).p v1 F1 w) (h2:(rdPd n l).p v2 F2 w):Calls Tryz.prog 11 [v1,v2].toArray w fun e w'=>e=.returned (.bool true)∧Below w.heap.size w w':=by
 obtain ⟨z1,c1,rfl,_,_,b1,_⟩:=h1
 obtain ⟨z2,c2,rfl,_,_,b2,_⟩:=h2
 exact same_ba hn b1 b2
theorem ptL_len (a:Wp m0):(ptL a).length≤65:=by
 cases a with
 | none=>decide
 | some q=>exact Nat.le_of_eq (qF _ _)
theorem nb1X:Tryz.prog.built 24 [(0,.int .u64 1),(1,.int .u64 0),(2,.int .u64 0),(3,.int .u64 0)]=some (nc ((1:Nat):Int)).toArray:=by kernel_rfl
theorem wi_1:wi 1=true:=by decide
theorem cT8 (vs:List Value):∀ w,(callFunc 8 vs.toArray).run Tryz.prog w=.ok (.enter 8 vs.toArray) w:=zA Tryz.func8 (by kernel_rfl) (by kernel_rfl) _
theorem cT24 (vs:List Value):∀ w,(callFunc 24 vs.toArray).run Tryz.prog w=.ok (.enter 24 vs.toArray) w:=zA Tryz.func24 (by kernel_rfl) (by kernel_rfl) _
theorem qPubN {w:World} (hT:Tab w) {D:Nat} (hD:D<2 ^ 256) (hw:wi D=false):Calls Tryz.prog 9 [.agg (nc ((D:Int))).toArray].toArray w fun e w'=>∃ v Fp,e=.returned v∧(tupPd (rdPd (0) ([])) (.bool false)).p v Fp w'∧(∀ b,Fp b=true→w.heap.size≤b∧b<w'.heap.size)∧Below w.heap.size w w':=by
 refine enter Tryz.func9 rfl 10 rfl (lk rfl) (fun a h=>?_)
 refine aX h [] [eN 1 _,eS 2 _,eS 3 _] ⟨rfl,rfl,rfl,T0⟩ [(1,.ptr 1 0)] [(1,nc ((D:Int)))] (fun a w h=>?_)
 refine wp_seq ?_
 refine aX h [1] [eS 4 _,eS 5 (.val (.bool false)),eS 6 _] ⟨rfl,fun L u=>u_call u (gd0 rfl) _ rfl _ _ _ rfl [_] rfl (cT25 _) (Value.bool false) (fun w hb=>by have q:=qIn (hT.keep (Bs.kp_of hb)) hD;rw [hw] at q;exact q),rfl,T0⟩ [(1,_),(6,.val (.bool true))] [(1,_)] (fun a w h=>?_)
 refine zE h true rfl (fun ht=>?_) (fun hf=>?_)
 case refine_2=>cases hf
 refine aX h [] [eS 2 _,eS 3 _] ⟨rfl,rfl,T0⟩ [(2,.val ((Value.slice none 0 0))),(3,.val (.bool false))] [] (fun a w h=>?_)
 refine wp_ret ?_
 refine zP ?_
 refine ret_two h _ _ rfl (ans_tmp (v:=(Value.slice none 0 0)) 2 (lk rfl) rfl) (ans_tmp (v:=Value.bool false) 3 (lk rfl) rfl) ?_
 exact ⟨_,fun _=>false,rfl,⟨_,rfl,rd_nilV _⟩,(fun b hb=>by cases hb),h.grows⟩
theorem qPubY {w:World} (hT:Tab w) {D:Nat} (hD:D<2 ^ 256) (hw:wi D=true):Calls Tryz.prog 9 [.agg (nc ((D:Int))).toArray].toArray w fun e w'=>∃ v Fp,e=.returned v∧(tupPd (rdPd ((ptL (mt wplus Wp.o wG D)).length) (ptL (mt wplus Wp.o wG D))) (.bool true)).p v Fp w'∧(∀ b,Fp b=true→w.heap.size≤b∧b<w'.heap.size)∧Below w.heap.size w w':=by
 refine enter Tryz.func9 rfl 10 rfl (lk rfl) (fun a h=>?_)
 refine aX h [] [eN 1 _,eS 2 _,eS 3 _] ⟨rfl,rfl,rfl,T0⟩ [(1,.ptr 1 0)] [(1,nc ((D:Int)))] (fun a w h=>?_)
 refine wp_seq ?_
 refine aX h [1] [eS 4 _,eS 5 (.val (.bool true)),eS 6 _] ⟨rfl,fun L u=>u_call u (gd0 rfl) _ rfl _ _ _ rfl [_] rfl (cT25 _) (Value.bool true) (fun w hb=>by have q:=qIn (hT.keep (Bs.kp_of hb)) hD;rw [hw] at q;exact q),rfl,T0⟩ [(1,_),(6,.val (.bool false))] [(1,_)] (fun a w h=>?_)
 refine zE h false rfl (fun ht=>?_) (fun hf=>?_)
 case refine_1=>cases ht
 refine wp_skip ?_
 refine zB ?_
 refine aXQ h [1,2,3] [eS 7 _,eS 8 (.val (.agg (pc (mt wplus Wp.o wG D)).toArray)),eQ 9 (rdPd ((ptL (mt wplus Wp.o wG D)).length) (ptL (mt wplus Wp.o wG D))),eS 2 (.unk 9 id),eS 3 _] ⟨rfl,fun L u=>u_call u (gd0 rfl) _ rfl _ _ _ rfl [_] rfl (cT27 _) _ (fun w hb=>qTB (hT.keep (Bs.kp_of hb)) hD),fun L u=>zX u (gd0 rfl) 9 rfl rfl 26 #[(.tmp 8)] #[44] rfl [.val (.agg (pc (mt wplus Wp.o wG D)).toArray)] rfl (fun vs w=>zA Tryz.func26 (by kernel_rfl) (by kernel_rfl) vs w) (rdPd ((ptL (mt wplus Wp.o wG D)).length) (ptL (mt wplus Wp.o wG D))) (fun β a w hr=>qEncP (hT.keep (Bs.kp_of hr.bl)) (mt_on wgr wG_on D)),fun L u=>zG u (gd0 rfl) 2 rfl (.tmp 9) (Or.inr rfl) rfl rfl,rfl,T0⟩ [(2,.unk 9 id),(3,.val (.bool true))] [] [(9,rdPd ((ptL (mt wplus Wp.o wG D)).length) (ptL (mt wplus Wp.o wG D)))] (fun a w h=>?_)
 refine wp_ret ?_
 refine ret_tv h 2 3 rfl (lk rfl) (lk rfl) 9 id rfl rfl (Value.bool true) rfl (fun v F hp hF=>?_)
 exact ⟨_,F,rfl,⟨v,rfl,hp⟩,hF,h.grows⟩
theorem awk {w:World} (hT:Tab w):Calls Tryz.prog 8 [].toArray w fun e w'=>e=.returned (.bool true)∧Below w.heap.size w w':=by
 refine enter Tryz.func8 rfl 15 rfl (lk rfl) (fun a h=>?_)
 refine aX h [] [eS 0 _] ⟨rfl,T0⟩ [] [] (fun a w h=>?_)
 refine aXQ h [0,1,2,3,4,5] [eS 4 (.val (.agg (nc (((1:Nat):Int))).toArray)),eQ 5 (tupPd (rdPd ((ptL wG).length) (ptL wG)) (Value.bool true)),eS 3 (.unk 5 id),eS 6 (.unk 5 fstV),eS 7 (.val (.bool true)),eS 1 (.unk 5 fstV),eS 2 _] ⟨fun L u=>zT u (gd0 rfl) 4 rfl 24 #[(0,(.const (.int .u64 1))),(1,(.const (.int .u64 0))),(2,(.const (.int .u64 0))),(3,(.const (.int .u64 0)))] rfl [(0,(Value.int IntKind.u64 1)),(1,(Value.int IntKind.u64 0)),(2,(Value.int IntKind.u64 0)),(3,(Value.int IntKind.u64 0))] rfl (nc (((1:Nat):Int))) (nb1X),fun L u=>zX u (gd0 rfl) 5 rfl rfl 9 #[(.tmp 4)] #[24] rfl [.val (.agg (nc (((1:Nat):Int))).toArray)] rfl (fun vs w=>zA Tryz.func9 (by kernel_rfl) (by kernel_rfl) vs w) (tupPd (rdPd ((ptL wG).length) (ptL wG)) (Value.bool true)) (fun β a w hr=>by have q:=qPubY (D:=1) (hT.keep (Bs.kp_of hr.bl)) (by decide) wi_1;rw [mt_one wgr wG_on] at q;exact q),fun L u=>zG u (gd0 rfl) 3 rfl (.tmp 5) (Or.inl rfl) rfl rfl,fun L u=>u_ext0T u (gd0 rfl) 6 rfl (.tmp 3) rfl rfl rfl,fun L u=>u_ext1T u (gd0 rfl) 7 rfl (.tmp 3) rfl rfl rfl,fun L u=>zG u (gd0 rfl) 1 rfl (.tmp 6) (Or.inr rfl) rfl rfl,rfl,T0⟩ [(1,.unk 5 fstV),(2,.val (.bool true))] [] [(5,tupPd (rdPd ((ptL wG).length) (ptL wG)) (Value.bool true))] (fun a w h=>?_)
 refine aX h [2,3,4,5] [eS 8 _,eS 9 _,eS 10 (.unk 5 fstV),eS 11 (.val (.agg (pc (wG)).toArray)),eQ 12 (rdPd ((ptL wG).length) (ptL wG)),eS 13 (.val (.bool true)),eS 14 _,eS 0 _] ⟨rfl,rfl,fun L u=>zG u (gd1 u 1 true rfl 9 rfl (lk rfl) rfl) 10 rfl (.tmp 1) (Or.inl rfl) rfl rfl,fun L u=>u_call u (gd1 u 1 true rfl 9 rfl (lk rfl) rfl) _ rfl _ _ _ rfl [] rfl (cT24 _) _ (fun w hb=>r_Base),fun L u=>zX u (gd1 u 1 true rfl 9 rfl (lk rfl) rfl) 12 rfl rfl 23 #[(.tmp 11)] #[44] rfl [.val (.agg (pc (wG)).toArray)] rfl (fun vs w=>zA Tryz.func23 (by kernel_rfl) (by kernel_rfl) vs w) (rdPd ((ptL wG).length) (ptL wG)) (fun β a w hr=>rEncP (hT.keep (Bs.kp_of hr.bl)) wG_on),fun L u=>u_callR u (gd1 u 1 true rfl 9 rfl (lk rfl) rfl) 13 rfl 11 #[(.tmp 10),(.tmp 12)] #[25,25] rfl [.unk 5 fstV,.unk 12 id] rfl (fun vs w=>zA Tryz.func11 (by kernel_rfl) (by kernel_rfl) vs w) (Value.bool true) (fun β a w hr=>sameV (Nat.le_trans (ptL_len _) (by decide)) (fst_rd (hr.thing (x:=5) (u.q rfl))) (hr.thing (x:=12) (u.q rfl))),rfl,rfl,T0⟩ [(0,.val (.bool true))] [] (fun a w h=>?_)
 refine wp_ret ?_
 refine zR h 0 rfl (lk rfl) (Value.bool true) rfl ?_
 exact ⟨rfl,h.grows⟩
theorem ptB_x (X Y0:Int) {i:Nat} (h:i<32):ptB X Y0 (1+i)=bgB X i:=by
 unfold ptB cat
 rw [if_pos (by omega),if_neg (by omega),show 1+i-1=i by omega]
theorem ptB_y (X Y0:Int) (i:Nat):ptB X Y0 (33+i)=bgB Y0 i:=by
 unfold ptB cat
 rw [if_neg (by omega),show 33+i-33=i by omega]
theorem fl_get {f:Nat→Nat} {n i:Nat} (h:i<n):(fl f n).getD i 0=f i:=by
 rw [List.getD_eq_getElem?_getD,fl_at f h]
 rfl
theorem dec_ptL {w:World} (hT:Tab w) {a:Wp m0} (ha:a.on wb) (hne:a≠Wp.o) {v:Value} {F:Nat→Bool} (hv:(rdPd (ptL a).length (ptL a)).p v F w):∀ w1,Below w.heap.size w w1→Calls Tryz.prog 35 [v].toArray w1 fun e w'=>e=.returned (dpV (some a))∧Below w1.heap.size w1 w':=by
 cases a with
 | none=>exact absurd rfl hne
 | some q =>
  obtain ⟨x,y⟩:=q
  have el:(ptL (some (x,y))).length=65:=qF _ _
  rw [el] at hv
  obtain ⟨z,c,rfl,h2,_,h4,_⟩:=hv
  rcases h4.at_ with h0 | ⟨b,o,rfl,hr⟩
  ·cases h0
  have hg:∀ i,i<65→(ptL (some (x,y))).getD i 0=ptB (x.val:Int) (y.val:Int) i:=fun i hi=>fl_get hi
  have hU:BN (fun i=>(ptL (some (x,y))).getD i 0) 1 (x.val:Int):=⟨qD x,fun i hi=>by
   show _=(((ptL (some (x,y))).getD (1+(31-i)) 0:Nat):Int)
   rw [hg _ (by omega),ptB_x _ _ (by omega),bgB_int,show 31-(31-i)=i by omega]⟩
  have hV:BN (fun i=>(ptL (some (x,y))).getD i 0) 33 (y.val:Int):=⟨qD y,fun i hi=>by
   show _=(((ptL (some (x,y))).getD (33+(31-i)) 0:Nat):Int)
   rw [hg _ (by omega),ptB_y,bgB_int,show 31-(31-i)=i by omega]⟩
  intro w1 hb
  exact q_dec_F (hT.keep hb) (h4.keep hb) (hr.keep hb) h2 hU hV (by show (ptL (some (x,y))).getD 0 0=4;rw [hg 0 (by omega)];rfl) (fmd_some ha rfl)
theorem dec_sig {w:World} (hE:De.Tab w) {r s:Nat} (hr:r<2 ^ 256) (hs:s<2 ^ 256) {v:Value} {F:Nat→Bool} (hv:(rdPd (De.msz r+De.msz s+6) (De.dE r s)).p v F w):∀ w1,Below w.heap.size w w1→Calls Tryz.prog 36 [v].toArray w1 fun e w'=>e=.returned (.tuple [.agg (nc (r:Int)).toArray,.agg (nc (s:Int)).toArray,.bool true].toArray)∧Below w1.heap.size w1 w':=by
 obtain ⟨z,c,rfl,h2,h3,h4,_⟩:=hv
 have b1:=(De.msz_spec hr).2.2.2
 have b2:=(De.msz_spec hs).2.2.2
 have hf:=(De.fl_getD h3).symm
 have hp:=De.pair_no hr hs hf
 have e2:=De.ddec_of (De.nV_lt (fun i=>(De.dE r s).getD (2+i) 0)) (De.nV_lt (fun i=>(De.dE r s).getD (4+(De.dE r s).getD 3 0+i) 0))
 rw [De.pair_yes hp,← hf,De.ddec_of hr hs] at e2
 have e3:=Option.some.inj e2
 intro w1 hb
 exact De.dec_some (h4.keep hb) (hE.keep hb) h2 (by omega) hp (congrArg Prod.fst e3).symm (congrArg Prod.snd e3).symm
theorem dec_pt {w:World} (hT:Tab w) {x y:Fin m0} {a:Wp m0} (ha:a.on wb) (hxy:a=some (x,y)) {v:Value} {F:Nat→Bool} (hv:(rdPd (ptL a).length (ptL a)).p v F w):∀ w1,Below w.heap.size w w1→Calls Tryz.prog 35 [v].toArray w1 fun e w'=>e=.returned (.tuple [.agg (fc (x)++fc (y)++[Value.bool false]).toArray,.bool true].toArray)∧Below w1.heap.size w1 w':=by
 have q:=dec_ptL hT ha (by rw [hxy];exact nofun) hv
 subst hxy
 exact q
theorem ver_y {w:World} (hT:Tab w) (hH:Sh.Tab w) (hE:De.Tab w) {n c:Nat} {z:Option Addr} {f:Nat→Nat} (hba:BA w z n f) (hc:n≤c) (hcm:c≤maxLen) (hn:n≤800000) {a:Wp m0} (ha:a.on wb) (hne:a≠Wp.o) {r s:Nat} (hr:wi r=true) (hs:wi s=true) {v1 v3:Value} {F1 F3:Nat→Bool} (h1:(rdPd (ptL a).length (ptL a)).p v1 F1 w) (h3:(rdPd (De.msz r+De.msz s+6) (De.dE r s)).p v3 F3 w):Calls Tryz.prog 14 [v1,Value.slice (z) (n) (c),v3].toArray w fun e w'=>e=.returned (.bool (rgt a (zN f n) r s))∧Below w.heap.size w w':=by
 obtain ⟨x,y,hxy⟩:∃ x y,a=some (x,y):=by
  cases a with
  | none=>exact absurd rfl hne
  | some q=>exact ⟨q.1,q.2,rfl⟩
 have hP:=dec_pt hT ha hxy h1
 have hS:=dec_sig hE (wi_lt hr) (wi_lt hs) h3
 obtain ⟨z1,c1,rfl,_⟩:=h1
 obtain ⟨z3,c3,rfl,_⟩:=h3
 exact qVer_y hT (wi_lt hr) (wi_lt hs) hP hS hH hba hc hcm hn ha hxy hr hs
theorem signs_long {w:World} (hT:Tab w) {D n c:Nat} {z:Option Addr} (hn:300<n):Calls Tryz.prog 5 [.agg (nc ((D:Int))).toArray,Value.slice (z) (n) (c)].toArray w fun e w'=>e=.returned (.bool true)∧Below w.heap.size w w':=by
 refine enter Tryz.func5 rfl 54 rfl (lk rfl) (fun a h=>?_)
 refine aX h [] [eN 2 _,eS 4 _] ⟨rfl,rfl,T0⟩ [(1,.val (.slice (z) (n) (c))),(2,.ptr 2 0)] [(2,nc ((D:Int)))] (fun a w h=>?_)
 refine wp_seq ?_
 refine aX h [0,4,5] [eS 11 (.val (.bool true)),eS 12 _,eS 13 _,eS 14 _,eS 15 (.val (.int .i64 (n:Int))),eS 16 (.val (.bool true)),eS 17 _] ⟨fun L u=>u_call u (gd0 rfl) _ rfl _ _ _ rfl [] rfl (cT8 _) _ (fun w hb=>awk (hT.keep (Bs.kp_of hb))),rfl,rfl,rfl,fun L u=>u_lenV u (gd1 u 2 false rfl 13 rfl (lk rfl) rfl) 15 rfl (.tmp 14) 25 rfl rfl Tryz.underlying25,fun L u=>u_bin u (gd1 u 2 false rfl 13 rfl (lk rfl) rfl) _ rfl _ _ _ _ _ rfl rfl rfl (zC _ _ _ _ _ _ _ _) _ (yes_of (fun w=>i_gtr _ _ _ _ w) (by omega)),rfl,T0⟩ [(1,_),(2,_),(17,.val (.bool true))] [(2,_)] (fun a w h=>?_)
 refine zE h true rfl (fun ht=>?_) (fun hf=>?_)
 case refine_2=>cases hf
 refine aX h [0] [eS 18 (.val (.bool true)),eS 4 _] ⟨fun L u=>u_call u (gd0 rfl) _ rfl _ _ _ rfl [] rfl (cT8 _) _ (fun w hb=>awk (hT.keep (Bs.kp_of hb))),rfl,T0⟩ [(4,.val (.bool true))] [] (fun a w h=>?_)
 refine wp_ret ?_
 refine zP ?_
 refine zR h 4 rfl (lk rfl) (Value.bool true) rfl ?_
 exact ⟨rfl,h.grows⟩
theorem signs_no {w:World} (hT:Tab w) {D n c:Nat} {z:Option Addr} (hn:n≤300) {n1:Nat} {l1:List Nat} {t1:Bool} (hPb:∀ w1,Below w.heap.size w w1→Calls Tryz.prog 9 [.agg (nc ((D:Int))).toArray].toArray w1 fun e w'=>∃ v Fp,e=.returned v∧(tupPd (rdPd (n1) (l1)) (.bool t1)).p v Fp w'∧(∀ b,Fp b=true→w1.heap.size≤b∧b<w'.heap.size)∧Below w1.heap.size w1 w') (hSg:∀ w1,Below w.heap.size w w1→Calls Tryz.prog 16 [.agg (nc ((D:Int))).toArray,Value.slice (z) (n) (c)].toArray w1 fun e w'=>∃ v Fp,e=.returned v∧(tupPd (rdPd (0) ([])) (.bool false)).p v Fp w'∧(∀ b,Fp b=true→w1.heap.size≤b∧b<w'.heap.size)∧Below w1.heap.size w1 w') (hRg:∀ w1,Below w.heap.size w w1→Calls Tryz.prog 17 [.agg (nc ((D:Int))).toArray,Value.slice (z) (n) (c)].toArray w1 fun e w'=>∃ v Fp,e=.returned v∧(tupPd (rdPd (0) ([])) (.bool false)).p v Fp w'∧(∀ b,Fp b=true→w1.heap.size≤b∧b<w'.heap.size)∧Below w1.heap.size w1 w'):Calls Tryz.prog 5 [.agg (nc ((D:Int))).toArray,Value.slice (z) (n) (c)].toArray w fun e w'=>e=.returned (.bool true)∧Below w.heap.size w w':=by
 refine enter Tryz.func5 rfl 54 rfl (lk rfl) (fun a h=>?_)
 refine aX h [] [eN 2 _,eS 4 _] ⟨rfl,rfl,T0⟩ [(1,.val (.slice (z) (n) (c))),(2,.ptr 2 0)] [(2,nc ((D:Int)))] (fun a w h=>?_)
 refine wp_seq ?_
 refine aX h [0,4,5] [eS 11 (.val (.bool true)),eS 12 _,eS 13 _,eS 14 _,eS 15 (.val (.int .i64 (n:Int))),eS 16 (.val (.bool false)),eS 17 _] ⟨fun L u=>u_call u (gd0 rfl) _ rfl _ _ _ rfl [] rfl (cT8 _) _ (fun w hb=>awk (hT.keep (Bs.kp_of hb))),rfl,rfl,rfl,fun L u=>u_lenV u (gd1 u 2 false rfl 13 rfl (lk rfl) rfl) 15 rfl (.tmp 14) 25 rfl rfl Tryz.underlying25,fun L u=>u_bin u (gd1 u 2 false rfl 13 rfl (lk rfl) rfl) _ rfl _ _ _ _ _ rfl rfl rfl (zC _ _ _ _ _ _ _ _) _ (no_of (fun w=>i_gtr _ _ _ _ w) (by omega)),rfl,T0⟩ [(1,_),(2,_),(17,.val (.bool false))] [(2,_)] (fun a w h=>?_)
 refine zE h false rfl (fun ht=>?_) (fun hf=>?_)
 case refine_1=>cases ht
 refine wp_skip ?_
 refine zB ?_
 refine aXQ h [2,3,4,5,6] [eS 20 _,eS 21 _,eQ 22 (tupPd (rdPd (0) ([])) (Value.bool false)),eS 19 (.unk 22 id),eS 23 (.unk 22 fstV),eS 24 (.val (.bool false)),eS 5 (.unk 22 fstV),eS 6 _] ⟨rfl,rfl,fun L u=>zX u (gd0 rfl) 22 rfl rfl 16 #[(.tmp 20),(.tmp 21)] #[24,25] rfl [.val (.agg (nc ((D:Int))).toArray),.val (.slice (z) (n) (c))] rfl (fun vs w=>zA Tryz.func16 (by kernel_rfl) (by kernel_rfl) vs w) (tupPd (rdPd (0) ([])) (Value.bool false)) (fun β a w hr=>hSg w (Bs.kp_of hr.bl)),fun L u=>zG u (gd0 rfl) 19 rfl (.tmp 22) (Or.inl rfl) rfl rfl,fun L u=>u_ext0T u (gd0 rfl) 23 rfl (.tmp 19) rfl rfl rfl,fun L u=>u_ext1T u (gd0 rfl) 24 rfl (.tmp 19) rfl rfl rfl,fun L u=>zG u (gd0 rfl) 5 rfl (.tmp 23) (Or.inr rfl) rfl rfl,rfl,T0⟩ [(1,_),(2,_),(5,.unk 22 fstV),(6,.val (.bool false))] [(2,_)] [(22,tupPd (rdPd (0) ([])) (Value.bool false))] (fun a w h=>?_)
 refine aXQ h [2,3,4,5,6] [eS 26 _,eS 27 _,eQ 28 (tupPd (rdPd (0) ([])) (Value.bool false)),eS 25 (.unk 28 id),eS 29 (.unk 28 fstV),eS 30 (.val (.bool false)),eS 7 (.unk 28 fstV),eS 8 _] ⟨rfl,rfl,fun L u=>zX u (gd0 rfl) 28 rfl rfl 17 #[(.tmp 26),(.tmp 27)] #[24,25] rfl [.val (.agg (nc ((D:Int))).toArray),.val (.slice (z) (n) (c))] rfl (fun vs w=>zA Tryz.func17 (by kernel_rfl) (by kernel_rfl) vs w) (tupPd (rdPd (0) ([])) (Value.bool false)) (fun β a w hr=>hRg w (Bs.kp_of hr.bl)),fun L u=>zG u (gd0 rfl) 25 rfl (.tmp 28) (Or.inl rfl) rfl rfl,fun L u=>u_ext0T u (gd0 rfl) 29 rfl (.tmp 25) rfl rfl rfl,fun L u=>u_ext1T u (gd0 rfl) 30 rfl (.tmp 25) rfl rfl rfl,fun L u=>zG u (gd0 rfl) 7 rfl (.tmp 29) (Or.inr rfl) rfl rfl,rfl,T0⟩ [(1,_),(2,_),(5,_),(6,_),(7,.unk 28 fstV),(8,.val (.bool false))] [(2,_)] [(22,tupPd (rdPd (0) ([])) (Value.bool false)),(28,tupPd (rdPd (0) ([])) (Value.bool false))] (fun a w h=>?_)
 refine aXQ h [1,2,3,4,5] [eS 32 _,eQ 33 (tupPd (rdPd (n1) (l1)) (Value.bool t1)),eS 31 (.unk 33 id),eS 34 (.unk 33 fstV),eS 35 (.val (.bool t1)),eS 9 (.unk 33 fstV),eS 10 _] ⟨rfl,fun L u=>zX u (gd0 rfl) 33 rfl rfl 9 #[(.tmp 32)] #[24] rfl [.val (.agg (nc ((D:Int))).toArray)] rfl (fun vs w=>zA Tryz.func9 (by kernel_rfl) (by kernel_rfl) vs w) (tupPd (rdPd (n1) (l1)) (Value.bool t1)) (fun β a w hr=>hPb w (Bs.kp_of hr.bl)),fun L u=>zG u (gd0 rfl) 31 rfl (.tmp 33) (Or.inl rfl) rfl rfl,fun L u=>u_ext0T u (gd0 rfl) 34 rfl (.tmp 31) rfl rfl rfl,fun L u=>u_ext1T u (gd0 rfl) 35 rfl (.tmp 31) rfl rfl rfl,fun L u=>zG u (gd0 rfl) 9 rfl (.tmp 34) (Or.inr rfl) rfl rfl,rfl,T0⟩ [(1,_),(5,_),(6,_),(7,_),(8,_),(9,.unk 33 fstV)] [] [(22,tupPd (rdPd (0) ([])) (Value.bool false)),(28,tupPd (rdPd (0) ([])) (Value.bool false)),(33,tupPd (rdPd (n1) (l1)) (Value.bool t1))] (fun a w h=>?_)
 refine aX h [2,4,5,6] [eS 36 _,eS 37 _,eS 38 (.val (.bool true)),eS 39 _,eS 40 (.unk 22 fstV),eS 41 (.unk 28 fstV),eS 42 (.val (.bool true)),eS 43 _,eS 44 _,eS 45 _,eS 46 _,eS 47 _,eS 48 _,eS 49 _,eS 50 _,eS 51 _,eS 52 _,eS 53 _,eS 4 _] ⟨rfl,rfl,fun L u=>u_bin u (gd0 rfl) _ rfl _ _ _ _ _ rfl rfl rfl (eqg_bool _ _ _ _ _ _) _ (fun w=>t_eqB _ Tryz.underlying4 _ _ _ rfl w),rfl,fun L u=>zG u (gd1 u 3 true rfl 39 rfl (lk rfl) rfl) 40 rfl (.tmp 5) (Or.inl rfl) rfl rfl,fun L u=>zG u (gd1 u 3 true rfl 39 rfl (lk rfl) rfl) 41 rfl (.tmp 7) (Or.inl rfl) rfl rfl,fun L u=>u_callR u (gd1 u 3 true rfl 39 rfl (lk rfl) rfl) 42 rfl 11 #[(.tmp 40),(.tmp 41)] #[25,25] rfl [.unk 22 fstV,.unk 28 fstV] rfl (fun vs w=>zA Tryz.func11 (by kernel_rfl) (by kernel_rfl) vs w) (Value.bool true) (fun β a w hr=>sameV (by decide) (fst_rd (hr.thing (x:=22) (u.q rfl))) (fst_rd (hr.thing (x:=28) (u.q rfl)))),rfl,rfl,rfl,rfl,rfl,rfl,rfl,rfl,rfl,rfl,rfl,rfl,T0⟩ [(4,.val (.bool true))] [] (fun a w h=>?_)
 refine wp_ret ?_
 refine zR h 4 rfl (lk rfl) (Value.bool true) rfl ?_
 exact ⟨rfl,h.grows⟩
theorem signs_yes {w:World} (hT:Tab w) {D n c:Nat} {z:Option Addr} (hn:n≤300) {n1:Nat} {l1:List Nat} {t1:Bool} (hPb:∀ w1,Below w.heap.size w w1→Calls Tryz.prog 9 [.agg (nc ((D:Int))).toArray].toArray w1 fun e w'=>∃ v Fp,e=.returned v∧(tupPd (rdPd (n1) (l1)) (.bool t1)).p v Fp w'∧(∀ b,Fp b=true→w1.heap.size≤b∧b<w'.heap.size)∧Below w1.heap.size w1 w') {r s:Nat} (hle:De.msz r+De.msz s+6≤1000) (hSg:∀ w1,Below w.heap.size w w1→Calls Tryz.prog 16 [.agg (nc ((D:Int))).toArray,Value.slice (z) (n) (c)].toArray w1 fun e w'=>∃ v Fp,e=.returned v∧(tupPd (rdPd (De.msz r+De.msz s+6) (De.dE r s)) (.bool true)).p v Fp w'∧(∀ b,Fp b=true→w1.heap.size≤b∧b<w'.heap.size)∧Below w1.heap.size w1 w') (hRg:∀ w1,Below w.heap.size w w1→Calls Tryz.prog 17 [.agg (nc ((D:Int))).toArray,Value.slice (z) (n) (c)].toArray w1 fun e w'=>∃ v Fp,e=.returned v∧(tupPd (rdPd (De.msz r+De.msz s+6) (De.dE r s)) (.bool true)).p v Fp w'∧(∀ b,Fp b=true→w1.heap.size≤b∧b<w'.heap.size)∧Below w1.heap.size w1 w') (hV:∀ w1 v1 F1 v3 F3,Below w.heap.size w w1→(rdPd n1 l1).p v1 F1 w1→(rdPd (De.msz r+De.msz s+6) (De.dE r s)).p v3 F3 w1→Calls Tryz.prog 14 [v1,Value.slice (z) (n) (c),v3].toArray w1 fun e w'=>e=.returned (.bool true)∧Below w1.heap.size w1 w'):Calls Tryz.prog 5 [.agg (nc ((D:Int))).toArray,Value.slice (z) (n) (c)].toArray w fun e w'=>e=.returned (.bool true)∧Below w.heap.size w w':=by
 refine enter Tryz.func5 rfl 54 rfl (lk rfl) (fun a h=>?_)
 refine aX h [] [eN 2 _,eS 4 _] ⟨rfl,rfl,T0⟩ [(1,.val (.slice (z) (n) (c))),(2,.ptr 2 0)] [(2,nc ((D:Int)))] (fun a w h=>?_)
 refine wp_seq ?_
 refine aX h [0,4,5] [eS 11 (.val (.bool true)),eS 12 _,eS 13 _,eS 14 _,eS 15 (.val (.int .i64 (n:Int))),eS 16 (.val (.bool false)),eS 17 _] ⟨fun L u=>u_call u (gd0 rfl) _ rfl _ _ _ rfl [] rfl (cT8 _) _ (fun w hb=>awk (hT.keep (Bs.kp_of hb))),rfl,rfl,rfl,fun L u=>u_lenV u (gd1 u 2 false rfl 13 rfl (lk rfl) rfl) 15 rfl (.tmp 14) 25 rfl rfl Tryz.underlying25,fun L u=>u_bin u (gd1 u 2 false rfl 13 rfl (lk rfl) rfl) _ rfl _ _ _ _ _ rfl rfl rfl (zC _ _ _ _ _ _ _ _) _ (no_of (fun w=>i_gtr _ _ _ _ w) (by omega)),rfl,T0⟩ [(1,_),(2,_),(17,.val (.bool false))] [(2,_)] (fun a w h=>?_)
 refine zE h false rfl (fun ht=>?_) (fun hf=>?_)
 case refine_1=>cases ht
 refine wp_skip ?_
 refine zB ?_
 refine aXQ h [2,3,4,5,6] [eS 20 _,eS 21 _,eQ 22 (tupPd (rdPd (De.msz r+De.msz s+6) (De.dE r s)) (Value.bool true)),eS 19 (.unk 22 id),eS 23 (.unk 22 fstV),eS 24 (.val (.bool true)),eS 5 (.unk 22 fstV),eS 6 _] ⟨rfl,rfl,fun L u=>zX u (gd0 rfl) 22 rfl rfl 16 #[(.tmp 20),(.tmp 21)] #[24,25] rfl [.val (.agg (nc ((D:Int))).toArray),.val (.slice (z) (n) (c))] rfl (fun vs w=>zA Tryz.func16 (by kernel_rfl) (by kernel_rfl) vs w) (tupPd (rdPd (De.msz r+De.msz s+6) (De.dE r s)) (Value.bool true)) (fun β a w hr=>hSg w (Bs.kp_of hr.bl)),fun L u=>zG u (gd0 rfl) 19 rfl (.tmp 22) (Or.inl rfl) rfl rfl,fun L u=>u_ext0T u (gd0 rfl) 23 rfl (.tmp 19) rfl rfl rfl,fun L u=>u_ext1T u (gd0 rfl) 24 rfl (.tmp 19) rfl rfl rfl,fun L u=>zG u (gd0 rfl) 5 rfl (.tmp 23) (Or.inr rfl) rfl rfl,rfl,T0⟩ [(1,_),(2,_),(5,.unk 22 fstV),(6,.val (.bool true))] [(2,_)] [(22,tupPd (rdPd (De.msz r+De.msz s+6) (De.dE r s)) (Value.bool true))] (fun a w h=>?_)
 refine aXQ h [2,3,4,5,6] [eS 26 _,eS 27 _,eQ 28 (tupPd (rdPd (De.msz r+De.msz s+6) (De.dE r s)) (Value.bool true)),eS 25 (.unk 28 id),eS 29 (.unk 28 fstV),eS 30 (.val (.bool true)),eS 7 (.unk 28 fstV),eS 8 _] ⟨rfl,rfl,fun L u=>zX u (gd0 rfl) 28 rfl rfl 17 #[(.tmp 26),(.tmp 27)] #[24,25] rfl [.val (.agg (nc ((D:Int))).toArray),.val (.slice (z) (n) (c))] rfl (fun vs w=>zA Tryz.func17 (by kernel_rfl) (by kernel_rfl) vs w) (tupPd (rdPd (De.msz r+De.msz s+6) (De.dE r s)) (Value.bool true)) (fun β a w hr=>hRg w (Bs.kp_of hr.bl)),fun L u=>zG u (gd0 rfl) 25 rfl (.tmp 28) (Or.inl rfl) rfl rfl,fun L u=>u_ext0T u (gd0 rfl) 29 rfl (.tmp 25) rfl rfl rfl,fun L u=>u_ext1T u (gd0 rfl) 30 rfl (.tmp 25) rfl rfl rfl,fun L u=>zG u (gd0 rfl) 7 rfl (.tmp 29) (Or.inr rfl) rfl rfl,rfl,T0⟩ [(1,_),(2,_),(5,_),(6,_),(7,.unk 28 fstV),(8,.val (.bool true))] [(2,_)] [(22,tupPd (rdPd (De.msz r+De.msz s+6) (De.dE r s)) (Value.bool true)),(28,tupPd (rdPd (De.msz r+De.msz s+6) (De.dE r s)) (Value.bool true))] (fun a w h=>?_)
 refine aXQ h [1,2,3,4,5] [eS 32 _,eQ 33 (tupPd (rdPd (n1) (l1)) (Value.bool t1)),eS 31 (.unk 33 id),eS 34 (.unk 33 fstV),eS 35 (.val (.bool t1)),eS 9 (.unk 33 fstV),eS 10 _] ⟨rfl,fun L u=>zX u (gd0 rfl) 33 rfl rfl 9 #[(.tmp 32)] #[24] rfl [.val (.agg (nc ((D:Int))).toArray)] rfl (fun vs w=>zA Tryz.func9 (by kernel_rfl) (by kernel_rfl) vs w) (tupPd (rdPd (n1) (l1)) (Value.bool t1)) (fun β a w hr=>hPb w (Bs.kp_of hr.bl)),fun L u=>zG u (gd0 rfl) 31 rfl (.tmp 33) (Or.inl rfl) rfl rfl,fun L u=>u_ext0T u (gd0 rfl) 34 rfl (.tmp 31) rfl rfl rfl,fun L u=>u_ext1T u (gd0 rfl) 35 rfl (.tmp 31) rfl rfl rfl,fun L u=>zG u (gd0 rfl) 9 rfl (.tmp 34) (Or.inr rfl) rfl rfl,rfl,T0⟩ [(1,_),(5,_),(6,_),(7,_),(8,_),(9,.unk 33 fstV)] [] [(22,tupPd (rdPd (De.msz r+De.msz s+6) (De.dE r s)) (Value.bool true)),(28,tupPd (rdPd (De.msz r+De.msz s+6) (De.dE r s)) (Value.bool true)),(33,tupPd (rdPd (n1) (l1)) (Value.bool t1))] (fun a w h=>?_)
 refine aX h [2,4,5,6,12,14,15] [eS 36 _,eS 37 _,eS 38 (.val (.bool true)),eS 39 _,eS 40 (.unk 22 fstV),eS 41 (.unk 28 fstV),eS 42 (.val (.bool true)),eS 43 _,eS 44 _,eS 45 _,eS 46 _,eS 47 _,eS 48 (.unk 33 fstV),eS 49 _,eS 50 (.unk 22 fstV),eS 51 (.val (.bool true)),eS 52 _,eS 53 _,eS 4 _] ⟨rfl,rfl,fun L u=>u_bin u (gd0 rfl) _ rfl _ _ _ _ _ rfl rfl rfl (eqg_bool _ _ _ _ _ _) _ (fun w=>t_eqB _ Tryz.underlying4 _ _ _ rfl w),rfl,fun L u=>zG u (gd1 u 3 true rfl 39 rfl (lk rfl) rfl) 40 rfl (.tmp 5) (Or.inl rfl) rfl rfl,fun L u=>zG u (gd1 u 3 true rfl 39 rfl (lk rfl) rfl) 41 rfl (.tmp 7) (Or.inl rfl) rfl rfl,fun L u=>u_callR u (gd1 u 3 true rfl 39 rfl (lk rfl) rfl) 42 rfl 11 #[(.tmp 40),(.tmp 41)] #[25,25] rfl [.unk 22 fstV,.unk 28 fstV] rfl (fun vs w=>zA Tryz.func11 (by kernel_rfl) (by kernel_rfl) vs w) (Value.bool true) (fun β a w hr=>sameV hle (fst_rd (hr.thing (x:=22) (u.q rfl))) (fst_rd (hr.thing (x:=28) (u.q rfl)))),rfl,rfl,rfl,rfl,rfl,fun L u=>zG u (gd1 u 11 false rfl 47 rfl (lk rfl) rfl) 48 rfl (.tmp 9) (Or.inl rfl) rfl rfl,rfl,fun L u=>zG u (gd1 u 11 false rfl 47 rfl (lk rfl) rfl) 50 rfl (.tmp 5) (Or.inl rfl) rfl rfl,fun L u=>u_callR u (gd1 u 11 false rfl 47 rfl (lk rfl) rfl) 51 rfl 14 #[(.tmp 48),(.tmp 49),(.tmp 50)] #[25,25,25] rfl [.unk 33 fstV,.val (.slice (z) (n) (c)),.unk 22 fstV] rfl (fun vs w=>zA Tryz.func14 (by kernel_rfl) (by kernel_rfl) vs w) (Value.bool true) (fun β a w hr=>hV w _ _ _ _ (Bs.kp_of hr.bl) (fst_rd (hr.thing (x:=33) (u.q rfl))) (fst_rd (hr.thing (x:=22) (u.q rfl)))),rfl,rfl,rfl,T0⟩ [(4,.val (.bool true))] [] (fun a w h=>?_)
 refine wp_ret ?_
 refine zR h 4 rfl (lk rfl) (Value.bool true) rfl ?_
 exact ⟨rfl,h.grows⟩
theorem ecdsaSigns_walk {w:World} (hT:Tab w) (hH:Sh.Tab w) (hE:De.Tab w) {D n c:Nat} {z:Option Addr} {f:Nat→Nat} (hD:D<2 ^ 256) (hba:BA w z n f) (hc:n≤c∧c≤maxLen):Calls Tryz.prog 5 [.agg (nc ((D:Int))).toArray,Value.slice (z) (n) (c)].toArray w fun e w'=>e=.returned (.bool true)∧Below w.heap.size w w':=by
 by_cases hn:300<n
 ·exact signs_long hT hn
 have hS0:=fun w1 (hb:Below w.heap.size w w1)=>rSign (c:=c) (hT.keep hb) hD (hba.keep hb) (by omega)
 cases hX:sgn D (zN f n) (nns D (mo ((zN f n:Nat):Int))) with
 | none =>
  have hS1:=fun w1 (hb:Below w.heap.size w w1)=>qSign_no (hT.keep hb) (hH.keep hb) hD (hba.keep hb) hc.1 hc.2 (by omega) hX
  rw [hX] at hS0
  cases hw:wi D with
  | false=>exact signs_no hT (by omega) (fun w1 hb=>qPubN (hT.keep hb) hD hw) hS1 hS0
  | true=>exact signs_no hT (by omega) (fun w1 hb=>qPubY (hT.keep hb) hD hw) hS1 hS0
 | some q =>
  obtain ⟨r,s⟩:=q
  have hS1:=fun w1 (hb:Below w.heap.size w w1)=>qSign_yes (hT.keep hb) (hH.keep hb) hD (hba.keep hb) hc.1 hc.2 (by omega) hX
  rw [hX] at hS0
  have hw:wi D=true:=by
   cases hw:wi D with
   | true=>rfl
   | false =>
    rw [nns_no hw] at hX
    cases hX
  obtain ⟨h1,h2,h3⟩:=rgt_sgn (nns_wi D _) hX
  have b1:=(De.msz_spec (wi_lt h1)).2.2.2
  have b2:=(De.msz_spec (wi_lt h2)).2.2.2
  refine signs_yes hT (by omega) (fun w1 hb=>qPubY (hT.keep hb) hD hw) (by omega) hS1 hS0 (fun w1 v1 F1 v3 F3 hb p1 p3=>?_)
  have q:=ver_y (hT.keep hb) (hH.keep hb) (hE.keep hb) (hba.keep hb) hc.1 hc.2 (by omega) (mt_on wgr wG_on D) (G_ne hw) h1 h2 p1 p3
  rw [h3] at q
  exact q
end Go.Proofs.YtmigakanbeckpaaGreatDoor
namespace Go.Proofs.YtmigakanbeckpaaGreatDoor
set_option maxRecDepth 100000
open Go.ChangeShapes Go.WideShapes Go.ChangeAt Go.RowKit
theorem own:ownKnob Tryz.prog.godebug=none:=by kernel_rfl
theorem cellsU64:Tryz.prog.cellsOf 22=1:=by kernel_rfl
theorem cellsNat:Tryz.prog.cellsOf 24=4:=by kernel_rfl
theorem word_of_wf {x:Int} (h:(Lit.int .u64 x).wf=true):0≤x∧x<18446744073709551616:=by
 simp [Lit.wf,IntKind.min,IntKind.max,IntKind.signed,IntKind.bits] at h
 exact ⟨by omega,by omega⟩
theorem wf_of_word {x:Int} (h:0≤x∧x<18446744073709551616):(Lit.int .u64 x).wf=true:=by
 simp [Lit.wf,IntKind.min,IntKind.max,IntKind.signed,IntKind.bits]
 omega
theorem list4 {α:Type} (l:List α) (h:(⟨l⟩:Array α).size=4):∃ a b c d,l=[a,b,c,d]:=by
 match l,h with
 | [a,b,c,d],_=>exact ⟨a,b,c,d,rfl⟩
theorem open_nat {H:Type} {enc:TypeId × Value→H} {W:World} {base:Nat} {v:Value} {d:DataW H} {p:List MemPlace}
  (hv:Value.okWide Tryz.prog W .any base 24 v) (h:DataW.Trod enc Tryz.prog W 0 (fun _=>true) true 24 v d p) :
  ∃ a,Num a∧v=.agg #[.int .u64 (L 0 a),.int .u64 (L 1 a),.int .u64 (L 2 a),.int .u64 (L 3 a)]∧d=DataW.agg [.lit (.int .u64 (L 0 a)),.lit (.int .u64 (L 1 a)),.lit (.int .u64 (L 2 a)),.lit (.int .u64 (L 3 a))]∧p=[]:=by
 obtain ⟨cs,rfl,hsz,_⟩:∃ cs,v=.agg cs∧cs.size=Tryz.prog.cellsOf 24∧Row.okWide Tryz.prog W .any base 24 cs:=by
  simpa [Value.okWide,Tryz.underlying24] using hv
 rw [cellsNat] at hsz
 obtain ⟨l⟩:=cs
 obtain ⟨c0,c1,c2,c3,rfl⟩:=list4 l hsz
 obtain ⟨fuel,hf⟩:=h
 obtain ⟨y0,y1,y2,y3,m,hx,hy0,hy1,hy2,hy3⟩:=trod_array4 Tryz.underlying24 cellsU64 hf
 obtain ⟨x0,e0,rfl,w0⟩:=DataW.trod_int Tryz.underlying22 hy0
 obtain ⟨x1,e1,rfl,w1⟩:=DataW.trod_int Tryz.underlying22 hy1
 obtain ⟨x2,e2,rfl,w2⟩:=DataW.trod_int Tryz.underlying22 hy2
 obtain ⟨x3,e3,rfl,w3⟩:=DataW.trod_int Tryz.underlying22 hy3
 simp at e0 e1 e2 e3
 subst e0 e1 e2 e3
 simp only [Prod.mk.injEq] at hx
 obtain ⟨rfl,rfl⟩:=hx
 obtain ⟨a,ha,rfl,rfl,rfl,rfl⟩:=num_of x0 x1 x2 x3 (word_of_wf w0) (word_of_wf w1) (word_of_wf w2) (word_of_wf w3)
 exact ⟨a,ha,rfl,rfl,rfl⟩
theorem shut_nat {H:Type} {enc:TypeId × Value→H} (W:World) (sp:Nat→Bool) (a:Int) :
  DataW.Trod enc Tryz.prog W 0 sp true 24 (.agg #[.int .u64 (L 0 a),.int .u64 (L 1 a),.int .u64 (L 2 a),.int .u64 (L 3 a)]) (DataW.agg [.lit (.int .u64 (L 0 a)),.lit (.int .u64 (L 1 a)),.lit (.int .u64 (L 2 a)),.lit (.int .u64 (L 3 a))]) []:=by
 have w0:=wf_of_word ⟨L_lo 0 a,L_hi 0 a⟩
 have w1:=wf_of_word ⟨L_lo 1 a,L_hi 1 a⟩
 have w2:=wf_of_word ⟨L_lo 2 a,L_hi 2 a⟩
 have w3:=wf_of_word ⟨L_lo 3 a,L_hi 3 a⟩
 exact ⟨2,by simp [DataW.trod,Value.cells,Tryz.underlying24,Tryz.underlying22,cellsNat,cellsU64,w0,w1,w2,w3,show List.range 4=[0,1,2,3] from rfl]⟩
theorem Tryz.laidOut:laidOutB Tryz.prog=true:=by kernel_rfl
theorem cellsU8:Tryz.prog.cellsOf 5=1:=by kernel_rfl
theorem natOf {a:Int} (h:Num a):∃ A:Nat,a=(A:Int)∧A<2 ^ 256:=⟨a.toNat,by have:=h.lo;omega,by have h2:=h.hi;have:=h.lo;unfold M at h2;omega⟩
theorem open_bytes {H:Type} {enc:TypeId × Value→H} {W:World} {base:Nat} {v:Value} {d:DataW H} {p:List MemPlace}
  (hv:Value.okWide Tryz.prog W .any base 25 v) (h:DataW.Trod enc Tryz.prog W 0 (fun _=>true) true 25 v d p) :
  ∃ a n c f,v=.slice a n c∧BA W a n f∧n≤c∧c≤maxLen:=by
 obtain ⟨a0,len,cap,rfl⟩:=okWide_slice Tryz.underlying25 hv
 obtain ⟨fuel,hf⟩:=h
 rcases open_ints Tryz.underlying25 Tryz.underlying5 cellsU8 hf with ⟨hcs,hx⟩ | ⟨a,len',cap',zs,hcs,_,hl,hm,hz,hx,hcell,hwz⟩
 ·simp [Value.cells] at hcs
  obtain ⟨rfl,rfl,rfl⟩:=hcs
  exact ⟨none,0,0,fun _=>0,rfl,⟨fun _=>by omega,Or.inl rfl⟩,by omega,by unfold maxLen;omega⟩
 ·simp [Value.cells] at hcs
  obtain ⟨rfl,rfl,rfl⟩:=hcs
  simp only [if_true] at hz
  have hr:∀ i,0≤zs.getD i 0∧zs.getD i 0<256:=fun i=>by
   have h:=range_u8 hwz i
   simp only [List.getD_eq_getElem?_getD]
   omega
  refine ⟨some a,len,cap,fun i=>(zs.getD i 0).toNat,rfl,⟨fun i=>by have:=hr i;omega,?_⟩,hl,hm⟩
  by_cases h0:len=0
  ·exact Or.inl h0
  ·obtain ⟨b,off,rfl,hc⟩:=ints_at hcell (by omega)
   exact Or.inr ⟨b,off,rfl,⟨fun i hi=>by
    have:=hr i
    rw [hc i (by omega),Int.toNat_of_nonneg this.1]⟩⟩
theorem gMod : Tryz.prog.globalNamed "chronicle/field.moduli" = some 1 := by kernel_rfl
theorem tMod:(Tryz.prog.globals[1]?).map (·.type)=some 129:=by kernel_rfl
theorem gB : Tryz.prog.globalNamed "chronicle/p256.curveB" = some 0 := by kernel_rfl
theorem tB:(Tryz.prog.globals[0]?).map (·.type)=some 24:=by kernel_rfl
theorem gFirst : Tryz.prog.globalNamed "chronicle/sha256.first" = some 2 := by kernel_rfl
theorem tFirst:(Tryz.prog.globals[2]?).map (·.type)=some 111:=by kernel_rfl
theorem gK : Tryz.prog.globalNamed "chronicle/sha256.constants" = some 4 := by kernel_rfl
theorem tK:(Tryz.prog.globals[4]?).map (·.type)=some 151:=by kernel_rfl
theorem gErr : Tryz.prog.globalNamed "chronicle/der.errByte" = some 3 := by kernel_rfl
theorem tErr:(Tryz.prog.globals[3]?).map (·.type)=some 141:=by kernel_rfl
theorem cellsModuli:Tryz.prog.cellsOf 129=16:=by kernel_rfl
theorem cellsMod:Tryz.prog.cellsOf 107=4:=by kernel_rfl
theorem cellsU32:Tryz.prog.cellsOf 109=1:=by kernel_rfl
theorem cellsSt:Tryz.prog.cellsOf 111=8:=by kernel_rfl
theorem cellsW64:Tryz.prog.cellsOf 151=64:=by kernel_rfl
theorem list16 {α:Type} (l:List α) (h:l.length=16):∃ x0 x1 x2 x3 x4 x5 x6 x7 x8 x9 x10 x11 x12 x13 x14 x15,l=[x0,x1,x2,x3,x4,x5,x6,x7,x8,x9,x10,x11,x12,x13,x14,x15]:=by
 match l,h with
 | [x0,x1,x2,x3,x4,x5,x6,x7,x8,x9,x10,x11,x12,x13,x14,x15],_=>exact ⟨x0,x1,x2,x3,x4,x5,x6,x7,x8,x9,x10,x11,x12,x13,x14,x15,rfl⟩
theorem cells_of_table {H:Type} {enc:TypeId × Value→H} {W:World} {sp:Nat→Bool} {held:Bool} {fuel:Nat} {l:List Value} {p:List MemPlace}
  (h:DataW.trod enc Tryz.prog W 0 sp held fuel 129 l=some (Rows.laid_chronicle_field_moduli,p)):l=[.int .u64 18446744073709551615,.int .u64 4294967295,.int .u64 0,.int .u64 18446744069414584321,.int .u64 17562291160714782033,.int .u64 13611842547513532036,.int .u64 18446744073709551615,.int .u64 18446744069414584320,.int .u64 18446744073709551597,.int .u64 18446744073709551615,.int .u64 18446744073709551615,.int .u64 9223372036854775807,.int .u64 6346243789798364141,.int .u64 1503914060200516822,.int .u64 0,.int .u64 1152921504606846976]:=by
 cases fuel with
 | zero=>simp [DataW.trod] at h
 | succ fuel =>
  simp only [DataW.trod,Tryz.underlying129,cellsModuli,cellsMod] at h
  split at h
  ·rename_i hl
   obtain ⟨x0,x1,x2,x3,x4,x5,x6,x7,x8,x9,x10,x11,x12,x13,x14,x15,rfl⟩:=list16 l (by simpa using hl)
   rw [show List.range 4=[0,1,2,3] from rfl] at h
   simp only [Option.map_eq_some_iff,List.mapM_cons,List.mapM_nil,Option.bind_eq_bind,Option.bind_eq_some_iff,Option.pure_def,Option.some.injEq] at h
   obtain ⟨ys,⟨y0,h0,_,⟨y1,h1,_,⟨y2,h2,_,⟨y3,h3,_,rfl,rfl⟩,rfl⟩,rfl⟩,rfl⟩,hx⟩:=h
   obtain ⟨d0,p0⟩:=y0
   obtain ⟨d1,p1⟩:=y1
   obtain ⟨d2,p2⟩:=y2
   obtain ⟨d3,p3⟩:=y3
   simp only [Rows.laid_chronicle_field_moduli,List.map_cons,List.map_nil,Prod.mk.injEq,DataW.agg.injEq,List.cons.injEq,and_true] at hx
   obtain ⟨⟨e0,e1,e2,e3⟩,_⟩:=hx
   subst e0 e1 e2 e3
   have g0:=Lib.cells_of_tab (k:=.u64) (zs:=[18446744073709551615,4294967295,0,18446744069414584321]) Tryz.underlying107 Tryz.underlying22 cellsU64 cellsMod h0
   have g1:=Lib.cells_of_tab (k:=.u64) (zs:=[17562291160714782033,13611842547513532036,18446744073709551615,18446744069414584320]) Tryz.underlying107 Tryz.underlying22 cellsU64 cellsMod h1
   have g2:=Lib.cells_of_tab (k:=.u64) (zs:=[18446744073709551597,18446744073709551615,18446744073709551615,9223372036854775807]) Tryz.underlying107 Tryz.underlying22 cellsU64 cellsMod h2
   have g3:=Lib.cells_of_tab (k:=.u64) (zs:=[6346243789798364141,1503914060200516822,0,1152921504606846976]) Tryz.underlying107 Tryz.underlying22 cellsU64 cellsMod h3
   simp at g0 g1 g2 g3
   simp [g0,g1,g2,g3]
  ·cases h
theorem first_at:∀ i,i<8→([1779033703,3144134277,1013904242,2773480762,1359893119,2600822924,528734635,1541459225]:List Int).getD i 0=Sh.wn (Sh.start.w i):=by decide +kernel
theorem k_at:∀ i,i<64→([1116352408,1899447441,3049323471,3921009573,961987163,1508970993,2453635748,2870763221,3624381080,310598401,607225278,1426881987,1925078388,2162078206,2614888103,3248222580,3835390401,4022224774,264347078,604807628,770255983,1249150122,1555081692,1996064986,2554220882,2821834349,2952996808,3210313671,3336571891,3584528711,113926993,338241895,666307205,773529912,1294757372,1396182291,1695183700,1986661051,2177026350,2456956037,2730485921,2820302411,3259730800,3345764771,3516065817,3600352804,4094571909,275423344,430227734,506948616,659060556,883997877,958139571,1322822218,1537002063,1747873779,1955562222,2024104815,2227730452,2361852424,2428436474,2756734187,3204031479,3329325298]:List Int).getD i 0=Sh.wn (Sh.kW i):=by decide +kernel
theorem cellsSErr:Tryz.prog.cellsOf 179=1:=by kernel_rfl
theorem cellsStr:Tryz.prog.cellsOf 9=1:=by kernel_rfl
theorem star : "*" ++ "errors.errorString" = "*errors.errorString" := by decide
theorem rowErr (u : TypeId) (h : Tryz.prog.typeName? 3 u = some "*errors.errorString") : u = 163 :=
 typeName_ptr_named (nm := "errors.errorString") (by rw [star]; kernel_rfl) (by kernel_rfl) (by decide) u (by rw [star]; exact h)
def laid1 : List (String × DataW Unit) := [("chronicle/sha256.first", Rows.laid_chronicle_sha256_first), ("chronicle/sha256.constants", Rows.laid_chronicle_sha256_constants), ("chronicle/field.moduli", Rows.laid_chronicle_field_moduli), ("chronicle/p256.curveB", Rows.laid_chronicle_p256_curveB), ("chronicle/der.errByte", Rows.laid_chronicle_der_errByte)]
theorem tab_of_laid {W:World} (h:laidMetH Tryz.prog laid1 W):Tab W∧Sh.Tab W∧De.Tab W:=by
 rw [MakeChecks.laidMetH_plain _ _ _ (by kernel_rfl)] at h
 have hf : Lib.TabIs Tryz.prog W "chronicle/sha256.first" .u32 [1779033703, 3144134277, 1013904242, 2773480762, 1359893119, 2600822924, 528734635, 1541459225] := Lib.tabIs_of_head (rest := [("chronicle/sha256.constants", Rows.laid_chronicle_sha256_constants), ("chronicle/field.moduli", Rows.laid_chronicle_field_moduli), ("chronicle/p256.curveB", Rows.laid_chronicle_p256_curveB), ("chronicle/der.errByte", Rows.laid_chronicle_der_errByte)]) gFirst tFirst Tryz.underlying111 Tryz.underlying109 cellsU32 cellsSt h
 have h0x:=h.tail
 have hk : Lib.TabIs Tryz.prog W "chronicle/sha256.constants" .u32 [1116352408, 1899447441, 3049323471, 3921009573, 961987163, 1508970993, 2453635748, 2870763221, 3624381080, 310598401, 607225278, 1426881987, 1925078388, 2162078206, 2614888103, 3248222580, 3835390401, 4022224774, 264347078, 604807628, 770255983, 1249150122, 1555081692, 1996064986, 2554220882, 2821834349, 2952996808, 3210313671, 3336571891, 3584528711, 113926993, 338241895, 666307205, 773529912, 1294757372, 1396182291, 1695183700, 1986661051, 2177026350, 2456956037, 2730485921, 2820302411, 3259730800, 3345764771, 3516065817, 3600352804, 4094571909, 275423344, 430227734, 506948616, 659060556, 883997877, 958139571, 1322822218, 1537002063, 1747873779, 1955562222, 2024104815, 2227730452, 2361852424, 2428436474, 2756734187, 3204031479, 3329325298] := Lib.tabIs_of_head (rest := [("chronicle/field.moduli", Rows.laid_chronicle_field_moduli), ("chronicle/p256.curveB", Rows.laid_chronicle_p256_curveB), ("chronicle/der.errByte", Rows.laid_chronicle_der_errByte)]) gK tK Tryz.underlying151 Tryz.underlying109 cellsU32 cellsW64 h0x
 have h1x:=h0x.tail
 have hmo:=h1x
 have h2x:=h1x.tail
 have hB : Lib.TabIs Tryz.prog W "chronicle/p256.curveB" .u64 [4309448131093880907, 7285987128567378166, 12964664127075681980, 6540974713487397863] := Lib.tabIs_of_head (rest := [("chronicle/der.errByte", Rows.laid_chronicle_der_errByte)]) gB tB Tryz.underlying24 Tryz.underlying22 cellsU64 cellsNat h2x
 have h3x:=h2x.tail
 obtain ⟨a0,s0,hv0,-,-,-⟩:=laid_sentinel h3x gErr tErr Tryz.underlying141 rowErr Tryz.underlying163 Tryz.underlying179 rfl rfl Tryz.underlying9 cellsSErr cellsStr
 obtain ⟨ps,⟨g,t,cs,fuel,p,q,hg,ht,hvar,hd,_,_⟩,_⟩:=hmo
 obtain rfl:=Option.some.inj (gMod.symm.trans hg)
 obtain rfl:=Option.some.inj (tMod.symm.trans ht)
 have hcs:=cells_of_table hd
 obtain ⟨l⟩:=cs
 simp only at hcs
 subst hcs
 refine ⟨?_,?_,?_⟩
 ·exact ⟨World.var?_cell hg hvar 0,World.var?_cell hg hvar 1,World.var?_cell hg hvar 2,World.var?_cell hg hvar 3,World.var?_cell hg hvar 4,World.var?_cell hg hvar 5,World.var?_cell hg hvar 6,World.var?_cell hg hvar 7,World.var?_cell hg hvar 8,World.var?_cell hg hvar 9,World.var?_cell hg hvar 10,World.var?_cell hg hvar 11,World.var?_cell hg hvar 12,World.var?_cell hg hvar 13,World.var?_cell hg hvar 14,World.var?_cell hg hvar 15,hB.cell gB 0 (by decide),hB.cell gB 1 (by decide),hB.cell gB 2 (by decide),hB.cell gB 3 (by decide)⟩
 ·exact ⟨fun i hi=>by rw [← first_at i hi];exact hf.cell gFirst i hi,fun i hi=>by rw [← k_at i hi];exact hk.cell gK i hi⟩
 ·exact ⟨_,_,by have h0:=World.var?_cell gErr hv0 0;simpa using h0⟩
theorem door_met (os:Os) (args:Array Value):laidMetH Tryz.prog laid1 ((World.doorLaid Tryz.prog 200 os).forCall (fun _ _=>0) ⟨#[],args,[]⟩).memory :=
 laidMetH_of_parts3 (fuel:=8) (laidMet_of_run' 8 (by kernel_rfl) (by kernel_rfl)) (by kernel_rfl) (by kernel_rfl)
end Go.Proofs.YtmigakanbeckpaaGreatDoor
