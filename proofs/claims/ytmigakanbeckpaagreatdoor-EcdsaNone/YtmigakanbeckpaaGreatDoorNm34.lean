/- What the document's own Verify of layer 11 answers, over what both Decodes and Right answer. What both Decodes of points answer; what the program's own right answers. What both Verifies answer. What both Publics answer, and that the program is awake. -/
import Derived.Test.YtmigakanbeckpaaGreatDoorNm33
import Derived.Test.YtmigakanbeckpaaGreatDoorNm32
import Derived.Test.YtmigakanbeckpaaGreatDoorNm28
import Derived.Test.YtmigakanbeckpaaGreatDoorNm29
set_option maxRecDepth 100000
set_option maxHeartbeats 4000000
namespace Go.Proofs.YtmigakanbeckpaaGreatDoor
open Go.RowKit
end Go.Proofs.YtmigakanbeckpaaGreatDoor
namespace Go.Proofs.YtmigakanbeckpaaGreatDoor
open Go.RowKit
def dpV (X:Option (Wp m0)):Value:=match X with
 | none=>.tuple [.agg (nz++nz++[Value.bool true]).toArray,.bool false].toArray
 | some a=>.tuple [.agg (pc a).toArray,.bool true].toArray
theorem rc_pc {U V:Int} (hU:Num U) (hV:Num V) (h:fmd U V false=true):∃ a:Wp m0,a.on wb∧a≠Wp.o∧rc U V false=pc a:=by
 have hf:fmd U V false=decide (U<md 0∧V<md 0∧(kc V:Fin m0)*kc V=kc U*kc U*kc U-3*kc U+wb):=if_neg (by decide)
 rw [hf] at h
 obtain ⟨h1,h2,h3⟩:=of_decide_eq_true h
 refine ⟨some (kc U,kc V),h3,nofun,?_⟩
 show nc U++nc V++[Value.bool false]=fc (kc U:Fin m0)++fc (kc V:Fin m0)++[Value.bool false]
 rw [nc_kc hU.lo h1,nc_kc hV.lo h2]
theorem dec_point {w:World} (hT:Tab w) {z:Option Addr} {n c:Nat} {f:Nat→Nat} (hba:BA w z n f) (hc:n≤c):∃ X:Option (Wp m0),(∀ a,X=some a→a.on wb)∧(∀ w1,Below w.heap.size w w1→Calls Tryz.prog 22 [.slice z n c].toArray w1 fun e w'=>e=.returned (dpV X)∧Below w1.heap.size w1 w')∧(∀ w1,Below w.heap.size w w1→Calls Tryz.prog 35 [.slice z n c].toArray w1 fun e w'=>e=.returned (dpV X)∧Below w1.heap.size w1 w'):=by
 by_cases h1:n=1
 ·subst h1
  rcases hba.at_ with h0 | ⟨b,o,rfl,hr⟩
  ·cases h0
  ·by_cases h0:f 0=0
   ·refine ⟨some Wp.o,fun a ha=>by cases ha;trivial,fun w1 hb=>?_,fun w1 hb=>?_⟩
    ·have q:=r_dec_A (c:=c) (hr.keep hb) h0
     rw [nz_pc] at q
     exact q
    ·have q:=q_dec_A (c:=c) (hr.keep hb) h0
     rw [nz_pc] at q
     exact q
   ·exact ⟨none,fun a ha=>(by cases ha),fun w1 hb=>r_dec_B (hr.keep hb) h0,fun w1 hb=>q_dec_B (hr.keep hb) h0⟩
 by_cases h65:n=65
 ·subst h65
  rcases hba.at_ with h0 | ⟨b,o,rfl,hr⟩
  ·cases h0
  obtain ⟨U,hU⟩:=bn_is hba.lt 1
  obtain ⟨V,hV⟩:=bn_is hba.lt 33
  by_cases h4:f 0=4
  ·cases hfm:fmd U V false with
   | false=>exact ⟨none,fun a ha=>(by cases ha),fun w1 hb=>r_dec_E (hT.keep hb) (hba.keep hb) (hr.keep hb) hc hU hV h4 hfm,fun w1 hb=>q_dec_E (hT.keep hb) (hba.keep hb) (hr.keep hb) hc hU hV h4 hfm⟩
   | true =>
    obtain ⟨a,ha,_,he⟩:=rc_pc hU.num hV.num hfm
    refine ⟨some a,fun b hb=>by cases hb;exact ha,fun w1 hb=>?_,fun w1 hb=>?_⟩
    ·have q:=r_dec_F (hT.keep hb) (hba.keep hb) (hr.keep hb) hc hU hV h4 hfm
     rw [he] at q
     exact q
    ·have q:=q_dec_F (hT.keep hb) (hba.keep hb) (hr.keep hb) hc hU hV h4 hfm
     rw [he] at q
     exact q
  ·exact ⟨none,fun a ha=>(by cases ha),fun w1 hb=>r_dec_D (hba.keep hb) (hr.keep hb) hc hU hV h4,fun w1 hb=>q_dec_D (hT.keep hb) (hba.keep hb) (hr.keep hb) hc hU hV h4⟩
 exact ⟨none,fun a ha=>(by cases ha),fun w1 hb=>r_dec_C h1 h65,fun w1 hb=>q_dec_C h1 h65⟩
theorem qBothP {w:World} (hT:Tab w) {k1 k2:Nat} (hk1:k1<2 ^ 256) (hk2:k2<2 ^ 256) {a b:Wp m0} (ha:a.on wb) (hb:b.on wb):Calls Tryz.prog 73 [.agg (nc (k1:Int)).toArray,.agg (pc a).toArray,.agg (nc (k2:Int)).toArray,.agg (pc b).toArray].toArray w fun e w'=>e=.returned (.agg (pc (wplus (mt wplus Wp.o a k1) (mt wplus Wp.o b k2))).toArray)∧Below w.heap.size w w':=by
 have h:=q_Both hT hk1 (fin_num (px a)) (fin_num (py a)) a.isNone hk2 (fin_num (px b)) (fin_num (py b)) b.isNone
 rw [rp_pc ha,rp_pc hb] at h
 exact h
theorem cT37 (vs:List Value):∀ w,(callFunc 37 vs.toArray).run Tryz.prog w=.ok (.enter 37 vs.toArray) w:=callFunc_enter Tryz.func37 (by kernel_rfl) (by kernel_rfl) _
theorem cT35 (vs:List Value):∀ w,(callFunc 35 vs.toArray).run Tryz.prog w=.ok (.enter 35 vs.toArray) w:=callFunc_enter Tryz.func35 (by kernel_rfl) (by kernel_rfl) _
theorem cT36 (vs:List Value):∀ w,(callFunc 36 vs.toArray).run Tryz.prog w=.ok (.enter 36 vs.toArray) w:=callFunc_enter Tryz.func36 (by kernel_rfl) (by kernel_rfl) _
theorem cT73 (vs:List Value):∀ w,(callFunc 73 vs.toArray).run Tryz.prog w=.ok (.enter 73 vs.toArray) w:=callFunc_enter Tryz.func73 (by kernel_rfl) (by kernel_rfl) _
theorem qRgt_n {w:World} (hT:Tab w) {Z r s:Nat} (hZ:Z<2 ^ 256) (hr:r<2 ^ 256) (hs:s<2 ^ 256) {x y:Fin m0} {a0:Wp m0} (ha:a0.on wb) (hxy:a0=some (x,y)) (hB:sumO a0 Z r s=Wp.o):Calls Tryz.prog 37 [.agg (fc (x)++fc (y)++[Value.bool false]).toArray,.agg (nc (((Z:Nat):Int))).toArray,.agg (nc (((r:Nat):Int))).toArray,.agg (nc (((s:Nat):Int))).toArray].toArray w fun e w'=>e=.returned (.bool false)∧Below w.heap.size w w':=by
 refine enter (args:=[.agg (fc (x)++fc (y)++[Value.bool false]).toArray,.agg (nc (((Z:Nat):Int))).toArray,.agg (nc (((r:Nat):Int))).toArray,.agg (nc (((s:Nat):Int))).toArray]) Tryz.func37 rfl 28 rfl (lk rfl) (fun a h=>?_)
 refine aX h [] [eN 4 _,eN 5 _,eN 6 _,eN 7 _,eS 8 _] ⟨rfl,rfl,rfl,rfl,rfl,T0⟩ [(4,.ptr 4 0),(5,.ptr 5 0),(6,.ptr 6 0),(7,.ptr 7 0)] [(4,fc (x)++fc (y)++[Value.bool false]),(5,nc (((Z:Nat):Int))),(6,nc (((r:Nat):Int))),(7,nc (((s:Nat):Int)))] (fun a w h=>?_)
 refine aX h [2,3,6,8] [eS 10 _,eS 11 _,eS 12 (.val (.agg (nc (((u1O Z s:Nat):Int))).toArray)),eS 13 (.val (.agg (pc (wG)).toArray)),eS 14 _,eS 15 _,eS 16 (.val (.agg (nc (((u1O r s:Nat):Int))).toArray)),eS 17 _,eS 18 (.val (.agg (nz++nz++[Value.bool true]).toArray)),eN 9 _,eM 9 _] ⟨rfl,rfl,fun L u=>u_call u (gd0 rfl) _ rfl _ _ _ rfl [_,_] rfl (cT74 _) _ (fun w hb=>qQ (hT.keep (Bs.kp_of hb)) hZ hs),fun L u=>u_call u (gd0 rfl) _ rfl _ _ _ rfl [] rfl (cT54 _) _ (fun w hb=>q_Base),rfl,rfl,fun L u=>u_call u (gd0 rfl) _ rfl _ _ _ rfl [_,_] rfl (cT74 _) _ (fun w hb=>qQ (hT.keep (Bs.kp_of hb)) hr hs),rfl,fun L u=>u_call u (gd0 rfl) _ rfl _ _ _ rfl [_,_,_,_] rfl (cT73 _) (.agg (nz++nz++[Value.bool true]).toArray) (fun w hb=>by have q:=qBothP (hT.keep (Bs.kp_of hb)) (k1:=u1O Z s) (k2:=u1O r s) (mo_num _) (mo_num _) wG_on ha;rw [show wplus (mt wplus Wp.o wG (u1O Z s)) (mt wplus Wp.o a0 (u1O r s))=_ from hB,hxy] at q;rw [← nz_pc] at q;exact q),rfl,rfl,T0⟩ [(6,_),(9,.ptr 9 0)] [(6,_),(9,nz++nz++[Value.bool true])] (fun a w h=>?_)
 refine aX h [] [eS 19 _,eS 20 _,eS 21 _,eS 22 _,eS 23 _,eS 24 _,eS 25 _,eS 26 _,eS 27 _,eS 8 _] ⟨rfl,rfl,rfl,rfl,rfl,rfl,rfl,rfl,rfl,rfl,T0⟩ [(8,.val (Value.bool false))] [] (fun a w h=>?_)
 refine wp_ret ?_
 refine ret_slot h 8 rfl (lk rfl) (Value.bool false) rfl ?_
 exact ⟨rfl,h.grows⟩
theorem qRgt_y {w:World} (hT:Tab w) {Z r s:Nat} (hZ:Z<2 ^ 256) (hr:r<2 ^ 256) (hs:s<2 ^ 256) {x y:Fin m0} {a0:Wp m0} (ha:a0.on wb) (hxy:a0=some (x,y)) {X Y:Fin m0} (hB:sumO a0 Z r s=some (X,Y)) (he:((mo (X.val:Int):Nat):Int)=(r:Int)):Calls Tryz.prog 37 [.agg (fc (x)++fc (y)++[Value.bool false]).toArray,.agg (nc (((Z:Nat):Int))).toArray,.agg (nc (((r:Nat):Int))).toArray,.agg (nc (((s:Nat):Int))).toArray].toArray w fun e w'=>e=.returned (.bool true)∧Below w.heap.size w w':=by
 refine enter (args:=[.agg (fc (x)++fc (y)++[Value.bool false]).toArray,.agg (nc (((Z:Nat):Int))).toArray,.agg (nc (((r:Nat):Int))).toArray,.agg (nc (((s:Nat):Int))).toArray]) Tryz.func37 rfl 28 rfl (lk rfl) (fun a h=>?_)
 refine aX h [] [eN 4 _,eN 5 _,eN 6 _,eN 7 _,eS 8 _] ⟨rfl,rfl,rfl,rfl,rfl,T0⟩ [(4,.ptr 4 0),(5,.ptr 5 0),(6,.ptr 6 0),(7,.ptr 7 0)] [(4,fc (x)++fc (y)++[Value.bool false]),(5,nc (((Z:Nat):Int))),(6,nc (((r:Nat):Int))),(7,nc (((s:Nat):Int)))] (fun a w h=>?_)
 refine aX h [2,3,6,8] [eS 10 _,eS 11 _,eS 12 (.val (.agg (nc (((u1O Z s:Nat):Int))).toArray)),eS 13 (.val (.agg (pc (wG)).toArray)),eS 14 _,eS 15 _,eS 16 (.val (.agg (nc (((u1O r s:Nat):Int))).toArray)),eS 17 _,eS 18 (.val (.agg (fc (X)++fc (Y)++[Value.bool false]).toArray)),eN 9 _,eM 9 _] ⟨rfl,rfl,fun L u=>u_call u (gd0 rfl) _ rfl _ _ _ rfl [_,_] rfl (cT74 _) _ (fun w hb=>qQ (hT.keep (Bs.kp_of hb)) hZ hs),fun L u=>u_call u (gd0 rfl) _ rfl _ _ _ rfl [] rfl (cT54 _) _ (fun w hb=>q_Base),rfl,rfl,fun L u=>u_call u (gd0 rfl) _ rfl _ _ _ rfl [_,_] rfl (cT74 _) _ (fun w hb=>qQ (hT.keep (Bs.kp_of hb)) hr hs),rfl,fun L u=>u_call u (gd0 rfl) _ rfl _ _ _ rfl [_,_,_,_] rfl (cT73 _) (.agg (fc (X)++fc (Y)++[Value.bool false]).toArray) (fun w hb=>by have q:=qBothP (hT.keep (Bs.kp_of hb)) (k1:=u1O Z s) (k2:=u1O r s) (mo_num _) (mo_num _) wG_on ha;rw [show wplus (mt wplus Wp.o wG (u1O Z s)) (mt wplus Wp.o a0 (u1O r s))=_ from hB,hxy] at q;exact q),rfl,rfl,T0⟩ [(6,_),(9,.ptr 9 0)] [(6,_),(9,fc (X)++fc (Y)++[Value.bool false])] (fun a w h=>?_)
 refine aX h [5,7] [eS 19 _,eS 20 _,eS 21 _,eS 22 _,eS 23 _,eS 24 (.val (.agg (nc (((mo (X.val:Int):Nat):Int))).toArray)),eS 25 _,eS 26 (.val (Value.bool true)),eS 27 _,eS 8 _] ⟨rfl,rfl,rfl,rfl,rfl,fun L u=>u_call u (gd1 u 3 true rfl 22 rfl (lk rfl) rfl) _ rfl _ _ _ rfl [_] rfl (cT75 _) _ (fun w hb=>qX_at (hT.keep (Bs.kp_of hb)) (mo_eq _)),rfl,fun L u=>u_eql u (gd1 u 3 true rfl 22 rfl (lk rfl) rfl) 26 rfl 24 24 (.tmp 24) (.tmp 25) rfl rfl rfl Tryz.eqGuardType24 (true) (fun w=>eq_rs (mo_num _) hr (decide_eq_true he) w),rfl,rfl,T0⟩ [(8,.val (Value.bool true))] [] (fun a w h=>?_)
 refine wp_ret ?_
 refine ret_slot h 8 rfl (lk rfl) (Value.bool true) rfl ?_
 exact ⟨rfl,h.grows⟩
theorem qRgt_d {w:World} (hT:Tab w) {Z r s:Nat} (hZ:Z<2 ^ 256) (hr:r<2 ^ 256) (hs:s<2 ^ 256) {x y:Fin m0} {a0:Wp m0} (ha:a0.on wb) (hxy:a0=some (x,y)) {X Y:Fin m0} (hB:sumO a0 Z r s=some (X,Y)) (he:¬ ((mo (X.val:Int):Nat):Int)=(r:Int)):Calls Tryz.prog 37 [.agg (fc (x)++fc (y)++[Value.bool false]).toArray,.agg (nc (((Z:Nat):Int))).toArray,.agg (nc (((r:Nat):Int))).toArray,.agg (nc (((s:Nat):Int))).toArray].toArray w fun e w'=>e=.returned (.bool false)∧Below w.heap.size w w':=by
 refine enter (args:=[.agg (fc (x)++fc (y)++[Value.bool false]).toArray,.agg (nc (((Z:Nat):Int))).toArray,.agg (nc (((r:Nat):Int))).toArray,.agg (nc (((s:Nat):Int))).toArray]) Tryz.func37 rfl 28 rfl (lk rfl) (fun a h=>?_)
 refine aX h [] [eN 4 _,eN 5 _,eN 6 _,eN 7 _,eS 8 _] ⟨rfl,rfl,rfl,rfl,rfl,T0⟩ [(4,.ptr 4 0),(5,.ptr 5 0),(6,.ptr 6 0),(7,.ptr 7 0)] [(4,fc (x)++fc (y)++[Value.bool false]),(5,nc (((Z:Nat):Int))),(6,nc (((r:Nat):Int))),(7,nc (((s:Nat):Int)))] (fun a w h=>?_)
 refine aX h [2,3,6,8] [eS 10 _,eS 11 _,eS 12 (.val (.agg (nc (((u1O Z s:Nat):Int))).toArray)),eS 13 (.val (.agg (pc (wG)).toArray)),eS 14 _,eS 15 _,eS 16 (.val (.agg (nc (((u1O r s:Nat):Int))).toArray)),eS 17 _,eS 18 (.val (.agg (fc (X)++fc (Y)++[Value.bool false]).toArray)),eN 9 _,eM 9 _] ⟨rfl,rfl,fun L u=>u_call u (gd0 rfl) _ rfl _ _ _ rfl [_,_] rfl (cT74 _) _ (fun w hb=>qQ (hT.keep (Bs.kp_of hb)) hZ hs),fun L u=>u_call u (gd0 rfl) _ rfl _ _ _ rfl [] rfl (cT54 _) _ (fun w hb=>q_Base),rfl,rfl,fun L u=>u_call u (gd0 rfl) _ rfl _ _ _ rfl [_,_] rfl (cT74 _) _ (fun w hb=>qQ (hT.keep (Bs.kp_of hb)) hr hs),rfl,fun L u=>u_call u (gd0 rfl) _ rfl _ _ _ rfl [_,_,_,_] rfl (cT73 _) (.agg (fc (X)++fc (Y)++[Value.bool false]).toArray) (fun w hb=>by have q:=qBothP (hT.keep (Bs.kp_of hb)) (k1:=u1O Z s) (k2:=u1O r s) (mo_num _) (mo_num _) wG_on ha;rw [show wplus (mt wplus Wp.o wG (u1O Z s)) (mt wplus Wp.o a0 (u1O r s))=_ from hB,hxy] at q;exact q),rfl,rfl,T0⟩ [(6,_),(9,.ptr 9 0)] [(6,_),(9,fc (X)++fc (Y)++[Value.bool false])] (fun a w h=>?_)
 refine aX h [5,7] [eS 19 _,eS 20 _,eS 21 _,eS 22 _,eS 23 _,eS 24 (.val (.agg (nc (((mo (X.val:Int):Nat):Int))).toArray)),eS 25 _,eS 26 (.val (Value.bool false)),eS 27 _,eS 8 _] ⟨rfl,rfl,rfl,rfl,rfl,fun L u=>u_call u (gd1 u 3 true rfl 22 rfl (lk rfl) rfl) _ rfl _ _ _ rfl [_] rfl (cT75 _) _ (fun w hb=>qX_at (hT.keep (Bs.kp_of hb)) (mo_eq _)),rfl,fun L u=>u_eql u (gd1 u 3 true rfl 22 rfl (lk rfl) rfl) 26 rfl 24 24 (.tmp 24) (.tmp 25) rfl rfl rfl Tryz.eqGuardType24 (false) (fun w=>eq_rs (mo_num _) hr (decide_eq_false he) w),rfl,rfl,T0⟩ [(8,.val (Value.bool false))] [] (fun a w h=>?_)
 refine wp_ret ?_
 refine ret_slot h 8 rfl (lk rfl) (Value.bool false) rfl ?_
 exact ⟨rfl,h.grows⟩
theorem xeq_no {q:Fin m0 × Fin m0} {r:Nat} (h:¬ mo (q.1.val:Int)=r):xeq q r=false:=by
 unfold xeq
 exact decide_eq_false h
theorem rgt_cases {a:Wp m0} {z r s:Nat}:(sumO a z r s=Wp.o∧rgt a z r s=false)∨∃ X Y,sumO a z r s=some (X,Y)∧((mo (X.val:Int)=r∧rgt a z r s=true)∨(¬ mo (X.val:Int)=r∧rgt a z r s=false)):=by
 unfold rgt
 cases sumO a z r s with
 | none=>exact Or.inl ⟨rfl,rfl⟩
 | some q =>
  refine Or.inr ⟨q.1,q.2,rfl,?_⟩
  rw [rgtO_some]
  by_cases h:mo (q.1.val:Int)=r
  ·exact Or.inl ⟨h,xeq_of h⟩
  ·exact Or.inr ⟨h,xeq_no h⟩
theorem qRgt {w:World} (hT:Tab w) {Z r s:Nat} (hZ:Z<2 ^ 256) (hr:r<2 ^ 256) (hs:s<2 ^ 256) {x y:Fin m0} {a0:Wp m0} (ha:a0.on wb) (hxy:a0=some (x,y)):Calls Tryz.prog 37 [.agg (fc (x)++fc (y)++[Value.bool false]).toArray,.agg (nc (((Z:Nat):Int))).toArray,.agg (nc (((r:Nat):Int))).toArray,.agg (nc (((s:Nat):Int))).toArray].toArray w fun e w'=>e=.returned (.bool (rgt a0 Z r s))∧Below w.heap.size w w':=by
 rcases rgt_cases (a:=a0) (z:=Z) (r:=r) (s:=s) with ⟨h1,h2⟩ | ⟨X,Y,h1,⟨h2,h3⟩ | ⟨h2,h3⟩⟩
 ·rw [h2];exact qRgt_n hT hZ hr hs ha hxy h1
 ·rw [h3];exact qRgt_y hT hZ hr hs ha hxy h1 (by omega)
 ·rw [h3];exact qRgt_d hT hZ hr hs ha hxy h1 (by omega)
theorem vrf_some {a:Wp m0} {x y:Fin m0} (h:a=some (x,y)) {r s z:Nat}:vrf a (some (r,s)) z=(wi r && wi s && rgt a z r s):=by
 subst h
 unfold vrf
 rfl
end Go.Proofs.YtmigakanbeckpaaGreatDoor
namespace Go.Proofs.YtmigakanbeckpaaGreatDoor
open Go.RowKit
def dsV (S:Option (Nat × Nat)):Value:=match S with
 | none=>.tuple [.agg nz.toArray,.agg nz.toArray,.bool false].toArray
 | some q=>.tuple [.agg (nc ((q.1:Nat):Int)).toArray,.agg (nc ((q.2:Nat):Int)).toArray,.bool true].toArray
theorem der_both {w:World} (hE:De.Tab w) {z:Option Addr} {n c:Nat} {f:Nat→Nat} (hba:BA w z n f) (hc:n≤c) (hn:n≤1000):∃ S:Option (Nat × Nat),(∀ r s,S=some (r,s)→r<2 ^ 256∧s<2 ^ 256)∧De.dv (fl f n)=dsV S∧(∀ w1,Below w.heap.size w w1→Calls Tryz.prog 18 [.slice z n c].toArray w1 fun e w'=>e=.returned (dsV S)∧Below w1.heap.size w1 w')∧(∀ w1,Below w.heap.size w w1→Calls Tryz.prog 36 [.slice z n c].toArray w1 fun e w'=>e=.returned (dsV S)∧Below w1.heap.size w1 w'):=by
 have key:∃ S:Option (Nat × Nat),(∀ r s,S=some (r,s)→r<2 ^ 256∧s<2 ^ 256)∧De.dv (fl f n)=dsV S:=by
  by_cases h:∃ r s,r<2 ^ 256∧s<2 ^ 256∧De.dE r s=fl f n
  ·obtain ⟨r,s,hr,hs,he⟩:=h
   exact ⟨some (r,s),fun r' s' e=>by cases e;exact ⟨hr,hs⟩,De.dv_yes hr hs he⟩
  ·exact ⟨none,fun r' s' e=>(by cases e),De.dv_no (fun r s hr hs he=>h ⟨r,s,hr,hs,he⟩)⟩
 obtain ⟨S,h1,h2⟩:=key
 refine ⟨S,h1,h2,fun w1 hb=>?_,fun w1 hb=>?_⟩
 ·have q:=De.refDec_any (w:=w1) (c:=c) (hba.keep hb) hc
  rw [h2] at q
  exact q
 ·have q:=De.e_Dec (w:=w1) (c:=c) (hE.keep hb) (hba.keep hb) hc hn
  rw [h2] at q
  exact q
def vrfX (X:Option (Wp m0)) (S:Option (Nat × Nat)) (z:Nat):Bool:=match X with
 | none=>false
 | some a=>vrf a S z
theorem dpV_o:dpV (some Wp.o)=.tuple [.agg (nz++nz++[Value.bool true]).toArray,.bool true].toArray:=by
 rw [nz_pc]
 rfl
theorem vrf_o (S:Option (Nat × Nat)) (z:Nat):vrf Wp.o S z=false:=by cases S <;> rfl
theorem vrf_n (a:Wp m0) (z:Nat):vrf a none z=false:=by cases a <;> rfl
theorem qVer_0 {w:World} {n1 c1 n2 c2 n3 c3:Nat} {z1 z2 z3:Option Addr} (hP:∀ w1,Below w.heap.size w w1→Calls Tryz.prog 35 [Value.slice (z1) (n1) (c1)].toArray w1 fun e w'=>e=.returned (.tuple [.agg (nz++nz++[Value.bool true]).toArray,.bool false].toArray)∧Below w1.heap.size w1 w'):Calls Tryz.prog 14 [Value.slice (z1) (n1) (c1),Value.slice (z2) (n2) (c2),Value.slice (z3) (n3) (c3)].toArray w fun e w'=>e=.returned (.bool false)∧Below w.heap.size w w':=by
 refine enter (args:=[Value.slice (z1) (n1) (c1),Value.slice (z2) (n2) (c2),Value.slice (z3) (n3) (c3)]) Tryz.func14 rfl 45 rfl (lk rfl) (fun a h=>?_)
 refine aX h [] [eS 6 _] ⟨rfl,T0⟩ [(0,.val (Value.slice (z1) (n1) (c1))),(1,.val (Value.slice (z2) (n2) (c2))),(2,.val (Value.slice (z3) (n3) (c3)))] [] (fun a w h=>?_)
 refine aX h [1] [eS 12 _,eS 13 (.val (.tuple [Value.agg (nz++nz++[Value.bool true]).toArray,Value.bool false].toArray)),eS 11 _,eS 14 _,eS 15 _,eN 7 _,eM 7 _,eS 8 _] ⟨rfl,fun L u=>u_call u (gd0 rfl) _ rfl _ _ _ rfl [_] rfl (cT35 _) _ (fun w hb=>hP w (Bs.kp_of hb)),rfl,rfl,rfl,rfl,rfl,rfl,T0⟩ [(1,_),(2,_),(7,.ptr 7 0),(8,.val (Value.bool false))] [(7,nz++nz++[Value.bool true])] (fun a w h=>?_)
 refine wp_seq ?_
 refine aX h [] [eS 16 _,eS 17 _,eS 18 _,eS 19 _,eS 20 _,eS 21 _] ⟨rfl,rfl,rfl,rfl,rfl,rfl,T0⟩ [(1,_),(2,_),(7,_),(21,.val (Value.bool true))] [(7,_)] (fun a w h=>?_)
 refine go_cond h true rfl (fun ht=>?_) (fun hf=>?_)
 case refine_2=>cases hf
 refine aX h [] [eS 6 _] ⟨rfl,T0⟩ [(6,.val (Value.bool false))] [] (fun a w h=>?_)
 refine wp_ret ?_
 refine then_ret ?_
 refine ret_slot h 6 rfl (lk rfl) (Value.bool false) rfl ?_
 exact ⟨rfl,h.grows⟩
theorem qVer_o {w:World} {n1 c1 n2 c2 n3 c3:Nat} {z1 z2 z3:Option Addr} (hP:∀ w1,Below w.heap.size w w1→Calls Tryz.prog 35 [Value.slice (z1) (n1) (c1)].toArray w1 fun e w'=>e=.returned (.tuple [.agg (nz++nz++[Value.bool true]).toArray,.bool true].toArray)∧Below w1.heap.size w1 w'):Calls Tryz.prog 14 [Value.slice (z1) (n1) (c1),Value.slice (z2) (n2) (c2),Value.slice (z3) (n3) (c3)].toArray w fun e w'=>e=.returned (.bool false)∧Below w.heap.size w w':=by
 refine enter (args:=[Value.slice (z1) (n1) (c1),Value.slice (z2) (n2) (c2),Value.slice (z3) (n3) (c3)]) Tryz.func14 rfl 45 rfl (lk rfl) (fun a h=>?_)
 refine aX h [] [eS 6 _] ⟨rfl,T0⟩ [(0,.val (Value.slice (z1) (n1) (c1))),(1,.val (Value.slice (z2) (n2) (c2))),(2,.val (Value.slice (z3) (n3) (c3)))] [] (fun a w h=>?_)
 refine aX h [1] [eS 12 _,eS 13 (.val (.tuple [Value.agg (nz++nz++[Value.bool true]).toArray,Value.bool true].toArray)),eS 11 _,eS 14 _,eS 15 _,eN 7 _,eM 7 _,eS 8 _] ⟨rfl,fun L u=>u_call u (gd0 rfl) _ rfl _ _ _ rfl [_] rfl (cT35 _) _ (fun w hb=>hP w (Bs.kp_of hb)),rfl,rfl,rfl,rfl,rfl,rfl,T0⟩ [(1,_),(2,_),(7,.ptr 7 0),(8,.val (Value.bool true))] [(7,nz++nz++[Value.bool true])] (fun a w h=>?_)
 refine wp_seq ?_
 refine aX h [] [eS 16 _,eS 17 _,eS 18 _,eS 19 _,eS 20 _,eS 21 _] ⟨rfl,rfl,rfl,rfl,rfl,rfl,T0⟩ [(1,_),(2,_),(7,_),(21,.val (Value.bool true))] [(7,_)] (fun a w h=>?_)
 refine go_cond h true rfl (fun ht=>?_) (fun hf=>?_)
 case refine_2=>cases hf
 refine aX h [] [eS 6 _] ⟨rfl,T0⟩ [(6,.val (Value.bool false))] [] (fun a w h=>?_)
 refine wp_ret ?_
 refine then_ret ?_
 refine ret_slot h 6 rfl (lk rfl) (Value.bool false) rfl ?_
 exact ⟨rfl,h.grows⟩
theorem qVer_n {w:World} {n1 c1 n2 c2 n3 c3:Nat} {z1 z2 z3:Option Addr} {x y:Fin m0} (hP:∀ w1,Below w.heap.size w w1→Calls Tryz.prog 35 [Value.slice (z1) (n1) (c1)].toArray w1 fun e w'=>e=.returned (.tuple [.agg (fc (x)++fc (y)++[Value.bool false]).toArray,.bool true].toArray)∧Below w1.heap.size w1 w') (hS:∀ w1,Below w.heap.size w w1→Calls Tryz.prog 36 [Value.slice (z3) (n3) (c3)].toArray w1 fun e w'=>e=.returned (.tuple [.agg nz.toArray,.agg nz.toArray,.bool false].toArray)∧Below w1.heap.size w1 w'):Calls Tryz.prog 14 [Value.slice (z1) (n1) (c1),Value.slice (z2) (n2) (c2),Value.slice (z3) (n3) (c3)].toArray w fun e w'=>e=.returned (.bool false)∧Below w.heap.size w w':=by
 refine enter (args:=[Value.slice (z1) (n1) (c1),Value.slice (z2) (n2) (c2),Value.slice (z3) (n3) (c3)]) Tryz.func14 rfl 45 rfl (lk rfl) (fun a h=>?_)
 refine aX h [] [eS 6 _] ⟨rfl,T0⟩ [(0,.val (Value.slice (z1) (n1) (c1))),(1,.val (Value.slice (z2) (n2) (c2))),(2,.val (Value.slice (z3) (n3) (c3)))] [] (fun a w h=>?_)
 refine aX h [1] [eS 12 _,eS 13 (.val (.tuple [Value.agg (fc (x)++fc (y)++[Value.bool false]).toArray,Value.bool true].toArray)),eS 11 _,eS 14 _,eS 15 _,eN 7 _,eM 7 _,eS 8 _] ⟨rfl,fun L u=>u_call u (gd0 rfl) _ rfl _ _ _ rfl [_] rfl (cT35 _) _ (fun w hb=>hP w (Bs.kp_of hb)),rfl,rfl,rfl,rfl,rfl,rfl,T0⟩ [(1,_),(2,_),(7,.ptr 7 0),(8,.val (Value.bool true))] [(7,fc (x)++fc (y)++[Value.bool false])] (fun a w h=>?_)
 refine wp_seq ?_
 refine aX h [] [eS 16 _,eS 17 _,eS 18 _,eS 19 _,eS 20 _,eS 21 _] ⟨rfl,rfl,rfl,rfl,rfl,rfl,T0⟩ [(1,_),(2,_),(7,_),(21,.val (Value.bool false))] [(7,_)] (fun a w h=>?_)
 refine go_cond h false rfl (fun ht=>?_) (fun hf=>?_)
 case refine_1=>cases ht
 refine wp_skip ?_
 refine then_norm ?_
 refine aX h [1] [eS 23 _,eS 24 (.val (.tuple [Value.agg (nz).toArray,.agg (nz).toArray,Value.bool false].toArray)),eS 22 _,eS 25 _,eS 26 _,eS 27 _,eN 9 _,eN 10 _,eM 9 _,eM 10 _,eS 8 _] ⟨rfl,fun L u=>u_call u (gd0 rfl) _ rfl _ _ _ rfl [_] rfl (cT36 _) _ (fun w hb=>hS w (Bs.kp_of hb)),rfl,rfl,rfl,rfl,rfl,rfl,rfl,rfl,rfl,T0⟩ [(1,_),(7,_),(8,.val (Value.bool false)),(9,.ptr 9 0),(10,.ptr 10 0)] [(7,_),(9,nz),(10,nz)] (fun a w h=>?_)
 refine aX h [] [eS 28 _,eS 29 _,eS 30 _,eS 31 _,eS 32 _,eS 33 _,eS 34 _,eS 35 _,eS 36 _,eS 37 _,eS 38 _,eS 39 _,eS 40 _,eS 41 _,eS 42 _,eS 43 _,eS 44 _,eS 6 _] ⟨rfl,rfl,rfl,rfl,rfl,rfl,rfl,rfl,rfl,rfl,rfl,rfl,rfl,rfl,rfl,rfl,rfl,rfl,T0⟩ [(6,.val (Value.bool false))] [] (fun a w h=>?_)
 refine wp_ret ?_
 refine ret_slot h 6 rfl (lk rfl) (Value.bool false) rfl ?_
 exact ⟨rfl,h.grows⟩
theorem qVer_r {w:World} (hT:Tab w) {n1 c1 n2 c2 n3 c3:Nat} {z1 z2 z3:Option Addr} {x y:Fin m0} {r s:Nat} (hr:r<2 ^ 256) (_:s<2 ^ 256) (hP:∀ w1,Below w.heap.size w w1→Calls Tryz.prog 35 [Value.slice (z1) (n1) (c1)].toArray w1 fun e w'=>e=.returned (.tuple [.agg (fc (x)++fc (y)++[Value.bool false]).toArray,.bool true].toArray)∧Below w1.heap.size w1 w') (hS:∀ w1,Below w.heap.size w w1→Calls Tryz.prog 36 [Value.slice (z3) (n3) (c3)].toArray w1 fun e w'=>e=.returned (.tuple [.agg (nc ((r:Nat):Int)).toArray,.agg (nc ((s:Nat):Int)).toArray,.bool true].toArray)∧Below w1.heap.size w1 w') (hwr:wi r=false):Calls Tryz.prog 14 [Value.slice (z1) (n1) (c1),Value.slice (z2) (n2) (c2),Value.slice (z3) (n3) (c3)].toArray w fun e w'=>e=.returned (.bool false)∧Below w.heap.size w w':=by
 refine enter (args:=[Value.slice (z1) (n1) (c1),Value.slice (z2) (n2) (c2),Value.slice (z3) (n3) (c3)]) Tryz.func14 rfl 45 rfl (lk rfl) (fun a h=>?_)
 refine aX h [] [eS 6 _] ⟨rfl,T0⟩ [(0,.val (Value.slice (z1) (n1) (c1))),(1,.val (Value.slice (z2) (n2) (c2))),(2,.val (Value.slice (z3) (n3) (c3)))] [] (fun a w h=>?_)
 refine aX h [1] [eS 12 _,eS 13 (.val (.tuple [Value.agg (fc (x)++fc (y)++[Value.bool false]).toArray,Value.bool true].toArray)),eS 11 _,eS 14 _,eS 15 _,eN 7 _,eM 7 _,eS 8 _] ⟨rfl,fun L u=>u_call u (gd0 rfl) _ rfl _ _ _ rfl [_] rfl (cT35 _) _ (fun w hb=>hP w (Bs.kp_of hb)),rfl,rfl,rfl,rfl,rfl,rfl,T0⟩ [(1,_),(2,_),(7,.ptr 7 0),(8,.val (Value.bool true))] [(7,fc (x)++fc (y)++[Value.bool false])] (fun a w h=>?_)
 refine wp_seq ?_
 refine aX h [] [eS 16 _,eS 17 _,eS 18 _,eS 19 _,eS 20 _,eS 21 _] ⟨rfl,rfl,rfl,rfl,rfl,rfl,T0⟩ [(1,_),(2,_),(7,_),(21,.val (Value.bool false))] [(7,_)] (fun a w h=>?_)
 refine go_cond h false rfl (fun ht=>?_) (fun hf=>?_)
 case refine_1=>cases ht
 refine wp_skip ?_
 refine then_norm ?_
 refine aX h [1] [eS 23 _,eS 24 (.val (.tuple [Value.agg (nc (((r:Nat):Int))).toArray,.agg (nc (((s:Nat):Int))).toArray,Value.bool true].toArray)),eS 22 _,eS 25 _,eS 26 _,eS 27 _,eN 9 _,eN 10 _,eM 9 _,eM 10 _,eS 8 _] ⟨rfl,fun L u=>u_call u (gd0 rfl) _ rfl _ _ _ rfl [_] rfl (cT36 _) _ (fun w hb=>hS w (Bs.kp_of hb)),rfl,rfl,rfl,rfl,rfl,rfl,rfl,rfl,rfl,T0⟩ [(1,_),(7,_),(8,.val (Value.bool true)),(9,.ptr 9 0),(10,.ptr 10 0)] [(7,_),(9,nc (((r:Nat):Int))),(10,nc (((s:Nat):Int)))] (fun a w h=>?_)
 refine aX h [3] [eS 28 _,eS 29 _,eS 30 _,eS 31 (.val (Value.bool false)),eS 32 _,eS 33 _,eS 34 _,eS 35 _,eS 36 _,eS 37 _,eS 38 _,eS 39 _,eS 40 _,eS 41 _,eS 42 _,eS 43 _,eS 44 _,eS 6 _] ⟨rfl,rfl,rfl,fun L u=>u_call u (gd1 u 1 true rfl 29 rfl (lk rfl) rfl) _ rfl _ _ _ rfl [_] rfl (cT25 _) (Value.bool false) (fun w hb=>by have q:=qIn (hT.keep (Bs.kp_of hb)) hr;rw [hwr] at q;exact q),rfl,rfl,rfl,rfl,rfl,rfl,rfl,rfl,rfl,rfl,rfl,rfl,rfl,rfl,T0⟩ [(6,.val (Value.bool false))] [] (fun a w h=>?_)
 refine wp_ret ?_
 refine ret_slot h 6 rfl (lk rfl) (Value.bool false) rfl ?_
 exact ⟨rfl,h.grows⟩
theorem qVer_s {w:World} (hT:Tab w) {n1 c1 n2 c2 n3 c3:Nat} {z1 z2 z3:Option Addr} {x y:Fin m0} {r s:Nat} (hr:r<2 ^ 256) (hs:s<2 ^ 256) (hP:∀ w1,Below w.heap.size w w1→Calls Tryz.prog 35 [Value.slice (z1) (n1) (c1)].toArray w1 fun e w'=>e=.returned (.tuple [.agg (fc (x)++fc (y)++[Value.bool false]).toArray,.bool true].toArray)∧Below w1.heap.size w1 w') (hS:∀ w1,Below w.heap.size w w1→Calls Tryz.prog 36 [Value.slice (z3) (n3) (c3)].toArray w1 fun e w'=>e=.returned (.tuple [.agg (nc ((r:Nat):Int)).toArray,.agg (nc ((s:Nat):Int)).toArray,.bool true].toArray)∧Below w1.heap.size w1 w') (hwr:wi r=true) (hws:wi s=false):Calls Tryz.prog 14 [Value.slice (z1) (n1) (c1),Value.slice (z2) (n2) (c2),Value.slice (z3) (n3) (c3)].toArray w fun e w'=>e=.returned (.bool false)∧Below w.heap.size w w':=by
 refine enter (args:=[Value.slice (z1) (n1) (c1),Value.slice (z2) (n2) (c2),Value.slice (z3) (n3) (c3)]) Tryz.func14 rfl 45 rfl (lk rfl) (fun a h=>?_)
 refine aX h [] [eS 6 _] ⟨rfl,T0⟩ [(0,.val (Value.slice (z1) (n1) (c1))),(1,.val (Value.slice (z2) (n2) (c2))),(2,.val (Value.slice (z3) (n3) (c3)))] [] (fun a w h=>?_)
 refine aX h [1] [eS 12 _,eS 13 (.val (.tuple [Value.agg (fc (x)++fc (y)++[Value.bool false]).toArray,Value.bool true].toArray)),eS 11 _,eS 14 _,eS 15 _,eN 7 _,eM 7 _,eS 8 _] ⟨rfl,fun L u=>u_call u (gd0 rfl) _ rfl _ _ _ rfl [_] rfl (cT35 _) _ (fun w hb=>hP w (Bs.kp_of hb)),rfl,rfl,rfl,rfl,rfl,rfl,T0⟩ [(1,_),(2,_),(7,.ptr 7 0),(8,.val (Value.bool true))] [(7,fc (x)++fc (y)++[Value.bool false])] (fun a w h=>?_)
 refine wp_seq ?_
 refine aX h [] [eS 16 _,eS 17 _,eS 18 _,eS 19 _,eS 20 _,eS 21 _] ⟨rfl,rfl,rfl,rfl,rfl,rfl,T0⟩ [(1,_),(2,_),(7,_),(21,.val (Value.bool false))] [(7,_)] (fun a w h=>?_)
 refine go_cond h false rfl (fun ht=>?_) (fun hf=>?_)
 case refine_1=>cases ht
 refine wp_skip ?_
 refine then_norm ?_
 refine aX h [1] [eS 23 _,eS 24 (.val (.tuple [Value.agg (nc (((r:Nat):Int))).toArray,.agg (nc (((s:Nat):Int))).toArray,Value.bool true].toArray)),eS 22 _,eS 25 _,eS 26 _,eS 27 _,eN 9 _,eN 10 _,eM 9 _,eM 10 _,eS 8 _] ⟨rfl,fun L u=>u_call u (gd0 rfl) _ rfl _ _ _ rfl [_] rfl (cT36 _) _ (fun w hb=>hS w (Bs.kp_of hb)),rfl,rfl,rfl,rfl,rfl,rfl,rfl,rfl,rfl,T0⟩ [(1,_),(7,_),(8,.val (Value.bool true)),(9,.ptr 9 0),(10,.ptr 10 0)] [(7,_),(9,nc (((r:Nat):Int))),(10,nc (((s:Nat):Int)))] (fun a w h=>?_)
 refine aX h [3,7] [eS 28 _,eS 29 _,eS 30 _,eS 31 (.val (Value.bool true)),eS 32 _,eS 33 _,eS 34 _,eS 35 (.val (Value.bool false)),eS 36 _,eS 37 _,eS 38 _,eS 39 _,eS 40 _,eS 41 _,eS 42 _,eS 43 _,eS 44 _,eS 6 _] ⟨rfl,rfl,rfl,fun L u=>u_call u (gd1 u 1 true rfl 29 rfl (lk rfl) rfl) _ rfl _ _ _ rfl [_] rfl (cT25 _) (Value.bool true) (fun w hb=>by have q:=qIn (hT.keep (Bs.kp_of hb)) hr;rw [hwr] at q;exact q),rfl,rfl,rfl,fun L u=>u_call u (gd1 u 5 true rfl 33 rfl (lk rfl) rfl) _ rfl _ _ _ rfl [_] rfl (cT25 _) (Value.bool false) (fun w hb=>by have q:=qIn (hT.keep (Bs.kp_of hb)) hs;rw [hws] at q;exact q),rfl,rfl,rfl,rfl,rfl,rfl,rfl,rfl,rfl,rfl,T0⟩ [(6,.val (Value.bool false))] [] (fun a w h=>?_)
 refine wp_ret ?_
 refine ret_slot h 6 rfl (lk rfl) (Value.bool false) rfl ?_
 exact ⟨rfl,h.grows⟩
theorem qVer_y {w:World} (hT:Tab w) {n1 c1 n2 c2 n3 c3:Nat} {z1 z2 z3:Option Addr} {x y:Fin m0} {r s:Nat} (hr:r<2 ^ 256) (hs:s<2 ^ 256) (hP:∀ w1,Below w.heap.size w w1→Calls Tryz.prog 35 [Value.slice (z1) (n1) (c1)].toArray w1 fun e w'=>e=.returned (.tuple [.agg (fc (x)++fc (y)++[Value.bool false]).toArray,.bool true].toArray)∧Below w1.heap.size w1 w') (hS:∀ w1,Below w.heap.size w w1→Calls Tryz.prog 36 [Value.slice (z3) (n3) (c3)].toArray w1 fun e w'=>e=.returned (.tuple [.agg (nc ((r:Nat):Int)).toArray,.agg (nc ((s:Nat):Int)).toArray,.bool true].toArray)∧Below w1.heap.size w1 w') (hH:Sh.Tab w) {f:Nat→Nat} (hba:BA w z2 n2 f) (hc:n2≤c2) (hcm:c2≤maxLen) (hn:n2≤800000) {a0:Wp m0} (ha:a0.on wb) (hxy:a0=some (x,y)) (hwr:wi r=true) (hws:wi s=true):Calls Tryz.prog 14 [Value.slice (z1) (n1) (c1),Value.slice (z2) (n2) (c2),Value.slice (z3) (n3) (c3)].toArray w fun e w'=>e=.returned (.bool (rgt a0 (zN f n2) r s))∧Below w.heap.size w w':=by
 refine enter (args:=[Value.slice (z1) (n1) (c1),Value.slice (z2) (n2) (c2),Value.slice (z3) (n3) (c3)]) Tryz.func14 rfl 45 rfl (lk rfl) (fun a h=>?_)
 refine aX h [] [eS 6 _] ⟨rfl,T0⟩ [(0,.val (Value.slice (z1) (n1) (c1))),(1,.val (Value.slice (z2) (n2) (c2))),(2,.val (Value.slice (z3) (n3) (c3)))] [] (fun a w h=>?_)
 refine aX h [1] [eS 12 _,eS 13 (.val (.tuple [Value.agg (fc (x)++fc (y)++[Value.bool false]).toArray,Value.bool true].toArray)),eS 11 _,eS 14 _,eS 15 _,eN 7 _,eM 7 _,eS 8 _] ⟨rfl,fun L u=>u_call u (gd0 rfl) _ rfl _ _ _ rfl [_] rfl (cT35 _) _ (fun w hb=>hP w (Bs.kp_of hb)),rfl,rfl,rfl,rfl,rfl,rfl,T0⟩ [(1,_),(2,_),(7,.ptr 7 0),(8,.val (Value.bool true))] [(7,fc (x)++fc (y)++[Value.bool false])] (fun a w h=>?_)
 refine wp_seq ?_
 refine aX h [] [eS 16 _,eS 17 _,eS 18 _,eS 19 _,eS 20 _,eS 21 _] ⟨rfl,rfl,rfl,rfl,rfl,rfl,T0⟩ [(1,_),(2,_),(7,_),(21,.val (Value.bool false))] [(7,_)] (fun a w h=>?_)
 refine go_cond h false rfl (fun ht=>?_) (fun hf=>?_)
 case refine_1=>cases ht
 refine wp_skip ?_
 refine then_norm ?_
 refine aX h [1] [eS 23 _,eS 24 (.val (.tuple [Value.agg (nc (((r:Nat):Int))).toArray,.agg (nc (((s:Nat):Int))).toArray,Value.bool true].toArray)),eS 22 _,eS 25 _,eS 26 _,eS 27 _,eN 9 _,eN 10 _,eM 9 _,eM 10 _,eS 8 _] ⟨rfl,fun L u=>u_call u (gd0 rfl) _ rfl _ _ _ rfl [_] rfl (cT36 _) _ (fun w hb=>hS w (Bs.kp_of hb)),rfl,rfl,rfl,rfl,rfl,rfl,rfl,rfl,rfl,T0⟩ [(1,_),(7,_),(8,.val (Value.bool true)),(9,.ptr 9 0),(10,.ptr 10 0)] [(7,_),(9,nc (((r:Nat):Int))),(10,nc (((s:Nat):Int)))] (fun a w h=>?_)
 refine aX h [3,7,12,15] [eS 28 _,eS 29 _,eS 30 _,eS 31 (.val (Value.bool true)),eS 32 _,eS 33 _,eS 34 _,eS 35 (.val (Value.bool true)),eS 36 _,eS 37 _,eS 38 _,eS 39 _,eS 40 (.val (.agg (nc (((zN f n2:Nat):Int))).toArray)),eS 41 _,eS 42 _,eS 43 (.val (Value.bool (rgt a0 (zN f n2) r s))),eS 44 _,eS 6 _] ⟨rfl,rfl,rfl,fun L u=>u_call u (gd1 u 1 true rfl 29 rfl (lk rfl) rfl) _ rfl _ _ _ rfl [_] rfl (cT25 _) (Value.bool true) (fun w hb=>by have q:=qIn (hT.keep (Bs.kp_of hb)) hr;rw [hwr] at q;exact q),rfl,rfl,rfl,fun L u=>u_call u (gd1 u 5 true rfl 33 rfl (lk rfl) rfl) _ rfl _ _ _ rfl [_] rfl (cT25 _) (Value.bool true) (fun w hb=>by have q:=qIn (hT.keep (Bs.kp_of hb)) hs;rw [hws] at q;exact q),rfl,rfl,rfl,rfl,fun L u=>u_call u (gd1 u 9 true rfl 37 rfl (lk rfl) rfl) _ rfl _ _ _ rfl [_] rfl (cT31 _) _ (fun w hb=>qNum (hH.keep (Bs.kp_of hb)) (hba.keep (Bs.kp_of hb)) hc hcm (by omega)),rfl,rfl,fun L u=>u_call u (gd1 u 9 true rfl 37 rfl (lk rfl) rfl) _ rfl _ _ _ rfl [_,_,_,_] rfl (cT37 _) _ (fun w hb=>qRgt (hT.keep (Bs.kp_of hb)) (zN_lt f n2) hr hs ha hxy),rfl,rfl,T0⟩ [(6,.val (Value.bool (rgt a0 (zN f n2) r s)))] [] (fun a w h=>?_)
 refine wp_ret ?_
 refine ret_slot h 6 rfl (lk rfl) (Value.bool (rgt a0 (zN f n2) r s)) rfl ?_
 exact ⟨rfl,h.grows⟩
theorem qVer {w:World} (hT:Tab w) (hH:Sh.Tab w) {n1 c1 n2 c2 n3 c3:Nat} {z1 z2 z3:Option Addr} {f:Nat→Nat} (hba:BA w z2 n2 f) (hc:n2≤c2) (hcm:c2≤maxLen) (hn:n2≤800000) {X:Option (Wp m0)} {S:Option (Nat × Nat)} (hX:∀ a,X=some a→a.on wb) (hSl:∀ r s,S=some (r,s)→r<2 ^ 256∧s<2 ^ 256) (hP:∀ w1,Below w.heap.size w w1→Calls Tryz.prog 35 [Value.slice (z1) (n1) (c1)].toArray w1 fun e w'=>e=.returned (dpV X)∧Below w1.heap.size w1 w') (hS:∀ w1,Below w.heap.size w w1→Calls Tryz.prog 36 [Value.slice (z3) (n3) (c3)].toArray w1 fun e w'=>e=.returned (dsV S)∧Below w1.heap.size w1 w'):Calls Tryz.prog 14 [Value.slice (z1) (n1) (c1),Value.slice (z2) (n2) (c2),Value.slice (z3) (n3) (c3)].toArray w fun e w'=>e=.returned (.bool (vrfX X S (zN f n2)))∧Below w.heap.size w w':=by
 cases X with
 | none=>exact qVer_0 hP
 | some a =>
  show Calls Tryz.prog 14 _ w fun e w'=>e=.returned (.bool (vrf a S (zN f n2)))∧Below w.heap.size w w'
  cases a with
  | none =>
   rw [vrf_o]
   exact qVer_o (fun w1 hb=>by have q:=hP w1 hb;rw [show dpV (some none)=.tuple [.agg (nz++nz++[Value.bool true]).toArray,.bool true].toArray from dpV_o] at q;exact q)
  | some xy =>
   obtain ⟨x,y⟩:=xy
   cases S with
   | none =>
    rw [vrf_n]
    exact qVer_n hP hS
   | some rs =>
    obtain ⟨r,s⟩:=rs
    obtain ⟨hr,hs⟩:=hSl r s rfl
    rw [vrf_some rfl]
    cases hwr:wi r with
    | false =>
     simp only [Bool.false_and]
     exact qVer_r hT hr hs hP hS hwr
    | true =>
     cases hws:wi s with
     | false =>
      simp only [Bool.and_false,Bool.false_and]
      exact qVer_s hT hr hs hP hS hwr hws
     | true =>
      simp only [Bool.true_and]
      exact qVer_y hT hr hs hP hS hH hba hc hcm hn (hX _ rfl) rfl hwr hws
end Go.Proofs.YtmigakanbeckpaaGreatDoor
namespace Go.Proofs.YtmigakanbeckpaaGreatDoor
open Go.RowKit
theorem fst_rd {p:Pd} {b v:Value} {F:Nat→Bool} {w:World} (h:(tupPd p b).p v F w):p.p (fstV v) F w:=by
 obtain ⟨u,rfl,hu⟩:=h
 exact hu
theorem rd_nilV (w:World):(rdPd 0 []).p (.slice none 0 0) (fun _=>false) w:=⟨none,0,rfl,Nat.le_refl _,rfl,⟨fun i=>by simp,Or.inl rfl⟩,fun p hp=>by cases hp⟩
theorem sameV {n:Nat} {l:List Nat} {v1 v2:Value} {F1 F2:Nat→Bool} {w:World} (hn:n≤1000) (h1:(rdPd n l).p v1 F1 w) (h2:(rdPd n l).p v2 F2 w):Calls Tryz.prog 11 [v1,v2].toArray w fun e w'=>e=.returned (.bool true)∧Below w.heap.size w w':=by
 obtain ⟨z1,c1,rfl,_,_,b1,_⟩:=h1
 obtain ⟨z2,c2,rfl,_,_,b2,_⟩:=h2
 exact same_ba hn b1 b2
theorem ptL_len (a:Wp m0):(ptL a).length≤65:=by
 cases a with
 | none=>decide
 | some q=>exact Nat.le_of_eq (fl_len _ _)
theorem nb1X:Tryz.prog.built 24 [(0,.int .u64 1),(1,.int .u64 0),(2,.int .u64 0),(3,.int .u64 0)]=some (nc ((1:Nat):Int)).toArray:=by kernel_rfl
theorem wi_1:wi 1=true:=by decide
theorem cT8 (vs:List Value):∀ w,(callFunc 8 vs.toArray).run Tryz.prog w=.ok (.enter 8 vs.toArray) w:=callFunc_enter Tryz.func8 (by kernel_rfl) (by kernel_rfl) _
theorem cT24 (vs:List Value):∀ w,(callFunc 24 vs.toArray).run Tryz.prog w=.ok (.enter 24 vs.toArray) w:=callFunc_enter Tryz.func24 (by kernel_rfl) (by kernel_rfl) _
theorem qPubN {w:World} (hT:Tab w) {D:Nat} (hD:D<2 ^ 256) (hw:wi D=false):Calls Tryz.prog 9 [.agg (nc (((D:Nat):Int))).toArray].toArray w fun e w'=>∃ v Fp,e=.returned v∧(tupPd (rdPd (0) ([])) (.bool false)).p v Fp w'∧(∀ b,Fp b=true→w.heap.size≤b∧b<w'.heap.size)∧Below w.heap.size w w':=by
 refine enter (args:=[.agg (nc (((D:Nat):Int))).toArray]) Tryz.func9 rfl 10 rfl (lk rfl) (fun a h=>?_)
 refine aX h [] [eN 1 _,eS 2 _,eS 3 _] ⟨rfl,rfl,rfl,T0⟩ [(1,.ptr 1 0)] [(1,nc (((D:Nat):Int)))] (fun a w h=>?_)
 refine wp_seq ?_
 refine aX h [1] [eS 4 _,eS 5 (.val (Value.bool false)),eS 6 _] ⟨rfl,fun L u=>u_call u (gd0 rfl) _ rfl _ _ _ rfl [_] rfl (cT25 _) (Value.bool false) (fun w hb=>by have q:=qIn (hT.keep (Bs.kp_of hb)) hD;rw [hw] at q;exact q),rfl,T0⟩ [(1,_),(6,.val (Value.bool true))] [(1,_)] (fun a w h=>?_)
 refine go_cond h true rfl (fun ht=>?_) (fun hf=>?_)
 case refine_2=>cases hf
 refine aX h [] [eS 2 _,eS 3 _] ⟨rfl,rfl,T0⟩ [(2,.val ((Value.slice none 0 0))),(3,.val (Value.bool false))] [] (fun a w h=>?_)
 refine wp_ret ?_
 refine then_ret ?_
 refine ret_two h _ _ rfl (ans_tmp (v:=(Value.slice none 0 0)) 2 (lk rfl) rfl) (ans_tmp (v:=Value.bool false) 3 (lk rfl) rfl) ?_
 exact ⟨_,fun _=>false,rfl,⟨_,rfl,rd_nilV _⟩,(fun b hb=>by cases hb),h.grows⟩
theorem qPubY {w:World} (hT:Tab w) {D:Nat} (hD:D<2 ^ 256) (hw:wi D=true):Calls Tryz.prog 9 [.agg (nc (((D:Nat):Int))).toArray].toArray w fun e w'=>∃ v Fp,e=.returned v∧(tupPd (rdPd ((ptL (mt wplus Wp.o wG D)).length) (ptL (mt wplus Wp.o wG D))) (.bool true)).p v Fp w'∧(∀ b,Fp b=true→w.heap.size≤b∧b<w'.heap.size)∧Below w.heap.size w w':=by
 refine enter (args:=[.agg (nc (((D:Nat):Int))).toArray]) Tryz.func9 rfl 10 rfl (lk rfl) (fun a h=>?_)
 refine aX h [] [eN 1 _,eS 2 _,eS 3 _] ⟨rfl,rfl,rfl,T0⟩ [(1,.ptr 1 0)] [(1,nc (((D:Nat):Int)))] (fun a w h=>?_)
 refine wp_seq ?_
 refine aX h [1] [eS 4 _,eS 5 (.val (Value.bool true)),eS 6 _] ⟨rfl,fun L u=>u_call u (gd0 rfl) _ rfl _ _ _ rfl [_] rfl (cT25 _) (Value.bool true) (fun w hb=>by have q:=qIn (hT.keep (Bs.kp_of hb)) hD;rw [hw] at q;exact q),rfl,T0⟩ [(1,_),(6,.val (Value.bool false))] [(1,_)] (fun a w h=>?_)
 refine go_cond h false rfl (fun ht=>?_) (fun hf=>?_)
 case refine_1=>cases ht
 refine wp_skip ?_
 refine then_norm ?_
 refine aXQ h [1,2,3] [eS 7 _,eS 8 (.val (.agg (pc (mt wplus Wp.o wG D)).toArray)),eQ 9 (rdPd ((ptL (mt wplus Wp.o wG D)).length) (ptL (mt wplus Wp.o wG D))),eS 2 (.unk 9 id),eS 3 _] ⟨rfl,fun L u=>u_call u (gd0 rfl) _ rfl _ _ _ rfl [_] rfl (cT27 _) _ (fun w hb=>qTB (hT.keep (Bs.kp_of hb)) hD),fun L u=>u_callQ u (gd0 rfl) 9 rfl rfl 26 #[(.tmp 8)] #[44] rfl [.val (.agg (pc (mt wplus Wp.o wG D)).toArray)] rfl (fun vs w=>callFunc_enter Tryz.func26 (by kernel_rfl) (by kernel_rfl) vs w) (rdPd ((ptL (mt wplus Wp.o wG D)).length) (ptL (mt wplus Wp.o wG D))) (fun β a w hr=>qEncP (hT.keep (Bs.kp_of hr.bl)) (mt_on wgr wG_on D)),fun L u=>u_copyQ u (gd0 rfl) 2 rfl (.tmp 9) (Or.inr rfl) rfl rfl,rfl,T0⟩ [(2,.unk 9 id),(3,.val (Value.bool true))] [] [(9,rdPd ((ptL (mt wplus Wp.o wG D)).length) (ptL (mt wplus Wp.o wG D)))] (fun a w h=>?_)
 refine wp_ret ?_
 refine ret_tv h 2 3 rfl (lk rfl) (lk rfl) 9 id rfl rfl (Value.bool true) rfl (fun v F hp hF=>?_)
 exact ⟨_,F,rfl,⟨v,rfl,hp⟩,hF,h.grows⟩
theorem awk {w:World} (hT:Tab w):Calls Tryz.prog 8 [].toArray w fun e w'=>e=.returned (.bool true)∧Below w.heap.size w w':=by
 refine enter (args:=[]) Tryz.func8 rfl 15 rfl (lk rfl) (fun a h=>?_)
 refine aX h [] [eS 0 _] ⟨rfl,T0⟩ [] [] (fun a w h=>?_)
 refine aXQ h [0,1,2,3,4,5] [eS 4 (.val (.agg (nc (((1:Nat):Int))).toArray)),eQ 5 (tupPd (rdPd ((ptL wG).length) (ptL wG)) (Value.bool true)),eS 3 (.unk 5 id),eS 6 (.unk 5 fstV),eS 7 (.val (Value.bool true)),eS 1 (.unk 5 fstV),eS 2 _] ⟨fun L u=>u_build u (gd0 rfl) 4 rfl 24 #[(0,(.const (.int .u64 1))),(1,(.const (.int .u64 0))),(2,(.const (.int .u64 0))),(3,(.const (.int .u64 0)))] rfl [(0,(Value.int IntKind.u64 1)),(1,(Value.int IntKind.u64 0)),(2,(Value.int IntKind.u64 0)),(3,(Value.int IntKind.u64 0))] rfl (nc (((1:Nat):Int))) (nb1X),fun L u=>u_callQ u (gd0 rfl) 5 rfl rfl 9 #[(.tmp 4)] #[24] rfl [.val (.agg (nc (((1:Nat):Int))).toArray)] rfl (fun vs w=>callFunc_enter Tryz.func9 (by kernel_rfl) (by kernel_rfl) vs w) (tupPd (rdPd ((ptL wG).length) (ptL wG)) (Value.bool true)) (fun β a w hr=>by have q:=qPubY (D:=1) (hT.keep (Bs.kp_of hr.bl)) (by decide) wi_1;rw [mt_one wgr wG_on] at q;exact q),fun L u=>u_copyQ u (gd0 rfl) 3 rfl (.tmp 5) (Or.inl rfl) rfl rfl,fun L u=>u_ext0T u (gd0 rfl) 6 rfl (.tmp 3) rfl rfl rfl,fun L u=>u_ext1T u (gd0 rfl) 7 rfl (.tmp 3) rfl rfl rfl,fun L u=>u_copyQ u (gd0 rfl) 1 rfl (.tmp 6) (Or.inr rfl) rfl rfl,rfl,T0⟩ [(1,.unk 5 fstV),(2,.val (Value.bool true))] [] [(5,tupPd (rdPd ((ptL wG).length) (ptL wG)) (Value.bool true))] (fun a w h=>?_)
 refine aX h [2,3,4,5] [eS 8 _,eS 9 _,eS 10 (.unk 5 fstV),eS 11 (.val (.agg (pc (wG)).toArray)),eQ 12 (rdPd ((ptL wG).length) (ptL wG)),eS 13 (.val (Value.bool true)),eS 14 _,eS 0 _] ⟨rfl,rfl,fun L u=>u_copyQ u (gd1 u 1 true rfl 9 rfl (lk rfl) rfl) 10 rfl (.tmp 1) (Or.inl rfl) rfl rfl,fun L u=>u_call u (gd1 u 1 true rfl 9 rfl (lk rfl) rfl) _ rfl _ _ _ rfl [] rfl (cT24 _) _ (fun w hb=>r_Base),fun L u=>u_callQ u (gd1 u 1 true rfl 9 rfl (lk rfl) rfl) 12 rfl rfl 23 #[(.tmp 11)] #[44] rfl [.val (.agg (pc (wG)).toArray)] rfl (fun vs w=>callFunc_enter Tryz.func23 (by kernel_rfl) (by kernel_rfl) vs w) (rdPd ((ptL wG).length) (ptL wG)) (fun β a w hr=>rEncP (hT.keep (Bs.kp_of hr.bl)) wG_on),fun L u=>u_callR u (gd1 u 1 true rfl 9 rfl (lk rfl) rfl) 13 rfl 11 #[(.tmp 10),(.tmp 12)] #[25,25] rfl [.unk 5 fstV,.unk 12 id] rfl (fun vs w=>callFunc_enter Tryz.func11 (by kernel_rfl) (by kernel_rfl) vs w) (Value.bool true) (fun β a w hr=>sameV (Nat.le_trans (ptL_len _) (by decide)) (fst_rd (hr.thing (x:=5) (u.q rfl))) (hr.thing (x:=12) (u.q rfl))),rfl,rfl,T0⟩ [(0,.val (Value.bool true))] [] (fun a w h=>?_)
 refine wp_ret ?_
 refine ret_slot h 0 rfl (lk rfl) (Value.bool true) rfl ?_
 exact ⟨rfl,h.grows⟩
end Go.Proofs.YtmigakanbeckpaaGreatDoor
