/- A part of the proof. -/
import Derived.Test.YtmigakanbeckpaaGreatDoorSm20
set_option maxRecDepth 100000
set_option maxHeartbeats 4000000
namespace Go.Proofs.YtmigakanbeckpaaGreatDoor
set_option maxRecDepth 100000
open Go.RowKit
theorem r_dbl {w:World} (hT:Tab w) (x y z:Fin m0):Calls Tryz.prog 96 [.agg (fc (x)++fc (y)++fc (z)).toArray].toArray w fun e w'=>e=.returned (.agg (jc (jdbl ⟨x,y,z⟩)).toArray)∧Below w.heap.size w w':=by
 by_cases h0:z=0
 ·skip
  refine enter Tryz.func96 rfl 70 rfl (lk rfl) (fun a h=>?_)
  refine aX h [] [eN 1 _,eN 2 _] ⟨rfl,rfl,T0⟩ [(1,.ptr 1 0),(2,.ptr 2 0)] [(1,fc (x)++fc (y)++fc (z)),(2,nz++nz++nz)] (fun a w h=>?_)
  refine wp_seq ?_
  refine aX h [2,3] [eS 9 _,eS 10 _,eS 11 (.val (.agg (nz).toArray)),eS 12 (.val (.bool true)),eS 13 _,eS 14 _,eS 15 _,eS 16 _,eS 17 _,eS 18 _] ⟨rfl,rfl,fun L u=>zT u (gd0 rfl) 11 rfl 24 #[] rfl [] rfl (nz) (bN0),fun L u=>u_eql u (gd0 rfl) 12 rfl 24 24 (.tmp 10) (.tmp 11) rfl rfl rfl Tryz.eqGuardType24 (true) (eqz_t h0),rfl,rfl,rfl,rfl,rfl,rfl,T0⟩ [(1,_),(2,_),(18,.val (.bool true))] [(1,_),(2,_)] (fun a w h=>?_)
  refine zE h true rfl (fun ht=>?_) (fun hf=>?_)
  case refine_2=>cases hf
  refine aX h [0] [eS 19 (.val (.agg (nz++nz++nz).toArray)),eM 2 _] ⟨fun L u=>zT u (gd0 rfl) 19 rfl 75 #[] rfl [] rfl (nz++nz++nz) (bJ0),rfl,T0⟩ [(2,_)] [(2,_)] (fun a w h=>?_)
  refine wp_ret ?_
  refine zP ?_
  refine zS h 2 75 rfl (lk rfl) 2 rfl (nz++nz++nz) rfl _ Tryz.underlying75 rfl i75 ?_
  exact ⟨by have e:jdbl ⟨x,y,z⟩=_:=if_pos h0;rw [e];rw [nz_fc];rfl,h.grows⟩
 ·skip
  by_cases h1:y=0
  ·skip
   refine enter Tryz.func96 rfl 70 rfl (lk rfl) (fun a h=>?_)
   refine aX h [] [eN 1 _,eN 2 _] ⟨rfl,rfl,T0⟩ [(1,.ptr 1 0),(2,.ptr 2 0)] [(1,fc (x)++fc (y)++fc (z)),(2,nz++nz++nz)] (fun a w h=>?_)
   refine wp_seq ?_
   refine aX h [2,3,7,8] [eS 9 _,eS 10 _,eS 11 (.val (.agg (nz).toArray)),eS 12 (.val (.bool false)),eS 13 _,eS 14 _,eS 15 _,eS 16 (.val (.agg (nz).toArray)),eS 17 (.val (.bool true)),eS 18 _] ⟨rfl,rfl,fun L u=>zT u (gd0 rfl) 11 rfl 24 #[] rfl [] rfl (nz) (bN0),fun L u=>u_eql u (gd0 rfl) 12 rfl 24 24 (.tmp 10) (.tmp 11) rfl rfl rfl Tryz.eqGuardType24 (false) (eqz_f h0),rfl,rfl,rfl,fun L u=>zT u (gd1 u 4 false rfl 13 rfl (lk rfl) rfl) 16 rfl 24 #[] rfl [] rfl (nz) (bN0),fun L u=>u_eql u (gd1 u 4 false rfl 13 rfl (lk rfl) rfl) 17 rfl 24 24 (.tmp 15) (.tmp 16) rfl rfl rfl Tryz.eqGuardType24 (true) (eqz_t h1),rfl,T0⟩ [(1,_),(2,_),(18,.val (.bool true))] [(1,_),(2,_)] (fun a w h=>?_)
   refine zE h true rfl (fun ht=>?_) (fun hf=>?_)
   case refine_2=>cases hf
   refine aX h [0] [eS 19 (.val (.agg (nz++nz++nz).toArray)),eM 2 _] ⟨fun L u=>zT u (gd0 rfl) 19 rfl 75 #[] rfl [] rfl (nz++nz++nz) (bJ0),rfl,T0⟩ [(2,_)] [(2,_)] (fun a w h=>?_)
   refine wp_ret ?_
   refine zP ?_
   refine zS h 2 75 rfl (lk rfl) 2 rfl (nz++nz++nz) rfl _ Tryz.underlying75 rfl i75 ?_
   exact ⟨by have e:jdbl ⟨x,y,z⟩=_:=(if_neg h0).trans (if_pos h1);rw [e];rw [nz_fc];rfl,h.grows⟩
  ·skip
   refine enter Tryz.func96 rfl 70 rfl (lk rfl) (fun a h=>?_)
   refine aX h [] [eN 1 _,eN 2 _] ⟨rfl,rfl,T0⟩ [(1,.ptr 1 0),(2,.ptr 2 0)] [(1,fc (x)++fc (y)++fc (z)),(2,nz++nz++nz)] (fun a w h=>?_)
   refine wp_seq ?_
   refine aX h [2,3,7,8] [eS 9 _,eS 10 _,eS 11 (.val (.agg (nz).toArray)),eS 12 (.val (.bool false)),eS 13 _,eS 14 _,eS 15 _,eS 16 (.val (.agg (nz).toArray)),eS 17 (.val (.bool false)),eS 18 _] ⟨rfl,rfl,fun L u=>zT u (gd0 rfl) 11 rfl 24 #[] rfl [] rfl (nz) (bN0),fun L u=>u_eql u (gd0 rfl) 12 rfl 24 24 (.tmp 10) (.tmp 11) rfl rfl rfl Tryz.eqGuardType24 (false) (eqz_f h0),rfl,rfl,rfl,fun L u=>zT u (gd1 u 4 false rfl 13 rfl (lk rfl) rfl) 16 rfl 24 #[] rfl [] rfl (nz) (bN0),fun L u=>u_eql u (gd1 u 4 false rfl 13 rfl (lk rfl) rfl) 17 rfl 24 24 (.tmp 15) (.tmp 16) rfl rfl rfl Tryz.eqGuardType24 (false) (eqz_f h1),rfl,T0⟩ [(1,_),(2,_),(18,.val (.bool false))] [(1,_),(2,_)] (fun a w h=>?_)
   refine zE h false rfl (fun ht=>?_) (fun hf=>?_)
   case refine_1=>cases ht
   refine wp_skip ?_
   refine zB ?_
   refine aX h [4] [eS 20 _,eS 21 _,eS 22 _,eS 23 _,eS 24 _,eN 3 _,eM 3 _] ⟨rfl,rfl,rfl,rfl,fun L u=>u_call u (gd0 rfl) _ rfl _ _ _ rfl [_,_] rfl (cE84 _) _ (fun w hb=>r_mul (hT.keep (Bs.kp_of hb)) _ _),rfl,rfl,T0⟩ [(1,_),(2,_),(3,.ptr 3 0)] [(1,_),(2,_),(3,fc ((z)*(z)))] (fun a w h=>?_)
   refine aX h [4] [eS 25 _,eS 26 _,eS 27 _,eS 28 _,eS 29 _,eN 4 _,eM 4 _] ⟨rfl,rfl,rfl,rfl,fun L u=>u_call u (gd0 rfl) _ rfl _ _ _ rfl [_,_] rfl (cE84 _) _ (fun w hb=>r_mul (hT.keep (Bs.kp_of hb)) _ _),rfl,rfl,T0⟩ [(1,_),(2,_),(3,_),(4,.ptr 4 0)] [(1,_),(2,_),(3,_),(4,fc ((y)*(y)))] (fun a w h=>?_)
   refine aX h [3,4] [eS 30 _,eS 31 _,eS 32 _,eS 33 _,eS 34 _,eN 5 _,eM 5 _] ⟨rfl,rfl,rfl,fun L u=>u_call u (gd0 rfl) _ rfl _ _ _ rfl [_,_] rfl (cE84 _) _ (fun w hb=>r_mul (hT.keep (Bs.kp_of hb)) _ _),fun L u=>u_call u (gd0 rfl) _ rfl _ _ _ rfl [_,_] rfl (cE85 _) _ (fun w hb=>r_times (hT.keep (Bs.kp_of hb)) _ 4 (by decide)),rfl,rfl,T0⟩ [(1,_),(2,_),(3,_),(4,_),(5,.ptr 5 0)] [(1,_),(2,_),(3,_),(4,_),(5,fc (tmN ((x)*((y)*(y))) 4))] (fun a w h=>?_)
   refine aX h [3,7,8,9] [eS 35 _,eS 36 _,eS 37 _,eS 38 _,eS 39 _,eS 40 _,eS 41 _,eS 42 _,eS 43 _,eS 44 _,eN 6 _,eM 6 _] ⟨rfl,rfl,rfl,fun L u=>u_call u (gd0 rfl) _ rfl _ _ _ rfl [_,_] rfl (cE83 _) _ (fun w hb=>r_sub (hT.keep (Bs.kp_of hb)) _ _),rfl,rfl,rfl,fun L u=>u_call u (gd0 rfl) _ rfl _ _ _ rfl [_,_] rfl (cE82 _) _ (fun w hb=>r_add (hT.keep (Bs.kp_of hb)) _ _),fun L u=>u_call u (gd0 rfl) _ rfl _ _ _ rfl [_,_] rfl (cE84 _) _ (fun w hb=>r_mul (hT.keep (Bs.kp_of hb)) _ _),fun L u=>u_call u (gd0 rfl) _ rfl _ _ _ rfl [_,_] rfl (cE85 _) _ (fun w hb=>r_times (hT.keep (Bs.kp_of hb)) _ 3 (by decide)),rfl,rfl,T0⟩ [(1,_),(2,_),(4,_),(5,_),(6,.ptr 6 0)] [(1,_),(2,_),(4,_),(5,_),(6,fc (tmN (((x)-((z)*(z)))*((x)+((z)*(z)))) 3))] (fun a w h=>?_)
   refine aX h [2,4,5] [eS 45 _,eS 46 _,eS 47 _,eS 48 _,eS 49 _,eS 50 _,eN 7 _,eM 7 _] ⟨rfl,rfl,fun L u=>u_call u (gd0 rfl) _ rfl _ _ _ rfl [_,_] rfl (cE84 _) _ (fun w hb=>r_mul (hT.keep (Bs.kp_of hb)) _ _),rfl,fun L u=>u_call u (gd0 rfl) _ rfl _ _ _ rfl [_,_] rfl (cE85 _) _ (fun w hb=>r_times (hT.keep (Bs.kp_of hb)) _ 2 (by decide)),fun L u=>u_call u (gd0 rfl) _ rfl _ _ _ rfl [_,_] rfl (cE83 _) _ (fun w hb=>r_sub (hT.keep (Bs.kp_of hb)) _ _),rfl,rfl,T0⟩ [(1,_),(2,_),(4,_),(5,_),(6,_),(7,.ptr 7 0)] [(1,_),(2,_),(4,_),(5,_),(6,_),(7,fc (((tmN (((x)-((z)*(z)))*((x)+((z)*(z)))) 3)*(tmN (((x)-((z)*(z)))*((x)+((z)*(z)))) 3))-(tmN (tmN ((x)*((y)*(y))) 4) 2)))] (fun a w h=>?_)
   refine aX h [3,4,7,8,9] [eS 51 _,eS 52 _,eS 53 _,eS 54 _,eS 55 _,eS 56 _,eS 57 _,eS 58 _,eS 59 _,eS 60 _,eN 8 _,eM 8 _] ⟨rfl,rfl,rfl,fun L u=>u_call u (gd0 rfl) _ rfl _ _ _ rfl [_,_] rfl (cE83 _) _ (fun w hb=>r_sub (hT.keep (Bs.kp_of hb)) _ _),fun L u=>u_call u (gd0 rfl) _ rfl _ _ _ rfl [_,_] rfl (cE84 _) _ (fun w hb=>r_mul (hT.keep (Bs.kp_of hb)) _ _),rfl,rfl,fun L u=>u_call u (gd0 rfl) _ rfl _ _ _ rfl [_,_] rfl (cE84 _) _ (fun w hb=>r_mul (hT.keep (Bs.kp_of hb)) _ _),fun L u=>u_call u (gd0 rfl) _ rfl _ _ _ rfl [_,_] rfl (cE85 _) _ (fun w hb=>r_times (hT.keep (Bs.kp_of hb)) _ 8 (by decide)),fun L u=>u_call u (gd0 rfl) _ rfl _ _ _ rfl [_,_] rfl (cE83 _) _ (fun w hb=>r_sub (hT.keep (Bs.kp_of hb)) _ _),rfl,rfl,T0⟩ [(1,_),(2,_),(7,_),(8,.ptr 8 0)] [(1,_),(2,_),(7,_),(8,fc (((tmN (((x)-((z)*(z)))*((x)+((z)*(z)))) 3)*((tmN ((x)*((y)*(y))) 4)-(((tmN (((x)-((z)*(z)))*((x)+((z)*(z)))) 3)*(tmN (((x)-((z)*(z)))*((x)+((z)*(z)))) 3))-(tmN (tmN ((x)*((y)*(y))) 4) 2))))-(tmN (((y)*(y))*((y)*(y))) 8)))] (fun a w h=>?_)
   refine aX h [6,7,8] [eS 61 _,eS 62 _,eS 63 _,eS 64 _,eS 65 _,eS 66 _,eS 67 _,eS 68 _,eS 69 (.val (.agg (fc (((tmN (((x)-((z)*(z)))*((x)+((z)*(z)))) 3)*(tmN (((x)-((z)*(z)))*((x)+((z)*(z)))) 3))-(tmN (tmN ((x)*((y)*(y))) 4) 2))++fc (((tmN (((x)-((z)*(z)))*((x)+((z)*(z)))) 3)*((tmN ((x)*((y)*(y))) 4)-(((tmN (((x)-((z)*(z)))*((x)+((z)*(z)))) 3)*(tmN (((x)-((z)*(z)))*((x)+((z)*(z)))) 3))-(tmN (tmN ((x)*((y)*(y))) 4) 2))))-(tmN (((y)*(y))*((y)*(y))) 8))++fc (tmN ((y)*(z)) 2)).toArray)),eM 2 _] ⟨rfl,rfl,rfl,rfl,rfl,rfl,fun L u=>u_call u (gd0 rfl) _ rfl _ _ _ rfl [_,_] rfl (cE84 _) _ (fun w hb=>r_mul (hT.keep (Bs.kp_of hb)) _ _),fun L u=>u_call u (gd0 rfl) _ rfl _ _ _ rfl [_,_] rfl (cE85 _) _ (fun w hb=>r_times (hT.keep (Bs.kp_of hb)) _ 2 (by decide)),fun L u=>zT u (gd0 rfl) 69 rfl 75 #[(0,(.tmp 61)),(1,(.tmp 62)),(2,(.tmp 68))] rfl [(0,.agg (fc (((tmN (((x)-((z)*(z)))*((x)+((z)*(z)))) 3)*(tmN (((x)-((z)*(z)))*((x)+((z)*(z)))) 3))-(tmN (tmN ((x)*((y)*(y))) 4) 2))).toArray),(1,.agg (fc (((tmN (((x)-((z)*(z)))*((x)+((z)*(z)))) 3)*((tmN ((x)*((y)*(y))) 4)-(((tmN (((x)-((z)*(z)))*((x)+((z)*(z)))) 3)*(tmN (((x)-((z)*(z)))*((x)+((z)*(z)))) 3))-(tmN (tmN ((x)*((y)*(y))) 4) 2))))-(tmN (((y)*(y))*((y)*(y))) 8))).toArray),(2,.agg (fc (tmN ((y)*(z)) 2)).toArray)] rfl (fc (((tmN (((x)-((z)*(z)))*((x)+((z)*(z)))) 3)*(tmN (((x)-((z)*(z)))*((x)+((z)*(z)))) 3))-(tmN (tmN ((x)*((y)*(y))) 4) 2))++fc (((tmN (((x)-((z)*(z)))*((x)+((z)*(z)))) 3)*((tmN ((x)*((y)*(y))) 4)-(((tmN (((x)-((z)*(z)))*((x)+((z)*(z)))) 3)*(tmN (((x)-((z)*(z)))*((x)+((z)*(z)))) 3))-(tmN (tmN ((x)*((y)*(y))) 4) 2))))-(tmN (((y)*(y))*((y)*(y))) 8))++fc (tmN ((y)*(z)) 2)) (bJ _ _ _),rfl,T0⟩ [(2,_)] [(2,fc (((tmN (((x)-((z)*(z)))*((x)+((z)*(z)))) 3)*(tmN (((x)-((z)*(z)))*((x)+((z)*(z)))) 3))-(tmN (tmN ((x)*((y)*(y))) 4) 2))++fc (((tmN (((x)-((z)*(z)))*((x)+((z)*(z)))) 3)*((tmN ((x)*((y)*(y))) 4)-(((tmN (((x)-((z)*(z)))*((x)+((z)*(z)))) 3)*(tmN (((x)-((z)*(z)))*((x)+((z)*(z)))) 3))-(tmN (tmN ((x)*((y)*(y))) 4) 2))))-(tmN (((y)*(y))*((y)*(y))) 8))++fc (tmN ((y)*(z)) 2))] (fun a w h=>?_)
   refine wp_ret ?_
   refine zS h 2 75 rfl (lk rfl) 2 rfl (fc (((tmN (((x)-((z)*(z)))*((x)+((z)*(z)))) 3)*(tmN (((x)-((z)*(z)))*((x)+((z)*(z)))) 3))-(tmN (tmN ((x)*((y)*(y))) 4) 2))++fc (((tmN (((x)-((z)*(z)))*((x)+((z)*(z)))) 3)*((tmN ((x)*((y)*(y))) 4)-(((tmN (((x)-((z)*(z)))*((x)+((z)*(z)))) 3)*(tmN (((x)-((z)*(z)))*((x)+((z)*(z)))) 3))-(tmN (tmN ((x)*((y)*(y))) 4) 2))))-(tmN (((y)*(y))*((y)*(y))) 8))++fc (tmN ((y)*(z)) 2)) rfl _ Tryz.underlying75 rfl i75 ?_
   exact ⟨by have e:jdbl ⟨x,y,z⟩=_:=(if_neg h0).trans (if_neg h1);rw [e];rfl,h.grows⟩
theorem r_plus {w:World} (hT:Tab w) (x1 y1 z1 x2 y2 z2:Fin m0):Calls Tryz.prog 98 [.agg (fc (x1)++fc (y1)++fc (z1)).toArray,.agg (fc (x2)++fc (y2)++fc (z2)).toArray].toArray w fun e w'=>e=.returned (.agg (jc (jadd ⟨x1,y1,z1⟩ ⟨x2,y2,z2⟩)).toArray)∧Below w.heap.size w w':=by
 by_cases h0:z1=0
 ·skip
  refine enter Tryz.func98 rfl 111 rfl (lk rfl) (fun a h=>?_)
  refine aX h [] [eN 2 _,eN 3 _,eN 4 _] ⟨rfl,rfl,rfl,T0⟩ [(2,.ptr 2 0),(3,.ptr 3 0),(4,.ptr 4 0)] [(2,fc (x1)++fc (y1)++fc (z1)),(3,fc (x2)++fc (y2)++fc (z2)),(4,nz++nz++nz)] (fun a w h=>?_)
  refine wp_seq ?_
  refine aX h [2,3] [eS 18 _,eS 19 _,eS 20 (.val (.agg (nz).toArray)),eS 21 (.val (.bool true))] ⟨rfl,rfl,fun L u=>zT u (gd0 rfl) 20 rfl 24 #[] rfl [] rfl (nz) (bN0),fun L u=>u_eql u (gd0 rfl) 21 rfl 24 24 (.tmp 19) (.tmp 20) rfl rfl rfl Tryz.eqGuardType24 (true) (eqz_t h0),T0⟩ [(2,_),(3,_),(4,_),(21,.val (.bool true))] [(2,_),(3,_),(4,_)] (fun a w h=>?_)
  refine zE h true rfl (fun ht=>?_) (fun hf=>?_)
  case refine_2=>cases hf
  refine aX h [] [eS 22 _,eM 4 _] ⟨rfl,rfl,T0⟩ [(4,_)] [(4,fc (x2)++fc (y2)++fc (z2))] (fun a w h=>?_)
  refine wp_ret ?_
  refine zP ?_
  refine zS h 4 75 rfl (lk rfl) 4 rfl (fc (x2)++fc (y2)++fc (z2)) rfl _ Tryz.underlying75 rfl i75 ?_
  exact ⟨by have e:jadd ⟨x1,y1,z1⟩ ⟨x2,y2,z2⟩=_:=if_pos h0;rw [e];rfl,h.grows⟩
 ·skip
  by_cases h1:z2=0
  ·skip
   refine enter Tryz.func98 rfl 111 rfl (lk rfl) (fun a h=>?_)
   refine aX h [] [eN 2 _,eN 3 _,eN 4 _] ⟨rfl,rfl,rfl,T0⟩ [(2,.ptr 2 0),(3,.ptr 3 0),(4,.ptr 4 0)] [(2,fc (x1)++fc (y1)++fc (z1)),(3,fc (x2)++fc (y2)++fc (z2)),(4,nz++nz++nz)] (fun a w h=>?_)
   refine wp_seq ?_
   refine aX h [2,3] [eS 18 _,eS 19 _,eS 20 (.val (.agg (nz).toArray)),eS 21 (.val (.bool false))] ⟨rfl,rfl,fun L u=>zT u (gd0 rfl) 20 rfl 24 #[] rfl [] rfl (nz) (bN0),fun L u=>u_eql u (gd0 rfl) 21 rfl 24 24 (.tmp 19) (.tmp 20) rfl rfl rfl Tryz.eqGuardType24 (false) (eqz_f h0),T0⟩ [(2,_),(3,_),(4,_),(21,.val (.bool false))] [(2,_),(3,_),(4,_)] (fun a w h=>?_)
   refine zE h false rfl (fun ht=>?_) (fun hf=>?_)
   case refine_1=>cases ht
   refine wp_skip ?_
   refine zB ?_
   refine wp_seq ?_
   refine aX h [2,3] [eS 23 _,eS 24 _,eS 25 (.val (.agg (nz).toArray)),eS 26 (.val (.bool true))] ⟨rfl,rfl,fun L u=>zT u (gd0 rfl) 25 rfl 24 #[] rfl [] rfl (nz) (bN0),fun L u=>u_eql u (gd0 rfl) 26 rfl 24 24 (.tmp 24) (.tmp 25) rfl rfl rfl Tryz.eqGuardType24 (true) (eqz_t h1),T0⟩ [(2,_),(3,_),(4,_),(26,.val (.bool true))] [(2,_),(3,_),(4,_)] (fun a w h=>?_)
   refine zE h true rfl (fun ht=>?_) (fun hf=>?_)
   case refine_2=>cases hf
   refine aX h [] [eS 27 _,eM 4 _] ⟨rfl,rfl,T0⟩ [(4,_)] [(4,fc (x1)++fc (y1)++fc (z1))] (fun a w h=>?_)
   refine wp_ret ?_
   refine zP ?_
   refine zS h 4 75 rfl (lk rfl) 4 rfl (fc (x1)++fc (y1)++fc (z1)) rfl _ Tryz.underlying75 rfl i75 ?_
   exact ⟨by have e:jadd ⟨x1,y1,z1⟩ ⟨x2,y2,z2⟩=_:=(if_neg h0).trans (if_pos h1);rw [e];rfl,h.grows⟩
  ·skip
   by_cases h2:(x1)*((z2)*(z2))=(x2)*((z1)*(z1))
   ·skip
    by_cases h3:(y1)*((z2)*((z2)*(z2)))=(y2)*((z1)*((z1)*(z1)))
    ·skip
     refine enter Tryz.func98 rfl 111 rfl (lk rfl) (fun a h=>?_)
     refine aX h [] [eN 2 _,eN 3 _,eN 4 _] ⟨rfl,rfl,rfl,T0⟩ [(2,.ptr 2 0),(3,.ptr 3 0),(4,.ptr 4 0)] [(2,fc (x1)++fc (y1)++fc (z1)),(3,fc (x2)++fc (y2)++fc (z2)),(4,nz++nz++nz)] (fun a w h=>?_)
     refine wp_seq ?_
     refine aX h [2,3] [eS 18 _,eS 19 _,eS 20 (.val (.agg (nz).toArray)),eS 21 (.val (.bool false))] ⟨rfl,rfl,fun L u=>zT u (gd0 rfl) 20 rfl 24 #[] rfl [] rfl (nz) (bN0),fun L u=>u_eql u (gd0 rfl) 21 rfl 24 24 (.tmp 19) (.tmp 20) rfl rfl rfl Tryz.eqGuardType24 (false) (eqz_f h0),T0⟩ [(2,_),(3,_),(4,_),(21,.val (.bool false))] [(2,_),(3,_),(4,_)] (fun a w h=>?_)
     refine zE h false rfl (fun ht=>?_) (fun hf=>?_)
     case refine_1=>cases ht
     refine wp_skip ?_
     refine zB ?_
     refine wp_seq ?_
     refine aX h [2,3] [eS 23 _,eS 24 _,eS 25 (.val (.agg (nz).toArray)),eS 26 (.val (.bool false))] ⟨rfl,rfl,fun L u=>zT u (gd0 rfl) 25 rfl 24 #[] rfl [] rfl (nz) (bN0),fun L u=>u_eql u (gd0 rfl) 26 rfl 24 24 (.tmp 24) (.tmp 25) rfl rfl rfl Tryz.eqGuardType24 (false) (eqz_f h1),T0⟩ [(2,_),(3,_),(4,_),(26,.val (.bool false))] [(2,_),(3,_),(4,_)] (fun a w h=>?_)
     refine zE h false rfl (fun ht=>?_) (fun hf=>?_)
     case refine_1=>cases ht
     refine wp_skip ?_
     refine zB ?_
     refine aX h [4,9] [eS 28 _,eS 29 _,eS 30 _,eS 31 _,eS 32 _,eS 33 _,eS 34 _,eS 35 _,eS 36 _,eS 37 _,eN 5 _,eN 6 _,eM 5 _,eM 6 _] ⟨rfl,rfl,rfl,rfl,fun L u=>u_call u (gd0 rfl) _ rfl _ _ _ rfl [_,_] rfl (cE84 _) _ (fun w hb=>r_mul (hT.keep (Bs.kp_of hb)) _ _),rfl,rfl,rfl,rfl,fun L u=>u_call u (gd0 rfl) _ rfl _ _ _ rfl [_,_] rfl (cE84 _) _ (fun w hb=>r_mul (hT.keep (Bs.kp_of hb)) _ _),rfl,rfl,rfl,rfl,T0⟩ [(2,_),(3,_),(4,_),(5,.ptr 5 0),(6,.ptr 6 0)] [(2,_),(3,_),(4,_),(5,fc ((z1)*(z1))),(6,fc ((z2)*(z2)))] (fun a w h=>?_)
     refine aX h [3,7] [eS 38 _,eS 39 _,eS 40 _,eS 41 _,eS 42 _,eS 43 _,eS 44 _,eS 45 _,eN 7 _,eN 8 _,eM 7 _,eM 8 _] ⟨rfl,rfl,rfl,fun L u=>u_call u (gd0 rfl) _ rfl _ _ _ rfl [_,_] rfl (cE84 _) _ (fun w hb=>r_mul (hT.keep (Bs.kp_of hb)) _ _),rfl,rfl,rfl,fun L u=>u_call u (gd0 rfl) _ rfl _ _ _ rfl [_,_] rfl (cE84 _) _ (fun w hb=>r_mul (hT.keep (Bs.kp_of hb)) _ _),rfl,rfl,rfl,rfl,T0⟩ [(2,_),(3,_),(4,_),(5,_),(6,_),(7,.ptr 7 0),(8,.ptr 8 0)] [(2,_),(3,_),(4,_),(5,_),(6,_),(7,fc ((x1)*((z2)*(z2)))),(8,fc ((x2)*((z1)*(z1))))] (fun a w h=>?_)
     refine aX h [5,6,12,13] [eS 46 _,eS 47 _,eS 48 _,eS 49 _,eS 50 _,eS 51 _,eS 52 _,eS 53 _,eS 54 _,eS 55 _,eS 56 _,eS 57 _,eS 58 _,eS 59 _,eN 9 _,eN 10 _,eM 9 _,eM 10 _] ⟨rfl,rfl,rfl,rfl,rfl,fun L u=>u_call u (gd0 rfl) _ rfl _ _ _ rfl [_,_] rfl (cE84 _) _ (fun w hb=>r_mul (hT.keep (Bs.kp_of hb)) _ _),fun L u=>u_call u (gd0 rfl) _ rfl _ _ _ rfl [_,_] rfl (cE84 _) _ (fun w hb=>r_mul (hT.keep (Bs.kp_of hb)) _ _),rfl,rfl,rfl,rfl,rfl,fun L u=>u_call u (gd0 rfl) _ rfl _ _ _ rfl [_,_] rfl (cE84 _) _ (fun w hb=>r_mul (hT.keep (Bs.kp_of hb)) _ _),fun L u=>u_call u (gd0 rfl) _ rfl _ _ _ rfl [_,_] rfl (cE84 _) _ (fun w hb=>r_mul (hT.keep (Bs.kp_of hb)) _ _),rfl,rfl,rfl,rfl,T0⟩ [(2,_),(3,_),(4,_),(7,_),(8,_),(9,.ptr 9 0),(10,.ptr 10 0)] [(2,_),(3,_),(4,_),(7,_),(8,_),(9,fc ((y1)*((z2)*((z2)*(z2))))),(10,fc ((y2)*((z1)*((z1)*(z1)))))] (fun a w h=>?_)
     refine wp_seq ?_
     refine aX h [2] [eS 60 _,eS 61 _,eS 62 (.val (.bool true))] ⟨rfl,rfl,fun L u=>u_eql u (gd0 rfl) 62 rfl 24 24 (.tmp 60) (.tmp 61) rfl rfl rfl Tryz.eqGuardType24 (true) (eq_t h2),T0⟩ [(2,_),(3,_),(4,_),(7,_),(8,_),(9,_),(10,_),(62,.val (.bool true))] [(2,_),(3,_),(4,_),(7,_),(8,_),(9,_),(10,_)] (fun a w h=>?_)
     refine zE h true rfl (fun ht=>?_) (fun hf=>?_)
     case refine_2=>cases hf
     refine wp_seq ?_
     refine aX h [2] [eS 63 _,eS 64 _,eS 65 (.val (.bool true))] ⟨rfl,rfl,fun L u=>u_eql u (gd0 rfl) 65 rfl 24 24 (.tmp 63) (.tmp 64) rfl rfl rfl Tryz.eqGuardType24 (true) (eq_t h3),T0⟩ [(2,_),(4,_),(65,.val (.bool true))] [(2,_),(4,_)] (fun a w h=>?_)
     refine zE h true rfl (fun ht=>?_) (fun hf=>?_)
     case refine_2=>cases hf
     refine aX h [1] [eS 66 _,eS 67 _,eM 4 _] ⟨rfl,fun L u=>u_call u (gd0 rfl) _ rfl _ _ _ rfl [_] rfl (cE96 _) _ (fun w hb=>r_dbl (hT.keep (Bs.kp_of hb)) _ _ _),rfl,T0⟩ [(4,_)] [(4,fc ((jdbl ⟨x1,y1,z1⟩).x)++fc ((jdbl ⟨x1,y1,z1⟩).y)++fc ((jdbl ⟨x1,y1,z1⟩).z))] (fun a w h=>?_)
     refine wp_ret ?_
     refine zP ?_
     refine zP ?_
     refine zS h 4 75 rfl (lk rfl) 4 rfl (fc ((jdbl ⟨x1,y1,z1⟩).x)++fc ((jdbl ⟨x1,y1,z1⟩).y)++fc ((jdbl ⟨x1,y1,z1⟩).z)) rfl _ Tryz.underlying75 rfl i75 ?_
     exact ⟨by have e:jadd ⟨x1,y1,z1⟩ ⟨x2,y2,z2⟩=_:=(if_neg h0).trans ((if_neg h1).trans ((if_pos h2).trans (if_pos h3)));rw [e];rfl,h.grows⟩
    ·skip
     refine enter Tryz.func98 rfl 111 rfl (lk rfl) (fun a h=>?_)
     refine aX h [] [eN 2 _,eN 3 _,eN 4 _] ⟨rfl,rfl,rfl,T0⟩ [(2,.ptr 2 0),(3,.ptr 3 0),(4,.ptr 4 0)] [(2,fc (x1)++fc (y1)++fc (z1)),(3,fc (x2)++fc (y2)++fc (z2)),(4,nz++nz++nz)] (fun a w h=>?_)
     refine wp_seq ?_
     refine aX h [2,3] [eS 18 _,eS 19 _,eS 20 (.val (.agg (nz).toArray)),eS 21 (.val (.bool false))] ⟨rfl,rfl,fun L u=>zT u (gd0 rfl) 20 rfl 24 #[] rfl [] rfl (nz) (bN0),fun L u=>u_eql u (gd0 rfl) 21 rfl 24 24 (.tmp 19) (.tmp 20) rfl rfl rfl Tryz.eqGuardType24 (false) (eqz_f h0),T0⟩ [(2,_),(3,_),(4,_),(21,.val (.bool false))] [(2,_),(3,_),(4,_)] (fun a w h=>?_)
     refine zE h false rfl (fun ht=>?_) (fun hf=>?_)
     case refine_1=>cases ht
     refine wp_skip ?_
     refine zB ?_
     refine wp_seq ?_
     refine aX h [2,3] [eS 23 _,eS 24 _,eS 25 (.val (.agg (nz).toArray)),eS 26 (.val (.bool false))] ⟨rfl,rfl,fun L u=>zT u (gd0 rfl) 25 rfl 24 #[] rfl [] rfl (nz) (bN0),fun L u=>u_eql u (gd0 rfl) 26 rfl 24 24 (.tmp 24) (.tmp 25) rfl rfl rfl Tryz.eqGuardType24 (false) (eqz_f h1),T0⟩ [(2,_),(3,_),(4,_),(26,.val (.bool false))] [(2,_),(3,_),(4,_)] (fun a w h=>?_)
     refine zE h false rfl (fun ht=>?_) (fun hf=>?_)
     case refine_1=>cases ht
     refine wp_skip ?_
     refine zB ?_
     refine aX h [4,9] [eS 28 _,eS 29 _,eS 30 _,eS 31 _,eS 32 _,eS 33 _,eS 34 _,eS 35 _,eS 36 _,eS 37 _,eN 5 _,eN 6 _,eM 5 _,eM 6 _] ⟨rfl,rfl,rfl,rfl,fun L u=>u_call u (gd0 rfl) _ rfl _ _ _ rfl [_,_] rfl (cE84 _) _ (fun w hb=>r_mul (hT.keep (Bs.kp_of hb)) _ _),rfl,rfl,rfl,rfl,fun L u=>u_call u (gd0 rfl) _ rfl _ _ _ rfl [_,_] rfl (cE84 _) _ (fun w hb=>r_mul (hT.keep (Bs.kp_of hb)) _ _),rfl,rfl,rfl,rfl,T0⟩ [(2,_),(3,_),(4,_),(5,.ptr 5 0),(6,.ptr 6 0)] [(2,_),(3,_),(4,_),(5,fc ((z1)*(z1))),(6,fc ((z2)*(z2)))] (fun a w h=>?_)
     refine aX h [3,7] [eS 38 _,eS 39 _,eS 40 _,eS 41 _,eS 42 _,eS 43 _,eS 44 _,eS 45 _,eN 7 _,eN 8 _,eM 7 _,eM 8 _] ⟨rfl,rfl,rfl,fun L u=>u_call u (gd0 rfl) _ rfl _ _ _ rfl [_,_] rfl (cE84 _) _ (fun w hb=>r_mul (hT.keep (Bs.kp_of hb)) _ _),rfl,rfl,rfl,fun L u=>u_call u (gd0 rfl) _ rfl _ _ _ rfl [_,_] rfl (cE84 _) _ (fun w hb=>r_mul (hT.keep (Bs.kp_of hb)) _ _),rfl,rfl,rfl,rfl,T0⟩ [(2,_),(3,_),(4,_),(5,_),(6,_),(7,.ptr 7 0),(8,.ptr 8 0)] [(2,_),(3,_),(4,_),(5,_),(6,_),(7,fc ((x1)*((z2)*(z2)))),(8,fc ((x2)*((z1)*(z1))))] (fun a w h=>?_)
     refine aX h [5,6,12,13] [eS 46 _,eS 47 _,eS 48 _,eS 49 _,eS 50 _,eS 51 _,eS 52 _,eS 53 _,eS 54 _,eS 55 _,eS 56 _,eS 57 _,eS 58 _,eS 59 _,eN 9 _,eN 10 _,eM 9 _,eM 10 _] ⟨rfl,rfl,rfl,rfl,rfl,fun L u=>u_call u (gd0 rfl) _ rfl _ _ _ rfl [_,_] rfl (cE84 _) _ (fun w hb=>r_mul (hT.keep (Bs.kp_of hb)) _ _),fun L u=>u_call u (gd0 rfl) _ rfl _ _ _ rfl [_,_] rfl (cE84 _) _ (fun w hb=>r_mul (hT.keep (Bs.kp_of hb)) _ _),rfl,rfl,rfl,rfl,rfl,fun L u=>u_call u (gd0 rfl) _ rfl _ _ _ rfl [_,_] rfl (cE84 _) _ (fun w hb=>r_mul (hT.keep (Bs.kp_of hb)) _ _),fun L u=>u_call u (gd0 rfl) _ rfl _ _ _ rfl [_,_] rfl (cE84 _) _ (fun w hb=>r_mul (hT.keep (Bs.kp_of hb)) _ _),rfl,rfl,rfl,rfl,T0⟩ [(2,_),(3,_),(4,_),(7,_),(8,_),(9,.ptr 9 0),(10,.ptr 10 0)] [(2,_),(3,_),(4,_),(7,_),(8,_),(9,fc ((y1)*((z2)*((z2)*(z2))))),(10,fc ((y2)*((z1)*((z1)*(z1)))))] (fun a w h=>?_)
     refine wp_seq ?_
     refine aX h [2] [eS 60 _,eS 61 _,eS 62 (.val (.bool true))] ⟨rfl,rfl,fun L u=>u_eql u (gd0 rfl) 62 rfl 24 24 (.tmp 60) (.tmp 61) rfl rfl rfl Tryz.eqGuardType24 (true) (eq_t h2),T0⟩ [(2,_),(3,_),(4,_),(7,_),(8,_),(9,_),(10,_),(62,.val (.bool true))] [(2,_),(3,_),(4,_),(7,_),(8,_),(9,_),(10,_)] (fun a w h=>?_)
     refine zE h true rfl (fun ht=>?_) (fun hf=>?_)
     case refine_2=>cases hf
     refine wp_seq ?_
     refine aX h [2] [eS 63 _,eS 64 _,eS 65 (.val (.bool false))] ⟨rfl,rfl,fun L u=>u_eql u (gd0 rfl) 65 rfl 24 24 (.tmp 63) (.tmp 64) rfl rfl rfl Tryz.eqGuardType24 (false) (eq_f h3),T0⟩ [(2,_),(4,_),(65,.val (.bool false))] [(2,_),(4,_)] (fun a w h=>?_)
     refine zE h false rfl (fun ht=>?_) (fun hf=>?_)
     case refine_1=>cases ht
     refine wp_skip ?_
     refine zB ?_
     refine aX h [0] [eS 68 (.val (.agg (nz++nz++nz).toArray)),eM 4 _] ⟨fun L u=>zT u (gd0 rfl) 68 rfl 75 #[] rfl [] rfl (nz++nz++nz) (bJ0),rfl,T0⟩ [(4,_)] [(4,_)] (fun a w h=>?_)
     refine wp_ret ?_
     refine zP ?_
     refine zS h 4 75 rfl (lk rfl) 4 rfl (nz++nz++nz) rfl _ Tryz.underlying75 rfl i75 ?_
     exact ⟨by have e:jadd ⟨x1,y1,z1⟩ ⟨x2,y2,z2⟩=_:=(if_neg h0).trans ((if_neg h1).trans ((if_pos h2).trans (if_neg h3)));rw [e];rw [nz_fc];rfl,h.grows⟩
   ·skip
    refine enter Tryz.func98 rfl 111 rfl (lk rfl) (fun a h=>?_)
    refine aX h [] [eN 2 _,eN 3 _,eN 4 _] ⟨rfl,rfl,rfl,T0⟩ [(2,.ptr 2 0),(3,.ptr 3 0),(4,.ptr 4 0)] [(2,fc (x1)++fc (y1)++fc (z1)),(3,fc (x2)++fc (y2)++fc (z2)),(4,nz++nz++nz)] (fun a w h=>?_)
    refine wp_seq ?_
    refine aX h [2,3] [eS 18 _,eS 19 _,eS 20 (.val (.agg (nz).toArray)),eS 21 (.val (.bool false))] ⟨rfl,rfl,fun L u=>zT u (gd0 rfl) 20 rfl 24 #[] rfl [] rfl (nz) (bN0),fun L u=>u_eql u (gd0 rfl) 21 rfl 24 24 (.tmp 19) (.tmp 20) rfl rfl rfl Tryz.eqGuardType24 (false) (eqz_f h0),T0⟩ [(2,_),(3,_),(4,_),(21,.val (.bool false))] [(2,_),(3,_),(4,_)] (fun a w h=>?_)
    refine zE h false rfl (fun ht=>?_) (fun hf=>?_)
    case refine_1=>cases ht
    refine wp_skip ?_
    refine zB ?_
    refine wp_seq ?_
    refine aX h [2,3] [eS 23 _,eS 24 _,eS 25 (.val (.agg (nz).toArray)),eS 26 (.val (.bool false))] ⟨rfl,rfl,fun L u=>zT u (gd0 rfl) 25 rfl 24 #[] rfl [] rfl (nz) (bN0),fun L u=>u_eql u (gd0 rfl) 26 rfl 24 24 (.tmp 24) (.tmp 25) rfl rfl rfl Tryz.eqGuardType24 (false) (eqz_f h1),T0⟩ [(2,_),(3,_),(4,_),(26,.val (.bool false))] [(2,_),(3,_),(4,_)] (fun a w h=>?_)
    refine zE h false rfl (fun ht=>?_) (fun hf=>?_)
    case refine_1=>cases ht
    refine wp_skip ?_
    refine zB ?_
    refine aX h [4,9] [eS 28 _,eS 29 _,eS 30 _,eS 31 _,eS 32 _,eS 33 _,eS 34 _,eS 35 _,eS 36 _,eS 37 _,eN 5 _,eN 6 _,eM 5 _,eM 6 _] ⟨rfl,rfl,rfl,rfl,fun L u=>u_call u (gd0 rfl) _ rfl _ _ _ rfl [_,_] rfl (cE84 _) _ (fun w hb=>r_mul (hT.keep (Bs.kp_of hb)) _ _),rfl,rfl,rfl,rfl,fun L u=>u_call u (gd0 rfl) _ rfl _ _ _ rfl [_,_] rfl (cE84 _) _ (fun w hb=>r_mul (hT.keep (Bs.kp_of hb)) _ _),rfl,rfl,rfl,rfl,T0⟩ [(2,_),(3,_),(4,_),(5,.ptr 5 0),(6,.ptr 6 0)] [(2,_),(3,_),(4,_),(5,fc ((z1)*(z1))),(6,fc ((z2)*(z2)))] (fun a w h=>?_)
    refine aX h [3,7] [eS 38 _,eS 39 _,eS 40 _,eS 41 _,eS 42 _,eS 43 _,eS 44 _,eS 45 _,eN 7 _,eN 8 _,eM 7 _,eM 8 _] ⟨rfl,rfl,rfl,fun L u=>u_call u (gd0 rfl) _ rfl _ _ _ rfl [_,_] rfl (cE84 _) _ (fun w hb=>r_mul (hT.keep (Bs.kp_of hb)) _ _),rfl,rfl,rfl,fun L u=>u_call u (gd0 rfl) _ rfl _ _ _ rfl [_,_] rfl (cE84 _) _ (fun w hb=>r_mul (hT.keep (Bs.kp_of hb)) _ _),rfl,rfl,rfl,rfl,T0⟩ [(2,_),(3,_),(4,_),(5,_),(6,_),(7,.ptr 7 0),(8,.ptr 8 0)] [(2,_),(3,_),(4,_),(5,_),(6,_),(7,fc ((x1)*((z2)*(z2)))),(8,fc ((x2)*((z1)*(z1))))] (fun a w h=>?_)
    refine aX h [5,6,12,13] [eS 46 _,eS 47 _,eS 48 _,eS 49 _,eS 50 _,eS 51 _,eS 52 _,eS 53 _,eS 54 _,eS 55 _,eS 56 _,eS 57 _,eS 58 _,eS 59 _,eN 9 _,eN 10 _,eM 9 _,eM 10 _] ⟨rfl,rfl,rfl,rfl,rfl,fun L u=>u_call u (gd0 rfl) _ rfl _ _ _ rfl [_,_] rfl (cE84 _) _ (fun w hb=>r_mul (hT.keep (Bs.kp_of hb)) _ _),fun L u=>u_call u (gd0 rfl) _ rfl _ _ _ rfl [_,_] rfl (cE84 _) _ (fun w hb=>r_mul (hT.keep (Bs.kp_of hb)) _ _),rfl,rfl,rfl,rfl,rfl,fun L u=>u_call u (gd0 rfl) _ rfl _ _ _ rfl [_,_] rfl (cE84 _) _ (fun w hb=>r_mul (hT.keep (Bs.kp_of hb)) _ _),fun L u=>u_call u (gd0 rfl) _ rfl _ _ _ rfl [_,_] rfl (cE84 _) _ (fun w hb=>r_mul (hT.keep (Bs.kp_of hb)) _ _),rfl,rfl,rfl,rfl,T0⟩ [(2,_),(3,_),(4,_),(7,_),(8,_),(9,.ptr 9 0),(10,.ptr 10 0)] [(2,_),(3,_),(4,_),(7,_),(8,_),(9,fc ((y1)*((z2)*((z2)*(z2))))),(10,fc ((y2)*((z1)*((z1)*(z1)))))] (fun a w h=>?_)
    refine wp_seq ?_
    refine aX h [2] [eS 60 _,eS 61 _,eS 62 (.val (.bool false))] ⟨rfl,rfl,fun L u=>u_eql u (gd0 rfl) 62 rfl 24 24 (.tmp 60) (.tmp 61) rfl rfl rfl Tryz.eqGuardType24 (false) (eq_f h2),T0⟩ [(2,_),(3,_),(4,_),(7,_),(8,_),(9,_),(10,_),(62,.val (.bool false))] [(2,_),(3,_),(4,_),(7,_),(8,_),(9,_),(10,_)] (fun a w h=>?_)
    refine zE h false rfl (fun ht=>?_) (fun hf=>?_)
    case refine_1=>cases ht
    refine wp_skip ?_
    refine zB ?_
    refine aX h [2,5] [eS 69 _,eS 70 _,eS 71 _,eS 72 _,eS 73 _,eS 74 _,eN 11 _,eN 12 _,eM 11 _,eM 12 _] ⟨rfl,rfl,fun L u=>u_call u (gd0 rfl) _ rfl _ _ _ rfl [_,_] rfl (cE83 _) _ (fun w hb=>r_sub (hT.keep (Bs.kp_of hb)) _ _),rfl,rfl,fun L u=>u_call u (gd0 rfl) _ rfl _ _ _ rfl [_,_] rfl (cE83 _) _ (fun w hb=>r_sub (hT.keep (Bs.kp_of hb)) _ _),rfl,rfl,rfl,rfl,T0⟩ [(2,_),(3,_),(4,_),(7,_),(9,_),(11,.ptr 11 0),(12,.ptr 12 0)] [(2,_),(3,_),(4,_),(7,_),(9,_),(11,fc (((x2)*((z1)*(z1)))-((x1)*((z2)*(z2))))),(12,fc (((y2)*((z1)*((z1)*(z1))))-((y1)*((z2)*((z2)*(z2))))))] (fun a w h=>?_)
    refine aX h [2] [eS 75 _,eS 76 _,eS 77 _,eN 13 _,eM 13 _] ⟨rfl,rfl,fun L u=>u_call u (gd0 rfl) _ rfl _ _ _ rfl [_,_] rfl (cE84 _) _ (fun w hb=>r_mul (hT.keep (Bs.kp_of hb)) _ _),rfl,rfl,T0⟩ [(2,_),(3,_),(4,_),(7,_),(9,_),(11,_),(12,_),(13,.ptr 13 0)] [(2,_),(3,_),(4,_),(7,_),(9,_),(11,_),(12,_),(13,fc ((((x2)*((z1)*(z1)))-((x1)*((z2)*(z2))))*(((x2)*((z1)*(z1)))-((x1)*((z2)*(z2))))))] (fun a w h=>?_)
    refine aX h [2] [eS 78 _,eS 79 _,eS 80 _,eN 14 _,eM 14 _] ⟨rfl,rfl,fun L u=>u_call u (gd0 rfl) _ rfl _ _ _ rfl [_,_] rfl (cE84 _) _ (fun w hb=>r_mul (hT.keep (Bs.kp_of hb)) _ _),rfl,rfl,T0⟩ [(2,_),(3,_),(4,_),(7,_),(9,_),(11,_),(12,_),(13,_),(14,.ptr 14 0)] [(2,_),(3,_),(4,_),(7,_),(9,_),(11,_),(12,_),(13,_),(14,fc ((((x2)*((z1)*(z1)))-((x1)*((z2)*(z2))))*((((x2)*((z1)*(z1)))-((x1)*((z2)*(z2))))*(((x2)*((z1)*(z1)))-((x1)*((z2)*(z2)))))))] (fun a w h=>?_)
    refine aX h [2] [eS 81 _,eS 82 _,eS 83 _,eN 15 _,eM 15 _] ⟨rfl,rfl,fun L u=>u_call u (gd0 rfl) _ rfl _ _ _ rfl [_,_] rfl (cE84 _) _ (fun w hb=>r_mul (hT.keep (Bs.kp_of hb)) _ _),rfl,rfl,T0⟩ [(2,_),(3,_),(4,_),(9,_),(11,_),(12,_),(14,_),(15,.ptr 15 0)] [(2,_),(3,_),(4,_),(9,_),(11,_),(12,_),(14,_),(15,fc (((x1)*((z2)*(z2)))*((((x2)*((z1)*(z1)))-((x1)*((z2)*(z2))))*(((x2)*((z1)*(z1)))-((x1)*((z2)*(z2)))))))] (fun a w h=>?_)
    refine aX h [2,4,6,7] [eS 84 _,eS 85 _,eS 86 _,eS 87 _,eS 88 _,eS 89 _,eS 90 _,eS 91 _,eN 16 _,eM 16 _] ⟨rfl,rfl,fun L u=>u_call u (gd0 rfl) _ rfl _ _ _ rfl [_,_] rfl (cE84 _) _ (fun w hb=>r_mul (hT.keep (Bs.kp_of hb)) _ _),rfl,fun L u=>u_call u (gd0 rfl) _ rfl _ _ _ rfl [_,_] rfl (cE83 _) _ (fun w hb=>r_sub (hT.keep (Bs.kp_of hb)) _ _),rfl,fun L u=>u_call u (gd0 rfl) _ rfl _ _ _ rfl [_,_] rfl (cE85 _) _ (fun w hb=>r_times (hT.keep (Bs.kp_of hb)) _ 2 (by decide)),fun L u=>u_call u (gd0 rfl) _ rfl _ _ _ rfl [_,_] rfl (cE83 _) _ (fun w hb=>r_sub (hT.keep (Bs.kp_of hb)) _ _),rfl,rfl,T0⟩ [(2,_),(3,_),(4,_),(9,_),(11,_),(12,_),(14,_),(15,_),(16,.ptr 16 0)] [(2,_),(3,_),(4,_),(9,_),(11,_),(12,_),(14,_),(15,_),(16,fc ((((((y2)*((z1)*((z1)*(z1))))-((y1)*((z2)*((z2)*(z2)))))*(((y2)*((z1)*((z1)*(z1))))-((y1)*((z2)*((z2)*(z2))))))-((((x2)*((z1)*(z1)))-((x1)*((z2)*(z2))))*((((x2)*((z1)*(z1)))-((x1)*((z2)*(z2))))*(((x2)*((z1)*(z1)))-((x1)*((z2)*(z2)))))))-(tmN (((x1)*((z2)*(z2)))*((((x2)*((z1)*(z1)))-((x1)*((z2)*(z2))))*(((x2)*((z1)*(z1)))-((x1)*((z2)*(z2)))))) 2)))] (fun a w h=>?_)
    refine aX h [3,4,7,8] [eS 92 _,eS 93 _,eS 94 _,eS 95 _,eS 96 _,eS 97 _,eS 98 _,eS 99 _,eS 100 _,eN 17 _,eM 17 _] ⟨rfl,rfl,rfl,fun L u=>u_call u (gd0 rfl) _ rfl _ _ _ rfl [_,_] rfl (cE83 _) _ (fun w hb=>r_sub (hT.keep (Bs.kp_of hb)) _ _),fun L u=>u_call u (gd0 rfl) _ rfl _ _ _ rfl [_,_] rfl (cE84 _) _ (fun w hb=>r_mul (hT.keep (Bs.kp_of hb)) _ _),rfl,rfl,fun L u=>u_call u (gd0 rfl) _ rfl _ _ _ rfl [_,_] rfl (cE84 _) _ (fun w hb=>r_mul (hT.keep (Bs.kp_of hb)) _ _),fun L u=>u_call u (gd0 rfl) _ rfl _ _ _ rfl [_,_] rfl (cE83 _) _ (fun w hb=>r_sub (hT.keep (Bs.kp_of hb)) _ _),rfl,rfl,T0⟩ [(2,_),(3,_),(4,_),(11,_),(16,_),(17,.ptr 17 0)] [(2,_),(3,_),(4,_),(11,_),(16,_),(17,fc (((((y2)*((z1)*((z1)*(z1))))-((y1)*((z2)*((z2)*(z2)))))*((((x1)*((z2)*(z2)))*((((x2)*((z1)*(z1)))-((x1)*((z2)*(z2))))*(((x2)*((z1)*(z1)))-((x1)*((z2)*(z2))))))-((((((y2)*((z1)*((z1)*(z1))))-((y1)*((z2)*((z2)*(z2)))))*(((y2)*((z1)*((z1)*(z1))))-((y1)*((z2)*((z2)*(z2))))))-((((x2)*((z1)*(z1)))-((x1)*((z2)*(z2))))*((((x2)*((z1)*(z1)))-((x1)*((z2)*(z2))))*(((x2)*((z1)*(z1)))-((x1)*((z2)*(z2)))))))-(tmN (((x1)*((z2)*(z2)))*((((x2)*((z1)*(z1)))-((x1)*((z2)*(z2))))*(((x2)*((z1)*(z1)))-((x1)*((z2)*(z2)))))) 2))))-(((y1)*((z2)*((z2)*(z2))))*((((x2)*((z1)*(z1)))-((x1)*((z2)*(z2))))*((((x2)*((z1)*(z1)))-((x1)*((z2)*(z2))))*(((x2)*((z1)*(z1)))-((x1)*((z2)*(z2)))))))))] (fun a w h=>?_)
    refine aX h [7,8,9] [eS 101 _,eS 102 _,eS 103 _,eS 104 _,eS 105 _,eS 106 _,eS 107 _,eS 108 _,eS 109 _,eS 110 (.val (.agg (fc ((((((y2)*((z1)*((z1)*(z1))))-((y1)*((z2)*((z2)*(z2)))))*(((y2)*((z1)*((z1)*(z1))))-((y1)*((z2)*((z2)*(z2))))))-((((x2)*((z1)*(z1)))-((x1)*((z2)*(z2))))*((((x2)*((z1)*(z1)))-((x1)*((z2)*(z2))))*(((x2)*((z1)*(z1)))-((x1)*((z2)*(z2)))))))-(tmN (((x1)*((z2)*(z2)))*((((x2)*((z1)*(z1)))-((x1)*((z2)*(z2))))*(((x2)*((z1)*(z1)))-((x1)*((z2)*(z2)))))) 2))++fc (((((y2)*((z1)*((z1)*(z1))))-((y1)*((z2)*((z2)*(z2)))))*((((x1)*((z2)*(z2)))*((((x2)*((z1)*(z1)))-((x1)*((z2)*(z2))))*(((x2)*((z1)*(z1)))-((x1)*((z2)*(z2))))))-((((((y2)*((z1)*((z1)*(z1))))-((y1)*((z2)*((z2)*(z2)))))*(((y2)*((z1)*((z1)*(z1))))-((y1)*((z2)*((z2)*(z2))))))-((((x2)*((z1)*(z1)))-((x1)*((z2)*(z2))))*((((x2)*((z1)*(z1)))-((x1)*((z2)*(z2))))*(((x2)*((z1)*(z1)))-((x1)*((z2)*(z2)))))))-(tmN (((x1)*((z2)*(z2)))*((((x2)*((z1)*(z1)))-((x1)*((z2)*(z2))))*(((x2)*((z1)*(z1)))-((x1)*((z2)*(z2)))))) 2))))-(((y1)*((z2)*((z2)*(z2))))*((((x2)*((z1)*(z1)))-((x1)*((z2)*(z2))))*((((x2)*((z1)*(z1)))-((x1)*((z2)*(z2))))*(((x2)*((z1)*(z1)))-((x1)*((z2)*(z2))))))))++fc ((((x2)*((z1)*(z1)))-((x1)*((z2)*(z2))))*((z1)*(z2)))).toArray)),eM 4 _] ⟨rfl,rfl,rfl,rfl,rfl,rfl,rfl,fun L u=>u_call u (gd0 rfl) _ rfl _ _ _ rfl [_,_] rfl (cE84 _) _ (fun w hb=>r_mul (hT.keep (Bs.kp_of hb)) _ _),fun L u=>u_call u (gd0 rfl) _ rfl _ _ _ rfl [_,_] rfl (cE84 _) _ (fun w hb=>r_mul (hT.keep (Bs.kp_of hb)) _ _),fun L u=>zT u (gd0 rfl) 110 rfl 75 #[(0,(.tmp 101)),(1,(.tmp 102)),(2,(.tmp 109))] rfl [(0,.agg (fc ((((((y2)*((z1)*((z1)*(z1))))-((y1)*((z2)*((z2)*(z2)))))*(((y2)*((z1)*((z1)*(z1))))-((y1)*((z2)*((z2)*(z2))))))-((((x2)*((z1)*(z1)))-((x1)*((z2)*(z2))))*((((x2)*((z1)*(z1)))-((x1)*((z2)*(z2))))*(((x2)*((z1)*(z1)))-((x1)*((z2)*(z2)))))))-(tmN (((x1)*((z2)*(z2)))*((((x2)*((z1)*(z1)))-((x1)*((z2)*(z2))))*(((x2)*((z1)*(z1)))-((x1)*((z2)*(z2)))))) 2))).toArray),(1,.agg (fc (((((y2)*((z1)*((z1)*(z1))))-((y1)*((z2)*((z2)*(z2)))))*((((x1)*((z2)*(z2)))*((((x2)*((z1)*(z1)))-((x1)*((z2)*(z2))))*(((x2)*((z1)*(z1)))-((x1)*((z2)*(z2))))))-((((((y2)*((z1)*((z1)*(z1))))-((y1)*((z2)*((z2)*(z2)))))*(((y2)*((z1)*((z1)*(z1))))-((y1)*((z2)*((z2)*(z2))))))-((((x2)*((z1)*(z1)))-((x1)*((z2)*(z2))))*((((x2)*((z1)*(z1)))-((x1)*((z2)*(z2))))*(((x2)*((z1)*(z1)))-((x1)*((z2)*(z2)))))))-(tmN (((x1)*((z2)*(z2)))*((((x2)*((z1)*(z1)))-((x1)*((z2)*(z2))))*(((x2)*((z1)*(z1)))-((x1)*((z2)*(z2)))))) 2))))-(((y1)*((z2)*((z2)*(z2))))*((((x2)*((z1)*(z1)))-((x1)*((z2)*(z2))))*((((x2)*((z1)*(z1)))-((x1)*((z2)*(z2))))*(((x2)*((z1)*(z1)))-((x1)*((z2)*(z2))))))))).toArray),(2,.agg (fc ((((x2)*((z1)*(z1)))-((x1)*((z2)*(z2))))*((z1)*(z2)))).toArray)] rfl (fc ((((((y2)*((z1)*((z1)*(z1))))-((y1)*((z2)*((z2)*(z2)))))*(((y2)*((z1)*((z1)*(z1))))-((y1)*((z2)*((z2)*(z2))))))-((((x2)*((z1)*(z1)))-((x1)*((z2)*(z2))))*((((x2)*((z1)*(z1)))-((x1)*((z2)*(z2))))*(((x2)*((z1)*(z1)))-((x1)*((z2)*(z2)))))))-(tmN (((x1)*((z2)*(z2)))*((((x2)*((z1)*(z1)))-((x1)*((z2)*(z2))))*(((x2)*((z1)*(z1)))-((x1)*((z2)*(z2)))))) 2))++fc (((((y2)*((z1)*((z1)*(z1))))-((y1)*((z2)*((z2)*(z2)))))*((((x1)*((z2)*(z2)))*((((x2)*((z1)*(z1)))-((x1)*((z2)*(z2))))*(((x2)*((z1)*(z1)))-((x1)*((z2)*(z2))))))-((((((y2)*((z1)*((z1)*(z1))))-((y1)*((z2)*((z2)*(z2)))))*(((y2)*((z1)*((z1)*(z1))))-((y1)*((z2)*((z2)*(z2))))))-((((x2)*((z1)*(z1)))-((x1)*((z2)*(z2))))*((((x2)*((z1)*(z1)))-((x1)*((z2)*(z2))))*(((x2)*((z1)*(z1)))-((x1)*((z2)*(z2)))))))-(tmN (((x1)*((z2)*(z2)))*((((x2)*((z1)*(z1)))-((x1)*((z2)*(z2))))*(((x2)*((z1)*(z1)))-((x1)*((z2)*(z2)))))) 2))))-(((y1)*((z2)*((z2)*(z2))))*((((x2)*((z1)*(z1)))-((x1)*((z2)*(z2))))*((((x2)*((z1)*(z1)))-((x1)*((z2)*(z2))))*(((x2)*((z1)*(z1)))-((x1)*((z2)*(z2))))))))++fc ((((x2)*((z1)*(z1)))-((x1)*((z2)*(z2))))*((z1)*(z2)))) (bJ _ _ _),rfl,T0⟩ [(4,_)] [(4,fc ((((((y2)*((z1)*((z1)*(z1))))-((y1)*((z2)*((z2)*(z2)))))*(((y2)*((z1)*((z1)*(z1))))-((y1)*((z2)*((z2)*(z2))))))-((((x2)*((z1)*(z1)))-((x1)*((z2)*(z2))))*((((x2)*((z1)*(z1)))-((x1)*((z2)*(z2))))*(((x2)*((z1)*(z1)))-((x1)*((z2)*(z2)))))))-(tmN (((x1)*((z2)*(z2)))*((((x2)*((z1)*(z1)))-((x1)*((z2)*(z2))))*(((x2)*((z1)*(z1)))-((x1)*((z2)*(z2)))))) 2))++fc (((((y2)*((z1)*((z1)*(z1))))-((y1)*((z2)*((z2)*(z2)))))*((((x1)*((z2)*(z2)))*((((x2)*((z1)*(z1)))-((x1)*((z2)*(z2))))*(((x2)*((z1)*(z1)))-((x1)*((z2)*(z2))))))-((((((y2)*((z1)*((z1)*(z1))))-((y1)*((z2)*((z2)*(z2)))))*(((y2)*((z1)*((z1)*(z1))))-((y1)*((z2)*((z2)*(z2))))))-((((x2)*((z1)*(z1)))-((x1)*((z2)*(z2))))*((((x2)*((z1)*(z1)))-((x1)*((z2)*(z2))))*(((x2)*((z1)*(z1)))-((x1)*((z2)*(z2)))))))-(tmN (((x1)*((z2)*(z2)))*((((x2)*((z1)*(z1)))-((x1)*((z2)*(z2))))*(((x2)*((z1)*(z1)))-((x1)*((z2)*(z2)))))) 2))))-(((y1)*((z2)*((z2)*(z2))))*((((x2)*((z1)*(z1)))-((x1)*((z2)*(z2))))*((((x2)*((z1)*(z1)))-((x1)*((z2)*(z2))))*(((x2)*((z1)*(z1)))-((x1)*((z2)*(z2))))))))++fc ((((x2)*((z1)*(z1)))-((x1)*((z2)*(z2))))*((z1)*(z2))))] (fun a w h=>?_)
    refine wp_ret ?_
    refine zS h 4 75 rfl (lk rfl) 4 rfl (fc ((((((y2)*((z1)*((z1)*(z1))))-((y1)*((z2)*((z2)*(z2)))))*(((y2)*((z1)*((z1)*(z1))))-((y1)*((z2)*((z2)*(z2))))))-((((x2)*((z1)*(z1)))-((x1)*((z2)*(z2))))*((((x2)*((z1)*(z1)))-((x1)*((z2)*(z2))))*(((x2)*((z1)*(z1)))-((x1)*((z2)*(z2)))))))-(tmN (((x1)*((z2)*(z2)))*((((x2)*((z1)*(z1)))-((x1)*((z2)*(z2))))*(((x2)*((z1)*(z1)))-((x1)*((z2)*(z2)))))) 2))++fc (((((y2)*((z1)*((z1)*(z1))))-((y1)*((z2)*((z2)*(z2)))))*((((x1)*((z2)*(z2)))*((((x2)*((z1)*(z1)))-((x1)*((z2)*(z2))))*(((x2)*((z1)*(z1)))-((x1)*((z2)*(z2))))))-((((((y2)*((z1)*((z1)*(z1))))-((y1)*((z2)*((z2)*(z2)))))*(((y2)*((z1)*((z1)*(z1))))-((y1)*((z2)*((z2)*(z2))))))-((((x2)*((z1)*(z1)))-((x1)*((z2)*(z2))))*((((x2)*((z1)*(z1)))-((x1)*((z2)*(z2))))*(((x2)*((z1)*(z1)))-((x1)*((z2)*(z2)))))))-(tmN (((x1)*((z2)*(z2)))*((((x2)*((z1)*(z1)))-((x1)*((z2)*(z2))))*(((x2)*((z1)*(z1)))-((x1)*((z2)*(z2)))))) 2))))-(((y1)*((z2)*((z2)*(z2))))*((((x2)*((z1)*(z1)))-((x1)*((z2)*(z2))))*((((x2)*((z1)*(z1)))-((x1)*((z2)*(z2))))*(((x2)*((z1)*(z1)))-((x1)*((z2)*(z2))))))))++fc ((((x2)*((z1)*(z1)))-((x1)*((z2)*(z2))))*((z1)*(z2)))) rfl _ Tryz.underlying75 rfl i75 ?_
    exact ⟨by have e:jadd ⟨x1,y1,z1⟩ ⟨x2,y2,z2⟩=_:=(if_neg h0).trans ((if_neg h1).trans (if_neg h2));rw [e];rfl,h.grows⟩
def px (a:Wp m0):Fin m0:=match a with
 | none=>0
 | some q=>q.1
def py (a:Wp m0):Fin m0:=match a with
 | none=>0
 | some q=>q.2
def pc (a:Wp m0):List Value:=fc (px a)++fc (py a)++[Value.bool a.isNone]
theorem r_drop {w:World} (hT:Tab w) (x y z:Fin m0):Calls Tryz.prog 56 [.agg (fc (x)++fc (y)++fc (z)).toArray].toArray w fun e w'=>e=.returned (.agg (pc (jdrop ⟨x,y,z⟩)).toArray)∧Below w.heap.size w w':=by
 by_cases h0:z=0
 ·skip
  refine enter Tryz.func56 rfl 27 rfl (lk rfl) (fun a h=>?_)
  refine aX h [] [eN 1 _,eN 2 _] ⟨rfl,rfl,T0⟩ [(1,.ptr 1 0),(2,.ptr 2 0)] [(1,fc (x)++fc (y)++fc (z)),(2,nz++nz++[Value.bool false])] (fun a w h=>?_)
  refine wp_seq ?_
  refine aX h [2,3] [eS 5 _,eS 6 _,eS 7 (.val (.agg (nz).toArray)),eS 8 (.val (.bool true))] ⟨rfl,rfl,fun L u=>zT u (gd0 rfl) 7 rfl 24 #[] rfl [] rfl (nz) (bN0),fun L u=>u_eql u (gd0 rfl) 8 rfl 24 24 (.tmp 6) (.tmp 7) rfl rfl rfl Tryz.eqGuardType24 (true) (eqz_t h0),T0⟩ [(1,_),(2,_),(8,.val (.bool true))] [(1,_),(2,_)] (fun a w h=>?_)
  refine zE h true rfl (fun ht=>?_) (fun hf=>?_)
  case refine_2=>cases hf
  refine aX h [0] [eS 9 _,eM 2 _] ⟨fun L u=>u_call u (gd0 rfl) _ rfl _ _ _ rfl [] rfl (cE47 _) _ (fun w hb=>r_None),rfl,T0⟩ [(2,_)] [(2,nz++nz++[Value.bool true])] (fun a w h=>?_)
  refine wp_ret ?_
  refine zP ?_
  refine zS h 2 44 rfl (lk rfl) 2 rfl (nz++nz++[Value.bool true]) rfl _ Tryz.underlying44 rfl i44 ?_
  exact ⟨by have e:jdrop ⟨x,y,z⟩=_:=if_pos h0;rw [e];rw [nz_fc];rfl,h.grows⟩
 ·skip
  refine enter Tryz.func56 rfl 27 rfl (lk rfl) (fun a h=>?_)
  refine aX h [] [eN 1 _,eN 2 _] ⟨rfl,rfl,T0⟩ [(1,.ptr 1 0),(2,.ptr 2 0)] [(1,fc (x)++fc (y)++fc (z)),(2,nz++nz++[Value.bool false])] (fun a w h=>?_)
  refine wp_seq ?_
  refine aX h [2,3] [eS 5 _,eS 6 _,eS 7 (.val (.agg (nz).toArray)),eS 8 (.val (.bool false))] ⟨rfl,rfl,fun L u=>zT u (gd0 rfl) 7 rfl 24 #[] rfl [] rfl (nz) (bN0),fun L u=>u_eql u (gd0 rfl) 8 rfl 24 24 (.tmp 6) (.tmp 7) rfl rfl rfl Tryz.eqGuardType24 (false) (eqz_f h0),T0⟩ [(1,_),(2,_),(8,.val (.bool false))] [(1,_),(2,_)] (fun a w h=>?_)
  refine zE h false rfl (fun ht=>?_) (fun hf=>?_)
  case refine_1=>cases ht
  refine wp_skip ?_
  refine zB ?_
  refine aX h [2] [eS 10 _,eS 11 _,eS 12 _,eN 3 _,eM 3 _] ⟨rfl,rfl,fun L u=>u_call u (gd0 rfl) _ rfl _ _ _ rfl [_,_] rfl (cE76 _) _ (fun w hb=>c_inv (hT.keep (Bs.kp_of hb)) _),rfl,rfl,T0⟩ [(1,_),(2,_),(3,.ptr 3 0)] [(1,_),(2,_),(3,fc (fiv (z)))] (fun a w h=>?_)
  refine aX h [2] [eS 13 _,eS 14 _,eS 15 _,eN 4 _,eM 4 _] ⟨rfl,rfl,fun L u=>u_call u (gd0 rfl) _ rfl _ _ _ rfl [_,_] rfl (cE84 _) _ (fun w hb=>r_mul (hT.keep (Bs.kp_of hb)) _ _),rfl,rfl,T0⟩ [(1,_),(2,_),(3,_),(4,.ptr 4 0)] [(1,_),(2,_),(3,_),(4,fc ((fiv (z))*(fiv (z))))] (fun a w h=>?_)
  refine aX h [3,8,9,10] [eS 16 _,eS 17 _,eS 18 _,eS 19 _,eS 20 _,eS 21 _,eS 22 _,eS 23 _,eS 24 _,eS 25 _,eS 26 (.val (.agg (fc ((x)*((fiv (z))*(fiv (z))))++fc ((y)*((fiv (z))*((fiv (z))*(fiv (z)))))++[Value.bool false]).toArray)),eM 2 _] ⟨rfl,rfl,rfl,fun L u=>u_call u (gd0 rfl) _ rfl _ _ _ rfl [_,_] rfl (cE84 _) _ (fun w hb=>r_mul (hT.keep (Bs.kp_of hb)) _ _),rfl,rfl,rfl,rfl,fun L u=>u_call u (gd0 rfl) _ rfl _ _ _ rfl [_,_] rfl (cE84 _) _ (fun w hb=>r_mul (hT.keep (Bs.kp_of hb)) _ _),fun L u=>u_call u (gd0 rfl) _ rfl _ _ _ rfl [_,_] rfl (cE84 _) _ (fun w hb=>r_mul (hT.keep (Bs.kp_of hb)) _ _),fun L u=>zT u (gd0 rfl) 26 rfl 44 #[(0,(.tmp 19)),(1,(.tmp 25))] rfl [(0,.agg (fc ((x)*((fiv (z))*(fiv (z))))).toArray),(1,.agg (fc ((y)*((fiv (z))*((fiv (z))*(fiv (z)))))).toArray)] rfl (fc ((x)*((fiv (z))*(fiv (z))))++fc ((y)*((fiv (z))*((fiv (z))*(fiv (z)))))++[Value.bool false]) (bP _ _),rfl,T0⟩ [(2,_)] [(2,fc ((x)*((fiv (z))*(fiv (z))))++fc ((y)*((fiv (z))*((fiv (z))*(fiv (z)))))++[Value.bool false])] (fun a w h=>?_)
  refine wp_ret ?_
  refine zS h 2 44 rfl (lk rfl) 2 rfl (fc ((x)*((fiv (z))*(fiv (z))))++fc ((y)*((fiv (z))*((fiv (z))*(fiv (z)))))++[Value.bool false]) rfl _ Tryz.underlying44 rfl i44 ?_
  exact ⟨by have e:jdrop ⟨x,y,z⟩=_:=if_neg h0;rw [e];rfl,h.grows⟩
end Go.Proofs.YtmigakanbeckpaaGreatDoor
