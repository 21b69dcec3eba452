/- A part of the proof. -/
import Derived.Test.YtmigakanbeckpaaGreatDoorSm27
import Derived.Test.YtmigakanbeckpaaGreatDoorSm26
import Derived.Test.YtmigakanbeckpaaGreatDoorSm03
import Derived.Test.YtmigakanbeckpaaGreatDoorSm02
import Derived.Test.YtmigakanbeckpaaGreatDoorSm24
import Derived.Test.YtmigakanbeckpaaGreatDoorSm23
import Derived.Test.YtmigakanbeckpaaGreatDoorSm22
set_option maxRecDepth 100000
set_option maxHeartbeats 4000000
namespace Go.Proofs.YtmigakanbeckpaaGreatDoor.De
set_option maxRecDepth 100000
open Go.RowKit
theorem b121 (z:Option Addr) (n c:Nat):Tryz.prog.built 121 [(0,.slice z n c)]=some [Value.slice z n c].toArray:=by kernel_rfl
theorem pair_at {w:World} {n c:Nat} {z:Option Addr} {f:Nat→Nat} (hba:BA w z n f) (hT:Tab w) (hnc:n≤c) (hn:n≤1000) {n1 c1:Nat} {z1:Option Addr} (hz1:cutA z c 1=z1) (hn1:n=n1+1) (hc1:c=c1+1) {f1:Nat→Nat} (hf1:∀ i,f1 i=f (1+i)) (h48:f 0=48) {n2 c2 m0:Nat} {z2:Option Addr} (hz2:cutA z1 c1 1=z2) (hn2:n1=n2+1) (hc2:c1=c2+1) {f2:Nat→Nat} (hf2:∀ i,f2 i=f1 (1+i)) (hfm:f1 0=m0) (hm0:m0=n2) (hR:NumOk f2 n2) {n3 c3 R:Nat} {z3:Option Addr} (hz3:cutA (cutA (cutA z2 c2 1) (c2-1) 1) (c2-2) (f2 1)=z3) (hn3:n2=n3+(2+f2 1)) (hc3:c2=c3+(2+f2 1)) {f3:Nat→Nat} (hf3:∀ i,f3 i=f2 (2+f2 1+i)) (hRV:nV f2=R) (hS:NumOk f3 n3) {n4 c4 S:Nat} {z4:Option Addr} (hz4:cutA (cutA (cutA z3 c3 1) (c3-1) 1) (c3-2) (f3 1)=z4) (hn4:n3=n4+(2+f3 1)) (hc4:c3=c4+(2+f3 1)) (hSV:nV f3=S) (h0:n4=0):Calls Tryz.prog 72 [Value.slice (z) (n) (c)].toArray w fun e w'=>e=.returned (.tuple [.agg (nc (R:Int)).toArray,.agg (nc (S:Int)).toArray].toArray)∧Below w.heap.size w w':=by
 refine enter Tryz.func72 rfl 27 rfl (lk rfl) (fun a h=>?_)
 refine aX h [] [eN 2 _,eN 3 _] ⟨rfl,rfl,T0⟩ [(0,.val (.slice (z) (n) (c))),(2,.ptr 2 0),(3,.ptr 3 0)] [(2,nz),(3,nz)] (fun a w h=>?_)
 refine aX h [1] [eS 8 _,eS 9 (.val (.agg ([Value.slice (z) (n) (c)]).toArray)),eN 4 _,eM 4 _] ⟨rfl,fun L u=>zT u (gd0 rfl) 9 rfl 121 #[(0,(.tmp 8))] rfl [(0,Value.slice (z) (n) (c))] rfl ([Value.slice (z) (n) (c)]) (b121 _ _ _),rfl,rfl,T0⟩ [(2,_),(3,_),(4,.ptr 4 0)] [(2,_),(3,_),(4,[Value.slice (z) (n) (c)])] (fun a w h=>?_)
 obtain ⟨g4,h⟩:=h.fix 4 rfl rfl
 replace h:=h.kQ [(2,.ptr 2 0),(3,.ptr 3 0),(4,.val (.pointer (some ⟨g4,0,none⟩)))] [(2,nz),(3,nz)] [(4,varPd g4 ([Value.slice (z) (n) (c)]))]
 refine aXQ h [0] [eT 10 (.val (.tuple #[])) 4 (varPd g4 ([Value.slice (z1) (n1) (c1)]))] ⟨fun L u=>zY u (gd0 rfl) 10 rfl 110 #[(.tmp 4),(.const (.int .i64 48))] #[121,3] rfl [Value.pointer (some ⟨g4,0,none⟩),(Value.int IntKind.i64 48)] rfl (fun vs w=>zA Tryz.func110 (by kernel_rfl) (by kernel_rfl) vs w) 4 rfl (Value.tuple #[]) ([Value.slice (z1) (n1) (c1)]) (fun w hk ho h3 h4 hl=>exp_ok (mk:=48) (env_of hba hT hnc hk ho) hz1 hn1 hc1 h48 h3 h4 hl),T0⟩ [(2,_),(3,_),(4,_)] [(2,_),(3,_)] [(4,varPd g4 ([Value.slice (z1) (n1) (c1)]))] (fun a w h=>?_)
 refine aXQ h [0] [eT 11 (.val (.int .i64 (m0:Int))) 4 (varPd g4 ([Value.slice (z2) (n2) (c2)])),eS 5 _] ⟨fun L u=>zY u (gd0 rfl) 11 rfl 111 #[(.tmp 4)] #[121] rfl [Value.pointer (some ⟨g4,0,none⟩)] rfl (fun vs w=>zA Tryz.func111 (by kernel_rfl) (by kernel_rfl) vs w) 4 rfl (Value.int .i64 (m0:Int)) ([Value.slice (z2) (n2) (c2)]) (fun w hk ho h3 h4 hl=>by have q:=next_ok ((env_of hba hT hnc hk ho).cut 1 hz1 hn1 hc1 hf1) hz2 hn2 hc2 h3 h4 hl;rw [hfm] at q;exact q),rfl,T0⟩ [(2,_),(3,_),(4,_),(5,.val (.int .i64 (m0:Int)))] [(2,_),(3,_)] [(4,varPd g4 ([Value.slice (z2) (n2) (c2)]))] (fun a w h=>?_)
 refine wp_seq ?_
 refine zQ [0,1,2,3,4,5] rfl ?_
 refine zF h (i:=0) rfl (u_move (xs:=[]) (zH (i:=0) (by kernel_rfl) rfl) (gd0 rfl) 12 rfl (.tmp 5) (Or.inl rfl) rfl) (fun a w h=>?_)
 refine zF h (i:=1) rfl (u_fieldV (xs:=[]) (zH (i:=1) (by kernel_rfl) rfl) (gd0 rfl) 13 rfl 121 (.tmp 4) 0 rfl rfl Tryz.underlying121 rfl i25 0 rfl) (fun a w h=>?_)
 refine zF h (i:=2) rfl (u_loadF1 (xs:=[]) (zH (i:=2) (by kernel_rfl) rfl) (gd0 rfl) 14 rfl 25 (.tmp 13) rfl rfl 4 rfl Tryz.underlying25 rfl (Value.slice (z2) (n2) (c2)) rfl) (fun a w h=>?_)
 refine zF h (i:=3) rfl (u_lenV (xs:=[]) (zH (i:=3) (by kernel_rfl) rfl) (gd0 rfl) 15 rfl (.tmp 14) 25 rfl rfl Tryz.underlying25) (fun a w h=>?_)
 refine zF h (i:=4) rfl (u_bin (xs:=[]) (zH (i:=4) (by kernel_rfl) rfl) (gd0 rfl) _ rfl _ _ _ _ _ rfl rfl rfl (zC _ _ _ _ _ _ _ _) _ (yes_of (fun w=>i_eql _ _ _ _ w) (by omega))) (fun a w h=>?_)
 refine zF h (i:=5) rfl (u_call (xs:=[]) (zH (i:=5) (by kernel_rfl) rfl) (gd0 rfl) _ rfl _ _ _ rfl [_] rfl (cE112 _) _ (fun w hb=>ins_t)) (fun a w h=>?_)
 replace h:=h.kQ [(2,.ptr 2 0),(3,.ptr 3 0),(4,.val (.pointer (some ⟨g4,0,none⟩)))] [(2,nz),(3,nz)] [(4,varPd g4 ([Value.slice (z2) (n2) (c2)]))]
 refine sq_end ?_
 refine zB ?_
 refine aXQ h [0] [eT 18 (.val (.agg (nc ((R:Int))).toArray)) 4 (varPd g4 ([Value.slice (z3) (n3) (c3)])),eN 6 _,eM 6 _] ⟨fun L u=>zY u (gd0 rfl) 18 rfl 113 #[(.tmp 4)] #[121] rfl [Value.pointer (some ⟨g4,0,none⟩)] rfl (fun vs w=>zA Tryz.func113 (by kernel_rfl) (by kernel_rfl) vs w) 4 rfl (.agg (nc ((R:Int))).toArray) ([Value.slice (z3) (n3) (c3)]) (fun w hk ho h3 h4 hl=>by have q:=num_ok (((env_of hba hT hnc hk ho).cut 1 hz1 hn1 hc1 hf1).cut 1 hz2 hn2 hc2 hf2) (by omega) hR hz3 hn3 hc3 h3 h4 hl;rw [hRV] at q;exact q),rfl,rfl,T0⟩ [(2,_),(3,_),(4,_),(6,.ptr 6 0)] [(2,_),(3,_),(6,nc ((R:Int)))] [(4,varPd g4 ([Value.slice (z3) (n3) (c3)]))] (fun a w h=>?_)
 refine aXQ h [0] [eT 19 (.val (.agg (nc ((S:Int))).toArray)) 4 (varPd g4 ([Value.slice (z4) (n4) (c4)])),eN 7 _,eM 7 _] ⟨fun L u=>zY u (gd0 rfl) 19 rfl 113 #[(.tmp 4)] #[121] rfl [Value.pointer (some ⟨g4,0,none⟩)] rfl (fun vs w=>zA Tryz.func113 (by kernel_rfl) (by kernel_rfl) vs w) 4 rfl (.agg (nc ((S:Int))).toArray) ([Value.slice (z4) (n4) (c4)]) (fun w hk ho h3 h4 hl=>by have q:=num_ok (env_num (((env_of hba hT hnc hk ho).cut 1 hz1 hn1 hc1 hf1).cut 1 hz2 hn2 hc2 hf2) hz3 hn3 hc3 hf3) (by omega) hS hz4 hn4 hc4 h3 h4 hl;rw [hSV] at q;exact q),rfl,rfl,T0⟩ [(2,_),(3,_),(4,_),(6,_),(7,.ptr 7 0)] [(2,_),(3,_),(6,_),(7,nc ((S:Int)))] [(4,varPd g4 ([Value.slice (z4) (n4) (c4)]))] (fun a w h=>?_)
 refine wp_seq ?_
 refine zQ [0,1,2,3,4] rfl ?_
 refine zF h (i:=0) rfl (u_fieldV (xs:=[]) (zH (i:=0) (by kernel_rfl) rfl) (gd0 rfl) 20 rfl 121 (.tmp 4) 0 rfl rfl Tryz.underlying121 rfl i25 0 rfl) (fun a w h=>?_)
 refine zF h (i:=1) rfl (u_loadF1 (xs:=[]) (zH (i:=1) (by kernel_rfl) rfl) (gd0 rfl) 21 rfl 25 (.tmp 20) rfl rfl 4 rfl Tryz.underlying25 rfl (Value.slice (z4) (n4) (c4)) rfl) (fun a w h=>?_)
 refine zF h (i:=2) rfl (u_lenV (xs:=[]) (zH (i:=2) (by kernel_rfl) rfl) (gd0 rfl) 22 rfl (.tmp 21) 25 rfl rfl Tryz.underlying25) (fun a w h=>?_)
 refine zF h (i:=3) rfl (u_bin (xs:=[]) (zH (i:=3) (by kernel_rfl) rfl) (gd0 rfl) _ rfl _ _ _ _ _ rfl rfl rfl (zC _ _ _ _ _ _ _ _) _ (yes_of (fun w=>i_eql _ _ _ _ w) (by omega))) (fun a w h=>?_)
 refine zF h (i:=4) rfl (u_call (xs:=[]) (zH (i:=4) (by kernel_rfl) rfl) (gd0 rfl) _ rfl _ _ _ rfl [_] rfl (cE112 _) _ (fun w hb=>ins_t)) (fun a w h=>?_)
 replace h:=h.kQ [(2,.ptr 2 0),(3,.ptr 3 0),(6,.ptr 6 0),(7,.ptr 7 0)] [(2,nz),(3,nz),(6,nc ((R:Int))),(7,nc ((S:Int)))] [(4,varPd g4 ([Value.slice (z4) (n4) (c4)]))]
 refine sq_end ?_
 refine zB ?_
 refine aXQ h [] [eS 25 _,eS 26 _,eM 2 _,eM 3 _] ⟨rfl,rfl,rfl,rfl,T0⟩ [(2,_),(3,_)] [(2,nc ((R:Int))),(3,nc ((S:Int)))] [(4,varPd g4 ([Value.slice (z4) (n4) (c4)]))] (fun a w h=>?_)
 refine wp_ret ?_
 refine ret_two h _ _ rfl (ans_row (cs:=nc ((R:Int))) 2 (lk rfl) 24 rfl rfl Tryz.underlying24 rfl i24) (ans_row (cs:=nc ((S:Int))) 3 (lk rfl) 24 rfl rfl Tryz.underlying24 rfl i24) ?_
 exact ⟨rfl,h.grows⟩
def PairOk (f:Nat→Nat) (n:Nat):Prop:=2≤n∧f 0=48∧f 1=n-2∧NumOk (fun i=>f (2+i)) (n-2)∧NumOk (fun i=>f (4+f 3+i)) (n-4-f 3)∧n=6+f 3+f (5+f 3)
theorem n2_at (f:Nat→Nat):(fun i=>f (2+i)) 1=f 3:=rfl
theorem n3_at (f:Nat→Nat):(fun i=>f (4+f 3+i)) 1=f (5+f 3):=by show f (4+f 3+1)=f (5+f 3);rw [show 4+f 3+1=5+f 3 by omega]
theorem pair_ok {w:World} {n c:Nat} {z:Option Addr} {f:Nat→Nat} (hba:BA w z n f) (hT:Tab w) (hnc:n≤c) (hn:n≤1000) (h:PairOk f n):Calls Tryz.prog 72 [Value.slice (z) (n) (c)].toArray w fun e w'=>e=.returned (.tuple [.agg (nc ((nV (fun i=>f (2+i)):Nat):Int)).toArray,.agg (nc ((nV (fun i=>f (4+f 3+i)):Nat):Int)).toArray].toArray)∧Below w.heap.size w w':=by
 obtain ⟨h1,h2,h3,h4,h5,h6⟩:=h
 have e2:=n2_at f
 have e3:=n3_at f
 have a2:f (2+1)=f 3:=rfl
 have a3:f (4+f 3+1)=f (5+f 3):=e3
 have k4:=h4.2.2.1
 have k5:=h5.2.2.1
 rw [e2] at k4
 rw [e3] at k5
 exact pair_at (n1:=n-1) (c1:=c-1) (f1:=fun i=>f (1+i)) (n2:=n-2) (c2:=c-2) (f2:=fun i=>f (2+i)) (m0:=f 1) (n3:=n-4-f 3) (c3:=c-4-f 3) (f3:=fun i=>f (4+f 3+i)) (n4:=0) (c4:=c-n) hba hT hnc hn rfl (by omega) (by omega) (fun _=>rfl) h2 rfl (by omega) (by omega) (fun i=>by show f (2+i)=f (1+(1+i));rw [show 1+(1+i)=2+i by omega]) rfl h3 h4 rfl (by omega) (by omega) (fun i=>by show f (4+f 3+i)=f (2+(2+f 3+i));rw [show 2+(2+f 3+i)=4+f 3+i by omega]) rfl h5 rfl (by omega) (by omega) rfl rfl
theorem dE_at3 (r s:Nat):(dE r s).getD 3 0=msz r:=by rw [dE_eq];rfl
theorem dE_only {f:Nat→Nat} {n:Nat} {r s:Nat} (hr:r<2 ^ 256) (hs:s<2 ^ 256) (h:dE r s=fl f n):8≤n∧n≤72∧6+f 3≤n∧num (fl (fun i=>f (4+i)) (f 3)) % 2 ^ 256=r∧num (fl (fun i=>f (6+f 3+i)) (n-(6+f 3))) % 2 ^ 256=s:=by
 have hl:(dE r s).length=n:=by rw [h,qF]
 have hb:=dE_bd hr hs
 have h3:msz r=f 3:=by
  rw [← dE_at3 r s,h,List.getD_eq_getElem?_getD,fl_at f (by omega)]
  rfl
 have hlen:=dE_len r s
 have hsz:=(msz_spec hs).2.2.1
 refine ⟨by omega,by omega,by omega,?_,?_⟩
 ·have e:=dE_r r s
  rw [h,h3,fl_cut (by omega)] at e
  rw [e,← h3,be_msz hr,Nat.mod_eq_of_lt hr]
 ·have e:=dE_s r s
  rw [h,h3,fl_tail (by omega)] at e
  rw [e,be_msz hs,Nat.mod_eq_of_lt hs]
theorem cE71 (vs:List Value):∀ w,(callFunc 71 vs.toArray).run Tryz.prog w=.ok (.enter 71 vs.toArray) w:=zA Tryz.func71 (by kernel_rfl) (by kernel_rfl) _
theorem catch_idle {g2 g3 g4:Nat} (w:World):CallsD Tryz.prog 71 [.pointer (some ⟨g2,0,none⟩),.pointer (some ⟨g3,0,none⟩),.pointer (some ⟨g4,0,none⟩)].toArray .returning w fun e u' w'=>e=.returned (.tuple #[])∧u'=.returning∧w'=w:=by
 refine callsD_of_wpS Tryz.func71 rfl fun c₀ cs hu=>?_
 apply wpS_seq
 apply wpS_region
 simp [wpOpsS,go_sem,recoverD,hu,Tryz.ntmps71,Exit.thenS]
 refine wpS_cond (t:=false) (by simp [Act.eval,Array.replicate]) ?_
 simp only [Bool.false_eq_true,if_false]
 refine wpS_of_wp (wp_skip ?_)
 cases c₀
 simp_all [bodyPostS,results,Tryz.results71]
theorem dec_some {w:World} {n c:Nat} {z:Option Addr} {f:Nat→Nat} (hba:BA w z n f) (hT:Tab w) (hnc:n≤c) (hn:n≤1000) (hp:PairOk f n) {R S:Nat} (hR:nV (fun i=>f (2+i))=R) (hS:nV (fun i=>f (4+f 3+i))=S):Calls Tryz.prog 36 [Value.slice (z) (n) (c)].toArray w fun e w'=>e=.returned (.tuple [.agg (nc (R:Int)).toArray,.agg (nc (S:Int)).toArray,.bool true].toArray)∧Below w.heap.size w w':=by
 refine enterD (args:=[Value.slice (z) (n) (c)]) Tryz.func36 rfl 13 rfl (lk rfl) (fun a h=>?_)
 refine aX h [] [eN 2 _,eN 3 _,eN 4 _] ⟨rfl,rfl,rfl,T0⟩ [(0,.val (.slice (z) (n) (c))),(2,.ptr 2 0),(3,.ptr 3 0),(4,.ptr 4 0)] [(2,nz),(3,nz),(4,[Value.bool false])] (fun a w h=>?_)
 obtain ⟨g2,h⟩:=h.fix 2 rfl rfl
 replace h:=h.kQ [(0,.val (.slice (z) (n) (c))),(2,.val (.pointer (some ⟨g2,0,none⟩))),(3,.ptr 3 0),(4,.ptr 4 0)] [(3,nz),(4,[Value.bool false])] [(2,varPd g2 (nz))]
 obtain ⟨g3,h⟩:=h.fix 3 rfl rfl
 replace h:=h.kQ [(0,.val (.slice (z) (n) (c))),(2,.val (.pointer (some ⟨g2,0,none⟩))),(3,.val (.pointer (some ⟨g3,0,none⟩))),(4,.ptr 4 0)] [(4,[Value.bool false])] [(2,varPd g2 (nz)),(3,varPd g3 (nz))]
 obtain ⟨g4,h⟩:=h.fix 4 rfl rfl
 replace h:=h.kQ [(0,.val (.slice (z) (n) (c))),(2,.val (.pointer (some ⟨g2,0,none⟩))),(3,.val (.pointer (some ⟨g3,0,none⟩))),(4,.val (.pointer (some ⟨g4,0,none⟩)))] [] [(2,varPd g2 (nz)),(3,varPd g3 (nz)),(4,varPd g4 ([Value.bool false]))]
 refine wp_seq ?_
 refine zQ [0,1] rfl ?_
 refine zF h (i:=0) rfl (u_func (xs:=[]) (zH (i:=0) (by kernel_rfl) rfl) (gd0 rfl) 5 rfl (.func 71) #[(.tmp 2),(.tmp 3),(.tmp 4)] rfl [Value.pointer (some ⟨g2,0,none⟩),Value.pointer (some ⟨g3,0,none⟩),Value.pointer (some ⟨g4,0,none⟩)] rfl) (fun a w h=>?_)
 refine sq_defer h (i:=1) rfl (gq0 rfl) (.tmp 5) #[] rfl rfl (cap:=[Value.pointer (some ⟨g2,0,none⟩),Value.pointer (some ⟨g3,0,none⟩),Value.pointer (some ⟨g4,0,none⟩)]) rfl (fun a h=>?_)
 replace h:=h.kQ [(0,.val (.slice (z) (n) (c))),(2,.val (.pointer (some ⟨g2,0,none⟩))),(3,.val (.pointer (some ⟨g3,0,none⟩))),(4,.val (.pointer (some ⟨g4,0,none⟩)))] [] [(2,varPd g2 (nz)),(3,varPd g3 (nz)),(4,varPd g4 ([Value.bool false]))]
 refine sq_end ?_
 refine zB ?_
 refine wp_seq ?_
 refine zQ [0,1,2,3,4,5,6] rfl ?_
 refine zF h (i:=0) rfl (u_move (xs:=[]) (zH (i:=0) (by kernel_rfl) rfl) (gd0 rfl) 7 rfl (.tmp 0) (Or.inl rfl) rfl) (fun a w h=>?_)
 refine zF h (i:=1) rfl (u_call (xs:=[]) (zH (i:=1) (by kernel_rfl) rfl) (gd0 rfl) _ rfl _ _ _ rfl [_] rfl (cE72 _) (.tuple [.agg (nc ((R:Int))).toArray,.agg (nc ((S:Int))).toArray].toArray) (fun w hb=>by have q:=pair_ok (w:=w) (hba.keep (Bs.kp_d hb)) (hT.keep (Bs.kp_d hb)) hnc hn hp;rw [hR,hS] at q;exact q)) (fun a w h=>?_)
 refine zF h (i:=2) rfl (u_move (xs:=[]) (zH (i:=2) (by kernel_rfl) rfl) (gd0 rfl) 6 rfl (.tmp 8) (Or.inl rfl) rfl) (fun a w h=>?_)
 refine zF h (i:=3) rfl (u_part (xs:=[]) (zH (i:=3) (by kernel_rfl) rfl) (gd0 rfl) 9 rfl (.tmp 6) 0 rfl (vs:=[.agg (nc ((R:Int))).toArray,.agg (nc ((S:Int))).toArray]) rfl _ rfl) (fun a w h=>?_)
 refine zF h (i:=4) rfl (u_part (xs:=[]) (zH (i:=4) (by kernel_rfl) rfl) (gd0 rfl) 10 rfl (.tmp 6) 1 rfl (vs:=[.agg (nc ((R:Int))).toArray,.agg (nc ((S:Int))).toArray]) rfl _ rfl) (fun a w h=>?_)
 refine zF h (i:=5) rfl (u_storeF (xs:=[]) (zH (i:=5) (by kernel_rfl) rfl) (gd0 rfl) 24 (.tmp 2) (.tmp 9) rfl rfl rfl 2 rfl (vs:=nc ((R:Int))) rfl i24 (lk rfl) rfl _ rfl) (fun a w h=>?_)
 refine zF h (i:=6) rfl (u_storeF (xs:=[]) (zH (i:=6) (by kernel_rfl) rfl) (gd0 rfl) 24 (.tmp 3) (.tmp 10) rfl rfl rfl 3 rfl (vs:=nc ((S:Int))) rfl i24 (lk rfl) rfl _ rfl) (fun a w h=>?_)
 replace h:=h.kQ [(2,.val (.pointer (some ⟨g2,0,none⟩))),(3,.val (.pointer (some ⟨g3,0,none⟩))),(4,.val (.pointer (some ⟨g4,0,none⟩)))] [] [(2,varPd g2 (nc ((R:Int)))),(3,varPd g3 (nc ((S:Int)))),(4,varPd g4 ([Value.bool false]))]
 refine sq_end ?_
 refine zB ?_
 refine aXQ h [0,1,2,3,4] [eS 11 (.val (.agg (nc ((R:Int))).toArray)),eS 12 (.val (.agg (nc ((S:Int))).toArray)),eV 2 (varPd g2 (nc ((R:Int)))),eV 3 (varPd g3 (nc ((S:Int)))),eV 4 (varPd g4 ([Value.bool true]))] ⟨fun L u=>u_loadF u (gd0 rfl) 11 rfl 24 (.tmp 2) rfl rfl 2 rfl Tryz.underlying24 rfl i24 (lk rfl) _ rfl,fun L u=>u_loadF u (gd0 rfl) 12 rfl 24 (.tmp 3) rfl rfl 3 rfl Tryz.underlying24 rfl i24 (lk rfl) _ rfl,fun L u=>u_storeF u (gd0 rfl) 24 (.tmp 2) (.tmp 11) rfl rfl rfl 2 rfl (vs:=nc ((R:Int))) rfl i24 (lk rfl) rfl _ rfl,fun L u=>u_storeF u (gd0 rfl) 24 (.tmp 3) (.tmp 12) rfl rfl rfl 3 rfl (vs:=nc ((S:Int))) rfl i24 (lk rfl) rfl _ rfl,fun L u=>u_storeF1 u (gd0 rfl) 4 (.tmp 4) (.const (.bool true)) rfl rfl rfl 4 rfl rfl i4 (lk rfl) rfl _ rfl,T0⟩ [(2,_),(3,_),(4,_)] [] [(2,varPd g2 (nc ((R:Int)))),(3,varPd g3 (nc ((S:Int)))),(4,varPd g4 ([Value.bool true]))] (fun a w h=>?_)
 refine wp_ret ?_
 have T2:=h.told (x:=2) rfl;have T3:=h.told (x:=3) rfl;have T4:=h.told (x:=4) rfl;exact leave_ret h rfl (cE71 _) (catch_idle _) (res_three (c1:=nc ((R:Int))) (c2:=nc ((S:Int))) (v:=Value.bool true) rfl (h.slot (d:=2) (lk rfl) rfl) (h.slot (d:=3) (lk rfl) rfl) (h.slot (d:=4) (lk rfl) rfl) T2.1 T3.1 T4.1 Tryz.underlying24 rfl i24 rfl Tryz.underlying4 rfl) ⟨rfl,Bs.kp_d h.below⟩
theorem fl_split (f:Nat→Nat) {a b n:Nat} (h:a+b=n):fl f n=fl f a++fl (fun i=>f (a+i)) b:=by
 rw [← h,fl_cat]
 exact fl_same (fun i hi=>by
  unfold cat
  split
  ·rfl
  ·show f i=f (a+(i-a))
   rw [show a+(i-a)=i by omega])
theorem pair_yes {f:Nat→Nat} {n:Nat} (h:PairOk f n):dE (nV (fun i=>f (2+i))) (nV (fun i=>f (4+f 3+i)))=fl f n:=by
 obtain ⟨h1,h2,h3,h4,h5,h6⟩:=h
 obtain ⟨p1,p2,p3,p4⟩:=h4
 obtain ⟨q1,q2,q3,q4⟩:=h5
 have e3:f (4+f 3+1)=f (5+f 3):=n3_at f
 have mR:msz (nV (fun i=>f (2+i)))=f 3:=by
  have:=congrArg List.length p4
  rw [qF,be_len] at this
  exact this.symm
 have mS:msz (nV (fun i=>f (4+f 3+i)))=f (5+f 3):=by
  have:=congrArg List.length q4
  rw [qF,be_len] at this
  exact this.symm.trans e3
 rw [dE_eq,mR,mS]
 rw [mR] at p4
 rw [mS] at q4
 have w1:fl f n=[f 0,f 1]++([f 2,f 3]++(fl (fun i=>f (2+(2+i))) (f 3)++([f (4+f 3),f (5+f 3)]++fl (fun i=>f (4+f 3+(2+i))) (f (5+f 3))))):=by
  rw [fl_split f (a:=2) (b:=n-2) (by omega),fl_split (fun i=>f (2+i)) (a:=2) (b:=n-4) (by omega),fl_split (fun i=>f (2+(2+i))) (a:=f 3) (b:=n-4-f 3) (by omega),fl_split (fun i=>f (2+(2+(f 3+i)))) (a:=2) (b:=f (5+f 3)) (by omega)]
  have a1:fl f 2=[f 0,f 1]:=rfl
  have a2:fl (fun i=>f (2+i)) 2=[f 2,f 3]:=rfl
  have a3:fl (fun i=>f (2+(2+(f 3+i)))) 2=[f (4+f 3),f (5+f 3)]:=by
   show [f (2+(2+(f 3+0))),f (2+(2+(f 3+1)))]=_
   rw [show 2+(2+(f 3+0))=4+f 3 by omega,show 2+(2+(f 3+1))=5+f 3 by omega]
  have a4:(fun i=>f (2+(2+(f 3+(2+i)))))=fun i=>f (4+f 3+(2+i)):=funext fun i=>by rw [show 2+(2+(f 3+(2+i)))=4+f 3+(2+i) by omega]
  rw [a1,a2,a3,a4]
 rw [w1]
 have p2':f 2=2:=p2
 have q2':f (4+f 3)=2:=q2
 have p4':fl (fun i=>f (2+(2+i))) (f 3)=be (nV (fun i=>f (2+i))) (f 3):=p4
 have q4':fl (fun i=>f (4+f 3+(2+i))) (f (5+f 3))=be (nV (fun i=>f (4+f 3+i))) (f (5+f 3)):=by
  have e:(fun i=>f (4+f 3+i)) 1=f (5+f 3):=n3_at f
  rw [e] at q4
  exact q4
 rw [p4',q4',h2,h3,p2',q2',show f 3+f (5+f 3)+4=n-2 by omega]
 rfl
theorem fl_of {f:Nat→Nat} {n i:Nat} {l:List Nat} (h:l=fl f n) (hi:i<n):f i=l.getD i 0:=by
 rw [h,List.getD_eq_getElem?_getD,fl_at f hi]
 rfl
theorem pair_no {f:Nat→Nat} {n:Nat} {r s:Nat} (hr:r<2 ^ 256) (hs:s<2 ^ 256) (h:dE r s=fl f n):PairOk f n:=by
 obtain ⟨k1,k2,k3,k4,k5⟩:=dE_only hr hs h
 have hlen:n=msz r+msz s+6:=by rw [← dE_len,h,qF]
 have e:=dE_eq r s
 have f0:f 0=48:=by rw [fl_of h (by omega),e];rfl
 have f1:f 1=msz r+msz s+4:=by rw [fl_of h (by omega),e];rfl
 have f2:f 2=2:=by rw [fl_of h (by omega),e];rfl
 have f3:f 3=msz r:=by rw [fl_of h (by omega),e];rfl
 have tl:∀ k,(dE r s).getD (4+f 3+k) 0=(2 :: msz s :: be s (msz s)).getD k 0:=fun k=>by
  rw [e,f3,List.getD_eq_getElem?_getD,List.getD_eq_getElem?_getD]
  show (48 :: (msz r+msz s+4) :: 2 :: msz r :: (be r (msz r)++2 :: msz s :: be s (msz s)))[4+msz r+k]?.getD 0=_
  rw [show 4+msz r+k=(msz r+k)+1+1+1+1 by omega,List.getElem?_cons_succ,List.getElem?_cons_succ,List.getElem?_cons_succ,List.getElem?_cons_succ,List.getElem?_append_right (by rw [be_len];omega),be_len,show msz r+k-msz r=k by omega]
 have hsz:=(msz_spec hs).2.2.1
 have f4:f (4+f 3)=2:=by rw [fl_of h (i:=4+f 3) (by omega)];exact tl 0
 have f5:f (5+f 3)=msz s:=by
  rw [fl_of h (i:=5+f 3) (by omega),show 5+f 3=4+f 3+1 by omega]
  exact tl 1
 have bR:fl (fun i=>f (4+i)) (f 3)=be r (msz r):=by
  have q:=dE_r r s
  rw [h,fl_cut (by omega),← f3] at q
  rw [f3] at q ⊢
  exact q
 have bS:fl (fun i=>f (6+f 3+i)) (f (5+f 3))=be s (msz s):=by
  have q:=dE_s r s
  rw [h,fl_tail (by omega),← f3,show n-(6+f 3)=f (5+f 3) by omega] at q
  exact q
 have vR:nV (fun i=>f (2+i))=r:=by
  have a1:(fun i=>f (2+(2+i)))=fun i=>f (4+i):=funext fun i=>by rw [show 2+(2+i)=4+i by omega]
  show num (fl (fun i=>f (2+(2+i))) (f 3)) % 2 ^ 256=r
  rw [a1,bR,be_msz hr,Nat.mod_eq_of_lt hr]
 have a5:(fun i=>f (4+f 3+(2+i)))=fun i=>f (6+f 3+i):=funext fun i=>by rw [show 4+f 3+(2+i)=6+f 3+i by omega]
 have e3:f (4+f 3+1)=f (5+f 3):=n3_at f
 have vS:nV (fun i=>f (4+f 3+i))=s:=by
  show num (fl (fun i=>f (4+f 3+(2+i))) (f (4+f 3+1))) % 2 ^ 256=s
  rw [a5,e3,bS,be_msz hs,Nat.mod_eq_of_lt hs]
 refine ⟨by omega,f0,by omega,⟨by omega,f2,?_,?_⟩,⟨by omega,f4,?_,?_⟩,by omega⟩
 ·show 2+f 3≤n-2
  omega
 ·rw [vR]
  have a1:(fun i=>f (2+(2+i)))=fun i=>f (4+i):=funext fun i=>by rw [show 2+(2+i)=4+i by omega]
  show fl (fun i=>f (2+(2+i))) (f 3)=_
  rw [a1];exact bR
 ·show 2+f (4+f 3+1)≤n-4-f 3
  omega
 ·rw [vS]
  show fl (fun i=>f (4+f 3+(2+i))) (f (4+f 3+1))=_
  rw [a5,e3];exact bS
end Go.Proofs.YtmigakanbeckpaaGreatDoor.De
namespace Go.Proofs.YtmigakanbeckpaaGreatDoor
set_option maxRecDepth 100000
open Go.RowKit
section
variable {P:Program} {W:Bs} {n:Nat} {ops:Array Oper} {i:Nat} {o:Oper} {σ:SS} {Q:Exit→Act→World→Prop} {rest:List Nat} {a:Act} {w:World}
end
section
variable {W:Bs} {n:Nat} {ops:Array Oper} {i:Nat} {o:Oper} {σ:SS} {Q:Exit→Act→World→Prop} {rest:List Nat} {a:Act} {w:World}
end
end Go.Proofs.YtmigakanbeckpaaGreatDoor
namespace Go.Proofs.YtmigakanbeckpaaGreatDoor
set_option maxRecDepth 100000
open Go.RowKit
def by32 (f:Nat→Int):List Value:=[.int .u8 (f 0),.int .u8 (f 1),.int .u8 (f 2),.int .u8 (f 3),.int .u8 (f 4),.int .u8 (f 5),.int .u8 (f 6),.int .u8 (f 7),.int .u8 (f 8),.int .u8 (f 9),.int .u8 (f 10),.int .u8 (f 11),.int .u8 (f 12),.int .u8 (f 13),.int .u8 (f 14),.int .u8 (f 15),.int .u8 (f 16),.int .u8 (f 17),.int .u8 (f 18),.int .u8 (f 19),.int .u8 (f 20),.int .u8 (f 21),.int .u8 (f 22),.int .u8 (f 23),.int .u8 (f 24),.int .u8 (f 25),.int .u8 (f 26),.int .u8 (f 27),.int .u8 (f 28),.int .u8 (f 29),.int .u8 (f 30),.int .u8 (f 31)]
end Go.Proofs.YtmigakanbeckpaaGreatDoor
namespace Go.Proofs.YtmigakanbeckpaaGreatDoor
open Go.RowKit
theorem hmX:Tryz.prog.follows .mixedOrders=true:=by kernel_rfl
theorem nb0X:Tryz.prog.built 24 []=some nz.toArray:=by kernel_rfl
theorem ba_sh {w:World} {z:Option Addr} {n:Nat} {f:Nat→Nat} (h:BA w z n f):Sh.BA w z n f:=⟨h.lt,h.at_.imp id fun ⟨b,o,e,hr⟩=>⟨b,o,e,⟨hr.c⟩⟩⟩
theorem hb_lt (s:Sh.St) (i:Nat):Sh.hByte s i<256:=Nat.mod_lt _ (by decide)
def zN (f:Nat→Nat) (n:Nat):Nat:=De.num (fl (Sh.hByte (Sh.hashS f n)) 32)
theorem num_natX {a:Nat} (h:a<2 ^ 256):Num (a:Int):=⟨by omega,by unfold M;omega⟩
theorem zN_lt (f:Nat→Nat) (n:Nat):zN f n<2 ^ 256:=by
 have h:=De.num_lt (fl_lt (f:=Sh.hByte (Sh.hashS f n)) (fun i=>hb_lt _ i) 32)
 rw [qF] at h
 exact Nat.lt_of_lt_of_le h (by decide)
theorem i5X:(Tryz.prog.info? 5).map (·.size)=some 1:=by kernel_rfl
theorem eq_z0 {a:Nat} (h:a<2 ^ 256) {t:Bool} (ht:decide (a=0)=t) (w:World):(Op.equalIn 10000 24 (.agg (nc (a:Int)).toArray) (.agg nz.toArray)).run Tryz.prog w=.ok t w:=by
 rw [nz_nc,eq_nc (num_natX h) ⟨by decide,by decide⟩,← ht]
 congr 1
 by_cases e:a=0
 ·rw [decide_eq_true e,decide_eq_true (by omega)]
 ·rw [decide_eq_false e,decide_eq_false (by omega)]
theorem cX55 (vs:List Value):∀ w,(callFunc 55 vs.toArray).run Tryz.prog w=.ok (.enter 55 vs.toArray) w:=zA Tryz.func55 (by kernel_rfl) (by kernel_rfl) _
theorem cX106 (vs:List Value):∀ w,(callFunc 106 vs.toArray).run Tryz.prog w=.ok (.enter 106 vs.toArray) w:=zA Tryz.func106 (by kernel_rfl) (by kernel_rfl) _
theorem rWithin_0 {w:World} {A:Nat} (hA:A<2 ^ 256) (hz:A=0):Calls Tryz.prog 28 [.agg (nc ((A:Int))).toArray].toArray w fun e w'=>e=.returned (.bool false)∧Below w.heap.size w w':=by
 refine enter Tryz.func28 rfl 10 rfl (lk rfl) (fun a h=>?_)
 refine aX h [] [eN 1 _,eS 2 _] ⟨rfl,rfl,T0⟩ [(1,.ptr 1 0)] [(1,nc ((A:Int)))] (fun a w h=>?_)
 refine aX h [1,2] [eS 3 _,eS 4 (.val (.agg (nz).toArray)),eS 5 (.val (.bool false)),eS 6 _,eS 7 _,eS 8 _,eS 9 _,eS 2 _] ⟨rfl,fun L u=>zT u (gd0 rfl) 4 rfl 24 #[] rfl [] rfl (nz) (nb0X),fun L u=>u_neq u (gd0 rfl) 5 rfl 24 24 (.tmp 3) (.tmp 4) rfl rfl rfl Tryz.eqGuardType24 (true) (fun w=>eq_z0 hA (by rw [decide_eq_true hz]) w),rfl,rfl,rfl,rfl,rfl,T0⟩ [(2,.val (.bool false))] [] (fun a w h=>?_)
 refine wp_ret ?_
 refine zR h 2 rfl (lk rfl) (Value.bool false) rfl ?_
 exact ⟨rfl,h.grows⟩
theorem rWithin_1 {w:World} {A:Nat} (hA:A<2 ^ 256) (hz:¬ A=0):Calls Tryz.prog 28 [.agg (nc ((A:Int))).toArray].toArray w fun e w'=>e=.returned (.bool (decide ((A:Int)<md 1)))∧Below w.heap.size w w':=by
 refine enter Tryz.func28 rfl 10 rfl (lk rfl) (fun a h=>?_)
 refine aX h [] [eN 1 _,eS 2 _] ⟨rfl,rfl,T0⟩ [(1,.ptr 1 0)] [(1,nc ((A:Int)))] (fun a w h=>?_)
 refine aX h [1,2,5] [eS 3 _,eS 4 (.val (.agg (nz).toArray)),eS 5 (.val (.bool true)),eS 6 _,eS 7 _,eS 8 (.val (.bool (decide ((A:Int)<md 1)))),eS 9 _,eS 2 _] ⟨rfl,fun L u=>zT u (gd0 rfl) 4 rfl 24 #[] rfl [] rfl (nz) (nb0X),fun L u=>u_neq u (gd0 rfl) 5 rfl 24 24 (.tmp 3) (.tmp 4) rfl rfl rfl Tryz.eqGuardType24 (false) (fun w=>eq_z0 hA (by rw [decide_eq_false hz]) w),rfl,rfl,fun L u=>u_call u (gd1 u 3 true rfl 6 rfl (lk rfl) rfl) _ rfl _ _ _ rfl [_,_] rfl (cX55 _) _ (fun w hb=>refBelow_any (k:=1) (num_natX hA) w),rfl,rfl,T0⟩ [(2,.val (.bool (decide ((A:Int)<md 1))))] [] (fun a w h=>?_)
 refine wp_ret ?_
 refine zR h 2 rfl (lk rfl) (Value.bool (decide ((A:Int)<md 1))) rfl ?_
 exact ⟨rfl,h.grows⟩
def wi (A:Nat):Bool:=decide (A≠0∧(A:Int)<md 1)
theorem rWithin {w:World} {A:Nat} (hA:A<2 ^ 256):Calls Tryz.prog 28 [.agg (nc ((A:Int))).toArray].toArray w fun e w'=>e=.returned (.bool (wi A))∧Below w.heap.size w w':=by
 by_cases hz:A=0
 ·rw [show wi A=false from decide_eq_false (fun q=>q.1 hz)]
  exact rWithin_0 hA hz
 ·rw [show wi A=decide ((A:Int)<md 1) by unfold wi;simp [hz]]
  exact rWithin_1 hA hz
theorem rZ_at {w:World} {n c U:Nat} {z:Option Addr} {f F:Nat→Nat} {l:List Nat} (hba:BA w z n f) (hn:n≤100000) (hF:F=Sh.hByte (Sh.hashS f n)) (hl:cells8 l=by32 (fun i=>((F i:Nat):Int))) (hlen:l.length=32) (hlt:∀ x ∈ l,x<256) (hU:De.num l=U):Calls Tryz.prog 66 [Value.slice (z) (n) (c)].toArray w fun e w'=>e=.returned (.agg (nc (U:Int)).toArray)∧Below w.heap.size w w':=by
 refine enter Tryz.func66 rfl 14 rfl (lk rfl) (fun a h=>?_)
 refine aX h [] [eN 2 _] ⟨rfl,T0⟩ [(0,.val (.slice (z) (n) (c))),(2,.ptr 2 0)] [(2,nz)] (fun a w h=>?_)
 refine aX h [1] [eS 6 _,eS 7 (.val (.agg (by32 (fun i=>((F i:Nat):Int))).toArray)),eN 3 _,eM 3 _] ⟨rfl,fun L u=>u_call u (gd0 rfl) _ rfl _ _ _ rfl [_] rfl (cX106 _) (.agg (by32 (fun i=>((F i:Nat):Int))).toArray) (fun w hb=>by have q:=Sh.refSum_hA (c:=c) (ba_sh (hba.keep (Bs.kp_of hb))) (by omega);rw [show Sh.hA f n=(by32 (fun i=>((F i:Nat):Int))).toArray by rw [hF];rfl] at q;exact q),rfl,rfl,T0⟩ [(2,_),(3,.ptr 3 0)] [(2,_),(3,by32 (fun i=>((F i:Nat):Int)))] (fun a w h=>?_)
 refine aX h [0,1] [eS 9 (.sli 3 0 32 32),eS 10 (.val (.tuple [Value.agg (nc ((U:Int))).toArray,Value.bool true].toArray)),eS 8 _,eS 11 _,eS 12 _,eN 4 _,eM 4 _,eS 5 _] ⟨fun L u=>u_slice u (gd0 rfl) 9 rfl 60 (.tmp 3) rfl rfl rfl Tryz.underlying60 i5X,fun L u=>u_callR u (gd0 rfl) 10 rfl 34 #[(.tmp 9)] #[25] rfl [.sli 3 0 32 32] rfl (fun vs w=>zA Tryz.func34 (by kernel_rfl) (by kernel_rfl) vs w) (.tuple [.agg (nc ((U:Int))).toArray,Value.bool true].toArray) (fun β a w hr=>by obtain ⟨_,_,c3,_⟩:=hr.va 3 (by32 (fun i=>((F i:Nat):Int))) (u.m rfl);have q:=De.refBig_num (c:=32) (l:=l) hlen hlt (De.cells_ba hlt hlen (by rw [hl];exact c3));rw [hU] at q;exact q),rfl,rfl,rfl,rfl,rfl,rfl,T0⟩ [(2,_),(4,.ptr 4 0)] [(2,_),(4,nc ((U:Int)))] (fun a w h=>?_)
 refine aX h [] [eS 13 _,eM 2 _] ⟨rfl,rfl,T0⟩ [(2,_)] [(2,nc ((U:Int)))] (fun a w h=>?_)
 refine wp_ret ?_
 refine zS h 2 24 rfl (lk rfl) 2 rfl (nc ((U:Int))) rfl _ Tryz.underlying24 rfl i24 ?_
 exact ⟨rfl,h.grows⟩
theorem rZ {w:World} {n c:Nat} {z:Option Addr} {f:Nat→Nat} (hba:BA w z n f) (hn:n≤100000):Calls Tryz.prog 66 [Value.slice (z) (n) (c)].toArray w fun e w'=>e=.returned (.agg (nc ((zN f n:Nat):Int)).toArray)∧Below w.heap.size w w' :=
 rZ_at (F:=Sh.hByte (Sh.hashS f n)) (l:=fl (Sh.hByte (Sh.hashS f n)) 32) hba hn rfl rfl (qF _ _) (fl_lt (fun i=>hb_lt _ i) 32) rfl
end Go.Proofs.YtmigakanbeckpaaGreatDoor
