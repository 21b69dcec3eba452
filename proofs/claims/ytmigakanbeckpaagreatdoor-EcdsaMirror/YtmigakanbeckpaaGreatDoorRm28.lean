/- What the program's own pair of layer 10 answers, and where it panics. What the document's own Decode of layer 10 answers. What the program's own Decode of layer 10 answers: where a reader panics it recovers. Walks by states, in the text's order: a call that answers a slice that it made, and bytes appended to none, with whatever room behind them. Walks by states: bytes in states, remainders, and answers that are slices. What the document's own Within and Z of layer 11 answer; bytes of one family are bytes of another. -/
import Derived.Test.YtmigakanbeckpaaGreatDoorRm27
import Derived.Test.YtmigakanbeckpaaGreatDoorRm26
import Derived.Test.YtmigakanbeckpaaGreatDoorRm03
import Derived.Test.YtmigakanbeckpaaGreatDoorRm02
import Derived.Test.YtmigakanbeckpaaGreatDoorRm24
import Derived.Test.YtmigakanbeckpaaGreatDoorRm23
import Derived.Test.YtmigakanbeckpaaGreatDoorRm22
set_option maxRecDepth 100000
set_option maxHeartbeats 4000000
namespace Go.Proofs.YtmigakanbeckpaaGreatDoor.De
set_option maxRecDepth 100000
open Go.RowKit
theorem b121 (z:Option Addr) (n c:Nat):Tryz.prog.built 121 [(0,.slice z n c)]=some [Value.slice z n c].toArray:=by kernel_rfl
theorem pair_at {w:World} {n c:Nat} {z:Option Addr} {f:Nat→Nat} (hba:BA w z n f) (hT:Tab w) (hnc:n≤c) (hn:n≤1000) {n1 c1:Nat} {z1:Option Addr} (hz1:cutA z c 1=z1) (hn1:n=n1+1) (hc1:c=c1+1) {f1:Nat→Nat} (hf1:∀ i,f1 i=f (1+i)) (h48:f 0=48) {n2 c2 m0:Nat} {z2:Option Addr} (hz2:cutA z1 c1 1=z2) (hn2:n1=n2+1) (hc2:c1=c2+1) {f2:Nat→Nat} (hf2:∀ i,f2 i=f1 (1+i)) (hfm:f1 0=m0) (hm0:m0=n2) (hR:NumOk f2 n2) {n3 c3 R:Nat} {z3:Option Addr} (hz3:cutA (cutA (cutA z2 c2 1) (c2-1) 1) (c2-2) (f2 1)=z3) (hn3:n2=n3+(2+f2 1)) (hc3:c2=c3+(2+f2 1)) {f3:Nat→Nat} (hf3:∀ i,f3 i=f2 (2+f2 1+i)) (hRV:nV f2=R) (hS:NumOk f3 n3) {n4 c4 S:Nat} {z4:Option Addr} (hz4:cutA (cutA (cutA z3 c3 1) (c3-1) 1) (c3-2) (f3 1)=z4) (hn4:n3=n4+(2+f3 1)) (hc4:c3=c4+(2+f3 1)) (hSV:nV f3=S) (h0:n4=0):Calls Tryz.prog 72 [Value.slice (z) (n) (c)].toArray w fun e w'=>e=.returned (.tuple [.agg (nc ((R:Nat):Int)).toArray,.agg (nc ((S:Nat):Int)).toArray].toArray)∧Below w.heap.size w w':=by
 refine enter (args:=[Value.slice (z) (n) (c)]) Tryz.func72 rfl 27 rfl (lk rfl) (fun a h=>?_)
 refine aX h [] [eN 2 _,eN 3 _] ⟨rfl,rfl,T0⟩ [(0,.val (Value.slice (z) (n) (c))),(2,.ptr 2 0),(3,.ptr 3 0)] [(2,nz),(3,nz)] (fun a w h=>?_)
 refine aX h [1] [eS 8 _,eS 9 (.val (.agg ([Value.slice (z) (n) (c)]).toArray)),eN 4 _,eM 4 _] ⟨rfl,fun L u=>u_build u (gd0 rfl) 9 rfl 121 #[(0,(.tmp 8))] rfl [(0,Value.slice (z) (n) (c))] rfl ([Value.slice (z) (n) (c)]) (b121 _ _ _),rfl,rfl,T0⟩ [(2,_),(3,_),(4,.ptr 4 0)] [(2,_),(3,_),(4,[Value.slice (z) (n) (c)])] (fun a w h=>?_)
 obtain ⟨g4,h⟩:=h.fix 4 rfl rfl
 replace h:=h.keepQ [(2,.ptr 2 0),(3,.ptr 3 0),(4,.val (Value.pointer (some ⟨g4,0,none⟩)))] [(2,nz),(3,nz)] [(4,varPd g4 ([Value.slice (z) (n) (c)]))] ⟨rfl,rfl,rfl,trivial⟩ ⟨rfl,rfl,trivial⟩ ⟨rfl,trivial⟩ rfl
 refine aXQ h [0] [eT 10 (.val (Value.tuple #[])) 4 (varPd g4 ([Value.slice (z1) (n1) (c1)]))] ⟨fun L u=>u_callW u (gd0 rfl) 10 rfl 110 #[(.tmp 4),(.const (.int .i64 48))] #[121,3] rfl [Value.pointer (some ⟨g4,0,none⟩),(Value.int IntKind.i64 48)] rfl (fun vs w=>callFunc_enter Tryz.func110 (by kernel_rfl) (by kernel_rfl) vs w) 4 rfl (Value.tuple #[]) ([Value.slice (z1) (n1) (c1)]) (fun w hk ho h3 h4 hl=>exp_ok (mk:=48) (env_of hba hT hnc hk ho) hz1 hn1 hc1 h48 h3 h4 hl),T0⟩ [(2,_),(3,_),(4,_)] [(2,_),(3,_)] [(4,varPd g4 ([Value.slice (z1) (n1) (c1)]))] (fun a w h=>?_)
 refine aXQ h [0] [eT 11 (.val (Value.int .i64 ((m0:Nat):Int))) 4 (varPd g4 ([Value.slice (z2) (n2) (c2)])),eS 5 _] ⟨fun L u=>u_callW u (gd0 rfl) 11 rfl 111 #[(.tmp 4)] #[121] rfl [Value.pointer (some ⟨g4,0,none⟩)] rfl (fun vs w=>callFunc_enter Tryz.func111 (by kernel_rfl) (by kernel_rfl) vs w) 4 rfl (Value.int .i64 ((m0:Nat):Int)) ([Value.slice (z2) (n2) (c2)]) (fun w hk ho h3 h4 hl=>by have q:=next_ok ((env_of hba hT hnc hk ho).cut 1 hz1 hn1 hc1 hf1) hz2 hn2 hc2 h3 h4 hl;rw [hfm] at q;exact q),rfl,T0⟩ [(2,_),(3,_),(4,_),(5,.val (Value.int .i64 ((m0:Nat):Int)))] [(2,_),(3,_)] [(4,varPd g4 ([Value.slice (z2) (n2) (c2)]))] (fun a w h=>?_)
 refine wp_seq ?_
 refine sq_begin [0,1,2,3,4,5] rfl ?_
 refine sq_step h (i:=0) rfl (u_move (xs:=[]) (up_seq (i:=0) (by kernel_rfl) rfl) (gd0 rfl) 12 rfl (.tmp 5) (Or.inl rfl) rfl) (fun a w h=>?_)
 refine sq_step h (i:=1) rfl (u_fieldV (xs:=[]) (up_seq (i:=1) (by kernel_rfl) rfl) (gd0 rfl) 13 rfl 121 (.tmp 4) 0 rfl rfl Tryz.underlying121 rfl i25 0 rfl) (fun a w h=>?_)
 refine sq_step h (i:=2) rfl (u_loadF1 (xs:=[]) (up_seq (i:=2) (by kernel_rfl) rfl) (gd0 rfl) 14 rfl 25 (.tmp 13) rfl rfl 4 rfl Tryz.underlying25 rfl (Value.slice (z2) (n2) (c2)) rfl) (fun a w h=>?_)
 refine sq_step h (i:=3) rfl (u_lenV (xs:=[]) (up_seq (i:=3) (by kernel_rfl) rfl) (gd0 rfl) 15 rfl (.tmp 14) 25 rfl rfl Tryz.underlying25) (fun a w h=>?_)
 refine sq_step h (i:=4) rfl (u_bin (xs:=[]) (up_seq (i:=4) (by kernel_rfl) rfl) (gd0 rfl) _ rfl _ _ _ _ _ rfl rfl rfl (eqg_int _ _ _ _ _ _ _ _) _ (yes_of (fun w=>i_eql _ _ _ _ w) (by omega))) (fun a w h=>?_)
 refine sq_step h (i:=5) rfl (u_call (xs:=[]) (up_seq (i:=5) (by kernel_rfl) rfl) (gd0 rfl) _ rfl _ _ _ rfl [_] rfl (cE112 _) _ (fun w hb=>ins_t)) (fun a w h=>?_)
 replace h:=h.keepQ [(2,.ptr 2 0),(3,.ptr 3 0),(4,.val (Value.pointer (some ⟨g4,0,none⟩)))] [(2,nz),(3,nz)] [(4,varPd g4 ([Value.slice (z2) (n2) (c2)]))] ⟨rfl,rfl,rfl,trivial⟩ ⟨rfl,rfl,trivial⟩ ⟨rfl,trivial⟩ rfl
 refine sq_end ?_
 refine then_norm ?_
 refine aXQ h [0] [eT 18 (.val (.agg (nc (((R:Nat):Int))).toArray)) 4 (varPd g4 ([Value.slice (z3) (n3) (c3)])),eN 6 _,eM 6 _] ⟨fun L u=>u_callW u (gd0 rfl) 18 rfl 113 #[(.tmp 4)] #[121] rfl [Value.pointer (some ⟨g4,0,none⟩)] rfl (fun vs w=>callFunc_enter Tryz.func113 (by kernel_rfl) (by kernel_rfl) vs w) 4 rfl (.agg (nc (((R:Nat):Int))).toArray) ([Value.slice (z3) (n3) (c3)]) (fun w hk ho h3 h4 hl=>by have q:=num_ok (((env_of hba hT hnc hk ho).cut 1 hz1 hn1 hc1 hf1).cut 1 hz2 hn2 hc2 hf2) (by omega) hR hz3 hn3 hc3 h3 h4 hl;rw [hRV] at q;exact q),rfl,rfl,T0⟩ [(2,_),(3,_),(4,_),(6,.ptr 6 0)] [(2,_),(3,_),(6,nc (((R:Nat):Int)))] [(4,varPd g4 ([Value.slice (z3) (n3) (c3)]))] (fun a w h=>?_)
 refine aXQ h [0] [eT 19 (.val (.agg (nc (((S:Nat):Int))).toArray)) 4 (varPd g4 ([Value.slice (z4) (n4) (c4)])),eN 7 _,eM 7 _] ⟨fun L u=>u_callW u (gd0 rfl) 19 rfl 113 #[(.tmp 4)] #[121] rfl [Value.pointer (some ⟨g4,0,none⟩)] rfl (fun vs w=>callFunc_enter Tryz.func113 (by kernel_rfl) (by kernel_rfl) vs w) 4 rfl (.agg (nc (((S:Nat):Int))).toArray) ([Value.slice (z4) (n4) (c4)]) (fun w hk ho h3 h4 hl=>by have q:=num_ok (env_num (((env_of hba hT hnc hk ho).cut 1 hz1 hn1 hc1 hf1).cut 1 hz2 hn2 hc2 hf2) hz3 hn3 hc3 hf3) (by omega) hS hz4 hn4 hc4 h3 h4 hl;rw [hSV] at q;exact q),rfl,rfl,T0⟩ [(2,_),(3,_),(4,_),(6,_),(7,.ptr 7 0)] [(2,_),(3,_),(6,_),(7,nc (((S:Nat):Int)))] [(4,varPd g4 ([Value.slice (z4) (n4) (c4)]))] (fun a w h=>?_)
 refine wp_seq ?_
 refine sq_begin [0,1,2,3,4] rfl ?_
 refine sq_step h (i:=0) rfl (u_fieldV (xs:=[]) (up_seq (i:=0) (by kernel_rfl) rfl) (gd0 rfl) 20 rfl 121 (.tmp 4) 0 rfl rfl Tryz.underlying121 rfl i25 0 rfl) (fun a w h=>?_)
 refine sq_step h (i:=1) rfl (u_loadF1 (xs:=[]) (up_seq (i:=1) (by kernel_rfl) rfl) (gd0 rfl) 21 rfl 25 (.tmp 20) rfl rfl 4 rfl Tryz.underlying25 rfl (Value.slice (z4) (n4) (c4)) rfl) (fun a w h=>?_)
 refine sq_step h (i:=2) rfl (u_lenV (xs:=[]) (up_seq (i:=2) (by kernel_rfl) rfl) (gd0 rfl) 22 rfl (.tmp 21) 25 rfl rfl Tryz.underlying25) (fun a w h=>?_)
 refine sq_step h (i:=3) rfl (u_bin (xs:=[]) (up_seq (i:=3) (by kernel_rfl) rfl) (gd0 rfl) _ rfl _ _ _ _ _ rfl rfl rfl (eqg_int _ _ _ _ _ _ _ _) _ (yes_of (fun w=>i_eql _ _ _ _ w) (by omega))) (fun a w h=>?_)
 refine sq_step h (i:=4) rfl (u_call (xs:=[]) (up_seq (i:=4) (by kernel_rfl) rfl) (gd0 rfl) _ rfl _ _ _ rfl [_] rfl (cE112 _) _ (fun w hb=>ins_t)) (fun a w h=>?_)
 replace h:=h.keepQ [(2,.ptr 2 0),(3,.ptr 3 0),(6,.ptr 6 0),(7,.ptr 7 0)] [(2,nz),(3,nz),(6,nc (((R:Nat):Int))),(7,nc (((S:Nat):Int)))] [(4,varPd g4 ([Value.slice (z4) (n4) (c4)]))] ⟨rfl,rfl,rfl,rfl,trivial⟩ ⟨rfl,rfl,rfl,rfl,trivial⟩ ⟨rfl,trivial⟩ rfl
 refine sq_end ?_
 refine then_norm ?_
 refine aXQ h [] [eS 25 _,eS 26 _,eM 2 _,eM 3 _] ⟨rfl,rfl,rfl,rfl,T0⟩ [(2,_),(3,_)] [(2,nc (((R:Nat):Int))),(3,nc (((S:Nat):Int)))] [(4,varPd g4 ([Value.slice (z4) (n4) (c4)]))] (fun a w h=>?_)
 refine wp_ret ?_
 refine ret_two h _ _ rfl (ans_row (cs:=nc (((R:Nat):Int))) 2 (lk rfl) 24 rfl rfl Tryz.underlying24 rfl i24) (ans_row (cs:=nc (((S:Nat):Int))) 3 (lk rfl) 24 rfl rfl Tryz.underlying24 rfl i24) ?_
 exact ⟨rfl,h.grows⟩
def PairOk (f:Nat→Nat) (n:Nat):Prop:=2≤n∧f 0=48∧f 1=n-2∧NumOk (fun i=>f (2+i)) (n-2)∧NumOk (fun i=>f (4+f 3+i)) (n-4-f 3)∧n=6+f 3+f (5+f 3)
theorem n2_at (f:Nat→Nat):(fun i=>f (2+i)) 1=f 3:=rfl
theorem n3_at (f:Nat→Nat):(fun i=>f (4+f 3+i)) 1=f (5+f 3):=by show f (4+f 3+1)=f (5+f 3);rw [show 4+f 3+1=5+f 3 by omega]
theorem pair_ok {w:World} {n c:Nat} {z:Option Addr} {f:Nat→Nat} (hba:BA w z n f) (hT:Tab w) (hnc:n≤c) (hn:n≤1000) (h:PairOk f n):Calls Tryz.prog 72 [Value.slice (z) (n) (c)].toArray w fun e w'=>e=.returned (.tuple [.agg (nc ((nV (fun i=>f (2+i)):Nat):Int)).toArray,.agg (nc ((nV (fun i=>f (4+f 3+i)):Nat):Int)).toArray].toArray)∧Below w.heap.size w w':=by
 obtain ⟨h1,h2,h3,h4,h5,h6⟩:=h
 have e2:=n2_at f
 have e3:=n3_at f
 have a2:f (2+1)=f 3:=rfl
 have a3:f (4+f 3+1)=f (5+f 3):=e3
 have k4:=h4.2.2.1
 have k5:=h5.2.2.1
 rw [e2] at k4
 rw [e3] at k5
 exact pair_at (n1:=n-1) (c1:=c-1) (f1:=fun i=>f (1+i)) (n2:=n-2) (c2:=c-2) (f2:=fun i=>f (2+i)) (m0:=f 1) (n3:=n-4-f 3) (c3:=c-4-f 3) (f3:=fun i=>f (4+f 3+i)) (n4:=0) (c4:=c-n) hba hT hnc hn rfl (by omega) (by omega) (fun _=>rfl) h2 rfl (by omega) (by omega) (fun i=>by show f (2+i)=f (1+(1+i));rw [show 1+(1+i)=2+i by omega]) rfl h3 h4 rfl (by omega) (by omega) (fun i=>by show f (4+f 3+i)=f (2+(2+f 3+i));rw [show 2+(2+f 3+i)=4+f 3+i by omega]) rfl h5 rfl (by omega) (by omega) rfl rfl
end Go.Proofs.YtmigakanbeckpaaGreatDoor.De
namespace Go.Proofs.YtmigakanbeckpaaGreatDoor.De
set_option maxRecDepth 100000
open Go.RowKit
theorem cE41 (vs:List Value):∀ w,(callFunc 41 vs.toArray).run Tryz.prog w=.ok (.enter 41 vs.toArray) w:=callFunc_enter Tryz.func41 (by kernel_rfl) (by kernel_rfl) _
def dv (l:List Nat):Value:=match ddec l with
 | some q=>.tuple [.agg (nc ((q.1:Nat):Int)).toArray,.agg (nc ((q.2:Nat):Int)).toArray,.bool true].toArray
 | none=>.tuple [.agg nz.toArray,.agg nz.toArray,.bool false].toArray
theorem dv_no {l:List Nat} (h:∀ r s,r<2 ^ 256→s<2 ^ 256→dE r s≠l):dv l=.tuple [.agg nz.toArray,.agg nz.toArray,.bool false].toArray:=by
 unfold dv
 rw [ddec_none h]
theorem dv_yes {l:List Nat} {r s:Nat} (hr:r<2 ^ 256) (hs:s<2 ^ 256) (h:dE r s=l):dv l=.tuple [.agg (nc ((r:Nat):Int)).toArray,.agg (nc ((s:Nat):Int)).toArray,.bool true].toArray:=by
 unfold dv
 rw [← h,ddec_of hr hs]
theorem dE_at3 (r s:Nat):(dE r s).getD 3 0=msz r:=by rw [dE_eq];rfl
theorem dE_only {f:Nat→Nat} {n:Nat} {r s:Nat} (hr:r<2 ^ 256) (hs:s<2 ^ 256) (h:dE r s=fl f n):8≤n∧n≤72∧6+f 3≤n∧num (fl (fun i=>f (4+i)) (f 3)) % 2 ^ 256=r∧num (fl (fun i=>f (6+f 3+i)) (n-(6+f 3))) % 2 ^ 256=s:=by
 have hl:(dE r s).length=n:=by rw [h,fl_len]
 have hb:=dE_bd hr hs
 have h3:msz r=f 3:=by
  rw [← dE_at3 r s,h,List.getD_eq_getElem?_getD,fl_at f (by omega)]
  rfl
 have hlen:=dE_len r s
 have hsz:=(msz_spec hs).2.2.1
 refine ⟨by omega,by omega,by omega,?_,?_⟩
 ·have e:=dE_r r s
  rw [h,h3,fl_cut (by omega)] at e
  rw [e,← h3,be_msz hr,Nat.mod_eq_of_lt hr]
 ·have e:=dE_s r s
  rw [h,h3,fl_tail (by omega)] at e
  rw [e,be_msz hs,Nat.mod_eq_of_lt hs]
theorem refDec_short {A:Option Addr} {n c:Nat} {w:World} (hn:n<8):Calls Tryz.prog 18 [Value.slice (A) (n) (c)].toArray w fun e w'=>e=.returned (.tuple [.agg nz.toArray,.agg nz.toArray,.bool false].toArray)∧Below w.heap.size w w':=by
 refine enter (args:=[Value.slice (A) (n) (c)]) Tryz.func18 rfl 49 rfl (lk rfl) (fun a h=>?_)
 refine aX h [] [eN 2 _,eN 3 _,eS 4 _] ⟨rfl,rfl,rfl,T0⟩ [(0,.val (Value.slice (A) (n) (c))),(2,.ptr 2 0),(3,.ptr 3 0)] [(2,nz),(3,nz)] (fun a w h=>?_)
 refine wp_seq ?_
 refine aX h [1,2] [eS 8 _,eS 9 (.val (Value.int .i64 ((n:Nat):Int))),eS 10 (.val (Value.bool true)),eS 11 _,eS 12 _,eS 13 _,eS 14 _,eS 15 _] ⟨rfl,fun L u=>u_lenV u (gd0 rfl) 9 rfl (.tmp 8) 25 rfl rfl Tryz.underlying25,fun L u=>u_bin u (gd0 rfl) _ rfl _ _ _ _ _ rfl rfl rfl (eqg_int _ _ _ _ _ _ _ _) _ (yes_of (fun w=>i_lss _ _ _ _ w) (by omega)),rfl,rfl,rfl,rfl,rfl,T0⟩ [(0,_),(2,_),(3,_),(15,.val (Value.bool true))] [(2,_),(3,_)] (fun a w h=>?_)
 refine go_cond h true rfl (fun ht=>?_) (fun hf=>?_)
 case refine_2=>cases hf
 refine aX h [0,1] [eS 16 (.val (.agg (nz).toArray)),eS 17 (.val (.agg (nz).toArray)),eM 2 _,eM 3 _,eS 4 _] ⟨fun L u=>u_build u (gd0 rfl) 16 rfl 24 #[] rfl [] rfl (nz) (n_b0),fun L u=>u_build u (gd0 rfl) 17 rfl 24 #[] rfl [] rfl (nz) (n_b0),rfl,rfl,rfl,T0⟩ [(2,_),(3,_),(4,.val (Value.bool false))] [(2,_),(3,_)] (fun a w h=>?_)
 refine wp_ret ?_
 refine then_ret ?_
 refine ret_three h _ _ _ rfl (ans_row (cs:=nz) 2 (lk rfl) 24 rfl rfl Tryz.underlying24 rfl i24) (ans_row (cs:=nz) 3 (lk rfl) 24 rfl rfl Tryz.underlying24 rfl i24) (ans_tmp (v:=Value.bool false) 4 (lk rfl) rfl) ?_
 exact ⟨rfl,h.grows⟩
theorem refDec_long {A:Option Addr} {n c:Nat} {w:World} (hn:72<n):Calls Tryz.prog 18 [Value.slice (A) (n) (c)].toArray w fun e w'=>e=.returned (.tuple [.agg nz.toArray,.agg nz.toArray,.bool false].toArray)∧Below w.heap.size w w':=by
 refine enter (args:=[Value.slice (A) (n) (c)]) Tryz.func18 rfl 49 rfl (lk rfl) (fun a h=>?_)
 refine aX h [] [eN 2 _,eN 3 _,eS 4 _] ⟨rfl,rfl,rfl,T0⟩ [(0,.val (Value.slice (A) (n) (c))),(2,.ptr 2 0),(3,.ptr 3 0)] [(2,nz),(3,nz)] (fun a w h=>?_)
 refine wp_seq ?_
 refine aX h [1,2,5,6] [eS 8 _,eS 9 (.val (Value.int .i64 ((n:Nat):Int))),eS 10 (.val (Value.bool false)),eS 11 _,eS 12 _,eS 13 (.val (Value.int .i64 ((n:Nat):Int))),eS 14 (.val (Value.bool true)),eS 15 _] ⟨rfl,fun L u=>u_lenV u (gd0 rfl) 9 rfl (.tmp 8) 25 rfl rfl Tryz.underlying25,fun L u=>u_bin u (gd0 rfl) _ rfl _ _ _ _ _ rfl rfl rfl (eqg_int _ _ _ _ _ _ _ _) _ (no_of (fun w=>i_lss _ _ _ _ w) (by omega)),rfl,rfl,fun L u=>u_lenV u (gd1 u 3 false rfl 11 rfl (lk rfl) rfl) 13 rfl (.tmp 12) 25 rfl rfl Tryz.underlying25,fun L u=>u_bin u (gd1 u 3 false rfl 11 rfl (lk rfl) rfl) _ rfl _ _ _ _ _ rfl rfl rfl (eqg_int _ _ _ _ _ _ _ _) _ (yes_of (fun w=>i_gtr _ _ _ _ w) (by omega)),rfl,T0⟩ [(0,_),(2,_),(3,_),(15,.val (Value.bool true))] [(2,_),(3,_)] (fun a w h=>?_)
 refine go_cond h true rfl (fun ht=>?_) (fun hf=>?_)
 case refine_2=>cases hf
 refine aX h [0,1] [eS 16 (.val (.agg (nz).toArray)),eS 17 (.val (.agg (nz).toArray)),eM 2 _,eM 3 _,eS 4 _] ⟨fun L u=>u_build u (gd0 rfl) 16 rfl 24 #[] rfl [] rfl (nz) (n_b0),fun L u=>u_build u (gd0 rfl) 17 rfl 24 #[] rfl [] rfl (nz) (n_b0),rfl,rfl,rfl,T0⟩ [(2,_),(3,_),(4,.val (Value.bool false))] [(2,_),(3,_)] (fun a w h=>?_)
 refine wp_ret ?_
 refine then_ret ?_
 refine ret_three h _ _ _ rfl (ans_row (cs:=nz) 2 (lk rfl) 24 rfl rfl Tryz.underlying24 rfl i24) (ans_row (cs:=nz) 3 (lk rfl) 24 rfl rfl Tryz.underlying24 rfl i24) (ans_tmp (v:=Value.bool false) 4 (lk rfl) rfl) ?_
 exact ⟨rfl,h.grows⟩
theorem refDec_over {b o n c:Nat} {f:Nat→Nat} {w:World} (_hba:BA w (some ⟨b,o,none⟩) n f) (hrd:Rd w b o n (fun i=>((f i:Nat):Int))) (h1:8≤n) (h2:n≤72) (hf3:f 3<256) (h3:n<6+f 3):Calls Tryz.prog 18 [Value.slice (some ⟨b,o,none⟩) (n) (c)].toArray w fun e w'=>e=.returned (.tuple [.agg nz.toArray,.agg nz.toArray,.bool false].toArray)∧Below w.heap.size w w':=by
 refine enter (args:=[Value.slice (some ⟨b,o,none⟩) (n) (c)]) Tryz.func18 rfl 49 rfl (lk rfl) (fun a h=>?_)
 refine aX h [] [eN 2 _,eN 3 _,eS 4 _] ⟨rfl,rfl,rfl,T0⟩ [(0,.val (Value.slice (some ⟨b,o,none⟩) (n) (c))),(2,.ptr 2 0),(3,.ptr 3 0)] [(2,nz),(3,nz)] (fun a w h=>?_)
 refine wp_seq ?_
 refine aX h [1,2,5,6] [eS 8 _,eS 9 (.val (Value.int .i64 ((n:Nat):Int))),eS 10 (.val (Value.bool false)),eS 11 _,eS 12 _,eS 13 (.val (Value.int .i64 ((n:Nat):Int))),eS 14 (.val (Value.bool false)),eS 15 _] ⟨rfl,fun L u=>u_lenV u (gd0 rfl) 9 rfl (.tmp 8) 25 rfl rfl Tryz.underlying25,fun L u=>u_bin u (gd0 rfl) _ rfl _ _ _ _ _ rfl rfl rfl (eqg_int _ _ _ _ _ _ _ _) _ (no_of (fun w=>i_lss _ _ _ _ w) (by omega)),rfl,rfl,fun L u=>u_lenV u (gd1 u 3 false rfl 11 rfl (lk rfl) rfl) 13 rfl (.tmp 12) 25 rfl rfl Tryz.underlying25,fun L u=>u_bin u (gd1 u 3 false rfl 11 rfl (lk rfl) rfl) _ rfl _ _ _ _ _ rfl rfl rfl (eqg_int _ _ _ _ _ _ _ _) _ (no_of (fun w=>i_gtr _ _ _ _ w) (by omega)),rfl,T0⟩ [(0,_),(2,_),(3,_),(15,.val (Value.bool false))] [(2,_),(3,_)] (fun a w h=>?_)
 refine go_cond h false rfl (fun ht=>?_) (fun hf=>?_)
 case refine_1=>cases ht
 refine wp_skip ?_
 refine then_norm ?_
 refine aX h [1,2,3] [eS 18 _,eS 19 (.val (Value.pointer (some ⟨b,o+3,none⟩))),eS 20 (.val (Value.int .u8 ((f 3:Nat):Int))),eS 21 (.val (Value.int .i64 ((f 3:Nat):Int))),eS 5 _] ⟨rfl,fun L u=>u_atX u (gd0 rfl) 19 rfl 25 (.tmp 18) (.const (.int .i64 3)) rfl rfl (k:=3) rfl Tryz.underlying25 i5 (by omega) (o+3) rfl,fun L u=>u_loadX u (gd0 rfl) 20 rfl 5 (.tmp 19) rfl rfl Tryz.underlying5 rfl (Value.int .u8 ((f 3:Nat):Int)) (hrd.c 3 (by omega)) rfl,fun L u=>u_conv u (gd0 rfl) 21 rfl 5 3 (.tmp 20) rfl rfl (Value.int .i64 ((f 3:Nat):Int)) (fun w=>c_int _ ⟨by omega,by omega⟩ w),rfl,T0⟩ [(0,_),(2,_),(3,_),(5,.val (Value.int .i64 ((f 3:Nat):Int)))] [(2,_),(3,_)] (fun a w h=>?_)
 refine wp_seq ?_
 refine aX h [1,3,4] [eS 22 _,eS 23 (.val (Value.int .i64 ((6+f 3:Nat):Int))),eS 24 _,eS 25 (.val (Value.int .i64 ((n:Nat):Int))),eS 26 (.val (Value.bool true))] ⟨rfl,fun L u=>u_bin u (gd0 rfl) _ rfl _ _ _ _ _ rfl rfl rfl (eqg_int _ _ _ _ _ _ _ _) _ (fun w=>i_add _ _ _ _ (by omega) ⟨by omega,by omega⟩ w),rfl,fun L u=>u_lenV u (gd0 rfl) 25 rfl (.tmp 24) 25 rfl rfl Tryz.underlying25,fun L u=>u_bin u (gd0 rfl) _ rfl _ _ _ _ _ rfl rfl rfl (eqg_int _ _ _ _ _ _ _ _) _ (yes_of (fun w=>i_gtr _ _ _ _ w) (by omega)),T0⟩ [(0,_),(2,_),(3,_),(5,_),(26,.val (Value.bool true))] [(2,_),(3,_)] (fun a w h=>?_)
 refine go_cond h true rfl (fun ht=>?_) (fun hf=>?_)
 case refine_2=>cases hf
 refine aX h [0,1] [eS 27 (.val (.agg (nz).toArray)),eS 28 (.val (.agg (nz).toArray)),eM 2 _,eM 3 _,eS 4 _] ⟨fun L u=>u_build u (gd0 rfl) 27 rfl 24 #[] rfl [] rfl (nz) (n_b0),fun L u=>u_build u (gd0 rfl) 28 rfl 24 #[] rfl [] rfl (nz) (n_b0),rfl,rfl,rfl,T0⟩ [(2,_),(3,_),(4,.val (Value.bool false))] [(2,_),(3,_)] (fun a w h=>?_)
 refine wp_ret ?_
 refine then_ret ?_
 refine ret_three h _ _ _ rfl (ans_row (cs:=nz) 2 (lk rfl) 24 rfl rfl Tryz.underlying24 rfl i24) (ans_row (cs:=nz) 3 (lk rfl) 24 rfl rfl Tryz.underlying24 rfl i24) (ans_tmp (v:=Value.bool false) 4 (lk rfl) rfl) ?_
 exact ⟨rfl,h.grows⟩
theorem refDec_yes {b o n c:Nat} {f:Nat→Nat} {w:World} (hba:BA w (some ⟨b,o,none⟩) n f) (hrd:Rd w b o n (fun i=>((f i:Nat):Int))) (h1:8≤n) (h2:n≤72) (hf3:f 3<256) (h3:6+f 3≤n) (hc:n≤c) {R S:Nat} (hR:num (fl (fun i=>f (4+i)) (f 3)) % 2 ^ 256=R) (hS:num (fl (fun i=>f (6+f 3+i)) (n-(6+f 3))) % 2 ^ 256=S) (hR2:R<2 ^ 256) (hS2:S<2 ^ 256) (hmR:msz R≤33) (hmS:msz S≤33) (hE:dE R S=fl f n):Calls Tryz.prog 18 [Value.slice (some ⟨b,o,none⟩) (n) (c)].toArray w fun e w'=>e=.returned (.tuple [.agg (nc ((R:Nat):Int)).toArray,.agg (nc ((S:Nat):Int)).toArray,.bool true].toArray)∧Below w.heap.size w w':=by
 refine enter (args:=[Value.slice (some ⟨b,o,none⟩) (n) (c)]) Tryz.func18 rfl 49 rfl (lk rfl) (fun a h=>?_)
 refine aX h [] [eN 2 _,eN 3 _,eS 4 _] ⟨rfl,rfl,rfl,T0⟩ [(0,.val (Value.slice (some ⟨b,o,none⟩) (n) (c))),(2,.ptr 2 0),(3,.ptr 3 0)] [(2,nz),(3,nz)] (fun a w h=>?_)
 refine wp_seq ?_
 refine aX h [1,2,5,6] [eS 8 _,eS 9 (.val (Value.int .i64 ((n:Nat):Int))),eS 10 (.val (Value.bool false)),eS 11 _,eS 12 _,eS 13 (.val (Value.int .i64 ((n:Nat):Int))),eS 14 (.val (Value.bool false)),eS 15 _] ⟨rfl,fun L u=>u_lenV u (gd0 rfl) 9 rfl (.tmp 8) 25 rfl rfl Tryz.underlying25,fun L u=>u_bin u (gd0 rfl) _ rfl _ _ _ _ _ rfl rfl rfl (eqg_int _ _ _ _ _ _ _ _) _ (no_of (fun w=>i_lss _ _ _ _ w) (by omega)),rfl,rfl,fun L u=>u_lenV u (gd1 u 3 false rfl 11 rfl (lk rfl) rfl) 13 rfl (.tmp 12) 25 rfl rfl Tryz.underlying25,fun L u=>u_bin u (gd1 u 3 false rfl 11 rfl (lk rfl) rfl) _ rfl _ _ _ _ _ rfl rfl rfl (eqg_int _ _ _ _ _ _ _ _) _ (no_of (fun w=>i_gtr _ _ _ _ w) (by omega)),rfl,T0⟩ [(0,_),(2,_),(3,_),(15,.val (Value.bool false))] [(2,_),(3,_)] (fun a w h=>?_)
 refine go_cond h false rfl (fun ht=>?_) (fun hf=>?_)
 case refine_1=>cases ht
 refine wp_skip ?_
 refine then_norm ?_
 refine aX h [1,2,3] [eS 18 _,eS 19 (.val (Value.pointer (some ⟨b,o+3,none⟩))),eS 20 (.val (Value.int .u8 ((f 3:Nat):Int))),eS 21 (.val (Value.int .i64 ((f 3:Nat):Int))),eS 5 _] ⟨rfl,fun L u=>u_atX u (gd0 rfl) 19 rfl 25 (.tmp 18) (.const (.int .i64 3)) rfl rfl (k:=3) rfl Tryz.underlying25 i5 (by omega) (o+3) rfl,fun L u=>u_loadX u (gd0 rfl) 20 rfl 5 (.tmp 19) rfl rfl Tryz.underlying5 rfl (Value.int .u8 ((f 3:Nat):Int)) (hrd.c 3 (by omega)) rfl,fun L u=>u_conv u (gd0 rfl) 21 rfl 5 3 (.tmp 20) rfl rfl (Value.int .i64 ((f 3:Nat):Int)) (fun w=>c_int _ ⟨by omega,by omega⟩ w),rfl,T0⟩ [(0,_),(2,_),(3,_),(5,.val (Value.int .i64 ((f 3:Nat):Int)))] [(2,_),(3,_)] (fun a w h=>?_)
 refine wp_seq ?_
 refine aX h [1,3,4] [eS 22 _,eS 23 (.val (Value.int .i64 ((6+f 3:Nat):Int))),eS 24 _,eS 25 (.val (Value.int .i64 ((n:Nat):Int))),eS 26 (.val (Value.bool false))] ⟨rfl,fun L u=>u_bin u (gd0 rfl) _ rfl _ _ _ _ _ rfl rfl rfl (eqg_int _ _ _ _ _ _ _ _) _ (fun w=>i_add _ _ _ _ (by omega) ⟨by omega,by omega⟩ w),rfl,fun L u=>u_lenV u (gd0 rfl) 25 rfl (.tmp 24) 25 rfl rfl Tryz.underlying25,fun L u=>u_bin u (gd0 rfl) _ rfl _ _ _ _ _ rfl rfl rfl (eqg_int _ _ _ _ _ _ _ _) _ (no_of (fun w=>i_gtr _ _ _ _ w) (by omega)),T0⟩ [(0,_),(2,_),(3,_),(5,_),(26,.val (Value.bool false))] [(2,_),(3,_)] (fun a w h=>?_)
 refine go_cond h false rfl (fun ht=>?_) (fun hf=>?_)
 case refine_1=>cases ht
 refine wp_skip ?_
 refine then_norm ?_
 refine aX h [2,3,4,7,8,9] [eS 29 _,eS 30 _,eS 31 (.val (Value.int .i64 ((4+f 3:Nat):Int))),eS 32 (.val (Value.slice (cutA (some ⟨b,o,none⟩) c 4) (f 3) (c-4))),eS 33 (.val (.agg (nc (((R:Nat):Int))).toArray)),eS 34 _,eS 35 _,eS 36 (.val (Value.int .i64 ((6+f 3:Nat):Int))),eS 37 (.val (Value.slice (cutA (some ⟨b,o,none⟩) c (6+f 3)) (n-(6+f 3)) (c-(6+f 3)))),eS 38 (.val (.agg (nc (((S:Nat):Int))).toArray)),eN 6 _,eN 7 _,eM 6 _,eM 7 _] ⟨rfl,rfl,fun L u=>u_bin u (gd0 rfl) _ rfl _ _ _ _ _ rfl rfl rfl (eqg_int _ _ _ _ _ _ _ _) _ (fun w=>i_add _ _ _ _ (by omega) ⟨by omega,by omega⟩ w),fun L u=>u_part2 u (gd0 rfl) 32 rfl 25 (.tmp 29) (.const (.int .i64 4)) (.tmp 31) rfl rfl rfl rfl (Value.slice (cutA (some ⟨b,o,none⟩) c 4) (f 3) (c-4)) (fun w=>by have g:=run_midS (a:=some ⟨b,o,none⟩) (n:=n) (c:=c) (k:=4) (m:=4+f 3) (by omega) (by omega) w;rw [Nat.add_sub_cancel_left] at g;exact g),fun L u=>u_call u (gd0 rfl) _ rfl _ _ _ rfl [_] rfl (cE41 _) (.agg (nc (((R:Nat):Int))).toArray) (fun w hb=>by have g:=refNum_any (w:=w) (c:=c-4) ((hba.keep (Bs.kp_of hb)).cut c 4 (f 3) (by omega) hc) (by omega);rw [hR] at g;exact g),rfl,rfl,fun L u=>u_bin u (gd0 rfl) _ rfl _ _ _ _ _ rfl rfl rfl (eqg_int _ _ _ _ _ _ _ _) _ (fun w=>i_add _ _ _ _ (by omega) ⟨by omega,by omega⟩ w),fun L u=>u_partT u (gd0 rfl) 37 rfl 25 (.tmp 34) (.tmp 36) rfl rfl rfl (Value.slice (cutA (some ⟨b,o,none⟩) c (6+f 3)) (n-(6+f 3)) (c-(6+f 3))) (fun w=>run_fromS (by omega) w),fun L u=>u_call u (gd0 rfl) _ rfl _ _ _ rfl [_] rfl (cE41 _) (.agg (nc (((S:Nat):Int))).toArray) (fun w hb=>by have g:=refNum_any (w:=w) (c:=c-(6+f 3)) ((hba.keep (Bs.kp_of hb)).cut c (6+f 3) (n-(6+f 3)) (by omega) hc) (by omega);rw [hS] at g;exact g),rfl,rfl,rfl,rfl,T0⟩ [(0,_),(2,_),(3,_),(6,.ptr 6 0),(7,.ptr 7 0)] [(2,_),(3,_),(6,nc (((R:Nat):Int))),(7,nc (((S:Nat):Int)))] (fun a w h=>?_)
 refine wp_seq ?_
 refine aX h [2,4] [eS 39 _,eS 40 _,eQ 41 (rowPd 5 1 (msz R+msz S+6) (cells8 (dE R S))),eS 42 _,eS 43 (.val (Value.bool true)),eS 44 _] ⟨rfl,rfl,fun L u=>u_callQ u (gd0 rfl) 41 rfl rfl 21 #[(.tmp 39),(.tmp 40)] #[24,24] rfl [.val (.agg (nc (((R:Nat):Int))).toArray),.val (.agg (nc (((S:Nat):Int))).toArray)] rfl (fun vs w=>callFunc_enter Tryz.func21 (by kernel_rfl) (by kernel_rfl) vs w) (rowPd 5 1 (msz R+msz S+6) (cells8 (dE R S))) (fun β a w hr=>thing_of (refEnc_any hR2 hS2 _)),rfl,fun L u=>u_callR u (gd0 rfl) 43 rfl 11 #[(.tmp 41),(.tmp 42)] #[25,25] rfl [.unk 41 id,.val (Value.slice (some ⟨b,o,none⟩) (n) (c))] rfl (fun vs w=>callFunc_enter Tryz.func11 (by kernel_rfl) (by kernel_rfl) vs w) (Value.bool true) (fun β a w hr=>by obtain ⟨z,c2,hv,_,hlen,hb2⟩:=row_ba (hr.thing (x:=41) (p:=rowPd 5 1 (msz R+msz S+6) (cells8 (dE R S))) (u.q rfl)) (dE_lt hR2 hS2);show Calls _ _ [(β 41).v,.slice (some ⟨b,o,none⟩) n c].toArray _ _;rw [hv];have g:=same_fl (c:=c2) (c2:=c) hb2 (hba.keep (Bs.kp_of hr.bl)) (by omega);rw [fl_getD hlen,decide_eq_true hE] at g;exact g),rfl,T0⟩ [(2,_),(3,_),(6,_),(7,_),(44,.val (Value.bool false))] [(2,_),(3,_),(6,_),(7,_)] (fun a w h=>?_)
 refine go_cond h false rfl (fun ht=>?_) (fun hf=>?_)
 case refine_1=>cases ht
 refine wp_skip ?_
 refine then_norm ?_
 refine aX h [] [eS 47 _,eS 48 _,eM 2 _,eM 3 _,eS 4 _] ⟨rfl,rfl,rfl,rfl,rfl,T0⟩ [(2,_),(3,_),(4,.val (Value.bool true))] [(2,nc (((R:Nat):Int))),(3,nc (((S:Nat):Int)))] (fun a w h=>?_)
 refine wp_ret ?_
 refine ret_three h _ _ _ rfl (ans_row (cs:=nc (((R:Nat):Int))) 2 (lk rfl) 24 rfl rfl Tryz.underlying24 rfl i24) (ans_row (cs:=nc (((S:Nat):Int))) 3 (lk rfl) 24 rfl rfl Tryz.underlying24 rfl i24) (ans_tmp (v:=Value.bool true) 4 (lk rfl) rfl) ?_
 exact ⟨rfl,h.grows⟩
theorem refDec_no {b o n c:Nat} {f:Nat→Nat} {w:World} (hba:BA w (some ⟨b,o,none⟩) n f) (hrd:Rd w b o n (fun i=>((f i:Nat):Int))) (h1:8≤n) (h2:n≤72) (hf3:f 3<256) (h3:6+f 3≤n) (hc:n≤c) {R S:Nat} (hR:num (fl (fun i=>f (4+i)) (f 3)) % 2 ^ 256=R) (hS:num (fl (fun i=>f (6+f 3+i)) (n-(6+f 3))) % 2 ^ 256=S) (hR2:R<2 ^ 256) (hS2:S<2 ^ 256) (hmR:msz R≤33) (hmS:msz S≤33) (hE:¬ dE R S=fl f n):Calls Tryz.prog 18 [Value.slice (some ⟨b,o,none⟩) (n) (c)].toArray w fun e w'=>e=.returned (.tuple [.agg nz.toArray,.agg nz.toArray,.bool false].toArray)∧Below w.heap.size w w':=by
 refine enter (args:=[Value.slice (some ⟨b,o,none⟩) (n) (c)]) Tryz.func18 rfl 49 rfl (lk rfl) (fun a h=>?_)
 refine aX h [] [eN 2 _,eN 3 _,eS 4 _] ⟨rfl,rfl,rfl,T0⟩ [(0,.val (Value.slice (some ⟨b,o,none⟩) (n) (c))),(2,.ptr 2 0),(3,.ptr 3 0)] [(2,nz),(3,nz)] (fun a w h=>?_)
 refine wp_seq ?_
 refine aX h [1,2,5,6] [eS 8 _,eS 9 (.val (Value.int .i64 ((n:Nat):Int))),eS 10 (.val (Value.bool false)),eS 11 _,eS 12 _,eS 13 (.val (Value.int .i64 ((n:Nat):Int))),eS 14 (.val (Value.bool false)),eS 15 _] ⟨rfl,fun L u=>u_lenV u (gd0 rfl) 9 rfl (.tmp 8) 25 rfl rfl Tryz.underlying25,fun L u=>u_bin u (gd0 rfl) _ rfl _ _ _ _ _ rfl rfl rfl (eqg_int _ _ _ _ _ _ _ _) _ (no_of (fun w=>i_lss _ _ _ _ w) (by omega)),rfl,rfl,fun L u=>u_lenV u (gd1 u 3 false rfl 11 rfl (lk rfl) rfl) 13 rfl (.tmp 12) 25 rfl rfl Tryz.underlying25,fun L u=>u_bin u (gd1 u 3 false rfl 11 rfl (lk rfl) rfl) _ rfl _ _ _ _ _ rfl rfl rfl (eqg_int _ _ _ _ _ _ _ _) _ (no_of (fun w=>i_gtr _ _ _ _ w) (by omega)),rfl,T0⟩ [(0,_),(2,_),(3,_),(15,.val (Value.bool false))] [(2,_),(3,_)] (fun a w h=>?_)
 refine go_cond h false rfl (fun ht=>?_) (fun hf=>?_)
 case refine_1=>cases ht
 refine wp_skip ?_
 refine then_norm ?_
 refine aX h [1,2,3] [eS 18 _,eS 19 (.val (Value.pointer (some ⟨b,o+3,none⟩))),eS 20 (.val (Value.int .u8 ((f 3:Nat):Int))),eS 21 (.val (Value.int .i64 ((f 3:Nat):Int))),eS 5 _] ⟨rfl,fun L u=>u_atX u (gd0 rfl) 19 rfl 25 (.tmp 18) (.const (.int .i64 3)) rfl rfl (k:=3) rfl Tryz.underlying25 i5 (by omega) (o+3) rfl,fun L u=>u_loadX u (gd0 rfl) 20 rfl 5 (.tmp 19) rfl rfl Tryz.underlying5 rfl (Value.int .u8 ((f 3:Nat):Int)) (hrd.c 3 (by omega)) rfl,fun L u=>u_conv u (gd0 rfl) 21 rfl 5 3 (.tmp 20) rfl rfl (Value.int .i64 ((f 3:Nat):Int)) (fun w=>c_int _ ⟨by omega,by omega⟩ w),rfl,T0⟩ [(0,_),(2,_),(3,_),(5,.val (Value.int .i64 ((f 3:Nat):Int)))] [(2,_),(3,_)] (fun a w h=>?_)
 refine wp_seq ?_
 refine aX h [1,3,4] [eS 22 _,eS 23 (.val (Value.int .i64 ((6+f 3:Nat):Int))),eS 24 _,eS 25 (.val (Value.int .i64 ((n:Nat):Int))),eS 26 (.val (Value.bool false))] ⟨rfl,fun L u=>u_bin u (gd0 rfl) _ rfl _ _ _ _ _ rfl rfl rfl (eqg_int _ _ _ _ _ _ _ _) _ (fun w=>i_add _ _ _ _ (by omega) ⟨by omega,by omega⟩ w),rfl,fun L u=>u_lenV u (gd0 rfl) 25 rfl (.tmp 24) 25 rfl rfl Tryz.underlying25,fun L u=>u_bin u (gd0 rfl) _ rfl _ _ _ _ _ rfl rfl rfl (eqg_int _ _ _ _ _ _ _ _) _ (no_of (fun w=>i_gtr _ _ _ _ w) (by omega)),T0⟩ [(0,_),(2,_),(3,_),(5,_),(26,.val (Value.bool false))] [(2,_),(3,_)] (fun a w h=>?_)
 refine go_cond h false rfl (fun ht=>?_) (fun hf=>?_)
 case refine_1=>cases ht
 refine wp_skip ?_
 refine then_norm ?_
 refine aX h [2,3,4,7,8,9] [eS 29 _,eS 30 _,eS 31 (.val (Value.int .i64 ((4+f 3:Nat):Int))),eS 32 (.val (Value.slice (cutA (some ⟨b,o,none⟩) c 4) (f 3) (c-4))),eS 33 (.val (.agg (nc (((R:Nat):Int))).toArray)),eS 34 _,eS 35 _,eS 36 (.val (Value.int .i64 ((6+f 3:Nat):Int))),eS 37 (.val (Value.slice (cutA (some ⟨b,o,none⟩) c (6+f 3)) (n-(6+f 3)) (c-(6+f 3)))),eS 38 (.val (.agg (nc (((S:Nat):Int))).toArray)),eN 6 _,eN 7 _,eM 6 _,eM 7 _] ⟨rfl,rfl,fun L u=>u_bin u (gd0 rfl) _ rfl _ _ _ _ _ rfl rfl rfl (eqg_int _ _ _ _ _ _ _ _) _ (fun w=>i_add _ _ _ _ (by omega) ⟨by omega,by omega⟩ w),fun L u=>u_part2 u (gd0 rfl) 32 rfl 25 (.tmp 29) (.const (.int .i64 4)) (.tmp 31) rfl rfl rfl rfl (Value.slice (cutA (some ⟨b,o,none⟩) c 4) (f 3) (c-4)) (fun w=>by have g:=run_midS (a:=some ⟨b,o,none⟩) (n:=n) (c:=c) (k:=4) (m:=4+f 3) (by omega) (by omega) w;rw [Nat.add_sub_cancel_left] at g;exact g),fun L u=>u_call u (gd0 rfl) _ rfl _ _ _ rfl [_] rfl (cE41 _) (.agg (nc (((R:Nat):Int))).toArray) (fun w hb=>by have g:=refNum_any (w:=w) (c:=c-4) ((hba.keep (Bs.kp_of hb)).cut c 4 (f 3) (by omega) hc) (by omega);rw [hR] at g;exact g),rfl,rfl,fun L u=>u_bin u (gd0 rfl) _ rfl _ _ _ _ _ rfl rfl rfl (eqg_int _ _ _ _ _ _ _ _) _ (fun w=>i_add _ _ _ _ (by omega) ⟨by omega,by omega⟩ w),fun L u=>u_partT u (gd0 rfl) 37 rfl 25 (.tmp 34) (.tmp 36) rfl rfl rfl (Value.slice (cutA (some ⟨b,o,none⟩) c (6+f 3)) (n-(6+f 3)) (c-(6+f 3))) (fun w=>run_fromS (by omega) w),fun L u=>u_call u (gd0 rfl) _ rfl _ _ _ rfl [_] rfl (cE41 _) (.agg (nc (((S:Nat):Int))).toArray) (fun w hb=>by have g:=refNum_any (w:=w) (c:=c-(6+f 3)) ((hba.keep (Bs.kp_of hb)).cut c (6+f 3) (n-(6+f 3)) (by omega) hc) (by omega);rw [hS] at g;exact g),rfl,rfl,rfl,rfl,T0⟩ [(0,_),(2,_),(3,_),(6,.ptr 6 0),(7,.ptr 7 0)] [(2,_),(3,_),(6,nc (((R:Nat):Int))),(7,nc (((S:Nat):Int)))] (fun a w h=>?_)
 refine wp_seq ?_
 refine aX h [2,4] [eS 39 _,eS 40 _,eQ 41 (rowPd 5 1 (msz R+msz S+6) (cells8 (dE R S))),eS 42 _,eS 43 (.val (Value.bool false)),eS 44 _] ⟨rfl,rfl,fun L u=>u_callQ u (gd0 rfl) 41 rfl rfl 21 #[(.tmp 39),(.tmp 40)] #[24,24] rfl [.val (.agg (nc (((R:Nat):Int))).toArray),.val (.agg (nc (((S:Nat):Int))).toArray)] rfl (fun vs w=>callFunc_enter Tryz.func21 (by kernel_rfl) (by kernel_rfl) vs w) (rowPd 5 1 (msz R+msz S+6) (cells8 (dE R S))) (fun β a w hr=>thing_of (refEnc_any hR2 hS2 _)),rfl,fun L u=>u_callR u (gd0 rfl) 43 rfl 11 #[(.tmp 41),(.tmp 42)] #[25,25] rfl [.unk 41 id,.val (Value.slice (some ⟨b,o,none⟩) (n) (c))] rfl (fun vs w=>callFunc_enter Tryz.func11 (by kernel_rfl) (by kernel_rfl) vs w) (Value.bool false) (fun β a w hr=>by obtain ⟨z,c2,hv,_,hlen,hb2⟩:=row_ba (hr.thing (x:=41) (p:=rowPd 5 1 (msz R+msz S+6) (cells8 (dE R S))) (u.q rfl)) (dE_lt hR2 hS2);show Calls _ _ [(β 41).v,.slice (some ⟨b,o,none⟩) n c].toArray _ _;rw [hv];have g:=same_fl (c:=c2) (c2:=c) hb2 (hba.keep (Bs.kp_of hr.bl)) (by omega);rw [fl_getD hlen,decide_eq_false hE] at g;exact g),rfl,T0⟩ [(2,_),(3,_),(6,_),(7,_),(44,.val (Value.bool true))] [(2,_),(3,_),(6,_),(7,_)] (fun a w h=>?_)
 refine go_cond h true rfl (fun ht=>?_) (fun hf=>?_)
 case refine_2=>cases hf
 refine aX h [0,1] [eS 45 (.val (.agg (nz).toArray)),eS 46 (.val (.agg (nz).toArray)),eM 2 _,eM 3 _,eS 4 _] ⟨fun L u=>u_build u (gd0 rfl) 45 rfl 24 #[] rfl [] rfl (nz) (n_b0),fun L u=>u_build u (gd0 rfl) 46 rfl 24 #[] rfl [] rfl (nz) (n_b0),rfl,rfl,rfl,T0⟩ [(2,_),(3,_),(4,.val (Value.bool false))] [(2,_),(3,_)] (fun a w h=>?_)
 refine wp_ret ?_
 refine then_ret ?_
 refine ret_three h _ _ _ rfl (ans_row (cs:=nz) 2 (lk rfl) 24 rfl rfl Tryz.underlying24 rfl i24) (ans_row (cs:=nz) 3 (lk rfl) 24 rfl rfl Tryz.underlying24 rfl i24) (ans_tmp (v:=Value.bool false) 4 (lk rfl) rfl) ?_
 exact ⟨rfl,h.grows⟩
theorem refDec_any {A:Option Addr} {n c:Nat} {f:Nat→Nat} {w:World} (hba:BA w A n f) (hc:n≤c):Calls Tryz.prog 18 [.slice A n c].toArray w fun e w'=>e=.returned (dv (fl f n))∧Below w.heap.size w w':=by
 by_cases h8:n<8
 ·rw [dv_no (fun r s hr hs h=>by have:=dE_only hr hs h;omega)]
  exact refDec_short h8
 by_cases h72:72<n
 ·rw [dv_no (fun r s hr hs h=>by have:=dE_only hr hs h;omega)]
  exact refDec_long h72
 rcases hba.at_ with h0 | ⟨b,o,rfl,hrd⟩
 ·omega
 by_cases h3:n<6+f 3
 ·rw [dv_no (fun r s hr hs h=>by have:=dE_only hr hs h;omega)]
  exact refDec_over hba hrd (by omega) (by omega) (hba.lt 3) h3
 ·have hR2:num (fl (fun i=>f (4+i)) (f 3)) % 2 ^ 256<2 ^ 256:=Nat.mod_lt _ (Nat.pow_pos (by decide))
  have hS2:num (fl (fun i=>f (6+f 3+i)) (n-(6+f 3))) % 2 ^ 256<2 ^ 256:=Nat.mod_lt _ (Nat.pow_pos (by decide))
  by_cases hE:dE (num (fl (fun i=>f (4+i)) (f 3)) % 2 ^ 256) (num (fl (fun i=>f (6+f 3+i)) (n-(6+f 3))) % 2 ^ 256)=fl f n
  ·rw [dv_yes hR2 hS2 hE]
   exact refDec_yes hba hrd (by omega) (by omega) (hba.lt 3) (by omega) hc rfl rfl hR2 hS2 (msz_spec hR2).2.2.2 (msz_spec hS2).2.2.2 hE
  ·rw [dv_no (fun r s hr hs h=>by
    have q:=dE_only hr hs h
    rw [← q.2.2.2.1,← q.2.2.2.2] at h
    exact hE h)]
   exact refDec_no hba hrd (by omega) (by omega) (hba.lt 3) (by omega) hc rfl rfl hR2 hS2 (msz_spec hR2).2.2.2 (msz_spec hS2).2.2.2 hE
end Go.Proofs.YtmigakanbeckpaaGreatDoor.De
namespace Go.Proofs.YtmigakanbeckpaaGreatDoor.De
set_option maxRecDepth 100000
open Go.RowKit
theorem cE71 (vs:List Value):∀ w,(callFunc 71 vs.toArray).run Tryz.prog w=.ok (.enter 71 vs.toArray) w:=callFunc_enter Tryz.func71 (by kernel_rfl) (by kernel_rfl) _
theorem catch_idle {g2 g3 g4:Nat} (w:World):CallsD Tryz.prog 71 [.pointer (some ⟨g2,0,none⟩),.pointer (some ⟨g3,0,none⟩),.pointer (some ⟨g4,0,none⟩)].toArray .returning w fun e u' w'=>e=.returned (.tuple #[])∧u'=.returning∧w'=w:=by
 refine callsD_of_wpS Tryz.func71 rfl fun c₀ cs hu=>?_
 apply wpS_seq
 apply wpS_region
 simp [wpOpsS,go_sem,recoverD,hu,Tryz.ntmps71,Exit.thenS]
 refine wpS_cond (t:=false) (by simp [Act.eval,Array.replicate]) ?_
 simp only [Bool.false_eq_true,if_false]
 refine wpS_of_wp (wp_skip ?_)
 cases c₀
 simp_all [bodyPostS,results,Tryz.results71]
theorem dec_some {w:World} {n c:Nat} {z:Option Addr} {f:Nat→Nat} (hba:BA w z n f) (hT:Tab w) (hnc:n≤c) (hn:n≤1000) (hp:PairOk f n) {R S:Nat} (hR:nV (fun i=>f (2+i))=R) (hS:nV (fun i=>f (4+f 3+i))=S):Calls Tryz.prog 36 [Value.slice (z) (n) (c)].toArray w fun e w'=>e=.returned (.tuple [.agg (nc ((R:Nat):Int)).toArray,.agg (nc ((S:Nat):Int)).toArray,.bool true].toArray)∧Below w.heap.size w w':=by
 refine enterD (args:=[Value.slice (z) (n) (c)]) Tryz.func36 rfl 13 rfl (lk rfl) (fun a h=>?_)
 refine aX h [] [eN 2 _,eN 3 _,eN 4 _] ⟨rfl,rfl,rfl,T0⟩ [(0,.val (Value.slice (z) (n) (c))),(2,.ptr 2 0),(3,.ptr 3 0),(4,.ptr 4 0)] [(2,nz),(3,nz),(4,[Value.bool false])] (fun a w h=>?_)
 obtain ⟨g2,h⟩:=h.fix 2 rfl rfl
 replace h:=h.keepQ [(0,.val (Value.slice (z) (n) (c))),(2,.val (Value.pointer (some ⟨g2,0,none⟩))),(3,.ptr 3 0),(4,.ptr 4 0)] [(3,nz),(4,[Value.bool false])] [(2,varPd g2 (nz))] ⟨rfl,rfl,rfl,rfl,trivial⟩ ⟨rfl,rfl,trivial⟩ ⟨rfl,trivial⟩ rfl
 obtain ⟨g3,h⟩:=h.fix 3 rfl rfl
 replace h:=h.keepQ [(0,.val (Value.slice (z) (n) (c))),(2,.val (Value.pointer (some ⟨g2,0,none⟩))),(3,.val (Value.pointer (some ⟨g3,0,none⟩))),(4,.ptr 4 0)] [(4,[Value.bool false])] [(2,varPd g2 (nz)),(3,varPd g3 (nz))] ⟨rfl,rfl,rfl,rfl,trivial⟩ ⟨rfl,trivial⟩ ⟨rfl,rfl,trivial⟩ rfl
 obtain ⟨g4,h⟩:=h.fix 4 rfl rfl
 replace h:=h.keepQ [(0,.val (Value.slice (z) (n) (c))),(2,.val (Value.pointer (some ⟨g2,0,none⟩))),(3,.val (Value.pointer (some ⟨g3,0,none⟩))),(4,.val (Value.pointer (some ⟨g4,0,none⟩)))] [] [(2,varPd g2 (nz)),(3,varPd g3 (nz)),(4,varPd g4 ([Value.bool false]))] ⟨rfl,rfl,rfl,rfl,trivial⟩ trivial ⟨rfl,rfl,rfl,trivial⟩ rfl
 refine wp_seq ?_
 refine sq_begin [0,1] rfl ?_
 refine sq_step h (i:=0) rfl (u_func (xs:=[]) (up_seq (i:=0) (by kernel_rfl) rfl) (gd0 rfl) 5 rfl (.func 71) #[(.tmp 2),(.tmp 3),(.tmp 4)] rfl [Value.pointer (some ⟨g2,0,none⟩),Value.pointer (some ⟨g3,0,none⟩),Value.pointer (some ⟨g4,0,none⟩)] rfl) (fun a w h=>?_)
 refine sq_defer h (i:=1) rfl (gq0 rfl) (.tmp 5) #[] rfl rfl (cap:=[Value.pointer (some ⟨g2,0,none⟩),Value.pointer (some ⟨g3,0,none⟩),Value.pointer (some ⟨g4,0,none⟩)]) rfl (fun a h=>?_)
 replace h:=h.keepQ [(0,.val (Value.slice (z) (n) (c))),(2,.val (Value.pointer (some ⟨g2,0,none⟩))),(3,.val (Value.pointer (some ⟨g3,0,none⟩))),(4,.val (Value.pointer (some ⟨g4,0,none⟩)))] [] [(2,varPd g2 (nz)),(3,varPd g3 (nz)),(4,varPd g4 ([Value.bool false]))] ⟨rfl,rfl,rfl,rfl,trivial⟩ trivial ⟨rfl,rfl,rfl,trivial⟩ rfl
 refine sq_end ?_
 refine then_norm ?_
 refine wp_seq ?_
 refine sq_begin [0,1,2,3,4,5,6] rfl ?_
 refine sq_step h (i:=0) rfl (u_move (xs:=[]) (up_seq (i:=0) (by kernel_rfl) rfl) (gd0 rfl) 7 rfl (.tmp 0) (Or.inl rfl) rfl) (fun a w h=>?_)
 refine sq_step h (i:=1) rfl (u_call (xs:=[]) (up_seq (i:=1) (by kernel_rfl) rfl) (gd0 rfl) _ rfl _ _ _ rfl [_] rfl (cE72 _) (.tuple [.agg (nc (((R:Nat):Int))).toArray,.agg (nc (((S:Nat):Int))).toArray].toArray) (fun w hb=>by have q:=pair_ok (w:=w) (hba.keep (Bs.kp_d hb)) (hT.keep (Bs.kp_d hb)) hnc hn hp;rw [hR,hS] at q;exact q)) (fun a w h=>?_)
 refine sq_step h (i:=2) rfl (u_move (xs:=[]) (up_seq (i:=2) (by kernel_rfl) rfl) (gd0 rfl) 6 rfl (.tmp 8) (Or.inl rfl) rfl) (fun a w h=>?_)
 refine sq_step h (i:=3) rfl (u_part (xs:=[]) (up_seq (i:=3) (by kernel_rfl) rfl) (gd0 rfl) 9 rfl (.tmp 6) 0 rfl (vs:=[.agg (nc (((R:Nat):Int))).toArray,.agg (nc (((S:Nat):Int))).toArray]) rfl _ rfl) (fun a w h=>?_)
 refine sq_step h (i:=4) rfl (u_part (xs:=[]) (up_seq (i:=4) (by kernel_rfl) rfl) (gd0 rfl) 10 rfl (.tmp 6) 1 rfl (vs:=[.agg (nc (((R:Nat):Int))).toArray,.agg (nc (((S:Nat):Int))).toArray]) rfl _ rfl) (fun a w h=>?_)
 refine sq_step h (i:=5) rfl (u_storeF (xs:=[]) (up_seq (i:=5) (by kernel_rfl) rfl) (gd0 rfl) 24 (.tmp 2) (.tmp 9) rfl rfl rfl 2 rfl (vs:=nc (((R:Nat):Int))) rfl i24 (lk rfl) rfl _ rfl) (fun a w h=>?_)
 refine sq_step h (i:=6) rfl (u_storeF (xs:=[]) (up_seq (i:=6) (by kernel_rfl) rfl) (gd0 rfl) 24 (.tmp 3) (.tmp 10) rfl rfl rfl 3 rfl (vs:=nc (((S:Nat):Int))) rfl i24 (lk rfl) rfl _ rfl) (fun a w h=>?_)
 replace h:=h.keepQ [(2,.val (Value.pointer (some ⟨g2,0,none⟩))),(3,.val (Value.pointer (some ⟨g3,0,none⟩))),(4,.val (Value.pointer (some ⟨g4,0,none⟩)))] [] [(2,varPd g2 (nc (((R:Nat):Int)))),(3,varPd g3 (nc (((S:Nat):Int)))),(4,varPd g4 ([Value.bool false]))] ⟨rfl,rfl,rfl,trivial⟩ trivial ⟨rfl,rfl,rfl,trivial⟩ rfl
 refine sq_end ?_
 refine then_norm ?_
 refine aXQ h [0,1,2,3,4] [eS 11 (.val (.agg (nc (((R:Nat):Int))).toArray)),eS 12 (.val (.agg (nc (((S:Nat):Int))).toArray)),eV 2 (varPd g2 (nc (((R:Nat):Int)))),eV 3 (varPd g3 (nc (((S:Nat):Int)))),eV 4 (varPd g4 ([Value.bool true]))] ⟨fun L u=>u_loadF u (gd0 rfl) 11 rfl 24 (.tmp 2) rfl rfl 2 rfl Tryz.underlying24 rfl i24 (lk rfl) _ rfl,fun L u=>u_loadF u (gd0 rfl) 12 rfl 24 (.tmp 3) rfl rfl 3 rfl Tryz.underlying24 rfl i24 (lk rfl) _ rfl,fun L u=>u_storeF u (gd0 rfl) 24 (.tmp 2) (.tmp 11) rfl rfl rfl 2 rfl (vs:=nc (((R:Nat):Int))) rfl i24 (lk rfl) rfl _ rfl,fun L u=>u_storeF u (gd0 rfl) 24 (.tmp 3) (.tmp 12) rfl rfl rfl 3 rfl (vs:=nc (((S:Nat):Int))) rfl i24 (lk rfl) rfl _ rfl,fun L u=>u_storeF1 u (gd0 rfl) 4 (.tmp 4) (.const (.bool true)) rfl rfl rfl 4 rfl rfl i4 (lk rfl) rfl _ rfl,T0⟩ [(2,_),(3,_),(4,_)] [] [(2,varPd g2 (nc (((R:Nat):Int)))),(3,varPd g3 (nc (((S:Nat):Int)))),(4,varPd g4 ([Value.bool true]))] (fun a w h=>?_)
 refine wp_ret ?_
 have T2:=h.told (x:=2) rfl;have T3:=h.told (x:=3) rfl;have T4:=h.told (x:=4) rfl;exact leave_ret h rfl (cE71 _) (catch_idle _) (res_three (c1:=nc (((R:Nat):Int))) (c2:=nc (((S:Nat):Int))) (v:=Value.bool true) rfl (h.slot (d:=2) (lk rfl) rfl) (h.slot (d:=3) (lk rfl) rfl) (h.slot (d:=4) (lk rfl) rfl) T2.1 T3.1 T4.1 Tryz.underlying24 rfl i24 rfl Tryz.underlying4 rfl) ⟨rfl,Bs.kp_d h.below⟩
theorem fl_split (f:Nat→Nat) {a b n:Nat} (h:a+b=n):fl f n=fl f a++fl (fun i=>f (a+i)) b:=by
 rw [← h,fl_cat]
 exact fl_same (fun i hi=>by
  unfold cat
  split
  ·rfl
  ·show f i=f (a+(i-a))
   rw [show a+(i-a)=i by omega])
theorem pair_yes {f:Nat→Nat} {n:Nat} (h:PairOk f n):dE (nV (fun i=>f (2+i))) (nV (fun i=>f (4+f 3+i)))=fl f n:=by
 obtain ⟨h1,h2,h3,h4,h5,h6⟩:=h
 obtain ⟨p1,p2,p3,p4⟩:=h4
 obtain ⟨q1,q2,q3,q4⟩:=h5
 have e3:f (4+f 3+1)=f (5+f 3):=n3_at f
 have mR:msz (nV (fun i=>f (2+i)))=f 3:=by
  have:=congrArg List.length p4
  rw [fl_len,be_len] at this
  exact this.symm
 have mS:msz (nV (fun i=>f (4+f 3+i)))=f (5+f 3):=by
  have:=congrArg List.length q4
  rw [fl_len,be_len] at this
  exact this.symm.trans e3
 rw [dE_eq,mR,mS]
 rw [mR] at p4
 rw [mS] at q4
 have w1:fl f n=[f 0,f 1]++([f 2,f 3]++(fl (fun i=>f (2+(2+i))) (f 3)++([f (4+f 3),f (5+f 3)]++fl (fun i=>f (4+f 3+(2+i))) (f (5+f 3))))):=by
  rw [fl_split f (a:=2) (b:=n-2) (by omega),fl_split (fun i=>f (2+i)) (a:=2) (b:=n-4) (by omega),fl_split (fun i=>f (2+(2+i))) (a:=f 3) (b:=n-4-f 3) (by omega),fl_split (fun i=>f (2+(2+(f 3+i)))) (a:=2) (b:=f (5+f 3)) (by omega)]
  have a1:fl f 2=[f 0,f 1]:=rfl
  have a2:fl (fun i=>f (2+i)) 2=[f 2,f 3]:=rfl
  have a3:fl (fun i=>f (2+(2+(f 3+i)))) 2=[f (4+f 3),f (5+f 3)]:=by
   show [f (2+(2+(f 3+0))),f (2+(2+(f 3+1)))]=_
   rw [show 2+(2+(f 3+0))=4+f 3 by omega,show 2+(2+(f 3+1))=5+f 3 by omega]
  have a4:(fun i=>f (2+(2+(f 3+(2+i)))))=fun i=>f (4+f 3+(2+i)):=funext fun i=>by rw [show 2+(2+(f 3+(2+i)))=4+f 3+(2+i) by omega]
  rw [a1,a2,a3,a4]
 rw [w1]
 have p2':f 2=2:=p2
 have q2':f (4+f 3)=2:=q2
 have p4':fl (fun i=>f (2+(2+i))) (f 3)=be (nV (fun i=>f (2+i))) (f 3):=p4
 have q4':fl (fun i=>f (4+f 3+(2+i))) (f (5+f 3))=be (nV (fun i=>f (4+f 3+i))) (f (5+f 3)):=by
  have e:(fun i=>f (4+f 3+i)) 1=f (5+f 3):=n3_at f
  rw [e] at q4
  exact q4
 rw [p4',q4',h2,h3,p2',q2',show f 3+f (5+f 3)+4=n-2 by omega]
 rfl
theorem fl_of {f:Nat→Nat} {n i:Nat} {l:List Nat} (h:l=fl f n) (hi:i<n):f i=l.getD i 0:=by
 rw [h,List.getD_eq_getElem?_getD,fl_at f hi]
 rfl
theorem pair_no {f:Nat→Nat} {n:Nat} {r s:Nat} (hr:r<2 ^ 256) (hs:s<2 ^ 256) (h:dE r s=fl f n):PairOk f n:=by
 obtain ⟨k1,k2,k3,k4,k5⟩:=dE_only hr hs h
 have hlen:n=msz r+msz s+6:=by rw [← dE_len,h,fl_len]
 have e:=dE_eq r s
 have f0:f 0=48:=by rw [fl_of h (by omega),e];rfl
 have f1:f 1=msz r+msz s+4:=by rw [fl_of h (by omega),e];rfl
 have f2:f 2=2:=by rw [fl_of h (by omega),e];rfl
 have f3:f 3=msz r:=by rw [fl_of h (by omega),e];rfl
 have tl:∀ k,(dE r s).getD (4+f 3+k) 0=(2 :: msz s :: be s (msz s)).getD k 0:=fun k=>by
  rw [e,f3,List.getD_eq_getElem?_getD,List.getD_eq_getElem?_getD]
  show (48 :: (msz r+msz s+4) :: 2 :: msz r :: (be r (msz r)++2 :: msz s :: be s (msz s)))[4+msz r+k]?.getD 0=_
  rw [show 4+msz r+k=(msz r+k)+1+1+1+1 by omega,List.getElem?_cons_succ,List.getElem?_cons_succ,List.getElem?_cons_succ,List.getElem?_cons_succ,List.getElem?_append_right (by rw [be_len];omega),be_len,show msz r+k-msz r=k by omega]
 have hsz:=(msz_spec hs).2.2.1
 have f4:f (4+f 3)=2:=by rw [fl_of h (i:=4+f 3) (by omega)];exact tl 0
 have f5:f (5+f 3)=msz s:=by
  rw [fl_of h (i:=5+f 3) (by omega),show 5+f 3=4+f 3+1 by omega]
  exact tl 1
 have bR:fl (fun i=>f (4+i)) (f 3)=be r (msz r):=by
  have q:=dE_r r s
  rw [h,fl_cut (by omega),← f3] at q
  rw [f3] at q ⊢
  exact q
 have bS:fl (fun i=>f (6+f 3+i)) (f (5+f 3))=be s (msz s):=by
  have q:=dE_s r s
  rw [h,fl_tail (by omega),← f3,show n-(6+f 3)=f (5+f 3) by omega] at q
  exact q
 have vR:nV (fun i=>f (2+i))=r:=by
  have a1:(fun i=>f (2+(2+i)))=fun i=>f (4+i):=funext fun i=>by rw [show 2+(2+i)=4+i by omega]
  show num (fl (fun i=>f (2+(2+i))) (f 3)) % 2 ^ 256=r
  rw [a1,bR,be_msz hr,Nat.mod_eq_of_lt hr]
 have a5:(fun i=>f (4+f 3+(2+i)))=fun i=>f (6+f 3+i):=funext fun i=>by rw [show 4+f 3+(2+i)=6+f 3+i by omega]
 have e3:f (4+f 3+1)=f (5+f 3):=n3_at f
 have vS:nV (fun i=>f (4+f 3+i))=s:=by
  show num (fl (fun i=>f (4+f 3+(2+i))) (f (4+f 3+1))) % 2 ^ 256=s
  rw [a5,e3,bS,be_msz hs,Nat.mod_eq_of_lt hs]
 refine ⟨by omega,f0,by omega,⟨by omega,f2,?_,?_⟩,⟨by omega,f4,?_,?_⟩,by omega⟩
 ·show 2+f 3≤n-2
  omega
 ·rw [vR]
  have a1:(fun i=>f (2+(2+i)))=fun i=>f (4+i):=funext fun i=>by rw [show 2+(2+i)=4+i by omega]
  show fl (fun i=>f (2+(2+i))) (f 3)=_
  rw [a1];exact bR
 ·show 2+f (4+f 3+1)≤n-4-f 3
  omega
 ·rw [vS]
  show fl (fun i=>f (4+f 3+(2+i))) (f (4+f 3+1))=_
  rw [a5,e3];exact bS
end Go.Proofs.YtmigakanbeckpaaGreatDoor.De
namespace Go.Proofs.YtmigakanbeckpaaGreatDoor
set_option maxRecDepth 100000
open Go.RowKit
section
variable {P:Program} {W:Bs} {n:Nat} {ops:Array Oper} {i:Nat} {o:Oper} {σ:SS} {Q:Exit→Act→World→Prop} {rest:List Nat} {a:Act} {w:World}
end
section
variable {W:Bs} {n:Nat} {ops:Array Oper} {i:Nat} {o:Oper} {σ:SS} {Q:Exit→Act→World→Prop} {rest:List Nat} {a:Act} {w:World}
end
end Go.Proofs.YtmigakanbeckpaaGreatDoor
namespace Go.Proofs.YtmigakanbeckpaaGreatDoor
set_option maxRecDepth 100000
open Go.RowKit
abbrev lw (i:Nat) (x:Int):Int:=L i x
def by32 (f:Nat→Int):List Value:=[.int .u8 (f 0),.int .u8 (f 1),.int .u8 (f 2),.int .u8 (f 3),.int .u8 (f 4),.int .u8 (f 5),.int .u8 (f 6),.int .u8 (f 7),.int .u8 (f 8),.int .u8 (f 9),.int .u8 (f 10),.int .u8 (f 11),.int .u8 (f 12),.int .u8 (f 13),.int .u8 (f 14),.int .u8 (f 15),.int .u8 (f 16),.int .u8 (f 17),.int .u8 (f 18),.int .u8 (f 19),.int .u8 (f 20),.int .u8 (f 21),.int .u8 (f 22),.int .u8 (f 23),.int .u8 (f 24),.int .u8 (f 25),.int .u8 (f 26),.int .u8 (f 27),.int .u8 (f 28),.int .u8 (f 29),.int .u8 (f 30),.int .u8 (f 31)]
end Go.Proofs.YtmigakanbeckpaaGreatDoor
namespace Go.Proofs.YtmigakanbeckpaaGreatDoor
open Go.RowKit
theorem hmX:Tryz.prog.follows .mixedOrders=true:=by kernel_rfl
theorem nb0X:Tryz.prog.built 24 []=some nz.toArray:=by kernel_rfl
theorem ba_sh {w:World} {z:Option Addr} {n:Nat} {f:Nat→Nat} (h:BA w z n f):Sh.BA w z n f:=⟨h.lt,h.at_.imp id fun ⟨b,o,e,hr⟩=>⟨b,o,e,⟨hr.c⟩⟩⟩
theorem hb_lt (s:Sh.St) (i:Nat):Sh.hByte s i<256:=Nat.mod_lt _ (by decide)
def zN (f:Nat→Nat) (n:Nat):Nat:=De.num (fl (Sh.hByte (Sh.hashS f n)) 32)
theorem num_natX {a:Nat} (h:a<2 ^ 256):Num (a:Int):=⟨by omega,by unfold M;omega⟩
theorem zN_lt (f:Nat→Nat) (n:Nat):zN f n<2 ^ 256:=by
 have h:=De.num_lt (fl_lt (f:=Sh.hByte (Sh.hashS f n)) (fun i=>hb_lt _ i) 32)
 rw [fl_len] at h
 exact Nat.lt_of_lt_of_le h (by decide)
theorem eq_z0 {a:Nat} (h:a<2 ^ 256) {t:Bool} (ht:decide (a=0)=t) (w:World):(Op.equalIn 10000 24 (.agg (nc (a:Int)).toArray) (.agg nz.toArray)).run Tryz.prog w=.ok t w:=by
 rw [nz_nc,eq_nc (num_natX h) ⟨by decide,by decide⟩,← ht]
 congr 1
 by_cases e:a=0
 ·rw [decide_eq_true e,decide_eq_true (by omega)]
 ·rw [decide_eq_false e,decide_eq_false (by omega)]
def wi (A:Nat):Bool:=decide (A≠0∧(A:Int)<md 1)
end Go.Proofs.YtmigakanbeckpaaGreatDoor
