/- What the nonces are: the program's own, and the document's. What is signed: the program's own, and the document's. What both Signs answer. What the document's own Right of layer 11 answers. -/
import Derived.Test.YtmigakanbeckpaaGreatDoorRm32
import Derived.Test.YtmigakanbeckpaaGreatDoorRm28
set_option maxRecDepth 100000
set_option maxHeartbeats 4000000
namespace Go.Proofs.YtmigakanbeckpaaGreatDoor
open Go.RowKit
def sdF (A z1:Nat):Nat→Nat:=fun i=>(De.be A 32++De.be z1 32).getD i 0
def nns (A z1:Nat):List Nat:=if wi A=true then kl (sdF A z1) 8 else []
theorem nns_yes {A z1:Nat} (h:wi A=true):nns A z1=kl (sdF A z1) 8:=if_pos h
theorem nns_no {A z1:Nat} (h:wi A=false):nns A z1=[]:=if_neg (by rw [h];decide)
theorem nns_wi (A z1:Nat):∀ k ∈ nns A z1,wi k=true:=fun k hk=>by
 unfold nns at hk
 split at hk
 ·exact kl_wi _ _ k hk
 ·cases hk
theorem nns_len (A z1:Nat):(nns A z1).length≤8:=by
 unfold nns
 split
 ·exact kl_len _ _
 ·exact Nat.zero_le _
theorem nr_nil (w:World):(nrPd []).p (.slice none 0 0) (fun _=>false) w:=⟨⟨rfl,Or.inl ⟨rfl,rfl⟩⟩,fun b=>by simp [Value.ownBlock]⟩
theorem qNon_no {w:World} (hT:Tab w) {A Z:Nat} (hA:A<2 ^ 256) (hwA:wi A=false):Calls Tryz.prog 30 [.agg (nc (((A:Nat):Int))).toArray,.agg (nc (((Z:Nat):Int))).toArray].toArray w fun e w'=>e=.returned (.slice none 0 0)∧Below w.heap.size w w':=by
 refine enter (args:=[.agg (nc (((A:Nat):Int))).toArray,.agg (nc (((Z:Nat):Int))).toArray]) Tryz.func30 rfl 31 rfl (lk rfl) (fun a h=>?_)
 refine aX h [] [eN 2 _,eN 3 _,eS 4 _] ⟨rfl,rfl,rfl,T0⟩ [(2,.ptr 2 0),(3,.ptr 3 0)] [(2,nc (((A:Nat):Int))),(3,nc (((Z:Nat):Int)))] (fun a w h=>?_)
 refine wp_seq ?_
 refine aX h [1] [eS 8 _,eS 9 (.val (Value.bool false)),eS 10 _] ⟨rfl,fun L u=>u_call u (gd0 rfl) _ rfl _ _ _ rfl [_] rfl (cT25 _) (Value.bool false) (fun w hb=>by have q:=qIn (hT.keep (Bs.kp_of hb)) hA;rw [hwA] at q;exact q),rfl,T0⟩ [(2,_),(3,_),(10,.val (Value.bool true))] [(2,_),(3,_)] (fun a w h=>?_)
 refine go_cond h true rfl (fun ht=>?_) (fun hf=>?_)
 case refine_2=>cases hf
 refine aX h [] [eS 4 _] ⟨rfl,T0⟩ [(4,.val ((Value.slice none 0 0)))] [] (fun a w h=>?_)
 refine wp_ret ?_
 refine then_ret ?_
 refine ret_slot h 4 rfl (lk rfl) ((Value.slice none 0 0)) rfl ?_
 exact ⟨rfl,h.grows⟩
theorem qNon_yes {w:World} (hT:Tab w) (hH:Sh.Tab w) {A Z z1:Nat} {g0:Nat→Nat} (hA:A<2 ^ 256) (hZ:Z<2 ^ 256) (hwA:wi A=true) (hz1:(Z:Int) % md 1=(z1:Int)) (hg0:(fun i=>(De.be A 32++De.be z1 32).getD i 0)=g0):Calls Tryz.prog 30 [.agg (nc (((A:Nat):Int))).toArray,.agg (nc (((Z:Nat):Int))).toArray].toArray w fun e w'=>∃ v Fp,e=.returned v∧(nrPd (kl g0 8)).p v Fp w'∧(∀ b,Fp b=true→w.heap.size≤b∧b<w'.heap.size)∧Below w.heap.size w w':=by
 refine enter (args:=[.agg (nc (((A:Nat):Int))).toArray,.agg (nc (((Z:Nat):Int))).toArray]) Tryz.func30 rfl 31 rfl (lk rfl) (fun a h=>?_)
 refine aX h [] [eN 2 _,eN 3 _,eS 4 _] ⟨rfl,rfl,rfl,T0⟩ [(2,.ptr 2 0),(3,.ptr 3 0)] [(2,nc (((A:Nat):Int))),(3,nc (((Z:Nat):Int)))] (fun a w h=>?_)
 refine wp_seq ?_
 refine aX h [1] [eS 8 _,eS 9 (.val (Value.bool true)),eS 10 _] ⟨rfl,fun L u=>u_call u (gd0 rfl) _ rfl _ _ _ rfl [_] rfl (cT25 _) (Value.bool true) (fun w hb=>by have q:=qIn (hT.keep (Bs.kp_of hb)) hA;rw [hwA] at q;exact q),rfl,T0⟩ [(2,_),(3,_),(10,.val (Value.bool false))] [(2,_),(3,_)] (fun a w h=>?_)
 refine go_cond h false rfl (fun ht=>?_) (fun hf=>?_)
 case refine_1=>cases ht
 refine wp_skip ?_
 refine then_norm ?_
 refine aXQ h [1,3,4,5,6,7] [eS 11 _,eQ 12 (rmPd 32 (De.be A 32)),eS 13 _,eS 14 (.val (.agg (nc (((z1:Nat):Int))).toArray)),eQ 15 (rmPd 32 (De.be z1 32)),eB 16 (twoG (rmPd 32 (De.be A 32)) (rmPd 32 (De.be z1 32))) 12 15,eQ 17 (stmPd (Sh.kvSeed g0 64) false),eS 5 (.unk 17 id)] ⟨rfl,fun L u=>u_callQ u (gd0 rfl) 12 rfl rfl 52 #[(.tmp 11)] #[24] rfl [.val (.agg (nc (((A:Nat):Int))).toArray)] rfl (fun vs w=>callFunc_enter Tryz.func52 (by kernel_rfl) (by kernel_rfl) vs w) (rmPd 32 (De.be A 32)) (fun β a w hr=>qPutBig A _),rfl,fun L u=>u_call u (gd0 rfl) _ rfl _ _ _ rfl [_,_] rfl (cT60 _) _ (fun w hb=>fold1 (hT.keep (Bs.kp_of hb)) hZ hz1),fun L u=>u_callQ u (gd0 rfl) 15 rfl rfl 52 #[(.tmp 14)] #[24] rfl [.val (.agg (nc (((z1:Nat):Int))).toArray)] rfl (fun vs w=>callFunc_enter Tryz.func52 (by kernel_rfl) (by kernel_rfl) vs w) (rmPd 32 (De.be z1 32)) (fun β a w hr=>qPutBig z1 _),fun L u=>u_twoG u (gd0 rfl) 16 rfl rfl (.tmp 12) (.tmp 15) rfl rfl rfl rfl rfl rfl rfl rfl vs_rm vs_rm,fun L u=>u_callQ u (gd0 rfl) 17 rfl rfl 59 #[(.tmp 16)] #[103] rfl [.unk 16 id] rfl (fun vs w=>callFunc_enter Tryz.func59 (by kernel_rfl) (by kernel_rfl) vs w) (stmPd (Sh.kvSeed g0 64) false) (fun β a w hr=>by have q:=qNew (hH.keep (Bs.kp_of hr.bl)) (by decide) (hr.thing (x:=16) (u.q rfl));rw [hg0] at q;exact q),fun L u=>u_copyQ u (gd0 rfl) 5 rfl (.tmp 17) (Or.inr rfl) rfl rfl,T0⟩ [(5,.unk 17 id)] [] [(17,stmPd (Sh.kvSeed g0 64) false)] (fun a w h=>?_)
 refine aXQ h [] [eS 6 _] ⟨rfl,T0⟩ [(5,_),(6,.val ((Value.slice none 0 0)))] [] [(17,stmPd (Sh.kvSeed g0 64) false)] (fun a w h=>?_)
 refine wp_seq ?_
 refine aXQ h [] [eS 18 _] ⟨rfl,T0⟩ [(5,_),(6,_),(18,.val ((Value.int IntKind.i64 0)))] [] [(17,stmPd (Sh.kvSeed g0 64) false)] (fun a w h=>?_)
 refine wp_block ?_
 replace h:=(h.nil 24 4 28 6 rfl rfl).keepQ [(5,.unk 17 id),(6,.unk 28 id),(18,.val ((Value.int IntKind.i64 0)))] [] [(17,stmPd (Sh.kvSeed g0 64) false),(28,rowPd 24 4 0 [])] ⟨rfl,rfl,rfl,trivial⟩ trivial ⟨rfl,rfl,trivial⟩ rfl
 refine go_loop (fun (k:Nat)=>SS.mkQ [(5,.unk 17 id),(6,.unk 28 id),(18,.val (Value.int .i64 ((k:Nat):Int)))] [] [(17,stmPd (Sh.kvAt g0 64 (k)) (decide (0<k))),(28,rowPd 24 4 ((kl g0 (k)).length) (ncl (kl g0 (k))))]) (fun k=>k≤8) (fun k=>8-k) (i:=0) (h.keepQ [(5,.unk 17 id),(6,.unk 28 id),(18,.val (Value.int .i64 ((0:Nat):Int)))] [] [(17,stmPd (Sh.kvAt g0 64 (0)) (decide (0<0))),(28,rowPd 24 4 ((kl g0 (0)).length) (ncl (kl g0 (0))))] ⟨rfl,rfl,rfl,T0⟩ T0 ⟨rfl,rfl,T0⟩ rfl) (Nat.zero_le _) (fun k a w hG h=>?_)
 by_cases hs:k<8
 ·skip
  have hkl:=kl_len g0 k
  refine aXQ h [0] [eS 19 (.val (Value.bool true))] ⟨fun L u=>u_bin u (gd0 rfl) _ rfl _ _ _ _ _ rfl rfl rfl (eqg_int _ _ _ _ _ _ _ _) _ (yes_of (fun w=>i_lss _ _ _ _ w) (by omega)),T0⟩ [(5,_),(6,_),(18,_),(19,.val (Value.bool true))] [] [(17,stmPd (Sh.kvAt g0 64 (k)) (decide (0<k))),(28,rowPd 24 4 ((kl g0 (k)).length) (ncl (kl g0 (k))))] (fun a w h=>?_)
  refine wp_seq ?_
  refine go_cond h true rfl (fun ht=>?_) (fun hf=>?_)
  case refine_2=>cases hf
  refine wp_skip ?_
  refine then_norm ?_
  refine wp_seq ?_
  refine wp_block ?_
  refine aXQ h [0,1,2] [eS 20 (.unk 17 id),eT 21 (.val (.agg (by32 (fun j=>(((Sh.kvAt g0 64 (k+1)).v j:Nat):Int))).toArray)) 17 (stmPd (Sh.kvAt g0 64 (k+1)) (decide (0<k+1))),eS 22 (.val (.agg (nc (((ks g0 k:Nat):Int))).toArray)),eN 7 _,eM 7 _] ⟨fun L u=>u_copyQ u (gd0 rfl) 20 rfl (.tmp 5) (Or.inl rfl) rfl rfl,fun L u=>u_callT u (gd0 rfl) 21 rfl 62 #[(.tmp 20)] #[78] rfl [.unk 17 id] rfl (fun vs w=>callFunc_enter Tryz.func62 (by kernel_rfl) (by kernel_rfl) vs w) 17 rfl (.agg (by32 (fun j=>(((Sh.kvAt g0 64 (k+1)).v j:Nat):Int))).toArray) (stmPd (Sh.kvAt g0 64 (k+1)) (decide (0<k+1))) (fun β a w hr=>qNextAt (hH.keep (Bs.kp_of hr.bl)) (hr.thing (x:=17) (u.q rfl))),fun L u=>u_call u (gd0 rfl) _ rfl _ _ _ rfl [_] rfl (cT61 _) _ (fun w hb=>qFH (fun j=>(kv_ok g0 (k+1)).2 j)),rfl,rfl,T0⟩ [(5,_),(6,_),(7,.ptr 7 0),(18,_)] [(7,nc (((ks g0 k:Nat):Int)))] [(17,stmPd (Sh.kvAt g0 64 (k+1)) (decide (0<k+1))),(28,rowPd 24 4 ((kl g0 (k)).length) (ncl (kl g0 (k))))] (fun a w h=>?_)
  by_cases hw:wi (ks g0 k)=true
  ·skip
   refine aXQ h [1] [eS 23 _,eS 24 (.val (Value.bool true))] ⟨rfl,fun L u=>u_call u (gd0 rfl) _ rfl _ _ _ rfl [_] rfl (cT25 _) (Value.bool true) (fun w hb=>by have q:=qIn (hT.keep (Bs.kp_of hb)) (ks_lt g0 k);rw [hw] at q;exact q),T0⟩ [(5,_),(6,_),(7,_),(18,_),(24,.val (Value.bool true))] [(7,_)] [(17,stmPd (Sh.kvAt g0 64 (k+1)) (decide (0<k+1))),(28,rowPd 24 4 ((kl g0 (k)).length) (ncl (kl g0 (k))))] (fun a w h=>?_)
   refine go_cond h true rfl (fun ht=>?_) (fun hf=>?_)
   case refine_2=>cases hf
   refine sq_begin [0,1,2,3,4] rfl ?_
   refine sq_step h (i:=0) rfl (u_copyQ (xs:=[]) (up_seq (i:=0) (by kernel_rfl) rfl) (gd0 rfl) 25 rfl (.tmp 6) (Or.inl rfl) rfl rfl) (fun a w h=>?_)
   refine sq_step h (i:=1) rfl (u_load (xs:=[]) (up_seq (i:=1) (by kernel_rfl) rfl) (gd0 rfl) 26 rfl 24 (.tmp 7) rfl rfl rfl Tryz.underlying24 rfl i24T (lk rfl) _ rfl) (fun a w h=>?_)
   refine sq_step h (i:=2) rfl (u_lit1 (xs:=[]) (up_seq (i:=2) (by kernel_rfl) rfl) (gd0 rfl) 27 rfl rfl 32 (.tmp 26) rfl rfl Tryz.underlying32 infoN1 (by decide) (by decide) (nc (((ks g0 k:Nat):Int))) rfl (by kernel_rfl)) (fun a w h=>?_)
   refine sq_appR (z:=.agg nz.toArray) Tryz.underlying32 infoN3 rfl (by decide) (by decide) h (i:=3) rfl (gq0 rfl) 28 rfl (.tmp 25) (.tmp 27) rfl 28 rfl (k:=(kl g0 (k)).length) (cs:=ncl (kl g0 (k))) rfl (Or.inl rfl) (m:=1) (news:=nc (((ks g0 k:Nat):Int))) rfl (nc_one _) (fun β hr=>by obtain ⟨p,c,e1,e2⟩:=row_src (hr.thing (x:=27) (p:=rowPd 24 4 (1) (nc (((ks g0 k:Nat):Int)))) rfl) (by decide);exact ⟨_,c,(hr.eval (v:=.unk 27 id) rfl).trans e1,e2⟩) (by omega) [(5,.unk 17 id),(18,.val (Value.int .i64 ((k:Nat):Int)))] ⟨rfl,rfl,T0⟩ rfl (fun a w h=>?_)
   replace h:=h.keepQ [(5,.unk 17 id),(18,.val (Value.int .i64 ((k:Nat):Int))),(28,.unk 28 id)] [] [(17,stmPd (Sh.kvAt g0 64 (k+1)) (decide (0<k+1))),(28,rowPd 24 4 ((kl g0 (k)).length+1) (ncl (kl g0 (k))++nc (((ks g0 k:Nat):Int))))] ⟨rfl,rfl,rfl,trivial⟩ trivial ⟨rfl,rfl,trivial⟩ rfl
   refine sq_step h (i:=4) rfl (u_copyQ (xs:=[]) (up_seq (i:=4) (by kernel_rfl) rfl) (gd0 rfl) 6 rfl (.tmp 28) (Or.inr rfl) rfl rfl) (fun a w h=>?_)
   replace h:=h.keepQ [(5,.unk 17 id),(6,.unk 28 id),(18,.val (Value.int .i64 ((k:Nat):Int)))] [] [(17,stmPd (Sh.kvAt g0 64 (k+1)) (decide (0<k+1))),(28,rowPd 24 4 ((kl g0 (k)).length+1) (ncl (kl g0 (k))++nc (((ks g0 k:Nat):Int))))] ⟨rfl,rfl,rfl,trivial⟩ trivial ⟨rfl,rfl,trivial⟩ rfl
   refine sq_end ?_
   refine blk_norm ?_
   refine then_norm ?_
   refine aEQ h [0] [eS 29 (.val (Value.int .i64 ((k+1:Nat):Int))),eS 18 _] ⟨fun L u=>u_bin u (gd0 rfl) _ rfl _ _ _ _ _ rfl rfl rfl (eqg_int _ _ _ _ _ _ _ _) _ (fun w=>i_add _ _ _ _ (by omega) ⟨by omega,by omega⟩ w),rfl,T0⟩ [(5,_),(6,_),(18,.val (Value.int .i64 ((k+1:Nat):Int)))] [] [(17,stmPd (Sh.kvAt g0 64 (k+1)) (decide (0<k+1))),(28,rowPd 24 4 ((kl g0 (k)).length+1) (ncl (kl g0 (k))++nc (((ks g0 k:Nat):Int))))] (fun a w h=>?_)
   refine then_norm ?_
   exact ⟨k+1,(by omega),(by omega),h.keepQ [(5,.unk 17 id),(6,.unk 28 id),(18,.val (Value.int .i64 ((k+1:Nat):Int)))] [] [(17,stmPd (Sh.kvAt g0 64 (k+1)) (decide (0<k+1))),(28,rowPd 24 4 ((kl g0 (k+1)).length) (ncl (kl g0 (k+1))))] ⟨rfl,rfl,rfl,trivial⟩ trivial ⟨rfl,(congrArg some (row_yes hw)),trivial⟩ rfl⟩
  ·skip
   refine aXQ h [1] [eS 23 _,eS 24 (.val (Value.bool false))] ⟨rfl,fun L u=>u_call u (gd0 rfl) _ rfl _ _ _ rfl [_] rfl (cT25 _) (Value.bool false) (fun w hb=>by have q:=qIn (hT.keep (Bs.kp_of hb)) (ks_lt g0 k);rw [show wi (ks g0 k)=false by simpa using hw] at q;exact q),T0⟩ [(5,_),(6,_),(7,_),(18,_),(24,.val (Value.bool false))] [(7,_)] [(17,stmPd (Sh.kvAt g0 64 (k+1)) (decide (0<k+1))),(28,rowPd 24 4 ((kl g0 (k)).length) (ncl (kl g0 (k))))] (fun a w h=>?_)
   refine go_cond h false rfl (fun ht=>?_) (fun hf=>?_)
   case refine_1=>cases ht
   refine wp_skip ?_
   refine blk_norm ?_
   refine then_norm ?_
   refine aEQ h [0] [eS 29 (.val (Value.int .i64 ((k+1:Nat):Int))),eS 18 _] ⟨fun L u=>u_bin u (gd0 rfl) _ rfl _ _ _ _ _ rfl rfl rfl (eqg_int _ _ _ _ _ _ _ _) _ (fun w=>i_add _ _ _ _ (by omega) ⟨by omega,by omega⟩ w),rfl,T0⟩ [(5,_),(6,_),(18,.val (Value.int .i64 ((k+1:Nat):Int)))] [] [(17,stmPd (Sh.kvAt g0 64 (k+1)) (decide (0<k+1))),(28,rowPd 24 4 ((kl g0 (k)).length) (ncl (kl g0 (k))))] (fun a w h=>?_)
   refine then_norm ?_
   exact ⟨k+1,(by omega),(by omega),h.keepQ [(5,.unk 17 id),(6,.unk 28 id),(18,.val (Value.int .i64 ((k+1:Nat):Int)))] [] [(17,stmPd (Sh.kvAt g0 64 (k+1)) (decide (0<k+1))),(28,rowPd 24 4 ((kl g0 (k+1)).length) (ncl (kl g0 (k+1))))] ⟨rfl,rfl,rfl,trivial⟩ trivial ⟨rfl,(congrArg some (row_no (by simpa using hw))),trivial⟩ rfl⟩
 ·skip
  have hk8:k=8:=by omega
  refine aXQ h [0] [eS 19 (.val (Value.bool false))] ⟨fun L u=>u_bin u (gd0 rfl) _ rfl _ _ _ _ _ rfl rfl rfl (eqg_int _ _ _ _ _ _ _ _) _ (no_of (fun w=>i_lss _ _ _ _ w) (by omega)),T0⟩ [(5,_),(6,_),(18,_),(19,.val (Value.bool false))] [] [(17,stmPd (Sh.kvAt g0 64 (k)) (decide (0<k))),(28,rowPd 24 4 ((kl g0 (k)).length) (ncl (kl g0 (k))))] (fun a w h=>?_)
  refine wp_seq ?_
  refine go_cond h false rfl (fun ht=>?_) (fun hf=>?_)
  case refine_1=>cases ht
  refine wp_exit ?_
  refine then_exit ?_
  refine then_exit ?_
  refine blk_exit ?_
  refine then_norm ?_
  refine aXQ h [0,1] [eS 30 (.unk 28 id),eS 4 (.unk 28 id)] ⟨fun L u=>u_copyQ u (gd0 rfl) 30 rfl (.tmp 6) (Or.inl rfl) rfl rfl,fun L u=>u_copyQ u (gd0 rfl) 4 rfl (.tmp 30) (Or.inr rfl) rfl rfl,T0⟩ [(4,.unk 28 id)] [] [(28,rowPd 24 4 ((kl g0 (k)).length) (ncl (kl g0 (k))))] (fun a w h=>?_)
  refine wp_ret ?_
  refine ret_thing h 4 rfl (lk rfl) 28 id rfl rfl (fun v F hp hF=>?_)
  exact ⟨v,F,rfl,by rw [hk8] at hp;exact hp,hF,h.grows⟩
theorem qNon {w:World} (hT:Tab w) (hH:Sh.Tab w) {A Z:Nat} (hA:A<2 ^ 256) (hZ:Z<2 ^ 256):Calls Tryz.prog 30 [.agg (nc (((A:Nat):Int))).toArray,.agg (nc (((Z:Nat):Int))).toArray].toArray w fun e w'=>∃ v Fp,e=.returned v∧(nrPd (nns A (mo (Z:Int)))).p v Fp w'∧(∀ b,Fp b=true→w.heap.size≤b∧b<w'.heap.size)∧Below w.heap.size w w':=by
 cases hw:wi A with
 | false =>
  rw [nns_no hw]
  refine Calls.mono (qNon_no hT hA hw) ?_
  rintro e w' ⟨rfl,hb⟩
  exact ⟨_,fun _=>false,rfl,nr_nil w',(fun b h=>by cases h),hb⟩
 | true =>
  rw [nns_yes hw]
  exact qNon_yes hT hH hA hZ hw (mo_eq _) rfl
end Go.Proofs.YtmigakanbeckpaaGreatDoor
namespace Go.Proofs.YtmigakanbeckpaaGreatDoor
open Go.RowKit
def sgPd (X:Option (Nat × Nat)):Pd:=match X with
 | none=>tupPd (rdPd 0 []) (.bool false)
 | some q=>tupPd (rdPd (De.msz q.1+De.msz q.2+6) (De.dE q.1 q.2)) (.bool true)
theorem rd_nil (w:World):(rdPd 0 []).p (.slice none 0 0) (fun _=>false) w:=⟨none,0,rfl,Nat.le_refl _,rfl,⟨fun i=>by simp,Or.inl rfl⟩,fun p hp=>by cases hp⟩
theorem sg_no {w w':World} {X:Option (Nat × Nat)} (hX:X=none) (hb:Below w.heap.size w w'):∃ v Fp,Ending.returned (.tuple [.slice none 0 0,.bool false].toArray)=Ending.returned v∧(sgPd X).p v Fp w'∧(∀ b,Fp b=true→w.heap.size≤b∧b<w'.heap.size)∧Below w.heap.size w w':=by
 subst hX
 exact ⟨_,fun _=>false,rfl,⟨_,rfl,rd_nil w'⟩,(fun b h=>by cases h),hb⟩
theorem sg_yes {w w':World} {X:Option (Nat × Nat)} {r s:Nat} (hX:X=some (r,s)) (hr:r<2 ^ 256) (hs:s<2 ^ 256) {v:Value} {F:Nat→Bool} (hp:(rowPd 5 1 (De.msz r+De.msz s+6) (cells8 (De.dE r s))).p v F w') (hF:∀ b,F b=true→w.heap.size≤b∧b<w'.heap.size) (hb:Below w.heap.size w w'):∃ u Fp,Ending.returned (.tuple [v,.bool true].toArray)=Ending.returned u∧(sgPd X).p u Fp w'∧(∀ b,Fp b=true→w.heap.size≤b∧b<w'.heap.size)∧Below w.heap.size w w':=by
 subst hX
 exact ⟨_,F,rfl,⟨v,rfl,vr_row (De.dE_lt hr hs) v F w' hp⟩,hF,hb⟩
theorem sg_tup {w w':World} {p:Pd} {b:Value} {v:Value} {F:Nat→Bool} (hp:(tupPd p b).p v F w') (hF:∀ b,F b=true→w.heap.size≤b∧b<w'.heap.size) (hb:Below w.heap.size w w'):∃ u Fp,Ending.returned (.tuple [fstV v,b].toArray)=Ending.returned u∧(tupPd p b).p u Fp w'∧(∀ b,Fp b=true→w.heap.size≤b∧b<w'.heap.size)∧Below w.heap.size w w':=by
 obtain ⟨u,rfl,hu⟩:=hp
 exact ⟨_,F,rfl,⟨u,rfl,hu⟩,hF,hb⟩
theorem drop_at {l:List Nat} {j:Nat} (h:j<l.length):l.drop j=l.getD j 0 :: l.drop (j+1):=by
 rw [List.drop_eq_getElem_cons h,List.getD_eq_getElem?_getD,List.getElem?_eq_getElem h]
 rfl
theorem sgn_hit {d z j:Nat} {l:List Nat} (h:j<l.length) (hr:¬ rOf (l.getD j 0)=0) (hs:¬ sOf d z (l.getD j 0)=0):sgn d z (l.drop j)=some (rOf (l.getD j 0),sOf d z (l.getD j 0)):=by
 rw [drop_at h,sgn,if_pos ⟨hr,hs⟩]
theorem sgn_miss {d z j:Nat} {l:List Nat} (h:j<l.length) (hm:rOf (l.getD j 0)=0∨sOf d z (l.getD j 0)=0):sgn d z (l.drop (j+1))=sgn d z (l.drop j):=by
 rw [drop_at h,sgn,if_neg (fun q=>hm.elim q.1 q.2)]
theorem sgn_end {d z j:Nat} {l:List Nat} (h:¬ j<l.length):sgn d z (l.drop j)=none:=by
 rw [List.drop_eq_nil_of_le (by omega),sgn]
theorem getD_mem {l:List Nat} {j:Nat} (h:j<l.length):l.getD j 0 ∈ l:=by
 rw [List.getD_eq_getElem?_getD,List.getElem?_eq_getElem h]
 exact List.getElem_mem h
theorem wi_r0 {k:Nat} (h:rOf k=0):wi (rOf k)=false:=by rw [h];decide
theorem wi_r1 {k:Nat} (h:¬ rOf k=0):wi (rOf k)=true:=(wi_iff _).2 ⟨h,mo_lt _⟩
theorem wi_s0 {d z k:Nat} (h:sOf d z k=0):wi (sOf d z k)=false:=by rw [h];decide
theorem wi_s1 {d z k:Nat} (h:¬ sOf d z k=0):wi (sOf d z k)=true:=(wi_iff _).2 ⟨h,mo_lt _⟩
theorem qSW_at {w:World} (hT:Tab w) {D Z b c:Nat} {l:List Nat} (hD:D<2 ^ 256) (hZ:Z<2 ^ 256) (hlw:∀ k ∈ l,wi k=true) (hm8:l.length≤8) (hc:∀ j x,(ncl l)[j]?=some x→w.cell? ⟨b,j,none⟩=some x):Calls Tryz.prog 39 [Value.slice (some ⟨b,0,none⟩) (l.length) (c),.agg (nc (((D:Nat):Int))).toArray,.agg (nc (((Z:Nat):Int))).toArray].toArray w fun e w'=>∃ v Fp,e=.returned v∧(sgPd (sgn D Z l)).p v Fp w'∧(∀ b,Fp b=true→w.heap.size≤b∧b<w'.heap.size)∧Below w.heap.size w w':=by
 refine enter (args:=[Value.slice (some ⟨b,0,none⟩) (l.length) (c),.agg (nc (((D:Nat):Int))).toArray,.agg (nc (((Z:Nat):Int))).toArray]) Tryz.func39 rfl 38 rfl (lk rfl) (fun a h=>?_)
 refine aX h [] [eN 4 _,eN 5 _,eS 6 _,eS 7 _] ⟨rfl,rfl,rfl,rfl,T0⟩ [(0,.val (Value.slice (some ⟨b,0,none⟩) (l.length) (c))),(4,.ptr 4 0),(5,.ptr 5 0)] [(4,nc (((D:Nat):Int))),(5,nc (((Z:Nat):Int)))] (fun a w h=>?_)
 refine wp_seq ?_
 refine aX h [1] [eS 12 _,eS 13 (.val (Value.int .i64 ((l.length:Nat):Int))),eS 14 _] ⟨rfl,fun L u=>u_lenV u (gd0 rfl) 13 rfl (.tmp 12) 32 rfl rfl Tryz.underlying32,rfl,T0⟩ [(4,_),(5,_),(12,.val (Value.slice (some ⟨b,0,none⟩) (l.length) (c))),(13,.val (Value.int .i64 ((l.length:Nat):Int))),(14,.val ((Value.int IntKind.i64 0)))] [(4,_),(5,_)] (fun a w h=>?_)
 refine wp_block ?_
 refine go_loop (fun (j:Nat)=>SS.mk' [(4,.ptr 4 0),(5,.ptr 5 0),(12,.val (Value.slice (some ⟨b,0,none⟩) (l.length) (c))),(13,.val (Value.int .i64 ((l.length:Nat):Int))),(14,.val (Value.int .i64 ((j:Nat):Int)))] [(4,nc (((D:Nat):Int))),(5,nc (((Z:Nat):Int)))]) (fun j=>j≤l.length∧sgn D Z (l.drop j)=sgn D Z l) (fun j=>l.length-j) (i:=0) (h.keep [(4,.ptr 4 0),(5,.ptr 5 0),(12,.val (Value.slice (some ⟨b,0,none⟩) (l.length) (c))),(13,.val (Value.int .i64 ((l.length:Nat):Int))),(14,.val (Value.int .i64 ((0:Nat):Int)))] [(4,nc (((D:Nat):Int))),(5,nc (((Z:Nat):Int)))] ⟨rfl,rfl,rfl,rfl,rfl,T0⟩ ⟨rfl,rfl,T0⟩ rfl) ⟨Nat.zero_le _,by rw [List.drop_zero]⟩ (fun j a w hG h=>?_)
 by_cases hs:j<l.length
 ·skip
  have hk:=wi_lt (hlw _ (getD_mem hs))
  refine aX h [0] [eS 15 (.val (Value.bool true))] ⟨fun L u=>u_bin u (gd0 rfl) _ rfl _ _ _ _ _ rfl rfl rfl (eqg_int _ _ _ _ _ _ _ _) _ (yes_of (fun w=>i_lss _ _ _ _ w) (by omega)),T0⟩ [(4,_),(5,_),(12,_),(13,_),(14,_),(15,.val (Value.bool true))] [(4,_),(5,_)] (fun a w h=>?_)
  refine wp_seq ?_
  refine go_cond h true rfl (fun ht=>?_) (fun hf=>?_)
  case refine_2=>cases hf
  refine wp_skip ?_
  refine then_norm ?_
  refine wp_seq ?_
  refine wp_block ?_
  refine aX h [0,1] [eS 16 (.val (Value.pointer (some ⟨b,0+j*4,none⟩))),eS 17 (.val (.agg (nc (((l.getD j 0:Nat):Int))).toArray)),eN 9 _,eM 9 _] ⟨fun L u=>u_atX u (gd0 rfl) 16 rfl 32 (.tmp 12) (.tmp 14) rfl rfl (k:=j) rfl Tryz.underlying32 i24T (by omega) (0+j*4) rfl,fun L u=>u_loadXR u (gd0 rfl) 17 rfl 24 (.tmp 16) rfl rfl Tryz.underlying24 rfl (nc (((l.getD j 0:Nat):Int))) i24T rfl (cells_get hc (ncl_at l j hs) |> fun q=>by rw [Nat.zero_add];exact q) rfl,rfl,rfl,T0⟩ [(4,_),(5,_),(9,.ptr 9 0),(12,_),(13,_),(14,_)] [(4,_),(5,_),(9,nc (((l.getD j 0:Nat):Int)))] (fun a w h=>?_)
  refine aX h [1,2] [eS 18 _,eS 19 (.val (.agg (pc (mt wplus Wp.o wG (l.getD j 0))).toArray)),eS 20 (.val (.agg (nc (((rOf (l.getD j 0):Nat):Int))).toArray)),eN 10 _,eM 10 _] ⟨rfl,fun L u=>u_call u (gd0 rfl) _ rfl _ _ _ rfl [_] rfl (cT27 _) _ (fun w hb=>qTB (hT.keep (Bs.kp_of hb)) hk),fun L u=>u_call u (gd0 rfl) _ rfl _ _ _ rfl [_] rfl (cT75 _) _ (fun w hb=>qX (hT.keep (Bs.kp_of hb)) _),rfl,rfl,T0⟩ [(4,_),(5,_),(9,_),(10,.ptr 10 0),(12,_),(13,_),(14,_)] [(4,_),(5,_),(9,_),(10,nc (((rOf (l.getD j 0):Nat):Int)))] (fun a w h=>?_)
  refine aX h [3,4,6] [eS 21 _,eS 22 _,eS 23 _,eS 24 (.val (.agg (nc (((pO D (l.getD j 0):Nat):Int))).toArray)),eS 25 (.val (.agg (nc (((qO D Z (l.getD j 0):Nat):Int))).toArray)),eS 26 _,eS 27 (.val (.agg (nc (((sOf D Z (l.getD j 0):Nat):Int))).toArray)),eN 11 _,eM 11 _] ⟨rfl,rfl,rfl,fun L u=>u_call u (gd0 rfl) _ rfl _ _ _ rfl [_,_,_] rfl (cT78 _) _ (fun w hb=>mul1 (hT.keep (Bs.kp_of hb)) (mo_num _) hD (mo_eq _)),fun L u=>u_call u (gd0 rfl) _ rfl _ _ _ rfl [_,_,_] rfl (cT79 _) _ (fun w hb=>add1 (hT.keep (Bs.kp_of hb)) hZ (mo_num _) (mo_eq _)),rfl,fun L u=>u_call u (gd0 rfl) _ rfl _ _ _ rfl [_,_] rfl (cT74 _) _ (fun w hb=>qQ (hT.keep (Bs.kp_of hb)) (mo_num _) hk),rfl,rfl,T0⟩ [(4,_),(5,_),(10,_),(11,.ptr 11 0),(12,_),(13,_),(14,_)] [(4,_),(5,_),(10,_),(11,nc (((sOf D Z (l.getD j 0):Nat):Int)))] (fun a w h=>?_)
  by_cases hr0:rOf (l.getD j 0)=0
  ·skip
   refine aX h [1] [eS 28 _,eS 29 (.val (Value.bool false)),eS 30 _,eS 31 _,eS 32 _,eS 33 _] ⟨rfl,fun L u=>u_call u (gd0 rfl) _ rfl _ _ _ rfl [_] rfl (cT25 _) (Value.bool false) (fun w hb=>by have q:=qIn (A:=rOf (l.getD j 0)) (hT.keep (Bs.kp_of hb)) (mo_num _);rw [show wi (rOf (l.getD j 0))=_ from wi_r0 hr0] at q;exact q),rfl,rfl,rfl,rfl,T0⟩ [(4,_),(5,_),(10,_),(11,_),(12,_),(13,_),(14,_),(33,.val (Value.bool false))] [(4,_),(5,_),(10,_),(11,_)] (fun a w h=>?_)
   refine go_cond h false rfl (fun ht=>?_) (fun hf=>?_)
   case refine_1=>cases ht
   refine wp_skip ?_
   refine blk_norm ?_
   refine then_norm ?_
   refine aE h [0] [eS 37 (.val (Value.int .i64 ((j+1:Nat):Int))),eS 14 _] ⟨fun L u=>u_bin u (gd0 rfl) _ rfl _ _ _ _ _ rfl rfl rfl (eqg_int _ _ _ _ _ _ _ _) _ (fun w=>i_add _ _ _ _ (by omega) ⟨by omega,by omega⟩ w),rfl,T0⟩ [(4,_),(5,_),(12,_),(13,_),(14,.val (Value.int .i64 ((j+1:Nat):Int)))] [(4,_),(5,_)] (fun a w h=>?_)
   refine then_norm ?_
   exact ⟨j+1,⟨by omega,by rw [sgn_miss hs (Or.inl hr0)];exact hG.2⟩,(by omega),h.keep [(4,.ptr 4 0),(5,.ptr 5 0),(12,.val (Value.slice (some ⟨b,0,none⟩) (l.length) (c))),(13,.val (Value.int .i64 ((l.length:Nat):Int))),(14,.val (Value.int .i64 ((j+1:Nat):Int)))] [(4,nc (((D:Nat):Int))),(5,nc (((Z:Nat):Int)))] ⟨rfl,rfl,rfl,rfl,rfl,trivial⟩ ⟨rfl,rfl,trivial⟩ rfl⟩
  ·skip
   by_cases hs0:sOf D Z (l.getD j 0)=0
   ·skip
    refine aX h [1,4] [eS 28 _,eS 29 (.val (Value.bool true)),eS 30 _,eS 31 _,eS 32 (.val (Value.bool false)),eS 33 _] ⟨rfl,fun L u=>u_call u (gd0 rfl) _ rfl _ _ _ rfl [_] rfl (cT25 _) (Value.bool true) (fun w hb=>by have q:=qIn (A:=rOf (l.getD j 0)) (hT.keep (Bs.kp_of hb)) (mo_num _);rw [show wi (rOf (l.getD j 0))=_ from wi_r1 hr0] at q;exact q),rfl,rfl,fun L u=>u_call u (gd1 u 2 true rfl 30 rfl (lk rfl) rfl) _ rfl _ _ _ rfl [_] rfl (cT25 _) (Value.bool false) (fun w hb=>by have q:=qIn (A:=sOf D Z (l.getD j 0)) (hT.keep (Bs.kp_of hb)) (mo_num _);rw [show wi (sOf D Z (l.getD j 0))=_ from wi_s0 hs0] at q;exact q),rfl,T0⟩ [(4,_),(5,_),(10,_),(11,_),(12,_),(13,_),(14,_),(33,.val (Value.bool false))] [(4,_),(5,_),(10,_),(11,_)] (fun a w h=>?_)
    refine go_cond h false rfl (fun ht=>?_) (fun hf=>?_)
    case refine_1=>cases ht
    refine wp_skip ?_
    refine blk_norm ?_
    refine then_norm ?_
    refine aE h [0] [eS 37 (.val (Value.int .i64 ((j+1:Nat):Int))),eS 14 _] ⟨fun L u=>u_bin u (gd0 rfl) _ rfl _ _ _ _ _ rfl rfl rfl (eqg_int _ _ _ _ _ _ _ _) _ (fun w=>i_add _ _ _ _ (by omega) ⟨by omega,by omega⟩ w),rfl,T0⟩ [(4,_),(5,_),(12,_),(13,_),(14,.val (Value.int .i64 ((j+1:Nat):Int)))] [(4,_),(5,_)] (fun a w h=>?_)
    refine then_norm ?_
    exact ⟨j+1,⟨by omega,by rw [sgn_miss hs (Or.inr hs0)];exact hG.2⟩,(by omega),h.keep [(4,.ptr 4 0),(5,.ptr 5 0),(12,.val (Value.slice (some ⟨b,0,none⟩) (l.length) (c))),(13,.val (Value.int .i64 ((l.length:Nat):Int))),(14,.val (Value.int .i64 ((j+1:Nat):Int)))] [(4,nc (((D:Nat):Int))),(5,nc (((Z:Nat):Int)))] ⟨rfl,rfl,rfl,rfl,rfl,trivial⟩ ⟨rfl,rfl,trivial⟩ rfl⟩
   ·skip
    refine aX h [1,4] [eS 28 _,eS 29 (.val (Value.bool true)),eS 30 _,eS 31 _,eS 32 (.val (Value.bool true)),eS 33 _] ⟨rfl,fun L u=>u_call u (gd0 rfl) _ rfl _ _ _ rfl [_] rfl (cT25 _) (Value.bool true) (fun w hb=>by have q:=qIn (A:=rOf (l.getD j 0)) (hT.keep (Bs.kp_of hb)) (mo_num _);rw [show wi (rOf (l.getD j 0))=_ from wi_r1 hr0] at q;exact q),rfl,rfl,fun L u=>u_call u (gd1 u 2 true rfl 30 rfl (lk rfl) rfl) _ rfl _ _ _ rfl [_] rfl (cT25 _) (Value.bool true) (fun w hb=>by have q:=qIn (A:=sOf D Z (l.getD j 0)) (hT.keep (Bs.kp_of hb)) (mo_num _);rw [show wi (sOf D Z (l.getD j 0))=_ from wi_s1 hs0] at q;exact q),rfl,T0⟩ [(4,_),(5,_),(10,_),(11,_),(12,_),(13,_),(14,_),(33,.val (Value.bool true))] [(4,_),(5,_),(10,_),(11,_)] (fun a w h=>?_)
    refine go_cond h true rfl (fun ht=>?_) (fun hf=>?_)
    case refine_2=>cases hf
    refine aXQ h [2,3] [eS 34 _,eS 35 _,eQ 36 (rowPd 5 1 (De.msz (rOf (l.getD j 0))+De.msz (sOf D Z (l.getD j 0))+6) (cells8 (De.dE (rOf (l.getD j 0)) (sOf D Z (l.getD j 0))))),eS 6 (.unk 36 id),eS 7 _] ⟨rfl,rfl,fun L u=>u_callQ u (gd0 rfl) 36 rfl rfl 80 #[(.tmp 34),(.tmp 35)] #[24,24] rfl [.val (.agg (nc (((rOf (l.getD j 0):Nat):Int))).toArray),.val (.agg (nc (((sOf D Z (l.getD j 0):Nat):Int))).toArray)] rfl (fun vs w=>callFunc_enter Tryz.func80 (by kernel_rfl) (by kernel_rfl) vs w) (rowPd 5 1 (De.msz (rOf (l.getD j 0))+De.msz (sOf D Z (l.getD j 0))+6) (cells8 (De.dE (rOf (l.getD j 0)) (sOf D Z (l.getD j 0))))) (fun β a w hr=>thing_of (De.e_Enc (mo_num _) (mo_num _) _)),fun L u=>u_copyQ u (gd0 rfl) 6 rfl (.tmp 36) (Or.inr rfl) rfl rfl,rfl,T0⟩ [(6,.unk 36 id),(7,.val (Value.bool true))] [] [(36,rowPd 5 1 (De.msz (rOf (l.getD j 0))+De.msz (sOf D Z (l.getD j 0))+6) (cells8 (De.dE (rOf (l.getD j 0)) (sOf D Z (l.getD j 0)))))] (fun a w h=>?_)
    refine wp_ret ?_
    refine blk_ret ?_
    refine then_ret ?_
    refine then_ret ?_
    refine blk_ret ?_
    refine then_ret ?_
    refine ret_tv h 6 7 rfl (lk rfl) (lk rfl) 36 id rfl rfl (Value.bool true) rfl (fun v F hp hF=>?_)
    exact sg_yes (by rw [← hG.2];exact sgn_hit hs hr0 hs0) (mo_num _) (mo_num _) hp hF h.grows
 ·skip
  refine aX h [0] [eS 15 (.val (Value.bool false))] ⟨fun L u=>u_bin u (gd0 rfl) _ rfl _ _ _ _ _ rfl rfl rfl (eqg_int _ _ _ _ _ _ _ _) _ (no_of (fun w=>i_lss _ _ _ _ w) (by omega)),T0⟩ [(4,_),(5,_),(12,_),(13,_),(14,_),(15,.val (Value.bool false))] [(4,_),(5,_)] (fun a w h=>?_)
  refine wp_seq ?_
  refine go_cond h false rfl (fun ht=>?_) (fun hf=>?_)
  case refine_1=>cases ht
  refine wp_exit ?_
  refine then_exit ?_
  refine then_exit ?_
  refine blk_exit ?_
  refine then_norm ?_
  refine aX h [] [eS 6 _,eS 7 _] ⟨rfl,rfl,T0⟩ [(6,.val ((Value.slice none 0 0))),(7,.val (Value.bool false))] [] (fun a w h=>?_)
  refine wp_ret ?_
  refine ret_two h _ _ rfl (ans_tmp (v:=(Value.slice none 0 0)) 6 (lk rfl) rfl) (ans_tmp (v:=Value.bool false) 7 (lk rfl) rfl) ?_
  exact sg_no (by rw [← hG.2];exact sgn_end hs) h.grows
theorem qSW_nil {w:World} {D Z:Nat}:Calls Tryz.prog 39 [Value.slice (none) (0) (0),.agg (nc (((D:Nat):Int))).toArray,.agg (nc (((Z:Nat):Int))).toArray].toArray w fun e w'=>∃ v Fp,e=.returned v∧(sgPd (sgn D Z [])).p v Fp w'∧(∀ b,Fp b=true→w.heap.size≤b∧b<w'.heap.size)∧Below w.heap.size w w':=by
 refine enter (args:=[Value.slice (none) (0) (0),.agg (nc (((D:Nat):Int))).toArray,.agg (nc (((Z:Nat):Int))).toArray]) Tryz.func39 rfl 38 rfl (lk rfl) (fun a h=>?_)
 refine aX h [] [eN 4 _,eN 5 _,eS 6 _,eS 7 _] ⟨rfl,rfl,rfl,rfl,T0⟩ [(0,.val (Value.slice (none) (0) (0))),(4,.ptr 4 0),(5,.ptr 5 0)] [(4,nc (((D:Nat):Int))),(5,nc (((Z:Nat):Int)))] (fun a w h=>?_)
 refine wp_seq ?_
 refine aX h [1] [eS 12 _,eS 13 (.val (Value.int .i64 ((0:Nat):Int))),eS 14 _] ⟨rfl,fun L u=>u_lenV u (gd0 rfl) 13 rfl (.tmp 12) 32 rfl rfl Tryz.underlying32,rfl,T0⟩ [(4,_),(5,_),(12,.val (Value.slice (none) (0) (0))),(13,.val (Value.int .i64 ((0:Nat):Int))),(14,.val ((Value.int IntKind.i64 0)))] [(4,_),(5,_)] (fun a w h=>?_)
 refine wp_block ?_
 refine wp_loop_rounds 1 ?_
 rw [rounds_succ]
 refine aX h [0] [eS 15 (.val (Value.bool false))] ⟨fun L u=>u_bin u (gd0 rfl) _ rfl _ _ _ _ _ rfl rfl rfl (eqg_int _ _ _ _ _ _ _ _) _ (no_of (fun w=>i_lss _ _ _ _ w) (by omega)),T0⟩ [(4,_),(5,_),(12,_),(13,_),(14,_),(15,.val (Value.bool false))] [(4,_),(5,_)] (fun a w h=>?_)
 refine wp_seq ?_
 refine go_cond h false rfl (fun ht=>?_) (fun hf=>?_)
 case refine_1=>cases ht
 refine wp_exit ?_
 refine then_exit ?_
 refine then_exit ?_
 refine blk_exit ?_
 refine then_norm ?_
 refine aX h [] [eS 6 _,eS 7 _] ⟨rfl,rfl,T0⟩ [(6,.val ((Value.slice none 0 0))),(7,.val (Value.bool false))] [] (fun a w h=>?_)
 refine wp_ret ?_
 refine ret_two h _ _ rfl (ans_tmp (v:=(Value.slice none 0 0)) 6 (lk rfl) rfl) (ans_tmp (v:=Value.bool false) 7 (lk rfl) rfl) ?_
 exact sg_no rfl h.grows
theorem qSW {w:World} (hT:Tab w) {D Z:Nat} {l:List Nat} {v:Value} {F:Nat→Bool} (hD:D<2 ^ 256) (hZ:Z<2 ^ 256) (hlw:∀ k ∈ l,wi k=true) (hm8:l.length≤8) (hv:(nrPd l).p v F w):Calls Tryz.prog 39 [v,.agg (nc (((D:Nat):Int))).toArray,.agg (nc (((Z:Nat):Int))).toArray].toArray w fun e w'=>∃ v Fp,e=.returned v∧(sgPd (sgn D Z l)).p v Fp w'∧(∀ b,Fp b=true→w.heap.size≤b∧b<w'.heap.size)∧Below w.heap.size w w':=by
 obtain ⟨⟨hl,⟨rfl,h0⟩ | ⟨g,cap,cur,rfl,_,hg,_,_,_,ht⟩⟩,_⟩:=hv
 ·have e0:l=[]:=List.eq_nil_of_length_eq_zero h0
  subst e0
  exact qSW_nil
 ·refine qSW_at hT hD hZ hlw hm8 (fun j x hj=>?_)
  have hlt:j<l.length*4:=by
   have:=(List.getElem?_eq_some_iff.1 hj).1
   omega
  rw [← ht,List.getElem?_take_of_lt hlt] at hj
  simp only [World.cell?,hg]
  simpa using hj
end Go.Proofs.YtmigakanbeckpaaGreatDoor
namespace Go.Proofs.YtmigakanbeckpaaGreatDoor
open Go.RowKit
theorem qSign_no {w:World} {D n c:Nat} {z:Option Addr} {f:Nat→Nat} (hT:Tab w) (hH:Sh.Tab w) (hD:D<2 ^ 256) (hba:BA w z n f) (hc:n≤c) (hcm:c≤maxLen) (hn:n≤9223372036854775807) (hX:sgn D (zN f n) (nns D (mo ((zN f n:Nat):Int)))=none):Calls Tryz.prog 16 [.agg (nc (((D:Nat):Int))).toArray,Value.slice (z) (n) (c)].toArray w fun e w'=>∃ v Fp,e=.returned v∧(tupPd (rdPd (0) ([])) (.bool false)).p v Fp w'∧(∀ b,Fp b=true→w.heap.size≤b∧b<w'.heap.size)∧Below w.heap.size w w':=by
 refine enter (args:=[.agg (nc (((D:Nat):Int))).toArray,Value.slice (z) (n) (c)]) Tryz.func16 rfl 17 rfl (lk rfl) (fun a h=>?_)
 refine aX h [] [eN 2 _,eS 4 _,eS 5 _] ⟨rfl,rfl,rfl,T0⟩ [(1,.val (Value.slice (z) (n) (c))),(2,.ptr 2 0)] [(2,nc (((D:Nat):Int)))] (fun a w h=>?_)
 refine aX h [1] [eS 7 _,eS 8 (.val (.agg (nc (((zN f n:Nat):Int))).toArray)),eN 6 _,eM 6 _] ⟨rfl,fun L u=>u_call u (gd0 rfl) _ rfl _ _ _ rfl [_] rfl (cT31 _) _ (fun w hb=>qNum (hH.keep (Bs.kp_of hb)) (hba.keep (Bs.kp_of hb)) hc hcm hn),rfl,rfl,T0⟩ [(2,_),(6,.ptr 6 0)] [(2,_),(6,nc (((zN f n:Nat):Int)))] (fun a w h=>?_)
 refine aXQ h [2,5,6,7,8] [eS 9 _,eS 10 _,eQ 11 (nrPd (nns D (mo ((zN f n:Nat):Int)))),eS 12 _,eS 13 _,eQ 14 (tupPd (rdPd (0) ([])) (.bool false)),eS 15 (.unk 14 fstV),eS 16 (.val (.bool false)),eS 4 (.unk 14 fstV),eS 5 _] ⟨rfl,rfl,fun L u=>u_callQ u (gd0 rfl) 11 rfl rfl 30 #[(.tmp 9),(.tmp 10)] #[24,24] rfl [.val (.agg (nc (((D:Nat):Int))).toArray),.val (.agg (nc (((zN f n:Nat):Int))).toArray)] rfl (fun vs w=>callFunc_enter Tryz.func30 (by kernel_rfl) (by kernel_rfl) vs w) (nrPd (nns D (mo ((zN f n:Nat):Int)))) (fun β a w hr=>qNon (hT.keep (Bs.kp_of hr.bl)) (hH.keep (Bs.kp_of hr.bl)) hD (zN_lt f n)),rfl,rfl,fun L u=>u_callQ u (gd0 rfl) 14 rfl rfl 39 #[(.tmp 11),(.tmp 12),(.tmp 13)] #[32,24,24] rfl [.unk 11 id,.val (.agg (nc (((D:Nat):Int))).toArray),.val (.agg (nc (((zN f n:Nat):Int))).toArray)] rfl (fun vs w=>callFunc_enter Tryz.func39 (by kernel_rfl) (by kernel_rfl) vs w) (tupPd (rdPd (0) ([])) (.bool false)) (fun β a w hr=>by have q:=qSW (hT.keep (Bs.kp_of hr.bl)) hD (zN_lt f n) (nns_wi _ _) (nns_len _ _) (hr.thing (x:=11) (u.q rfl));rw [hX] at q;exact q),fun L u=>u_ext0T u (gd0 rfl) 15 rfl (.tmp 14) rfl rfl rfl,fun L u=>u_ext1T u (gd0 rfl) 16 rfl (.tmp 14) rfl rfl rfl,fun L u=>u_copyQ u (gd0 rfl) 4 rfl (.tmp 15) (Or.inr rfl) rfl rfl,rfl,T0⟩ [(4,.unk 14 fstV),(5,.val (.bool false))] [] [(14,tupPd (rdPd (0) ([])) (.bool false))] (fun a w h=>?_)
 refine wp_ret ?_
 refine ret_tv h 4 5 rfl (lk rfl) (lk rfl) 14 fstV rfl rfl (.bool false) rfl (fun v F hp hF=>?_)
 exact sg_tup hp hF h.grows
theorem qSign_yes {w:World} {D n c:Nat} {z:Option Addr} {f:Nat→Nat} (hT:Tab w) (hH:Sh.Tab w) (hD:D<2 ^ 256) (hba:BA w z n f) (hc:n≤c) (hcm:c≤maxLen) (hn:n≤9223372036854775807) {r s:Nat} (hX:sgn D (zN f n) (nns D (mo ((zN f n:Nat):Int)))=some (r,s)):Calls Tryz.prog 16 [.agg (nc (((D:Nat):Int))).toArray,Value.slice (z) (n) (c)].toArray w fun e w'=>∃ v Fp,e=.returned v∧(tupPd (rdPd (De.msz r+De.msz s+6) (De.dE r s)) (.bool true)).p v Fp w'∧(∀ b,Fp b=true→w.heap.size≤b∧b<w'.heap.size)∧Below w.heap.size w w':=by
 refine enter (args:=[.agg (nc (((D:Nat):Int))).toArray,Value.slice (z) (n) (c)]) Tryz.func16 rfl 17 rfl (lk rfl) (fun a h=>?_)
 refine aX h [] [eN 2 _,eS 4 _,eS 5 _] ⟨rfl,rfl,rfl,T0⟩ [(1,.val (Value.slice (z) (n) (c))),(2,.ptr 2 0)] [(2,nc (((D:Nat):Int)))] (fun a w h=>?_)
 refine aX h [1] [eS 7 _,eS 8 (.val (.agg (nc (((zN f n:Nat):Int))).toArray)),eN 6 _,eM 6 _] ⟨rfl,fun L u=>u_call u (gd0 rfl) _ rfl _ _ _ rfl [_] rfl (cT31 _) _ (fun w hb=>qNum (hH.keep (Bs.kp_of hb)) (hba.keep (Bs.kp_of hb)) hc hcm hn),rfl,rfl,T0⟩ [(2,_),(6,.ptr 6 0)] [(2,_),(6,nc (((zN f n:Nat):Int)))] (fun a w h=>?_)
 refine aXQ h [2,5,6,7,8] [eS 9 _,eS 10 _,eQ 11 (nrPd (nns D (mo ((zN f n:Nat):Int)))),eS 12 _,eS 13 _,eQ 14 (tupPd (rdPd (De.msz r+De.msz s+6) (De.dE r s)) (.bool true)),eS 15 (.unk 14 fstV),eS 16 (.val (.bool true)),eS 4 (.unk 14 fstV),eS 5 _] ⟨rfl,rfl,fun L u=>u_callQ u (gd0 rfl) 11 rfl rfl 30 #[(.tmp 9),(.tmp 10)] #[24,24] rfl [.val (.agg (nc (((D:Nat):Int))).toArray),.val (.agg (nc (((zN f n:Nat):Int))).toArray)] rfl (fun vs w=>callFunc_enter Tryz.func30 (by kernel_rfl) (by kernel_rfl) vs w) (nrPd (nns D (mo ((zN f n:Nat):Int)))) (fun β a w hr=>qNon (hT.keep (Bs.kp_of hr.bl)) (hH.keep (Bs.kp_of hr.bl)) hD (zN_lt f n)),rfl,rfl,fun L u=>u_callQ u (gd0 rfl) 14 rfl rfl 39 #[(.tmp 11),(.tmp 12),(.tmp 13)] #[32,24,24] rfl [.unk 11 id,.val (.agg (nc (((D:Nat):Int))).toArray),.val (.agg (nc (((zN f n:Nat):Int))).toArray)] rfl (fun vs w=>callFunc_enter Tryz.func39 (by kernel_rfl) (by kernel_rfl) vs w) (tupPd (rdPd (De.msz r+De.msz s+6) (De.dE r s)) (.bool true)) (fun β a w hr=>by have q:=qSW (hT.keep (Bs.kp_of hr.bl)) hD (zN_lt f n) (nns_wi _ _) (nns_len _ _) (hr.thing (x:=11) (u.q rfl));rw [hX] at q;exact q),fun L u=>u_ext0T u (gd0 rfl) 15 rfl (.tmp 14) rfl rfl rfl,fun L u=>u_ext1T u (gd0 rfl) 16 rfl (.tmp 14) rfl rfl rfl,fun L u=>u_copyQ u (gd0 rfl) 4 rfl (.tmp 15) (Or.inr rfl) rfl rfl,rfl,T0⟩ [(4,.unk 14 fstV),(5,.val (.bool true))] [] [(14,tupPd (rdPd (De.msz r+De.msz s+6) (De.dE r s)) (.bool true))] (fun a w h=>?_)
 refine wp_ret ?_
 refine ret_tv h 4 5 rfl (lk rfl) (lk rfl) 14 fstV rfl rfl (.bool true) rfl (fun v F hp hF=>?_)
 exact sg_tup hp hF h.grows
end Go.Proofs.YtmigakanbeckpaaGreatDoor
namespace Go.Proofs.YtmigakanbeckpaaGreatDoor
open Go.RowKit
theorem fmd_some {x y:Fin m0} {a:Wp m0} (ha:a.on wb) (h:a=some (x,y)):fmd (x.val:Int) (y.val:Int) false=true:=by
 subst h
 have:=fmd_pc ha
 exact this
theorem eq_rs {a b:Nat} (ha:a<2 ^ 256) (hb:b<2 ^ 256) {t:Bool} (h:decide ((a:Int)=(b:Int))=t) (w:World):(Op.equalIn 10000 24 (.agg (nc (a:Int)).toArray) (.agg (nc (b:Int)).toArray)).run Tryz.prog w=.ok t w:=by
 rw [eq_nc (num_natX ha) (num_natX hb),h]
end Go.Proofs.YtmigakanbeckpaaGreatDoor
