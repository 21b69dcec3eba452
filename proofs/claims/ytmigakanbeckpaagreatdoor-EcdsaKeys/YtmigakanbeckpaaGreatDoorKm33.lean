/- What the nonces are: the program's own, and the document's. What the program's own Nonce answers. What both Publics answer, and that the program is awake. EcdsaKeys: the walk. How the parameters, and the listed variables, are read before the call. -/
import Derived.Test.YtmigakanbeckpaaGreatDoorKm32
import Derived.Test.YtmigakanbeckpaaGreatDoorKm29
import Derived.Test.YtmigakanbeckpaaGreatDoorKm02
import Derived.Test.YtmigakanbeckpaaGreatDoorTie
import Derived.Test.YtmigakanbeckpaaGreatDoorCards
import Derived.ProofKit
import Derived.LaidMore
import Derived.MakeChecks
import Derived.Lib.LaidTab
import Derived.Stop.LaidErr
import Derived.Laws.IdiomArrays
import Derived.OpenShut
import Derived.Carry
import Derived.ChangeMaps5
import Derived.Stop.Joined
set_option maxRecDepth 100000
set_option maxHeartbeats 4000000
namespace Go.Proofs.YtmigakanbeckpaaGreatDoor
open Go.RowKit
def sdF (A z1:Nat):Nat→Nat:=fun i=>(De.be A 32++De.be z1 32).getD i 0
def nns (A z1:Nat):List Nat:=if wi A=true then kl (sdF A z1) 8 else []
theorem nns_yes {A z1:Nat} (h:wi A=true):nns A z1=kl (sdF A z1) 8:=if_pos h
theorem nns_no {A z1:Nat} (h:wi A=false):nns A z1=[]:=if_neg (by rw [h];decide)
theorem nns_wi (A z1:Nat):∀ k ∈ nns A z1,wi k=true:=fun k hk=>by
 unfold nns at hk
 split at hk
 ·exact kl_wi _ _ k hk
 ·cases hk
theorem nr_nil (w:World):(nrPd []).p (.slice none 0 0) (fun _=>false) w:=⟨⟨rfl,Or.inl ⟨rfl,rfl⟩⟩,fun b=>by simp [Value.ownBlock]⟩
theorem cT28 (vs:List Value):∀ w,(callFunc 28 vs.toArray).run Tryz.prog w=.ok (.enter 28 vs.toArray) w:=callFunc_enter Tryz.func28 (by kernel_rfl) (by kernel_rfl) _
theorem qNon_no {w:World} (hT:Tab w) {A Z:Nat} (hA:A<2 ^ 256) (hwA:wi A=false):Calls Tryz.prog 30 [.agg (nc (((A:Nat):Int))).toArray,.agg (nc (((Z:Nat):Int))).toArray].toArray w fun e w'=>e=.returned (.slice none 0 0)∧Below w.heap.size w w':=by
 refine enter (args:=[.agg (nc (((A:Nat):Int))).toArray,.agg (nc (((Z:Nat):Int))).toArray]) Tryz.func30 rfl 31 rfl (lk rfl) (fun a h=>?_)
 refine aX h [] [eN 2 _,eN 3 _,eS 4 _] ⟨rfl,rfl,rfl,T0⟩ [(2,.ptr 2 0),(3,.ptr 3 0)] [(2,nc (((A:Nat):Int))),(3,nc (((Z:Nat):Int)))] (fun a w h=>?_)
 refine wp_seq ?_
 refine aX h [1] [eS 8 _,eS 9 (.val (Value.bool false)),eS 10 _] ⟨rfl,fun L u=>u_call u (gd0 rfl) _ rfl _ _ _ rfl [_] rfl (cT25 _) (Value.bool false) (fun w hb=>by have q:=qIn (hT.keep (Bs.kp_of hb)) hA;rw [hwA] at q;exact q),rfl,T0⟩ [(2,_),(3,_),(10,.val (Value.bool true))] [(2,_),(3,_)] (fun a w h=>?_)
 refine go_cond h true rfl (fun ht=>?_) (fun hf=>?_)
 case refine_2=>cases hf
 refine aX h [] [eS 4 _] ⟨rfl,T0⟩ [(4,.val ((Value.slice none 0 0)))] [] (fun a w h=>?_)
 refine wp_ret ?_
 refine then_ret ?_
 refine ret_slot h 4 rfl (lk rfl) ((Value.slice none 0 0)) rfl ?_
 exact ⟨rfl,h.grows⟩
theorem qNon_yes {w:World} (hT:Tab w) (hH:Sh.Tab w) {A Z z1:Nat} {g0:Nat→Nat} (hA:A<2 ^ 256) (hZ:Z<2 ^ 256) (hwA:wi A=true) (hz1:(Z:Int) % md 1=(z1:Int)) (hg0:(fun i=>(De.be A 32++De.be z1 32).getD i 0)=g0):Calls Tryz.prog 30 [.agg (nc (((A:Nat):Int))).toArray,.agg (nc (((Z:Nat):Int))).toArray].toArray w fun e w'=>∃ v Fp,e=.returned v∧(nrPd (kl g0 8)).p v Fp w'∧(∀ b,Fp b=true→w.heap.size≤b∧b<w'.heap.size)∧Below w.heap.size w w':=by
 refine enter (args:=[.agg (nc (((A:Nat):Int))).toArray,.agg (nc (((Z:Nat):Int))).toArray]) Tryz.func30 rfl 31 rfl (lk rfl) (fun a h=>?_)
 refine aX h [] [eN 2 _,eN 3 _,eS 4 _] ⟨rfl,rfl,rfl,T0⟩ [(2,.ptr 2 0),(3,.ptr 3 0)] [(2,nc (((A:Nat):Int))),(3,nc (((Z:Nat):Int)))] (fun a w h=>?_)
 refine wp_seq ?_
 refine aX h [1] [eS 8 _,eS 9 (.val (Value.bool true)),eS 10 _] ⟨rfl,fun L u=>u_call u (gd0 rfl) _ rfl _ _ _ rfl [_] rfl (cT25 _) (Value.bool true) (fun w hb=>by have q:=qIn (hT.keep (Bs.kp_of hb)) hA;rw [hwA] at q;exact q),rfl,T0⟩ [(2,_),(3,_),(10,.val (Value.bool false))] [(2,_),(3,_)] (fun a w h=>?_)
 refine go_cond h false rfl (fun ht=>?_) (fun hf=>?_)
 case refine_1=>cases ht
 refine wp_skip ?_
 refine then_norm ?_
 refine aXQ h [1,3,4,5,6,7] [eS 11 _,eQ 12 (rmPd 32 (De.be A 32)),eS 13 _,eS 14 (.val (.agg (nc (((z1:Nat):Int))).toArray)),eQ 15 (rmPd 32 (De.be z1 32)),eB 16 (twoG (rmPd 32 (De.be A 32)) (rmPd 32 (De.be z1 32))) 12 15,eQ 17 (stmPd (Sh.kvSeed g0 64) false),eS 5 (.unk 17 id)] ⟨rfl,fun L u=>u_callQ u (gd0 rfl) 12 rfl rfl 52 #[(.tmp 11)] #[24] rfl [.val (.agg (nc (((A:Nat):Int))).toArray)] rfl (fun vs w=>callFunc_enter Tryz.func52 (by kernel_rfl) (by kernel_rfl) vs w) (rmPd 32 (De.be A 32)) (fun β a w hr=>qPutBig A _),rfl,fun L u=>u_call u (gd0 rfl) _ rfl _ _ _ rfl [_,_] rfl (cT60 _) _ (fun w hb=>fold1 (hT.keep (Bs.kp_of hb)) hZ hz1),fun L u=>u_callQ u (gd0 rfl) 15 rfl rfl 52 #[(.tmp 14)] #[24] rfl [.val (.agg (nc (((z1:Nat):Int))).toArray)] rfl (fun vs w=>callFunc_enter Tryz.func52 (by kernel_rfl) (by kernel_rfl) vs w) (rmPd 32 (De.be z1 32)) (fun β a w hr=>qPutBig z1 _),fun L u=>u_twoG u (gd0 rfl) 16 rfl rfl (.tmp 12) (.tmp 15) rfl rfl rfl rfl rfl rfl rfl rfl vs_rm vs_rm,fun L u=>u_callQ u (gd0 rfl) 17 rfl rfl 59 #[(.tmp 16)] #[103] rfl [.unk 16 id] rfl (fun vs w=>callFunc_enter Tryz.func59 (by kernel_rfl) (by kernel_rfl) vs w) (stmPd (Sh.kvSeed g0 64) false) (fun β a w hr=>by have q:=qNew (hH.keep (Bs.kp_of hr.bl)) (by decide) (hr.thing (x:=16) (u.q rfl));rw [hg0] at q;exact q),fun L u=>u_copyQ u (gd0 rfl) 5 rfl (.tmp 17) (Or.inr rfl) rfl rfl,T0⟩ [(5,.unk 17 id)] [] [(17,stmPd (Sh.kvSeed g0 64) false)] (fun a w h=>?_)
 refine aXQ h [] [eS 6 _] ⟨rfl,T0⟩ [(5,_),(6,.val ((Value.slice none 0 0)))] [] [(17,stmPd (Sh.kvSeed g0 64) false)] (fun a w h=>?_)
 refine wp_seq ?_
 refine aXQ h [] [eS 18 _] ⟨rfl,T0⟩ [(5,_),(6,_),(18,.val ((Value.int IntKind.i64 0)))] [] [(17,stmPd (Sh.kvSeed g0 64) false)] (fun a w h=>?_)
 refine wp_block ?_
 replace h:=(h.nil 24 4 28 6 rfl rfl).keepQ [(5,.unk 17 id),(6,.unk 28 id),(18,.val ((Value.int IntKind.i64 0)))] [] [(17,stmPd (Sh.kvSeed g0 64) false),(28,rowPd 24 4 0 [])] ⟨rfl,rfl,rfl,trivial⟩ trivial ⟨rfl,rfl,trivial⟩ rfl
 refine go_loop (fun (k:Nat)=>SS.mkQ [(5,.unk 17 id),(6,.unk 28 id),(18,.val (Value.int .i64 ((k:Nat):Int)))] [] [(17,stmPd (Sh.kvAt g0 64 (k)) (decide (0<k))),(28,rowPd 24 4 ((kl g0 (k)).length) (ncl (kl g0 (k))))]) (fun k=>k≤8) (fun k=>8-k) (i:=0) (h.keepQ [(5,.unk 17 id),(6,.unk 28 id),(18,.val (Value.int .i64 ((0:Nat):Int)))] [] [(17,stmPd (Sh.kvAt g0 64 (0)) (decide (0<0))),(28,rowPd 24 4 ((kl g0 (0)).length) (ncl (kl g0 (0))))] ⟨rfl,rfl,rfl,T0⟩ T0 ⟨rfl,rfl,T0⟩ rfl) (Nat.zero_le _) (fun k a w hG h=>?_)
 by_cases hs:k<8
 ·skip
  have hkl:=kl_len g0 k
  refine aXQ h [0] [eS 19 (.val (Value.bool true))] ⟨fun L u=>u_bin u (gd0 rfl) _ rfl _ _ _ _ _ rfl rfl rfl (eqg_int _ _ _ _ _ _ _ _) _ (yes_of (fun w=>i_lss _ _ _ _ w) (by omega)),T0⟩ [(5,_),(6,_),(18,_),(19,.val (Value.bool true))] [] [(17,stmPd (Sh.kvAt g0 64 (k)) (decide (0<k))),(28,rowPd 24 4 ((kl g0 (k)).length) (ncl (kl g0 (k))))] (fun a w h=>?_)
  refine wp_seq ?_
  refine go_cond h true rfl (fun ht=>?_) (fun hf=>?_)
  case refine_2=>cases hf
  refine wp_skip ?_
  refine then_norm ?_
  refine wp_seq ?_
  refine wp_block ?_
  refine aXQ h [0,1,2] [eS 20 (.unk 17 id),eT 21 (.val (.agg (by32 (fun j=>(((Sh.kvAt g0 64 (k+1)).v j:Nat):Int))).toArray)) 17 (stmPd (Sh.kvAt g0 64 (k+1)) (decide (0<k+1))),eS 22 (.val (.agg (nc (((ks g0 k:Nat):Int))).toArray)),eN 7 _,eM 7 _] ⟨fun L u=>u_copyQ u (gd0 rfl) 20 rfl (.tmp 5) (Or.inl rfl) rfl rfl,fun L u=>u_callT u (gd0 rfl) 21 rfl 62 #[(.tmp 20)] #[78] rfl [.unk 17 id] rfl (fun vs w=>callFunc_enter Tryz.func62 (by kernel_rfl) (by kernel_rfl) vs w) 17 rfl (.agg (by32 (fun j=>(((Sh.kvAt g0 64 (k+1)).v j:Nat):Int))).toArray) (stmPd (Sh.kvAt g0 64 (k+1)) (decide (0<k+1))) (fun β a w hr=>qNextAt (hH.keep (Bs.kp_of hr.bl)) (hr.thing (x:=17) (u.q rfl))),fun L u=>u_call u (gd0 rfl) _ rfl _ _ _ rfl [_] rfl (cT61 _) _ (fun w hb=>qFH (fun j=>(kv_ok g0 (k+1)).2 j)),rfl,rfl,T0⟩ [(5,_),(6,_),(7,.ptr 7 0),(18,_)] [(7,nc (((ks g0 k:Nat):Int)))] [(17,stmPd (Sh.kvAt g0 64 (k+1)) (decide (0<k+1))),(28,rowPd 24 4 ((kl g0 (k)).length) (ncl (kl g0 (k))))] (fun a w h=>?_)
  by_cases hw:wi (ks g0 k)=true
  ·skip
   refine aXQ h [1] [eS 23 _,eS 24 (.val (Value.bool true))] ⟨rfl,fun L u=>u_call u (gd0 rfl) _ rfl _ _ _ rfl [_] rfl (cT25 _) (Value.bool true) (fun w hb=>by have q:=qIn (hT.keep (Bs.kp_of hb)) (ks_lt g0 k);rw [hw] at q;exact q),T0⟩ [(5,_),(6,_),(7,_),(18,_),(24,.val (Value.bool true))] [(7,_)] [(17,stmPd (Sh.kvAt g0 64 (k+1)) (decide (0<k+1))),(28,rowPd 24 4 ((kl g0 (k)).length) (ncl (kl g0 (k))))] (fun a w h=>?_)
   refine go_cond h true rfl (fun ht=>?_) (fun hf=>?_)
   case refine_2=>cases hf
   refine sq_begin [0,1,2,3,4] rfl ?_
   refine sq_step h (i:=0) rfl (u_copyQ (xs:=[]) (up_seq (i:=0) (by kernel_rfl) rfl) (gd0 rfl) 25 rfl (.tmp 6) (Or.inl rfl) rfl rfl) (fun a w h=>?_)
   refine sq_step h (i:=1) rfl (u_load (xs:=[]) (up_seq (i:=1) (by kernel_rfl) rfl) (gd0 rfl) 26 rfl 24 (.tmp 7) rfl rfl rfl Tryz.underlying24 rfl i24T (lk rfl) _ rfl) (fun a w h=>?_)
   refine sq_step h (i:=2) rfl (u_lit1 (xs:=[]) (up_seq (i:=2) (by kernel_rfl) rfl) (gd0 rfl) 27 rfl rfl 32 (.tmp 26) rfl rfl Tryz.underlying32 infoN1 (by decide) (by decide) (nc (((ks g0 k:Nat):Int))) rfl (by kernel_rfl)) (fun a w h=>?_)
   refine sq_appR (z:=.agg nz.toArray) Tryz.underlying32 infoN3 rfl (by decide) (by decide) h (i:=3) rfl (gq0 rfl) 28 rfl (.tmp 25) (.tmp 27) rfl 28 rfl (k:=(kl g0 (k)).length) (cs:=ncl (kl g0 (k))) rfl (Or.inl rfl) (m:=1) (news:=nc (((ks g0 k:Nat):Int))) rfl (nc_one _) (fun β hr=>by obtain ⟨p,c,e1,e2⟩:=row_src (hr.thing (x:=27) (p:=rowPd 24 4 (1) (nc (((ks g0 k:Nat):Int)))) rfl) (by decide);exact ⟨_,c,(hr.eval (v:=.unk 27 id) rfl).trans e1,e2⟩) (by omega) [(5,.unk 17 id),(18,.val (Value.int .i64 ((k:Nat):Int)))] ⟨rfl,rfl,T0⟩ rfl (fun a w h=>?_)
   replace h:=h.keepQ [(5,.unk 17 id),(18,.val (Value.int .i64 ((k:Nat):Int))),(28,.unk 28 id)] [] [(17,stmPd (Sh.kvAt g0 64 (k+1)) (decide (0<k+1))),(28,rowPd 24 4 ((kl g0 (k)).length+1) (ncl (kl g0 (k))++nc (((ks g0 k:Nat):Int))))] ⟨rfl,rfl,rfl,trivial⟩ trivial ⟨rfl,rfl,trivial⟩ rfl
   refine sq_step h (i:=4) rfl (u_copyQ (xs:=[]) (up_seq (i:=4) (by kernel_rfl) rfl) (gd0 rfl) 6 rfl (.tmp 28) (Or.inr rfl) rfl rfl) (fun a w h=>?_)
   replace h:=h.keepQ [(5,.unk 17 id),(6,.unk 28 id),(18,.val (Value.int .i64 ((k:Nat):Int)))] [] [(17,stmPd (Sh.kvAt g0 64 (k+1)) (decide (0<k+1))),(28,rowPd 24 4 ((kl g0 (k)).length+1) (ncl (kl g0 (k))++nc (((ks g0 k:Nat):Int))))] ⟨rfl,rfl,rfl,trivial⟩ trivial ⟨rfl,rfl,trivial⟩ rfl
   refine sq_end ?_
   refine blk_norm ?_
   refine then_norm ?_
   refine aEQ h [0] [eS 29 (.val (Value.int .i64 ((k+1:Nat):Int))),eS 18 _] ⟨fun L u=>u_bin u (gd0 rfl) _ rfl _ _ _ _ _ rfl rfl rfl (eqg_int _ _ _ _ _ _ _ _) _ (fun w=>i_add _ _ _ _ (by omega) ⟨by omega,by omega⟩ w),rfl,T0⟩ [(5,_),(6,_),(18,.val (Value.int .i64 ((k+1:Nat):Int)))] [] [(17,stmPd (Sh.kvAt g0 64 (k+1)) (decide (0<k+1))),(28,rowPd 24 4 ((kl g0 (k)).length+1) (ncl (kl g0 (k))++nc (((ks g0 k:Nat):Int))))] (fun a w h=>?_)
   refine then_norm ?_
   exact ⟨k+1,(by omega),(by omega),h.keepQ [(5,.unk 17 id),(6,.unk 28 id),(18,.val (Value.int .i64 ((k+1:Nat):Int)))] [] [(17,stmPd (Sh.kvAt g0 64 (k+1)) (decide (0<k+1))),(28,rowPd 24 4 ((kl g0 (k+1)).length) (ncl (kl g0 (k+1))))] ⟨rfl,rfl,rfl,trivial⟩ trivial ⟨rfl,(congrArg some (row_yes hw)),trivial⟩ rfl⟩
  ·skip
   refine aXQ h [1] [eS 23 _,eS 24 (.val (Value.bool false))] ⟨rfl,fun L u=>u_call u (gd0 rfl) _ rfl _ _ _ rfl [_] rfl (cT25 _) (Value.bool false) (fun w hb=>by have q:=qIn (hT.keep (Bs.kp_of hb)) (ks_lt g0 k);rw [show wi (ks g0 k)=false by simpa using hw] at q;exact q),T0⟩ [(5,_),(6,_),(7,_),(18,_),(24,.val (Value.bool false))] [(7,_)] [(17,stmPd (Sh.kvAt g0 64 (k+1)) (decide (0<k+1))),(28,rowPd 24 4 ((kl g0 (k)).length) (ncl (kl g0 (k))))] (fun a w h=>?_)
   refine go_cond h false rfl (fun ht=>?_) (fun hf=>?_)
   case refine_1=>cases ht
   refine wp_skip ?_
   refine blk_norm ?_
   refine then_norm ?_
   refine aEQ h [0] [eS 29 (.val (Value.int .i64 ((k+1:Nat):Int))),eS 18 _] ⟨fun L u=>u_bin u (gd0 rfl) _ rfl _ _ _ _ _ rfl rfl rfl (eqg_int _ _ _ _ _ _ _ _) _ (fun w=>i_add _ _ _ _ (by omega) ⟨by omega,by omega⟩ w),rfl,T0⟩ [(5,_),(6,_),(18,.val (Value.int .i64 ((k+1:Nat):Int)))] [] [(17,stmPd (Sh.kvAt g0 64 (k+1)) (decide (0<k+1))),(28,rowPd 24 4 ((kl g0 (k)).length) (ncl (kl g0 (k))))] (fun a w h=>?_)
   refine then_norm ?_
   exact ⟨k+1,(by omega),(by omega),h.keepQ [(5,.unk 17 id),(6,.unk 28 id),(18,.val (Value.int .i64 ((k+1:Nat):Int)))] [] [(17,stmPd (Sh.kvAt g0 64 (k+1)) (decide (0<k+1))),(28,rowPd 24 4 ((kl g0 (k+1)).length) (ncl (kl g0 (k+1))))] ⟨rfl,rfl,rfl,trivial⟩ trivial ⟨rfl,(congrArg some (row_no (by simpa using hw))),trivial⟩ rfl⟩
 ·skip
  have hk8:k=8:=by omega
  refine aXQ h [0] [eS 19 (.val (Value.bool false))] ⟨fun L u=>u_bin u (gd0 rfl) _ rfl _ _ _ _ _ rfl rfl rfl (eqg_int _ _ _ _ _ _ _ _) _ (no_of (fun w=>i_lss _ _ _ _ w) (by omega)),T0⟩ [(5,_),(6,_),(18,_),(19,.val (Value.bool false))] [] [(17,stmPd (Sh.kvAt g0 64 (k)) (decide (0<k))),(28,rowPd 24 4 ((kl g0 (k)).length) (ncl (kl g0 (k))))] (fun a w h=>?_)
  refine wp_seq ?_
  refine go_cond h false rfl (fun ht=>?_) (fun hf=>?_)
  case refine_1=>cases ht
  refine wp_exit ?_
  refine then_exit ?_
  refine then_exit ?_
  refine blk_exit ?_
  refine then_norm ?_
  refine aXQ h [0,1] [eS 30 (.unk 28 id),eS 4 (.unk 28 id)] ⟨fun L u=>u_copyQ u (gd0 rfl) 30 rfl (.tmp 6) (Or.inl rfl) rfl rfl,fun L u=>u_copyQ u (gd0 rfl) 4 rfl (.tmp 30) (Or.inr rfl) rfl rfl,T0⟩ [(4,.unk 28 id)] [] [(28,rowPd 24 4 ((kl g0 (k)).length) (ncl (kl g0 (k))))] (fun a w h=>?_)
  refine wp_ret ?_
  refine ret_thing h 4 rfl (lk rfl) 28 id rfl rfl (fun v F hp hF=>?_)
  exact ⟨v,F,rfl,by rw [hk8] at hp;exact hp,hF,h.grows⟩
theorem qNon {w:World} (hT:Tab w) (hH:Sh.Tab w) {A Z:Nat} (hA:A<2 ^ 256) (hZ:Z<2 ^ 256):Calls Tryz.prog 30 [.agg (nc (((A:Nat):Int))).toArray,.agg (nc (((Z:Nat):Int))).toArray].toArray w fun e w'=>∃ v Fp,e=.returned v∧(nrPd (nns A (mo (Z:Int)))).p v Fp w'∧(∀ b,Fp b=true→w.heap.size≤b∧b<w'.heap.size)∧Below w.heap.size w w':=by
 cases hw:wi A with
 | false =>
  rw [nns_no hw]
  refine Calls.mono (qNon_no hT hA hw) ?_
  rintro e w' ⟨rfl,hb⟩
  exact ⟨_,fun _=>false,rfl,nr_nil w',(fun b h=>by cases h),hb⟩
 | true =>
  rw [nns_yes hw]
  exact qNon_yes hT hH hA hZ hw (mo_eq _) rfl
theorem be2_lt (A z1:Nat):∀ x ∈ De.be A 32++(De.be z1 32),x<256:=fun x hx=>(List.mem_append.1 hx).elim (De.be_lt A 32 x) (De.be_lt z1 32 x)
theorem rNon_at {w:World} (hT:Tab w) {A n c z0 z1:Nat} {z:Option Addr} {f g0:Nat→Nat} (hba:BA w z n f) (hn:n≤100000) (hz0:zN f n=z0) (hz2:z0<2 ^ 256) (hz1:(z0:Int) % md 1=(z1:Int)) (hg0:(fun i=>(De.be A 32++De.be z1 32).getD i 0)=g0):Calls Tryz.prog 13 [.agg (nc (((A:Nat):Int))).toArray,Value.slice (z) (n) (c),Value.int .i64 8].toArray w fun e w'=>∃ v Fp,e=.returned v∧(nrPd (kl g0 8)).p v Fp w'∧(∀ b,Fp b=true→w.heap.size≤b∧b<w'.heap.size)∧Below w.heap.size w w':=by
 refine enter (args:=[.agg (nc (((A:Nat):Int))).toArray,Value.slice (z) (n) (c),Value.int .i64 8]) Tryz.func13 rfl 38 rfl (lk rfl) (fun a h=>?_)
 refine aX h [] [eN 3 _,eS 6 _] ⟨rfl,rfl,T0⟩ [(1,.val (Value.slice (z) (n) (c))),(2,.val (Value.int .i64 8)),(3,.ptr 3 0)] [(3,nc (((A:Nat):Int)))] (fun a w h=>?_)
 refine aX h [] [eS 7 _] ⟨rfl,T0⟩ [(1,_),(2,_),(3,_),(7,.val ((Value.slice none 0 0)))] [(3,_)] (fun a w h=>?_)
 refine aXQ h [2,4,5] [eS 12 _,eS 13 _,eQ 14 (rowPd 5 1 (32+(32)) (cells8 (De.be A 32++(De.be z1 32)))),eS 15 _,eQ 16 (rcPd 8 32 (Sh.hcells (fun i=>(Sh.kvAt g0 64 (i+1)).v) 8)),eS 8 (.unk 16 id)] ⟨rfl,rfl,fun L u=>u_callQ u (gd0 rfl) 14 rfl rfl 33 #[(.tmp 12),(.tmp 13)] #[24,25] rfl [.val (.agg (nc (((A:Nat):Int))).toArray),.val (Value.slice (z) (n) (c))] rfl (fun vs w=>callFunc_enter Tryz.func33 (by kernel_rfl) (by kernel_rfl) vs w) (rowPd 5 1 (32+(32)) (cells8 (De.be A 32++(De.be z1 32)))) (fun β a w hr=>thing_of (rSeed (hT.keep (Bs.kp_of hr.bl)) (hba.keep (Bs.kp_of hr.bl)) hn hz0 hz2 hz1)),rfl,fun L u=>u_callQ u (gd0 rfl) 16 rfl rfl 32 #[(.tmp 14),(.tmp 15)] #[25,3] rfl [.unk 14 id,.val (Value.int .i64 8)] rfl (fun vs w=>callFunc_enter Tryz.func32 (by kernel_rfl) (by kernel_rfl) vs w) (rcPd 8 32 (Sh.hcells (fun i=>(Sh.kvAt g0 64 (i+1)).v) 8)) (fun β a w hr=>by obtain ⟨z,c,e1,_,_,e4⟩:=row_ba (hr.thing (x:=14) (u.q rfl)) (be2_lt A z1);show Calls _ _ [(β 14).v,Value.int .i64 8].toArray _ _;rw [e1];rw [hg0] at e4;exact rNumbers e4),fun L u=>u_copyQ u (gd0 rfl) 8 rfl (.tmp 16) (Or.inr rfl) rfl rfl,T0⟩ [(7,_),(8,.unk 16 id)] [] [(16,rcPd 8 32 (Sh.hcells (fun i=>(Sh.kvAt g0 64 (i+1)).v) 8))] (fun a w h=>?_)
 refine wp_seq ?_
 refine aXQ h [] [eS 9 _] ⟨rfl,T0⟩ [(7,_),(8,_),(9,.val ((Value.int IntKind.i64 0)))] [] [(16,rcPd 8 32 (Sh.hcells (fun i=>(Sh.kvAt g0 64 (i+1)).v) 8))] (fun a w h=>?_)
 refine wp_block ?_
 replace h:=(h.nil 24 4 36 7 rfl rfl).keepQ [(7,.unk 36 id),(8,.unk 16 id),(9,.val ((Value.int IntKind.i64 0)))] [] [(16,rcPd 8 32 (Sh.hcells (fun i=>(Sh.kvAt g0 64 (i+1)).v) 8)),(36,rowPd 24 4 0 [])] ⟨rfl,rfl,rfl,trivial⟩ trivial ⟨rfl,rfl,trivial⟩ rfl
 refine go_loop (fun (k:Nat)=>SS.mkQ [(7,.unk 36 id),(8,.unk 16 id),(9,.val (Value.int .i64 ((k:Nat):Int)))] [] [(16,rcPd 8 32 (Sh.hcells (fun i=>(Sh.kvAt g0 64 (i+1)).v) 8)),(36,rowPd 24 4 ((kl g0 (k)).length) (ncl (kl g0 (k))))]) (fun k=>k≤8) (fun k=>8-k) (i:=0) (h.keepQ [(7,.unk 36 id),(8,.unk 16 id),(9,.val (Value.int .i64 ((0:Nat):Int)))] [] [(16,rcPd 8 32 (Sh.hcells (fun i=>(Sh.kvAt g0 64 (i+1)).v) 8)),(36,rowPd 24 4 ((kl g0 (0)).length) (ncl (kl g0 (0))))] ⟨rfl,rfl,rfl,T0⟩ T0 ⟨rfl,rfl,T0⟩ rfl) (Nat.zero_le _) (fun k a w hG h=>?_)
 by_cases hs:k<8
 ·skip
  have hkl:=kl_len g0 k
  refine wp_seq ?_
  refine aXQ h [1,2,3] [eS 17 _,eS 18 (.unk 16 id),eS 19 (.val (Value.int .i64 ((8:Nat):Int))),eS 20 (.val (Value.bool true))] ⟨rfl,fun L u=>u_copyQ u (gd0 rfl) 18 rfl (.tmp 8) (Or.inl rfl) rfl rfl,fun L u=>u_lenC u (gd0 rfl) 19 rfl (.tmp 18) 55 rfl rfl rfl vc_rc Tryz.underlying55,fun L u=>u_bin u (gd0 rfl) _ rfl _ _ _ _ _ rfl rfl rfl (eqg_int _ _ _ _ _ _ _ _) _ (yes_of (fun w=>i_lss _ _ _ _ w) (by omega)),T0⟩ [(7,_),(8,_),(9,_),(20,.val (Value.bool true))] [] [(16,rcPd 8 32 (Sh.hcells (fun i=>(Sh.kvAt g0 64 (i+1)).v) 8)),(36,rowPd 24 4 ((kl g0 (k)).length) (ncl (kl g0 (k))))] (fun a w h=>?_)
  refine go_cond h true rfl (fun ht=>?_) (fun hf=>?_)
  case refine_2=>cases hf
  refine wp_skip ?_
  refine then_norm ?_
  refine wp_seq ?_
  refine wp_block ?_
  refine aXQ h [0,2,3,4] [eS 24 (.unk 16 id),eS 25 _,eS 26 (.unk 16 (elR (k*32))),eS 27 (.unk 16 (slR (k*32) 32)),eS 28 (.val (.tuple [Value.agg (nc (((ks g0 k:Nat):Int))).toArray,Value.bool true].toArray)),eS 23 _,eS 29 _,eS 30 _,eN 10 _,eM 10 _,eS 11 _] ⟨fun L u=>u_copyQ u (gd0 rfl) 24 rfl (.tmp 8) (Or.inl rfl) rfl rfl,rfl,fun L u=>u_atC u (gd0 rfl) 26 rfl 55 (.tmp 24) (.tmp 25) rfl rfl rfl vc_rc Tryz.underlying55 i60T (k) rfl (by omega) (k*32) rfl,fun L u=>u_sliC u (gd0 rfl) 27 rfl 60 (.tmp 26) rfl rfl rfl vc_rc Tryz.underlying60 i5T (by omega),fun L u=>u_callR u (gd0 rfl) 28 rfl 34 #[(.tmp 27)] #[25] rfl [.unk 16 (slR (k*32) 32)] rfl (fun vs w=>callFunc_enter Tryz.func34 (by kernel_rfl) (by kernel_rfl) vs w) (.tuple [.agg (nc (((ks g0 k:Nat):Int))).toArray,Value.bool true].toArray) (fun β a w hr=>by obtain ⟨z,c,e1,_,e3,e4⟩:=vw_slR vc_rc (k*32) 32 (by decide) (l:=fl (Sh.kvAt g0 64 (k+1)).v 32) (hc_cut (fun i=>(Sh.kvAt g0 64 (i+1)).v) hs) (fl_len _ _) (fl_lt (fun j=>(kv_ok g0 (k+1)).2 j) 32) _ _ _ (hr.thing (x:=16) (u.q rfl));show Calls _ _ [slR (k*32) 32 (β 16).v].toArray _ _;rw [e1];exact De.refBig_num (fl_len _ _) (fl_lt (fun j=>(kv_ok g0 (k+1)).2 j) 32) e4),rfl,rfl,rfl,rfl,rfl,rfl,T0⟩ [(7,_),(8,_),(9,_),(10,.ptr 10 0)] [(10,nc (((ks g0 k:Nat):Int)))] [(16,rcPd 8 32 (Sh.hcells (fun i=>(Sh.kvAt g0 64 (i+1)).v) 8)),(36,rowPd 24 4 ((kl g0 (k)).length) (ncl (kl g0 (k))))] (fun a w h=>?_)
  by_cases hw:wi (ks g0 k)=true
  ·skip
   refine aXQ h [1] [eS 31 _,eS 32 (.val (Value.bool true))] ⟨rfl,fun L u=>u_call u (gd0 rfl) _ rfl _ _ _ rfl [_] rfl (cT28 _) (Value.bool true) (fun w hb=>by have q:=rWithin (w:=w) (ks_lt g0 k);rw [hw] at q;exact q),T0⟩ [(7,_),(8,_),(9,_),(10,_),(32,.val (Value.bool true))] [(10,_)] [(16,rcPd 8 32 (Sh.hcells (fun i=>(Sh.kvAt g0 64 (i+1)).v) 8)),(36,rowPd 24 4 ((kl g0 (k)).length) (ncl (kl g0 (k))))] (fun a w h=>?_)
   refine go_cond h true rfl (fun ht=>?_) (fun hf=>?_)
   case refine_2=>cases hf
   refine sq_begin [0,1,2,3,4] rfl ?_
   refine sq_step h (i:=0) rfl (u_copyQ (xs:=[]) (up_seq (i:=0) (by kernel_rfl) rfl) (gd0 rfl) 33 rfl (.tmp 7) (Or.inl rfl) rfl rfl) (fun a w h=>?_)
   refine sq_step h (i:=1) rfl (u_load (xs:=[]) (up_seq (i:=1) (by kernel_rfl) rfl) (gd0 rfl) 34 rfl 24 (.tmp 10) rfl rfl rfl Tryz.underlying24 rfl i24T (lk rfl) _ rfl) (fun a w h=>?_)
   refine sq_step h (i:=2) rfl (u_lit1 (xs:=[]) (up_seq (i:=2) (by kernel_rfl) rfl) (gd0 rfl) 35 rfl rfl 32 (.tmp 34) rfl rfl Tryz.underlying32 infoN1 (by decide) (by decide) (nc (((ks g0 k:Nat):Int))) rfl (by kernel_rfl)) (fun a w h=>?_)
   refine sq_appR (z:=.agg nz.toArray) Tryz.underlying32 infoN3 rfl (by decide) (by decide) h (i:=3) rfl (gq0 rfl) 36 rfl (.tmp 33) (.tmp 35) rfl 36 rfl (k:=(kl g0 (k)).length) (cs:=ncl (kl g0 (k))) rfl (Or.inl rfl) (m:=1) (news:=nc (((ks g0 k:Nat):Int))) rfl (nc_one _) (fun β hr=>by obtain ⟨p,c,e1,e2⟩:=row_src (hr.thing (x:=35) (p:=rowPd 24 4 (1) (nc (((ks g0 k:Nat):Int)))) rfl) (by decide);exact ⟨_,c,(hr.eval (v:=.unk 35 id) rfl).trans e1,e2⟩) (by omega) [(8,.unk 16 id),(9,.val (Value.int .i64 ((k:Nat):Int)))] ⟨rfl,rfl,T0⟩ rfl (fun a w h=>?_)
   replace h:=h.keepQ [(8,.unk 16 id),(9,.val (Value.int .i64 ((k:Nat):Int))),(36,.unk 36 id)] [] [(16,rcPd 8 32 (Sh.hcells (fun i=>(Sh.kvAt g0 64 (i+1)).v) 8)),(36,rowPd 24 4 ((kl g0 (k)).length+1) (ncl (kl g0 (k))++nc (((ks g0 k:Nat):Int))))] ⟨rfl,rfl,rfl,trivial⟩ trivial ⟨rfl,rfl,trivial⟩ rfl
   refine sq_step h (i:=4) rfl (u_copyQ (xs:=[]) (up_seq (i:=4) (by kernel_rfl) rfl) (gd0 rfl) 7 rfl (.tmp 36) (Or.inr rfl) rfl rfl) (fun a w h=>?_)
   replace h:=h.keepQ [(7,.unk 36 id),(8,.unk 16 id),(9,.val (Value.int .i64 ((k:Nat):Int)))] [] [(16,rcPd 8 32 (Sh.hcells (fun i=>(Sh.kvAt g0 64 (i+1)).v) 8)),(36,rowPd 24 4 ((kl g0 (k)).length+1) (ncl (kl g0 (k))++nc (((ks g0 k:Nat):Int))))] ⟨rfl,rfl,rfl,trivial⟩ trivial ⟨rfl,rfl,trivial⟩ rfl
   refine sq_end ?_
   refine blk_norm ?_
   refine then_norm ?_
   refine aEQ h [1] [eS 21 _,eS 22 (.val (Value.int .i64 ((k+1:Nat):Int))),eS 9 _] ⟨rfl,fun L u=>u_bin u (gd0 rfl) _ rfl _ _ _ _ _ rfl rfl rfl (eqg_int _ _ _ _ _ _ _ _) _ (fun w=>i_add _ _ _ _ (by omega) ⟨by omega,by omega⟩ w),rfl,T0⟩ [(7,_),(8,_),(9,.val (Value.int .i64 ((k+1:Nat):Int)))] [] [(16,rcPd 8 32 (Sh.hcells (fun i=>(Sh.kvAt g0 64 (i+1)).v) 8)),(36,rowPd 24 4 ((kl g0 (k)).length+1) (ncl (kl g0 (k))++nc (((ks g0 k:Nat):Int))))] (fun a w h=>?_)
   refine then_norm ?_
   exact ⟨k+1,(by omega),(by omega),h.keepQ [(7,.unk 36 id),(8,.unk 16 id),(9,.val (Value.int .i64 ((k+1:Nat):Int)))] [] [(16,rcPd 8 32 (Sh.hcells (fun i=>(Sh.kvAt g0 64 (i+1)).v) 8)),(36,rowPd 24 4 ((kl g0 (k+1)).length) (ncl (kl g0 (k+1))))] ⟨rfl,rfl,rfl,trivial⟩ trivial ⟨rfl,(congrArg some (row_yes hw)),trivial⟩ rfl⟩
  ·skip
   refine aXQ h [1] [eS 31 _,eS 32 (.val (Value.bool false))] ⟨rfl,fun L u=>u_call u (gd0 rfl) _ rfl _ _ _ rfl [_] rfl (cT28 _) (Value.bool false) (fun w hb=>by have q:=rWithin (w:=w) (ks_lt g0 k);rw [show wi (ks g0 k)=false by simpa using hw] at q;exact q),T0⟩ [(7,_),(8,_),(9,_),(10,_),(32,.val (Value.bool false))] [(10,_)] [(16,rcPd 8 32 (Sh.hcells (fun i=>(Sh.kvAt g0 64 (i+1)).v) 8)),(36,rowPd 24 4 ((kl g0 (k)).length) (ncl (kl g0 (k))))] (fun a w h=>?_)
   refine go_cond h false rfl (fun ht=>?_) (fun hf=>?_)
   case refine_1=>cases ht
   refine wp_skip ?_
   refine blk_norm ?_
   refine then_norm ?_
   refine aEQ h [1] [eS 21 _,eS 22 (.val (Value.int .i64 ((k+1:Nat):Int))),eS 9 _] ⟨rfl,fun L u=>u_bin u (gd0 rfl) _ rfl _ _ _ _ _ rfl rfl rfl (eqg_int _ _ _ _ _ _ _ _) _ (fun w=>i_add _ _ _ _ (by omega) ⟨by omega,by omega⟩ w),rfl,T0⟩ [(7,_),(8,_),(9,.val (Value.int .i64 ((k+1:Nat):Int)))] [] [(16,rcPd 8 32 (Sh.hcells (fun i=>(Sh.kvAt g0 64 (i+1)).v) 8)),(36,rowPd 24 4 ((kl g0 (k)).length) (ncl (kl g0 (k))))] (fun a w h=>?_)
   refine then_norm ?_
   exact ⟨k+1,(by omega),(by omega),h.keepQ [(7,.unk 36 id),(8,.unk 16 id),(9,.val (Value.int .i64 ((k+1:Nat):Int)))] [] [(16,rcPd 8 32 (Sh.hcells (fun i=>(Sh.kvAt g0 64 (i+1)).v) 8)),(36,rowPd 24 4 ((kl g0 (k+1)).length) (ncl (kl g0 (k+1))))] ⟨rfl,rfl,rfl,trivial⟩ trivial ⟨rfl,(congrArg some (row_no (by simpa using hw))),trivial⟩ rfl⟩
 ·skip
  have hk8:k=8:=by omega
  refine wp_seq ?_
  refine aXQ h [1,2,3] [eS 17 _,eS 18 (.unk 16 id),eS 19 (.val (Value.int .i64 ((8:Nat):Int))),eS 20 (.val (Value.bool false))] ⟨rfl,fun L u=>u_copyQ u (gd0 rfl) 18 rfl (.tmp 8) (Or.inl rfl) rfl rfl,fun L u=>u_lenC u (gd0 rfl) 19 rfl (.tmp 18) 55 rfl rfl rfl vc_rc Tryz.underlying55,fun L u=>u_bin u (gd0 rfl) _ rfl _ _ _ _ _ rfl rfl rfl (eqg_int _ _ _ _ _ _ _ _) _ (no_of (fun w=>i_lss _ _ _ _ w) (by omega)),T0⟩ [(7,_),(8,_),(9,_),(20,.val (Value.bool false))] [] [(16,rcPd 8 32 (Sh.hcells (fun i=>(Sh.kvAt g0 64 (i+1)).v) 8)),(36,rowPd 24 4 ((kl g0 (k)).length) (ncl (kl g0 (k))))] (fun a w h=>?_)
  refine go_cond h false rfl (fun ht=>?_) (fun hf=>?_)
  case refine_1=>cases ht
  refine wp_exit ?_
  refine then_exit ?_
  refine then_exit ?_
  refine blk_exit ?_
  refine then_norm ?_
  refine aXQ h [0,1] [eS 37 (.unk 36 id),eS 6 (.unk 36 id)] ⟨fun L u=>u_copyQ u (gd0 rfl) 37 rfl (.tmp 7) (Or.inl rfl) rfl rfl,fun L u=>u_copyQ u (gd0 rfl) 6 rfl (.tmp 37) (Or.inr rfl) rfl rfl,T0⟩ [(6,.unk 36 id)] [] [(36,rowPd 24 4 ((kl g0 (k)).length) (ncl (kl g0 (k))))] (fun a w h=>?_)
  refine wp_ret ?_
  refine ret_thing h 6 rfl (lk rfl) 36 id rfl rfl (fun v F hp hF=>?_)
  exact ⟨v,F,rfl,by rw [hk8] at hp;exact hp,hF,h.grows⟩
theorem rNon {w:World} (hT:Tab w) {A n c:Nat} {z:Option Addr} {f:Nat→Nat} (hba:BA w z n f) (hn:n≤100000):Calls Tryz.prog 13 [.agg (nc (((A:Nat):Int))).toArray,.slice z n c,.int .i64 8].toArray w fun e w'=>∃ v Fp,e=.returned v∧(nrPd (kl (sdF A (mo (zN f n:Int))) 8)).p v Fp w'∧(∀ b,Fp b=true→w.heap.size≤b∧b<w'.heap.size)∧Below w.heap.size w w':=rNon_at hT hba hn rfl (zN_lt f n) (mo_eq _) rfl
end Go.Proofs.YtmigakanbeckpaaGreatDoor
namespace Go.Proofs.YtmigakanbeckpaaGreatDoor
open Go.RowKit
theorem cT12 (vs:List Value):∀ w,(callFunc 12 vs.toArray).run Tryz.prog w=.ok (.enter 12 vs.toArray) w:=callFunc_enter Tryz.func12 (by kernel_rfl) (by kernel_rfl) _
theorem qNce_no {w:World} {D n c:Nat} {z:Option Addr} {f:Nat→Nat} (hT:Tab w) (hH:Sh.Tab w) (hD:D<2 ^ 256) (hba:BA w z n f) (hc:n≤c) (hcm:c≤maxLen) (hn:n≤9223372036854775807) {l:List Nat} (hl:nns D (mo ((zN f n:Nat):Int))=l) (h0:l.length=0):Calls Tryz.prog 12 [.agg (nc (((D:Nat):Int))).toArray,Value.slice (z) (n) (c)].toArray w fun e w'=>e=.returned (.tuple [.agg nz.toArray,.bool false].toArray)∧Below w.heap.size w w':=by
 refine enter (args:=[.agg (nc (((D:Nat):Int))).toArray,Value.slice (z) (n) (c)]) Tryz.func12 rfl 18 rfl (lk rfl) (fun a h=>?_)
 refine aX h [] [eN 2 _,eN 4 _,eS 5 _] ⟨rfl,rfl,rfl,T0⟩ [(1,.val (Value.slice (z) (n) (c))),(2,.ptr 2 0),(4,.ptr 4 0)] [(2,nc (((D:Nat):Int))),(4,nz)] (fun a w h=>?_)
 refine aXQ h [2,3,4] [eS 7 _,eS 8 _,eS 9 (.val (.agg (nc (((zN f n:Nat):Int))).toArray)),eQ 10 (nrPd l),eS 6 (.unk 10 id)] ⟨rfl,rfl,fun L u=>u_call u (gd0 rfl) _ rfl _ _ _ rfl [_] rfl (cT31 _) _ (fun w hb=>qNum (hH.keep (Bs.kp_of hb)) (hba.keep (Bs.kp_of hb)) hc hcm hn),fun L u=>u_callQ u (gd0 rfl) 10 rfl rfl 30 #[(.tmp 7),(.tmp 9)] #[24,24] rfl [.val (.agg (nc (((D:Nat):Int))).toArray),.val (.agg (nc (((zN f n:Nat):Int))).toArray)] rfl (fun vs w=>callFunc_enter Tryz.func30 (by kernel_rfl) (by kernel_rfl) vs w) (nrPd l) (fun β a w hr=>by have q:=qNon (hT.keep (Bs.kp_of hr.bl)) (hH.keep (Bs.kp_of hr.bl)) hD (zN_lt f n);rw [hl] at q;exact q),fun L u=>u_copyQ u (gd0 rfl) 6 rfl (.tmp 10) (Or.inr rfl) rfl rfl,T0⟩ [(4,_),(6,.unk 10 id)] [(4,_)] [(10,nrPd l)] (fun a w h=>?_)
 refine wp_seq ?_
 refine aXQ h [0,1,2] [eS 11 (.unk 10 id),eS 12 (.val (Value.int .i64 ((l.length:Nat):Int))),eS 13 (.val (Value.bool true))] ⟨fun L u=>u_copyQ u (gd0 rfl) 11 rfl (.tmp 6) (Or.inl rfl) rfl rfl,fun L u=>u_lenC u (gd0 rfl) 12 rfl (.tmp 11) 32 rfl rfl rfl vc_row Tryz.underlying32,fun L u=>u_bin u (gd0 rfl) _ rfl _ _ _ _ _ rfl rfl rfl (eqg_int _ _ _ _ _ _ _ _) _ (yes_of (fun w=>i_eql _ _ _ _ w) (by omega)),T0⟩ [(4,_),(6,_),(13,.val (Value.bool true))] [(4,_)] [(10,nrPd l)] (fun a w h=>?_)
 refine go_cond h true rfl (fun ht=>?_) (fun hf=>?_)
 case refine_2=>cases hf
 refine aX h [0] [eS 14 (.val (.agg (nz).toArray)),eM 4 _,eS 5 _] ⟨fun L u=>u_build u (gd0 rfl) 14 rfl 24 #[] rfl [] rfl (nz) (nb0X),rfl,rfl,T0⟩ [(4,_),(5,.val (Value.bool false))] [(4,_)] (fun a w h=>?_)
 refine wp_ret ?_
 refine then_ret ?_
 refine ret_two h _ _ rfl (ans_row (cs:=nz) 4 (lk rfl) 24 rfl rfl Tryz.underlying24 rfl i24T) (ans_tmp (v:=Value.bool false) 5 (lk rfl) rfl) ?_
 exact ⟨rfl,h.grows⟩
theorem qNce_yes {w:World} {D n c:Nat} {z:Option Addr} {f:Nat→Nat} (hT:Tab w) (hH:Sh.Tab w) (hD:D<2 ^ 256) (hba:BA w z n f) (hc:n≤c) (hcm:c≤maxLen) (hn:n≤9223372036854775807) {l:List Nat} (hl:nns D (mo ((zN f n:Nat):Int))=l) (h0:0<l.length):Calls Tryz.prog 12 [.agg (nc (((D:Nat):Int))).toArray,Value.slice (z) (n) (c)].toArray w fun e w'=>e=.returned (.tuple [.agg (nc ((l.getD 0 0:Nat):Int)).toArray,.bool true].toArray)∧Below w.heap.size w w':=by
 refine enter (args:=[.agg (nc (((D:Nat):Int))).toArray,Value.slice (z) (n) (c)]) Tryz.func12 rfl 18 rfl (lk rfl) (fun a h=>?_)
 refine aX h [] [eN 2 _,eN 4 _,eS 5 _] ⟨rfl,rfl,rfl,T0⟩ [(1,.val (Value.slice (z) (n) (c))),(2,.ptr 2 0),(4,.ptr 4 0)] [(2,nc (((D:Nat):Int))),(4,nz)] (fun a w h=>?_)
 refine aXQ h [2,3,4] [eS 7 _,eS 8 _,eS 9 (.val (.agg (nc (((zN f n:Nat):Int))).toArray)),eQ 10 (nrPd l),eS 6 (.unk 10 id)] ⟨rfl,rfl,fun L u=>u_call u (gd0 rfl) _ rfl _ _ _ rfl [_] rfl (cT31 _) _ (fun w hb=>qNum (hH.keep (Bs.kp_of hb)) (hba.keep (Bs.kp_of hb)) hc hcm hn),fun L u=>u_callQ u (gd0 rfl) 10 rfl rfl 30 #[(.tmp 7),(.tmp 9)] #[24,24] rfl [.val (.agg (nc (((D:Nat):Int))).toArray),.val (.agg (nc (((zN f n:Nat):Int))).toArray)] rfl (fun vs w=>callFunc_enter Tryz.func30 (by kernel_rfl) (by kernel_rfl) vs w) (nrPd l) (fun β a w hr=>by have q:=qNon (hT.keep (Bs.kp_of hr.bl)) (hH.keep (Bs.kp_of hr.bl)) hD (zN_lt f n);rw [hl] at q;exact q),fun L u=>u_copyQ u (gd0 rfl) 6 rfl (.tmp 10) (Or.inr rfl) rfl rfl,T0⟩ [(4,_),(6,.unk 10 id)] [(4,_)] [(10,nrPd l)] (fun a w h=>?_)
 refine wp_seq ?_
 refine aXQ h [0,1,2] [eS 11 (.unk 10 id),eS 12 (.val (Value.int .i64 ((l.length:Nat):Int))),eS 13 (.val (Value.bool false))] ⟨fun L u=>u_copyQ u (gd0 rfl) 11 rfl (.tmp 6) (Or.inl rfl) rfl rfl,fun L u=>u_lenC u (gd0 rfl) 12 rfl (.tmp 11) 32 rfl rfl rfl vc_row Tryz.underlying32,fun L u=>u_bin u (gd0 rfl) _ rfl _ _ _ _ _ rfl rfl rfl (eqg_int _ _ _ _ _ _ _ _) _ (no_of (fun w=>i_eql _ _ _ _ w) (by omega)),T0⟩ [(4,_),(6,_),(13,.val (Value.bool false))] [(4,_)] [(10,nrPd l)] (fun a w h=>?_)
 refine go_cond h false rfl (fun ht=>?_) (fun hf=>?_)
 case refine_1=>cases ht
 refine wp_skip ?_
 refine then_norm ?_
 refine aX h [0,1,2] [eS 15 (.unk 10 id),eS 16 (.unk 10 (elR (0*4))),eS 17 (.val (.agg (nc (((l.getD 0 0:Nat):Int))).toArray)),eM 4 _,eS 5 _] ⟨fun L u=>u_copyQ u (gd0 rfl) 15 rfl (.tmp 6) (Or.inl rfl) rfl rfl,fun L u=>u_atC u (gd0 rfl) 16 rfl 32 (.tmp 15) (.const (.int .i64 0)) rfl rfl rfl vc_row Tryz.underlying32 i24T (0) rfl (by omega) (0*4) rfl,fun L u=>u_loadC u (gd0 rfl) 17 rfl 24 (.tmp 16) rfl rfl rfl vc_row Tryz.underlying24 rfl i24T (by omega) (nc (((l.getD 0 0:Nat):Int))) (ncl_at l 0 (by omega)) rfl,rfl,rfl,T0⟩ [(4,_),(5,.val (Value.bool true))] [(4,nc (((l.getD 0 0:Nat):Int)))] (fun a w h=>?_)
 refine wp_ret ?_
 refine ret_two h _ _ rfl (ans_row (cs:=nc (((l.getD 0 0:Nat):Int))) 4 (lk rfl) 24 rfl rfl Tryz.underlying24 rfl i24T) (ans_tmp (v:=Value.bool true) 5 (lk rfl) rfl) ?_
 exact ⟨rfl,h.grows⟩
end Go.Proofs.YtmigakanbeckpaaGreatDoor
namespace Go.Proofs.YtmigakanbeckpaaGreatDoor
open Go.RowKit
theorem fst_rd {p:Pd} {b v:Value} {F:Nat→Bool} {w:World} (h:(tupPd p b).p v F w):p.p (fstV v) F w:=by
 obtain ⟨u,rfl,hu⟩:=h
 exact hu
theorem rd_nilV (w:World):(rdPd 0 []).p (.slice none 0 0) (fun _=>false) w:=⟨none,0,rfl,Nat.le_refl _,rfl,⟨fun i=>by simp,Or.inl rfl⟩,fun p hp=>by cases hp⟩
theorem sameV {n:Nat} {l:List Nat} {v1 v2:Value} {F1 F2:Nat→Bool} {w:World} (hn:n≤1000) (h1:(rdPd n l).p v1 F1 w) (h2:(rdPd n l).p v2 F2 w):Calls Tryz.prog 11 [v1,v2].toArray w fun e w'=>e=.returned (.bool true)∧Below w.heap.size w w':=by
 obtain ⟨z1,c1,rfl,_,_,b1,_⟩:=h1
 obtain ⟨z2,c2,rfl,_,_,b2,_⟩:=h2
 exact same_ba hn b1 b2
theorem ptL_len (a:Wp m0):(ptL a).length≤65:=by
 cases a with
 | none=>decide
 | some q=>exact Nat.le_of_eq (fl_len _ _)
theorem nb1X:Tryz.prog.built 24 [(0,.int .u64 1),(1,.int .u64 0),(2,.int .u64 0),(3,.int .u64 0)]=some (nc ((1:Nat):Int)).toArray:=by kernel_rfl
theorem wi_1:wi 1=true:=by decide
theorem cT8 (vs:List Value):∀ w,(callFunc 8 vs.toArray).run Tryz.prog w=.ok (.enter 8 vs.toArray) w:=callFunc_enter Tryz.func8 (by kernel_rfl) (by kernel_rfl) _
theorem cT24 (vs:List Value):∀ w,(callFunc 24 vs.toArray).run Tryz.prog w=.ok (.enter 24 vs.toArray) w:=callFunc_enter Tryz.func24 (by kernel_rfl) (by kernel_rfl) _
theorem qPubN {w:World} (hT:Tab w) {D:Nat} (hD:D<2 ^ 256) (hw:wi D=false):Calls Tryz.prog 9 [.agg (nc (((D:Nat):Int))).toArray].toArray w fun e w'=>∃ v Fp,e=.returned v∧(tupPd (rdPd (0) ([])) (.bool false)).p v Fp w'∧(∀ b,Fp b=true→w.heap.size≤b∧b<w'.heap.size)∧Below w.heap.size w w':=by
 refine enter (args:=[.agg (nc (((D:Nat):Int))).toArray]) Tryz.func9 rfl 10 rfl (lk rfl) (fun a h=>?_)
 refine aX h [] [eN 1 _,eS 2 _,eS 3 _] ⟨rfl,rfl,rfl,T0⟩ [(1,.ptr 1 0)] [(1,nc (((D:Nat):Int)))] (fun a w h=>?_)
 refine wp_seq ?_
 refine aX h [1] [eS 4 _,eS 5 (.val (Value.bool false)),eS 6 _] ⟨rfl,fun L u=>u_call u (gd0 rfl) _ rfl _ _ _ rfl [_] rfl (cT25 _) (Value.bool false) (fun w hb=>by have q:=qIn (hT.keep (Bs.kp_of hb)) hD;rw [hw] at q;exact q),rfl,T0⟩ [(1,_),(6,.val (Value.bool true))] [(1,_)] (fun a w h=>?_)
 refine go_cond h true rfl (fun ht=>?_) (fun hf=>?_)
 case refine_2=>cases hf
 refine aX h [] [eS 2 _,eS 3 _] ⟨rfl,rfl,T0⟩ [(2,.val ((Value.slice none 0 0))),(3,.val (Value.bool false))] [] (fun a w h=>?_)
 refine wp_ret ?_
 refine then_ret ?_
 refine ret_two h _ _ rfl (ans_tmp (v:=(Value.slice none 0 0)) 2 (lk rfl) rfl) (ans_tmp (v:=Value.bool false) 3 (lk rfl) rfl) ?_
 exact ⟨_,fun _=>false,rfl,⟨_,rfl,rd_nilV _⟩,(fun b hb=>by cases hb),h.grows⟩
theorem qPubY {w:World} (hT:Tab w) {D:Nat} (hD:D<2 ^ 256) (hw:wi D=true):Calls Tryz.prog 9 [.agg (nc (((D:Nat):Int))).toArray].toArray w fun e w'=>∃ v Fp,e=.returned v∧(tupPd (rdPd ((ptL (mt wplus Wp.o wG D)).length) (ptL (mt wplus Wp.o wG D))) (.bool true)).p v Fp w'∧(∀ b,Fp b=true→w.heap.size≤b∧b<w'.heap.size)∧Below w.heap.size w w':=by
 refine enter (args:=[.agg (nc (((D:Nat):Int))).toArray]) Tryz.func9 rfl 10 rfl (lk rfl) (fun a h=>?_)
 refine aX h [] [eN 1 _,eS 2 _,eS 3 _] ⟨rfl,rfl,rfl,T0⟩ [(1,.ptr 1 0)] [(1,nc (((D:Nat):Int)))] (fun a w h=>?_)
 refine wp_seq ?_
 refine aX h [1] [eS 4 _,eS 5 (.val (Value.bool true)),eS 6 _] ⟨rfl,fun L u=>u_call u (gd0 rfl) _ rfl _ _ _ rfl [_] rfl (cT25 _) (Value.bool true) (fun w hb=>by have q:=qIn (hT.keep (Bs.kp_of hb)) hD;rw [hw] at q;exact q),rfl,T0⟩ [(1,_),(6,.val (Value.bool false))] [(1,_)] (fun a w h=>?_)
 refine go_cond h false rfl (fun ht=>?_) (fun hf=>?_)
 case refine_1=>cases ht
 refine wp_skip ?_
 refine then_norm ?_
 refine aXQ h [1,2,3] [eS 7 _,eS 8 (.val (.agg (pc (mt wplus Wp.o wG D)).toArray)),eQ 9 (rdPd ((ptL (mt wplus Wp.o wG D)).length) (ptL (mt wplus Wp.o wG D))),eS 2 (.unk 9 id),eS 3 _] ⟨rfl,fun L u=>u_call u (gd0 rfl) _ rfl _ _ _ rfl [_] rfl (cT27 _) _ (fun w hb=>qTB (hT.keep (Bs.kp_of hb)) hD),fun L u=>u_callQ u (gd0 rfl) 9 rfl rfl 26 #[(.tmp 8)] #[44] rfl [.val (.agg (pc (mt wplus Wp.o wG D)).toArray)] rfl (fun vs w=>callFunc_enter Tryz.func26 (by kernel_rfl) (by kernel_rfl) vs w) (rdPd ((ptL (mt wplus Wp.o wG D)).length) (ptL (mt wplus Wp.o wG D))) (fun β a w hr=>qEncP (hT.keep (Bs.kp_of hr.bl)) (mt_on wgr wG_on D)),fun L u=>u_copyQ u (gd0 rfl) 2 rfl (.tmp 9) (Or.inr rfl) rfl rfl,rfl,T0⟩ [(2,.unk 9 id),(3,.val (Value.bool true))] [] [(9,rdPd ((ptL (mt wplus Wp.o wG D)).length) (ptL (mt wplus Wp.o wG D)))] (fun a w h=>?_)
 refine wp_ret ?_
 refine ret_tv h 2 3 rfl (lk rfl) (lk rfl) 9 id rfl rfl (Value.bool true) rfl (fun v F hp hF=>?_)
 exact ⟨_,F,rfl,⟨v,rfl,hp⟩,hF,h.grows⟩
theorem rPubN {w:World} {D:Nat} (hD:D<2 ^ 256) (hw:wi D=false):Calls Tryz.prog 10 [.agg (nc (((D:Nat):Int))).toArray].toArray w fun e w'=>∃ v Fp,e=.returned v∧(tupPd (rdPd (0) ([])) (.bool false)).p v Fp w'∧(∀ b,Fp b=true→w.heap.size≤b∧b<w'.heap.size)∧Below w.heap.size w w':=by
 refine Calls.mono (rPub_no hD hw) ?_
 rintro e w' ⟨rfl,hb⟩
 exact ⟨_,fun _=>false,rfl,⟨_,rfl,rd_nilV _⟩,(fun b h=>by cases h),hb⟩
theorem rPubY {w:World} (hT:Tab w) {D:Nat} (hD:D<2 ^ 256) (hw:wi D=true):Calls Tryz.prog 10 [.agg (nc (((D:Nat):Int))).toArray].toArray w fun e w'=>∃ v Fp,e=.returned v∧(tupPd (rdPd ((ptL (mt wplus Wp.o wG D)).length) (ptL (mt wplus Wp.o wG D))) (.bool true)).p v Fp w'∧(∀ b,Fp b=true→w.heap.size≤b∧b<w'.heap.size)∧Below w.heap.size w w':=by
 refine Calls.mono (rPub_yes hT hD hw) ?_
 rintro e w' ⟨v,Fp,rfl,hp,hF,hb⟩
 exact ⟨_,Fp,rfl,⟨v,rfl,hp⟩,hF,hb⟩
theorem awk {w:World} (hT:Tab w):Calls Tryz.prog 8 [].toArray w fun e w'=>e=.returned (.bool true)∧Below w.heap.size w w':=by
 refine enter (args:=[]) Tryz.func8 rfl 15 rfl (lk rfl) (fun a h=>?_)
 refine aX h [] [eS 0 _] ⟨rfl,T0⟩ [] [] (fun a w h=>?_)
 refine aXQ h [0,1,2,3,4,5] [eS 4 (.val (.agg (nc (((1:Nat):Int))).toArray)),eQ 5 (tupPd (rdPd ((ptL wG).length) (ptL wG)) (Value.bool true)),eS 3 (.unk 5 id),eS 6 (.unk 5 fstV),eS 7 (.val (Value.bool true)),eS 1 (.unk 5 fstV),eS 2 _] ⟨fun L u=>u_build u (gd0 rfl) 4 rfl 24 #[(0,(.const (.int .u64 1))),(1,(.const (.int .u64 0))),(2,(.const (.int .u64 0))),(3,(.const (.int .u64 0)))] rfl [(0,(Value.int IntKind.u64 1)),(1,(Value.int IntKind.u64 0)),(2,(Value.int IntKind.u64 0)),(3,(Value.int IntKind.u64 0))] rfl (nc (((1:Nat):Int))) (nb1X),fun L u=>u_callQ u (gd0 rfl) 5 rfl rfl 9 #[(.tmp 4)] #[24] rfl [.val (.agg (nc (((1:Nat):Int))).toArray)] rfl (fun vs w=>callFunc_enter Tryz.func9 (by kernel_rfl) (by kernel_rfl) vs w) (tupPd (rdPd ((ptL wG).length) (ptL wG)) (Value.bool true)) (fun β a w hr=>by have q:=qPubY (D:=1) (hT.keep (Bs.kp_of hr.bl)) (by decide) wi_1;rw [mt_one wgr wG_on] at q;exact q),fun L u=>u_copyQ u (gd0 rfl) 3 rfl (.tmp 5) (Or.inl rfl) rfl rfl,fun L u=>u_ext0T u (gd0 rfl) 6 rfl (.tmp 3) rfl rfl rfl,fun L u=>u_ext1T u (gd0 rfl) 7 rfl (.tmp 3) rfl rfl rfl,fun L u=>u_copyQ u (gd0 rfl) 1 rfl (.tmp 6) (Or.inr rfl) rfl rfl,rfl,T0⟩ [(1,.unk 5 fstV),(2,.val (Value.bool true))] [] [(5,tupPd (rdPd ((ptL wG).length) (ptL wG)) (Value.bool true))] (fun a w h=>?_)
 refine aX h [2,3,4,5] [eS 8 _,eS 9 _,eS 10 (.unk 5 fstV),eS 11 (.val (.agg (pc (wG)).toArray)),eQ 12 (rdPd ((ptL wG).length) (ptL wG)),eS 13 (.val (Value.bool true)),eS 14 _,eS 0 _] ⟨rfl,rfl,fun L u=>u_copyQ u (gd1 u 1 true rfl 9 rfl (lk rfl) rfl) 10 rfl (.tmp 1) (Or.inl rfl) rfl rfl,fun L u=>u_call u (gd1 u 1 true rfl 9 rfl (lk rfl) rfl) _ rfl _ _ _ rfl [] rfl (cT24 _) _ (fun w hb=>r_Base),fun L u=>u_callQ u (gd1 u 1 true rfl 9 rfl (lk rfl) rfl) 12 rfl rfl 23 #[(.tmp 11)] #[44] rfl [.val (.agg (pc (wG)).toArray)] rfl (fun vs w=>callFunc_enter Tryz.func23 (by kernel_rfl) (by kernel_rfl) vs w) (rdPd ((ptL wG).length) (ptL wG)) (fun β a w hr=>rEncP (hT.keep (Bs.kp_of hr.bl)) wG_on),fun L u=>u_callR u (gd1 u 1 true rfl 9 rfl (lk rfl) rfl) 13 rfl 11 #[(.tmp 10),(.tmp 12)] #[25,25] rfl [.unk 5 fstV,.unk 12 id] rfl (fun vs w=>callFunc_enter Tryz.func11 (by kernel_rfl) (by kernel_rfl) vs w) (Value.bool true) (fun β a w hr=>sameV (Nat.le_trans (ptL_len _) (by decide)) (fst_rd (hr.thing (x:=5) (u.q rfl))) (hr.thing (x:=12) (u.q rfl))),rfl,rfl,T0⟩ [(0,.val (Value.bool true))] [] (fun a w h=>?_)
 refine wp_ret ?_
 refine ret_slot h 0 rfl (lk rfl) (Value.bool true) rfl ?_
 exact ⟨rfl,h.grows⟩
end Go.Proofs.YtmigakanbeckpaaGreatDoor
namespace Go.Proofs.YtmigakanbeckpaaGreatDoor
open Go.RowKit
theorem keys_long {w:World} (hT:Tab w) {D n c:Nat} {z:Option Addr} (hn:500<n):Calls Tryz.prog 3 [.agg (nc (((D:Nat):Int))).toArray,Value.slice (z) (n) (c)].toArray w fun e w'=>e=.returned (.bool true)∧Below w.heap.size w w':=by
 refine enter (args:=[.agg (nc (((D:Nat):Int))).toArray,Value.slice (z) (n) (c)]) Tryz.func3 rfl 75 rfl (lk rfl) (fun a h=>?_)
 refine aX h [] [eN 2 _,eS 4 _] ⟨rfl,rfl,T0⟩ [(1,.val (Value.slice (z) (n) (c))),(2,.ptr 2 0)] [(2,nc (((D:Nat):Int)))] (fun a w h=>?_)
 refine wp_seq ?_
 refine aX h [0,4,5] [eS 12 (.val (Value.bool true)),eS 13 _,eS 14 _,eS 15 _,eS 16 (.val (Value.int .i64 ((n:Nat):Int))),eS 17 (.val (Value.bool true)),eS 18 _] ⟨fun L u=>u_call u (gd0 rfl) _ rfl _ _ _ rfl [] rfl (cT8 _) _ (fun w hb=>awk (hT.keep (Bs.kp_of hb))),rfl,rfl,rfl,fun L u=>u_lenV u (gd1 u 2 false rfl 14 rfl (lk rfl) rfl) 16 rfl (.tmp 15) 25 rfl rfl Tryz.underlying25,fun L u=>u_bin u (gd1 u 2 false rfl 14 rfl (lk rfl) rfl) _ rfl _ _ _ _ _ rfl rfl rfl (eqg_int _ _ _ _ _ _ _ _) _ (yes_of (fun w=>i_gtr _ _ _ _ w) (by omega)),rfl,T0⟩ [(1,_),(2,_),(18,.val (Value.bool true))] [(2,_)] (fun a w h=>?_)
 refine go_cond h true rfl (fun ht=>?_) (fun hf=>?_)
 case refine_2=>cases hf
 refine aX h [0] [eS 19 (.val (Value.bool true)),eS 4 _] ⟨fun L u=>u_call u (gd0 rfl) _ rfl _ _ _ rfl [] rfl (cT8 _) _ (fun w hb=>awk (hT.keep (Bs.kp_of hb))),rfl,T0⟩ [(4,.val (Value.bool true))] [] (fun a w h=>?_)
 refine wp_ret ?_
 refine then_ret ?_
 refine ret_slot h 4 rfl (lk rfl) (Value.bool true) rfl ?_
 exact ⟨rfl,h.grows⟩
theorem t_neB {P:Program} (ty:TypeId) (hu:P.underlying ty=some .bool) (a b t:Bool) (ht:(!(a == b))=t) (w:World):(binOp .neq ty (.bool a) (.bool b)).run P w=.ok (.bool t) w:=by
 have h:(Op.equalIn 10000 ty (.bool a) (.bool b)).run P w=.ok (a == b) w:=run_equalIn_bool' (P:=P) w 9999 ty a b hu
 simp only [binOp,Op.equal,show Op.maxDepth=10000 from rfl,Sem.run_bind,h,Result.andThen_ok,Sem.run_pure]
 rw [← ht]
theorem eq_rsT {a:Nat} (h:a<2 ^ 256) (w:World):(Op.equalIn 10000 24 (.agg (nc (a:Int)).toArray) (.agg (nc (a:Int)).toArray)).run Tryz.prog w=.ok true w:=by rw [eq_nc (num_natX h) (num_natX h),decide_eq_true rfl]
theorem eq_zz (w:World):(Op.equalIn 10000 24 (.agg nz.toArray) (.agg nz.toArray)).run Tryz.prog w=.ok true w:=by rw [nz_nc];exact eq_rsT (by decide) w
theorem keys_no {w:World} (hT:Tab w) (hH:Sh.Tab w) {D n c:Nat} {z:Option Addr} {f:Nat→Nat} (hD:D<2 ^ 256) (hba:BA w z n f) (hc:n≤c) (hcm:c≤maxLen) (hn:n≤500) {l:List Nat} (hl:nns D (mo ((zN f n:Nat):Int))=l) (hw:wi D=false) (h0:l.length=0):Calls Tryz.prog 3 [.agg (nc (((D:Nat):Int))).toArray,Value.slice (z) (n) (c)].toArray w fun e w'=>e=.returned (.bool true)∧Below w.heap.size w w':=by
 refine enter (args:=[.agg (nc (((D:Nat):Int))).toArray,Value.slice (z) (n) (c)]) Tryz.func3 rfl 75 rfl (lk rfl) (fun a h=>?_)
 refine aX h [] [eN 2 _,eS 4 _] ⟨rfl,rfl,T0⟩ [(1,.val (Value.slice (z) (n) (c))),(2,.ptr 2 0)] [(2,nc (((D:Nat):Int)))] (fun a w h=>?_)
 refine wp_seq ?_
 refine aX h [0,4,5] [eS 12 (.val (Value.bool true)),eS 13 _,eS 14 _,eS 15 _,eS 16 (.val (Value.int .i64 ((n:Nat):Int))),eS 17 (.val (Value.bool false)),eS 18 _] ⟨fun L u=>u_call u (gd0 rfl) _ rfl _ _ _ rfl [] rfl (cT8 _) _ (fun w hb=>awk (hT.keep (Bs.kp_of hb))),rfl,rfl,rfl,fun L u=>u_lenV u (gd1 u 2 false rfl 14 rfl (lk rfl) rfl) 16 rfl (.tmp 15) 25 rfl rfl Tryz.underlying25,fun L u=>u_bin u (gd1 u 2 false rfl 14 rfl (lk rfl) rfl) _ rfl _ _ _ _ _ rfl rfl rfl (eqg_int _ _ _ _ _ _ _ _) _ (no_of (fun w=>i_gtr _ _ _ _ w) (by omega)),rfl,T0⟩ [(1,_),(2,_),(18,.val (Value.bool false))] [(2,_)] (fun a w h=>?_)
 refine go_cond h false rfl (fun ht=>?_) (fun hf=>?_)
 case refine_1=>cases ht
 refine wp_skip ?_
 refine then_norm ?_
 refine aXQ h [1,2,3,4,5] [eS 21 _,eQ 22 (tupPd (rdPd (0) ([])) (Value.bool false)),eS 20 (.unk 22 id),eS 23 (.unk 22 fstV),eS 24 (.val (Value.bool false)),eS 5 (.unk 22 fstV),eS 6 _] ⟨rfl,fun L u=>u_callQ u (gd0 rfl) 22 rfl rfl 9 #[(.tmp 21)] #[24] rfl [.val (.agg (nc (((D:Nat):Int))).toArray)] rfl (fun vs w=>callFunc_enter Tryz.func9 (by kernel_rfl) (by kernel_rfl) vs w) (tupPd (rdPd (0) ([])) (Value.bool false)) (fun β a w hr=>qPubN (hT.keep (Bs.kp_of hr.bl)) hD hw),fun L u=>u_copyQ u (gd0 rfl) 20 rfl (.tmp 22) (Or.inl rfl) rfl rfl,fun L u=>u_ext0T u (gd0 rfl) 23 rfl (.tmp 20) rfl rfl rfl,fun L u=>u_ext1T u (gd0 rfl) 24 rfl (.tmp 20) rfl rfl rfl,fun L u=>u_copyQ u (gd0 rfl) 5 rfl (.tmp 23) (Or.inr rfl) rfl rfl,rfl,T0⟩ [(1,_),(2,_),(5,.unk 22 fstV),(6,.val (Value.bool false))] [(2,_)] [(22,tupPd (rdPd (0) ([])) (Value.bool false))] (fun a w h=>?_)
 refine aXQ h [1,2,3,4,5] [eS 26 _,eQ 27 (tupPd (rdPd (0) ([])) (Value.bool false)),eS 25 (.unk 27 id),eS 28 (.unk 27 fstV),eS 29 (.val (Value.bool false)),eS 7 (.unk 27 fstV),eS 8 _] ⟨rfl,fun L u=>u_callQ u (gd0 rfl) 27 rfl rfl 10 #[(.tmp 26)] #[24] rfl [.val (.agg (nc (((D:Nat):Int))).toArray)] rfl (fun vs w=>callFunc_enter Tryz.func10 (by kernel_rfl) (by kernel_rfl) vs w) (tupPd (rdPd (0) ([])) (Value.bool false)) (fun β a w hr=>rPubN hD hw),fun L u=>u_copyQ u (gd0 rfl) 25 rfl (.tmp 27) (Or.inl rfl) rfl rfl,fun L u=>u_ext0T u (gd0 rfl) 28 rfl (.tmp 25) rfl rfl rfl,fun L u=>u_ext1T u (gd0 rfl) 29 rfl (.tmp 25) rfl rfl rfl,fun L u=>u_copyQ u (gd0 rfl) 7 rfl (.tmp 28) (Or.inr rfl) rfl rfl,rfl,T0⟩ [(1,_),(2,_),(5,_),(6,_),(7,.unk 27 fstV),(8,.val (Value.bool false))] [(2,_)] [(22,tupPd (rdPd (0) ([])) (Value.bool false)),(27,tupPd (rdPd (0) ([])) (Value.bool false))] (fun a w h=>?_)
 refine wp_seq ?_
 refine aX h [2,4,5,6] [eS 30 _,eS 31 _,eS 32 (.val (Value.bool false)),eS 33 _,eS 34 (.unk 22 fstV),eS 35 (.unk 27 fstV),eS 36 (.val (Value.bool true)),eS 37 _,eS 38 _] ⟨rfl,rfl,fun L u=>u_bin u (gd0 rfl) _ rfl _ _ _ _ _ rfl rfl rfl (eqg_bool _ _ _ _ _ _) _ (fun w=>t_neB _ Tryz.underlying4 _ _ _ (by simp) w),rfl,fun L u=>u_copyQ u (gd1 u 3 false rfl 33 rfl (lk rfl) rfl) 34 rfl (.tmp 5) (Or.inl rfl) rfl rfl,fun L u=>u_copyQ u (gd1 u 3 false rfl 33 rfl (lk rfl) rfl) 35 rfl (.tmp 7) (Or.inl rfl) rfl rfl,fun L u=>u_callR u (gd1 u 3 false rfl 33 rfl (lk rfl) rfl) 36 rfl 11 #[(.tmp 34),(.tmp 35)] #[25,25] rfl [.unk 22 fstV,.unk 27 fstV] rfl (fun vs w=>callFunc_enter Tryz.func11 (by kernel_rfl) (by kernel_rfl) vs w) (Value.bool true) (fun β a w hr=>sameV (by decide) (fst_rd (hr.thing (x:=22) (u.q rfl))) (fst_rd (hr.thing (x:=27) (u.q rfl)))),rfl,rfl,T0⟩ [(1,_),(2,_),(6,_),(38,.val (Value.bool false))] [(2,_)] (fun a w h=>?_)
 refine go_cond h false rfl (fun ht=>?_) (fun hf=>?_)
 case refine_1=>cases ht
 refine wp_skip ?_
 refine then_norm ?_
 refine aX h [2] [eS 40 _,eS 41 _,eS 42 (.val (.tuple [Value.agg (nz).toArray,Value.bool false].toArray)),eS 39 _,eS 43 _,eS 44 _,eN 9 _,eM 9 _,eS 10 _] ⟨rfl,rfl,fun L u=>u_call u (gd0 rfl) _ rfl _ _ _ rfl [_,_] rfl (cT12 _) _ (fun w hb=>qNce_no (hT.keep (Bs.kp_of hb)) (hH.keep (Bs.kp_of hb)) hD (hba.keep (Bs.kp_of hb)) hc hcm (by omega) hl h0),rfl,rfl,rfl,rfl,rfl,rfl,T0⟩ [(1,_),(2,_),(6,_),(9,.ptr 9 0),(10,.val (Value.bool false))] [(2,_),(9,nz)] (fun a w h=>?_)
 refine wp_seq ?_
 refine aX h [] [eS 45 _,eS 46 _] ⟨rfl,rfl,T0⟩ [(1,_),(2,_),(9,_),(10,_),(46,.val (Value.bool true))] [(2,_),(9,_)] (fun a w h=>?_)
 refine go_cond h true rfl (fun ht=>?_) (fun hf=>?_)
 case refine_2=>cases hf
 refine aX h [4,5] [eS 47 _,eS 48 _,eS 49 _,eS 50 _,eS 51 (.val (.agg (nz).toArray)),eS 52 (.val (Value.bool true)),eS 53 _,eS 4 _] ⟨rfl,rfl,rfl,rfl,fun L u=>u_build u (gd1 u 2 true rfl 49 rfl (lk rfl) rfl) 51 rfl 24 #[] rfl [] rfl (nz) (nb0X),fun L u=>u_eql u (gd1 u 2 true rfl 49 rfl (lk rfl) rfl) 52 rfl 24 24 (.tmp 50) (.tmp 51) rfl rfl rfl Tryz.eqGuardType24 (true) (fun w=>eq_zz w),rfl,rfl,T0⟩ [(4,.val (Value.bool true))] [] (fun a w h=>?_)
 refine wp_ret ?_
 refine then_ret ?_
 refine ret_slot h 4 rfl (lk rfl) (Value.bool true) rfl ?_
 exact ⟨rfl,h.grows⟩
theorem keys_0 {w:World} (hT:Tab w) (hH:Sh.Tab w) {D n c:Nat} {z:Option Addr} {f:Nat→Nat} (hD:D<2 ^ 256) (hba:BA w z n f) (hc:n≤c) (hcm:c≤maxLen) (hn:n≤500) {l:List Nat} (hl:nns D (mo ((zN f n:Nat):Int))=l) (hw:wi D=true) (h0:l.length=0):Calls Tryz.prog 3 [.agg (nc (((D:Nat):Int))).toArray,Value.slice (z) (n) (c)].toArray w fun e w'=>e=.returned (.bool true)∧Below w.heap.size w w':=by
 refine enter (args:=[.agg (nc (((D:Nat):Int))).toArray,Value.slice (z) (n) (c)]) Tryz.func3 rfl 75 rfl (lk rfl) (fun a h=>?_)
 refine aX h [] [eN 2 _,eS 4 _] ⟨rfl,rfl,T0⟩ [(1,.val (Value.slice (z) (n) (c))),(2,.ptr 2 0)] [(2,nc (((D:Nat):Int)))] (fun a w h=>?_)
 refine wp_seq ?_
 refine aX h [0,4,5] [eS 12 (.val (Value.bool true)),eS 13 _,eS 14 _,eS 15 _,eS 16 (.val (Value.int .i64 ((n:Nat):Int))),eS 17 (.val (Value.bool false)),eS 18 _] ⟨fun L u=>u_call u (gd0 rfl) _ rfl _ _ _ rfl [] rfl (cT8 _) _ (fun w hb=>awk (hT.keep (Bs.kp_of hb))),rfl,rfl,rfl,fun L u=>u_lenV u (gd1 u 2 false rfl 14 rfl (lk rfl) rfl) 16 rfl (.tmp 15) 25 rfl rfl Tryz.underlying25,fun L u=>u_bin u (gd1 u 2 false rfl 14 rfl (lk rfl) rfl) _ rfl _ _ _ _ _ rfl rfl rfl (eqg_int _ _ _ _ _ _ _ _) _ (no_of (fun w=>i_gtr _ _ _ _ w) (by omega)),rfl,T0⟩ [(1,_),(2,_),(18,.val (Value.bool false))] [(2,_)] (fun a w h=>?_)
 refine go_cond h false rfl (fun ht=>?_) (fun hf=>?_)
 case refine_1=>cases ht
 refine wp_skip ?_
 refine then_norm ?_
 refine aXQ h [1,2,3,4,5] [eS 21 _,eQ 22 (tupPd (rdPd ((ptL (mt wplus Wp.o wG D)).length) (ptL (mt wplus Wp.o wG D))) (Value.bool true)),eS 20 (.unk 22 id),eS 23 (.unk 22 fstV),eS 24 (.val (Value.bool true)),eS 5 (.unk 22 fstV),eS 6 _] ⟨rfl,fun L u=>u_callQ u (gd0 rfl) 22 rfl rfl 9 #[(.tmp 21)] #[24] rfl [.val (.agg (nc (((D:Nat):Int))).toArray)] rfl (fun vs w=>callFunc_enter Tryz.func9 (by kernel_rfl) (by kernel_rfl) vs w) (tupPd (rdPd ((ptL (mt wplus Wp.o wG D)).length) (ptL (mt wplus Wp.o wG D))) (Value.bool true)) (fun β a w hr=>qPubY (hT.keep (Bs.kp_of hr.bl)) hD hw),fun L u=>u_copyQ u (gd0 rfl) 20 rfl (.tmp 22) (Or.inl rfl) rfl rfl,fun L u=>u_ext0T u (gd0 rfl) 23 rfl (.tmp 20) rfl rfl rfl,fun L u=>u_ext1T u (gd0 rfl) 24 rfl (.tmp 20) rfl rfl rfl,fun L u=>u_copyQ u (gd0 rfl) 5 rfl (.tmp 23) (Or.inr rfl) rfl rfl,rfl,T0⟩ [(1,_),(2,_),(5,.unk 22 fstV),(6,.val (Value.bool true))] [(2,_)] [(22,tupPd (rdPd ((ptL (mt wplus Wp.o wG D)).length) (ptL (mt wplus Wp.o wG D))) (Value.bool true))] (fun a w h=>?_)
 refine aXQ h [1,2,3,4,5] [eS 26 _,eQ 27 (tupPd (rdPd ((ptL (mt wplus Wp.o wG D)).length) (ptL (mt wplus Wp.o wG D))) (Value.bool true)),eS 25 (.unk 27 id),eS 28 (.unk 27 fstV),eS 29 (.val (Value.bool true)),eS 7 (.unk 27 fstV),eS 8 _] ⟨rfl,fun L u=>u_callQ u (gd0 rfl) 27 rfl rfl 10 #[(.tmp 26)] #[24] rfl [.val (.agg (nc (((D:Nat):Int))).toArray)] rfl (fun vs w=>callFunc_enter Tryz.func10 (by kernel_rfl) (by kernel_rfl) vs w) (tupPd (rdPd ((ptL (mt wplus Wp.o wG D)).length) (ptL (mt wplus Wp.o wG D))) (Value.bool true)) (fun β a w hr=>rPubY (hT.keep (Bs.kp_of hr.bl)) hD hw),fun L u=>u_copyQ u (gd0 rfl) 25 rfl (.tmp 27) (Or.inl rfl) rfl rfl,fun L u=>u_ext0T u (gd0 rfl) 28 rfl (.tmp 25) rfl rfl rfl,fun L u=>u_ext1T u (gd0 rfl) 29 rfl (.tmp 25) rfl rfl rfl,fun L u=>u_copyQ u (gd0 rfl) 7 rfl (.tmp 28) (Or.inr rfl) rfl rfl,rfl,T0⟩ [(1,_),(2,_),(5,_),(6,_),(7,.unk 27 fstV),(8,.val (Value.bool true))] [(2,_)] [(22,tupPd (rdPd ((ptL (mt wplus Wp.o wG D)).length) (ptL (mt wplus Wp.o wG D))) (Value.bool true)),(27,tupPd (rdPd ((ptL (mt wplus Wp.o wG D)).length) (ptL (mt wplus Wp.o wG D))) (Value.bool true))] (fun a w h=>?_)
 refine wp_seq ?_
 refine aX h [2,4,5,6] [eS 30 _,eS 31 _,eS 32 (.val (Value.bool false)),eS 33 _,eS 34 (.unk 22 fstV),eS 35 (.unk 27 fstV),eS 36 (.val (Value.bool true)),eS 37 _,eS 38 _] ⟨rfl,rfl,fun L u=>u_bin u (gd0 rfl) _ rfl _ _ _ _ _ rfl rfl rfl (eqg_bool _ _ _ _ _ _) _ (fun w=>t_neB _ Tryz.underlying4 _ _ _ (by simp) w),rfl,fun L u=>u_copyQ u (gd1 u 3 false rfl 33 rfl (lk rfl) rfl) 34 rfl (.tmp 5) (Or.inl rfl) rfl rfl,fun L u=>u_copyQ u (gd1 u 3 false rfl 33 rfl (lk rfl) rfl) 35 rfl (.tmp 7) (Or.inl rfl) rfl rfl,fun L u=>u_callR u (gd1 u 3 false rfl 33 rfl (lk rfl) rfl) 36 rfl 11 #[(.tmp 34),(.tmp 35)] #[25,25] rfl [.unk 22 fstV,.unk 27 fstV] rfl (fun vs w=>callFunc_enter Tryz.func11 (by kernel_rfl) (by kernel_rfl) vs w) (Value.bool true) (fun β a w hr=>sameV (Nat.le_trans (ptL_len _) (by decide)) (fst_rd (hr.thing (x:=22) (u.q rfl))) (fst_rd (hr.thing (x:=27) (u.q rfl)))),rfl,rfl,T0⟩ [(1,_),(2,_),(6,_),(38,.val (Value.bool false))] [(2,_)] (fun a w h=>?_)
 refine go_cond h false rfl (fun ht=>?_) (fun hf=>?_)
 case refine_1=>cases ht
 refine wp_skip ?_
 refine then_norm ?_
 refine aX h [2] [eS 40 _,eS 41 _,eS 42 (.val (.tuple [Value.agg (nz).toArray,Value.bool false].toArray)),eS 39 _,eS 43 _,eS 44 _,eN 9 _,eM 9 _,eS 10 _] ⟨rfl,rfl,fun L u=>u_call u (gd0 rfl) _ rfl _ _ _ rfl [_,_] rfl (cT12 _) _ (fun w hb=>qNce_no (hT.keep (Bs.kp_of hb)) (hH.keep (Bs.kp_of hb)) hD (hba.keep (Bs.kp_of hb)) hc hcm (by omega) hl h0),rfl,rfl,rfl,rfl,rfl,rfl,T0⟩ [(1,_),(2,_),(6,_),(9,.ptr 9 0),(10,.val (Value.bool false))] [(2,_),(9,nz)] (fun a w h=>?_)
 refine wp_seq ?_
 refine aX h [] [eS 45 _,eS 46 _] ⟨rfl,rfl,T0⟩ [(1,_),(2,_),(9,_),(10,_),(46,.val (Value.bool false))] [(2,_),(9,_)] (fun a w h=>?_)
 refine go_cond h false rfl (fun ht=>?_) (fun hf=>?_)
 case refine_1=>cases ht
 refine wp_skip ?_
 refine then_norm ?_
 refine aXQ h [2,3] [eS 54 _,eS 55 _,eQ 56 (nrPd l),eS 11 (.unk 56 id)] ⟨rfl,rfl,fun L u=>u_callQ u (gd0 rfl) 56 rfl rfl 13 #[(.tmp 54),(.tmp 55),(.const (.int .i64 8))] #[24,25,3] rfl [.val (.agg (nc (((D:Nat):Int))).toArray),.val (Value.slice (z) (n) (c)),.val ((Value.int IntKind.i64 8))] rfl (fun vs w=>callFunc_enter Tryz.func13 (by kernel_rfl) (by kernel_rfl) vs w) (nrPd l) (fun β a w hr=>by have q:=rNon (A:=D) (c:=c) (hT.keep (Bs.kp_of hr.bl)) (hba.keep (Bs.kp_of hr.bl)) (by omega);rw [← nns_yes hw,hl] at q;exact q),fun L u=>u_copyQ u (gd0 rfl) 11 rfl (.tmp 56) (Or.inr rfl) rfl rfl,T0⟩ [(9,_),(10,_),(11,.unk 56 id)] [(9,_)] [(56,nrPd l)] (fun a w h=>?_)
 refine wp_seq ?_
 refine aXQ h [0,1,2] [eS 57 (.unk 56 id),eS 58 (.val (Value.int .i64 ((l.length:Nat):Int))),eS 59 (.val (Value.bool true))] ⟨fun L u=>u_copyQ u (gd0 rfl) 57 rfl (.tmp 11) (Or.inl rfl) rfl rfl,fun L u=>u_lenC u (gd0 rfl) 58 rfl (.tmp 57) 32 rfl rfl rfl vc_row Tryz.underlying32,fun L u=>u_bin u (gd0 rfl) _ rfl _ _ _ _ _ rfl rfl rfl (eqg_int _ _ _ _ _ _ _ _) _ (yes_of (fun w=>i_eql _ _ _ _ w) (by omega)),T0⟩ [(9,_),(10,_),(11,_),(59,.val (Value.bool true))] [(9,_)] [(56,nrPd l)] (fun a w h=>?_)
 refine go_cond h true rfl (fun ht=>?_) (fun hf=>?_)
 case refine_2=>cases hf
 refine aX h [4,5] [eS 60 _,eS 61 _,eS 62 _,eS 63 _,eS 64 (.val (.agg (nz).toArray)),eS 65 (.val (Value.bool true)),eS 66 _,eS 4 _] ⟨rfl,rfl,rfl,rfl,fun L u=>u_build u (gd1 u 2 true rfl 62 rfl (lk rfl) rfl) 64 rfl 24 #[] rfl [] rfl (nz) (nb0X),fun L u=>u_eql u (gd1 u 2 true rfl 62 rfl (lk rfl) rfl) 65 rfl 24 24 (.tmp 63) (.tmp 64) rfl rfl rfl Tryz.eqGuardType24 (true) (fun w=>eq_zz w),rfl,rfl,T0⟩ [(4,.val (Value.bool true))] [] (fun a w h=>?_)
 refine wp_ret ?_
 refine then_ret ?_
 refine ret_slot h 4 rfl (lk rfl) (Value.bool true) rfl ?_
 exact ⟨rfl,h.grows⟩
theorem keys_1 {w:World} (hT:Tab w) (hH:Sh.Tab w) {D n c:Nat} {z:Option Addr} {f:Nat→Nat} (hD:D<2 ^ 256) (hba:BA w z n f) (hc:n≤c) (hcm:c≤maxLen) (hn:n≤500) {l:List Nat} (hl:nns D (mo ((zN f n:Nat):Int))=l) (hw:wi D=true) (h0:0<l.length) (hlt:l.getD 0 0<2 ^ 256):Calls Tryz.prog 3 [.agg (nc (((D:Nat):Int))).toArray,Value.slice (z) (n) (c)].toArray w fun e w'=>e=.returned (.bool true)∧Below w.heap.size w w':=by
 refine enter (args:=[.agg (nc (((D:Nat):Int))).toArray,Value.slice (z) (n) (c)]) Tryz.func3 rfl 75 rfl (lk rfl) (fun a h=>?_)
 refine aX h [] [eN 2 _,eS 4 _] ⟨rfl,rfl,T0⟩ [(1,.val (Value.slice (z) (n) (c))),(2,.ptr 2 0)] [(2,nc (((D:Nat):Int)))] (fun a w h=>?_)
 refine wp_seq ?_
 refine aX h [0,4,5] [eS 12 (.val (Value.bool true)),eS 13 _,eS 14 _,eS 15 _,eS 16 (.val (Value.int .i64 ((n:Nat):Int))),eS 17 (.val (Value.bool false)),eS 18 _] ⟨fun L u=>u_call u (gd0 rfl) _ rfl _ _ _ rfl [] rfl (cT8 _) _ (fun w hb=>awk (hT.keep (Bs.kp_of hb))),rfl,rfl,rfl,fun L u=>u_lenV u (gd1 u 2 false rfl 14 rfl (lk rfl) rfl) 16 rfl (.tmp 15) 25 rfl rfl Tryz.underlying25,fun L u=>u_bin u (gd1 u 2 false rfl 14 rfl (lk rfl) rfl) _ rfl _ _ _ _ _ rfl rfl rfl (eqg_int _ _ _ _ _ _ _ _) _ (no_of (fun w=>i_gtr _ _ _ _ w) (by omega)),rfl,T0⟩ [(1,_),(2,_),(18,.val (Value.bool false))] [(2,_)] (fun a w h=>?_)
 refine go_cond h false rfl (fun ht=>?_) (fun hf=>?_)
 case refine_1=>cases ht
 refine wp_skip ?_
 refine then_norm ?_
 refine aXQ h [1,2,3,4,5] [eS 21 _,eQ 22 (tupPd (rdPd ((ptL (mt wplus Wp.o wG D)).length) (ptL (mt wplus Wp.o wG D))) (Value.bool true)),eS 20 (.unk 22 id),eS 23 (.unk 22 fstV),eS 24 (.val (Value.bool true)),eS 5 (.unk 22 fstV),eS 6 _] ⟨rfl,fun L u=>u_callQ u (gd0 rfl) 22 rfl rfl 9 #[(.tmp 21)] #[24] rfl [.val (.agg (nc (((D:Nat):Int))).toArray)] rfl (fun vs w=>callFunc_enter Tryz.func9 (by kernel_rfl) (by kernel_rfl) vs w) (tupPd (rdPd ((ptL (mt wplus Wp.o wG D)).length) (ptL (mt wplus Wp.o wG D))) (Value.bool true)) (fun β a w hr=>qPubY (hT.keep (Bs.kp_of hr.bl)) hD hw),fun L u=>u_copyQ u (gd0 rfl) 20 rfl (.tmp 22) (Or.inl rfl) rfl rfl,fun L u=>u_ext0T u (gd0 rfl) 23 rfl (.tmp 20) rfl rfl rfl,fun L u=>u_ext1T u (gd0 rfl) 24 rfl (.tmp 20) rfl rfl rfl,fun L u=>u_copyQ u (gd0 rfl) 5 rfl (.tmp 23) (Or.inr rfl) rfl rfl,rfl,T0⟩ [(1,_),(2,_),(5,.unk 22 fstV),(6,.val (Value.bool true))] [(2,_)] [(22,tupPd (rdPd ((ptL (mt wplus Wp.o wG D)).length) (ptL (mt wplus Wp.o wG D))) (Value.bool true))] (fun a w h=>?_)
 refine aXQ h [1,2,3,4,5] [eS 26 _,eQ 27 (tupPd (rdPd ((ptL (mt wplus Wp.o wG D)).length) (ptL (mt wplus Wp.o wG D))) (Value.bool true)),eS 25 (.unk 27 id),eS 28 (.unk 27 fstV),eS 29 (.val (Value.bool true)),eS 7 (.unk 27 fstV),eS 8 _] ⟨rfl,fun L u=>u_callQ u (gd0 rfl) 27 rfl rfl 10 #[(.tmp 26)] #[24] rfl [.val (.agg (nc (((D:Nat):Int))).toArray)] rfl (fun vs w=>callFunc_enter Tryz.func10 (by kernel_rfl) (by kernel_rfl) vs w) (tupPd (rdPd ((ptL (mt wplus Wp.o wG D)).length) (ptL (mt wplus Wp.o wG D))) (Value.bool true)) (fun β a w hr=>rPubY (hT.keep (Bs.kp_of hr.bl)) hD hw),fun L u=>u_copyQ u (gd0 rfl) 25 rfl (.tmp 27) (Or.inl rfl) rfl rfl,fun L u=>u_ext0T u (gd0 rfl) 28 rfl (.tmp 25) rfl rfl rfl,fun L u=>u_ext1T u (gd0 rfl) 29 rfl (.tmp 25) rfl rfl rfl,fun L u=>u_copyQ u (gd0 rfl) 7 rfl (.tmp 28) (Or.inr rfl) rfl rfl,rfl,T0⟩ [(1,_),(2,_),(5,_),(6,_),(7,.unk 27 fstV),(8,.val (Value.bool true))] [(2,_)] [(22,tupPd (rdPd ((ptL (mt wplus Wp.o wG D)).length) (ptL (mt wplus Wp.o wG D))) (Value.bool true)),(27,tupPd (rdPd ((ptL (mt wplus Wp.o wG D)).length) (ptL (mt wplus Wp.o wG D))) (Value.bool true))] (fun a w h=>?_)
 refine wp_seq ?_
 refine aX h [2,4,5,6] [eS 30 _,eS 31 _,eS 32 (.val (Value.bool false)),eS 33 _,eS 34 (.unk 22 fstV),eS 35 (.unk 27 fstV),eS 36 (.val (Value.bool true)),eS 37 _,eS 38 _] ⟨rfl,rfl,fun L u=>u_bin u (gd0 rfl) _ rfl _ _ _ _ _ rfl rfl rfl (eqg_bool _ _ _ _ _ _) _ (fun w=>t_neB _ Tryz.underlying4 _ _ _ (by simp) w),rfl,fun L u=>u_copyQ u (gd1 u 3 false rfl 33 rfl (lk rfl) rfl) 34 rfl (.tmp 5) (Or.inl rfl) rfl rfl,fun L u=>u_copyQ u (gd1 u 3 false rfl 33 rfl (lk rfl) rfl) 35 rfl (.tmp 7) (Or.inl rfl) rfl rfl,fun L u=>u_callR u (gd1 u 3 false rfl 33 rfl (lk rfl) rfl) 36 rfl 11 #[(.tmp 34),(.tmp 35)] #[25,25] rfl [.unk 22 fstV,.unk 27 fstV] rfl (fun vs w=>callFunc_enter Tryz.func11 (by kernel_rfl) (by kernel_rfl) vs w) (Value.bool true) (fun β a w hr=>sameV (Nat.le_trans (ptL_len _) (by decide)) (fst_rd (hr.thing (x:=22) (u.q rfl))) (fst_rd (hr.thing (x:=27) (u.q rfl)))),rfl,rfl,T0⟩ [(1,_),(2,_),(6,_),(38,.val (Value.bool false))] [(2,_)] (fun a w h=>?_)
 refine go_cond h false rfl (fun ht=>?_) (fun hf=>?_)
 case refine_1=>cases ht
 refine wp_skip ?_
 refine then_norm ?_
 refine aX h [2] [eS 40 _,eS 41 _,eS 42 (.val (.tuple [Value.agg (nc (((l.getD 0 0:Nat):Int))).toArray,Value.bool true].toArray)),eS 39 _,eS 43 _,eS 44 _,eN 9 _,eM 9 _,eS 10 _] ⟨rfl,rfl,fun L u=>u_call u (gd0 rfl) _ rfl _ _ _ rfl [_,_] rfl (cT12 _) _ (fun w hb=>qNce_yes (hT.keep (Bs.kp_of hb)) (hH.keep (Bs.kp_of hb)) hD (hba.keep (Bs.kp_of hb)) hc hcm (by omega) hl h0),rfl,rfl,rfl,rfl,rfl,rfl,T0⟩ [(1,_),(2,_),(6,_),(9,.ptr 9 0),(10,.val (Value.bool true))] [(2,_),(9,nc (((l.getD 0 0:Nat):Int)))] (fun a w h=>?_)
 refine wp_seq ?_
 refine aX h [] [eS 45 _,eS 46 _] ⟨rfl,rfl,T0⟩ [(1,_),(2,_),(9,_),(10,_),(46,.val (Value.bool false))] [(2,_),(9,_)] (fun a w h=>?_)
 refine go_cond h false rfl (fun ht=>?_) (fun hf=>?_)
 case refine_1=>cases ht
 refine wp_skip ?_
 refine then_norm ?_
 refine aXQ h [2,3] [eS 54 _,eS 55 _,eQ 56 (nrPd l),eS 11 (.unk 56 id)] ⟨rfl,rfl,fun L u=>u_callQ u (gd0 rfl) 56 rfl rfl 13 #[(.tmp 54),(.tmp 55),(.const (.int .i64 8))] #[24,25,3] rfl [.val (.agg (nc (((D:Nat):Int))).toArray),.val (Value.slice (z) (n) (c)),.val ((Value.int IntKind.i64 8))] rfl (fun vs w=>callFunc_enter Tryz.func13 (by kernel_rfl) (by kernel_rfl) vs w) (nrPd l) (fun β a w hr=>by have q:=rNon (A:=D) (c:=c) (hT.keep (Bs.kp_of hr.bl)) (hba.keep (Bs.kp_of hr.bl)) (by omega);rw [← nns_yes hw,hl] at q;exact q),fun L u=>u_copyQ u (gd0 rfl) 11 rfl (.tmp 56) (Or.inr rfl) rfl rfl,T0⟩ [(9,_),(10,_),(11,.unk 56 id)] [(9,_)] [(56,nrPd l)] (fun a w h=>?_)
 refine wp_seq ?_
 refine aXQ h [0,1,2] [eS 57 (.unk 56 id),eS 58 (.val (Value.int .i64 ((l.length:Nat):Int))),eS 59 (.val (Value.bool false))] ⟨fun L u=>u_copyQ u (gd0 rfl) 57 rfl (.tmp 11) (Or.inl rfl) rfl rfl,fun L u=>u_lenC u (gd0 rfl) 58 rfl (.tmp 57) 32 rfl rfl rfl vc_row Tryz.underlying32,fun L u=>u_bin u (gd0 rfl) _ rfl _ _ _ _ _ rfl rfl rfl (eqg_int _ _ _ _ _ _ _ _) _ (no_of (fun w=>i_eql _ _ _ _ w) (by omega)),T0⟩ [(9,_),(10,_),(11,_),(59,.val (Value.bool false))] [(9,_)] [(56,nrPd l)] (fun a w h=>?_)
 refine go_cond h false rfl (fun ht=>?_) (fun hf=>?_)
 case refine_1=>cases ht
 refine wp_skip ?_
 refine then_norm ?_
 refine aX h [3,4,5,6] [eS 67 _,eS 68 _,eS 69 _,eS 70 (.unk 56 id),eS 71 (.unk 56 (elR (0*4))),eS 72 (.val (.agg (nc (((l.getD 0 0:Nat):Int))).toArray)),eS 73 (.val (Value.bool true)),eS 74 _,eS 4 _] ⟨rfl,rfl,rfl,fun L u=>u_copyQ u (gd1 u 1 true rfl 68 rfl (lk rfl) rfl) 70 rfl (.tmp 11) (Or.inl rfl) rfl rfl,fun L u=>u_atC u (gd1 u 1 true rfl 68 rfl (lk rfl) rfl) 71 rfl 32 (.tmp 70) (.const (.int .i64 0)) rfl rfl rfl vc_row Tryz.underlying32 i24T (0) rfl (by omega) (0*4) rfl,fun L u=>u_loadC u (gd1 u 1 true rfl 68 rfl (lk rfl) rfl) 72 rfl 24 (.tmp 71) rfl rfl rfl vc_row Tryz.underlying24 rfl i24T (by omega) (nc (((l.getD 0 0:Nat):Int))) (ncl_at l 0 (by omega)) rfl,fun L u=>u_eql u (gd1 u 1 true rfl 68 rfl (lk rfl) rfl) 73 rfl 24 24 (.tmp 69) (.tmp 72) rfl rfl rfl Tryz.eqGuardType24 (true) (fun w=>eq_rsT hlt w),rfl,rfl,T0⟩ [(4,.val (Value.bool true))] [] (fun a w h=>?_)
 refine wp_ret ?_
 refine ret_slot h 4 rfl (lk rfl) (Value.bool true) rfl ?_
 exact ⟨rfl,h.grows⟩
theorem ecdsaKeys_walk {w:World} (hT:Tab w) (hH:Sh.Tab w) {D n c:Nat} {z:Option Addr} {f:Nat→Nat} (hD:D<2 ^ 256) (hba:BA w z n f) (hc:n≤c∧c≤maxLen):Calls Tryz.prog 3 [.agg (nc (((D:Nat):Int))).toArray,Value.slice (z) (n) (c)].toArray w fun e w'=>e=.returned (.bool true)∧Below w.heap.size w w':=by
 by_cases hn:500<n
 ·exact keys_long hT hn
 cases hw:wi D with
 | false=>exact keys_no hT hH hD hba hc.1 hc.2 (by omega) rfl hw (by rw [nns_no hw];rfl)
 | true =>
  by_cases h0:(nns D (mo ((zN f n:Nat):Int))).length=0
  ·exact keys_0 hT hH hD hba hc.1 hc.2 (by omega) rfl hw h0
  ·refine keys_1 hT hH hD hba hc.1 hc.2 (by omega) rfl hw (by omega) (wi_lt (nns_wi D (mo ((zN f n:Nat):Int)) _ ?_))
   rw [List.getD_eq_getElem?_getD,List.getElem?_eq_getElem (by omega)]
   exact List.getElem_mem _
end Go.Proofs.YtmigakanbeckpaaGreatDoor
namespace Go.Proofs.YtmigakanbeckpaaGreatDoor
set_option maxRecDepth 100000
open Go.ChangeShapes Go.WideShapes Go.ChangeAt Go.RowKit
theorem own:ownKnob Tryz.prog.godebug=none:=by kernel_rfl
theorem cellsU64:Tryz.prog.cellsOf 22=1:=by kernel_rfl
theorem cellsNat:Tryz.prog.cellsOf 24=4:=by kernel_rfl
theorem word_of_wf {x:Int} (h:(Lit.int .u64 x).wf=true):0≤x∧x<18446744073709551616:=by
 simp [Lit.wf,IntKind.min,IntKind.max,IntKind.signed,IntKind.bits] at h
 exact ⟨by omega,by omega⟩
theorem wf_of_word {x:Int} (h:0≤x∧x<18446744073709551616):(Lit.int .u64 x).wf=true:=by
 simp [Lit.wf,IntKind.min,IntKind.max,IntKind.signed,IntKind.bits]
 omega
theorem list4 {α:Type} (l:List α) (h:(⟨l⟩:Array α).size=4):∃ a b c d,l=[a,b,c,d]:=by
 match l,h with
 | [a,b,c,d],_=>exact ⟨a,b,c,d,rfl⟩
theorem open_nat {H:Type} {enc:TypeId × Value→H} {W:World} {base:Nat} {v:Value} {d:DataW H} {p:List MemPlace}
  (hv:Value.okWide Tryz.prog W .any base 24 v) (h:DataW.Trod enc Tryz.prog W 0 (fun _=>true) true 24 v d p) :
  ∃ a,Num a∧v=.agg #[.int .u64 (L 0 a),.int .u64 (L 1 a),.int .u64 (L 2 a),.int .u64 (L 3 a)]∧d=DataW.agg [.lit (.int .u64 (L 0 a)),.lit (.int .u64 (L 1 a)),.lit (.int .u64 (L 2 a)),.lit (.int .u64 (L 3 a))]∧p=[]:=by
 obtain ⟨cs,rfl,hsz,_⟩:∃ cs,v=.agg cs∧cs.size=Tryz.prog.cellsOf 24∧Row.okWide Tryz.prog W .any base 24 cs:=by
  simpa [Value.okWide,Tryz.underlying24] using hv
 rw [cellsNat] at hsz
 obtain ⟨l⟩:=cs
 obtain ⟨c0,c1,c2,c3,rfl⟩:=list4 l hsz
 obtain ⟨fuel,hf⟩:=h
 obtain ⟨y0,y1,y2,y3,m,hx,hy0,hy1,hy2,hy3⟩:=trod_array4 Tryz.underlying24 cellsU64 hf
 obtain ⟨x0,e0,rfl,w0⟩:=DataW.trod_int Tryz.underlying22 hy0
 obtain ⟨x1,e1,rfl,w1⟩:=DataW.trod_int Tryz.underlying22 hy1
 obtain ⟨x2,e2,rfl,w2⟩:=DataW.trod_int Tryz.underlying22 hy2
 obtain ⟨x3,e3,rfl,w3⟩:=DataW.trod_int Tryz.underlying22 hy3
 simp at e0 e1 e2 e3
 subst e0 e1 e2 e3
 simp only [Prod.mk.injEq] at hx
 obtain ⟨rfl,rfl⟩:=hx
 obtain ⟨a,ha,rfl,rfl,rfl,rfl⟩:=num_of x0 x1 x2 x3 (word_of_wf w0) (word_of_wf w1) (word_of_wf w2) (word_of_wf w3)
 exact ⟨a,ha,rfl,rfl,rfl⟩
theorem shut_nat {H:Type} {enc:TypeId × Value→H} (W:World) (sp:Nat→Bool) (a:Int) :
  DataW.Trod enc Tryz.prog W 0 sp true 24 (.agg #[.int .u64 (L 0 a),.int .u64 (L 1 a),.int .u64 (L 2 a),.int .u64 (L 3 a)]) (DataW.agg [.lit (.int .u64 (L 0 a)),.lit (.int .u64 (L 1 a)),.lit (.int .u64 (L 2 a)),.lit (.int .u64 (L 3 a))]) []:=by
 have w0:=wf_of_word ⟨L_lo 0 a,L_hi 0 a⟩
 have w1:=wf_of_word ⟨L_lo 1 a,L_hi 1 a⟩
 have w2:=wf_of_word ⟨L_lo 2 a,L_hi 2 a⟩
 have w3:=wf_of_word ⟨L_lo 3 a,L_hi 3 a⟩
 exact ⟨2,by simp [DataW.trod,Value.cells,Tryz.underlying24,Tryz.underlying22,cellsNat,cellsU64,w0,w1,w2,w3,show List.range 4=[0,1,2,3] from rfl]⟩
theorem Tryz.laidOut:laidOutB Tryz.prog=true:=by kernel_rfl
theorem cellsU8:Tryz.prog.cellsOf 5=1:=by kernel_rfl
theorem natOf {a:Int} (h:Num a):∃ A:Nat,a=(A:Int)∧A<2 ^ 256:=⟨a.toNat,by have:=h.lo;omega,by have h2:=h.hi;have:=h.lo;unfold M at h2;omega⟩
theorem open_bytes {H:Type} {enc:TypeId × Value→H} {W:World} {base:Nat} {v:Value} {d:DataW H} {p:List MemPlace}
  (hv:Value.okWide Tryz.prog W .any base 25 v) (h:DataW.Trod enc Tryz.prog W 0 (fun _=>true) true 25 v d p) :
  ∃ a n c f,v=.slice a n c∧BA W a n f∧n≤c∧c≤maxLen:=by
 obtain ⟨a0,len,cap,rfl⟩:=okWide_slice Tryz.underlying25 hv
 obtain ⟨fuel,hf⟩:=h
 rcases open_ints Tryz.underlying25 Tryz.underlying5 cellsU8 hf with ⟨hcs,hx⟩ | ⟨a,len',cap',zs,hcs,_,hl,hm,hz,hx,hcell,hwz⟩
 ·simp [Value.cells] at hcs
  obtain ⟨rfl,rfl,rfl⟩:=hcs
  exact ⟨none,0,0,fun _=>0,rfl,⟨fun _=>by omega,Or.inl rfl⟩,by omega,by unfold maxLen;omega⟩
 ·simp [Value.cells] at hcs
  obtain ⟨rfl,rfl,rfl⟩:=hcs
  simp only [if_true] at hz
  have hr:∀ i,0≤zs.getD i 0∧zs.getD i 0<256:=fun i=>by
   have h:=range_u8 hwz i
   simp only [List.getD_eq_getElem?_getD]
   omega
  refine ⟨some a,len,cap,fun i=>(zs.getD i 0).toNat,rfl,⟨fun i=>by have:=hr i;omega,?_⟩,hl,hm⟩
  by_cases h0:len=0
  ·exact Or.inl h0
  ·obtain ⟨b,off,rfl,hc⟩:=ints_at hcell (by omega)
   exact Or.inr ⟨b,off,rfl,⟨fun i hi=>by
    have:=hr i
    rw [hc i (by omega),Int.toNat_of_nonneg this.1]⟩⟩
theorem gMod : Tryz.prog.globalNamed "chronicle/field.moduli" = some 1 := by kernel_rfl
theorem tMod:(Tryz.prog.globals[1]?).map (·.type)=some 129:=by kernel_rfl
theorem gB : Tryz.prog.globalNamed "chronicle/p256.curveB" = some 0 := by kernel_rfl
theorem tB:(Tryz.prog.globals[0]?).map (·.type)=some 24:=by kernel_rfl
theorem gFirst : Tryz.prog.globalNamed "chronicle/sha256.first" = some 2 := by kernel_rfl
theorem tFirst:(Tryz.prog.globals[2]?).map (·.type)=some 111:=by kernel_rfl
theorem gK : Tryz.prog.globalNamed "chronicle/sha256.constants" = some 4 := by kernel_rfl
theorem tK:(Tryz.prog.globals[4]?).map (·.type)=some 151:=by kernel_rfl
theorem cellsModuli:Tryz.prog.cellsOf 129=16:=by kernel_rfl
theorem cellsMod:Tryz.prog.cellsOf 107=4:=by kernel_rfl
theorem cellsU32:Tryz.prog.cellsOf 109=1:=by kernel_rfl
theorem cellsSt:Tryz.prog.cellsOf 111=8:=by kernel_rfl
theorem cellsW64:Tryz.prog.cellsOf 151=64:=by kernel_rfl
theorem list16 {α:Type} (l:List α) (h:l.length=16):∃ x0 x1 x2 x3 x4 x5 x6 x7 x8 x9 x10 x11 x12 x13 x14 x15,l=[x0,x1,x2,x3,x4,x5,x6,x7,x8,x9,x10,x11,x12,x13,x14,x15]:=by
 match l,h with
 | [x0,x1,x2,x3,x4,x5,x6,x7,x8,x9,x10,x11,x12,x13,x14,x15],_=>exact ⟨x0,x1,x2,x3,x4,x5,x6,x7,x8,x9,x10,x11,x12,x13,x14,x15,rfl⟩
theorem cells_of_table {H:Type} {enc:TypeId × Value→H} {W:World} {sp:Nat→Bool} {held:Bool} {fuel:Nat} {l:List Value} {p:List MemPlace}
  (h:DataW.trod enc Tryz.prog W 0 sp held fuel 129 l=some (Rows.laid_chronicle_field_moduli,p)):l=[.int .u64 18446744073709551615,.int .u64 4294967295,.int .u64 0,.int .u64 18446744069414584321,.int .u64 17562291160714782033,.int .u64 13611842547513532036,.int .u64 18446744073709551615,.int .u64 18446744069414584320,.int .u64 18446744073709551597,.int .u64 18446744073709551615,.int .u64 18446744073709551615,.int .u64 9223372036854775807,.int .u64 6346243789798364141,.int .u64 1503914060200516822,.int .u64 0,.int .u64 1152921504606846976]:=by
 cases fuel with
 | zero=>simp [DataW.trod] at h
 | succ fuel =>
  simp only [DataW.trod,Tryz.underlying129,cellsModuli,cellsMod] at h
  split at h
  ·rename_i hl
   obtain ⟨x0,x1,x2,x3,x4,x5,x6,x7,x8,x9,x10,x11,x12,x13,x14,x15,rfl⟩:=list16 l (by simpa using hl)
   rw [show List.range 4=[0,1,2,3] from rfl] at h
   simp only [Option.map_eq_some_iff,List.mapM_cons,List.mapM_nil,Option.bind_eq_bind,Option.bind_eq_some_iff,Option.pure_def,Option.some.injEq] at h
   obtain ⟨ys,⟨y0,h0,_,⟨y1,h1,_,⟨y2,h2,_,⟨y3,h3,_,rfl,rfl⟩,rfl⟩,rfl⟩,rfl⟩,hx⟩:=h
   obtain ⟨d0,p0⟩:=y0
   obtain ⟨d1,p1⟩:=y1
   obtain ⟨d2,p2⟩:=y2
   obtain ⟨d3,p3⟩:=y3
   simp only [Rows.laid_chronicle_field_moduli,List.map_cons,List.map_nil,Prod.mk.injEq,DataW.agg.injEq,List.cons.injEq,and_true] at hx
   obtain ⟨⟨e0,e1,e2,e3⟩,_⟩:=hx
   subst e0 e1 e2 e3
   have g0:=Lib.cells_of_tab (k:=.u64) (zs:=[18446744073709551615,4294967295,0,18446744069414584321]) Tryz.underlying107 Tryz.underlying22 cellsU64 cellsMod h0
   have g1:=Lib.cells_of_tab (k:=.u64) (zs:=[17562291160714782033,13611842547513532036,18446744073709551615,18446744069414584320]) Tryz.underlying107 Tryz.underlying22 cellsU64 cellsMod h1
   have g2:=Lib.cells_of_tab (k:=.u64) (zs:=[18446744073709551597,18446744073709551615,18446744073709551615,9223372036854775807]) Tryz.underlying107 Tryz.underlying22 cellsU64 cellsMod h2
   have g3:=Lib.cells_of_tab (k:=.u64) (zs:=[6346243789798364141,1503914060200516822,0,1152921504606846976]) Tryz.underlying107 Tryz.underlying22 cellsU64 cellsMod h3
   simp at g0 g1 g2 g3
   simp [g0,g1,g2,g3]
  ·cases h
theorem first_at:∀ i,i<8→([1779033703,3144134277,1013904242,2773480762,1359893119,2600822924,528734635,1541459225]:List Int).getD i 0=Sh.wn (Sh.start.w i):=by decide +kernel
theorem k_at:∀ i,i<64→([1116352408,1899447441,3049323471,3921009573,961987163,1508970993,2453635748,2870763221,3624381080,310598401,607225278,1426881987,1925078388,2162078206,2614888103,3248222580,3835390401,4022224774,264347078,604807628,770255983,1249150122,1555081692,1996064986,2554220882,2821834349,2952996808,3210313671,3336571891,3584528711,113926993,338241895,666307205,773529912,1294757372,1396182291,1695183700,1986661051,2177026350,2456956037,2730485921,2820302411,3259730800,3345764771,3516065817,3600352804,4094571909,275423344,430227734,506948616,659060556,883997877,958139571,1322822218,1537002063,1747873779,1955562222,2024104815,2227730452,2361852424,2428436474,2756734187,3204031479,3329325298]:List Int).getD i 0=Sh.wn (Sh.kW i):=by decide +kernel
def laid1 : List (String × DataW Unit) := [("chronicle/sha256.first", Rows.laid_chronicle_sha256_first), ("chronicle/sha256.constants", Rows.laid_chronicle_sha256_constants), ("chronicle/field.moduli", Rows.laid_chronicle_field_moduli), ("chronicle/p256.curveB", Rows.laid_chronicle_p256_curveB)]
theorem tab_of_laid {W:World} (h:laidMetH Tryz.prog laid1 W):Tab W∧Sh.Tab W:=by
 rw [MakeChecks.laidMetH_plain _ _ _ (by kernel_rfl)] at h
 have hf : Lib.TabIs Tryz.prog W "chronicle/sha256.first" .u32 [1779033703, 3144134277, 1013904242, 2773480762, 1359893119, 2600822924, 528734635, 1541459225] := Lib.tabIs_of_head (rest := [("chronicle/sha256.constants", Rows.laid_chronicle_sha256_constants), ("chronicle/field.moduli", Rows.laid_chronicle_field_moduli), ("chronicle/p256.curveB", Rows.laid_chronicle_p256_curveB)]) gFirst tFirst Tryz.underlying111 Tryz.underlying109 cellsU32 cellsSt h
 have h0x:=h.tail
 have hk : Lib.TabIs Tryz.prog W "chronicle/sha256.constants" .u32 [1116352408, 1899447441, 3049323471, 3921009573, 961987163, 1508970993, 2453635748, 2870763221, 3624381080, 310598401, 607225278, 1426881987, 1925078388, 2162078206, 2614888103, 3248222580, 3835390401, 4022224774, 264347078, 604807628, 770255983, 1249150122, 1555081692, 1996064986, 2554220882, 2821834349, 2952996808, 3210313671, 3336571891, 3584528711, 113926993, 338241895, 666307205, 773529912, 1294757372, 1396182291, 1695183700, 1986661051, 2177026350, 2456956037, 2730485921, 2820302411, 3259730800, 3345764771, 3516065817, 3600352804, 4094571909, 275423344, 430227734, 506948616, 659060556, 883997877, 958139571, 1322822218, 1537002063, 1747873779, 1955562222, 2024104815, 2227730452, 2361852424, 2428436474, 2756734187, 3204031479, 3329325298] := Lib.tabIs_of_head (rest := [("chronicle/field.moduli", Rows.laid_chronicle_field_moduli), ("chronicle/p256.curveB", Rows.laid_chronicle_p256_curveB)]) gK tK Tryz.underlying151 Tryz.underlying109 cellsU32 cellsW64 h0x
 have h1x:=h0x.tail
 have hmo:=h1x
 have h2x:=h1x.tail
 have hB : Lib.TabIs Tryz.prog W "chronicle/p256.curveB" .u64 [4309448131093880907, 7285987128567378166, 12964664127075681980, 6540974713487397863] := Lib.tabIs_of_head (rest := []) gB tB Tryz.underlying24 Tryz.underlying22 cellsU64 cellsNat h2x
 obtain ⟨ps,⟨g,t,cs,fuel,p,q,hg,ht,hvar,hd,_,_⟩,_⟩:=hmo
 obtain rfl:=Option.some.inj (gMod.symm.trans hg)
 obtain rfl:=Option.some.inj (tMod.symm.trans ht)
 have hcs:=cells_of_table hd
 obtain ⟨l⟩:=cs
 simp only at hcs
 subst hcs
 refine ⟨?_,?_⟩
 ·exact ⟨World.var?_cell hg hvar 0,World.var?_cell hg hvar 1,World.var?_cell hg hvar 2,World.var?_cell hg hvar 3,World.var?_cell hg hvar 4,World.var?_cell hg hvar 5,World.var?_cell hg hvar 6,World.var?_cell hg hvar 7,World.var?_cell hg hvar 8,World.var?_cell hg hvar 9,World.var?_cell hg hvar 10,World.var?_cell hg hvar 11,World.var?_cell hg hvar 12,World.var?_cell hg hvar 13,World.var?_cell hg hvar 14,World.var?_cell hg hvar 15,hB.cell gB 0 (by decide),hB.cell gB 1 (by decide),hB.cell gB 2 (by decide),hB.cell gB 3 (by decide)⟩
 ·exact ⟨fun i hi=>by rw [← first_at i hi];exact hf.cell gFirst i hi,fun i hi=>by rw [← k_at i hi];exact hk.cell gK i hi⟩
theorem door_met (os:Os) (args:Array Value):laidMetH Tryz.prog laid1 ((World.doorLaid Tryz.prog 200 os).forCall (fun _ _=>0) ⟨#[],args,[]⟩).memory :=
 laidMetH_of_parts3 (fuel:=8) (laidMet_of_run' 8 (by kernel_rfl) (by kernel_rfl)) (by kernel_rfl) (by kernel_rfl)
end Go.Proofs.YtmigakanbeckpaaGreatDoor
