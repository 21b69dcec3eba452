/- What the program's own Verify answers. Two lists of bytes held against each other by the document's own Same. What layer 12's statements ask first. What is signed is right; what isn't. What the document's own PutLittle answers: a row of one's own. What the document's own answers of what layer 12's statements ask. EddsaKeys, walked. How the parameters, and the listed variables, are read before the call. -/
import Derived.Test.YtjaahnlpnkcimaaDoorKY24
import Derived.Test.YtjaahnlpnkcimaaDoorKY22
import Derived.Test.YtjaahnlpnkcimaaDoorKY02
import Derived.Test.YtjaahnlpnkcimaaDoorKY04
import Derived.Test.YtjaahnlpnkcimaaDoorKY05
import Derived.Deep.LoopGhost
import Derived.Deep.DeepCutAuto
import Derived.Deep.RegionWith
import Derived.Test.YtjaahnlpnkcimaaDoorTie
import Derived.Test.YtjaahnlpnkcimaaDoorCards
import Derived.ProofKit
import Derived.LaidMore
import Derived.MakeChecks
import Derived.Lib.LaidTab
import Derived.Stop.LaidErr
import Derived.Laws.IdiomArrays
import Derived.OpenShut
import Derived.Carry
import Derived.ChangeMaps5
import Derived.Stop.Joined
set_option maxRecDepth 100000
set_option maxHeartbeats 4000000
namespace Go.Proofs.YtjaahnlpnkcimaaDoor
set_option maxRecDepth 100000
open Go.RowKit
end Go.Proofs.YtjaahnlpnkcimaaDoor
namespace Go.Proofs.YtjaahnlpnkcimaaDoor
set_option maxRecDepth 100000
open Go.RowKit
end Go.Proofs.YtjaahnlpnkcimaaDoor
namespace Go.Proofs.YtjaahnlpnkcimaaDoor
set_option maxRecDepth 100000
open Go.RowKit
def zrs:List Nat:=List.replicate 32 0
theorem zrs_lt:∀ x ∈ zrs,x<256:=fun x hx=>by
 rw [List.eq_of_mem_replicate hx]
 decide
theorem b_zrs:Tryd.prog.built 23 []=some (by32 (bz zrs)).toArray:=by kernel_rfl
theorem pt_row {w:World} {v:Value} {F:Nat→Bool} {n:Nat} {l:List Nat} (hl:∀ x ∈ l,x<256) (h:(rowPd 5 1 (n) (cells8 (l))).p v F w):Pt w v l:=pt_rm (rm_row hl h)
theorem cZ6 (vs:List Value):∀ w,(callFunc 6 vs.toArray).run Tryd.prog w=.ok (.enter 6 vs.toArray) w:=callFunc_enter Tryd.func6 (by kernel_rfl) (by kernel_rfl) _
theorem awk {w:World} (hT:Tab w) (hH:Sx.Tab w):Calls Tryd.prog 6 [].toArray w fun e w'=>e=.returned (.bool true)∧Below w.heap.size w w':=by
 refine enter (args:=[]) Tryd.func6 rfl 5 rfl (lk rfl) (fun a h=>?_)
 refine a_region TTE h hm [] [eS 0 _] (by kernel_rfl) ⟨rfl,T0⟩ [] [] T0 T0 rfl (fun a w h=>?_)
 refine a_region TTE h hm [0,1,2,3] [eS 1 (.val (.agg (by32 (bz zrs)).toArray)),eQ 2 (rowPd 5 1 (32+32) (cells8 (cbp (pR zrs (fl (fun _=>0) 0))++(nb (kS zrs (fl (fun _=>0) 0)))))),eS 3 (.val (Value.int .i64 ((32+32:Nat):Int))),eS 4 (.val (Value.bool true)),eS 0 _] (by kernel_rfl) ⟨fun L u=>u_build u (gd0 rfl) 1 rfl 23 #[] rfl [] rfl (by32 (bz zrs)) (b_zrs),fun L u=>u_callQ u (gd0 rfl) 2 rfl rfl 7 #[(.tmp 1),(.const (.slice none 0 0))] #[23,24] rfl [.val (.agg (by32 (bz zrs)).toArray),.val ((Value.slice none 0 0))] rfl (fun vs w=>callFunc_enter Tryd.func7 (by kernel_rfl) (by kernel_rfl) vs w) (rowPd 5 1 (32+32) (cells8 (cbp (pR zrs (fl (fun _=>0) 0))++(nb (kS zrs (fl (fun _=>0) 0)))))) (fun β a w hr=>qSign (sd:=zrs) (z:=none) (n:=0) (c:=0) (f:=fun _=>0) (hT.keep (Bs.kp_of hr.bl)) (hH.keep (Bs.kp_of hr.bl)) rfl zrs_lt ⟨fun _=>by decide,Or.inl rfl⟩ (Nat.le_refl _) (Nat.zero_le _) (Nat.zero_le _)),fun L u=>q_len u (gd0 rfl) 3 rfl (.tmp 2) rfl rfl rfl (vw_row (l:=cbp (pR zrs (fl (fun _=>0) 0))++(nb (kS zrs (fl (fun _=>0) 0)))) (lt_app (cbp_lt _) (nb_lt _))),fun L u=>u_bin u (gd0 rfl) _ rfl _ _ _ _ _ rfl rfl rfl (eqg_int _ _ _ _ _ _ _ _) _ (yes_of (fun w=>i_eql _ _ _ _ w) (by decide)),rfl,T0⟩ [(0,.val (Value.bool true))] [] ⟨rfl,T0⟩ T0 rfl (fun a w h=>?_)
 refine wp_ret ?_
 refine ret_slot h 0 rfl (lk rfl) (Value.bool true) rfl ?_
 exact ⟨rfl,h.grows⟩
end Go.Proofs.YtjaahnlpnkcimaaDoor
namespace Go.Proofs.YtjaahnlpnkcimaaDoor
set_option maxRecDepth 100000
open Go.RowKit
theorem nle_nb {A:Nat} (h:A<2 ^ 256):nle (nb A)=A:=(nle_ln (nb_lt A) (nb_len A)).one (nb_ln h)
theorem dok_code {a:Ep m2} (h:a.on ed):dok (code a)=true:=by unfold dok;rw [dec_code h];rfl
theorem dpt_code {a:Ep m2} (h:a.on ed):dpt (code a)=a:=by unfold dpt;rw [dec_code h];rfl
theorem drop_app {l m:List Nat} (h:l.length=32):(l++m).drop 32=m:=by rw [← h];exact List.drop_left
theorem take_app {l m:List Nat} (h:l.length=32):(l++m).take 32=l:=by rw [← h];exact List.take_left
theorem pR_on (sd ms:List Nat):(pR sd ms).on ed:=mG_on _
theorem pt_head {w:World} {v:Value} {l:List Nat} (h:Pt w v l) (k:Nat) (hk:k≤l.length):Pt w (headV k v) (l.take k):=by
 obtain ⟨z,c,rfl,h2,h3,h4⟩:=h
 have hl:(l.take k).length=k:=by rw [List.length_take];omega
 refine ⟨cutA z c 0,c,by rw [hl];rfl,by omega,h3,?_⟩
 rw [hl]
 refine (h4.cut c 0 k (by omega) h2).of (fun i=>?_) (fun i hi=>?_)
 ·rw [List.getD_eq_getElem?_getD,List.getElem?_take]
  split
  ·rw [← List.getD_eq_getElem?_getD];exact h4.lt i
  ·decide
 ·rw [Nat.zero_add,List.getD_eq_getElem?_getD,List.getD_eq_getElem?_getD,List.getElem?_take_of_lt hi]
theorem pt_tail {w:World} {v:Value} {l:List Nat} (h:Pt w v l) (k:Nat) (hk:k≤l.length):Pt w (tailV k v) (l.drop k):=by
 obtain ⟨z,c,rfl,h2,h3,h4⟩:=h
 have hl:(l.drop k).length=l.length-k:=List.length_drop
 refine ⟨cutA z c k,c-k,by rw [hl];rfl,by omega,by omega,?_⟩
 rw [hl]
 refine (h4.cut c k (l.length-k) (by omega) h2).of (fun i=>?_) (fun i hi=>?_)
 ·rw [List.getD_eq_getElem?_getD,List.getElem?_drop,← List.getD_eq_getElem?_getD]
  exact h4.lt (k+i)
 ·show l.getD (k+i) 0=_
  rw [List.getD_eq_getElem?_getD,List.getD_eq_getElem?_getD,List.getElem?_drop]
end Go.Proofs.YtjaahnlpnkcimaaDoor
namespace Go.Proofs.YtjaahnlpnkcimaaDoor
set_option maxRecDepth 100000
open Go.RowKit
attribute [local go_sem ↓] Go.wp_at_zero Go.wp_at_succ
end Go.Proofs.YtjaahnlpnkcimaaDoor
namespace Go.Proofs.YtjaahnlpnkcimaaDoor
set_option maxRecDepth 100000
open Go.RowKit
theorem slitPt {w:World} {v:Value} {l:List Nat} (h:Pt w v l) (hl:l.length=32) (hlt:∀ x ∈ l,x<256):Calls Tryd.prog 11 [v].toArray w fun e w'=>e=.returned (.tuple [.agg (nc ((nle l:Nat):Int)).toArray,.bool true].toArray)∧Below w.heap.size w w':=by
 obtain ⟨z,c,rfl,hc,_,h4⟩:=h
 rw [hl] at h4 hc ⊢
 rcases h4.at_ with h0 | ⟨b,o,rfl,hr⟩
 ·omega
 ·have q:=refLittle_any (cap:=c) hc (bz_bd hlt) hr
  have hu:=nle_ln hlt hl
  have e:∀ j,j<4→E (bz l) (8*j) 8=L j ((nle l:Nat):Int):=fun j hj=>(hu.word hj).symm
  rw [show E (bz l) 0 8=L 0 _ from e 0 (by decide),show E (bz l) 8 8=L 1 _ from e 1 (by decide),show E (bz l) 16 8=L 2 _ from e 2 (by decide),show E (bz l) 24 8=L 3 _ from e 3 (by decide)] at q
  exact q
theorem sdecPt {w:World} (hT:Tab w) {v:Value} {l:List Nat} (h:Pt w v l) {a:Ep m2} (hl:l=cbp a) (ha:a.on ed):Calls Tryd.prog 14 [v].toArray w fun e w'=>e=.returned (.tuple [.agg (pcE a).toArray,.bool true].toArray)∧Below w.heap.size w w':=by
 subst hl
 obtain ⟨z,c,rfl,_,_,h4⟩:=h
 rw [cbp_len] at h4 ⊢
 have q:=s_Dec (c:=c) hT h4 (cbp_ln a)
 rw [dpt_code ha,dok_code ha] at q
 exact q
theorem sbelN {w:World} {V:Nat} (hV:V<2 ^ 256):Calls Tryd.prog 15 [.int .i64 3,.agg (nc (V:Int)).toArray].toArray w fun e w'=>e=.returned (.bool (decide ((V:Int)<md 3)))∧Below w.heap.size w w':=refBelow_any (k:=3) (num_nat hV) w
theorem sformN {w:World} (hT:Tab w) {a:Ep m2} (ha:a.on ed):Calls Tryd.prog 16 [.agg (pcE a).toArray].toArray w fun e w'=>e=.returned (.bool true)∧Below w.heap.size w w':=by
 have q:=s_formed_at hT a.x a.y
 rw [decide_eq_true (show a.y*a.y-a.x*a.x=1+ed*(a.x*a.x*(a.y*a.y)) from ha)] at q
 exact q
theorem cZ16 (vs:List Value):∀ w,(callFunc 16 vs.toArray).run Tryd.prog w=.ok (.enter 16 vs.toArray) w:=callFunc_enter Tryd.func16 (by kernel_rfl) (by kernel_rfl) _
theorem cZ15 (vs:List Value):∀ w,(callFunc 15 vs.toArray).run Tryd.prog w=.ok (.enter 15 vs.toArray) w:=callFunc_enter Tryd.func15 (by kernel_rfl) (by kernel_rfl) _
end Go.Proofs.YtjaahnlpnkcimaaDoor
namespace Go.Proofs.YtjaahnlpnkcimaaDoor
set_option maxRecDepth 100000
open Go.RowKit
theorem lKeys_long {w:World} (hT:Tab w) (hH:Sx.Tab w) {sd:List Nat} (_hsd:sd.length=32) (_hlt:∀ x ∈ sd,x<256) {n c:Nat} {z:Option Addr} {f:Nat→Nat} (_hba:BA w z n f) (_hc:n≤c) (_hcm:c≤maxLen) (_hn:300<n):Calls Tryd.prog 5 [.agg (by32 (bz sd)).toArray,Value.slice (z) (n) (c)].toArray w fun e w'=>e=.returned (.bool true)∧Below w.heap.size w w':=by
 refine enter (args:=[.agg (by32 (bz sd)).toArray,Value.slice (z) (n) (c)]) Tryd.func5 rfl 60 rfl (lk rfl) (fun a h=>?_)
 refine a_region TTE h hm [] [eN 2 _,eS 4 _] (by kernel_rfl) ⟨rfl,rfl,T0⟩ [(1,.val (Value.slice (z) (n) (c))),(2,.ptr 2 0)] [(2,by32 (bz sd))] ⟨rfl,rfl,T0⟩ ⟨rfl,T0⟩ rfl (fun a w h=>?_)
 refine wp_seq ?_
 refine a_region TTE h hm [0,4,5] [eS 13 (.val (Value.bool true)),eS 14 _,eS 15 _,eS 16 _,eS 17 (.val (Value.int .i64 ((n:Nat):Int))),eS 18 (.val (Value.bool true)),eS 19 _] (by kernel_rfl) ⟨fun L u=>u_call u (gd0 rfl) _ rfl _ _ _ rfl [] rfl (cZ6 _) _ (fun w hb=>awk (hT.keep (Bs.kp_of hb)) (hH.keep (Bs.kp_of hb))),rfl,rfl,rfl,fun L u=>u_lenV u (gd1 u 2 false rfl 15 rfl (lk rfl) rfl) 17 rfl (.tmp 16) 24 rfl rfl Tryd.underlying24,fun L u=>u_bin u (gd1 u 2 false rfl 15 rfl (lk rfl) rfl) _ rfl _ _ _ _ _ rfl rfl rfl (eqg_int _ _ _ _ _ _ _ _) _ (yes_of (fun w=>i_gtr _ _ _ _ w) (by omega)),rfl,T0⟩ [(1,_),(2,_),(19,.val (Value.bool true))] [(2,_)] ⟨rfl,rfl,rfl,T0⟩ ⟨rfl,T0⟩ rfl (fun a w h=>?_)
 refine go_cond h true rfl (fun ht=>?_) (fun hf=>?_)
 case refine_2=>cases hf
 refine a_region TTE h hm [0] [eS 20 (.val (Value.bool true)),eS 4 _] (by kernel_rfl) ⟨fun L u=>u_call u (gd0 rfl) _ rfl _ _ _ rfl [] rfl (cZ6 _) _ (fun w hb=>awk (hT.keep (Bs.kp_of hb)) (hH.keep (Bs.kp_of hb))),rfl,T0⟩ [(4,.val (Value.bool true))] [] ⟨rfl,T0⟩ T0 rfl (fun a w h=>?_)
 refine wp_ret ?_
 refine then_ret ?_
 refine ret_slot h 4 rfl (lk rfl) (Value.bool true) rfl ?_
 exact ⟨rfl,h.grows⟩
theorem lKeys_at {w:World} (hT:Tab w) (hH:Sx.Tab w) {sd:List Nat} (hsd:sd.length=32) (hlt:∀ x ∈ sd,x<256) {n c:Nat} {z:Option Addr} {f:Nat→Nat} (hba:BA w z n f) (hc:n≤c) (hcm:c≤maxLen) (_hn:n≤300):Calls Tryd.prog 5 [.agg (by32 (bz sd)).toArray,Value.slice (z) (n) (c)].toArray w fun e w'=>e=.returned (.bool true)∧Below w.heap.size w w':=by
 refine enter (args:=[.agg (by32 (bz sd)).toArray,Value.slice (z) (n) (c)]) Tryd.func5 rfl 60 rfl (lk rfl) (fun a h=>?_)
 refine a_region TTE h hm [] [eN 2 _,eS 4 _] (by kernel_rfl) ⟨rfl,rfl,T0⟩ [(1,.val (Value.slice (z) (n) (c))),(2,.ptr 2 0)] [(2,by32 (bz sd))] ⟨rfl,rfl,T0⟩ ⟨rfl,T0⟩ rfl (fun a w h=>?_)
 refine wp_seq ?_
 refine a_region TTE h hm [0,4,5] [eS 13 (.val (Value.bool true)),eS 14 _,eS 15 _,eS 16 _,eS 17 (.val (Value.int .i64 ((n:Nat):Int))),eS 18 (.val (Value.bool false)),eS 19 _] (by kernel_rfl) ⟨fun L u=>u_call u (gd0 rfl) _ rfl _ _ _ rfl [] rfl (cZ6 _) _ (fun w hb=>awk (hT.keep (Bs.kp_of hb)) (hH.keep (Bs.kp_of hb))),rfl,rfl,rfl,fun L u=>u_lenV u (gd1 u 2 false rfl 15 rfl (lk rfl) rfl) 17 rfl (.tmp 16) 24 rfl rfl Tryd.underlying24,fun L u=>u_bin u (gd1 u 2 false rfl 15 rfl (lk rfl) rfl) _ rfl _ _ _ _ _ rfl rfl rfl (eqg_int _ _ _ _ _ _ _ _) _ (no_of (fun w=>i_gtr _ _ _ _ w) (by omega)),rfl,T0⟩ [(1,_),(2,_),(19,.val (Value.bool false))] [(2,_)] ⟨rfl,rfl,rfl,T0⟩ ⟨rfl,T0⟩ rfl (fun a w h=>?_)
 refine go_cond h false rfl (fun ht=>?_) (fun hf=>?_)
 case refine_1=>cases ht
 refine wp_skip ?_
 refine then_norm ?_
 refine a_region TTE h hm [1] [eS 21 _,eS 22 (.val (.agg (by32 (bz (cbp (pA sd)))).toArray)),eN 5 _,eM 5 _] (by kernel_rfl) ⟨rfl,fun L u=>u_call u (gd0 rfl) _ rfl _ _ _ rfl [_] rfl (cZ8 _) _ (fun w hb=>qPub (hT.keep (Bs.kp_of hb)) (hH.keep (Bs.kp_of hb)) hsd hlt),rfl,rfl,T0⟩ [(1,_),(2,_),(5,.ptr 5 0)] [(2,_),(5,by32 (bz (cbp (pA sd))))] ⟨rfl,rfl,rfl,T0⟩ ⟨rfl,rfl,T0⟩ rfl (fun a w h=>?_)
 refine a_regionQ TTE h hm [2,3] [eS 23 _,eS 24 _,eQ 25 (rowPd 5 1 (32+32) (cells8 (cbp (pR sd (fl f n))++(nb (kS sd (fl f n)))))),eS 6 (.unk 25 id)] (by kernel_rfl) ⟨rfl,rfl,fun L u=>u_callQ u (gd0 rfl) 25 rfl rfl 7 #[(.tmp 23),(.tmp 24)] #[23,24] rfl [.val (.agg (by32 (bz sd)).toArray),.val (Value.slice (z) (n) (c))] rfl (fun vs w=>callFunc_enter Tryd.func7 (by kernel_rfl) (by kernel_rfl) vs w) (rowPd 5 1 (32+32) (cells8 (cbp (pR sd (fl f n))++(nb (kS sd (fl f n)))))) (fun β a w hr=>qSign (hT.keep (Bs.kp_of hr.bl)) (hH.keep (Bs.kp_of hr.bl)) hsd hlt (hba.keep (Bs.kp_of hr.bl)) hc hcm (by omega)),fun L u=>u_copyQ u (gd0 rfl) 6 rfl (.tmp 25) (Or.inr rfl) rfl rfl,T0⟩ [(5,_),(6,.unk 25 id)] [(5,_)] [(25,rowPd 5 1 (32+32) (cells8 (cbp (pR sd (fl f n))++(nb (kS sd (fl f n))))))] ⟨rfl,rfl,T0⟩ ⟨rfl,T0⟩ ⟨rfl,T0⟩ rfl (fun a w h=>?_)
 refine a_regionQ TTE h hm [0,1] [eS 27 (.sli 5 0 32 32),eS 28 (.val (.tuple [Value.agg (pcE (pA sd)).toArray,Value.bool true].toArray)),eS 26 _,eS 29 _,eS 30 _,eN 7 _,eM 7 _,eS 8 _] (by kernel_rfl) ⟨fun L u=>u_slice u (gd0 rfl) 27 rfl 23 (.tmp 5) rfl rfl rfl Tryd.underlying23 i5Z,fun L u=>u_callR u (gd0 rfl) 28 rfl 14 #[(.tmp 27)] #[24] rfl [.sli 5 0 32 32] rfl (fun vs w=>callFunc_enter Tryd.func14 (by kernel_rfl) (by kernel_rfl) vs w) (.tuple [.agg (pcE (pA sd)).toArray,Value.bool true].toArray) (fun β a w hr=>by obtain ⟨_,_,c3,_⟩:=hr.va 5 (by32 (bz (cbp (pA sd)))) (u.m rfl);exact sdecPt (hT.keep (Bs.kp_of hr.bl)) (pt_by32 (cbp_len _) (cbp_lt _) c3) rfl (pA_on sd)),rfl,rfl,rfl,rfl,rfl,rfl,T0⟩ [(6,_),(7,.ptr 7 0),(8,.val (Value.bool true))] [(7,pcE (pA sd))] [(25,rowPd 5 1 (32+32) (cells8 (cbp (pR sd (fl f n))++(nb (kS sd (fl f n))))))] ⟨rfl,rfl,rfl,T0⟩ ⟨rfl,T0⟩ ⟨rfl,T0⟩ rfl (fun a w h=>?_)
 refine a_regionQ TTE h hm [0,1,2] [eS 32 (.unk 25 id),eS 33 (.unk 25 (fun v=>headV (32) (id v))),eS 34 (.val (.tuple [Value.agg (pcE (pR sd (fl f n))).toArray,Value.bool true].toArray)),eS 31 _,eS 35 _,eS 36 _,eN 9 _,eM 9 _,eS 10 _] (by kernel_rfl) ⟨fun L u=>u_copyQ u (gd0 rfl) 32 rfl (.tmp 6) (Or.inl rfl) rfl rfl,fun L u=>q_head u (gd0 rfl) 33 rfl (.tmp 32) (.const (.int .i64 32)) rfl rfl rfl (vw_row (l:=cbp (pR sd (fl f n))++(nb (kS sd (fl f n)))) (lt_app (cbp_lt _) (nb_lt _))) (32) rfl (by omega),fun L u=>u_callR u (gd0 rfl) 34 rfl 14 #[(.tmp 33)] #[24] rfl [.unk 25 (fun v=>headV (32) (id v))] rfl (fun vs w=>callFunc_enter Tryd.func14 (by kernel_rfl) (by kernel_rfl) vs w) (.tuple [.agg (pcE (pR sd (fl f n))).toArray,Value.bool true].toArray) (fun β a w hr=>by exact sdecPt (hT.keep (Bs.kp_of hr.bl)) (pt_head (pt_row (lt_app (cbp_lt _) (nb_lt _)) (hr.thing (x:=25) (u.q rfl))) 32 (by rw [len_app (cbp_len _) (nb_len _)];decide)) (take_app (cbp_len _)) (pR_on sd (fl f n))),rfl,rfl,rfl,rfl,rfl,rfl,T0⟩ [(6,_),(7,_),(8,_),(10,.val (Value.bool true))] [(7,_)] [(25,rowPd 5 1 (32+32) (cells8 (cbp (pR sd (fl f n))++(nb (kS sd (fl f n))))))] ⟨rfl,rfl,rfl,rfl,T0⟩ ⟨rfl,T0⟩ ⟨rfl,T0⟩ rfl (fun a w h=>?_)
 refine a_regionQ TTE h hm [0,1,2] [eS 38 (.unk 25 id),eS 39 (.unk 25 (fun v=>tailV (32) (id v))),eS 40 (.val (.tuple [Value.agg (nc (((kS sd (fl f n):Nat):Int))).toArray,Value.bool true].toArray)),eS 37 _,eS 41 _,eS 42 _,eN 11 _,eM 11 _,eS 12 _] (by kernel_rfl) ⟨fun L u=>u_copyQ u (gd0 rfl) 38 rfl (.tmp 6) (Or.inl rfl) rfl rfl,fun L u=>q_tail u (gd0 rfl) 39 rfl (.tmp 38) (.const (.int .i64 32)) rfl rfl rfl (vw_row (l:=cbp (pR sd (fl f n))++(nb (kS sd (fl f n)))) (lt_app (cbp_lt _) (nb_lt _))) (32) rfl (by omega),fun L u=>u_callR u (gd0 rfl) 40 rfl 11 #[(.tmp 39)] #[24] rfl [.unk 25 (fun v=>tailV (32) (id v))] rfl (fun vs w=>callFunc_enter Tryd.func11 (by kernel_rfl) (by kernel_rfl) vs w) (.tuple [.agg (nc (((kS sd (fl f n):Nat):Int))).toArray,Value.bool true].toArray) (fun β a w hr=>by have q:=slitPt (pt_tail (pt_row (lt_app (cbp_lt _) (nb_lt _)) (hr.thing (x:=25) (u.q rfl))) 32 (by rw [len_app (cbp_len _) (nb_len _)];decide)) (by rw [drop_app (cbp_len _)];exact nb_len _) (by rw [drop_app (cbp_len _)];exact nb_lt _);rw [drop_app (cbp_len _),nle_nb (kS_num sd (fl f n))] at q;exact q),rfl,rfl,rfl,rfl,rfl,rfl,T0⟩ [(6,_),(7,_),(8,_),(10,_),(11,.ptr 11 0)] [(7,_),(11,nc (((kS sd (fl f n):Nat):Int)))] [(25,rowPd 5 1 (32+32) (cells8 (cbp (pR sd (fl f n))++(nb (kS sd (fl f n))))))] ⟨rfl,rfl,rfl,rfl,rfl,T0⟩ ⟨rfl,rfl,T0⟩ ⟨rfl,T0⟩ rfl (fun a w h=>?_)
 refine a_region TTE h hm [6,9,10,11,15] [eS 43 _,eS 44 _,eS 45 _,eS 46 _,eS 47 _,eS 48 _,eS 49 (.val (Value.bool true)),eS 50 _,eS 51 _,eS 52 (.unk 25 id),eS 53 (.val (Value.int .i64 ((32+32:Nat):Int))),eS 54 (.val (Value.bool true)),eS 55 _,eS 56 _,eS 57 _,eS 58 (.val (Value.bool true)),eS 59 _,eS 4 _] (by kernel_rfl) ⟨rfl,rfl,rfl,rfl,rfl,rfl,fun L u=>u_call u (gd1 u 4 true rfl 47 rfl (lk rfl) rfl) _ rfl _ _ _ rfl [_,_] rfl (cZ15 _) (Value.bool true) (fun w hb=>by have q:=sbelN (w:=w) (kS_num sd (fl f n));rw [decide_eq_true (kS_lt sd (fl f n))] at q;exact q),rfl,rfl,fun L u=>u_copyQ u (gd1 u 8 true rfl 51 rfl (lk rfl) rfl) 52 rfl (.tmp 6) (Or.inl rfl) rfl rfl,fun L u=>q_len u (gd1 u 8 true rfl 51 rfl (lk rfl) rfl) 53 rfl (.tmp 52) rfl rfl rfl (vw_row (l:=cbp (pR sd (fl f n))++(nb (kS sd (fl f n)))) (lt_app (cbp_lt _) (nb_lt _))),fun L u=>u_bin u (gd1 u 8 true rfl 51 rfl (lk rfl) rfl) _ rfl _ _ _ _ _ rfl rfl rfl (eqg_int _ _ _ _ _ _ _ _) _ (yes_of (fun w=>i_eql _ _ _ _ w) (by decide)),rfl,rfl,rfl,fun L u=>u_call u (gd1 u 13 true rfl 56 rfl (lk rfl) rfl) _ rfl _ _ _ rfl [_] rfl (cZ16 _) _ (fun w hb=>sformN (hT.keep (Bs.kp_of hb)) (pA_on sd)),rfl,rfl,T0⟩ [(4,.val (Value.bool true))] [] ⟨rfl,T0⟩ T0 rfl (fun a w h=>?_)
 refine wp_ret ?_
 refine ret_slot h 4 rfl (lk rfl) (Value.bool true) rfl ?_
 exact ⟨rfl,h.grows⟩
theorem lKeys {w:World} (hT:Tab w) (hH:Sx.Tab w) {sd:List Nat} (hsd:sd.length=32) (hlt:∀ x ∈ sd,x<256) {n c:Nat} {z:Option Addr} {f:Nat→Nat} (hba:BA w z n f) (hc:n≤c) (hcm:c≤maxLen):Calls Tryd.prog 5 [.agg (by32 (bz sd)).toArray,Value.slice (z) (n) (c)].toArray w fun e w'=>e=.returned (.bool true)∧Below w.heap.size w w':=by
 rcases Nat.lt_or_ge 300 n with hn | hn
 ·exact lKeys_long hT hH hsd hlt hba hc hcm hn
 ·exact lKeys_at hT hH hsd hlt hba hc hcm hn
end Go.Proofs.YtjaahnlpnkcimaaDoor
namespace Go.Proofs.YtjaahnlpnkcimaaDoor
set_option maxRecDepth 100000
open Go.ChangeShapes Go.WideShapes Go.ChangeAt Go.RowKit
theorem own:ownKnob Tryd.prog.godebug=none:=by kernel_rfl
theorem cellsU64:Tryd.prog.cellsOf 31=1:=by kernel_rfl
theorem cellsNat:Tryd.prog.cellsOf 33=4:=by kernel_rfl
theorem u8_of_wf {x:Int} (h:(Lit.int .u8 x).wf=true):0≤x∧x≤255:=by
 simp [Lit.wf,IntKind.min,IntKind.max,IntKind.signed,IntKind.bits] at h
 exact ⟨by omega,by omega⟩
theorem Tryd.laidOut:laidOutB Tryd.prog=true:=by kernel_rfl
theorem cellsU8:Tryd.prog.cellsOf 5=1:=by kernel_rfl
theorem open_bytes {H:Type} {enc:TypeId × Value→H} {W:World} {base:Nat} {v:Value} {d:DataW H} {p:List MemPlace}
  (hv:Value.okWide Tryd.prog W .any base 24 v) (h:DataW.Trod enc Tryd.prog W 0 (fun _=>true) true 24 v d p) :
  ∃ a n c f,v=.slice a n c∧BA W a n f∧n≤c∧c≤maxLen:=by
 obtain ⟨a0,len,cap,rfl⟩:=okWide_slice Tryd.underlying24 hv
 obtain ⟨fuel,hf⟩:=h
 rcases open_ints Tryd.underlying24 Tryd.underlying5 cellsU8 hf with ⟨hcs,hx⟩ | ⟨a,len',cap',zs,hcs,_,hl,hm,hz,hx,hcell,hwz⟩
 ·simp [Value.cells] at hcs
  obtain ⟨rfl,rfl,rfl⟩:=hcs
  exact ⟨none,0,0,fun _=>0,rfl,⟨fun _=>by omega,Or.inl rfl⟩,by omega,by unfold maxLen;omega⟩
 ·simp [Value.cells] at hcs
  obtain ⟨rfl,rfl,rfl⟩:=hcs
  simp only [if_true] at hz
  have hr:∀ i,0≤zs.getD i 0∧zs.getD i 0<256:=fun i=>by
   have h:=range_u8 hwz i
   simp only [List.getD_eq_getElem?_getD]
   omega
  refine ⟨some a,len,cap,fun i=>(zs.getD i 0).toNat,rfl,⟨fun i=>by have:=hr i;omega,?_⟩,hl,hm⟩
  by_cases h0:len=0
  ·exact Or.inl h0
  ·obtain ⟨b,off,rfl,hc⟩:=ints_at hcell (by omega)
   exact Or.inr ⟨b,off,rfl,⟨fun i hi=>by
    have:=hr i
    rw [hc i (by omega),Int.toNat_of_nonneg this.1]⟩⟩
theorem cellsHash:Tryd.prog.cellsOf 23=32:=by kernel_rfl
theorem open_hash {H:Type} {enc:TypeId × Value→H} {W:World} {base:Nat} {v:Value} {d:DataW H} {p:List MemPlace}
  (hv:Value.okWide Tryd.prog W .any base 23 v) (h:DataW.Trod enc Tryd.prog W 0 (fun _=>true) true 23 v d p) :
  ∃ sd:List Nat,v=.agg (by32 (bz sd)).toArray∧sd.length=32∧∀ x ∈ sd,x<256:=by
 obtain ⟨cs,rfl,hsz,_⟩:∃ cs,v=.agg cs∧cs.size=Tryd.prog.cellsOf 23∧Row.okWide Tryd.prog W .any base 23 cs:=by
  simpa [Value.okWide,Tryd.underlying23] using hv
 rw [cellsHash] at hsz
 obtain ⟨l⟩:=cs
 have hl:l.length=32:=by simpa using hsz
 obtain ⟨fuel,hf⟩:=h
 obtain ⟨xs,m,_,_,_,hxl,hat⟩:=DataW.trod_array Tryd.underlying23 hf
 have key:∀ i,i<32→∃ n:Nat,l[i]?=some (.int .u8 ((n:Nat):Int))∧n<256:=fun i hi=>by
  have h1:=hat i hi
  rw [cellsU8,Nat.mul_one,List.getElem?_eq_getElem (by omega)] at h1
  obtain ⟨n,e1,_,hw⟩:=DataW.trod_int Tryd.underlying5 h1
  have hb:=u8_of_wf hw
  have e2:(l.drop i).take 1=[.int .u8 n]:=e1
  have e3:((l.drop i).take 1)[0]?=some (.int .u8 n):=by rw [e2];rfl
  rw [List.getElem?_take_of_lt (by decide),List.getElem?_drop,Nat.add_zero] at e3
  exact ⟨n.toNat,by rw [e3,Int.toNat_of_nonneg hb.1],by omega⟩
 obtain ⟨F,hF⟩:∃ F:Nat→Nat,∀ i,F i<256∧(i<32→l[i]?=some (.int .u8 ((F i:Nat):Int))):=by
  refine ⟨fun i=>if hi:i<32 then (key i hi).choose else 0,fun i=>?_⟩
  by_cases hi:i<32
  ·simp only [hi,dite_true,forall_const]
   exact ⟨(key i hi).choose_spec.2,(key i hi).choose_spec.1⟩
  ·simp [hi]
 refine ⟨fl F 32,?_,fl_len _ _,fl_lt (fun i=>(hF i).1) 32⟩
 have e:l=by32 (bz (fl F 32)):=by
  apply List.ext_getElem?
  intro i
  rcases Nat.lt_or_ge i 32 with hi | hi
  ·rw [(hF i).2 hi,by32_at _ i hi]
   unfold bz
   rw [getD_fl hi]
  ·rw [List.getElem?_eq_none (by omega),List.getElem?_eq_none (by rw [by32_len];exact hi)]
 rw [e]
theorem gMod : Tryd.prog.globalNamed "chronicle/field.moduli" = some 1 := by kernel_rfl
theorem tMod:(Tryd.prog.globals[1]?).map (·.type)=some 93:=by kernel_rfl
theorem gCd : Tryd.prog.globalNamed "chronicle/ed.curveD" = some 4 := by kernel_rfl
theorem tCd:(Tryd.prog.globals[4]?).map (·.type)=some 33:=by kernel_rfl
theorem gFirst : Tryd.prog.globalNamed "chronicle/sha512.first" = some 0 := by kernel_rfl
theorem tFirst:(Tryd.prog.globals[0]?).map (·.type)=some 84:=by kernel_rfl
theorem gK : Tryd.prog.globalNamed "chronicle/sha512.constants" = some 5 := by kernel_rfl
theorem tK:(Tryd.prog.globals[5]?).map (·.type)=some 104:=by kernel_rfl
theorem cellsModuli:Tryd.prog.cellsOf 93=16:=by kernel_rfl
theorem cellsMod:Tryd.prog.cellsOf 67=4:=by kernel_rfl
theorem cellsSt:Tryd.prog.cellsOf 84=8:=by kernel_rfl
theorem cellsW80:Tryd.prog.cellsOf 104=80:=by kernel_rfl
theorem list16 {α:Type} (l:List α) (h:l.length=16):∃ x0 x1 x2 x3 x4 x5 x6 x7 x8 x9 x10 x11 x12 x13 x14 x15,l=[x0,x1,x2,x3,x4,x5,x6,x7,x8,x9,x10,x11,x12,x13,x14,x15]:=by
 match l,h with
 | [x0,x1,x2,x3,x4,x5,x6,x7,x8,x9,x10,x11,x12,x13,x14,x15],_=>exact ⟨x0,x1,x2,x3,x4,x5,x6,x7,x8,x9,x10,x11,x12,x13,x14,x15,rfl⟩
theorem cells_of_table {H:Type} {enc:TypeId × Value→H} {W:World} {sp:Nat→Bool} {held:Bool} {fuel:Nat} {l:List Value} {p:List MemPlace}
  (h:DataW.trod enc Tryd.prog W 0 sp held fuel 93 l=some (Rows.laid_chronicle_field_moduli,p)):l=[.int .u64 18446744073709551615,.int .u64 4294967295,.int .u64 0,.int .u64 18446744069414584321,.int .u64 17562291160714782033,.int .u64 13611842547513532036,.int .u64 18446744073709551615,.int .u64 18446744069414584320,.int .u64 18446744073709551597,.int .u64 18446744073709551615,.int .u64 18446744073709551615,.int .u64 9223372036854775807,.int .u64 6346243789798364141,.int .u64 1503914060200516822,.int .u64 0,.int .u64 1152921504606846976]:=by
 cases fuel with
 | zero=>simp [DataW.trod] at h
 | succ fuel =>
  simp only [DataW.trod,Tryd.underlying93,cellsModuli,cellsMod] at h
  split at h
  ·rename_i hl
   obtain ⟨x0,x1,x2,x3,x4,x5,x6,x7,x8,x9,x10,x11,x12,x13,x14,x15,rfl⟩:=list16 l (by simpa using hl)
   rw [show List.range 4=[0,1,2,3] from rfl] at h
   simp only [Option.map_eq_some_iff,List.mapM_cons,List.mapM_nil,Option.bind_eq_bind,Option.bind_eq_some_iff,Option.pure_def,Option.some.injEq] at h
   obtain ⟨ys,⟨y0,h0,_,⟨y1,h1,_,⟨y2,h2,_,⟨y3,h3,_,rfl,rfl⟩,rfl⟩,rfl⟩,rfl⟩,hx⟩:=h
   obtain ⟨d0,p0⟩:=y0
   obtain ⟨d1,p1⟩:=y1
   obtain ⟨d2,p2⟩:=y2
   obtain ⟨d3,p3⟩:=y3
   simp only [Rows.laid_chronicle_field_moduli,List.map_cons,List.map_nil,Prod.mk.injEq,DataW.agg.injEq,List.cons.injEq,and_true] at hx
   obtain ⟨⟨e0,e1,e2,e3⟩,_⟩:=hx
   subst e0 e1 e2 e3
   have g0:=Lib.cells_of_tab (k:=.u64) (zs:=[18446744073709551615,4294967295,0,18446744069414584321]) Tryd.underlying67 Tryd.underlying31 cellsU64 cellsMod h0
   have g1:=Lib.cells_of_tab (k:=.u64) (zs:=[17562291160714782033,13611842547513532036,18446744073709551615,18446744069414584320]) Tryd.underlying67 Tryd.underlying31 cellsU64 cellsMod h1
   have g2:=Lib.cells_of_tab (k:=.u64) (zs:=[18446744073709551597,18446744073709551615,18446744073709551615,9223372036854775807]) Tryd.underlying67 Tryd.underlying31 cellsU64 cellsMod h2
   have g3:=Lib.cells_of_tab (k:=.u64) (zs:=[6346243789798364141,1503914060200516822,0,1152921504606846976]) Tryd.underlying67 Tryd.underlying31 cellsU64 cellsMod h3
   simp at g0 g1 g2 g3
   simp [g0,g1,g2,g3]
  ·cases h
theorem first_at:∀ i,i<8→([7640891576956012808,13503953896175478587,4354685564936845355,11912009170470909681,5840696475078001361,11170449401992604703,2270897969802886507,6620516959819538809]:List Int).getD i 0=Sx.wn (Sx.start.w i):=by decide +kernel
theorem k_at:∀ i,i<80→([4794697086780616226,8158064640168781261,13096744586834688815,16840607885511220156,4131703408338449720,6480981068601479193,10538285296894168987,12329834152419229976,15566598209576043074,1334009975649890238,2608012711638119052,6128411473006802146,8268148722764581231,9286055187155687089,11230858885718282805,13951009754708518548,16472876342353939154,17275323862435702243,1135362057144423861,2597628984639134821,3308224258029322869,5365058923640841347,6679025012923562964,8573033837759648693,10970295158949994411,12119686244451234320,12683024718118986047,13788192230050041572,14330467153632333762,15395433587784984357,489312712824947311,1452737877330783856,2861767655752347644,3322285676063803686,5560940570517711597,5996557281743188959,7280758554555802590,8532644243296465576,9350256976987008742,10552545826968843579,11727347734174303076,12113106623233404929,14000437183269869457,14369950271660146224,15101387698204529176,15463397548674623760,17586052441742319658,1182934255886127544,1847814050463011016,2177327727835720531,2830643537854262169,3796741975233480872,4115178125766777443,5681478168544905931,6601373596472566643,7507060721942968483,8399075790359081724,8693463985226723168,9568029438360202098,10144078919501101548,10430055236837252648,11840083180663258601,13761210420658862357,14299343276471374635,14566680578165727644,15097957966210449927,16922976911328602910,17689382322260857208,500013540394364858,748580250866718886,1242879168328830382,1977374033974150939,2944078676154940804,3659926193048069267,4368137639120453308,4836135668995329356,5532061633213252278,6448918945643986474,6902733635092675308,7801388544844847127]:List Int).getD i 0=Sx.wn (Sx.kW i):=by decide +kernel
def laid1 : List (String × DataW Unit) := [("chronicle/sha512.first", Rows.laid_chronicle_sha512_first), ("chronicle/sha512.constants", Rows.laid_chronicle_sha512_constants), ("chronicle/field.moduli", Rows.laid_chronicle_field_moduli), ("chronicle/ed.curveD", Rows.laid_chronicle_ed_curveD)]
theorem tab_of_laid {W:World} (h:laidMetH Tryd.prog laid1 W):Tab W∧Sx.Tab W:=by
 rw [MakeChecks.laidMetH_plain _ _ _ (by kernel_rfl)] at h
 have vFirst : Lib.TabIs Tryd.prog W "chronicle/sha512.first" .u64 [7640891576956012808, 13503953896175478587, 4354685564936845355, 11912009170470909681, 5840696475078001361, 11170449401992604703, 2270897969802886507, 6620516959819538809] := Lib.tabIs_of_head (rest := [("chronicle/sha512.constants", Rows.laid_chronicle_sha512_constants), ("chronicle/field.moduli", Rows.laid_chronicle_field_moduli), ("chronicle/ed.curveD", Rows.laid_chronicle_ed_curveD)]) gFirst tFirst Tryd.underlying84 Tryd.underlying31 cellsU64 cellsSt h
 have h0x:=h.tail
 have vK : Lib.TabIs Tryd.prog W "chronicle/sha512.constants" .u64 [4794697086780616226, 8158064640168781261, 13096744586834688815, 16840607885511220156, 4131703408338449720, 6480981068601479193, 10538285296894168987, 12329834152419229976, 15566598209576043074, 1334009975649890238, 2608012711638119052, 6128411473006802146, 8268148722764581231, 9286055187155687089, 11230858885718282805, 13951009754708518548, 16472876342353939154, 17275323862435702243, 1135362057144423861, 2597628984639134821, 3308224258029322869, 5365058923640841347, 6679025012923562964, 8573033837759648693, 10970295158949994411, 12119686244451234320, 12683024718118986047, 13788192230050041572, 14330467153632333762, 15395433587784984357, 489312712824947311, 1452737877330783856, 2861767655752347644, 3322285676063803686, 5560940570517711597, 5996557281743188959, 7280758554555802590, 8532644243296465576, 9350256976987008742, 10552545826968843579, 11727347734174303076, 12113106623233404929, 14000437183269869457, 14369950271660146224, 15101387698204529176, 15463397548674623760, 17586052441742319658, 1182934255886127544, 1847814050463011016, 2177327727835720531, 2830643537854262169, 3796741975233480872, 4115178125766777443, 5681478168544905931, 6601373596472566643, 7507060721942968483, 8399075790359081724, 8693463985226723168, 9568029438360202098, 10144078919501101548, 10430055236837252648, 11840083180663258601, 13761210420658862357, 14299343276471374635, 14566680578165727644, 15097957966210449927, 16922976911328602910, 17689382322260857208, 500013540394364858, 748580250866718886, 1242879168328830382, 1977374033974150939, 2944078676154940804, 3659926193048069267, 4368137639120453308, 4836135668995329356, 5532061633213252278, 6448918945643986474, 6902733635092675308, 7801388544844847127] := Lib.tabIs_of_head (rest := [("chronicle/field.moduli", Rows.laid_chronicle_field_moduli), ("chronicle/ed.curveD", Rows.laid_chronicle_ed_curveD)]) gK tK Tryd.underlying104 Tryd.underlying31 cellsU64 cellsW80 h0x
 have h1x:=h0x.tail
 have hmo:=h1x
 have h2x:=h1x.tail
 have vCd : Lib.TabIs Tryd.prog W "chronicle/ed.curveD" .u64 [8496970652267935907, 31536524315187371, 10144147576115030168, 5909686906226998899] := Lib.tabIs_of_head (rest := []) gCd tCd Tryd.underlying33 Tryd.underlying31 cellsU64 cellsNat h2x
 obtain ⟨ps,⟨g,t,cs,fuel,p,q,hg,ht,hvar,hd,_,_⟩,_⟩:=hmo
 obtain rfl:=Option.some.inj (gMod.symm.trans hg)
 obtain rfl:=Option.some.inj (tMod.symm.trans ht)
 have hcs:=cells_of_table hd
 obtain ⟨l⟩:=cs
 simp only at hcs
 subst hcs
 refine ⟨?_,?_⟩
 ·exact ⟨World.var?_cell hg hvar 0,World.var?_cell hg hvar 1,World.var?_cell hg hvar 2,World.var?_cell hg hvar 3,World.var?_cell hg hvar 4,World.var?_cell hg hvar 5,World.var?_cell hg hvar 6,World.var?_cell hg hvar 7,World.var?_cell hg hvar 8,World.var?_cell hg hvar 9,World.var?_cell hg hvar 10,World.var?_cell hg hvar 11,World.var?_cell hg hvar 12,World.var?_cell hg hvar 13,World.var?_cell hg hvar 14,World.var?_cell hg hvar 15,vCd.cell gCd 0 (by decide),vCd.cell gCd 1 (by decide),vCd.cell gCd 2 (by decide),vCd.cell gCd 3 (by decide)⟩
 ·exact ⟨fun i hi=>by rw [← first_at i hi];exact vFirst.cell gFirst i hi,fun i hi=>by rw [← k_at i hi];exact vK.cell gK i hi⟩
theorem door_met (os:Os) (args:Array Value):laidMetH Tryd.prog laid1 ((World.doorLaid Tryd.prog 200 os).forCall (fun _ _=>0) ⟨#[],args,[]⟩).memory :=
 laidMetH_of_parts3 (fuel:=8) (laidMet_of_run' 8 (by kernel_rfl) (by kernel_rfl)) (by kernel_rfl) (by kernel_rfl)
end Go.Proofs.YtjaahnlpnkcimaaDoor
