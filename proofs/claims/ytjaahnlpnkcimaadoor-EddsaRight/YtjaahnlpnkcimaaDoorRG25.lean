/- What the program's own Verify answers. Two lists of bytes held against each other by the document's own Same. What layer 12's statements ask first. What is signed is right; what isn't. What the document's own PutLittle answers: a row of one's own. What the document's own answers of what layer 12's statements ask. EddsaRight, walked. How the parameters, and the listed variables, are read before the call. -/
import Derived.Test.YtjaahnlpnkcimaaDoorRG24
import Derived.Test.YtjaahnlpnkcimaaDoorRG22
import Derived.Test.YtjaahnlpnkcimaaDoorRG02
import Derived.Test.YtjaahnlpnkcimaaDoorRG04
import Derived.Test.YtjaahnlpnkcimaaDoorRG05
import Derived.Deep.LoopGhost
import Derived.Deep.DeepCutAuto
import Derived.Deep.RegionWith
import Derived.Test.YtjaahnlpnkcimaaDoorTie
import Derived.Test.YtjaahnlpnkcimaaDoorCards
import Derived.ProofKit
import Derived.LaidMore
import Derived.MakeChecks
import Derived.Lib.LaidTab
import Derived.Stop.LaidErr
import Derived.Laws.IdiomArrays
import Derived.OpenShut
import Derived.Carry
import Derived.ChangeMaps5
import Derived.Stop.Joined
set_option maxRecDepth 100000
set_option maxHeartbeats 4000000
namespace Go.Proofs.YtjaahnlpnkcimaaDoor
set_option maxRecDepth 100000
open Go.RowKit
def eqE (a b:Ep m2):Bool:=decide (a.x=b.x∧a.y=b.y)
theorem eqE_same (a:Ep m2):eqE a a=true:=decide_eq_true ⟨rfl,rfl⟩
theorem eqE_run (a b:Ep m2) (w:World):(Op.equalIn 10000 40 (.agg (pcE a).toArray) (.agg (pcE b).toArray)).run Tryd.prog w=.ok (eqE a b) w:=by
 have q:=eq_pt (gin_num a.x) (gin_num a.y) (gin_num b.x) (gin_num b.y) false false w
 have e:decide ((a.x.val:Int)=b.x.val∧(a.y.val:Int)=b.y.val∧false=false)=eqE a b:=by
  unfold eqE
  apply decide_eq_decide.2
  constructor
  ·rintro ⟨h1,h2,_⟩
   exact ⟨Fin.ext (by omega),Fin.ext (by omega)⟩
  ·rintro ⟨h1,h2⟩
   rw [h1,h2]
   exact ⟨rfl,rfl,rfl⟩
 rw [e] at q
 exact q
def aOk (l:List Nat):Bool:=decide (l.length=32) && dok (nle l)
def aPt (l:List Nat):Ep m2:=if l.length=32 then dpt (nle l) else Ep.o m2
theorem aPt_on (l:List Nat):(aPt l).on ed:=by
 unfold aPt
 split
 ·exact dpt_on _
 ·exact Ep.o_on ed
def vOk (pl ml sl:List Nat):Bool:=decide (sl.length=64) && (dok (nle (sl.take 32)) && (aOk pl && (decide (((nle (sl.drop 32):Nat):Int)<md 3) && eqE (mt eadd (Ep.o m2) eG (nle (sl.drop 32))) (eadd (dpt (nle (sl.take 32))) (mt eadd (Ep.o m2) (aPt pl) (kK (sl.take 32) pl ml))))))
theorem ln_fl {f:Nat→Nat} (hf:∀ i,f i<256):LN f (nle (fl f 32)):=(nle_ln (fl_lt hf 32) (fl_len _ _)).of (fun _ hi=>getD_fl hi)
theorem fl_take {l:List Nat} (h:l.length=64):fl (fun i=>(fun j=>l.getD j 0) (0+i)) 32=l.take 32:=by
 have q:=fl_getD (l:=l.take 32) (n:=32) (len_take h 32 (by decide))
 rw [← q]
 apply List.map_congr_left
 intro i hi
 show l.getD (0+i) 0=(l.take 32).getD i 0
 rw [Nat.zero_add,List.getD_eq_getElem?_getD,List.getD_eq_getElem?_getD,List.getElem?_take_of_lt (List.mem_range.1 hi)]
theorem fl_drop {l:List Nat} (h:l.length=64):fl (fun i=>(fun j=>l.getD j 0) (32+i)) 32=l.drop 32:=by
 have q:=fl_getD (l:=l.drop 32) (n:=32) (len_drop h 32)
 rw [← q]
 apply List.map_congr_left
 intro i _
 show l.getD (32+i) 0=(l.drop 32).getD i 0
 rw [List.getD_eq_getElem?_getD,List.getD_eq_getElem?_getD,List.getElem?_drop]
theorem litBA {w:World} {z:Option Addr} {c:Nat} {f:Nat→Nat} (h:BA w z 32 f) {u:Nat} (hu:LN f u):Calls Tryd.prog 24 [.slice z 32 c].toArray w fun e w'=>e=.returned (.tuple [.agg (nc (u:Int)).toArray,.bool true].toArray)∧Below w.heap.size w w':=by
 rcases h.at_ with h0 | ⟨b,o,rfl,hr⟩
 ·omega
 ·exact e_Lit h.lt hr hu
theorem belN {w:World} (hT:Tab w) {V:Nat} (hV:V<2 ^ 256):Calls Tryd.prog 25 [.int .i64 3,.agg (nc (V:Int)).toArray].toArray w fun e w'=>e=.returned (.bool (decide ((V:Int)<md 3)))∧Below w.heap.size w w':=below_any (k:=3) (num_nat hV) hT
theorem addN {w:World} (hT:Tab w) {a b:Ep m2} (ha:a.on ed) (hb:b.on ed):Calls Tryd.prog 28 [.agg (pcE a).toArray,.agg (pcE b).toArray].toArray w fun e w'=>e=.returned (.agg (pcE (eadd a b)).toArray)∧Below w.heap.size w w':=by
 have q:=e_Add hT (gin_num a.x) (gin_num a.y) (gin_num b.x) (gin_num b.y) false false
 rw [rpE_pc ha,rpE_pc hb] at q
 exact q
theorem decP {w:World} (hT:Tab w) (hx:TabX w) {z:Option Addr} {n c:Nat} {f:Nat→Nat} (h:BA w z n f) (hc:n≤c):Calls Tryd.prog 23 [.slice z n c].toArray w fun e w'=>e=.returned (.tuple [.agg (pcE (aPt (fl f n))).toArray,.bool (aOk (fl f n))].toArray)∧Below w.heap.size w w':=by
 unfold aPt aOk
 rw [fl_len]
 by_cases e:n=32
 ·subst e
  rw [if_pos rfl,decide_eq_true rfl,Bool.true_and]
  exact e_Dec hT hx h hc (ln_fl h.lt)
 ·rw [if_neg e,decide_eq_false e,Bool.false_and]
  exact e_dec_not e
theorem pV_len {w:World} {np cp nm cm ns cs:Nat} {zp zm zs:Option Addr} (_hns:ns≠64):Calls Tryd.prog 9 [Value.slice (zp) (np) (cp),Value.slice (zm) (nm) (cm),Value.slice (zs) (ns) (cs)].toArray w fun e w'=>e=.returned (.bool false)∧Below w.heap.size w w':=by
 refine enter (args:=[Value.slice (zp) (np) (cp),Value.slice (zm) (nm) (cm),Value.slice (zs) (ns) (cs)]) Tryd.func9 rfl 63 rfl (lk rfl) (fun a h=>?_)
 refine a_region TTE h hm [] [eS 6 _] (by kernel_rfl) ⟨rfl,T0⟩ [(0,.val (Value.slice (zp) (np) (cp))),(1,.val (Value.slice (zm) (nm) (cm))),(2,.val (Value.slice (zs) (ns) (cs)))] [] ⟨rfl,rfl,rfl,T0⟩ T0 rfl (fun a w h=>?_)
 refine wp_seq ?_
 refine a_region TTE h hm [1,2] [eS 16 _,eS 17 (.val (Value.int .i64 ((ns:Nat):Int))),eS 18 (.val (Value.bool true))] (by kernel_rfl) ⟨rfl,fun L u=>u_lenV u (gd0 rfl) 17 rfl (.tmp 16) 24 rfl rfl Tryd.underlying24,fun L u=>u_bin u (gd0 rfl) _ rfl _ _ _ _ _ rfl rfl rfl (eqg_int _ _ _ _ _ _ _ _) _ (yes_of (fun w=>i_neq _ _ _ _ w) (by omega)),T0⟩ [(0,_),(1,_),(2,_),(18,.val (Value.bool true))] [] ⟨rfl,rfl,rfl,rfl,T0⟩ T0 rfl (fun a w h=>?_)
 refine go_cond h true rfl (fun ht=>?_) (fun hf=>?_)
 case refine_2=>cases hf
 refine a_region TTE h hm [] [eS 6 _] (by kernel_rfl) ⟨rfl,T0⟩ [(6,.val (Value.bool false))] [] ⟨rfl,T0⟩ T0 rfl (fun a w h=>?_)
 refine wp_ret ?_
 refine then_ret ?_
 refine ret_slot h 6 rfl (lk rfl) (Value.bool false) rfl ?_
 exact ⟨rfl,h.grows⟩
theorem pV_r {w:World} (hT:Tab w) (hx:TabX w) (_hH:Sx.Tab w) {np cp nm cm cs:Nat} {zp zm zs:Option Addr} {fp fm fs:Nat→Nat} (hbp:BA w zp np fp) (hcp:np≤cp) (_hmp:cp≤maxLen) (_hbm:BA w zm nm fm) (_hcm:nm≤cm) (_hmm:cm≤maxLen) (hbs:BA w zs 64 fs) (hcs:64≤cs) (_hms:cs≤maxLen) (_hl:np+nm≤90000) {U V:Nat} (hU:LN (fun i=>fs (0+i)) U) (hV:LN (fun i=>fs (32+i)) V) {R A:Ep m2} {K:Nat} (hRp:dpt U=R) (hAp:aPt (fl fp np)=A) (_hKK:scl (fl (fun i=>fs (0+i)) 32++(fl fp np++fl fm nm))=K) (_hRo:R.on ed) (_hAo:A.on ed) (_hKn:K<2 ^ 256) (hR:dok U=false) (hA:aOk (fl fp np)=true):Calls Tryd.prog 9 [Value.slice (zp) (np) (cp),Value.slice (zm) (nm) (cm),Value.slice (zs) (64) (cs)].toArray w fun e w'=>e=.returned (.bool false)∧Below w.heap.size w w':=by
 refine enter (args:=[Value.slice (zp) (np) (cp),Value.slice (zm) (nm) (cm),Value.slice (zs) (64) (cs)]) Tryd.func9 rfl 63 rfl (lk rfl) (fun a h=>?_)
 refine a_region TTE h hm [] [eS 6 _] (by kernel_rfl) ⟨rfl,T0⟩ [(0,.val (Value.slice (zp) (np) (cp))),(1,.val (Value.slice (zm) (nm) (cm))),(2,.val (Value.slice (zs) (64) (cs)))] [] ⟨rfl,rfl,rfl,T0⟩ T0 rfl (fun a w h=>?_)
 refine wp_seq ?_
 refine a_region TTE h hm [1,2] [eS 16 _,eS 17 (.val (Value.int .i64 ((64:Nat):Int))),eS 18 (.val (Value.bool false))] (by kernel_rfl) ⟨rfl,fun L u=>u_lenV u (gd0 rfl) 17 rfl (.tmp 16) 24 rfl rfl Tryd.underlying24,fun L u=>u_bin u (gd0 rfl) _ rfl _ _ _ _ _ rfl rfl rfl (eqg_int _ _ _ _ _ _ _ _) _ (no_of (fun w=>i_neq _ _ _ _ w) (by omega)),T0⟩ [(0,_),(1,_),(2,_),(18,.val (Value.bool false))] [] ⟨rfl,rfl,rfl,rfl,T0⟩ T0 rfl (fun a w h=>?_)
 refine go_cond h false rfl (fun ht=>?_) (fun hf=>?_)
 case refine_1=>cases ht
 refine wp_skip ?_
 refine then_norm ?_
 refine a_region TTE h hm [1,3] [eS 19 _,eS 20 (.val (Value.slice (cutA (zs) (cs) 0) (32) (cs))),eS 21 _,eS 22 (.val (Value.slice (cutA (zs) (cs) 32) (32) (cs-32))),eS 7 _,eS 8 _] (by kernel_rfl) ⟨rfl,fun L u=>u_partH u (gd0 rfl) 20 rfl 24 (.tmp 19) (.const (.int .i64 32)) rfl rfl rfl (Value.slice (cutA (zs) (cs) 0) (32) (cs)) (fun w=>run_toS (m:=32) (by omega) w),rfl,fun L u=>u_partT u (gd0 rfl) 22 rfl 24 (.tmp 21) (.const (.int .i64 32)) rfl rfl rfl (Value.slice (cutA (zs) (cs) 32) (32) (cs-32)) (fun w=>run_fromS (k:=32) (by omega) w),rfl,rfl,T0⟩ [(0,_),(1,_),(7,.val (Value.slice (cutA (zs) (cs) 0) (32) (cs))),(8,.val (Value.slice (cutA (zs) (cs) 32) (32) (cs-32)))] [] ⟨rfl,rfl,rfl,rfl,T0⟩ T0 rfl (fun a w h=>?_)
 refine a_region TTE h hm [1] [eS 24 _,eS 25 (.val (.tuple [Value.agg (pcE (R)).toArray,Value.bool false].toArray)),eS 23 _,eS 26 _,eS 27 _,eN 9 _,eM 9 _,eS 10 _] (by kernel_rfl) ⟨rfl,fun L u=>u_call u (gd0 rfl) _ rfl _ _ _ rfl [_] rfl (cZ23 _) (.tuple [.agg (pcE (R)).toArray,Value.bool false].toArray) (fun w hb=>by have q:=e_Dec (c:=cs) (hT.keep (Bs.kp_of hb)) (hx.keep (Bs.kp_of hb)) ((hbs.keep (Bs.kp_of hb)).cut cs 0 32 (by omega) hcs) (by omega) hU;rw [hR,hRp] at q;exact q),rfl,rfl,rfl,rfl,rfl,rfl,T0⟩ [(0,_),(1,_),(7,_),(8,_),(9,.ptr 9 0),(10,.val (Value.bool false))] [(9,pcE (R))] ⟨rfl,rfl,rfl,rfl,rfl,rfl,T0⟩ ⟨rfl,T0⟩ rfl (fun a w h=>?_)
 refine a_region TTE h hm [1] [eS 29 _,eS 30 (.val (.tuple [Value.agg (pcE (A)).toArray,Value.bool true].toArray)),eS 28 _,eS 31 _,eS 32 _,eN 11 _,eM 11 _,eS 12 _] (by kernel_rfl) ⟨rfl,fun L u=>u_call u (gd0 rfl) _ rfl _ _ _ rfl [_] rfl (cZ23 _) (.tuple [.agg (pcE (A)).toArray,Value.bool true].toArray) (fun w hb=>by have q:=decP (c:=cp) (hT.keep (Bs.kp_of hb)) (hx.keep (Bs.kp_of hb)) (hbp.keep (Bs.kp_of hb)) hcp;rw [hA,hAp] at q;exact q),rfl,rfl,rfl,rfl,rfl,rfl,T0⟩ [(0,_),(1,_),(7,_),(8,_),(9,_),(10,_),(11,.ptr 11 0),(12,.val (Value.bool true))] [(9,_),(11,pcE (A))] ⟨rfl,rfl,rfl,rfl,rfl,rfl,rfl,rfl,T0⟩ ⟨rfl,rfl,T0⟩ rfl (fun a w h=>?_)
 refine a_region TTE h hm [1] [eS 34 _,eS 35 (.val (.tuple [Value.agg (nc (((V:Nat):Int))).toArray,Value.bool true].toArray)),eS 33 _,eS 36 _,eS 37 _,eN 13 _,eM 13 _,eS 14 _] (by kernel_rfl) ⟨rfl,fun L u=>u_call u (gd0 rfl) _ rfl _ _ _ rfl [_] rfl (cZ24 _) _ (fun w hb=>litBA ((hbs.keep (Bs.kp_of hb)).cut cs 32 32 (by omega) hcs) hV),rfl,rfl,rfl,rfl,rfl,rfl,T0⟩ [(0,_),(1,_),(7,_),(9,_),(10,_),(11,_),(12,_),(13,.ptr 13 0)] [(9,_),(11,_),(13,nc (((V:Nat):Int)))] ⟨rfl,rfl,rfl,rfl,rfl,rfl,rfl,rfl,T0⟩ ⟨rfl,rfl,rfl,T0⟩ rfl (fun a w h=>?_)
 refine wp_seq ?_
 refine a_region TTE h hm [] [eS 38 _,eS 39 _,eS 40 _,eS 41 _,eS 42 _,eS 43 _,eS 44 _,eS 45 _,eS 46 _,eS 47 _,eS 48 _] (by kernel_rfl) ⟨rfl,rfl,rfl,rfl,rfl,rfl,rfl,rfl,rfl,rfl,rfl,T0⟩ [(0,_),(1,_),(7,_),(9,_),(11,_),(13,_),(48,.val (Value.bool true))] [(9,_),(11,_),(13,_)] ⟨rfl,rfl,rfl,rfl,rfl,rfl,rfl,T0⟩ ⟨rfl,rfl,rfl,T0⟩ rfl (fun a w h=>?_)
 refine go_cond h true rfl (fun ht=>?_) (fun hf=>?_)
 case refine_2=>cases hf
 refine a_region TTE h hm [] [eS 6 _] (by kernel_rfl) ⟨rfl,T0⟩ [(6,.val (Value.bool false))] [] ⟨rfl,T0⟩ T0 rfl (fun a w h=>?_)
 refine wp_ret ?_
 refine then_ret ?_
 refine ret_slot h 6 rfl (lk rfl) (Value.bool false) rfl ?_
 exact ⟨rfl,h.grows⟩
theorem pV_ra {w:World} (hT:Tab w) (hx:TabX w) (_hH:Sx.Tab w) {np cp nm cm cs:Nat} {zp zm zs:Option Addr} {fp fm fs:Nat→Nat} (hbp:BA w zp np fp) (hcp:np≤cp) (_hmp:cp≤maxLen) (_hbm:BA w zm nm fm) (_hcm:nm≤cm) (_hmm:cm≤maxLen) (hbs:BA w zs 64 fs) (hcs:64≤cs) (_hms:cs≤maxLen) (_hl:np+nm≤90000) {U V:Nat} (hU:LN (fun i=>fs (0+i)) U) (hV:LN (fun i=>fs (32+i)) V) {R A:Ep m2} {K:Nat} (hRp:dpt U=R) (hAp:aPt (fl fp np)=A) (_hKK:scl (fl (fun i=>fs (0+i)) 32++(fl fp np++fl fm nm))=K) (_hRo:R.on ed) (_hAo:A.on ed) (_hKn:K<2 ^ 256) (hR:dok U=false) (hA:aOk (fl fp np)=false):Calls Tryd.prog 9 [Value.slice (zp) (np) (cp),Value.slice (zm) (nm) (cm),Value.slice (zs) (64) (cs)].toArray w fun e w'=>e=.returned (.bool false)∧Below w.heap.size w w':=by
 refine enter (args:=[Value.slice (zp) (np) (cp),Value.slice (zm) (nm) (cm),Value.slice (zs) (64) (cs)]) Tryd.func9 rfl 63 rfl (lk rfl) (fun a h=>?_)
 refine a_region TTE h hm [] [eS 6 _] (by kernel_rfl) ⟨rfl,T0⟩ [(0,.val (Value.slice (zp) (np) (cp))),(1,.val (Value.slice (zm) (nm) (cm))),(2,.val (Value.slice (zs) (64) (cs)))] [] ⟨rfl,rfl,rfl,T0⟩ T0 rfl (fun a w h=>?_)
 refine wp_seq ?_
 refine a_region TTE h hm [1,2] [eS 16 _,eS 17 (.val (Value.int .i64 ((64:Nat):Int))),eS 18 (.val (Value.bool false))] (by kernel_rfl) ⟨rfl,fun L u=>u_lenV u (gd0 rfl) 17 rfl (.tmp 16) 24 rfl rfl Tryd.underlying24,fun L u=>u_bin u (gd0 rfl) _ rfl _ _ _ _ _ rfl rfl rfl (eqg_int _ _ _ _ _ _ _ _) _ (no_of (fun w=>i_neq _ _ _ _ w) (by omega)),T0⟩ [(0,_),(1,_),(2,_),(18,.val (Value.bool false))] [] ⟨rfl,rfl,rfl,rfl,T0⟩ T0 rfl (fun a w h=>?_)
 refine go_cond h false rfl (fun ht=>?_) (fun hf=>?_)
 case refine_1=>cases ht
 refine wp_skip ?_
 refine then_norm ?_
 refine a_region TTE h hm [1,3] [eS 19 _,eS 20 (.val (Value.slice (cutA (zs) (cs) 0) (32) (cs))),eS 21 _,eS 22 (.val (Value.slice (cutA (zs) (cs) 32) (32) (cs-32))),eS 7 _,eS 8 _] (by kernel_rfl) ⟨rfl,fun L u=>u_partH u (gd0 rfl) 20 rfl 24 (.tmp 19) (.const (.int .i64 32)) rfl rfl rfl (Value.slice (cutA (zs) (cs) 0) (32) (cs)) (fun w=>run_toS (m:=32) (by omega) w),rfl,fun L u=>u_partT u (gd0 rfl) 22 rfl 24 (.tmp 21) (.const (.int .i64 32)) rfl rfl rfl (Value.slice (cutA (zs) (cs) 32) (32) (cs-32)) (fun w=>run_fromS (k:=32) (by omega) w),rfl,rfl,T0⟩ [(0,_),(1,_),(7,.val (Value.slice (cutA (zs) (cs) 0) (32) (cs))),(8,.val (Value.slice (cutA (zs) (cs) 32) (32) (cs-32)))] [] ⟨rfl,rfl,rfl,rfl,T0⟩ T0 rfl (fun a w h=>?_)
 refine a_region TTE h hm [1] [eS 24 _,eS 25 (.val (.tuple [Value.agg (pcE (R)).toArray,Value.bool false].toArray)),eS 23 _,eS 26 _,eS 27 _,eN 9 _,eM 9 _,eS 10 _] (by kernel_rfl) ⟨rfl,fun L u=>u_call u (gd0 rfl) _ rfl _ _ _ rfl [_] rfl (cZ23 _) (.tuple [.agg (pcE (R)).toArray,Value.bool false].toArray) (fun w hb=>by have q:=e_Dec (c:=cs) (hT.keep (Bs.kp_of hb)) (hx.keep (Bs.kp_of hb)) ((hbs.keep (Bs.kp_of hb)).cut cs 0 32 (by omega) hcs) (by omega) hU;rw [hR,hRp] at q;exact q),rfl,rfl,rfl,rfl,rfl,rfl,T0⟩ [(0,_),(1,_),(7,_),(8,_),(9,.ptr 9 0),(10,.val (Value.bool false))] [(9,pcE (R))] ⟨rfl,rfl,rfl,rfl,rfl,rfl,T0⟩ ⟨rfl,T0⟩ rfl (fun a w h=>?_)
 refine a_region TTE h hm [1] [eS 29 _,eS 30 (.val (.tuple [Value.agg (pcE (A)).toArray,Value.bool false].toArray)),eS 28 _,eS 31 _,eS 32 _,eN 11 _,eM 11 _,eS 12 _] (by kernel_rfl) ⟨rfl,fun L u=>u_call u (gd0 rfl) _ rfl _ _ _ rfl [_] rfl (cZ23 _) (.tuple [.agg (pcE (A)).toArray,Value.bool false].toArray) (fun w hb=>by have q:=decP (c:=cp) (hT.keep (Bs.kp_of hb)) (hx.keep (Bs.kp_of hb)) (hbp.keep (Bs.kp_of hb)) hcp;rw [hA,hAp] at q;exact q),rfl,rfl,rfl,rfl,rfl,rfl,T0⟩ [(0,_),(1,_),(7,_),(8,_),(9,_),(10,_),(11,.ptr 11 0),(12,.val (Value.bool false))] [(9,_),(11,pcE (A))] ⟨rfl,rfl,rfl,rfl,rfl,rfl,rfl,rfl,T0⟩ ⟨rfl,rfl,T0⟩ rfl (fun a w h=>?_)
 refine a_region TTE h hm [1] [eS 34 _,eS 35 (.val (.tuple [Value.agg (nc (((V:Nat):Int))).toArray,Value.bool true].toArray)),eS 33 _,eS 36 _,eS 37 _,eN 13 _,eM 13 _,eS 14 _] (by kernel_rfl) ⟨rfl,fun L u=>u_call u (gd0 rfl) _ rfl _ _ _ rfl [_] rfl (cZ24 _) _ (fun w hb=>litBA ((hbs.keep (Bs.kp_of hb)).cut cs 32 32 (by omega) hcs) hV),rfl,rfl,rfl,rfl,rfl,rfl,T0⟩ [(0,_),(1,_),(7,_),(9,_),(10,_),(11,_),(12,_),(13,.ptr 13 0)] [(9,_),(11,_),(13,nc (((V:Nat):Int)))] ⟨rfl,rfl,rfl,rfl,rfl,rfl,rfl,rfl,T0⟩ ⟨rfl,rfl,rfl,T0⟩ rfl (fun a w h=>?_)
 refine wp_seq ?_
 refine a_region TTE h hm [] [eS 38 _,eS 39 _,eS 40 _,eS 41 _,eS 42 _,eS 43 _,eS 44 _,eS 45 _,eS 46 _,eS 47 _,eS 48 _] (by kernel_rfl) ⟨rfl,rfl,rfl,rfl,rfl,rfl,rfl,rfl,rfl,rfl,rfl,T0⟩ [(0,_),(1,_),(7,_),(9,_),(11,_),(13,_),(48,.val (Value.bool true))] [(9,_),(11,_),(13,_)] ⟨rfl,rfl,rfl,rfl,rfl,rfl,rfl,T0⟩ ⟨rfl,rfl,rfl,T0⟩ rfl (fun a w h=>?_)
 refine go_cond h true rfl (fun ht=>?_) (fun hf=>?_)
 case refine_2=>cases hf
 refine a_region TTE h hm [] [eS 6 _] (by kernel_rfl) ⟨rfl,T0⟩ [(6,.val (Value.bool false))] [] ⟨rfl,T0⟩ T0 rfl (fun a w h=>?_)
 refine wp_ret ?_
 refine then_ret ?_
 refine ret_slot h 6 rfl (lk rfl) (Value.bool false) rfl ?_
 exact ⟨rfl,h.grows⟩
theorem pV_a {w:World} (hT:Tab w) (hx:TabX w) (_hH:Sx.Tab w) {np cp nm cm cs:Nat} {zp zm zs:Option Addr} {fp fm fs:Nat→Nat} (hbp:BA w zp np fp) (hcp:np≤cp) (_hmp:cp≤maxLen) (_hbm:BA w zm nm fm) (_hcm:nm≤cm) (_hmm:cm≤maxLen) (hbs:BA w zs 64 fs) (hcs:64≤cs) (_hms:cs≤maxLen) (_hl:np+nm≤90000) {U V:Nat} (hU:LN (fun i=>fs (0+i)) U) (hV:LN (fun i=>fs (32+i)) V) {R A:Ep m2} {K:Nat} (hRp:dpt U=R) (hAp:aPt (fl fp np)=A) (_hKK:scl (fl (fun i=>fs (0+i)) 32++(fl fp np++fl fm nm))=K) (_hRo:R.on ed) (_hAo:A.on ed) (_hKn:K<2 ^ 256) (hR:dok U=true) (hA:aOk (fl fp np)=false):Calls Tryd.prog 9 [Value.slice (zp) (np) (cp),Value.slice (zm) (nm) (cm),Value.slice (zs) (64) (cs)].toArray w fun e w'=>e=.returned (.bool false)∧Below w.heap.size w w':=by
 refine enter (args:=[Value.slice (zp) (np) (cp),Value.slice (zm) (nm) (cm),Value.slice (zs) (64) (cs)]) Tryd.func9 rfl 63 rfl (lk rfl) (fun a h=>?_)
 refine a_region TTE h hm [] [eS 6 _] (by kernel_rfl) ⟨rfl,T0⟩ [(0,.val (Value.slice (zp) (np) (cp))),(1,.val (Value.slice (zm) (nm) (cm))),(2,.val (Value.slice (zs) (64) (cs)))] [] ⟨rfl,rfl,rfl,T0⟩ T0 rfl (fun a w h=>?_)
 refine wp_seq ?_
 refine a_region TTE h hm [1,2] [eS 16 _,eS 17 (.val (Value.int .i64 ((64:Nat):Int))),eS 18 (.val (Value.bool false))] (by kernel_rfl) ⟨rfl,fun L u=>u_lenV u (gd0 rfl) 17 rfl (.tmp 16) 24 rfl rfl Tryd.underlying24,fun L u=>u_bin u (gd0 rfl) _ rfl _ _ _ _ _ rfl rfl rfl (eqg_int _ _ _ _ _ _ _ _) _ (no_of (fun w=>i_neq _ _ _ _ w) (by omega)),T0⟩ [(0,_),(1,_),(2,_),(18,.val (Value.bool false))] [] ⟨rfl,rfl,rfl,rfl,T0⟩ T0 rfl (fun a w h=>?_)
 refine go_cond h false rfl (fun ht=>?_) (fun hf=>?_)
 case refine_1=>cases ht
 refine wp_skip ?_
 refine then_norm ?_
 refine a_region TTE h hm [1,3] [eS 19 _,eS 20 (.val (Value.slice (cutA (zs) (cs) 0) (32) (cs))),eS 21 _,eS 22 (.val (Value.slice (cutA (zs) (cs) 32) (32) (cs-32))),eS 7 _,eS 8 _] (by kernel_rfl) ⟨rfl,fun L u=>u_partH u (gd0 rfl) 20 rfl 24 (.tmp 19) (.const (.int .i64 32)) rfl rfl rfl (Value.slice (cutA (zs) (cs) 0) (32) (cs)) (fun w=>run_toS (m:=32) (by omega) w),rfl,fun L u=>u_partT u (gd0 rfl) 22 rfl 24 (.tmp 21) (.const (.int .i64 32)) rfl rfl rfl (Value.slice (cutA (zs) (cs) 32) (32) (cs-32)) (fun w=>run_fromS (k:=32) (by omega) w),rfl,rfl,T0⟩ [(0,_),(1,_),(7,.val (Value.slice (cutA (zs) (cs) 0) (32) (cs))),(8,.val (Value.slice (cutA (zs) (cs) 32) (32) (cs-32)))] [] ⟨rfl,rfl,rfl,rfl,T0⟩ T0 rfl (fun a w h=>?_)
 refine a_region TTE h hm [1] [eS 24 _,eS 25 (.val (.tuple [Value.agg (pcE (R)).toArray,Value.bool true].toArray)),eS 23 _,eS 26 _,eS 27 _,eN 9 _,eM 9 _,eS 10 _] (by kernel_rfl) ⟨rfl,fun L u=>u_call u (gd0 rfl) _ rfl _ _ _ rfl [_] rfl (cZ23 _) (.tuple [.agg (pcE (R)).toArray,Value.bool true].toArray) (fun w hb=>by have q:=e_Dec (c:=cs) (hT.keep (Bs.kp_of hb)) (hx.keep (Bs.kp_of hb)) ((hbs.keep (Bs.kp_of hb)).cut cs 0 32 (by omega) hcs) (by omega) hU;rw [hR,hRp] at q;exact q),rfl,rfl,rfl,rfl,rfl,rfl,T0⟩ [(0,_),(1,_),(7,_),(8,_),(9,.ptr 9 0),(10,.val (Value.bool true))] [(9,pcE (R))] ⟨rfl,rfl,rfl,rfl,rfl,rfl,T0⟩ ⟨rfl,T0⟩ rfl (fun a w h=>?_)
 refine a_region TTE h hm [1] [eS 29 _,eS 30 (.val (.tuple [Value.agg (pcE (A)).toArray,Value.bool false].toArray)),eS 28 _,eS 31 _,eS 32 _,eN 11 _,eM 11 _,eS 12 _] (by kernel_rfl) ⟨rfl,fun L u=>u_call u (gd0 rfl) _ rfl _ _ _ rfl [_] rfl (cZ23 _) (.tuple [.agg (pcE (A)).toArray,Value.bool false].toArray) (fun w hb=>by have q:=decP (c:=cp) (hT.keep (Bs.kp_of hb)) (hx.keep (Bs.kp_of hb)) (hbp.keep (Bs.kp_of hb)) hcp;rw [hA,hAp] at q;exact q),rfl,rfl,rfl,rfl,rfl,rfl,T0⟩ [(0,_),(1,_),(7,_),(8,_),(9,_),(10,_),(11,.ptr 11 0),(12,.val (Value.bool false))] [(9,_),(11,pcE (A))] ⟨rfl,rfl,rfl,rfl,rfl,rfl,rfl,rfl,T0⟩ ⟨rfl,rfl,T0⟩ rfl (fun a w h=>?_)
 refine a_region TTE h hm [1] [eS 34 _,eS 35 (.val (.tuple [Value.agg (nc (((V:Nat):Int))).toArray,Value.bool true].toArray)),eS 33 _,eS 36 _,eS 37 _,eN 13 _,eM 13 _,eS 14 _] (by kernel_rfl) ⟨rfl,fun L u=>u_call u (gd0 rfl) _ rfl _ _ _ rfl [_] rfl (cZ24 _) _ (fun w hb=>litBA ((hbs.keep (Bs.kp_of hb)).cut cs 32 32 (by omega) hcs) hV),rfl,rfl,rfl,rfl,rfl,rfl,T0⟩ [(0,_),(1,_),(7,_),(9,_),(10,_),(11,_),(12,_),(13,.ptr 13 0)] [(9,_),(11,_),(13,nc (((V:Nat):Int)))] ⟨rfl,rfl,rfl,rfl,rfl,rfl,rfl,rfl,T0⟩ ⟨rfl,rfl,rfl,T0⟩ rfl (fun a w h=>?_)
 refine wp_seq ?_
 refine a_region TTE h hm [] [eS 38 _,eS 39 _,eS 40 _,eS 41 _,eS 42 _,eS 43 _,eS 44 _,eS 45 _,eS 46 _,eS 47 _,eS 48 _] (by kernel_rfl) ⟨rfl,rfl,rfl,rfl,rfl,rfl,rfl,rfl,rfl,rfl,rfl,T0⟩ [(0,_),(1,_),(7,_),(9,_),(11,_),(13,_),(48,.val (Value.bool true))] [(9,_),(11,_),(13,_)] ⟨rfl,rfl,rfl,rfl,rfl,rfl,rfl,T0⟩ ⟨rfl,rfl,rfl,T0⟩ rfl (fun a w h=>?_)
 refine go_cond h true rfl (fun ht=>?_) (fun hf=>?_)
 case refine_2=>cases hf
 refine a_region TTE h hm [] [eS 6 _] (by kernel_rfl) ⟨rfl,T0⟩ [(6,.val (Value.bool false))] [] ⟨rfl,T0⟩ T0 rfl (fun a w h=>?_)
 refine wp_ret ?_
 refine then_ret ?_
 refine ret_slot h 6 rfl (lk rfl) (Value.bool false) rfl ?_
 exact ⟨rfl,h.grows⟩
theorem pV_s {w:World} (hT:Tab w) (hx:TabX w) (_hH:Sx.Tab w) {np cp nm cm cs:Nat} {zp zm zs:Option Addr} {fp fm fs:Nat→Nat} (hbp:BA w zp np fp) (hcp:np≤cp) (_hmp:cp≤maxLen) (_hbm:BA w zm nm fm) (_hcm:nm≤cm) (_hmm:cm≤maxLen) (hbs:BA w zs 64 fs) (hcs:64≤cs) (_hms:cs≤maxLen) (_hl:np+nm≤90000) {U V:Nat} (hU:LN (fun i=>fs (0+i)) U) (hV:LN (fun i=>fs (32+i)) V) {R A:Ep m2} {K:Nat} (hRp:dpt U=R) (hAp:aPt (fl fp np)=A) (_hKK:scl (fl (fun i=>fs (0+i)) 32++(fl fp np++fl fm nm))=K) (_hRo:R.on ed) (_hAo:A.on ed) (_hKn:K<2 ^ 256) (hR:dok U=true) (hA:aOk (fl fp np)=true) (hB:decide ((V:Int)<md 3)=false):Calls Tryd.prog 9 [Value.slice (zp) (np) (cp),Value.slice (zm) (nm) (cm),Value.slice (zs) (64) (cs)].toArray w fun e w'=>e=.returned (.bool false)∧Below w.heap.size w w':=by
 refine enter (args:=[Value.slice (zp) (np) (cp),Value.slice (zm) (nm) (cm),Value.slice (zs) (64) (cs)]) Tryd.func9 rfl 63 rfl (lk rfl) (fun a h=>?_)
 refine a_region TTE h hm [] [eS 6 _] (by kernel_rfl) ⟨rfl,T0⟩ [(0,.val (Value.slice (zp) (np) (cp))),(1,.val (Value.slice (zm) (nm) (cm))),(2,.val (Value.slice (zs) (64) (cs)))] [] ⟨rfl,rfl,rfl,T0⟩ T0 rfl (fun a w h=>?_)
 refine wp_seq ?_
 refine a_region TTE h hm [1,2] [eS 16 _,eS 17 (.val (Value.int .i64 ((64:Nat):Int))),eS 18 (.val (Value.bool false))] (by kernel_rfl) ⟨rfl,fun L u=>u_lenV u (gd0 rfl) 17 rfl (.tmp 16) 24 rfl rfl Tryd.underlying24,fun L u=>u_bin u (gd0 rfl) _ rfl _ _ _ _ _ rfl rfl rfl (eqg_int _ _ _ _ _ _ _ _) _ (no_of (fun w=>i_neq _ _ _ _ w) (by omega)),T0⟩ [(0,_),(1,_),(2,_),(18,.val (Value.bool false))] [] ⟨rfl,rfl,rfl,rfl,T0⟩ T0 rfl (fun a w h=>?_)
 refine go_cond h false rfl (fun ht=>?_) (fun hf=>?_)
 case refine_1=>cases ht
 refine wp_skip ?_
 refine then_norm ?_
 refine a_region TTE h hm [1,3] [eS 19 _,eS 20 (.val (Value.slice (cutA (zs) (cs) 0) (32) (cs))),eS 21 _,eS 22 (.val (Value.slice (cutA (zs) (cs) 32) (32) (cs-32))),eS 7 _,eS 8 _] (by kernel_rfl) ⟨rfl,fun L u=>u_partH u (gd0 rfl) 20 rfl 24 (.tmp 19) (.const (.int .i64 32)) rfl rfl rfl (Value.slice (cutA (zs) (cs) 0) (32) (cs)) (fun w=>run_toS (m:=32) (by omega) w),rfl,fun L u=>u_partT u (gd0 rfl) 22 rfl 24 (.tmp 21) (.const (.int .i64 32)) rfl rfl rfl (Value.slice (cutA (zs) (cs) 32) (32) (cs-32)) (fun w=>run_fromS (k:=32) (by omega) w),rfl,rfl,T0⟩ [(0,_),(1,_),(7,.val (Value.slice (cutA (zs) (cs) 0) (32) (cs))),(8,.val (Value.slice (cutA (zs) (cs) 32) (32) (cs-32)))] [] ⟨rfl,rfl,rfl,rfl,T0⟩ T0 rfl (fun a w h=>?_)
 refine a_region TTE h hm [1] [eS 24 _,eS 25 (.val (.tuple [Value.agg (pcE (R)).toArray,Value.bool true].toArray)),eS 23 _,eS 26 _,eS 27 _,eN 9 _,eM 9 _,eS 10 _] (by kernel_rfl) ⟨rfl,fun L u=>u_call u (gd0 rfl) _ rfl _ _ _ rfl [_] rfl (cZ23 _) (.tuple [.agg (pcE (R)).toArray,Value.bool true].toArray) (fun w hb=>by have q:=e_Dec (c:=cs) (hT.keep (Bs.kp_of hb)) (hx.keep (Bs.kp_of hb)) ((hbs.keep (Bs.kp_of hb)).cut cs 0 32 (by omega) hcs) (by omega) hU;rw [hR,hRp] at q;exact q),rfl,rfl,rfl,rfl,rfl,rfl,T0⟩ [(0,_),(1,_),(7,_),(8,_),(9,.ptr 9 0),(10,.val (Value.bool true))] [(9,pcE (R))] ⟨rfl,rfl,rfl,rfl,rfl,rfl,T0⟩ ⟨rfl,T0⟩ rfl (fun a w h=>?_)
 refine a_region TTE h hm [1] [eS 29 _,eS 30 (.val (.tuple [Value.agg (pcE (A)).toArray,Value.bool true].toArray)),eS 28 _,eS 31 _,eS 32 _,eN 11 _,eM 11 _,eS 12 _] (by kernel_rfl) ⟨rfl,fun L u=>u_call u (gd0 rfl) _ rfl _ _ _ rfl [_] rfl (cZ23 _) (.tuple [.agg (pcE (A)).toArray,Value.bool true].toArray) (fun w hb=>by have q:=decP (c:=cp) (hT.keep (Bs.kp_of hb)) (hx.keep (Bs.kp_of hb)) (hbp.keep (Bs.kp_of hb)) hcp;rw [hA,hAp] at q;exact q),rfl,rfl,rfl,rfl,rfl,rfl,T0⟩ [(0,_),(1,_),(7,_),(8,_),(9,_),(10,_),(11,.ptr 11 0),(12,.val (Value.bool true))] [(9,_),(11,pcE (A))] ⟨rfl,rfl,rfl,rfl,rfl,rfl,rfl,rfl,T0⟩ ⟨rfl,rfl,T0⟩ rfl (fun a w h=>?_)
 refine a_region TTE h hm [1] [eS 34 _,eS 35 (.val (.tuple [Value.agg (nc (((V:Nat):Int))).toArray,Value.bool true].toArray)),eS 33 _,eS 36 _,eS 37 _,eN 13 _,eM 13 _,eS 14 _] (by kernel_rfl) ⟨rfl,fun L u=>u_call u (gd0 rfl) _ rfl _ _ _ rfl [_] rfl (cZ24 _) _ (fun w hb=>litBA ((hbs.keep (Bs.kp_of hb)).cut cs 32 32 (by omega) hcs) hV),rfl,rfl,rfl,rfl,rfl,rfl,T0⟩ [(0,_),(1,_),(7,_),(9,_),(10,_),(11,_),(12,_),(13,.ptr 13 0)] [(9,_),(11,_),(13,nc (((V:Nat):Int)))] ⟨rfl,rfl,rfl,rfl,rfl,rfl,rfl,rfl,T0⟩ ⟨rfl,rfl,rfl,T0⟩ rfl (fun a w h=>?_)
 refine wp_seq ?_
 refine a_region TTE h hm [8] [eS 38 _,eS 39 _,eS 40 _,eS 41 _,eS 42 _,eS 43 _,eS 44 _,eS 45 _,eS 46 (.val (Value.bool false)),eS 47 _,eS 48 _] (by kernel_rfl) ⟨rfl,rfl,rfl,rfl,rfl,rfl,rfl,rfl,fun L u=>u_call u (gd1 u 6 false rfl 44 rfl (lk rfl) rfl) _ rfl _ _ _ rfl [_,_] rfl (cZ25 _) (Value.bool false) (fun w hb=>by have q:=belN (hT.keep (Bs.kp_of hb)) hV.lt;rw [hB] at q;exact q),rfl,rfl,T0⟩ [(0,_),(1,_),(7,_),(9,_),(11,_),(13,_),(48,.val (Value.bool true))] [(9,_),(11,_),(13,_)] ⟨rfl,rfl,rfl,rfl,rfl,rfl,rfl,T0⟩ ⟨rfl,rfl,rfl,T0⟩ rfl (fun a w h=>?_)
 refine go_cond h true rfl (fun ht=>?_) (fun hf=>?_)
 case refine_2=>cases hf
 refine a_region TTE h hm [] [eS 6 _] (by kernel_rfl) ⟨rfl,T0⟩ [(6,.val (Value.bool false))] [] ⟨rfl,T0⟩ T0 rfl (fun a w h=>?_)
 refine wp_ret ?_
 refine then_ret ?_
 refine ret_slot h 6 rfl (lk rfl) (Value.bool false) rfl ?_
 exact ⟨rfl,h.grows⟩
theorem pV_ok {w:World} (hT:Tab w) (hx:TabX w) (hH:Sx.Tab w) {np cp nm cm cs:Nat} {zp zm zs:Option Addr} {fp fm fs:Nat→Nat} (hbp:BA w zp np fp) (hcp:np≤cp) (hmp:cp≤maxLen) (hbm:BA w zm nm fm) (hcm:nm≤cm) (hmm:cm≤maxLen) (hbs:BA w zs 64 fs) (hcs:64≤cs) (hms:cs≤maxLen) (_hl:np+nm≤90000) {U V:Nat} (hU:LN (fun i=>fs (0+i)) U) (hV:LN (fun i=>fs (32+i)) V) {R A:Ep m2} {K:Nat} (hRp:dpt U=R) (hAp:aPt (fl fp np)=A) (hKK:scl (fl (fun i=>fs (0+i)) 32++(fl fp np++fl fm nm))=K) (hRo:R.on ed) (hAo:A.on ed) (hKn:K<2 ^ 256) (hR:dok U=true) (hA:aOk (fl fp np)=true) (hB:decide ((V:Int)<md 3)=true):Calls Tryd.prog 9 [Value.slice (zp) (np) (cp),Value.slice (zm) (nm) (cm),Value.slice (zs) (64) (cs)].toArray w fun e w'=>e=.returned (.bool (eqE (mt eadd (Ep.o m2) eG (V)) (eadd R (mt eadd (Ep.o m2) A (K)))))∧Below w.heap.size w w':=by
 refine enter (args:=[Value.slice (zp) (np) (cp),Value.slice (zm) (nm) (cm),Value.slice (zs) (64) (cs)]) Tryd.func9 rfl 63 rfl (lk rfl) (fun a h=>?_)
 refine a_region TTE h hm [] [eS 6 _] (by kernel_rfl) ⟨rfl,T0⟩ [(0,.val (Value.slice (zp) (np) (cp))),(1,.val (Value.slice (zm) (nm) (cm))),(2,.val (Value.slice (zs) (64) (cs)))] [] ⟨rfl,rfl,rfl,T0⟩ T0 rfl (fun a w h=>?_)
 refine wp_seq ?_
 refine a_region TTE h hm [1,2] [eS 16 _,eS 17 (.val (Value.int .i64 ((64:Nat):Int))),eS 18 (.val (Value.bool false))] (by kernel_rfl) ⟨rfl,fun L u=>u_lenV u (gd0 rfl) 17 rfl (.tmp 16) 24 rfl rfl Tryd.underlying24,fun L u=>u_bin u (gd0 rfl) _ rfl _ _ _ _ _ rfl rfl rfl (eqg_int _ _ _ _ _ _ _ _) _ (no_of (fun w=>i_neq _ _ _ _ w) (by omega)),T0⟩ [(0,_),(1,_),(2,_),(18,.val (Value.bool false))] [] ⟨rfl,rfl,rfl,rfl,T0⟩ T0 rfl (fun a w h=>?_)
 refine go_cond h false rfl (fun ht=>?_) (fun hf=>?_)
 case refine_1=>cases ht
 refine wp_skip ?_
 refine then_norm ?_
 refine a_region TTE h hm [1,3] [eS 19 _,eS 20 (.val (Value.slice (cutA (zs) (cs) 0) (32) (cs))),eS 21 _,eS 22 (.val (Value.slice (cutA (zs) (cs) 32) (32) (cs-32))),eS 7 _,eS 8 _] (by kernel_rfl) ⟨rfl,fun L u=>u_partH u (gd0 rfl) 20 rfl 24 (.tmp 19) (.const (.int .i64 32)) rfl rfl rfl (Value.slice (cutA (zs) (cs) 0) (32) (cs)) (fun w=>run_toS (m:=32) (by omega) w),rfl,fun L u=>u_partT u (gd0 rfl) 22 rfl 24 (.tmp 21) (.const (.int .i64 32)) rfl rfl rfl (Value.slice (cutA (zs) (cs) 32) (32) (cs-32)) (fun w=>run_fromS (k:=32) (by omega) w),rfl,rfl,T0⟩ [(0,_),(1,_),(7,.val (Value.slice (cutA (zs) (cs) 0) (32) (cs))),(8,.val (Value.slice (cutA (zs) (cs) 32) (32) (cs-32)))] [] ⟨rfl,rfl,rfl,rfl,T0⟩ T0 rfl (fun a w h=>?_)
 refine a_region TTE h hm [1] [eS 24 _,eS 25 (.val (.tuple [Value.agg (pcE (R)).toArray,Value.bool true].toArray)),eS 23 _,eS 26 _,eS 27 _,eN 9 _,eM 9 _,eS 10 _] (by kernel_rfl) ⟨rfl,fun L u=>u_call u (gd0 rfl) _ rfl _ _ _ rfl [_] rfl (cZ23 _) (.tuple [.agg (pcE (R)).toArray,Value.bool true].toArray) (fun w hb=>by have q:=e_Dec (c:=cs) (hT.keep (Bs.kp_of hb)) (hx.keep (Bs.kp_of hb)) ((hbs.keep (Bs.kp_of hb)).cut cs 0 32 (by omega) hcs) (by omega) hU;rw [hR,hRp] at q;exact q),rfl,rfl,rfl,rfl,rfl,rfl,T0⟩ [(0,_),(1,_),(7,_),(8,_),(9,.ptr 9 0),(10,.val (Value.bool true))] [(9,pcE (R))] ⟨rfl,rfl,rfl,rfl,rfl,rfl,T0⟩ ⟨rfl,T0⟩ rfl (fun a w h=>?_)
 refine a_region TTE h hm [1] [eS 29 _,eS 30 (.val (.tuple [Value.agg (pcE (A)).toArray,Value.bool true].toArray)),eS 28 _,eS 31 _,eS 32 _,eN 11 _,eM 11 _,eS 12 _] (by kernel_rfl) ⟨rfl,fun L u=>u_call u (gd0 rfl) _ rfl _ _ _ rfl [_] rfl (cZ23 _) (.tuple [.agg (pcE (A)).toArray,Value.bool true].toArray) (fun w hb=>by have q:=decP (c:=cp) (hT.keep (Bs.kp_of hb)) (hx.keep (Bs.kp_of hb)) (hbp.keep (Bs.kp_of hb)) hcp;rw [hA,hAp] at q;exact q),rfl,rfl,rfl,rfl,rfl,rfl,T0⟩ [(0,_),(1,_),(7,_),(8,_),(9,_),(10,_),(11,.ptr 11 0),(12,.val (Value.bool true))] [(9,_),(11,pcE (A))] ⟨rfl,rfl,rfl,rfl,rfl,rfl,rfl,rfl,T0⟩ ⟨rfl,rfl,T0⟩ rfl (fun a w h=>?_)
 refine a_region TTE h hm [1] [eS 34 _,eS 35 (.val (.tuple [Value.agg (nc (((V:Nat):Int))).toArray,Value.bool true].toArray)),eS 33 _,eS 36 _,eS 37 _,eN 13 _,eM 13 _,eS 14 _] (by kernel_rfl) ⟨rfl,fun L u=>u_call u (gd0 rfl) _ rfl _ _ _ rfl [_] rfl (cZ24 _) _ (fun w hb=>litBA ((hbs.keep (Bs.kp_of hb)).cut cs 32 32 (by omega) hcs) hV),rfl,rfl,rfl,rfl,rfl,rfl,T0⟩ [(0,_),(1,_),(7,_),(9,_),(10,_),(11,_),(12,_),(13,.ptr 13 0)] [(9,_),(11,_),(13,nc (((V:Nat):Int)))] ⟨rfl,rfl,rfl,rfl,rfl,rfl,rfl,rfl,T0⟩ ⟨rfl,rfl,rfl,T0⟩ rfl (fun a w h=>?_)
 refine wp_seq ?_
 refine a_region TTE h hm [8] [eS 38 _,eS 39 _,eS 40 _,eS 41 _,eS 42 _,eS 43 _,eS 44 _,eS 45 _,eS 46 (.val (Value.bool true)),eS 47 _,eS 48 _] (by kernel_rfl) ⟨rfl,rfl,rfl,rfl,rfl,rfl,rfl,rfl,fun L u=>u_call u (gd1 u 6 false rfl 44 rfl (lk rfl) rfl) _ rfl _ _ _ rfl [_,_] rfl (cZ25 _) (Value.bool true) (fun w hb=>by have q:=belN (hT.keep (Bs.kp_of hb)) hV.lt;rw [hB] at q;exact q),rfl,rfl,T0⟩ [(0,_),(1,_),(7,_),(9,_),(11,_),(13,_),(48,.val (Value.bool false))] [(9,_),(11,_),(13,_)] ⟨rfl,rfl,rfl,rfl,rfl,rfl,rfl,T0⟩ ⟨rfl,rfl,rfl,T0⟩ rfl (fun a w h=>?_)
 refine go_cond h false rfl (fun ht=>?_) (fun hf=>?_)
 case refine_1=>cases ht
 refine wp_skip ?_
 refine then_norm ?_
 refine wp_seq ?_
 refine sq_begin [0,1,2,3,4,5,6] rfl ?_
 refine sq_step h (i:=0) rfl (u_move (xs:=[]) (up_seq (i:=0) (by kernel_rfl) rfl) (gd0 rfl) 49 rfl (.tmp 7) (Or.inl rfl) rfl) (fun a w h=>?_)
 refine sq_step h (i:=1) rfl (u_move (xs:=[]) (up_seq (i:=1) (by kernel_rfl) rfl) (gd0 rfl) 50 rfl (.tmp 0) (Or.inl rfl) rfl) (fun a w h=>?_)
 refine sq_step h (i:=2) rfl (u_move (xs:=[]) (up_seq (i:=2) (by kernel_rfl) rfl) (gd0 rfl) 51 rfl (.tmp 1) (Or.inl rfl) rfl) (fun a w h=>?_)
 refine sq_lc h (i:=3) (j:=4) rfl rfl 52 rfl (lk rfl) 3 #[(0,(.tmp 49)),(1,(.tmp 50)),(2,(.tmp 51))] rfl (by decide) (by decide) rfl rfl 53 rfl 18 #[61] rfl (fun vs w=>callFunc_enter Tryd.func18 (by kernel_rfl) (by kernel_rfl) vs w) [.val (Value.slice (cutA (zs) (cs) 0) (32) (cs)),.val (Value.slice (zp) (np) (cp)),.val (Value.slice (zm) (nm) (cm))] rfl rfl (.agg (nc (((K:Nat):Int))).toArray) (fun β hr=>by rw [← hKK];exact lcNum (ls:=[fl (fun i=>fs (0+i)) 32,fl fp np,fl fm nm]) (l:=fl (fun i=>fs (0+i)) 32++(fl fp np++fl fm nm)) hT hH (Bs.kp_of hr.bl) ⟨pt_ba ((hbs.keep (Bs.kp_of hr.bl)).cut cs 0 32 (by omega) hcs) (by omega) hms,pt_ba (hbp.keep (Bs.kp_of hr.bl)) hcp hmp,pt_ba (hbm.keep (Bs.kp_of hr.bl)) hcm hmm,T0⟩ rfl (by decide) (by simp) (by rw [List.length_append,List.length_append,fl_len,fl_len,fl_len];omega)) fill3 (fun a w h=>?_)
 replace h:=h.keep [(9,.ptr 9 0),(11,.ptr 11 0),(13,.ptr 13 0),(53,.val (.agg (nc (((K:Nat):Int))).toArray))] [(9,pcE (R)),(11,pcE (A)),(13,nc (((V:Nat):Int)))] ⟨rfl,rfl,rfl,rfl,trivial⟩ ⟨rfl,rfl,rfl,trivial⟩ rfl
 refine sq_step h (i:=5) rfl (u_alloc (xs:=[]) (up_seq (i:=5) (by kernel_rfl) rfl) (gd0 rfl) 33 rfl 15 rfl rfl z33Z _ rfl) (fun a w h=>?_)
 refine sq_step h (i:=6) rfl (u_store (xs:=[]) (up_seq (i:=6) (by kernel_rfl) rfl) (gd0 rfl) 33 (.tmp 15) (.tmp 53) rfl rfl rfl (vs:=nc (((K:Nat):Int))) rfl rfl i33Z (lk rfl) rfl _ rfl) (fun a w h=>?_)
 replace h:=h.keep [(9,.ptr 9 0),(11,.ptr 11 0),(13,.ptr 13 0),(15,.ptr 15 0)] [(9,pcE (R)),(11,pcE (A)),(13,nc (((V:Nat):Int))),(15,nc (((K:Nat):Int)))] ⟨rfl,rfl,rfl,rfl,trivial⟩ ⟨rfl,rfl,rfl,rfl,trivial⟩ rfl
 refine sq_end ?_
 refine then_norm ?_
 refine a_region TTE h hm [1,2,6,7,8] [eS 54 _,eS 55 (.val (.agg (pcE (eG)).toArray)),eS 56 (.val (.agg (pcE (mt eadd (Ep.o m2) eG (V))).toArray)),eS 57 _,eS 58 _,eS 59 _,eS 60 (.val (.agg (pcE (mt eadd (Ep.o m2) A (K))).toArray)),eS 61 (.val (.agg (pcE (eadd R (mt eadd (Ep.o m2) A (K)))).toArray)),eS 62 (.val (Value.bool (eqE (mt eadd (Ep.o m2) eG (V)) (eadd R (mt eadd (Ep.o m2) A (K)))))),eS 6 _] (by kernel_rfl) ⟨rfl,fun L u=>u_call u (gd0 rfl) _ rfl _ _ _ rfl [] rfl (cZ27 _) _ (fun w hb=>e_Base),fun L u=>u_call u (gd0 rfl) _ rfl _ _ _ rfl [_,_] rfl (cZ26 _) _ (fun w hb=>mulN (hT.keep (Bs.kp_of hb)) hV.lt eG_on),rfl,rfl,rfl,fun L u=>u_call u (gd0 rfl) _ rfl _ _ _ rfl [_,_] rfl (cZ26 _) _ (fun w hb=>mulN (hT.keep (Bs.kp_of hb)) hKn hAo),fun L u=>u_call u (gd0 rfl) _ rfl _ _ _ rfl [_,_] rfl (cZ28 _) _ (fun w hb=>addN (hT.keep (Bs.kp_of hb)) hRo (mt_on egr hAo _)),fun L u=>u_eql u (gd0 rfl) 62 rfl 40 40 (.tmp 56) (.tmp 61) rfl rfl rfl Tryd.eqGuardType40 (eqE (mt eadd (Ep.o m2) eG (V)) (eadd R (mt eadd (Ep.o m2) A (K)))) (fun w=>eqE_run _ _ w),rfl,T0⟩ [(6,.val (Value.bool (eqE (mt eadd (Ep.o m2) eG (V)) (eadd R (mt eadd (Ep.o m2) A (K))))))] [] ⟨rfl,T0⟩ T0 rfl (fun a w h=>?_)
 refine wp_ret ?_
 refine ret_slot h 6 rfl (lk rfl) (Value.bool (eqE (mt eadd (Ep.o m2) eG (V)) (eadd R (mt eadd (Ep.o m2) A (K))))) rfl ?_
 exact ⟨rfl,h.grows⟩
theorem pVer {w:World} (hT:Tab w) (hx:TabX w) (hH:Sx.Tab w) {vp vm vs:Value} {pl ml sl:List Nat} (hp:Pt w vp pl) (hq:Pt w vm ml) (hs:Pt w vs sl) (hl:pl.length+ml.length≤90000):Calls Tryd.prog 9 [vp,vm,vs].toArray w fun e w'=>e=.returned (.bool (vOk pl ml sl))∧Below w.heap.size w w':=by
 obtain ⟨zp,cp,rfl,hcp,hmp,hbp⟩:=hp
 obtain ⟨zm,cm,rfl,hcm,hmm,hbm⟩:=hq
 obtain ⟨zs,cs,rfl,hcs,hms,hbs⟩:=hs
 by_cases h64:sl.length=64
 ·rw [h64] at hbs hcs ⊢
  have hU:=ln_fl (f:=fun i=>(fun i=>sl.getD i 0) (0+i)) (fun i=>hbs.lt _)
  have hV:=ln_fl (f:=fun i=>(fun i=>sl.getD i 0) (32+i)) (fun i=>hbs.lt _)
  rw [fl_take h64] at hU
  rw [fl_drop h64] at hV
  have ep:fl (fun i=>pl.getD i 0) pl.length=pl:=fl_getD rfl
  have em:fl (fun i=>ml.getD i 0) ml.length=ml:=fl_getD rfl
  cases hR:dok (nle (sl.take 32)) with
  | false =>
   have ev:vOk pl ml sl=false:=by unfold vOk;rw [hR,Bool.false_and,Bool.and_false]
   rw [ev]
   cases hA:aOk pl with
   | false=>exact pV_ra hT hx hH hbp hcp hmp hbm hcm hmm hbs hcs hms hl hU hV rfl rfl rfl (dpt_on _) (aPt_on _) (scl_num _) hR (by rw [ep];exact hA)
   | true=>exact pV_r hT hx hH hbp hcp hmp hbm hcm hmm hbs hcs hms hl hU hV rfl rfl rfl (dpt_on _) (aPt_on _) (scl_num _) hR (by rw [ep];exact hA)
  | true =>
   cases hA:aOk pl with
   | false =>
    have ev:vOk pl ml sl=false:=by unfold vOk;rw [hA,Bool.false_and,Bool.and_false,Bool.and_false]
    rw [ev]
    exact pV_a hT hx hH hbp hcp hmp hbm hcm hmm hbs hcs hms hl hU hV rfl rfl rfl (dpt_on _) (aPt_on _) (scl_num _) hR (by rw [ep];exact hA)
   | true =>
    cases hB:decide (((nle (sl.drop 32):Nat):Int)<md 3) with
    | false =>
     have ev:vOk pl ml sl=false:=by unfold vOk;rw [hB,Bool.false_and,Bool.and_false,Bool.and_false,Bool.and_false]
     rw [ev]
     exact pV_s hT hx hH hbp hcp hmp hbm hcm hmm hbs hcs hms hl hU hV rfl rfl rfl (dpt_on _) (aPt_on _) (scl_num _) hR (by rw [ep];exact hA) hB
    | true =>
     have q:=pV_ok hT hx hH hbp hcp hmp hbm hcm hmm hbs hcs hms hl hU hV rfl rfl rfl (dpt_on _) (aPt_on _) (scl_num _) hR (by rw [ep];exact hA) hB
     rw [fl_take h64,ep,em] at q
     have ev:vOk pl ml sl=eqE (mt eadd (Ep.o m2) eG (nle (sl.drop 32))) (eadd (dpt (nle (sl.take 32))) (mt eadd (Ep.o m2) (aPt pl) (kK (sl.take 32) pl ml))):=by unfold vOk;rw [decide_eq_true h64,hR,hA,hB,Bool.true_and,Bool.true_and,Bool.true_and,Bool.true_and]
     rw [ev]
     exact q
 ·have ev:vOk pl ml sl=false:=by unfold vOk;rw [decide_eq_false h64,Bool.false_and]
  rw [ev]
  exact pV_len h64
end Go.Proofs.YtjaahnlpnkcimaaDoor
namespace Go.Proofs.YtjaahnlpnkcimaaDoor
set_option maxRecDepth 100000
open Go.RowKit
theorem same_ba {a a2:Option Addr} {n n2 c c2:Nat} {f g:Nat→Nat} {w:World} (h:BA w a n f) (h2:BA w a2 n2 g) (hn:n≤1000000) :
  Calls Tryd.prog 10 #[.slice a n c,.slice a2 n2 c2] w fun e w'=>e=.returned (.bool (decide (n=n2∧∀ i,i<n→f i=g i)))∧Below w.heap.size w w':=by
 by_cases e:n=n2
 ·subst e
  by_cases e0:n=0
  ·subst e0
   refine (same_none a a2 c c2 w).mono ?_
   rintro e w1 ⟨rfl,rfl⟩
   exact ⟨ret_bool (decide_eq_true ⟨rfl,fun i hi=>by omega⟩).symm,Below.refl _ _⟩
  ·rcases h.at_ with h0 | ⟨b,o,rfl,hr⟩
   ·omega
   rcases h2.at_ with h0 | ⟨b2,o2,rfl,hr2⟩
   ·omega
   refine (same_any hn hr hr2).mono ?_
   rintro e w1 ⟨rfl,hb⟩
   refine ⟨ret_bool ?_,hb⟩
   unfold sameB
   rw [Bool.eq_iff_iff,decide_eq_true_eq,decide_eq_true_eq]
   exact ⟨fun hh=>⟨rfl,fun i hi=>Int.ofNat_inj.1 (hh i hi)⟩,fun hh i hi=>congrArg (fun (x:Nat)=>(x:Int)) (hh.2 i hi)⟩
 ·refine (same_len a a2 n n2 c c2 e w).mono ?_
  rintro e w1 ⟨rfl,rfl⟩
  exact ⟨ret_bool (decide_eq_false (fun hh=>e hh.1)).symm,Below.refl _ _⟩
theorem same_fl {a a2:Option Addr} {n n2 c c2:Nat} {f g:Nat→Nat} {w:World} (h:BA w a n f) (h2:BA w a2 n2 g) (hn:n≤1000000) :
  Calls Tryd.prog 10 #[.slice a n c,.slice a2 n2 c2] w fun e w'=>e=.returned (.bool (decide (fl f n=fl g n2)))∧Below w.heap.size w w':=by
 have e:decide (fl f n=fl g n2)=decide (n=n2∧∀ i,i<n→f i=g i):=by
  rw [decide_eq_decide]
  constructor
  ·intro hh
   have e1:n=n2:=by
    have:=congrArg List.length hh
    rwa [fl_len,fl_len] at this
   subst e1
   refine ⟨rfl,fun i hi=>?_⟩
   have:=congrArg (fun l=>l[i]?) hh
   simpa [fl_at _ hi] using this
  ·rintro ⟨e1,hh⟩
   subst e1
   apply List.ext_getElem?
   intro i
   rcases Nat.lt_or_ge i n with hi | hi
   ·rw [fl_at _ hi,fl_at _ hi,hh i hi]
   ·rw [List.getElem?_eq_none (by rw [fl_len];exact hi),List.getElem?_eq_none (by rw [fl_len];exact hi)]
 rw [e]
 exact same_ba h h2 hn
end Go.Proofs.YtjaahnlpnkcimaaDoor
namespace Go.Proofs.YtjaahnlpnkcimaaDoor
set_option maxRecDepth 100000
open Go.RowKit
def zrs:List Nat:=List.replicate 32 0
theorem zrs_lt:∀ x ∈ zrs,x<256:=fun x hx=>by
 rw [List.eq_of_mem_replicate hx]
 decide
theorem b_zrs:Tryd.prog.built 23 []=some (by32 (bz zrs)).toArray:=by kernel_rfl
theorem sameT {w:World} {v1 v2:Value} {l1 l2:List Nat} (h1:Pt w v1 l1) (h2:Pt w v2 l2) (e:l1=l2) (hn:l1.length≤1000000):Calls Tryd.prog 10 [v1,v2].toArray w fun e w'=>e=.returned (.bool true)∧Below w.heap.size w w':=by
 subst e
 obtain ⟨z1,c1,rfl,_,_,b1⟩:=h1
 obtain ⟨z2,c2,rfl,_,_,b2⟩:=h2
 have q:=same_fl (c:=c1) (c2:=c2) b1 b2 hn
 rw [decide_eq_true rfl] at q
 exact q
theorem pt_row {w:World} {v:Value} {F:Nat→Bool} {n:Nat} {l:List Nat} (hl:∀ x ∈ l,x<256) (h:(rowPd 5 1 (n) (cells8 (l))).p v F w):Pt w v l:=pt_rm (rm_row hl h)
theorem cZ6 (vs:List Value):∀ w,(callFunc 6 vs.toArray).run Tryd.prog w=.ok (.enter 6 vs.toArray) w:=callFunc_enter Tryd.func6 (by kernel_rfl) (by kernel_rfl) _
theorem signPt {w:World} (hT:Tab w) (hH:Sx.Tab w) {sd:List Nat} (hsd:sd.length=32) (hlt:∀ x ∈ sd,x<256) {v:Value} {ms:List Nat} (h:Pt w v ms) (hn:ms.length≤100000):Calls Tryd.prog 7 [.agg (by32 (bz sd)).toArray,v].toArray w fun e w'=>∃ v Fp,e=.returned v∧(rowPd 5 1 (32+32) (cells8 (cbp (pR sd ms)++(nb (kS sd ms))))).p v Fp w'∧(∀ b,Fp b=true→w.heap.size≤b∧b<w'.heap.size)∧Below w.heap.size w w':=by
 obtain ⟨z,c,rfl,h2,h3,h4⟩:=h
 have q:=qSign hT hH hsd hlt h4 h2 h3 hn
 rw [fl_getD rfl] at q
 exact q
theorem awk {w:World} (hT:Tab w) (hH:Sx.Tab w):Calls Tryd.prog 6 [].toArray w fun e w'=>e=.returned (.bool true)∧Below w.heap.size w w':=by
 refine enter (args:=[]) Tryd.func6 rfl 5 rfl (lk rfl) (fun a h=>?_)
 refine a_region TTE h hm [] [eS 0 _] (by kernel_rfl) ⟨rfl,T0⟩ [] [] T0 T0 rfl (fun a w h=>?_)
 refine a_region TTE h hm [0,1,2,3] [eS 1 (.val (.agg (by32 (bz zrs)).toArray)),eQ 2 (rowPd 5 1 (32+32) (cells8 (cbp (pR zrs (fl (fun _=>0) 0))++(nb (kS zrs (fl (fun _=>0) 0)))))),eS 3 (.val (Value.int .i64 ((32+32:Nat):Int))),eS 4 (.val (Value.bool true)),eS 0 _] (by kernel_rfl) ⟨fun L u=>u_build u (gd0 rfl) 1 rfl 23 #[] rfl [] rfl (by32 (bz zrs)) (b_zrs),fun L u=>u_callQ u (gd0 rfl) 2 rfl rfl 7 #[(.tmp 1),(.const (.slice none 0 0))] #[23,24] rfl [.val (.agg (by32 (bz zrs)).toArray),.val ((Value.slice none 0 0))] rfl (fun vs w=>callFunc_enter Tryd.func7 (by kernel_rfl) (by kernel_rfl) vs w) (rowPd 5 1 (32+32) (cells8 (cbp (pR zrs (fl (fun _=>0) 0))++(nb (kS zrs (fl (fun _=>0) 0)))))) (fun β a w hr=>qSign (sd:=zrs) (z:=none) (n:=0) (c:=0) (f:=fun _=>0) (hT.keep (Bs.kp_of hr.bl)) (hH.keep (Bs.kp_of hr.bl)) rfl zrs_lt ⟨fun _=>by decide,Or.inl rfl⟩ (Nat.le_refl _) (Nat.zero_le _) (Nat.zero_le _)),fun L u=>q_len u (gd0 rfl) 3 rfl (.tmp 2) rfl rfl rfl (vw_row (l:=cbp (pR zrs (fl (fun _=>0) 0))++(nb (kS zrs (fl (fun _=>0) 0)))) (lt_app (cbp_lt _) (nb_lt _))),fun L u=>u_bin u (gd0 rfl) _ rfl _ _ _ _ _ rfl rfl rfl (eqg_int _ _ _ _ _ _ _ _) _ (yes_of (fun w=>i_eql _ _ _ _ w) (by decide)),rfl,T0⟩ [(0,.val (Value.bool true))] [] ⟨rfl,T0⟩ T0 rfl (fun a w h=>?_)
 refine wp_ret ?_
 refine ret_slot h 0 rfl (lk rfl) (Value.bool true) rfl ?_
 exact ⟨rfl,h.grows⟩
end Go.Proofs.YtjaahnlpnkcimaaDoor
namespace Go.Proofs.YtjaahnlpnkcimaaDoor
set_option maxRecDepth 100000
open Go.RowKit
theorem nle_nb {A:Nat} (h:A<2 ^ 256):nle (nb A)=A:=(nle_ln (nb_lt A) (nb_len A)).one (nb_ln h)
theorem nle_cb (a:Ep m2):nle (cbp a)=code a:=nle_nb (code_lt a)
theorem dok_code {a:Ep m2} (h:a.on ed):dok (code a)=true:=by unfold dok;rw [dec_code h];rfl
theorem dpt_code {a:Ep m2} (h:a.on ed):dpt (code a)=a:=by unfold dpt;rw [dec_code h];rfl
theorem aOk_cb {a:Ep m2} (h:a.on ed):aOk (cbp a)=true:=by unfold aOk;rw [decide_eq_true (cbp_len a),nle_cb,dok_code h];rfl
theorem aPt_cb {a:Ep m2} (h:a.on ed):aPt (cbp a)=a:=by unfold aPt;rw [if_pos (cbp_len a),nle_cb,dpt_code h]
def sgl (sd ms:List Nat):List Nat:=cbp (pR sd ms)++nb (kS sd ms)
theorem sgl_len (sd ms:List Nat):(sgl sd ms).length=64:=len_app (cbp_len _) (nb_len _)
theorem sgl_take (sd ms:List Nat):(sgl sd ms).take 32=cbp (pR sd ms):=by
 unfold sgl
 rw [List.take_append_of_le_length (by rw [cbp_len];exact Nat.le_refl _),List.take_of_length_le (by rw [cbp_len];exact Nat.le_refl _)]
theorem drop_app {l m:List Nat} (h:l.length=32):(l++m).drop 32=m:=by rw [← h];exact List.drop_left
theorem sgl_drop (sd ms:List Nat):(sgl sd ms).drop 32=nb (kS sd ms):=drop_app (cbp_len _)
theorem md3_nat:md 3=((mod3:Nat):Int):=by decide +kernel
theorem toNat_mod (a:Nat):(((a:Nat):Int) % md 3).toNat=a % mod3:=by
 rw [md3_nat,← Int.natCast_emod]
 exact Int.toNat_natCast _
theorem kS_nat (sd ms:List Nat):kS sd ms=(kR sd ms+kM sd ms) % mod3:=by
 have e:=toNat_mod (kR sd ms+kM sd ms)
 rw [Int.natCast_add] at e
 exact e
theorem kM_nat (sd ms:List Nat):kM sd ms=(kK (cbp (pR sd ms)) (cbp (pA sd)) ms*kA sd) % mod3:=by
 have e:=toNat_mod (kK (cbp (pR sd ms)) (cbp (pA sd)) ms*kA sd)
 rw [Int.natCast_mul] at e
 exact e
theorem sig_eq (sd ms:List Nat):mt eadd (Ep.o m2) eG (kS sd ms)=eadd (pR sd ms) (mt eadd (Ep.o m2) (pA sd) (kK (cbp (pR sd ms)) (cbp (pA sd)) ms)):=by
 rw [kS_nat,mt_mod egr eG_on eG_order,mt_add egr eG_on,kM_nat,mt_mod egr eG_on eG_order,Nat.mul_comm,mt_mul egr eG_on]
 rfl
theorem pR_on (sd ms:List Nat):(pR sd ms).on ed:=mG_on _
theorem sig_right (sd ms:List Nat):vOk (cbp (pA sd)) ms (sgl sd ms)=true:=by
 unfold vOk
 rw [decide_eq_true (sgl_len sd ms),sgl_take,sgl_drop,nle_cb,nle_nb (kS_num sd ms),dok_code (pR_on sd ms),dpt_code (pR_on sd ms),aOk_cb (pA_on sd),aPt_cb (pA_on sd),decide_eq_true (kS_lt sd ms),sig_eq,eqE_same]
 rfl
end Go.Proofs.YtjaahnlpnkcimaaDoor
namespace Go.Proofs.YtjaahnlpnkcimaaDoor
set_option maxRecDepth 100000
open Go.RowKit
attribute [local go_sem ↓] Go.wp_at_zero Go.wp_at_succ
end Go.Proofs.YtjaahnlpnkcimaaDoor
namespace Go.Proofs.YtjaahnlpnkcimaaDoor
set_option maxRecDepth 100000
open Go.RowKit
theorem lt_nil:∀ x ∈ ([]:List Nat),x<256:=fun x hx=>by cases hx
end Go.Proofs.YtjaahnlpnkcimaaDoor
namespace Go.Proofs.YtjaahnlpnkcimaaDoor
set_option maxRecDepth 100000
open Go.RowKit
theorem sg_right (sd ms:List Nat):vOk (cbp (pA sd)) ms (cbp (pR sd ms)++(nb (kS sd ms)))=true:=sig_right sd ms
theorem lRight_long {w:World} (hT:Tab w) (hH:Sx.Tab w) {sd:List Nat} (_hsd:sd.length=32) (_hlt:∀ x ∈ sd,x<256) {n c:Nat} {z:Option Addr} {f:Nat→Nat} (_hba:BA w z n f) (_hc:n≤c) (_hcm:c≤maxLen) (_hn:300<n):Calls Tryd.prog 3 [.agg (by32 (bz sd)).toArray,Value.slice (z) (n) (c)].toArray w fun e w'=>e=.returned (.bool true)∧Below w.heap.size w w':=by
 refine enter (args:=[.agg (by32 (bz sd)).toArray,Value.slice (z) (n) (c)]) Tryd.func3 rfl 40 rfl (lk rfl) (fun a h=>?_)
 refine a_region TTE h hm [] [eN 2 _,eS 4 _] (by kernel_rfl) ⟨rfl,rfl,T0⟩ [(1,.val (Value.slice (z) (n) (c))),(2,.ptr 2 0)] [(2,by32 (bz sd))] ⟨rfl,rfl,T0⟩ ⟨rfl,T0⟩ rfl (fun a w h=>?_)
 refine wp_seq ?_
 refine a_region TTE h hm [0,4,5] [eS 8 (.val (Value.bool true)),eS 9 _,eS 10 _,eS 11 _,eS 12 (.val (Value.int .i64 ((n:Nat):Int))),eS 13 (.val (Value.bool true)),eS 14 _] (by kernel_rfl) ⟨fun L u=>u_call u (gd0 rfl) _ rfl _ _ _ rfl [] rfl (cZ6 _) _ (fun w hb=>awk (hT.keep (Bs.kp_of hb)) (hH.keep (Bs.kp_of hb))),rfl,rfl,rfl,fun L u=>u_lenV u (gd1 u 2 false rfl 10 rfl (lk rfl) rfl) 12 rfl (.tmp 11) 24 rfl rfl Tryd.underlying24,fun L u=>u_bin u (gd1 u 2 false rfl 10 rfl (lk rfl) rfl) _ rfl _ _ _ _ _ rfl rfl rfl (eqg_int _ _ _ _ _ _ _ _) _ (yes_of (fun w=>i_gtr _ _ _ _ w) (by omega)),rfl,T0⟩ [(1,_),(2,_),(14,.val (Value.bool true))] [(2,_)] ⟨rfl,rfl,rfl,T0⟩ ⟨rfl,T0⟩ rfl (fun a w h=>?_)
 refine go_cond h true rfl (fun ht=>?_) (fun hf=>?_)
 case refine_2=>cases hf
 refine a_region TTE h hm [0] [eS 15 (.val (Value.bool true)),eS 4 _] (by kernel_rfl) ⟨fun L u=>u_call u (gd0 rfl) _ rfl _ _ _ rfl [] rfl (cZ6 _) _ (fun w hb=>awk (hT.keep (Bs.kp_of hb)) (hH.keep (Bs.kp_of hb))),rfl,T0⟩ [(4,.val (Value.bool true))] [] ⟨rfl,T0⟩ T0 rfl (fun a w h=>?_)
 refine wp_ret ?_
 refine then_ret ?_
 refine ret_slot h 4 rfl (lk rfl) (Value.bool true) rfl ?_
 exact ⟨rfl,h.grows⟩
theorem lRight_at {w:World} (hT:Tab w) (hH:Sx.Tab w) (hX:TabX w) {sd:List Nat} (hsd:sd.length=32) (hlt:∀ x ∈ sd,x<256) {n c:Nat} {z:Option Addr} {f:Nat→Nat} (hba:BA w z n f) (hc:n≤c) (hcm:c≤maxLen) (_hn:n≤300):Calls Tryd.prog 3 [.agg (by32 (bz sd)).toArray,Value.slice (z) (n) (c)].toArray w fun e w'=>e=.returned (.bool true)∧Below w.heap.size w w':=by
 refine enter (args:=[.agg (by32 (bz sd)).toArray,Value.slice (z) (n) (c)]) Tryd.func3 rfl 40 rfl (lk rfl) (fun a h=>?_)
 refine a_region TTE h hm [] [eN 2 _,eS 4 _] (by kernel_rfl) ⟨rfl,rfl,T0⟩ [(1,.val (Value.slice (z) (n) (c))),(2,.ptr 2 0)] [(2,by32 (bz sd))] ⟨rfl,rfl,T0⟩ ⟨rfl,T0⟩ rfl (fun a w h=>?_)
 refine wp_seq ?_
 refine a_region TTE h hm [0,4,5] [eS 8 (.val (Value.bool true)),eS 9 _,eS 10 _,eS 11 _,eS 12 (.val (Value.int .i64 ((n:Nat):Int))),eS 13 (.val (Value.bool false)),eS 14 _] (by kernel_rfl) ⟨fun L u=>u_call u (gd0 rfl) _ rfl _ _ _ rfl [] rfl (cZ6 _) _ (fun w hb=>awk (hT.keep (Bs.kp_of hb)) (hH.keep (Bs.kp_of hb))),rfl,rfl,rfl,fun L u=>u_lenV u (gd1 u 2 false rfl 10 rfl (lk rfl) rfl) 12 rfl (.tmp 11) 24 rfl rfl Tryd.underlying24,fun L u=>u_bin u (gd1 u 2 false rfl 10 rfl (lk rfl) rfl) _ rfl _ _ _ _ _ rfl rfl rfl (eqg_int _ _ _ _ _ _ _ _) _ (no_of (fun w=>i_gtr _ _ _ _ w) (by omega)),rfl,T0⟩ [(1,_),(2,_),(14,.val (Value.bool false))] [(2,_)] ⟨rfl,rfl,rfl,T0⟩ ⟨rfl,T0⟩ rfl (fun a w h=>?_)
 refine go_cond h false rfl (fun ht=>?_) (fun hf=>?_)
 case refine_1=>cases ht
 refine wp_skip ?_
 refine then_norm ?_
 refine a_region TTE h hm [] [eS 5 _] (by kernel_rfl) ⟨rfl,T0⟩ [(1,_),(2,_),(5,.val ((Value.slice none 0 0)))] [(2,_)] ⟨rfl,rfl,rfl,T0⟩ ⟨rfl,T0⟩ rfl (fun a w h=>?_)
 refine wp_seq ?_
 refine sq_begin [0,1,2,3] rfl ?_
 refine sq_step h (i:=0) rfl (u_move (xs:=[]) (up_seq (i:=0) (by kernel_rfl) rfl) (gd0 rfl) 16 rfl (.tmp 5) (Or.inl rfl) rfl) (fun a w h=>?_)
 refine sq_step h (i:=1) rfl (u_move (xs:=[]) (up_seq (i:=1) (by kernel_rfl) rfl) (gd0 rfl) 17 rfl (.tmp 1) (Or.inl rfl) rfl) (fun a w h=>?_)
 replace h:=(h.nil 5 1 18 16 rfl rfl).keepQ [(1,.val (Value.slice (z) (n) (c))),(2,.ptr 2 0),(5,.val ((Value.slice none 0 0))),(16,.unk 18 id),(17,.val (Value.slice (z) (n) (c)))] [(2,by32 (bz sd))] [(18,rowPd 5 1 0 [])] ⟨rfl,rfl,rfl,rfl,rfl,trivial⟩ ⟨rfl,trivial⟩ ⟨rfl,trivial⟩ rfl
 refine sq_appQ (k:=0) (l:=[]) h (i:=2) rfl (gq0 rfl) 18 rfl (.tmp 16) (.tmp 17) rfl 18 rfl rfl (Or.inl rfl) (m:=(n)) (f:=f) (fun β hr=>⟨z,c,hr.eval (v:=.val (Value.slice z n c)) rfl,hba.keep (Bs.kp_of hr.bl)⟩) (by omega) [(1,.val (Value.slice (z) (n) (c))),(2,.ptr 2 0)] ⟨rfl,rfl,T0⟩ rfl (fun a w h=>?_)
 replace h:=h.keepQ [(1,.val (Value.slice (z) (n) (c))),(2,.ptr 2 0),(18,.unk 18 id)] [(2,by32 (bz sd))] [(18,rowPd 5 1 (0+(n)) (cells8 ([]++(fl f (n)))))] ⟨rfl,rfl,rfl,trivial⟩ ⟨rfl,trivial⟩ ⟨rfl,trivial⟩ rfl
 refine sq_step h (i:=3) rfl (u_copyQ (xs:=[]) (up_seq (i:=3) (by kernel_rfl) rfl) (gd0 rfl) 5 rfl (.tmp 18) (Or.inr rfl) rfl rfl) (fun a w h=>?_)
 replace h:=h.keepQ [(1,.val (Value.slice (z) (n) (c))),(2,.ptr 2 0),(5,.unk 18 id)] [(2,by32 (bz sd))] [(18,rowPd 5 1 (0+(n)) (cells8 ([]++(fl f (n)))))] ⟨rfl,rfl,rfl,trivial⟩ ⟨rfl,trivial⟩ ⟨rfl,trivial⟩ rfl
 refine sq_end ?_
 refine then_norm ?_
 refine a_regionQ TTE h hm [2,3] [eS 19 _,eS 20 _,eQ 21 (rowPd 5 1 (32+32) (cells8 (cbp (pR sd (fl f n))++(nb (kS sd (fl f n)))))),eS 6 (.unk 21 id)] (by kernel_rfl) ⟨rfl,rfl,fun L u=>u_callQ u (gd0 rfl) 21 rfl rfl 7 #[(.tmp 19),(.tmp 20)] #[23,24] rfl [.val (.agg (by32 (bz sd)).toArray),.val (Value.slice (z) (n) (c))] rfl (fun vs w=>callFunc_enter Tryd.func7 (by kernel_rfl) (by kernel_rfl) vs w) (rowPd 5 1 (32+32) (cells8 (cbp (pR sd (fl f n))++(nb (kS sd (fl f n)))))) (fun β a w hr=>qSign (hT.keep (Bs.kp_of hr.bl)) (hH.keep (Bs.kp_of hr.bl)) hsd hlt (hba.keep (Bs.kp_of hr.bl)) hc hcm (by omega)),fun L u=>u_copyQ u (gd0 rfl) 6 rfl (.tmp 21) (Or.inr rfl) rfl rfl,T0⟩ [(1,_),(2,_),(5,_),(6,.unk 21 id)] [(2,_)] [(18,rowPd 5 1 (0+(n)) (cells8 ([]++(fl f (n))))),(21,rowPd 5 1 (32+32) (cells8 (cbp (pR sd (fl f n))++(nb (kS sd (fl f n))))))] ⟨rfl,rfl,rfl,rfl,T0⟩ ⟨rfl,T0⟩ ⟨rfl,rfl,T0⟩ rfl (fun a w h=>?_)
 refine a_regionQ TTE h hm [1] [eS 22 _,eS 23 (.val (.agg (by32 (bz (cbp (pA sd)))).toArray)),eN 7 _,eM 7 _] (by kernel_rfl) ⟨rfl,fun L u=>u_call u (gd0 rfl) _ rfl _ _ _ rfl [_] rfl (cZ8 _) _ (fun w hb=>qPub (hT.keep (Bs.kp_of hb)) (hH.keep (Bs.kp_of hb)) hsd hlt),rfl,rfl,T0⟩ [(1,_),(2,_),(5,_),(6,_),(7,.ptr 7 0)] [(2,_),(7,by32 (bz (cbp (pA sd))))] [(18,rowPd 5 1 (0+(n)) (cells8 ([]++(fl f (n))))),(21,rowPd 5 1 (32+32) (cells8 (cbp (pR sd (fl f n))++(nb (kS sd (fl f n))))))] ⟨rfl,rfl,rfl,rfl,rfl,T0⟩ ⟨rfl,rfl,T0⟩ ⟨rfl,rfl,T0⟩ rfl (fun a w h=>?_)
 refine a_region TTE h hm [0,2,3,6,7,8,9,12,14] [eS 24 (.sli 7 0 32 32),eS 25 _,eS 26 (.unk 21 id),eS 27 (.val (Value.bool true)),eS 28 _,eS 29 _,eS 30 (.unk 18 id),eQ 31 (rowPd 5 1 (32+32) (cells8 (cbp (pR sd ([]++(fl f (n))))++(nb (kS sd ([]++(fl f (n)))))))),eS 32 (.unk 21 id),eS 33 (.val (Value.bool true)),eS 34 _,eS 35 _,eS 36 (.unk 18 id),eS 37 _,eS 38 (.val (Value.bool true)),eS 39 _,eS 4 _] (by kernel_rfl) ⟨fun L u=>u_slice u (gd0 rfl) 24 rfl 23 (.tmp 7) rfl rfl rfl Tryd.underlying23 i5Z,rfl,fun L u=>u_copyQ u (gd0 rfl) 26 rfl (.tmp 6) (Or.inl rfl) rfl rfl,fun L u=>u_callR u (gd0 rfl) 27 rfl 9 #[(.tmp 24),(.tmp 25),(.tmp 26)] #[24,24,24] rfl [.sli 7 0 32 32,.val (Value.slice (z) (n) (c)),.unk 21 id] rfl (fun vs w=>callFunc_enter Tryd.func9 (by kernel_rfl) (by kernel_rfl) vs w) (Value.bool true) (fun β a w hr=>by obtain ⟨_,_,c3,_⟩:=hr.va 7 (by32 (bz (cbp (pA sd)))) (u.m rfl);have q:=pVer (hT.keep (Bs.kp_of hr.bl)) (hX.keep (Bs.kp_of hr.bl)) (hH.keep (Bs.kp_of hr.bl)) (pt_by32 (cbp_len _) (cbp_lt _) c3) (pt_ba (hba.keep (Bs.kp_of hr.bl)) hc hcm) (pt_row (lt_app (cbp_lt _) (nb_lt _)) (hr.thing (x:=21) (u.q rfl))) (by rw [cbp_len,fl_len];omega);rw [sg_right] at q;exact q),rfl,rfl,fun L u=>u_copyQ u (gd1 u 4 true rfl 28 rfl (lk rfl) rfl) 30 rfl (.tmp 5) (Or.inl rfl) rfl rfl,fun L u=>u_callQ u (gd1 u 4 true rfl 28 rfl (lk rfl) rfl) 31 rfl rfl 7 #[(.tmp 29),(.tmp 30)] #[23,24] rfl [.val (.agg (by32 (bz sd)).toArray),.unk 18 id] rfl (fun vs w=>callFunc_enter Tryd.func7 (by kernel_rfl) (by kernel_rfl) vs w) (rowPd 5 1 (32+32) (cells8 (cbp (pR sd ([]++(fl f (n))))++(nb (kS sd ([]++(fl f (n)))))))) (fun β a w hr=>signPt (hT.keep (Bs.kp_of hr.bl)) (hH.keep (Bs.kp_of hr.bl)) hsd hlt (pt_row (lt_app lt_nil (fl_lt hba.lt _)) (hr.thing (x:=18) (u.q rfl))) (by rw [List.nil_append,fl_len];omega)),fun L u=>u_copyQ u (gd1 u 4 true rfl 28 rfl (lk rfl) rfl) 32 rfl (.tmp 6) (Or.inl rfl) rfl rfl,fun L u=>u_callR u (gd1 u 4 true rfl 28 rfl (lk rfl) rfl) 33 rfl 10 #[(.tmp 31),(.tmp 32)] #[24,24] rfl [.unk 31 id,.unk 21 id] rfl (fun vs w=>callFunc_enter Tryd.func10 (by kernel_rfl) (by kernel_rfl) vs w) (Value.bool true) (fun β a w hr=>sameT (pt_row (lt_app (cbp_lt _) (nb_lt _)) (hr.thing (x:=31) (u.q rfl))) (pt_row (lt_app (cbp_lt _) (nb_lt _)) (hr.thing (x:=21) (u.q rfl))) rfl (by rw [len_app (cbp_len _) (nb_len _)];decide)),rfl,rfl,fun L u=>u_copyQ u (gd1 u 11 true rfl 35 rfl (lk rfl) rfl) 36 rfl (.tmp 5) (Or.inl rfl) rfl rfl,rfl,fun L u=>u_callR u (gd1 u 11 true rfl 35 rfl (lk rfl) rfl) 38 rfl 10 #[(.tmp 36),(.tmp 37)] #[24,24] rfl [.unk 18 id,.val (Value.slice (z) (n) (c))] rfl (fun vs w=>callFunc_enter Tryd.func10 (by kernel_rfl) (by kernel_rfl) vs w) (Value.bool true) (fun β a w hr=>sameT (pt_row (lt_app lt_nil (fl_lt hba.lt _)) (hr.thing (x:=18) (u.q rfl))) (pt_ba (hba.keep (Bs.kp_of hr.bl)) hc hcm) rfl (by rw [List.nil_append,fl_len];omega)),rfl,rfl,T0⟩ [(4,.val (Value.bool true))] [] ⟨rfl,T0⟩ T0 rfl (fun a w h=>?_)
 refine wp_ret ?_
 refine ret_slot h 4 rfl (lk rfl) (Value.bool true) rfl ?_
 exact ⟨rfl,h.grows⟩
theorem lRight {w:World} (hT:Tab w) (hH:Sx.Tab w) (hX:TabX w) {sd:List Nat} (hsd:sd.length=32) (hlt:∀ x ∈ sd,x<256) {n c:Nat} {z:Option Addr} {f:Nat→Nat} (hba:BA w z n f) (hc:n≤c) (hcm:c≤maxLen):Calls Tryd.prog 3 [.agg (by32 (bz sd)).toArray,Value.slice (z) (n) (c)].toArray w fun e w'=>e=.returned (.bool true)∧Below w.heap.size w w':=by
 rcases Nat.lt_or_ge 300 n with hn | hn
 ·exact lRight_long hT hH hsd hlt hba hc hcm hn
 ·exact lRight_at hT hH hX hsd hlt hba hc hcm hn
end Go.Proofs.YtjaahnlpnkcimaaDoor
namespace Go.Proofs.YtjaahnlpnkcimaaDoor
set_option maxRecDepth 100000
open Go.ChangeShapes Go.WideShapes Go.ChangeAt Go.RowKit
theorem own:ownKnob Tryd.prog.godebug=none:=by kernel_rfl
theorem cellsU64:Tryd.prog.cellsOf 31=1:=by kernel_rfl
theorem cellsNat:Tryd.prog.cellsOf 33=4:=by kernel_rfl
theorem u8_of_wf {x:Int} (h:(Lit.int .u8 x).wf=true):0≤x∧x≤255:=by
 simp [Lit.wf,IntKind.min,IntKind.max,IntKind.signed,IntKind.bits] at h
 exact ⟨by omega,by omega⟩
theorem Tryd.laidOut:laidOutB Tryd.prog=true:=by kernel_rfl
theorem cellsU8:Tryd.prog.cellsOf 5=1:=by kernel_rfl
theorem open_bytes {H:Type} {enc:TypeId × Value→H} {W:World} {base:Nat} {v:Value} {d:DataW H} {p:List MemPlace}
  (hv:Value.okWide Tryd.prog W .any base 24 v) (h:DataW.Trod enc Tryd.prog W 0 (fun _=>true) true 24 v d p) :
  ∃ a n c f,v=.slice a n c∧BA W a n f∧n≤c∧c≤maxLen:=by
 obtain ⟨a0,len,cap,rfl⟩:=okWide_slice Tryd.underlying24 hv
 obtain ⟨fuel,hf⟩:=h
 rcases open_ints Tryd.underlying24 Tryd.underlying5 cellsU8 hf with ⟨hcs,hx⟩ | ⟨a,len',cap',zs,hcs,_,hl,hm,hz,hx,hcell,hwz⟩
 ·simp [Value.cells] at hcs
  obtain ⟨rfl,rfl,rfl⟩:=hcs
  exact ⟨none,0,0,fun _=>0,rfl,⟨fun _=>by omega,Or.inl rfl⟩,by omega,by unfold maxLen;omega⟩
 ·simp [Value.cells] at hcs
  obtain ⟨rfl,rfl,rfl⟩:=hcs
  simp only [if_true] at hz
  have hr:∀ i,0≤zs.getD i 0∧zs.getD i 0<256:=fun i=>by
   have h:=range_u8 hwz i
   simp only [List.getD_eq_getElem?_getD]
   omega
  refine ⟨some a,len,cap,fun i=>(zs.getD i 0).toNat,rfl,⟨fun i=>by have:=hr i;omega,?_⟩,hl,hm⟩
  by_cases h0:len=0
  ·exact Or.inl h0
  ·obtain ⟨b,off,rfl,hc⟩:=ints_at hcell (by omega)
   exact Or.inr ⟨b,off,rfl,⟨fun i hi=>by
    have:=hr i
    rw [hc i (by omega),Int.toNat_of_nonneg this.1]⟩⟩
theorem cellsHash:Tryd.prog.cellsOf 23=32:=by kernel_rfl
theorem open_hash {H:Type} {enc:TypeId × Value→H} {W:World} {base:Nat} {v:Value} {d:DataW H} {p:List MemPlace}
  (hv:Value.okWide Tryd.prog W .any base 23 v) (h:DataW.Trod enc Tryd.prog W 0 (fun _=>true) true 23 v d p) :
  ∃ sd:List Nat,v=.agg (by32 (bz sd)).toArray∧sd.length=32∧∀ x ∈ sd,x<256:=by
 obtain ⟨cs,rfl,hsz,_⟩:∃ cs,v=.agg cs∧cs.size=Tryd.prog.cellsOf 23∧Row.okWide Tryd.prog W .any base 23 cs:=by
  simpa [Value.okWide,Tryd.underlying23] using hv
 rw [cellsHash] at hsz
 obtain ⟨l⟩:=cs
 have hl:l.length=32:=by simpa using hsz
 obtain ⟨fuel,hf⟩:=h
 obtain ⟨xs,m,_,_,_,hxl,hat⟩:=DataW.trod_array Tryd.underlying23 hf
 have key:∀ i,i<32→∃ n:Nat,l[i]?=some (.int .u8 ((n:Nat):Int))∧n<256:=fun i hi=>by
  have h1:=hat i hi
  rw [cellsU8,Nat.mul_one,List.getElem?_eq_getElem (by omega)] at h1
  obtain ⟨n,e1,_,hw⟩:=DataW.trod_int Tryd.underlying5 h1
  have hb:=u8_of_wf hw
  have e2:(l.drop i).take 1=[.int .u8 n]:=e1
  have e3:((l.drop i).take 1)[0]?=some (.int .u8 n):=by rw [e2];rfl
  rw [List.getElem?_take_of_lt (by decide),List.getElem?_drop,Nat.add_zero] at e3
  exact ⟨n.toNat,by rw [e3,Int.toNat_of_nonneg hb.1],by omega⟩
 obtain ⟨F,hF⟩:∃ F:Nat→Nat,∀ i,F i<256∧(i<32→l[i]?=some (.int .u8 ((F i:Nat):Int))):=by
  refine ⟨fun i=>if hi:i<32 then (key i hi).choose else 0,fun i=>?_⟩
  by_cases hi:i<32
  ·simp only [hi,dite_true,forall_const]
   exact ⟨(key i hi).choose_spec.2,(key i hi).choose_spec.1⟩
  ·simp [hi]
 refine ⟨fl F 32,?_,fl_len _ _,fl_lt (fun i=>(hF i).1) 32⟩
 have e:l=by32 (bz (fl F 32)):=by
  apply List.ext_getElem?
  intro i
  rcases Nat.lt_or_ge i 32 with hi | hi
  ·rw [(hF i).2 hi,by32_at _ i hi]
   unfold bz
   rw [getD_fl hi]
  ·rw [List.getElem?_eq_none (by omega),List.getElem?_eq_none (by rw [by32_len];exact hi)]
 rw [e]
theorem gMod : Tryd.prog.globalNamed "chronicle/field.moduli" = some 1 := by kernel_rfl
theorem tMod:(Tryd.prog.globals[1]?).map (·.type)=some 93:=by kernel_rfl
theorem gCd : Tryd.prog.globalNamed "chronicle/ed.curveD" = some 4 := by kernel_rfl
theorem tCd:(Tryd.prog.globals[4]?).map (·.type)=some 33:=by kernel_rfl
theorem gFirst : Tryd.prog.globalNamed "chronicle/sha512.first" = some 0 := by kernel_rfl
theorem tFirst:(Tryd.prog.globals[0]?).map (·.type)=some 84:=by kernel_rfl
theorem gK : Tryd.prog.globalNamed "chronicle/sha512.constants" = some 5 := by kernel_rfl
theorem tK:(Tryd.prog.globals[5]?).map (·.type)=some 104:=by kernel_rfl
theorem gRp : Tryd.prog.globalNamed "chronicle/ed.rootPower" = some 2 := by kernel_rfl
theorem tRp:(Tryd.prog.globals[2]?).map (·.type)=some 33:=by kernel_rfl
theorem gTn : Tryd.prog.globalNamed "chronicle/ed.turn" = some 3 := by kernel_rfl
theorem tTn:(Tryd.prog.globals[3]?).map (·.type)=some 33:=by kernel_rfl
theorem cellsModuli:Tryd.prog.cellsOf 93=16:=by kernel_rfl
theorem cellsMod:Tryd.prog.cellsOf 67=4:=by kernel_rfl
theorem cellsSt:Tryd.prog.cellsOf 84=8:=by kernel_rfl
theorem cellsW80:Tryd.prog.cellsOf 104=80:=by kernel_rfl
theorem list16 {α:Type} (l:List α) (h:l.length=16):∃ x0 x1 x2 x3 x4 x5 x6 x7 x8 x9 x10 x11 x12 x13 x14 x15,l=[x0,x1,x2,x3,x4,x5,x6,x7,x8,x9,x10,x11,x12,x13,x14,x15]:=by
 match l,h with
 | [x0,x1,x2,x3,x4,x5,x6,x7,x8,x9,x10,x11,x12,x13,x14,x15],_=>exact ⟨x0,x1,x2,x3,x4,x5,x6,x7,x8,x9,x10,x11,x12,x13,x14,x15,rfl⟩
theorem cells_of_table {H:Type} {enc:TypeId × Value→H} {W:World} {sp:Nat→Bool} {held:Bool} {fuel:Nat} {l:List Value} {p:List MemPlace}
  (h:DataW.trod enc Tryd.prog W 0 sp held fuel 93 l=some (Rows.laid_chronicle_field_moduli,p)):l=[.int .u64 18446744073709551615,.int .u64 4294967295,.int .u64 0,.int .u64 18446744069414584321,.int .u64 17562291160714782033,.int .u64 13611842547513532036,.int .u64 18446744073709551615,.int .u64 18446744069414584320,.int .u64 18446744073709551597,.int .u64 18446744073709551615,.int .u64 18446744073709551615,.int .u64 9223372036854775807,.int .u64 6346243789798364141,.int .u64 1503914060200516822,.int .u64 0,.int .u64 1152921504606846976]:=by
 cases fuel with
 | zero=>simp [DataW.trod] at h
 | succ fuel =>
  simp only [DataW.trod,Tryd.underlying93,cellsModuli,cellsMod] at h
  split at h
  ·rename_i hl
   obtain ⟨x0,x1,x2,x3,x4,x5,x6,x7,x8,x9,x10,x11,x12,x13,x14,x15,rfl⟩:=list16 l (by simpa using hl)
   rw [show List.range 4=[0,1,2,3] from rfl] at h
   simp only [Option.map_eq_some_iff,List.mapM_cons,List.mapM_nil,Option.bind_eq_bind,Option.bind_eq_some_iff,Option.pure_def,Option.some.injEq] at h
   obtain ⟨ys,⟨y0,h0,_,⟨y1,h1,_,⟨y2,h2,_,⟨y3,h3,_,rfl,rfl⟩,rfl⟩,rfl⟩,rfl⟩,hx⟩:=h
   obtain ⟨d0,p0⟩:=y0
   obtain ⟨d1,p1⟩:=y1
   obtain ⟨d2,p2⟩:=y2
   obtain ⟨d3,p3⟩:=y3
   simp only [Rows.laid_chronicle_field_moduli,List.map_cons,List.map_nil,Prod.mk.injEq,DataW.agg.injEq,List.cons.injEq,and_true] at hx
   obtain ⟨⟨e0,e1,e2,e3⟩,_⟩:=hx
   subst e0 e1 e2 e3
   have g0:=Lib.cells_of_tab (k:=.u64) (zs:=[18446744073709551615,4294967295,0,18446744069414584321]) Tryd.underlying67 Tryd.underlying31 cellsU64 cellsMod h0
   have g1:=Lib.cells_of_tab (k:=.u64) (zs:=[17562291160714782033,13611842547513532036,18446744073709551615,18446744069414584320]) Tryd.underlying67 Tryd.underlying31 cellsU64 cellsMod h1
   have g2:=Lib.cells_of_tab (k:=.u64) (zs:=[18446744073709551597,18446744073709551615,18446744073709551615,9223372036854775807]) Tryd.underlying67 Tryd.underlying31 cellsU64 cellsMod h2
   have g3:=Lib.cells_of_tab (k:=.u64) (zs:=[6346243789798364141,1503914060200516822,0,1152921504606846976]) Tryd.underlying67 Tryd.underlying31 cellsU64 cellsMod h3
   simp at g0 g1 g2 g3
   simp [g0,g1,g2,g3]
  ·cases h
theorem first_at:∀ i,i<8→([7640891576956012808,13503953896175478587,4354685564936845355,11912009170470909681,5840696475078001361,11170449401992604703,2270897969802886507,6620516959819538809]:List Int).getD i 0=Sx.wn (Sx.start.w i):=by decide +kernel
theorem k_at:∀ i,i<80→([4794697086780616226,8158064640168781261,13096744586834688815,16840607885511220156,4131703408338449720,6480981068601479193,10538285296894168987,12329834152419229976,15566598209576043074,1334009975649890238,2608012711638119052,6128411473006802146,8268148722764581231,9286055187155687089,11230858885718282805,13951009754708518548,16472876342353939154,17275323862435702243,1135362057144423861,2597628984639134821,3308224258029322869,5365058923640841347,6679025012923562964,8573033837759648693,10970295158949994411,12119686244451234320,12683024718118986047,13788192230050041572,14330467153632333762,15395433587784984357,489312712824947311,1452737877330783856,2861767655752347644,3322285676063803686,5560940570517711597,5996557281743188959,7280758554555802590,8532644243296465576,9350256976987008742,10552545826968843579,11727347734174303076,12113106623233404929,14000437183269869457,14369950271660146224,15101387698204529176,15463397548674623760,17586052441742319658,1182934255886127544,1847814050463011016,2177327727835720531,2830643537854262169,3796741975233480872,4115178125766777443,5681478168544905931,6601373596472566643,7507060721942968483,8399075790359081724,8693463985226723168,9568029438360202098,10144078919501101548,10430055236837252648,11840083180663258601,13761210420658862357,14299343276471374635,14566680578165727644,15097957966210449927,16922976911328602910,17689382322260857208,500013540394364858,748580250866718886,1242879168328830382,1977374033974150939,2944078676154940804,3659926193048069267,4368137639120453308,4836135668995329356,5532061633213252278,6448918945643986474,6902733635092675308,7801388544844847127]:List Int).getD i 0=Sx.wn (Sx.kW i):=by decide +kernel
def laid1 : List (String × DataW Unit) := [("chronicle/sha512.first", Rows.laid_chronicle_sha512_first), ("chronicle/sha512.constants", Rows.laid_chronicle_sha512_constants), ("chronicle/field.moduli", Rows.laid_chronicle_field_moduli), ("chronicle/ed.curveD", Rows.laid_chronicle_ed_curveD), ("chronicle/ed.rootPower", Rows.laid_chronicle_ed_rootPower), ("chronicle/ed.turn", Rows.laid_chronicle_ed_turn)]
theorem tab_of_laid {W:World} (h:laidMetH Tryd.prog laid1 W):Tab W∧Sx.Tab W∧TabX W:=by
 rw [MakeChecks.laidMetH_plain _ _ _ (by kernel_rfl)] at h
 have vFirst : Lib.TabIs Tryd.prog W "chronicle/sha512.first" .u64 [7640891576956012808, 13503953896175478587, 4354685564936845355, 11912009170470909681, 5840696475078001361, 11170449401992604703, 2270897969802886507, 6620516959819538809] := Lib.tabIs_of_head (rest := [("chronicle/sha512.constants", Rows.laid_chronicle_sha512_constants), ("chronicle/field.moduli", Rows.laid_chronicle_field_moduli), ("chronicle/ed.curveD", Rows.laid_chronicle_ed_curveD), ("chronicle/ed.rootPower", Rows.laid_chronicle_ed_rootPower), ("chronicle/ed.turn", Rows.laid_chronicle_ed_turn)]) gFirst tFirst Tryd.underlying84 Tryd.underlying31 cellsU64 cellsSt h
 have h0x:=h.tail
 have vK : Lib.TabIs Tryd.prog W "chronicle/sha512.constants" .u64 [4794697086780616226, 8158064640168781261, 13096744586834688815, 16840607885511220156, 4131703408338449720, 6480981068601479193, 10538285296894168987, 12329834152419229976, 15566598209576043074, 1334009975649890238, 2608012711638119052, 6128411473006802146, 8268148722764581231, 9286055187155687089, 11230858885718282805, 13951009754708518548, 16472876342353939154, 17275323862435702243, 1135362057144423861, 2597628984639134821, 3308224258029322869, 5365058923640841347, 6679025012923562964, 8573033837759648693, 10970295158949994411, 12119686244451234320, 12683024718118986047, 13788192230050041572, 14330467153632333762, 15395433587784984357, 489312712824947311, 1452737877330783856, 2861767655752347644, 3322285676063803686, 5560940570517711597, 5996557281743188959, 7280758554555802590, 8532644243296465576, 9350256976987008742, 10552545826968843579, 11727347734174303076, 12113106623233404929, 14000437183269869457, 14369950271660146224, 15101387698204529176, 15463397548674623760, 17586052441742319658, 1182934255886127544, 1847814050463011016, 2177327727835720531, 2830643537854262169, 3796741975233480872, 4115178125766777443, 5681478168544905931, 6601373596472566643, 7507060721942968483, 8399075790359081724, 8693463985226723168, 9568029438360202098, 10144078919501101548, 10430055236837252648, 11840083180663258601, 13761210420658862357, 14299343276471374635, 14566680578165727644, 15097957966210449927, 16922976911328602910, 17689382322260857208, 500013540394364858, 748580250866718886, 1242879168328830382, 1977374033974150939, 2944078676154940804, 3659926193048069267, 4368137639120453308, 4836135668995329356, 5532061633213252278, 6448918945643986474, 6902733635092675308, 7801388544844847127] := Lib.tabIs_of_head (rest := [("chronicle/field.moduli", Rows.laid_chronicle_field_moduli), ("chronicle/ed.curveD", Rows.laid_chronicle_ed_curveD), ("chronicle/ed.rootPower", Rows.laid_chronicle_ed_rootPower), ("chronicle/ed.turn", Rows.laid_chronicle_ed_turn)]) gK tK Tryd.underlying104 Tryd.underlying31 cellsU64 cellsW80 h0x
 have h1x:=h0x.tail
 have hmo:=h1x
 have h2x:=h1x.tail
 have vCd : Lib.TabIs Tryd.prog W "chronicle/ed.curveD" .u64 [8496970652267935907, 31536524315187371, 10144147576115030168, 5909686906226998899] := Lib.tabIs_of_head (rest := [("chronicle/ed.rootPower", Rows.laid_chronicle_ed_rootPower), ("chronicle/ed.turn", Rows.laid_chronicle_ed_turn)]) gCd tCd Tryd.underlying33 Tryd.underlying31 cellsU64 cellsNat h2x
 have h3x:=h2x.tail
 have vRp : Lib.TabIs Tryd.prog W "chronicle/ed.rootPower" .u64 [18446744073709551614, 18446744073709551615, 18446744073709551615, 1152921504606846975] := Lib.tabIs_of_head (rest := [("chronicle/ed.turn", Rows.laid_chronicle_ed_turn)]) gRp tRp Tryd.underlying33 Tryd.underlying31 cellsU64 cellsNat h3x
 have h4x:=h3x.tail
 have vTn : Lib.TabIs Tryd.prog W "chronicle/ed.turn" .u64 [14190309331451158704, 3405592160176694392, 3120150775007532967, 3135389899092516619] := Lib.tabIs_of_head (rest := []) gTn tTn Tryd.underlying33 Tryd.underlying31 cellsU64 cellsNat h4x
 obtain ⟨ps,⟨g,t,cs,fuel,p,q,hg,ht,hvar,hd,_,_⟩,_⟩:=hmo
 obtain rfl:=Option.some.inj (gMod.symm.trans hg)
 obtain rfl:=Option.some.inj (tMod.symm.trans ht)
 have hcs:=cells_of_table hd
 obtain ⟨l⟩:=cs
 simp only at hcs
 subst hcs
 refine ⟨?_,?_,?_⟩
 ·exact ⟨World.var?_cell hg hvar 0,World.var?_cell hg hvar 1,World.var?_cell hg hvar 2,World.var?_cell hg hvar 3,World.var?_cell hg hvar 4,World.var?_cell hg hvar 5,World.var?_cell hg hvar 6,World.var?_cell hg hvar 7,World.var?_cell hg hvar 8,World.var?_cell hg hvar 9,World.var?_cell hg hvar 10,World.var?_cell hg hvar 11,World.var?_cell hg hvar 12,World.var?_cell hg hvar 13,World.var?_cell hg hvar 14,World.var?_cell hg hvar 15,vCd.cell gCd 0 (by decide),vCd.cell gCd 1 (by decide),vCd.cell gCd 2 (by decide),vCd.cell gCd 3 (by decide)⟩
 ·exact ⟨fun i hi=>by rw [← first_at i hi];exact vFirst.cell gFirst i hi,fun i hi=>by rw [← k_at i hi];exact vK.cell gK i hi⟩
 ·exact ⟨vRp.cell gRp 0 (by decide),vRp.cell gRp 1 (by decide),vRp.cell gRp 2 (by decide),vRp.cell gRp 3 (by decide),vTn.cell gTn 0 (by decide),vTn.cell gTn 1 (by decide),vTn.cell gTn 2 (by decide),vTn.cell gTn 3 (by decide)⟩
theorem door_met (os:Os) (args:Array Value):laidMetH Tryd.prog laid1 ((World.doorLaid Tryd.prog 200 os).forCall (fun _ _=>0) ⟨#[],args,[]⟩).memory :=
 laidMetH_of_parts3 (fuel:=8) (laidMet_of_run' 8 (by kernel_rfl) (by kernel_rfl)) (by kernel_rfl) (by kernel_rfl)
end Go.Proofs.YtjaahnlpnkcimaaDoor
