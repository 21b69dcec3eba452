/- What the program's own Verify answers. Two lists of bytes held against each other by the document's own Same. What layer 12's statements ask first. What is signed is right; what isn't. What the document's own PutLittle answers: a row of one's own. What the document's own answers of what layer 12's statements ask. The ways through a piece of code meet behind it. -/
import Derived.Test.YtjaahnlpnkcimaaDoorAB24
import Derived.Test.YtjaahnlpnkcimaaDoorAB22
import Derived.Test.YtjaahnlpnkcimaaDoorAB02
import Derived.Test.YtjaahnlpnkcimaaDoorAB04
import Derived.Test.YtjaahnlpnkcimaaDoorAB05
import Derived.Deep.LoopGhost
import Derived.Deep.DeepCutAuto
import Derived.Deep.RegionWith
set_option maxRecDepth 100000
set_option maxHeartbeats 4000000
namespace Go.Proofs.YtjaahnlpnkcimaaDoor
set_option maxRecDepth 100000
open Go.RowKit
def eqE (a b:Ep m2):Bool:=decide (a.x=b.x∧a.y=b.y)
theorem eqE_run (a b:Ep m2) (w:World):(Op.equalIn 10000 40 (.agg (pcE a).toArray) (.agg (pcE b).toArray)).run Tryd.prog w=.ok (eqE a b) w:=by
 have q:=eq_pt (gin_num a.x) (gin_num a.y) (gin_num b.x) (gin_num b.y) false false w
 have e:decide ((a.x.val:Int)=b.x.val∧(a.y.val:Int)=b.y.val∧false=false)=eqE a b:=by
  unfold eqE
  apply decide_eq_decide.2
  constructor
  ·rintro ⟨h1,h2,_⟩
   exact ⟨Fin.ext (by omega),Fin.ext (by omega)⟩
  ·rintro ⟨h1,h2⟩
   rw [h1,h2]
   exact ⟨rfl,rfl,rfl⟩
 rw [e] at q
 exact q
def aOk (l:List Nat):Bool:=decide (l.length=32) && dok (nle l)
def aPt (l:List Nat):Ep m2:=if l.length=32 then dpt (nle l) else Ep.o m2
theorem aPt_on (l:List Nat):(aPt l).on ed:=by
 unfold aPt
 split
 ·exact dpt_on _
 ·exact Ep.o_on ed
def vOk (pl ml sl:List Nat):Bool:=decide (sl.length=64) && (dok (nle (sl.take 32)) && (aOk pl && (decide (((nle (sl.drop 32):Nat):Int)<md 3) && eqE (mt eadd (Ep.o m2) eG (nle (sl.drop 32))) (eadd (dpt (nle (sl.take 32))) (mt eadd (Ep.o m2) (aPt pl) (kK (sl.take 32) pl ml))))))
theorem ln_fl {f:Nat→Nat} (hf:∀ i,f i<256):LN f (nle (fl f 32)):=(nle_ln (fl_lt hf 32) (fl_len _ _)).of (fun _ hi=>getD_fl hi)
theorem fl_take {l:List Nat} (h:l.length=64):fl (fun i=>(fun j=>l.getD j 0) (0+i)) 32=l.take 32:=by
 have q:=fl_getD (l:=l.take 32) (n:=32) (len_take h 32 (by decide))
 rw [← q]
 apply List.map_congr_left
 intro i hi
 show l.getD (0+i) 0=(l.take 32).getD i 0
 rw [Nat.zero_add,List.getD_eq_getElem?_getD,List.getD_eq_getElem?_getD,List.getElem?_take_of_lt (List.mem_range.1 hi)]
theorem fl_drop {l:List Nat} (h:l.length=64):fl (fun i=>(fun j=>l.getD j 0) (32+i)) 32=l.drop 32:=by
 have q:=fl_getD (l:=l.drop 32) (n:=32) (len_drop h 32)
 rw [← q]
 apply List.map_congr_left
 intro i _
 show l.getD (32+i) 0=(l.drop 32).getD i 0
 rw [List.getD_eq_getElem?_getD,List.getD_eq_getElem?_getD,List.getElem?_drop]
theorem litBA {w:World} {z:Option Addr} {c:Nat} {f:Nat→Nat} (h:BA w z 32 f) {u:Nat} (hu:LN f u):Calls Tryd.prog 24 [.slice z 32 c].toArray w fun e w'=>e=.returned (.tuple [.agg (nc (u:Int)).toArray,.bool true].toArray)∧Below w.heap.size w w':=by
 rcases h.at_ with h0 | ⟨b,o,rfl,hr⟩
 ·omega
 ·exact e_Lit h.lt hr hu
theorem belN {w:World} (hT:Tab w) {V:Nat} (hV:V<2 ^ 256):Calls Tryd.prog 25 [.int .i64 3,.agg (nc (V:Int)).toArray].toArray w fun e w'=>e=.returned (.bool (decide ((V:Int)<md 3)))∧Below w.heap.size w w':=below_any (k:=3) (num_nat hV) hT
theorem addN {w:World} (hT:Tab w) {a b:Ep m2} (ha:a.on ed) (hb:b.on ed):Calls Tryd.prog 28 [.agg (pcE a).toArray,.agg (pcE b).toArray].toArray w fun e w'=>e=.returned (.agg (pcE (eadd a b)).toArray)∧Below w.heap.size w w':=by
 have q:=e_Add hT (gin_num a.x) (gin_num a.y) (gin_num b.x) (gin_num b.y) false false
 rw [rpE_pc ha,rpE_pc hb] at q
 exact q
theorem decP {w:World} (hT:Tab w) (hx:TabX w) {z:Option Addr} {n c:Nat} {f:Nat→Nat} (h:BA w z n f) (hc:n≤c):Calls Tryd.prog 23 [.slice z n c].toArray w fun e w'=>e=.returned (.tuple [.agg (pcE (aPt (fl f n))).toArray,.bool (aOk (fl f n))].toArray)∧Below w.heap.size w w':=by
 unfold aPt aOk
 rw [fl_len]
 by_cases e:n=32
 ·subst e
  rw [if_pos rfl,decide_eq_true rfl,Bool.true_and]
  exact e_Dec hT hx h hc (ln_fl h.lt)
 ·rw [if_neg e,decide_eq_false e,Bool.false_and]
  exact e_dec_not e
theorem pV_len {w:World} {np cp nm cm ns cs:Nat} {zp zm zs:Option Addr} (_hns:ns≠64):Calls Tryd.prog 9 [Value.slice (zp) (np) (cp),Value.slice (zm) (nm) (cm),Value.slice (zs) (ns) (cs)].toArray w fun e w'=>e=.returned (.bool false)∧Below w.heap.size w w':=by
 refine enter (args:=[Value.slice (zp) (np) (cp),Value.slice (zm) (nm) (cm),Value.slice (zs) (ns) (cs)]) Tryd.func9 rfl 63 rfl (lk rfl) (fun a h=>?_)
 refine a_region TTE h hm [] [eS 6 _] (by kernel_rfl) ⟨rfl,T0⟩ [(0,.val (Value.slice (zp) (np) (cp))),(1,.val (Value.slice (zm) (nm) (cm))),(2,.val (Value.slice (zs) (ns) (cs)))] [] ⟨rfl,rfl,rfl,T0⟩ T0 rfl (fun a w h=>?_)
 refine wp_seq ?_
 refine a_region TTE h hm [1,2] [eS 16 _,eS 17 (.val (Value.int .i64 ((ns:Nat):Int))),eS 18 (.val (Value.bool true))] (by kernel_rfl) ⟨rfl,fun L u=>u_lenV u (gd0 rfl) 17 rfl (.tmp 16) 24 rfl rfl Tryd.underlying24,fun L u=>u_bin u (gd0 rfl) _ rfl _ _ _ _ _ rfl rfl rfl (eqg_int _ _ _ _ _ _ _ _) _ (yes_of (fun w=>i_neq _ _ _ _ w) (by omega)),T0⟩ [(0,_),(1,_),(2,_),(18,.val (Value.bool true))] [] ⟨rfl,rfl,rfl,rfl,T0⟩ T0 rfl (fun a w h=>?_)
 refine go_cond h true rfl (fun ht=>?_) (fun hf=>?_)
 case refine_2=>cases hf
 refine a_region TTE h hm [] [eS 6 _] (by kernel_rfl) ⟨rfl,T0⟩ [(6,.val (Value.bool false))] [] ⟨rfl,T0⟩ T0 rfl (fun a w h=>?_)
 refine wp_ret ?_
 refine then_ret ?_
 refine ret_slot h 6 rfl (lk rfl) (Value.bool false) rfl ?_
 exact ⟨rfl,h.grows⟩
theorem pV_r {w:World} (hT:Tab w) (hx:TabX w) (_hH:Sx.Tab w) {np cp nm cm cs:Nat} {zp zm zs:Option Addr} {fp fm fs:Nat→Nat} (hbp:BA w zp np fp) (hcp:np≤cp) (_hmp:cp≤maxLen) (_hbm:BA w zm nm fm) (_hcm:nm≤cm) (_hmm:cm≤maxLen) (hbs:BA w zs 64 fs) (hcs:64≤cs) (_hms:cs≤maxLen) (_hl:np+nm≤90000) {U V:Nat} (hU:LN (fun i=>fs (0+i)) U) (hV:LN (fun i=>fs (32+i)) V) {R A:Ep m2} {K:Nat} (hRp:dpt U=R) (hAp:aPt (fl fp np)=A) (_hKK:scl (fl (fun i=>fs (0+i)) 32++(fl fp np++fl fm nm))=K) (_hRo:R.on ed) (_hAo:A.on ed) (_hKn:K<2 ^ 256) (hR:dok U=false) (hA:aOk (fl fp np)=true):Calls Tryd.prog 9 [Value.slice (zp) (np) (cp),Value.slice (zm) (nm) (cm),Value.slice (zs) (64) (cs)].toArray w fun e w'=>e=.returned (.bool false)∧Below w.heap.size w w':=by
 refine enter (args:=[Value.slice (zp) (np) (cp),Value.slice (zm) (nm) (cm),Value.slice (zs) (64) (cs)]) Tryd.func9 rfl 63 rfl (lk rfl) (fun a h=>?_)
 refine a_region TTE h hm [] [eS 6 _] (by kernel_rfl) ⟨rfl,T0⟩ [(0,.val (Value.slice (zp) (np) (cp))),(1,.val (Value.slice (zm) (nm) (cm))),(2,.val (Value.slice (zs) (64) (cs)))] [] ⟨rfl,rfl,rfl,T0⟩ T0 rfl (fun a w h=>?_)
 refine wp_seq ?_
 refine a_region TTE h hm [1,2] [eS 16 _,eS 17 (.val (Value.int .i64 ((64:Nat):Int))),eS 18 (.val (Value.bool false))] (by kernel_rfl) ⟨rfl,fun L u=>u_lenV u (gd0 rfl) 17 rfl (.tmp 16) 24 rfl rfl Tryd.underlying24,fun L u=>u_bin u (gd0 rfl) _ rfl _ _ _ _ _ rfl rfl rfl (eqg_int _ _ _ _ _ _ _ _) _ (no_of (fun w=>i_neq _ _ _ _ w) (by omega)),T0⟩ [(0,_),(1,_),(2,_),(18,.val (Value.bool false))] [] ⟨rfl,rfl,rfl,rfl,T0⟩ T0 rfl (fun a w h=>?_)
 refine go_cond h false rfl (fun ht=>?_) (fun hf=>?_)
 case refine_1=>cases ht
 refine wp_skip ?_
 refine then_norm ?_
 refine a_region TTE h hm [1,3] [eS 19 _,eS 20 (.val (Value.slice (cutA (zs) (cs) 0) (32) (cs))),eS 21 _,eS 22 (.val (Value.slice (cutA (zs) (cs) 32) (32) (cs-32))),eS 7 _,eS 8 _] (by kernel_rfl) ⟨rfl,fun L u=>u_partH u (gd0 rfl) 20 rfl 24 (.tmp 19) (.const (.int .i64 32)) rfl rfl rfl (Value.slice (cutA (zs) (cs) 0) (32) (cs)) (fun w=>run_toS (m:=32) (by omega) w),rfl,fun L u=>u_partT u (gd0 rfl) 22 rfl 24 (.tmp 21) (.const (.int .i64 32)) rfl rfl rfl (Value.slice (cutA (zs) (cs) 32) (32) (cs-32)) (fun w=>run_fromS (k:=32) (by omega) w),rfl,rfl,T0⟩ [(0,_),(1,_),(7,.val (Value.slice (cutA (zs) (cs) 0) (32) (cs))),(8,.val (Value.slice (cutA (zs) (cs) 32) (32) (cs-32)))] [] ⟨rfl,rfl,rfl,rfl,T0⟩ T0 rfl (fun a w h=>?_)
 refine a_region TTE h hm [1] [eS 24 _,eS 25 (.val (.tuple [Value.agg (pcE (R)).toArray,Value.bool false].toArray)),eS 23 _,eS 26 _,eS 27 _,eN 9 _,eM 9 _,eS 10 _] (by kernel_rfl) ⟨rfl,fun L u=>u_call u (gd0 rfl) _ rfl _ _ _ rfl [_] rfl (cZ23 _) (.tuple [.agg (pcE (R)).toArray,Value.bool false].toArray) (fun w hb=>by have q:=e_Dec (c:=cs) (hT.keep (Bs.kp_of hb)) (hx.keep (Bs.kp_of hb)) ((hbs.keep (Bs.kp_of hb)).cut cs 0 32 (by omega) hcs) (by omega) hU;rw [hR,hRp] at q;exact q),rfl,rfl,rfl,rfl,rfl,rfl,T0⟩ [(0,_),(1,_),(7,_),(8,_),(9,.ptr 9 0),(10,.val (Value.bool false))] [(9,pcE (R))] ⟨rfl,rfl,rfl,rfl,rfl,rfl,T0⟩ ⟨rfl,T0⟩ rfl (fun a w h=>?_)
 refine a_region TTE h hm [1] [eS 29 _,eS 30 (.val (.tuple [Value.agg (pcE (A)).toArray,Value.bool true].toArray)),eS 28 _,eS 31 _,eS 32 _,eN 11 _,eM 11 _,eS 12 _] (by kernel_rfl) ⟨rfl,fun L u=>u_call u (gd0 rfl) _ rfl _ _ _ rfl [_] rfl (cZ23 _) (.tuple [.agg (pcE (A)).toArray,Value.bool true].toArray) (fun w hb=>by have q:=decP (c:=cp) (hT.keep (Bs.kp_of hb)) (hx.keep (Bs.kp_of hb)) (hbp.keep (Bs.kp_of hb)) hcp;rw [hA,hAp] at q;exact q),rfl,rfl,rfl,rfl,rfl,rfl,T0⟩ [(0,_),(1,_),(7,_),(8,_),(9,_),(10,_),(11,.ptr 11 0),(12,.val (Value.bool true))] [(9,_),(11,pcE (A))] ⟨rfl,rfl,rfl,rfl,rfl,rfl,rfl,rfl,T0⟩ ⟨rfl,rfl,T0⟩ rfl (fun a w h=>?_)
 refine a_region TTE h hm [1] [eS 34 _,eS 35 (.val (.tuple [Value.agg (nc (((V:Nat):Int))).toArray,Value.bool true].toArray)),eS 33 _,eS 36 _,eS 37 _,eN 13 _,eM 13 _,eS 14 _] (by kernel_rfl) ⟨rfl,fun L u=>u_call u (gd0 rfl) _ rfl _ _ _ rfl [_] rfl (cZ24 _) _ (fun w hb=>litBA ((hbs.keep (Bs.kp_of hb)).cut cs 32 32 (by omega) hcs) hV),rfl,rfl,rfl,rfl,rfl,rfl,T0⟩ [(0,_),(1,_),(7,_),(9,_),(10,_),(11,_),(12,_),(13,.ptr 13 0)] [(9,_),(11,_),(13,nc (((V:Nat):Int)))] ⟨rfl,rfl,rfl,rfl,rfl,rfl,rfl,rfl,T0⟩ ⟨rfl,rfl,rfl,T0⟩ rfl (fun a w h=>?_)
 refine wp_seq ?_
 refine a_region TTE h hm [] [eS 38 _,eS 39 _,eS 40 _,eS 41 _,eS 42 _,eS 43 _,eS 44 _,eS 45 _,eS 46 _,eS 47 _,eS 48 _] (by kernel_rfl) ⟨rfl,rfl,rfl,rfl,rfl,rfl,rfl,rfl,rfl,rfl,rfl,T0⟩ [(0,_),(1,_),(7,_),(9,_),(11,_),(13,_),(48,.val (Value.bool true))] [(9,_),(11,_),(13,_)] ⟨rfl,rfl,rfl,rfl,rfl,rfl,rfl,T0⟩ ⟨rfl,rfl,rfl,T0⟩ rfl (fun a w h=>?_)
 refine go_cond h true rfl (fun ht=>?_) (fun hf=>?_)
 case refine_2=>cases hf
 refine a_region TTE h hm [] [eS 6 _] (by kernel_rfl) ⟨rfl,T0⟩ [(6,.val (Value.bool false))] [] ⟨rfl,T0⟩ T0 rfl (fun a w h=>?_)
 refine wp_ret ?_
 refine then_ret ?_
 refine ret_slot h 6 rfl (lk rfl) (Value.bool false) rfl ?_
 exact ⟨rfl,h.grows⟩
theorem pV_ra {w:World} (hT:Tab w) (hx:TabX w) (_hH:Sx.Tab w) {np cp nm cm cs:Nat} {zp zm zs:Option Addr} {fp fm fs:Nat→Nat} (hbp:BA w zp np fp) (hcp:np≤cp) (_hmp:cp≤maxLen) (_hbm:BA w zm nm fm) (_hcm:nm≤cm) (_hmm:cm≤maxLen) (hbs:BA w zs 64 fs) (hcs:64≤cs) (_hms:cs≤maxLen) (_hl:np+nm≤90000) {U V:Nat} (hU:LN (fun i=>fs (0+i)) U) (hV:LN (fun i=>fs (32+i)) V) {R A:Ep m2} {K:Nat} (hRp:dpt U=R) (hAp:aPt (fl fp np)=A) (_hKK:scl (fl (fun i=>fs (0+i)) 32++(fl fp np++fl fm nm))=K) (_hRo:R.on ed) (_hAo:A.on ed) (_hKn:K<2 ^ 256) (hR:dok U=false) (hA:aOk (fl fp np)=false):Calls Tryd.prog 9 [Value.slice (zp) (np) (cp),Value.slice (zm) (nm) (cm),Value.slice (zs) (64) (cs)].toArray w fun e w'=>e=.returned (.bool false)∧Below w.heap.size w w':=by
 refine enter (args:=[Value.slice (zp) (np) (cp),Value.slice (zm) (nm) (cm),Value.slice (zs) (64) (cs)]) Tryd.func9 rfl 63 rfl (lk rfl) (fun a h=>?_)
 refine a_region TTE h hm [] [eS 6 _] (by kernel_rfl) ⟨rfl,T0⟩ [(0,.val (Value.slice (zp) (np) (cp))),(1,.val (Value.slice (zm) (nm) (cm))),(2,.val (Value.slice (zs) (64) (cs)))] [] ⟨rfl,rfl,rfl,T0⟩ T0 rfl (fun a w h=>?_)
 refine wp_seq ?_
 refine a_region TTE h hm [1,2] [eS 16 _,eS 17 (.val (Value.int .i64 ((64:Nat):Int))),eS 18 (.val (Value.bool false))] (by kernel_rfl) ⟨rfl,fun L u=>u_lenV u (gd0 rfl) 17 rfl (.tmp 16) 24 rfl rfl Tryd.underlying24,fun L u=>u_bin u (gd0 rfl) _ rfl _ _ _ _ _ rfl rfl rfl (eqg_int _ _ _ _ _ _ _ _) _ (no_of (fun w=>i_neq _ _ _ _ w) (by omega)),T0⟩ [(0,_),(1,_),(2,_),(18,.val (Value.bool false))] [] ⟨rfl,rfl,rfl,rfl,T0⟩ T0 rfl (fun a w h=>?_)
 refine go_cond h false rfl (fun ht=>?_) (fun hf=>?_)
 case refine_1=>cases ht
 refine wp_skip ?_
 refine then_norm ?_
 refine a_region TTE h hm [1,3] [eS 19 _,eS 20 (.val (Value.slice (cutA (zs) (cs) 0) (32) (cs))),eS 21 _,eS 22 (.val (Value.slice (cutA (zs) (cs) 32) (32) (cs-32))),eS 7 _,eS 8 _] (by kernel_rfl) ⟨rfl,fun L u=>u_partH u (gd0 rfl) 20 rfl 24 (.tmp 19) (.const (.int .i64 32)) rfl rfl rfl (Value.slice (cutA (zs) (cs) 0) (32) (cs)) (fun w=>run_toS (m:=32) (by omega) w),rfl,fun L u=>u_partT u (gd0 rfl) 22 rfl 24 (.tmp 21) (.const (.int .i64 32)) rfl rfl rfl (Value.slice (cutA (zs) (cs) 32) (32) (cs-32)) (fun w=>run_fromS (k:=32) (by omega) w),rfl,rfl,T0⟩ [(0,_),(1,_),(7,.val (Value.slice (cutA (zs) (cs) 0) (32) (cs))),(8,.val (Value.slice (cutA (zs) (cs) 32) (32) (cs-32)))] [] ⟨rfl,rfl,rfl,rfl,T0⟩ T0 rfl (fun a w h=>?_)
 refine a_region TTE h hm [1] [eS 24 _,eS 25 (.val (.tuple [Value.agg (pcE (R)).toArray,Value.bool false].toArray)),eS 23 _,eS 26 _,eS 27 _,eN 9 _,eM 9 _,eS 10 _] (by kernel_rfl) ⟨rfl,fun L u=>u_call u (gd0 rfl) _ rfl _ _ _ rfl [_] rfl (cZ23 _) (.tuple [.agg (pcE (R)).toArray,Value.bool false].toArray) (fun w hb=>by have q:=e_Dec (c:=cs) (hT.keep (Bs.kp_of hb)) (hx.keep (Bs.kp_of hb)) ((hbs.keep (Bs.kp_of hb)).cut cs 0 32 (by omega) hcs) (by omega) hU;rw [hR,hRp] at q;exact q),rfl,rfl,rfl,rfl,rfl,rfl,T0⟩ [(0,_),(1,_),(7,_),(8,_),(9,.ptr 9 0),(10,.val (Value.bool false))] [(9,pcE (R))] ⟨rfl,rfl,rfl,rfl,rfl,rfl,T0⟩ ⟨rfl,T0⟩ rfl (fun a w h=>?_)
 refine a_region TTE h hm [1] [eS 29 _,eS 30 (.val (.tuple [Value.agg (pcE (A)).toArray,Value.bool false].toArray)),eS 28 _,eS 31 _,eS 32 _,eN 11 _,eM 11 _,eS 12 _] (by kernel_rfl) ⟨rfl,fun L u=>u_call u (gd0 rfl) _ rfl _ _ _ rfl [_] rfl (cZ23 _) (.tuple [.agg (pcE (A)).toArray,Value.bool false].toArray) (fun w hb=>by have q:=decP (c:=cp) (hT.keep (Bs.kp_of hb)) (hx.keep (Bs.kp_of hb)) (hbp.keep (Bs.kp_of hb)) hcp;rw [hA,hAp] at q;exact q),rfl,rfl,rfl,rfl,rfl,rfl,T0⟩ [(0,_),(1,_),(7,_),(8,_),(9,_),(10,_),(11,.ptr 11 0),(12,.val (Value.bool false))] [(9,_),(11,pcE (A))] ⟨rfl,rfl,rfl,rfl,rfl,rfl,rfl,rfl,T0⟩ ⟨rfl,rfl,T0⟩ rfl (fun a w h=>?_)
 refine a_region TTE h hm [1] [eS 34 _,eS 35 (.val (.tuple [Value.agg (nc (((V:Nat):Int))).toArray,Value.bool true].toArray)),eS 33 _,eS 36 _,eS 37 _,eN 13 _,eM 13 _,eS 14 _] (by kernel_rfl) ⟨rfl,fun L u=>u_call u (gd0 rfl) _ rfl _ _ _ rfl [_] rfl (cZ24 _) _ (fun w hb=>litBA ((hbs.keep (Bs.kp_of hb)).cut cs 32 32 (by omega) hcs) hV),rfl,rfl,rfl,rfl,rfl,rfl,T0⟩ [(0,_),(1,_),(7,_),(9,_),(10,_),(11,_),(12,_),(13,.ptr 13 0)] [(9,_),(11,_),(13,nc (((V:Nat):Int)))] ⟨rfl,rfl,rfl,rfl,rfl,rfl,rfl,rfl,T0⟩ ⟨rfl,rfl,rfl,T0⟩ rfl (fun a w h=>?_)
 refine wp_seq ?_
 refine a_region TTE h hm [] [eS 38 _,eS 39 _,eS 40 _,eS 41 _,eS 42 _,eS 43 _,eS 44 _,eS 45 _,eS 46 _,eS 47 _,eS 48 _] (by kernel_rfl) ⟨rfl,rfl,rfl,rfl,rfl,rfl,rfl,rfl,rfl,rfl,rfl,T0⟩ [(0,_),(1,_),(7,_),(9,_),(11,_),(13,_),(48,.val (Value.bool true))] [(9,_),(11,_),(13,_)] ⟨rfl,rfl,rfl,rfl,rfl,rfl,rfl,T0⟩ ⟨rfl,rfl,rfl,T0⟩ rfl (fun a w h=>?_)
 refine go_cond h true rfl (fun ht=>?_) (fun hf=>?_)
 case refine_2=>cases hf
 refine a_region TTE h hm [] [eS 6 _] (by kernel_rfl) ⟨rfl,T0⟩ [(6,.val (Value.bool false))] [] ⟨rfl,T0⟩ T0 rfl (fun a w h=>?_)
 refine wp_ret ?_
 refine then_ret ?_
 refine ret_slot h 6 rfl (lk rfl) (Value.bool false) rfl ?_
 exact ⟨rfl,h.grows⟩
theorem pV_a {w:World} (hT:Tab w) (hx:TabX w) (_hH:Sx.Tab w) {np cp nm cm cs:Nat} {zp zm zs:Option Addr} {fp fm fs:Nat→Nat} (hbp:BA w zp np fp) (hcp:np≤cp) (_hmp:cp≤maxLen) (_hbm:BA w zm nm fm) (_hcm:nm≤cm) (_hmm:cm≤maxLen) (hbs:BA w zs 64 fs) (hcs:64≤cs) (_hms:cs≤maxLen) (_hl:np+nm≤90000) {U V:Nat} (hU:LN (fun i=>fs (0+i)) U) (hV:LN (fun i=>fs (32+i)) V) {R A:Ep m2} {K:Nat} (hRp:dpt U=R) (hAp:aPt (fl fp np)=A) (_hKK:scl (fl (fun i=>fs (0+i)) 32++(fl fp np++fl fm nm))=K) (_hRo:R.on ed) (_hAo:A.on ed) (_hKn:K<2 ^ 256) (hR:dok U=true) (hA:aOk (fl fp np)=false):Calls Tryd.prog 9 [Value.slice (zp) (np) (cp),Value.slice (zm) (nm) (cm),Value.slice (zs) (64) (cs)].toArray w fun e w'=>e=.returned (.bool false)∧Below w.heap.size w w':=by
 refine enter (args:=[Value.slice (zp) (np) (cp),Value.slice (zm) (nm) (cm),Value.slice (zs) (64) (cs)]) Tryd.func9 rfl 63 rfl (lk rfl) (fun a h=>?_)
 refine a_region TTE h hm [] [eS 6 _] (by kernel_rfl) ⟨rfl,T0⟩ [(0,.val (Value.slice (zp) (np) (cp))),(1,.val (Value.slice (zm) (nm) (cm))),(2,.val (Value.slice (zs) (64) (cs)))] [] ⟨rfl,rfl,rfl,T0⟩ T0 rfl (fun a w h=>?_)
 refine wp_seq ?_
 refine a_region TTE h hm [1,2] [eS 16 _,eS 17 (.val (Value.int .i64 ((64:Nat):Int))),eS 18 (.val (Value.bool false))] (by kernel_rfl) ⟨rfl,fun L u=>u_lenV u (gd0 rfl) 17 rfl (.tmp 16) 24 rfl rfl Tryd.underlying24,fun L u=>u_bin u (gd0 rfl) _ rfl _ _ _ _ _ rfl rfl rfl (eqg_int _ _ _ _ _ _ _ _) _ (no_of (fun w=>i_neq _ _ _ _ w) (by omega)),T0⟩ [(0,_),(1,_),(2,_),(18,.val (Value.bool false))] [] ⟨rfl,rfl,rfl,rfl,T0⟩ T0 rfl (fun a w h=>?_)
 refine go_cond h false rfl (fun ht=>?_) (fun hf=>?_)
 case refine_1=>cases ht
 refine wp_skip ?_
 refine then_norm ?_
 refine a_region TTE h hm [1,3] [eS 19 _,eS 20 (.val (Value.slice (cutA (zs) (cs) 0) (32) (cs))),eS 21 _,eS 22 (.val (Value.slice (cutA (zs) (cs) 32) (32) (cs-32))),eS 7 _,eS 8 _] (by kernel_rfl) ⟨rfl,fun L u=>u_partH u (gd0 rfl) 20 rfl 24 (.tmp 19) (.const (.int .i64 32)) rfl rfl rfl (Value.slice (cutA (zs) (cs) 0) (32) (cs)) (fun w=>run_toS (m:=32) (by omega) w),rfl,fun L u=>u_partT u (gd0 rfl) 22 rfl 24 (.tmp 21) (.const (.int .i64 32)) rfl rfl rfl (Value.slice (cutA (zs) (cs) 32) (32) (cs-32)) (fun w=>run_fromS (k:=32) (by omega) w),rfl,rfl,T0⟩ [(0,_),(1,_),(7,.val (Value.slice (cutA (zs) (cs) 0) (32) (cs))),(8,.val (Value.slice (cutA (zs) (cs) 32) (32) (cs-32)))] [] ⟨rfl,rfl,rfl,rfl,T0⟩ T0 rfl (fun a w h=>?_)
 refine a_region TTE h hm [1] [eS 24 _,eS 25 (.val (.tuple [Value.agg (pcE (R)).toArray,Value.bool true].toArray)),eS 23 _,eS 26 _,eS 27 _,eN 9 _,eM 9 _,eS 10 _] (by kernel_rfl) ⟨rfl,fun L u=>u_call u (gd0 rfl) _ rfl _ _ _ rfl [_] rfl (cZ23 _) (.tuple [.agg (pcE (R)).toArray,Value.bool true].toArray) (fun w hb=>by have q:=e_Dec (c:=cs) (hT.keep (Bs.kp_of hb)) (hx.keep (Bs.kp_of hb)) ((hbs.keep (Bs.kp_of hb)).cut cs 0 32 (by omega) hcs) (by omega) hU;rw [hR,hRp] at q;exact q),rfl,rfl,rfl,rfl,rfl,rfl,T0⟩ [(0,_),(1,_),(7,_),(8,_),(9,.ptr 9 0),(10,.val (Value.bool true))] [(9,pcE (R))] ⟨rfl,rfl,rfl,rfl,rfl,rfl,T0⟩ ⟨rfl,T0⟩ rfl (fun a w h=>?_)
 refine a_region TTE h hm [1] [eS 29 _,eS 30 (.val (.tuple [Value.agg (pcE (A)).toArray,Value.bool false].toArray)),eS 28 _,eS 31 _,eS 32 _,eN 11 _,eM 11 _,eS 12 _] (by kernel_rfl) ⟨rfl,fun L u=>u_call u (gd0 rfl) _ rfl _ _ _ rfl [_] rfl (cZ23 _) (.tuple [.agg (pcE (A)).toArray,Value.bool false].toArray) (fun w hb=>by have q:=decP (c:=cp) (hT.keep (Bs.kp_of hb)) (hx.keep (Bs.kp_of hb)) (hbp.keep (Bs.kp_of hb)) hcp;rw [hA,hAp] at q;exact q),rfl,rfl,rfl,rfl,rfl,rfl,T0⟩ [(0,_),(1,_),(7,_),(8,_),(9,_),(10,_),(11,.ptr 11 0),(12,.val (Value.bool false))] [(9,_),(11,pcE (A))] ⟨rfl,rfl,rfl,rfl,rfl,rfl,rfl,rfl,T0⟩ ⟨rfl,rfl,T0⟩ rfl (fun a w h=>?_)
 refine a_region TTE h hm [1] [eS 34 _,eS 35 (.val (.tuple [Value.agg (nc (((V:Nat):Int))).toArray,Value.bool true].toArray)),eS 33 _,eS 36 _,eS 37 _,eN 13 _,eM 13 _,eS 14 _] (by kernel_rfl) ⟨rfl,fun L u=>u_call u (gd0 rfl) _ rfl _ _ _ rfl [_] rfl (cZ24 _) _ (fun w hb=>litBA ((hbs.keep (Bs.kp_of hb)).cut cs 32 32 (by omega) hcs) hV),rfl,rfl,rfl,rfl,rfl,rfl,T0⟩ [(0,_),(1,_),(7,_),(9,_),(10,_),(11,_),(12,_),(13,.ptr 13 0)] [(9,_),(11,_),(13,nc (((V:Nat):Int)))] ⟨rfl,rfl,rfl,rfl,rfl,rfl,rfl,rfl,T0⟩ ⟨rfl,rfl,rfl,T0⟩ rfl (fun a w h=>?_)
 refine wp_seq ?_
 refine a_region TTE h hm [] [eS 38 _,eS 39 _,eS 40 _,eS 41 _,eS 42 _,eS 43 _,eS 44 _,eS 45 _,eS 46 _,eS 47 _,eS 48 _] (by kernel_rfl) ⟨rfl,rfl,rfl,rfl,rfl,rfl,rfl,rfl,rfl,rfl,rfl,T0⟩ [(0,_),(1,_),(7,_),(9,_),(11,_),(13,_),(48,.val (Value.bool true))] [(9,_),(11,_),(13,_)] ⟨rfl,rfl,rfl,rfl,rfl,rfl,rfl,T0⟩ ⟨rfl,rfl,rfl,T0⟩ rfl (fun a w h=>?_)
 refine go_cond h true rfl (fun ht=>?_) (fun hf=>?_)
 case refine_2=>cases hf
 refine a_region TTE h hm [] [eS 6 _] (by kernel_rfl) ⟨rfl,T0⟩ [(6,.val (Value.bool false))] [] ⟨rfl,T0⟩ T0 rfl (fun a w h=>?_)
 refine wp_ret ?_
 refine then_ret ?_
 refine ret_slot h 6 rfl (lk rfl) (Value.bool false) rfl ?_
 exact ⟨rfl,h.grows⟩
theorem pV_s {w:World} (hT:Tab w) (hx:TabX w) (_hH:Sx.Tab w) {np cp nm cm cs:Nat} {zp zm zs:Option Addr} {fp fm fs:Nat→Nat} (hbp:BA w zp np fp) (hcp:np≤cp) (_hmp:cp≤maxLen) (_hbm:BA w zm nm fm) (_hcm:nm≤cm) (_hmm:cm≤maxLen) (hbs:BA w zs 64 fs) (hcs:64≤cs) (_hms:cs≤maxLen) (_hl:np+nm≤90000) {U V:Nat} (hU:LN (fun i=>fs (0+i)) U) (hV:LN (fun i=>fs (32+i)) V) {R A:Ep m2} {K:Nat} (hRp:dpt U=R) (hAp:aPt (fl fp np)=A) (_hKK:scl (fl (fun i=>fs (0+i)) 32++(fl fp np++fl fm nm))=K) (_hRo:R.on ed) (_hAo:A.on ed) (_hKn:K<2 ^ 256) (hR:dok U=true) (hA:aOk (fl fp np)=true) (hB:decide ((V:Int)<md 3)=false):Calls Tryd.prog 9 [Value.slice (zp) (np) (cp),Value.slice (zm) (nm) (cm),Value.slice (zs) (64) (cs)].toArray w fun e w'=>e=.returned (.bool false)∧Below w.heap.size w w':=by
 refine enter (args:=[Value.slice (zp) (np) (cp),Value.slice (zm) (nm) (cm),Value.slice (zs) (64) (cs)]) Tryd.func9 rfl 63 rfl (lk rfl) (fun a h=>?_)
 refine a_region TTE h hm [] [eS 6 _] (by kernel_rfl) ⟨rfl,T0⟩ [(0,.val (Value.slice (zp) (np) (cp))),(1,.val (Value.slice (zm) (nm) (cm))),(2,.val (Value.slice (zs) (64) (cs)))] [] ⟨rfl,rfl,rfl,T0⟩ T0 rfl (fun a w h=>?_)
 refine wp_seq ?_
 refine a_region TTE h hm [1,2] [eS 16 _,eS 17 (.val (Value.int .i64 ((64:Nat):Int))),eS 18 (.val (Value.bool false))] (by kernel_rfl) ⟨rfl,fun L u=>u_lenV u (gd0 rfl) 17 rfl (.tmp 16) 24 rfl rfl Tryd.underlying24,fun L u=>u_bin u (gd0 rfl) _ rfl _ _ _ _ _ rfl rfl rfl (eqg_int _ _ _ _ _ _ _ _) _ (no_of (fun w=>i_neq _ _ _ _ w) (by omega)),T0⟩ [(0,_),(1,_),(2,_),(18,.val (Value.bool false))] [] ⟨rfl,rfl,rfl,rfl,T0⟩ T0 rfl (fun a w h=>?_)
 refine go_cond h false rfl (fun ht=>?_) (fun hf=>?_)
 case refine_1=>cases ht
 refine wp_skip ?_
 refine then_norm ?_
 refine a_region TTE h hm [1,3] [eS 19 _,eS 20 (.val (Value.slice (cutA (zs) (cs) 0) (32) (cs))),eS 21 _,eS 22 (.val (Value.slice (cutA (zs) (cs) 32) (32) (cs-32))),eS 7 _,eS 8 _] (by kernel_rfl) ⟨rfl,fun L u=>u_partH u (gd0 rfl) 20 rfl 24 (.tmp 19) (.const (.int .i64 32)) rfl rfl rfl (Value.slice (cutA (zs) (cs) 0) (32) (cs)) (fun w=>run_toS (m:=32) (by omega) w),rfl,fun L u=>u_partT u (gd0 rfl) 22 rfl 24 (.tmp 21) (.const (.int .i64 32)) rfl rfl rfl (Value.slice (cutA (zs) (cs) 32) (32) (cs-32)) (fun w=>run_fromS (k:=32) (by omega) w),rfl,rfl,T0⟩ [(0,_),(1,_),(7,.val (Value.slice (cutA (zs) (cs) 0) (32) (cs))),(8,.val (Value.slice (cutA (zs) (cs) 32) (32) (cs-32)))] [] ⟨rfl,rfl,rfl,rfl,T0⟩ T0 rfl (fun a w h=>?_)
 refine a_region TTE h hm [1] [eS 24 _,eS 25 (.val (.tuple [Value.agg (pcE (R)).toArray,Value.bool true].toArray)),eS 23 _,eS 26 _,eS 27 _,eN 9 _,eM 9 _,eS 10 _] (by kernel_rfl) ⟨rfl,fun L u=>u_call u (gd0 rfl) _ rfl _ _ _ rfl [_] rfl (cZ23 _) (.tuple [.agg (pcE (R)).toArray,Value.bool true].toArray) (fun w hb=>by have q:=e_Dec (c:=cs) (hT.keep (Bs.kp_of hb)) (hx.keep (Bs.kp_of hb)) ((hbs.keep (Bs.kp_of hb)).cut cs 0 32 (by omega) hcs) (by omega) hU;rw [hR,hRp] at q;exact q),rfl,rfl,rfl,rfl,rfl,rfl,T0⟩ [(0,_),(1,_),(7,_),(8,_),(9,.ptr 9 0),(10,.val (Value.bool true))] [(9,pcE (R))] ⟨rfl,rfl,rfl,rfl,rfl,rfl,T0⟩ ⟨rfl,T0⟩ rfl (fun a w h=>?_)
 refine a_region TTE h hm [1] [eS 29 _,eS 30 (.val (.tuple [Value.agg (pcE (A)).toArray,Value.bool true].toArray)),eS 28 _,eS 31 _,eS 32 _,eN 11 _,eM 11 _,eS 12 _] (by kernel_rfl) ⟨rfl,fun L u=>u_call u (gd0 rfl) _ rfl _ _ _ rfl [_] rfl (cZ23 _) (.tuple [.agg (pcE (A)).toArray,Value.bool true].toArray) (fun w hb=>by have q:=decP (c:=cp) (hT.keep (Bs.kp_of hb)) (hx.keep (Bs.kp_of hb)) (hbp.keep (Bs.kp_of hb)) hcp;rw [hA,hAp] at q;exact q),rfl,rfl,rfl,rfl,rfl,rfl,T0⟩ [(0,_),(1,_),(7,_),(8,_),(9,_),(10,_),(11,.ptr 11 0),(12,.val (Value.bool true))] [(9,_),(11,pcE (A))] ⟨rfl,rfl,rfl,rfl,rfl,rfl,rfl,rfl,T0⟩ ⟨rfl,rfl,T0⟩ rfl (fun a w h=>?_)
 refine a_region TTE h hm [1] [eS 34 _,eS 35 (.val (.tuple [Value.agg (nc (((V:Nat):Int))).toArray,Value.bool true].toArray)),eS 33 _,eS 36 _,eS 37 _,eN 13 _,eM 13 _,eS 14 _] (by kernel_rfl) ⟨rfl,fun L u=>u_call u (gd0 rfl) _ rfl _ _ _ rfl [_] rfl (cZ24 _) _ (fun w hb=>litBA ((hbs.keep (Bs.kp_of hb)).cut cs 32 32 (by omega) hcs) hV),rfl,rfl,rfl,rfl,rfl,rfl,T0⟩ [(0,_),(1,_),(7,_),(9,_),(10,_),(11,_),(12,_),(13,.ptr 13 0)] [(9,_),(11,_),(13,nc (((V:Nat):Int)))] ⟨rfl,rfl,rfl,rfl,rfl,rfl,rfl,rfl,T0⟩ ⟨rfl,rfl,rfl,T0⟩ rfl (fun a w h=>?_)
 refine wp_seq ?_
 refine a_region TTE h hm [8] [eS 38 _,eS 39 _,eS 40 _,eS 41 _,eS 42 _,eS 43 _,eS 44 _,eS 45 _,eS 46 (.val (Value.bool false)),eS 47 _,eS 48 _] (by kernel_rfl) ⟨rfl,rfl,rfl,rfl,rfl,rfl,rfl,rfl,fun L u=>u_call u (gd1 u 6 false rfl 44 rfl (lk rfl) rfl) _ rfl _ _ _ rfl [_,_] rfl (cZ25 _) (Value.bool false) (fun w hb=>by have q:=belN (hT.keep (Bs.kp_of hb)) hV.lt;rw [hB] at q;exact q),rfl,rfl,T0⟩ [(0,_),(1,_),(7,_),(9,_),(11,_),(13,_),(48,.val (Value.bool true))] [(9,_),(11,_),(13,_)] ⟨rfl,rfl,rfl,rfl,rfl,rfl,rfl,T0⟩ ⟨rfl,rfl,rfl,T0⟩ rfl (fun a w h=>?_)
 refine go_cond h true rfl (fun ht=>?_) (fun hf=>?_)
 case refine_2=>cases hf
 refine a_region TTE h hm [] [eS 6 _] (by kernel_rfl) ⟨rfl,T0⟩ [(6,.val (Value.bool false))] [] ⟨rfl,T0⟩ T0 rfl (fun a w h=>?_)
 refine wp_ret ?_
 refine then_ret ?_
 refine ret_slot h 6 rfl (lk rfl) (Value.bool false) rfl ?_
 exact ⟨rfl,h.grows⟩
theorem pV_ok {w:World} (hT:Tab w) (hx:TabX w) (hH:Sx.Tab w) {np cp nm cm cs:Nat} {zp zm zs:Option Addr} {fp fm fs:Nat→Nat} (hbp:BA w zp np fp) (hcp:np≤cp) (hmp:cp≤maxLen) (hbm:BA w zm nm fm) (hcm:nm≤cm) (hmm:cm≤maxLen) (hbs:BA w zs 64 fs) (hcs:64≤cs) (hms:cs≤maxLen) (_hl:np+nm≤90000) {U V:Nat} (hU:LN (fun i=>fs (0+i)) U) (hV:LN (fun i=>fs (32+i)) V) {R A:Ep m2} {K:Nat} (hRp:dpt U=R) (hAp:aPt (fl fp np)=A) (hKK:scl (fl (fun i=>fs (0+i)) 32++(fl fp np++fl fm nm))=K) (hRo:R.on ed) (hAo:A.on ed) (hKn:K<2 ^ 256) (hR:dok U=true) (hA:aOk (fl fp np)=true) (hB:decide ((V:Int)<md 3)=true):Calls Tryd.prog 9 [Value.slice (zp) (np) (cp),Value.slice (zm) (nm) (cm),Value.slice (zs) (64) (cs)].toArray w fun e w'=>e=.returned (.bool (eqE (mt eadd (Ep.o m2) eG (V)) (eadd R (mt eadd (Ep.o m2) A (K)))))∧Below w.heap.size w w':=by
 refine enter (args:=[Value.slice (zp) (np) (cp),Value.slice (zm) (nm) (cm),Value.slice (zs) (64) (cs)]) Tryd.func9 rfl 63 rfl (lk rfl) (fun a h=>?_)
 refine a_region TTE h hm [] [eS 6 _] (by kernel_rfl) ⟨rfl,T0⟩ [(0,.val (Value.slice (zp) (np) (cp))),(1,.val (Value.slice (zm) (nm) (cm))),(2,.val (Value.slice (zs) (64) (cs)))] [] ⟨rfl,rfl,rfl,T0⟩ T0 rfl (fun a w h=>?_)
 refine wp_seq ?_
 refine a_region TTE h hm [1,2] [eS 16 _,eS 17 (.val (Value.int .i64 ((64:Nat):Int))),eS 18 (.val (Value.bool false))] (by kernel_rfl) ⟨rfl,fun L u=>u_lenV u (gd0 rfl) 17 rfl (.tmp 16) 24 rfl rfl Tryd.underlying24,fun L u=>u_bin u (gd0 rfl) _ rfl _ _ _ _ _ rfl rfl rfl (eqg_int _ _ _ _ _ _ _ _) _ (no_of (fun w=>i_neq _ _ _ _ w) (by omega)),T0⟩ [(0,_),(1,_),(2,_),(18,.val (Value.bool false))] [] ⟨rfl,rfl,rfl,rfl,T0⟩ T0 rfl (fun a w h=>?_)
 refine go_cond h false rfl (fun ht=>?_) (fun hf=>?_)
 case refine_1=>cases ht
 refine wp_skip ?_
 refine then_norm ?_
 refine a_region TTE h hm [1,3] [eS 19 _,eS 20 (.val (Value.slice (cutA (zs) (cs) 0) (32) (cs))),eS 21 _,eS 22 (.val (Value.slice (cutA (zs) (cs) 32) (32) (cs-32))),eS 7 _,eS 8 _] (by kernel_rfl) ⟨rfl,fun L u=>u_partH u (gd0 rfl) 20 rfl 24 (.tmp 19) (.const (.int .i64 32)) rfl rfl rfl (Value.slice (cutA (zs) (cs) 0) (32) (cs)) (fun w=>run_toS (m:=32) (by omega) w),rfl,fun L u=>u_partT u (gd0 rfl) 22 rfl 24 (.tmp 21) (.const (.int .i64 32)) rfl rfl rfl (Value.slice (cutA (zs) (cs) 32) (32) (cs-32)) (fun w=>run_fromS (k:=32) (by omega) w),rfl,rfl,T0⟩ [(0,_),(1,_),(7,.val (Value.slice (cutA (zs) (cs) 0) (32) (cs))),(8,.val (Value.slice (cutA (zs) (cs) 32) (32) (cs-32)))] [] ⟨rfl,rfl,rfl,rfl,T0⟩ T0 rfl (fun a w h=>?_)
 refine a_region TTE h hm [1] [eS 24 _,eS 25 (.val (.tuple [Value.agg (pcE (R)).toArray,Value.bool true].toArray)),eS 23 _,eS 26 _,eS 27 _,eN 9 _,eM 9 _,eS 10 _] (by kernel_rfl) ⟨rfl,fun L u=>u_call u (gd0 rfl) _ rfl _ _ _ rfl [_] rfl (cZ23 _) (.tuple [.agg (pcE (R)).toArray,Value.bool true].toArray) (fun w hb=>by have q:=e_Dec (c:=cs) (hT.keep (Bs.kp_of hb)) (hx.keep (Bs.kp_of hb)) ((hbs.keep (Bs.kp_of hb)).cut cs 0 32 (by omega) hcs) (by omega) hU;rw [hR,hRp] at q;exact q),rfl,rfl,rfl,rfl,rfl,rfl,T0⟩ [(0,_),(1,_),(7,_),(8,_),(9,.ptr 9 0),(10,.val (Value.bool true))] [(9,pcE (R))] ⟨rfl,rfl,rfl,rfl,rfl,rfl,T0⟩ ⟨rfl,T0⟩ rfl (fun a w h=>?_)
 refine a_region TTE h hm [1] [eS 29 _,eS 30 (.val (.tuple [Value.agg (pcE (A)).toArray,Value.bool true].toArray)),eS 28 _,eS 31 _,eS 32 _,eN 11 _,eM 11 _,eS 12 _] (by kernel_rfl) ⟨rfl,fun L u=>u_call u (gd0 rfl) _ rfl _ _ _ rfl [_] rfl (cZ23 _) (.tuple [.agg (pcE (A)).toArray,Value.bool true].toArray) (fun w hb=>by have q:=decP (c:=cp) (hT.keep (Bs.kp_of hb)) (hx.keep (Bs.kp_of hb)) (hbp.keep (Bs.kp_of hb)) hcp;rw [hA,hAp] at q;exact q),rfl,rfl,rfl,rfl,rfl,rfl,T0⟩ [(0,_),(1,_),(7,_),(8,_),(9,_),(10,_),(11,.ptr 11 0),(12,.val (Value.bool true))] [(9,_),(11,pcE (A))] ⟨rfl,rfl,rfl,rfl,rfl,rfl,rfl,rfl,T0⟩ ⟨rfl,rfl,T0⟩ rfl (fun a w h=>?_)
 refine a_region TTE h hm [1] [eS 34 _,eS 35 (.val (.tuple [Value.agg (nc (((V:Nat):Int))).toArray,Value.bool true].toArray)),eS 33 _,eS 36 _,eS 37 _,eN 13 _,eM 13 _,eS 14 _] (by kernel_rfl) ⟨rfl,fun L u=>u_call u (gd0 rfl) _ rfl _ _ _ rfl [_] rfl (cZ24 _) _ (fun w hb=>litBA ((hbs.keep (Bs.kp_of hb)).cut cs 32 32 (by omega) hcs) hV),rfl,rfl,rfl,rfl,rfl,rfl,T0⟩ [(0,_),(1,_),(7,_),(9,_),(10,_),(11,_),(12,_),(13,.ptr 13 0)] [(9,_),(11,_),(13,nc (((V:Nat):Int)))] ⟨rfl,rfl,rfl,rfl,rfl,rfl,rfl,rfl,T0⟩ ⟨rfl,rfl,rfl,T0⟩ rfl (fun a w h=>?_)
 refine wp_seq ?_
 refine a_region TTE h hm [8] [eS 38 _,eS 39 _,eS 40 _,eS 41 _,eS 42 _,eS 43 _,eS 44 _,eS 45 _,eS 46 (.val (Value.bool true)),eS 47 _,eS 48 _] (by kernel_rfl) ⟨rfl,rfl,rfl,rfl,rfl,rfl,rfl,rfl,fun L u=>u_call u (gd1 u 6 false rfl 44 rfl (lk rfl) rfl) _ rfl _ _ _ rfl [_,_] rfl (cZ25 _) (Value.bool true) (fun w hb=>by have q:=belN (hT.keep (Bs.kp_of hb)) hV.lt;rw [hB] at q;exact q),rfl,rfl,T0⟩ [(0,_),(1,_),(7,_),(9,_),(11,_),(13,_),(48,.val (Value.bool false))] [(9,_),(11,_),(13,_)] ⟨rfl,rfl,rfl,rfl,rfl,rfl,rfl,T0⟩ ⟨rfl,rfl,rfl,T0⟩ rfl (fun a w h=>?_)
 refine go_cond h false rfl (fun ht=>?_) (fun hf=>?_)
 case refine_1=>cases ht
 refine wp_skip ?_
 refine then_norm ?_
 refine wp_seq ?_
 refine sq_begin [0,1,2,3,4,5,6] rfl ?_
 refine sq_step h (i:=0) rfl (u_move (xs:=[]) (up_seq (i:=0) (by kernel_rfl) rfl) (gd0 rfl) 49 rfl (.tmp 7) (Or.inl rfl) rfl) (fun a w h=>?_)
 refine sq_step h (i:=1) rfl (u_move (xs:=[]) (up_seq (i:=1) (by kernel_rfl) rfl) (gd0 rfl) 50 rfl (.tmp 0) (Or.inl rfl) rfl) (fun a w h=>?_)
 refine sq_step h (i:=2) rfl (u_move (xs:=[]) (up_seq (i:=2) (by kernel_rfl) rfl) (gd0 rfl) 51 rfl (.tmp 1) (Or.inl rfl) rfl) (fun a w h=>?_)
 refine sq_lc h (i:=3) (j:=4) rfl rfl 52 rfl (lk rfl) 3 #[(0,(.tmp 49)),(1,(.tmp 50)),(2,(.tmp 51))] rfl (by decide) (by decide) rfl rfl 53 rfl 18 #[61] rfl (fun vs w=>callFunc_enter Tryd.func18 (by kernel_rfl) (by kernel_rfl) vs w) [.val (Value.slice (cutA (zs) (cs) 0) (32) (cs)),.val (Value.slice (zp) (np) (cp)),.val (Value.slice (zm) (nm) (cm))] rfl rfl (.agg (nc (((K:Nat):Int))).toArray) (fun β hr=>by rw [← hKK];exact lcNum (ls:=[fl (fun i=>fs (0+i)) 32,fl fp np,fl fm nm]) (l:=fl (fun i=>fs (0+i)) 32++(fl fp np++fl fm nm)) hT hH (Bs.kp_of hr.bl) ⟨pt_ba ((hbs.keep (Bs.kp_of hr.bl)).cut cs 0 32 (by omega) hcs) (by omega) hms,pt_ba (hbp.keep (Bs.kp_of hr.bl)) hcp hmp,pt_ba (hbm.keep (Bs.kp_of hr.bl)) hcm hmm,T0⟩ rfl (by decide) (by simp) (by rw [List.length_append,List.length_append,fl_len,fl_len,fl_len];omega)) fill3 (fun a w h=>?_)
 replace h:=h.keep [(9,.ptr 9 0),(11,.ptr 11 0),(13,.ptr 13 0),(53,.val (.agg (nc (((K:Nat):Int))).toArray))] [(9,pcE (R)),(11,pcE (A)),(13,nc (((V:Nat):Int)))] ⟨rfl,rfl,rfl,rfl,trivial⟩ ⟨rfl,rfl,rfl,trivial⟩ rfl
 refine sq_step h (i:=5) rfl (u_alloc (xs:=[]) (up_seq (i:=5) (by kernel_rfl) rfl) (gd0 rfl) 33 rfl 15 rfl rfl z33Z _ rfl) (fun a w h=>?_)
 refine sq_step h (i:=6) rfl (u_store (xs:=[]) (up_seq (i:=6) (by kernel_rfl) rfl) (gd0 rfl) 33 (.tmp 15) (.tmp 53) rfl rfl rfl (vs:=nc (((K:Nat):Int))) rfl rfl i33Z (lk rfl) rfl _ rfl) (fun a w h=>?_)
 replace h:=h.keep [(9,.ptr 9 0),(11,.ptr 11 0),(13,.ptr 13 0),(15,.ptr 15 0)] [(9,pcE (R)),(11,pcE (A)),(13,nc (((V:Nat):Int))),(15,nc (((K:Nat):Int)))] ⟨rfl,rfl,rfl,rfl,trivial⟩ ⟨rfl,rfl,rfl,rfl,trivial⟩ rfl
 refine sq_end ?_
 refine then_norm ?_
 refine a_region TTE h hm [1,2,6,7,8] [eS 54 _,eS 55 (.val (.agg (pcE (eG)).toArray)),eS 56 (.val (.agg (pcE (mt eadd (Ep.o m2) eG (V))).toArray)),eS 57 _,eS 58 _,eS 59 _,eS 60 (.val (.agg (pcE (mt eadd (Ep.o m2) A (K))).toArray)),eS 61 (.val (.agg (pcE (eadd R (mt eadd (Ep.o m2) A (K)))).toArray)),eS 62 (.val (Value.bool (eqE (mt eadd (Ep.o m2) eG (V)) (eadd R (mt eadd (Ep.o m2) A (K)))))),eS 6 _] (by kernel_rfl) ⟨rfl,fun L u=>u_call u (gd0 rfl) _ rfl _ _ _ rfl [] rfl (cZ27 _) _ (fun w hb=>e_Base),fun L u=>u_call u (gd0 rfl) _ rfl _ _ _ rfl [_,_] rfl (cZ26 _) _ (fun w hb=>mulN (hT.keep (Bs.kp_of hb)) hV.lt eG_on),rfl,rfl,rfl,fun L u=>u_call u (gd0 rfl) _ rfl _ _ _ rfl [_,_] rfl (cZ26 _) _ (fun w hb=>mulN (hT.keep (Bs.kp_of hb)) hKn hAo),fun L u=>u_call u (gd0 rfl) _ rfl _ _ _ rfl [_,_] rfl (cZ28 _) _ (fun w hb=>addN (hT.keep (Bs.kp_of hb)) hRo (mt_on egr hAo _)),fun L u=>u_eql u (gd0 rfl) 62 rfl 40 40 (.tmp 56) (.tmp 61) rfl rfl rfl Tryd.eqGuardType40 (eqE (mt eadd (Ep.o m2) eG (V)) (eadd R (mt eadd (Ep.o m2) A (K)))) (fun w=>eqE_run _ _ w),rfl,T0⟩ [(6,.val (Value.bool (eqE (mt eadd (Ep.o m2) eG (V)) (eadd R (mt eadd (Ep.o m2) A (K))))))] [] ⟨rfl,T0⟩ T0 rfl (fun a w h=>?_)
 refine wp_ret ?_
 refine ret_slot h 6 rfl (lk rfl) (Value.bool (eqE (mt eadd (Ep.o m2) eG (V)) (eadd R (mt eadd (Ep.o m2) A (K))))) rfl ?_
 exact ⟨rfl,h.grows⟩
theorem pVer {w:World} (hT:Tab w) (hx:TabX w) (hH:Sx.Tab w) {vp vm vs:Value} {pl ml sl:List Nat} (hp:Pt w vp pl) (hq:Pt w vm ml) (hs:Pt w vs sl) (hl:pl.length+ml.length≤90000):Calls Tryd.prog 9 [vp,vm,vs].toArray w fun e w'=>e=.returned (.bool (vOk pl ml sl))∧Below w.heap.size w w':=by
 obtain ⟨zp,cp,rfl,hcp,hmp,hbp⟩:=hp
 obtain ⟨zm,cm,rfl,hcm,hmm,hbm⟩:=hq
 obtain ⟨zs,cs,rfl,hcs,hms,hbs⟩:=hs
 by_cases h64:sl.length=64
 ·rw [h64] at hbs hcs ⊢
  have hU:=ln_fl (f:=fun i=>(fun i=>sl.getD i 0) (0+i)) (fun i=>hbs.lt _)
  have hV:=ln_fl (f:=fun i=>(fun i=>sl.getD i 0) (32+i)) (fun i=>hbs.lt _)
  rw [fl_take h64] at hU
  rw [fl_drop h64] at hV
  have ep:fl (fun i=>pl.getD i 0) pl.length=pl:=fl_getD rfl
  have em:fl (fun i=>ml.getD i 0) ml.length=ml:=fl_getD rfl
  cases hR:dok (nle (sl.take 32)) with
  | false =>
   have ev:vOk pl ml sl=false:=by unfold vOk;rw [hR,Bool.false_and,Bool.and_false]
   rw [ev]
   cases hA:aOk pl with
   | false=>exact pV_ra hT hx hH hbp hcp hmp hbm hcm hmm hbs hcs hms hl hU hV rfl rfl rfl (dpt_on _) (aPt_on _) (scl_num _) hR (by rw [ep];exact hA)
   | true=>exact pV_r hT hx hH hbp hcp hmp hbm hcm hmm hbs hcs hms hl hU hV rfl rfl rfl (dpt_on _) (aPt_on _) (scl_num _) hR (by rw [ep];exact hA)
  | true =>
   cases hA:aOk pl with
   | false =>
    have ev:vOk pl ml sl=false:=by unfold vOk;rw [hA,Bool.false_and,Bool.and_false,Bool.and_false]
    rw [ev]
    exact pV_a hT hx hH hbp hcp hmp hbm hcm hmm hbs hcs hms hl hU hV rfl rfl rfl (dpt_on _) (aPt_on _) (scl_num _) hR (by rw [ep];exact hA)
   | true =>
    cases hB:decide (((nle (sl.drop 32):Nat):Int)<md 3) with
    | false =>
     have ev:vOk pl ml sl=false:=by unfold vOk;rw [hB,Bool.false_and,Bool.and_false,Bool.and_false,Bool.and_false]
     rw [ev]
     exact pV_s hT hx hH hbp hcp hmp hbm hcm hmm hbs hcs hms hl hU hV rfl rfl rfl (dpt_on _) (aPt_on _) (scl_num _) hR (by rw [ep];exact hA) hB
    | true =>
     have q:=pV_ok hT hx hH hbp hcp hmp hbm hcm hmm hbs hcs hms hl hU hV rfl rfl rfl (dpt_on _) (aPt_on _) (scl_num _) hR (by rw [ep];exact hA) hB
     rw [fl_take h64,ep,em] at q
     have ev:vOk pl ml sl=eqE (mt eadd (Ep.o m2) eG (nle (sl.drop 32))) (eadd (dpt (nle (sl.take 32))) (mt eadd (Ep.o m2) (aPt pl) (kK (sl.take 32) pl ml))):=by unfold vOk;rw [decide_eq_true h64,hR,hA,hB,Bool.true_and,Bool.true_and,Bool.true_and,Bool.true_and]
     rw [ev]
     exact q
 ·have ev:vOk pl ml sl=false:=by unfold vOk;rw [decide_eq_false h64,Bool.false_and]
  rw [ev]
  exact pV_len h64
end Go.Proofs.YtjaahnlpnkcimaaDoor
namespace Go.Proofs.YtjaahnlpnkcimaaDoor
set_option maxRecDepth 100000
open Go.RowKit
end Go.Proofs.YtjaahnlpnkcimaaDoor
namespace Go.Proofs.YtjaahnlpnkcimaaDoor
set_option maxRecDepth 100000
open Go.RowKit
def zrs:List Nat:=List.replicate 32 0
theorem zrs_lt:∀ x ∈ zrs,x<256:=fun x hx=>by
 rw [List.eq_of_mem_replicate hx]
 decide
theorem b_zrs:Tryd.prog.built 23 []=some (by32 (bz zrs)).toArray:=by kernel_rfl
theorem pt_row {w:World} {v:Value} {F:Nat→Bool} {n:Nat} {l:List Nat} (hl:∀ x ∈ l,x<256) (h:(rowPd 5 1 (n) (cells8 (l))).p v F w):Pt w v l:=pt_rm (rm_row hl h)
theorem cZ6 (vs:List Value):∀ w,(callFunc 6 vs.toArray).run Tryd.prog w=.ok (.enter 6 vs.toArray) w:=callFunc_enter Tryd.func6 (by kernel_rfl) (by kernel_rfl) _
theorem awk {w:World} (hT:Tab w) (hH:Sx.Tab w):Calls Tryd.prog 6 [].toArray w fun e w'=>e=.returned (.bool true)∧Below w.heap.size w w':=by
 refine enter (args:=[]) Tryd.func6 rfl 5 rfl (lk rfl) (fun a h=>?_)
 refine a_region TTE h hm [] [eS 0 _] (by kernel_rfl) ⟨rfl,T0⟩ [] [] T0 T0 rfl (fun a w h=>?_)
 refine a_region TTE h hm [0,1,2,3] [eS 1 (.val (.agg (by32 (bz zrs)).toArray)),eQ 2 (rowPd 5 1 (32+32) (cells8 (cbp (pR zrs (fl (fun _=>0) 0))++(nb (kS zrs (fl (fun _=>0) 0)))))),eS 3 (.val (Value.int .i64 ((32+32:Nat):Int))),eS 4 (.val (Value.bool true)),eS 0 _] (by kernel_rfl) ⟨fun L u=>u_build u (gd0 rfl) 1 rfl 23 #[] rfl [] rfl (by32 (bz zrs)) (b_zrs),fun L u=>u_callQ u (gd0 rfl) 2 rfl rfl 7 #[(.tmp 1),(.const (.slice none 0 0))] #[23,24] rfl [.val (.agg (by32 (bz zrs)).toArray),.val ((Value.slice none 0 0))] rfl (fun vs w=>callFunc_enter Tryd.func7 (by kernel_rfl) (by kernel_rfl) vs w) (rowPd 5 1 (32+32) (cells8 (cbp (pR zrs (fl (fun _=>0) 0))++(nb (kS zrs (fl (fun _=>0) 0)))))) (fun β a w hr=>qSign (sd:=zrs) (z:=none) (n:=0) (c:=0) (f:=fun _=>0) (hT.keep (Bs.kp_of hr.bl)) (hH.keep (Bs.kp_of hr.bl)) rfl zrs_lt ⟨fun _=>by decide,Or.inl rfl⟩ (Nat.le_refl _) (Nat.zero_le _) (Nat.zero_le _)),fun L u=>q_len u (gd0 rfl) 3 rfl (.tmp 2) rfl rfl rfl (vw_row (l:=cbp (pR zrs (fl (fun _=>0) 0))++(nb (kS zrs (fl (fun _=>0) 0)))) (lt_app (cbp_lt _) (nb_lt _))),fun L u=>u_bin u (gd0 rfl) _ rfl _ _ _ _ _ rfl rfl rfl (eqg_int _ _ _ _ _ _ _ _) _ (yes_of (fun w=>i_eql _ _ _ _ w) (by decide)),rfl,T0⟩ [(0,.val (Value.bool true))] [] ⟨rfl,T0⟩ T0 rfl (fun a w h=>?_)
 refine wp_ret ?_
 refine ret_slot h 0 rfl (lk rfl) (Value.bool true) rfl ?_
 exact ⟨rfl,h.grows⟩
end Go.Proofs.YtjaahnlpnkcimaaDoor
namespace Go.Proofs.YtjaahnlpnkcimaaDoor
set_option maxRecDepth 100000
open Go.RowKit
theorem nle_nb {A:Nat} (h:A<2 ^ 256):nle (nb A)=A:=(nle_ln (nb_lt A) (nb_len A)).one (nb_ln h)
theorem drop_app {l m:List Nat} (h:l.length=32):(l++m).drop 32=m:=by rw [← h];exact List.drop_left
theorem take_app {l m:List Nat} (h:l.length=32):(l++m).take 32=l:=by rw [← h];exact List.take_left
theorem md3_nat:md 3=((mod3:Nat):Int):=by decide +kernel
theorem v_len {pl ml sl:List Nat} (h:sl.length≠64):vOk pl ml sl=false:=by unfold vOk;rw [decide_eq_false h,Bool.false_and]
theorem v_key {pl ml sl:List Nat} (h:pl.length≠32):vOk pl ml sl=false:=by
 have e:aOk pl=false:=by unfold aOk;rw [decide_eq_false h,Bool.false_and]
 unfold vOk
 rw [e,Bool.false_and,Bool.and_false,Bool.and_false]
theorem v_above {pl ml r:List Nat} {X:Nat} (hr:r.length=32) (hX:X<2 ^ 256) (h:¬ ((X:Nat):Int)<md 3):vOk pl ml (r++nb X)=false:=by
 unfold vOk
 rw [drop_app hr,nle_nb hX,decide_eq_false h,Bool.false_and,Bool.and_false,Bool.and_false,Bool.and_false]
theorem pt_head {w:World} {v:Value} {l:List Nat} (h:Pt w v l) (k:Nat) (hk:k≤l.length):Pt w (headV k v) (l.take k):=by
 obtain ⟨z,c,rfl,h2,h3,h4⟩:=h
 have hl:(l.take k).length=k:=by rw [List.length_take];omega
 refine ⟨cutA z c 0,c,by rw [hl];rfl,by omega,h3,?_⟩
 rw [hl]
 refine (h4.cut c 0 k (by omega) h2).of (fun i=>?_) (fun i hi=>?_)
 ·rw [List.getD_eq_getElem?_getD,List.getElem?_take]
  split
  ·rw [← List.getD_eq_getElem?_getD];exact h4.lt i
  ·decide
 ·rw [Nat.zero_add,List.getD_eq_getElem?_getD,List.getD_eq_getElem?_getD,List.getElem?_take_of_lt hi]
theorem pt_tail {w:World} {v:Value} {l:List Nat} (h:Pt w v l) (k:Nat) (hk:k≤l.length):Pt w (tailV k v) (l.drop k):=by
 obtain ⟨z,c,rfl,h2,h3,h4⟩:=h
 have hl:(l.drop k).length=l.length-k:=List.length_drop
 refine ⟨cutA z c k,c-k,by rw [hl];rfl,by omega,by omega,?_⟩
 rw [hl]
 refine (h4.cut c k (l.length-k) (by omega) h2).of (fun i=>?_) (fun i hi=>?_)
 ·rw [List.getD_eq_getElem?_getD,List.getElem?_drop,← List.getD_eq_getElem?_getD]
  exact h4.lt (k+i)
 ·show l.getD (k+i) 0=_
  rw [List.getD_eq_getElem?_getD,List.getD_eq_getElem?_getD,List.getElem?_drop]
end Go.Proofs.YtjaahnlpnkcimaaDoor
namespace Go.Proofs.YtjaahnlpnkcimaaDoor
set_option maxRecDepth 100000
open Go.RowKit
attribute [local go_sem ↓] Go.wp_at_zero Go.wp_at_succ
theorem refPutLittle_own (a:Int) (w:World) :
  Calls Tryd.prog 13 #[.agg #[.int .u64 (L 0 a),.int .u64 (L 1 a),.int .u64 (L 2 a),.int .u64 (L 3 a)]] w fun e w'=>∃ v,e=.returned v∧w'.ownsRow w.heap.size 5 1 v 32 (pl a 32)∧Below w.heap.size w w':=by
 obtain ⟨i0,hi,hz0,hz1,hz2⟩:=info_parts info8
 have hA:=Arr.new w w.heap.size rfl 33 (L 0 a) (L 1 a) (L 2 a) (L 3 a)
 have hw:Below w.heap.size w (w.alloc (.cells #[.int .u64 (L 0 a),.int .u64 (L 1 a),.int .u64 (L 2 a),.int .u64 (L 3 a)] 33)):=K.alloc (Below.refl _ _) _
 go_enter Tryd.func13,Tryd.ntmps13
 go_wp2_with fail
 generalize w.alloc (.cells #[.int .u64 (L 0 a),.int .u64 (L 1 a),.int .u64 (L 2 a),.int .u64 (L 3 a)] 33)=W0 at *
 go_loopg [3,4] 4 (fun g v s wr=>∃ i:Nat,g=4-i∧i≤4∧s=.int .i64 i∧wr.ownsRow W0.heap.size 5 1 v (8*i) (pl a (8*i))∧Below W0.heap.size W0 wr)
 case atStart=>exact ⟨0,rfl,by omega,rfl,World.ownsRow_nil _ _ _ _,Below.refl _ _⟩
 case round =>
  obtain ⟨i,rfl,hle,rfl,hO,hB⟩:=hrel
  by_cases hlt:i<4
  ·have hc:=arr_at (hA.keep hB) i hlt
   have hii:(i:Int)<4:=by omega
   have HL:Hid (0≤L i a∧L i a<18446744073709551616):=⟨L_lo _ _,L_hi _ _⟩
   have HI:Hid (i<4):=hlt
   clear hlt hle
   go_wp2_with fail
   go_loopg [3,5,6] 8 (fun g v x s wr=>∃ k:Nat,g=8-k∧k≤8∧s=.int .i64 k∧x=.int .u64 (L i a / 256 ^ k)∧wr.ownsRow W0.heap.size 5 1 v (8*i+k) (pl a (8*i+k))∧Below W0.heap.size W0 wr)
   case atStart=>exact ⟨0,rfl,by omega,rfl,by simp,hO,hB⟩
   case round =>
    clear hO hB hc
    obtain ⟨k,rfl,hle,rfl,rfl,hO,hB⟩:=hrel
    by_cases hlt:k<8
    ·have hbd:=div_bd HL.out.1 HL.out.2 k
     have HD:Hid (L i a / 256 ^ k % 256=Y (8*i+k) a∧L i a / 256 ^ k / 256=L i a / 256 ^ (k+1)):=⟨byte_word a i k hlt,div_next _ _⟩
     generalize L i a / 256 ^ k=x at *
     go_wp2_with (at_builtin;refine wpList_append_own _ rfl _ _ 24 rfl W0.heap.size 5 i0 (.int .u8 0) 1 1 Tryd.underlying24 hi hz0 hz1 hz2 rfl (by decide) _ _ _ rfl (hO.alloc _) ⟨wr.heap.size,0,none⟩ 1 1 [.int .u8 (x % 256)] rfl rfl ?c1 ?c2 ?c3 ?c4 ?c5 ?_)
     case c1 =>
      intro j u hu
      match j,hu with
      | 0,hu=>simp at hu;subst hu;simp [Addr.add]
     case c2=>intro u hu;simp at hu;subst hu;rfl
     case c3=>have:=HI.out;unfold maxLen;omega
     case c4=>have:=HI.out;omega
     case c5=>have:=hB.size;simp;omega
     intro v' w1 hown' hgrow _
     have R1:Below W0.heap.size W0 w1:=(K.alloc hB _).grown hgrow (K.alloc hB _).size (fun k hk=>(hO.lt k hk).1)
     have R2:w1.ownsRow W0.heap.size 5 1 v' (8*i+(k+1)) (pl a (8*i+(k+1))):=by rw [← Nat.add_assoc,pl_succ,← HD.out.1];exact hown'
     clear hown' hgrow hO hB
     go_wp2_with fail
     go_roundg (8-(k+1))
     case measure=>omega
     case rel=>exact ⟨k+1,rfl,by omega,by go_num,by rw [← HD.out.2],R2,R1⟩
    ·obtain rfl:k=8:=by omega
     go_wp2_with fail
     go_roundg (4-(i+1))
     case measure=>have:=HI.out;omega
     case rel=>exact ⟨i+1,rfl,by have:=HI.out;omega,by go_num,hO,hB⟩
  ·obtain rfl:i=4:=by omega
   go_wp2_with fail
   have hO1:=hO.1
   rcases hO.2 with ⟨_,h0⟩ | ⟨g,cap,cur,rfl,hge,hrest⟩
   ·omega
   ·clear hO
    go_ret
    exact ⟨_,rfl,⟨hO1,Or.inr ⟨g,cap,cur,rfl,Nat.le_trans hw.size hge,hrest⟩⟩,K.call hw hB⟩
end Go.Proofs.YtjaahnlpnkcimaaDoor
namespace Go.Proofs.YtjaahnlpnkcimaaDoor
set_option maxRecDepth 100000
open Go.RowKit
theorem lt_nil:∀ x ∈ ([]:List Nat),x<256:=fun x hx=>by cases hx
theorem pl_nb (A:Nat):pl (A:Int) 32=cells8 (nb A):=by
 unfold pl nb cells8 fl
 rw [List.map_map]
 apply List.map_congr_left
 intro i _
 show _=Value.int .u8 (((Y i (A:Int)).toNat:Nat):Int)
 rw [nbY]
theorem sputN (A:Nat) (w:World):Calls Tryd.prog 13 [.agg (nc (A:Int)).toArray].toArray w fun e w'=>∃ v Fp,e=.returned v∧(rowPd 5 1 (32) (cells8 (nb A))).p v Fp w'∧(∀ b,Fp b=true→w.heap.size≤b∧b<w'.heap.size)∧Below w.heap.size w w':=by
 have q:=refPutLittle_own (A:Int) w
 rw [pl_nb] at q
 exact thing_of q
theorem slitPt {w:World} {v:Value} {l:List Nat} (h:Pt w v l) (hl:l.length=32) (hlt:∀ x ∈ l,x<256):Calls Tryd.prog 11 [v].toArray w fun e w'=>e=.returned (.tuple [.agg (nc ((nle l:Nat):Int)).toArray,.bool true].toArray)∧Below w.heap.size w w':=by
 obtain ⟨z,c,rfl,hc,_,h4⟩:=h
 rw [hl] at h4 hc ⊢
 rcases h4.at_ with h0 | ⟨b,o,rfl,hr⟩
 ·omega
 ·have q:=refLittle_any (cap:=c) hc (bz_bd hlt) hr
  have hu:=nle_ln hlt hl
  have e:∀ j,j<4→E (bz l) (8*j) 8=L j ((nle l:Nat):Int):=fun j hj=>(hu.word hj).symm
  rw [show E (bz l) 0 8=L 0 _ from e 0 (by decide),show E (bz l) 8 8=L 1 _ from e 1 (by decide),show E (bz l) 16 8=L 2 _ from e 2 (by decide),show E (bz l) 24 8=L 3 _ from e 3 (by decide)] at q
  exact q
theorem smodN (w:World):Calls Tryd.prog 12 [.int .i64 3].toArray w fun e w'=>e=.returned (.agg (nc (md 3)).toArray)∧Below w.heap.size w w':=ref_mod_any 3 w
theorem cZ12 (vs:List Value):∀ w,(callFunc 12 vs.toArray).run Tryd.prog w=.ok (.enter 12 vs.toArray) w:=callFunc_enter Tryd.func12 (by kernel_rfl) (by kernel_rfl) _
end Go.Proofs.YtjaahnlpnkcimaaDoor
namespace Go.Proofs.YtjaahnlpnkcimaaDoor
set_option maxRecDepth 100000
open Go.RowKit
theorem cut_norm {P:Program} {W:Bs} {n:Nat} {τ:SS} {c:Code} {Q:Exit→Act→World→Prop} {a:Act} {w:World} {σ:SS} (_:Rp W n σ a w) (h1:c.wp P (fun e a w=>e=.normal∧Rp W n τ a w) a w) (h2:∀ a w,Rp W n τ a w→Q .normal a w):c.wp P Q a w :=
 wp_mono h1 (fun e a w hq=>by obtain ⟨he,hr⟩:=hq;subst he;exact h2 a w hr)
end Go.Proofs.YtjaahnlpnkcimaaDoor
