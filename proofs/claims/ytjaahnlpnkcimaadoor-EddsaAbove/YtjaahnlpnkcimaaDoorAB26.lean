/- EddsaAbove, walked. How the parameters, and the listed variables, are read before the call. -/
import Derived.Test.YtjaahnlpnkcimaaDoorAB25
import Derived.Test.YtjaahnlpnkcimaaDoorTie
import Derived.Test.YtjaahnlpnkcimaaDoorCards
import Derived.ProofKit
import Derived.LaidMore
import Derived.MakeChecks
import Derived.Lib.LaidTab
import Derived.Stop.LaidErr
import Derived.Laws.IdiomArrays
import Derived.OpenShut
import Derived.Carry
import Derived.ChangeMaps5
import Derived.Stop.Joined
set_option maxRecDepth 100000
set_option maxHeartbeats 4000000
namespace Go.Proofs.YtjaahnlpnkcimaaDoor
set_option maxRecDepth 100000
open Go.RowKit
theorem i_addU {P:Program} (ty:TypeId) (a b c:Int) (hc:c=(a+b) % 18446744073709551616) (w:World):(binOp .add ty (.int .u64 a) (.int .u64 b)).run P w=.ok (.int .u64 c) w:=by
 have e:IntKind.u64.wrap (a+b)=c:=by
  rw [hc]
  simp only [IntKind.wrap,IntKind.bits,IntKind.signed]
  simp
 simp [binOp,Op.intArith,e]
structure Rnd (s m c u d:Int):Prop where
 e:s+m+c=u+18446744073709551616*d
 s0:0≤s∧s<18446744073709551616
 m0:0≤m∧m<18446744073709551616
 c0:c=0∨c=1
 u0:0≤u∧u<18446744073709551616
theorem rn_s {s m c u d:Int} (r:Rnd s m c u d):((s+m) % 18446744073709551616+c) % 18446744073709551616=u:=by
 obtain ⟨e,s0,m0,c0,u0⟩:=r
 omega
theorem rn_1 {s m c u d:Int} (r:Rnd s m c u d) (h:(s+m) % 18446744073709551616<m):1=d:=by
 obtain ⟨e,s0,m0,c0,u0⟩:=r
 omega
theorem rn_2 {s m c u d:Int} (r:Rnd s m c u d) (h:¬ (s+m) % 18446744073709551616<m) (h2:((s+m) % 18446744073709551616+c) % 18446744073709551616<c):1=d:=by
 obtain ⟨e,s0,m0,c0,u0⟩:=r
 omega
theorem rn_0 {s m c u d:Int} (r:Rnd s m c u d) (h:¬ (s+m) % 18446744073709551616<m) (h2:¬ ((s+m) % 18446744073709551616+c) % 18446744073709551616<c):0=d:=by
 obtain ⟨e,s0,m0,c0,u0⟩:=r
 omega
theorem n_b0Z:Tryd.prog.built 33 []=some nz.toArray:=by kernel_rfl
theorem words (x:Int) (h:Num x):x=lw 0 x+18446744073709551616*lw 1 x+340282366920938463463374607431768211456*lw 2 x+6277101735386680763835789423207666416102355444464034512896*lw 3 x:=by
 have h1:=h.lo
 have h2:=h.hi
 unfold M at h2
 show x=L 0 x+_*L 1 x+_*L 2 x+_*L 3 x
 unfold L B
 simp only [Int.pow_zero,Int.ediv_one]
 rw [show (18446744073709551616:Int) ^ 1=18446744073709551616 by decide,show (18446744073709551616:Int) ^ 2=340282366920938463463374607431768211456 by decide,show (18446744073709551616:Int) ^ 3=6277101735386680763835789423207666416102355444464034512896 by decide]
 omega
theorem md3_lit:md 3=7237005577332262213973186563042994240857116359379907606001950938285454250989:=by decide +kernel
theorem md3_w:lw 0 (md 3)=6346243789798364141∧lw 1 (md 3)=1503914060200516822∧lw 2 (md 3)=0∧lw 3 (md 3)=1152921504606846976:=by decide +kernel
theorem pt_by31 {w:World} {b:Nat} {l:List Nat} (hl:l.length=32) (hlt:∀ x ∈ l,x<256) (h:w.rangeAt b 0 (by32 (bz l))):Pt w (.slice (some ⟨b,0,none⟩) 31 32) (l.take 31):=by
 have hl1:(l.take 31).length=31:=by rw [List.length_take,hl];decide
 have q:=pt_rd (w:=w) (b:=b) (o:=0) (c:=32) (l:=l.take 31) (by
  rw [hl1]
  exact ⟨fun i hi=>by
   have:=(rd_by h).c i (by omega)
   rw [this]
   unfold bz
   rw [List.getD_eq_getElem?_getD,List.getD_eq_getElem?_getD,List.getElem?_take_of_lt hi]⟩) (lt_take hlt 31) (by omega) (by decide)
 rw [hl1] at q
 exact q
theorem lt_one {N:Nat} (h:N<256):∀ x ∈ [N],x<256:=fun x hx=>by rw [List.mem_singleton.1 hx];exact h
theorem lAb_long {w:World} (hT:Tab w) (hH:Sx.Tab w) {sd:List Nat} (_hsd:sd.length=32) (_hlt:∀ x ∈ sd,x<256) {n c:Nat} {z:Option Addr} {f:Nat→Nat} (_hba:BA w z n f) (_hc:n≤c) (_hcm:c≤maxLen) {N:Nat} (_hn:300<n):Calls Tryd.prog 4 [.agg (by32 (bz sd)).toArray,Value.slice (z) (n) (c),Value.int .u8 ((N:Nat):Int)].toArray w fun e w'=>e=.returned (.bool true)∧Below w.heap.size w w':=by
 refine enter (args:=[.agg (by32 (bz sd)).toArray,Value.slice (z) (n) (c),Value.int .u8 ((N:Nat):Int)]) Tryd.func4 rfl 116 rfl (lk rfl) (fun a h=>?_)
 refine a_region TTE h hm [] [eN 3 _,eS 6 _] (by kernel_rfl) ⟨rfl,rfl,T0⟩ [(1,.val (Value.slice (z) (n) (c))),(2,.val (Value.int .u8 ((N:Nat):Int))),(3,.ptr 3 0)] [(3,by32 (bz sd))] ⟨rfl,rfl,rfl,T0⟩ ⟨rfl,T0⟩ rfl (fun a w h=>?_)
 refine wp_seq ?_
 refine a_region TTE h hm [0,4,5] [eS 19 (.val (Value.bool true)),eS 20 _,eS 21 _,eS 22 _,eS 23 (.val (Value.int .i64 ((n:Nat):Int))),eS 24 (.val (Value.bool true)),eS 25 _] (by kernel_rfl) ⟨fun L u=>u_call u (gd0 rfl) _ rfl _ _ _ rfl [] rfl (cZ6 _) _ (fun w hb=>awk (hT.keep (Bs.kp_of hb)) (hH.keep (Bs.kp_of hb))),rfl,rfl,rfl,fun L u=>u_lenV u (gd1 u 2 false rfl 21 rfl (lk rfl) rfl) 23 rfl (.tmp 22) 24 rfl rfl Tryd.underlying24,fun L u=>u_bin u (gd1 u 2 false rfl 21 rfl (lk rfl) rfl) _ rfl _ _ _ _ _ rfl rfl rfl (eqg_int _ _ _ _ _ _ _ _) _ (yes_of (fun w=>i_gtr _ _ _ _ w) (by omega)),rfl,T0⟩ [(1,_),(2,_),(3,_),(25,.val (Value.bool true))] [(3,_)] ⟨rfl,rfl,rfl,rfl,T0⟩ ⟨rfl,T0⟩ rfl (fun a w h=>?_)
 refine go_cond h true rfl (fun ht=>?_) (fun hf=>?_)
 case refine_2=>cases hf
 refine a_region TTE h hm [0] [eS 26 (.val (Value.bool true)),eS 6 _] (by kernel_rfl) ⟨fun L u=>u_call u (gd0 rfl) _ rfl _ _ _ rfl [] rfl (cZ6 _) _ (fun w hb=>awk (hT.keep (Bs.kp_of hb)) (hH.keep (Bs.kp_of hb))),rfl,T0⟩ [(6,.val (Value.bool true))] [] ⟨rfl,T0⟩ T0 rfl (fun a w h=>?_)
 refine wp_ret ?_
 refine then_ret ?_
 refine ret_slot h 6 rfl (lk rfl) (Value.bool true) rfl ?_
 exact ⟨rfl,h.grows⟩
theorem lAb_at {w:World} (hT:Tab w) (hH:Sx.Tab w) (hX:TabX w) {sd:List Nat} (hsd:sd.length=32) (hlt:∀ x ∈ sd,x<256) {n c:Nat} {z:Option Addr} {f:Nat→Nat} (hba:BA w z n f) (hc:n≤c) (hcm:c≤maxLen) {N S X:Nat} {sg pl xl:List Nat} (hN:N<256) (_hn:n≤300) (hsg:cbp (pR sd (fl f n))++(nb (kS sd (fl f n)))=sg) (hsgn:sg.length=32+32) (hsgl:∀ x ∈ sg,x<256) (hpl:cbp (pA sd)=pl) (hpln:pl.length=32) (hpll:∀ x ∈ pl,x<256) (hxl:nb X=xl) (_hxln:xl.length=32) (hxll:∀ x ∈ xl,x<256) (hS:nle (sg.drop 32)=S) (hv1:vOk pl (fl f n) ([]++fl (fun i=>((sg).take (32)).getD i 0) (32)++fl (fun i=>(xl).getD i 0) (32))=false) (hv2:vOk pl (fl f n) (sg.take (N % 64))=false) (hv3:vOk pl (fl f n) ([]++fl (fun i=>(sg).getD i 0) (32+32)++fl (fun i=>([N]).getD i 0) (1))=false) (hv4:vOk (pl.take 31) (fl f n) sg=false) {Md C1 C2 C3:Int} (hMd:md 3=Md) (r0:Rnd (lw 0 ((S:Nat):Int)) (lw 0 Md) 0 (lw 0 ((X:Nat):Int)) C1) (r1:Rnd (lw 1 ((S:Nat):Int)) (lw 1 Md) C1 (lw 1 ((X:Nat):Int)) C2) (r2:Rnd (lw 2 ((S:Nat):Int)) (lw 2 Md) C2 (lw 2 ((X:Nat):Int)) C3) (r3:Rnd (lw 3 ((S:Nat):Int)) (lw 3 Md) C3 (lw 3 ((X:Nat):Int)) 0):Calls Tryd.prog 4 [.agg (by32 (bz sd)).toArray,Value.slice (z) (n) (c),Value.int .u8 ((N:Nat):Int)].toArray w fun e w'=>e=.returned (.bool true)∧Below w.heap.size w w':=by
 refine enter (args:=[.agg (by32 (bz sd)).toArray,Value.slice (z) (n) (c),Value.int .u8 ((N:Nat):Int)]) Tryd.func4 rfl 116 rfl (lk rfl) (fun a h=>?_)
 refine a_region TTE h hm [] [eN 3 _,eS 6 _] (by kernel_rfl) ⟨rfl,rfl,T0⟩ [(1,.val (Value.slice (z) (n) (c))),(2,.val (Value.int .u8 ((N:Nat):Int))),(3,.ptr 3 0)] [(3,by32 (bz sd))] ⟨rfl,rfl,rfl,T0⟩ ⟨rfl,T0⟩ rfl (fun a w h=>?_)
 refine wp_seq ?_
 refine a_region TTE h hm [0,4,5] [eS 19 (.val (Value.bool true)),eS 20 _,eS 21 _,eS 22 _,eS 23 (.val (Value.int .i64 ((n:Nat):Int))),eS 24 (.val (Value.bool false)),eS 25 _] (by kernel_rfl) ⟨fun L u=>u_call u (gd0 rfl) _ rfl _ _ _ rfl [] rfl (cZ6 _) _ (fun w hb=>awk (hT.keep (Bs.kp_of hb)) (hH.keep (Bs.kp_of hb))),rfl,rfl,rfl,fun L u=>u_lenV u (gd1 u 2 false rfl 21 rfl (lk rfl) rfl) 23 rfl (.tmp 22) 24 rfl rfl Tryd.underlying24,fun L u=>u_bin u (gd1 u 2 false rfl 21 rfl (lk rfl) rfl) _ rfl _ _ _ _ _ rfl rfl rfl (eqg_int _ _ _ _ _ _ _ _) _ (no_of (fun w=>i_gtr _ _ _ _ w) (by omega)),rfl,T0⟩ [(1,_),(2,_),(3,_),(25,.val (Value.bool false))] [(3,_)] ⟨rfl,rfl,rfl,rfl,T0⟩ ⟨rfl,T0⟩ rfl (fun a w h=>?_)
 refine go_cond h false rfl (fun ht=>?_) (fun hf=>?_)
 case refine_1=>cases ht
 refine wp_skip ?_
 refine then_norm ?_
 refine a_regionQ TTE h hm [2,3] [eS 27 _,eS 28 _,eQ 29 (rowPd 5 1 (32+32) (cells8 (sg))),eS 7 (.unk 29 id)] (by kernel_rfl) ⟨rfl,rfl,fun L u=>u_callQ u (gd0 rfl) 29 rfl rfl 7 #[(.tmp 27),(.tmp 28)] #[23,24] rfl [.val (.agg (by32 (bz sd)).toArray),.val (Value.slice (z) (n) (c))] rfl (fun vs w=>callFunc_enter Tryd.func7 (by kernel_rfl) (by kernel_rfl) vs w) (rowPd 5 1 (32+32) (cells8 (sg))) (fun β a w hr=>by have q:=qSign (hT.keep (Bs.kp_of hr.bl)) (hH.keep (Bs.kp_of hr.bl)) hsd hlt (hba.keep (Bs.kp_of hr.bl)) hc hcm (by omega);rw [hsg] at q;exact q),fun L u=>u_copyQ u (gd0 rfl) 7 rfl (.tmp 29) (Or.inr rfl) rfl rfl,T0⟩ [(1,_),(2,_),(3,_),(7,.unk 29 id)] [(3,_)] [(29,rowPd 5 1 (32+32) (cells8 (sg)))] ⟨rfl,rfl,rfl,rfl,T0⟩ ⟨rfl,T0⟩ ⟨rfl,T0⟩ rfl (fun a w h=>?_)
 refine a_regionQ TTE h hm [1] [eS 30 _,eS 31 (.val (.agg (by32 (bz pl)).toArray)),eN 8 _,eM 8 _] (by kernel_rfl) ⟨rfl,fun L u=>u_call u (gd0 rfl) _ rfl _ _ _ rfl [_] rfl (cZ8 _) (.agg (by32 (bz pl)).toArray) (fun w hb=>by have q:=qPub (hT.keep (Bs.kp_of hb)) (hH.keep (Bs.kp_of hb)) hsd hlt;rw [hpl] at q;exact q),rfl,rfl,T0⟩ [(1,_),(2,_),(7,_),(8,.ptr 8 0)] [(8,by32 (bz pl))] [(29,rowPd 5 1 (32+32) (cells8 (sg)))] ⟨rfl,rfl,rfl,rfl,T0⟩ ⟨rfl,T0⟩ ⟨rfl,T0⟩ rfl (fun a w h=>?_)
 refine a_regionQ TTE h hm [0,1,2] [eS 33 (.unk 29 id),eS 34 (.unk 29 (fun v=>tailV (32) (id v))),eS 35 (.val (.tuple [Value.agg (nc (((S:Nat):Int))).toArray,Value.bool true].toArray)),eS 32 _,eS 36 _,eS 37 _,eN 9 _,eM 9 _,eS 10 _] (by kernel_rfl) ⟨fun L u=>u_copyQ u (gd0 rfl) 33 rfl (.tmp 7) (Or.inl rfl) rfl rfl,fun L u=>q_tail u (gd0 rfl) 34 rfl (.tmp 33) (.const (.int .i64 32)) rfl rfl rfl (vw_row (l:=sg) hsgl) (32) rfl (by omega),fun L u=>u_callR u (gd0 rfl) 35 rfl 11 #[(.tmp 34)] #[24] rfl [.unk 29 (fun v=>tailV (32) (id v))] rfl (fun vs w=>callFunc_enter Tryd.func11 (by kernel_rfl) (by kernel_rfl) vs w) (.tuple [.agg (nc (((S:Nat):Int))).toArray,Value.bool true].toArray) (fun β a w hr=>by have q:=slitPt (pt_tail (pt_row hsgl (hr.thing (x:=29) (u.q rfl))) 32 (by rw [hsgn];decide)) (by rw [List.length_drop,hsgn]) (lt_drop hsgl 32);rw [hS] at q;exact q),rfl,rfl,rfl,rfl,rfl,rfl,T0⟩ [(1,_),(2,_),(7,_),(8,_),(9,.ptr 9 0)] [(8,_),(9,nc (((S:Nat):Int)))] [(29,rowPd 5 1 (32+32) (cells8 (sg)))] ⟨rfl,rfl,rfl,rfl,rfl,T0⟩ ⟨rfl,rfl,T0⟩ ⟨rfl,T0⟩ rfl (fun a w h=>?_)
 refine a_regionQ TTE h hm [0] [eS 38 (.val (.agg (nc (Md)).toArray)),eN 11 _,eM 11 _] (by kernel_rfl) ⟨fun L u=>u_call u (gd0 rfl) _ rfl _ _ _ rfl [_] rfl (cZ12 _) (.agg (nc (Md)).toArray) (fun w hb=>by have q:=smodN w;rw [hMd] at q;exact q),rfl,rfl,T0⟩ [(1,_),(2,_),(7,_),(8,_),(9,_),(11,.ptr 11 0)] [(8,_),(9,_),(11,nc (Md))] [(29,rowPd 5 1 (32+32) (cells8 (sg)))] ⟨rfl,rfl,rfl,rfl,rfl,rfl,T0⟩ ⟨rfl,rfl,rfl,T0⟩ ⟨rfl,T0⟩ rfl (fun a w h=>?_)
 refine a_regionQ TTE h hm [0] [eS 39 (.val (.agg (nz).toArray)),eN 12 _,eM 12 _] (by kernel_rfl) ⟨fun L u=>u_build u (gd0 rfl) 39 rfl 33 #[] rfl [] rfl (nz) (n_b0Z),rfl,rfl,T0⟩ [(1,_),(2,_),(7,_),(8,_),(9,_),(11,_),(12,.ptr 12 0)] [(8,_),(9,_),(11,_),(12,nz)] [(29,rowPd 5 1 (32+32) (cells8 (sg)))] ⟨rfl,rfl,rfl,rfl,rfl,rfl,rfl,T0⟩ ⟨rfl,rfl,rfl,rfl,T0⟩ ⟨rfl,T0⟩ rfl (fun a w h=>?_)
 refine a_regionQ TTE h hm [] [eS 13 _] (by kernel_rfl) ⟨rfl,T0⟩ [(1,_),(2,_),(7,_),(8,_),(9,_),(11,_),(12,_),(13,.val ((Value.int IntKind.u64 0)))] [(8,_),(9,_),(11,_),(12,_)] [(29,rowPd 5 1 (32+32) (cells8 (sg)))] ⟨rfl,rfl,rfl,rfl,rfl,rfl,rfl,rfl,T0⟩ ⟨rfl,rfl,rfl,rfl,T0⟩ ⟨rfl,T0⟩ rfl (fun a w h=>?_)
 refine wp_seq ?_
 refine a_regionQ TTE h hm [] [eS 14 _] (by kernel_rfl) ⟨rfl,T0⟩ [(1,_),(2,_),(7,_),(8,_),(9,_),(11,_),(12,_),(13,_),(14,.val ((Value.int IntKind.i64 0)))] [(8,_),(9,_),(11,_),(12,_)] [(29,rowPd 5 1 (32+32) (cells8 (sg)))] ⟨rfl,rfl,rfl,rfl,rfl,rfl,rfl,rfl,rfl,T0⟩ ⟨rfl,rfl,rfl,rfl,T0⟩ ⟨rfl,T0⟩ rfl (fun a w h=>?_)
 refine wp_block ?_
 refine wp_loop_rounds 5 ?_
 rw [rounds_succ]
 refine wp_seq ?_
 refine a_regionQ TTE h hm [1] [eS 40 _,eS 41 (.val (Value.bool true))] (by kernel_rfl) ⟨rfl,fun L u=>u_bin u (gd0 rfl) _ rfl _ _ _ _ _ rfl rfl rfl (eqg_int _ _ _ _ _ _ _ _) _ (yes_of (fun w=>i_lss _ _ _ _ w) (by decide)),T0⟩ [(1,_),(2,_),(7,_),(8,_),(9,_),(11,_),(12,_),(13,_),(14,_),(41,.val (Value.bool true))] [(8,_),(9,_),(11,_),(12,_)] [(29,rowPd 5 1 (32+32) (cells8 (sg)))] ⟨rfl,rfl,rfl,rfl,rfl,rfl,rfl,rfl,rfl,rfl,T0⟩ ⟨rfl,rfl,rfl,rfl,T0⟩ ⟨rfl,T0⟩ rfl (fun a w h=>?_)
 refine go_cond h true rfl (fun ht=>?_) (fun hf=>?_)
 case refine_2=>cases hf
 refine wp_skip ?_
 refine then_norm ?_
 refine wp_seq ?_
 refine cut_norm (τ:=SS.mkQ [(1,.val (Value.slice (z) (n) (c))),(2,.val (Value.int .u8 ((N:Nat):Int))),(7,.unk 29 id),(8,.ptr 8 0),(9,.ptr 9 0),(11,.ptr 11 0),(12,.ptr 12 0),(13,.val (Value.int .u64 (C1))),(14,.val ((Value.int IntKind.i64 0)))] [(8,by32 (bz pl)),(9,nc (((S:Nat):Int))),(11,nc (Md)),(12,[Value.int .u64 (lw 0 ((X:Nat):Int))]++[Value.int .u64 0]++[Value.int .u64 0]++[Value.int .u64 0])] [(29,rowPd 5 1 (32+32) (cells8 (sg)))]) h ?_ (fun a w h=>?_)
 ·skip
  refine wp_block ?_
  refine a_regionQ TTE h hm [6] [eS 44 _,eS 45 _,eS 46 _,eS 47 _,eS 48 _,eS 49 _,eS 50 (.val (Value.int .u64 (((lw 0 (((S:Nat):Int)))+(lw 0 (Md))) % 18446744073709551616))),eS 15 _] (by kernel_rfl) ⟨rfl,rfl,rfl,rfl,rfl,rfl,fun L u=>u_bin u (gd0 rfl) _ rfl _ _ _ _ _ rfl rfl rfl (eqg_int _ _ _ _ _ _ _ _) _ (fun w=>i_addU _ _ _ (((lw 0 (((S:Nat):Int)))+(lw 0 (Md))) % 18446744073709551616) rfl w),rfl,T0⟩ [(1,_),(2,_),(7,_),(8,_),(9,_),(11,_),(12,_),(13,_),(14,_),(15,.val (Value.int .u64 (((lw 0 (((S:Nat):Int)))+(lw 0 (Md))) % 18446744073709551616)))] [(8,_),(9,_),(11,_),(12,_)] [(29,rowPd 5 1 (32+32) (cells8 (sg)))] ⟨rfl,rfl,rfl,rfl,rfl,rfl,rfl,rfl,rfl,rfl,T0⟩ ⟨rfl,rfl,rfl,rfl,T0⟩ ⟨rfl,T0⟩ rfl (fun a w h=>?_)
  refine a_regionQ TTE h hm [4] [eS 51 _,eS 52 _,eS 53 _,eS 54 _,eS 55 (.val (Value.bool (decide ((((lw 0 (((S:Nat):Int)))+(lw 0 (Md))) % 18446744073709551616)<(lw 0 (Md)))))),eS 16 _] (by kernel_rfl) ⟨rfl,rfl,rfl,rfl,fun L u=>u_bin u (gd0 rfl) _ rfl _ _ _ _ _ rfl rfl rfl (eqg_int _ _ _ _ _ _ _ _) _ (fun w=>i_lss _ _ _ _ w),rfl,T0⟩ [(1,_),(2,_),(7,_),(8,_),(9,_),(11,_),(12,_),(13,_),(14,_),(15,_),(16,.val (Value.bool (decide ((((lw 0 (((S:Nat):Int)))+(lw 0 (Md))) % 18446744073709551616)<(lw 0 (Md))))))] [(8,_),(9,_),(11,_),(12,_)] [(29,rowPd 5 1 (32+32) (cells8 (sg)))] ⟨rfl,rfl,rfl,rfl,rfl,rfl,rfl,rfl,rfl,rfl,rfl,T0⟩ ⟨rfl,rfl,rfl,rfl,T0⟩ ⟨rfl,T0⟩ rfl (fun a w h=>?_)
  refine a_regionQ TTE h hm [2] [eS 56 _,eS 57 _,eS 58 (.val (Value.int .u64 (((((lw 0 (((S:Nat):Int)))+(lw 0 (Md))) % 18446744073709551616)+0) % 18446744073709551616))),eS 15 _] (by kernel_rfl) ⟨rfl,rfl,fun L u=>u_bin u (gd0 rfl) _ rfl _ _ _ _ _ rfl rfl rfl (eqg_int _ _ _ _ _ _ _ _) _ (fun w=>i_addU _ _ _ (((((lw 0 (((S:Nat):Int)))+(lw 0 (Md))) % 18446744073709551616)+0) % 18446744073709551616) rfl w),rfl,T0⟩ [(1,_),(2,_),(7,_),(8,_),(9,_),(11,_),(12,_),(13,_),(14,_),(15,.val (Value.int .u64 (((((lw 0 (((S:Nat):Int)))+(lw 0 (Md))) % 18446744073709551616)+0) % 18446744073709551616))),(16,_)] [(8,_),(9,_),(11,_),(12,_)] [(29,rowPd 5 1 (32+32) (cells8 (sg)))] ⟨rfl,rfl,rfl,rfl,rfl,rfl,rfl,rfl,rfl,rfl,rfl,T0⟩ ⟨rfl,rfl,rfl,rfl,T0⟩ ⟨rfl,T0⟩ rfl (fun a w h=>?_)
  by_cases hs1:(((lw 0 (((S:Nat):Int)))+(lw 0 (Md))) % 18446744073709551616)<(lw 0 (Md))
  ·skip
   replace h:=h.keepQ [(1,.val (Value.slice (z) (n) (c))),(2,.val (Value.int .u8 ((N:Nat):Int))),(7,.unk 29 id),(8,.ptr 8 0),(9,.ptr 9 0),(11,.ptr 11 0),(12,.ptr 12 0),(13,.val ((Value.int IntKind.u64 0))),(14,.val ((Value.int IntKind.i64 0))),(15,.val (Value.int .u64 (((((lw 0 (((S:Nat):Int)))+(lw 0 (Md))) % 18446744073709551616)+0) % 18446744073709551616))),(16,.val (Value.bool true))] [(8,by32 (bz pl)),(9,nc (((S:Nat):Int))),(11,nc (Md)),(12,nz)] [(29,rowPd 5 1 (32+32) (cells8 (sg)))] ⟨rfl,rfl,rfl,rfl,rfl,rfl,rfl,rfl,rfl,rfl,(congrArg (fun z=>some (SV.val (Value.bool z))) (decide_eq_true hs1)),trivial⟩ ⟨rfl,rfl,rfl,rfl,trivial⟩ ⟨rfl,trivial⟩ rfl
   refine a_regionQ TTE h hm [] [eS 59 _,eS 60 _,eS 61 _,eS 62 _,eS 63 _,eS 64 _,eS 16 _] (by kernel_rfl) ⟨rfl,rfl,rfl,rfl,rfl,rfl,rfl,T0⟩ [(1,_),(2,_),(7,_),(8,_),(9,_),(11,_),(12,_),(14,_),(15,_),(16,_)] [(8,_),(9,_),(11,_),(12,_)] [(29,rowPd 5 1 (32+32) (cells8 (sg)))] ⟨rfl,rfl,rfl,rfl,rfl,rfl,rfl,rfl,rfl,rfl,T0⟩ ⟨rfl,rfl,rfl,rfl,T0⟩ ⟨rfl,T0⟩ rfl (fun a w h=>?_)
   refine a_regionQ TTE h hm [] [eS 65 _,eS 66 _,eS 67 _,eM 12 _] (by kernel_rfl) ⟨rfl,rfl,rfl,rfl,T0⟩ [(1,_),(2,_),(7,_),(8,_),(9,_),(11,_),(12,_),(14,_),(16,_)] [(8,_),(9,_),(11,_),(12,[Value.int .u64 (((((lw 0 (((S:Nat):Int)))+(lw 0 (Md))) % 18446744073709551616)+0) % 18446744073709551616)]++[Value.int .u64 0]++[Value.int .u64 0]++[Value.int .u64 0])] [(29,rowPd 5 1 (32+32) (cells8 (sg)))] ⟨rfl,rfl,rfl,rfl,rfl,rfl,rfl,rfl,rfl,T0⟩ ⟨rfl,rfl,rfl,rfl,T0⟩ ⟨rfl,T0⟩ rfl (fun a w h=>?_)
   refine a_regionQ TTE h hm [] [eS 13 _] (by kernel_rfl) ⟨rfl,T0⟩ [(1,_),(2,_),(7,_),(8,_),(9,_),(11,_),(12,_),(13,.val ((Value.int IntKind.u64 0))),(14,_),(16,_)] [(8,_),(9,_),(11,_),(12,_)] [(29,rowPd 5 1 (32+32) (cells8 (sg)))] ⟨rfl,rfl,rfl,rfl,rfl,rfl,rfl,rfl,rfl,rfl,T0⟩ ⟨rfl,rfl,rfl,rfl,T0⟩ ⟨rfl,T0⟩ rfl (fun a w h=>?_)
   refine a_regionQ TTE h hm [] [eS 68 _] (by kernel_rfl) ⟨rfl,T0⟩ [(1,_),(2,_),(7,_),(8,_),(9,_),(11,_),(12,_),(13,_),(14,_),(68,.val (Value.bool true))] [(8,_),(9,_),(11,_),(12,_)] [(29,rowPd 5 1 (32+32) (cells8 (sg)))] ⟨rfl,rfl,rfl,rfl,rfl,rfl,rfl,rfl,rfl,rfl,T0⟩ ⟨rfl,rfl,rfl,rfl,T0⟩ ⟨rfl,T0⟩ rfl (fun a w h=>?_)
   refine go_cond h true rfl (fun ht=>?_) (fun hf=>?_)
   case refine_2=>cases hf
   refine a_endQ TTE h hm [] [eS 13 _] (by kernel_rfl) ⟨rfl,T0⟩ [(1,_),(2,_),(7,_),(8,_),(9,_),(11,_),(12,_),(13,.val ((Value.int IntKind.u64 1))),(14,_)] [(8,_),(9,_),(11,_),(12,_)] [(29,rowPd 5 1 (32+32) (cells8 (sg)))] ⟨rfl,rfl,rfl,rfl,rfl,rfl,rfl,rfl,rfl,T0⟩ ⟨rfl,rfl,rfl,rfl,T0⟩ ⟨rfl,T0⟩ rfl (fun a w h=>?_)
   refine blk_norm ?_
   exact ⟨rfl,h.keepQ [(1,.val (Value.slice (z) (n) (c))),(2,.val (Value.int .u8 ((N:Nat):Int))),(7,.unk 29 id),(8,.ptr 8 0),(9,.ptr 9 0),(11,.ptr 11 0),(12,.ptr 12 0),(13,.val (Value.int .u64 (C1))),(14,.val ((Value.int IntKind.i64 0)))] [(8,by32 (bz pl)),(9,nc (((S:Nat):Int))),(11,nc (Md)),(12,[Value.int .u64 (lw 0 ((X:Nat):Int))]++[Value.int .u64 0]++[Value.int .u64 0]++[Value.int .u64 0])] [(29,rowPd 5 1 (32+32) (cells8 (sg)))] ⟨rfl,rfl,rfl,rfl,rfl,rfl,rfl,(congrArg (fun z=>some (SV.val (Value.int .u64 z))) (rn_1 r0 hs1)),rfl,trivial⟩ ⟨rfl,rfl,rfl,(congrArg (fun z=>some ([Value.int .u64 z]++[Value.int .u64 0]++[Value.int .u64 0]++[Value.int .u64 0])) (rn_s r0)),trivial⟩ ⟨rfl,trivial⟩ rfl⟩
  ·skip
   replace h:=h.keepQ [(1,.val (Value.slice (z) (n) (c))),(2,.val (Value.int .u8 ((N:Nat):Int))),(7,.unk 29 id),(8,.ptr 8 0),(9,.ptr 9 0),(11,.ptr 11 0),(12,.ptr 12 0),(13,.val ((Value.int IntKind.u64 0))),(14,.val ((Value.int IntKind.i64 0))),(15,.val (Value.int .u64 (((((lw 0 (((S:Nat):Int)))+(lw 0 (Md))) % 18446744073709551616)+0) % 18446744073709551616))),(16,.val (Value.bool false))] [(8,by32 (bz pl)),(9,nc (((S:Nat):Int))),(11,nc (Md)),(12,nz)] [(29,rowPd 5 1 (32+32) (cells8 (sg)))] ⟨rfl,rfl,rfl,rfl,rfl,rfl,rfl,rfl,rfl,rfl,(congrArg (fun z=>some (SV.val (Value.bool z))) (decide_eq_false hs1)),trivial⟩ ⟨rfl,rfl,rfl,rfl,trivial⟩ ⟨rfl,trivial⟩ rfl
   refine a_regionQ TTE h hm [4] [eS 59 _,eS 60 _,eS 61 _,eS 62 _,eS 63 (.val (Value.bool (decide ((((((lw 0 (((S:Nat):Int)))+(lw 0 (Md))) % 18446744073709551616)+0) % 18446744073709551616)<0)))),eS 64 _,eS 16 _] (by kernel_rfl) ⟨rfl,rfl,rfl,rfl,fun L u=>u_bin u (gd1 u 1 false rfl 60 rfl (lk rfl) rfl) _ rfl _ _ _ _ _ rfl rfl rfl (eqg_int _ _ _ _ _ _ _ _) _ (fun w=>i_lss _ _ _ _ w),rfl,rfl,T0⟩ [(1,_),(2,_),(7,_),(8,_),(9,_),(11,_),(12,_),(14,_),(15,_),(16,.val (Value.bool (decide ((((((lw 0 (((S:Nat):Int)))+(lw 0 (Md))) % 18446744073709551616)+0) % 18446744073709551616)<0))))] [(8,_),(9,_),(11,_),(12,_)] [(29,rowPd 5 1 (32+32) (cells8 (sg)))] ⟨rfl,rfl,rfl,rfl,rfl,rfl,rfl,rfl,rfl,rfl,T0⟩ ⟨rfl,rfl,rfl,rfl,T0⟩ ⟨rfl,T0⟩ rfl (fun a w h=>?_)
   refine a_regionQ TTE h hm [] [eS 65 _,eS 66 _,eS 67 _,eM 12 _] (by kernel_rfl) ⟨rfl,rfl,rfl,rfl,T0⟩ [(1,_),(2,_),(7,_),(8,_),(9,_),(11,_),(12,_),(14,_),(16,_)] [(8,_),(9,_),(11,_),(12,[Value.int .u64 (((((lw 0 (((S:Nat):Int)))+(lw 0 (Md))) % 18446744073709551616)+0) % 18446744073709551616)]++[Value.int .u64 0]++[Value.int .u64 0]++[Value.int .u64 0])] [(29,rowPd 5 1 (32+32) (cells8 (sg)))] ⟨rfl,rfl,rfl,rfl,rfl,rfl,rfl,rfl,rfl,T0⟩ ⟨rfl,rfl,rfl,rfl,T0⟩ ⟨rfl,T0⟩ rfl (fun a w h=>?_)
   refine a_regionQ TTE h hm [] [eS 13 _] (by kernel_rfl) ⟨rfl,T0⟩ [(1,_),(2,_),(7,_),(8,_),(9,_),(11,_),(12,_),(13,.val ((Value.int IntKind.u64 0))),(14,_),(16,_)] [(8,_),(9,_),(11,_),(12,_)] [(29,rowPd 5 1 (32+32) (cells8 (sg)))] ⟨rfl,rfl,rfl,rfl,rfl,rfl,rfl,rfl,rfl,rfl,T0⟩ ⟨rfl,rfl,rfl,rfl,T0⟩ ⟨rfl,T0⟩ rfl (fun a w h=>?_)
   by_cases hs2:(((((lw 0 (((S:Nat):Int)))+(lw 0 (Md))) % 18446744073709551616)+0) % 18446744073709551616)<0
   ·skip
    replace h:=h.keepQ [(1,.val (Value.slice (z) (n) (c))),(2,.val (Value.int .u8 ((N:Nat):Int))),(7,.unk 29 id),(8,.ptr 8 0),(9,.ptr 9 0),(11,.ptr 11 0),(12,.ptr 12 0),(13,.val ((Value.int IntKind.u64 0))),(14,.val ((Value.int IntKind.i64 0))),(16,.val (Value.bool true))] [(8,by32 (bz pl)),(9,nc (((S:Nat):Int))),(11,nc (Md)),(12,[Value.int .u64 (((((lw 0 (((S:Nat):Int)))+(lw 0 (Md))) % 18446744073709551616)+0) % 18446744073709551616)]++[Value.int .u64 0]++[Value.int .u64 0]++[Value.int .u64 0])] [(29,rowPd 5 1 (32+32) (cells8 (sg)))] ⟨rfl,rfl,rfl,rfl,rfl,rfl,rfl,rfl,rfl,(congrArg (fun z=>some (SV.val (Value.bool z))) (decide_eq_true hs2)),trivial⟩ ⟨rfl,rfl,rfl,rfl,trivial⟩ ⟨rfl,trivial⟩ rfl
    refine a_regionQ TTE h hm [] [eS 68 _] (by kernel_rfl) ⟨rfl,T0⟩ [(1,_),(2,_),(7,_),(8,_),(9,_),(11,_),(12,_),(13,_),(14,_),(68,.val (Value.bool true))] [(8,_),(9,_),(11,_),(12,_)] [(29,rowPd 5 1 (32+32) (cells8 (sg)))] ⟨rfl,rfl,rfl,rfl,rfl,rfl,rfl,rfl,rfl,rfl,T0⟩ ⟨rfl,rfl,rfl,rfl,T0⟩ ⟨rfl,T0⟩ rfl (fun a w h=>?_)
    refine go_cond h true rfl (fun ht=>?_) (fun hf=>?_)
    case refine_2=>cases hf
    refine a_endQ TTE h hm [] [eS 13 _] (by kernel_rfl) ⟨rfl,T0⟩ [(1,_),(2,_),(7,_),(8,_),(9,_),(11,_),(12,_),(13,.val ((Value.int IntKind.u64 1))),(14,_)] [(8,_),(9,_),(11,_),(12,_)] [(29,rowPd 5 1 (32+32) (cells8 (sg)))] ⟨rfl,rfl,rfl,rfl,rfl,rfl,rfl,rfl,rfl,T0⟩ ⟨rfl,rfl,rfl,rfl,T0⟩ ⟨rfl,T0⟩ rfl (fun a w h=>?_)
    refine blk_norm ?_
    exact ⟨rfl,h.keepQ [(1,.val (Value.slice (z) (n) (c))),(2,.val (Value.int .u8 ((N:Nat):Int))),(7,.unk 29 id),(8,.ptr 8 0),(9,.ptr 9 0),(11,.ptr 11 0),(12,.ptr 12 0),(13,.val (Value.int .u64 (C1))),(14,.val ((Value.int IntKind.i64 0)))] [(8,by32 (bz pl)),(9,nc (((S:Nat):Int))),(11,nc (Md)),(12,[Value.int .u64 (lw 0 ((X:Nat):Int))]++[Value.int .u64 0]++[Value.int .u64 0]++[Value.int .u64 0])] [(29,rowPd 5 1 (32+32) (cells8 (sg)))] ⟨rfl,rfl,rfl,rfl,rfl,rfl,rfl,(congrArg (fun z=>some (SV.val (Value.int .u64 z))) (rn_2 r0 hs1 hs2)),rfl,trivial⟩ ⟨rfl,rfl,rfl,(congrArg (fun z=>some ([Value.int .u64 z]++[Value.int .u64 0]++[Value.int .u64 0]++[Value.int .u64 0])) (rn_s r0)),trivial⟩ ⟨rfl,trivial⟩ rfl⟩
   ·skip
    replace h:=h.keepQ [(1,.val (Value.slice (z) (n) (c))),(2,.val (Value.int .u8 ((N:Nat):Int))),(7,.unk 29 id),(8,.ptr 8 0),(9,.ptr 9 0),(11,.ptr 11 0),(12,.ptr 12 0),(13,.val ((Value.int IntKind.u64 0))),(14,.val ((Value.int IntKind.i64 0))),(16,.val (Value.bool false))] [(8,by32 (bz pl)),(9,nc (((S:Nat):Int))),(11,nc (Md)),(12,[Value.int .u64 (((((lw 0 (((S:Nat):Int)))+(lw 0 (Md))) % 18446744073709551616)+0) % 18446744073709551616)]++[Value.int .u64 0]++[Value.int .u64 0]++[Value.int .u64 0])] [(29,rowPd 5 1 (32+32) (cells8 (sg)))] ⟨rfl,rfl,rfl,rfl,rfl,rfl,rfl,rfl,rfl,(congrArg (fun z=>some (SV.val (Value.bool z))) (decide_eq_false hs2)),trivial⟩ ⟨rfl,rfl,rfl,rfl,trivial⟩ ⟨rfl,trivial⟩ rfl
    refine a_regionQ TTE h hm [] [eS 68 _] (by kernel_rfl) ⟨rfl,T0⟩ [(1,_),(2,_),(7,_),(8,_),(9,_),(11,_),(12,_),(13,_),(14,_),(68,.val (Value.bool false))] [(8,_),(9,_),(11,_),(12,_)] [(29,rowPd 5 1 (32+32) (cells8 (sg)))] ⟨rfl,rfl,rfl,rfl,rfl,rfl,rfl,rfl,rfl,rfl,T0⟩ ⟨rfl,rfl,rfl,rfl,T0⟩ ⟨rfl,T0⟩ rfl (fun a w h=>?_)
    refine go_cond h false rfl (fun ht=>?_) (fun hf=>?_)
    case refine_1=>cases ht
    refine wp_skip ?_
    refine blk_norm ?_
    exact ⟨rfl,h.keepQ [(1,.val (Value.slice (z) (n) (c))),(2,.val (Value.int .u8 ((N:Nat):Int))),(7,.unk 29 id),(8,.ptr 8 0),(9,.ptr 9 0),(11,.ptr 11 0),(12,.ptr 12 0),(13,.val (Value.int .u64 (C1))),(14,.val ((Value.int IntKind.i64 0)))] [(8,by32 (bz pl)),(9,nc (((S:Nat):Int))),(11,nc (Md)),(12,[Value.int .u64 (lw 0 ((X:Nat):Int))]++[Value.int .u64 0]++[Value.int .u64 0]++[Value.int .u64 0])] [(29,rowPd 5 1 (32+32) (cells8 (sg)))] ⟨rfl,rfl,rfl,rfl,rfl,rfl,rfl,(congrArg (fun z=>some (SV.val (Value.int .u64 z))) (rn_0 r0 hs1 hs2)),rfl,trivial⟩ ⟨rfl,rfl,rfl,(congrArg (fun z=>some ([Value.int .u64 z]++[Value.int .u64 0]++[Value.int .u64 0]++[Value.int .u64 0])) (rn_s r0)),trivial⟩ ⟨rfl,trivial⟩ rfl⟩
 ·skip
  refine then_norm ?_
  refine a_endQ TTE h hm [1] [eS 42 _,eS 43 (.val (Value.int .i64 1)),eS 14 _] (by kernel_rfl) ⟨rfl,fun L u=>u_bin u (gd0 rfl) _ rfl _ _ _ _ _ rfl rfl rfl (eqg_int _ _ _ _ _ _ _ _) _ (fun w=>i_add _ _ _ 1 (by decide) ⟨by decide,by decide⟩ w),rfl,T0⟩ [(1,_),(2,_),(7,_),(8,_),(9,_),(11,_),(12,_),(13,_),(14,.val (Value.int .i64 1))] [(8,_),(9,_),(11,_),(12,_)] [(29,rowPd 5 1 (32+32) (cells8 (sg)))] ⟨rfl,rfl,rfl,rfl,rfl,rfl,rfl,rfl,rfl,T0⟩ ⟨rfl,rfl,rfl,rfl,T0⟩ ⟨rfl,T0⟩ rfl (fun a w h=>?_)
  refine then_norm ?_
  rw [rounds_succ]
  refine wp_seq ?_
  refine a_regionQ TTE h hm [1] [eS 40 _,eS 41 (.val (Value.bool true))] (by kernel_rfl) ⟨rfl,fun L u=>u_bin u (gd0 rfl) _ rfl _ _ _ _ _ rfl rfl rfl (eqg_int _ _ _ _ _ _ _ _) _ (yes_of (fun w=>i_lss _ _ _ _ w) (by decide)),T0⟩ [(1,_),(2,_),(7,_),(8,_),(9,_),(11,_),(12,_),(13,_),(14,_),(41,.val (Value.bool true))] [(8,_),(9,_),(11,_),(12,_)] [(29,rowPd 5 1 (32+32) (cells8 (sg)))] ⟨rfl,rfl,rfl,rfl,rfl,rfl,rfl,rfl,rfl,rfl,T0⟩ ⟨rfl,rfl,rfl,rfl,T0⟩ ⟨rfl,T0⟩ rfl (fun a w h=>?_)
  refine go_cond h true rfl (fun ht=>?_) (fun hf=>?_)
  case refine_2=>cases hf
  refine wp_skip ?_
  refine then_norm ?_
  refine wp_seq ?_
  refine cut_norm (τ:=SS.mkQ [(1,.val (Value.slice (z) (n) (c))),(2,.val (Value.int .u8 ((N:Nat):Int))),(7,.unk 29 id),(8,.ptr 8 0),(9,.ptr 9 0),(11,.ptr 11 0),(12,.ptr 12 0),(13,.val (Value.int .u64 (C2))),(14,.val (Value.int .i64 1))] [(8,by32 (bz pl)),(9,nc (((S:Nat):Int))),(11,nc (Md)),(12,[Value.int .u64 (lw 0 ((X:Nat):Int))]++[Value.int .u64 (lw 1 ((X:Nat):Int))]++[Value.int .u64 0]++[Value.int .u64 0])] [(29,rowPd 5 1 (32+32) (cells8 (sg)))]) h ?_ (fun a w h=>?_)
  ·skip
   refine wp_block ?_
   refine a_regionQ TTE h hm [6] [eS 44 _,eS 45 _,eS 46 _,eS 47 _,eS 48 _,eS 49 _,eS 50 (.val (Value.int .u64 (((lw 1 (((S:Nat):Int)))+(lw 1 (Md))) % 18446744073709551616))),eS 15 _] (by kernel_rfl) ⟨rfl,rfl,rfl,rfl,rfl,rfl,fun L u=>u_bin u (gd0 rfl) _ rfl _ _ _ _ _ rfl rfl rfl (eqg_int _ _ _ _ _ _ _ _) _ (fun w=>i_addU _ _ _ (((lw 1 (((S:Nat):Int)))+(lw 1 (Md))) % 18446744073709551616) rfl w),rfl,T0⟩ [(1,_),(2,_),(7,_),(8,_),(9,_),(11,_),(12,_),(13,_),(14,_),(15,.val (Value.int .u64 (((lw 1 (((S:Nat):Int)))+(lw 1 (Md))) % 18446744073709551616)))] [(8,_),(9,_),(11,_),(12,_)] [(29,rowPd 5 1 (32+32) (cells8 (sg)))] ⟨rfl,rfl,rfl,rfl,rfl,rfl,rfl,rfl,rfl,rfl,T0⟩ ⟨rfl,rfl,rfl,rfl,T0⟩ ⟨rfl,T0⟩ rfl (fun a w h=>?_)
   refine a_regionQ TTE h hm [4] [eS 51 _,eS 52 _,eS 53 _,eS 54 _,eS 55 (.val (Value.bool (decide ((((lw 1 (((S:Nat):Int)))+(lw 1 (Md))) % 18446744073709551616)<(lw 1 (Md)))))),eS 16 _] (by kernel_rfl) ⟨rfl,rfl,rfl,rfl,fun L u=>u_bin u (gd0 rfl) _ rfl _ _ _ _ _ rfl rfl rfl (eqg_int _ _ _ _ _ _ _ _) _ (fun w=>i_lss _ _ _ _ w),rfl,T0⟩ [(1,_),(2,_),(7,_),(8,_),(9,_),(11,_),(12,_),(13,_),(14,_),(15,_),(16,.val (Value.bool (decide ((((lw 1 (((S:Nat):Int)))+(lw 1 (Md))) % 18446744073709551616)<(lw 1 (Md))))))] [(8,_),(9,_),(11,_),(12,_)] [(29,rowPd 5 1 (32+32) (cells8 (sg)))] ⟨rfl,rfl,rfl,rfl,rfl,rfl,rfl,rfl,rfl,rfl,rfl,T0⟩ ⟨rfl,rfl,rfl,rfl,T0⟩ ⟨rfl,T0⟩ rfl (fun a w h=>?_)
   refine a_regionQ TTE h hm [2] [eS 56 _,eS 57 _,eS 58 (.val (Value.int .u64 (((((lw 1 (((S:Nat):Int)))+(lw 1 (Md))) % 18446744073709551616)+(C1)) % 18446744073709551616))),eS 15 _] (by kernel_rfl) ⟨rfl,rfl,fun L u=>u_bin u (gd0 rfl) _ rfl _ _ _ _ _ rfl rfl rfl (eqg_int _ _ _ _ _ _ _ _) _ (fun w=>i_addU _ _ _ (((((lw 1 (((S:Nat):Int)))+(lw 1 (Md))) % 18446744073709551616)+(C1)) % 18446744073709551616) rfl w),rfl,T0⟩ [(1,_),(2,_),(7,_),(8,_),(9,_),(11,_),(12,_),(13,_),(14,_),(15,.val (Value.int .u64 (((((lw 1 (((S:Nat):Int)))+(lw 1 (Md))) % 18446744073709551616)+(C1)) % 18446744073709551616))),(16,_)] [(8,_),(9,_),(11,_),(12,_)] [(29,rowPd 5 1 (32+32) (cells8 (sg)))] ⟨rfl,rfl,rfl,rfl,rfl,rfl,rfl,rfl,rfl,rfl,rfl,T0⟩ ⟨rfl,rfl,rfl,rfl,T0⟩ ⟨rfl,T0⟩ rfl (fun a w h=>?_)
   by_cases hs3:(((lw 1 (((S:Nat):Int)))+(lw 1 (Md))) % 18446744073709551616)<(lw 1 (Md))
   ·skip
    replace h:=h.keepQ [(1,.val (Value.slice (z) (n) (c))),(2,.val (Value.int .u8 ((N:Nat):Int))),(7,.unk 29 id),(8,.ptr 8 0),(9,.ptr 9 0),(11,.ptr 11 0),(12,.ptr 12 0),(13,.val (Value.int .u64 (C1))),(14,.val (Value.int .i64 1)),(15,.val (Value.int .u64 (((((lw 1 (((S:Nat):Int)))+(lw 1 (Md))) % 18446744073709551616)+(C1)) % 18446744073709551616))),(16,.val (Value.bool true))] [(8,by32 (bz pl)),(9,nc (((S:Nat):Int))),(11,nc (Md)),(12,[Value.int .u64 (lw 0 ((X:Nat):Int))]++[Value.int .u64 0]++[Value.int .u64 0]++[Value.int .u64 0])] [(29,rowPd 5 1 (32+32) (cells8 (sg)))] ⟨rfl,rfl,rfl,rfl,rfl,rfl,rfl,rfl,rfl,rfl,(congrArg (fun z=>some (SV.val (Value.bool z))) (decide_eq_true hs3)),trivial⟩ ⟨rfl,rfl,rfl,rfl,trivial⟩ ⟨rfl,trivial⟩ rfl
    refine a_regionQ TTE h hm [] [eS 59 _,eS 60 _,eS 61 _,eS 62 _,eS 63 _,eS 64 _,eS 16 _] (by kernel_rfl) ⟨rfl,rfl,rfl,rfl,rfl,rfl,rfl,T0⟩ [(1,_),(2,_),(7,_),(8,_),(9,_),(11,_),(12,_),(14,_),(15,_),(16,_)] [(8,_),(9,_),(11,_),(12,_)] [(29,rowPd 5 1 (32+32) (cells8 (sg)))] ⟨rfl,rfl,rfl,rfl,rfl,rfl,rfl,rfl,rfl,rfl,T0⟩ ⟨rfl,rfl,rfl,rfl,T0⟩ ⟨rfl,T0⟩ rfl (fun a w h=>?_)
    refine a_regionQ TTE h hm [] [eS 65 _,eS 66 _,eS 67 _,eM 12 _] (by kernel_rfl) ⟨rfl,rfl,rfl,rfl,T0⟩ [(1,_),(2,_),(7,_),(8,_),(9,_),(11,_),(12,_),(14,_),(16,_)] [(8,_),(9,_),(11,_),(12,[Value.int .u64 (lw 0 ((X:Nat):Int))]++[Value.int .u64 (((((lw 1 (((S:Nat):Int)))+(lw 1 (Md))) % 18446744073709551616)+(C1)) % 18446744073709551616)]++[Value.int .u64 0]++[Value.int .u64 0])] [(29,rowPd 5 1 (32+32) (cells8 (sg)))] ⟨rfl,rfl,rfl,rfl,rfl,rfl,rfl,rfl,rfl,T0⟩ ⟨rfl,rfl,rfl,rfl,T0⟩ ⟨rfl,T0⟩ rfl (fun a w h=>?_)
    refine a_regionQ TTE h hm [] [eS 13 _] (by kernel_rfl) ⟨rfl,T0⟩ [(1,_),(2,_),(7,_),(8,_),(9,_),(11,_),(12,_),(13,.val ((Value.int IntKind.u64 0))),(14,_),(16,_)] [(8,_),(9,_),(11,_),(12,_)] [(29,rowPd 5 1 (32+32) (cells8 (sg)))] ⟨rfl,rfl,rfl,rfl,rfl,rfl,rfl,rfl,rfl,rfl,T0⟩ ⟨rfl,rfl,rfl,rfl,T0⟩ ⟨rfl,T0⟩ rfl (fun a w h=>?_)
    refine a_regionQ TTE h hm [] [eS 68 _] (by kernel_rfl) ⟨rfl,T0⟩ [(1,_),(2,_),(7,_),(8,_),(9,_),(11,_),(12,_),(13,_),(14,_),(68,.val (Value.bool true))] [(8,_),(9,_),(11,_),(12,_)] [(29,rowPd 5 1 (32+32) (cells8 (sg)))] ⟨rfl,rfl,rfl,rfl,rfl,rfl,rfl,rfl,rfl,rfl,T0⟩ ⟨rfl,rfl,rfl,rfl,T0⟩ ⟨rfl,T0⟩ rfl (fun a w h=>?_)
    refine go_cond h true rfl (fun ht=>?_) (fun hf=>?_)
    case refine_2=>cases hf
    refine a_endQ TTE h hm [] [eS 13 _] (by kernel_rfl) ⟨rfl,T0⟩ [(1,_),(2,_),(7,_),(8,_),(9,_),(11,_),(12,_),(13,.val ((Value.int IntKind.u64 1))),(14,_)] [(8,_),(9,_),(11,_),(12,_)] [(29,rowPd 5 1 (32+32) (cells8 (sg)))] ⟨rfl,rfl,rfl,rfl,rfl,rfl,rfl,rfl,rfl,T0⟩ ⟨rfl,rfl,rfl,rfl,T0⟩ ⟨rfl,T0⟩ rfl (fun a w h=>?_)
    refine blk_norm ?_
    exact ⟨rfl,h.keepQ [(1,.val (Value.slice (z) (n) (c))),(2,.val (Value.int .u8 ((N:Nat):Int))),(7,.unk 29 id),(8,.ptr 8 0),(9,.ptr 9 0),(11,.ptr 11 0),(12,.ptr 12 0),(13,.val (Value.int .u64 (C2))),(14,.val (Value.int .i64 1))] [(8,by32 (bz pl)),(9,nc (((S:Nat):Int))),(11,nc (Md)),(12,[Value.int .u64 (lw 0 ((X:Nat):Int))]++[Value.int .u64 (lw 1 ((X:Nat):Int))]++[Value.int .u64 0]++[Value.int .u64 0])] [(29,rowPd 5 1 (32+32) (cells8 (sg)))] ⟨rfl,rfl,rfl,rfl,rfl,rfl,rfl,(congrArg (fun z=>some (SV.val (Value.int .u64 z))) (rn_1 r1 hs3)),rfl,trivial⟩ ⟨rfl,rfl,rfl,(congrArg (fun z=>some ([Value.int .u64 (lw 0 ((X:Nat):Int))]++[Value.int .u64 z]++[Value.int .u64 0]++[Value.int .u64 0])) (rn_s r1)),trivial⟩ ⟨rfl,trivial⟩ rfl⟩
   ·skip
    replace h:=h.keepQ [(1,.val (Value.slice (z) (n) (c))),(2,.val (Value.int .u8 ((N:Nat):Int))),(7,.unk 29 id),(8,.ptr 8 0),(9,.ptr 9 0),(11,.ptr 11 0),(12,.ptr 12 0),(13,.val (Value.int .u64 (C1))),(14,.val (Value.int .i64 1)),(15,.val (Value.int .u64 (((((lw 1 (((S:Nat):Int)))+(lw 1 (Md))) % 18446744073709551616)+(C1)) % 18446744073709551616))),(16,.val (Value.bool false))] [(8,by32 (bz pl)),(9,nc (((S:Nat):Int))),(11,nc (Md)),(12,[Value.int .u64 (lw 0 ((X:Nat):Int))]++[Value.int .u64 0]++[Value.int .u64 0]++[Value.int .u64 0])] [(29,rowPd 5 1 (32+32) (cells8 (sg)))] ⟨rfl,rfl,rfl,rfl,rfl,rfl,rfl,rfl,rfl,rfl,(congrArg (fun z=>some (SV.val (Value.bool z))) (decide_eq_false hs3)),trivial⟩ ⟨rfl,rfl,rfl,rfl,trivial⟩ ⟨rfl,trivial⟩ rfl
    refine a_regionQ TTE h hm [4] [eS 59 _,eS 60 _,eS 61 _,eS 62 _,eS 63 (.val (Value.bool (decide ((((((lw 1 (((S:Nat):Int)))+(lw 1 (Md))) % 18446744073709551616)+(C1)) % 18446744073709551616)<(C1))))),eS 64 _,eS 16 _] (by kernel_rfl) ⟨rfl,rfl,rfl,rfl,fun L u=>u_bin u (gd1 u 1 false rfl 60 rfl (lk rfl) rfl) _ rfl _ _ _ _ _ rfl rfl rfl (eqg_int _ _ _ _ _ _ _ _) _ (fun w=>i_lss _ _ _ _ w),rfl,rfl,T0⟩ [(1,_),(2,_),(7,_),(8,_),(9,_),(11,_),(12,_),(14,_),(15,_),(16,.val (Value.bool (decide ((((((lw 1 (((S:Nat):Int)))+(lw 1 (Md))) % 18446744073709551616)+(C1)) % 18446744073709551616)<(C1)))))] [(8,_),(9,_),(11,_),(12,_)] [(29,rowPd 5 1 (32+32) (cells8 (sg)))] ⟨rfl,rfl,rfl,rfl,rfl,rfl,rfl,rfl,rfl,rfl,T0⟩ ⟨rfl,rfl,rfl,rfl,T0⟩ ⟨rfl,T0⟩ rfl (fun a w h=>?_)
    refine a_regionQ TTE h hm [] [eS 65 _,eS 66 _,eS 67 _,eM 12 _] (by kernel_rfl) ⟨rfl,rfl,rfl,rfl,T0⟩ [(1,_),(2,_),(7,_),(8,_),(9,_),(11,_),(12,_),(14,_),(16,_)] [(8,_),(9,_),(11,_),(12,[Value.int .u64 (lw 0 ((X:Nat):Int))]++[Value.int .u64 (((((lw 1 (((S:Nat):Int)))+(lw 1 (Md))) % 18446744073709551616)+(C1)) % 18446744073709551616)]++[Value.int .u64 0]++[Value.int .u64 0])] [(29,rowPd 5 1 (32+32) (cells8 (sg)))] ⟨rfl,rfl,rfl,rfl,rfl,rfl,rfl,rfl,rfl,T0⟩ ⟨rfl,rfl,rfl,rfl,T0⟩ ⟨rfl,T0⟩ rfl (fun a w h=>?_)
    refine a_regionQ TTE h hm [] [eS 13 _] (by kernel_rfl) ⟨rfl,T0⟩ [(1,_),(2,_),(7,_),(8,_),(9,_),(11,_),(12,_),(13,.val ((Value.int IntKind.u64 0))),(14,_),(16,_)] [(8,_),(9,_),(11,_),(12,_)] [(29,rowPd 5 1 (32+32) (cells8 (sg)))] ⟨rfl,rfl,rfl,rfl,rfl,rfl,rfl,rfl,rfl,rfl,T0⟩ ⟨rfl,rfl,rfl,rfl,T0⟩ ⟨rfl,T0⟩ rfl (fun a w h=>?_)
    by_cases hs4:(((((lw 1 (((S:Nat):Int)))+(lw 1 (Md))) % 18446744073709551616)+(C1)) % 18446744073709551616)<(C1)
    ·skip
     replace h:=h.keepQ [(1,.val (Value.slice (z) (n) (c))),(2,.val (Value.int .u8 ((N:Nat):Int))),(7,.unk 29 id),(8,.ptr 8 0),(9,.ptr 9 0),(11,.ptr 11 0),(12,.ptr 12 0),(13,.val ((Value.int IntKind.u64 0))),(14,.val (Value.int .i64 1)),(16,.val (Value.bool true))] [(8,by32 (bz pl)),(9,nc (((S:Nat):Int))),(11,nc (Md)),(12,[Value.int .u64 (lw 0 ((X:Nat):Int))]++[Value.int .u64 (((((lw 1 (((S:Nat):Int)))+(lw 1 (Md))) % 18446744073709551616)+(C1)) % 18446744073709551616)]++[Value.int .u64 0]++[Value.int .u64 0])] [(29,rowPd 5 1 (32+32) (cells8 (sg)))] ⟨rfl,rfl,rfl,rfl,rfl,rfl,rfl,rfl,rfl,(congrArg (fun z=>some (SV.val (Value.bool z))) (decide_eq_true hs4)),trivial⟩ ⟨rfl,rfl,rfl,rfl,trivial⟩ ⟨rfl,trivial⟩ rfl
     refine a_regionQ TTE h hm [] [eS 68 _] (by kernel_rfl) ⟨rfl,T0⟩ [(1,_),(2,_),(7,_),(8,_),(9,_),(11,_),(12,_),(13,_),(14,_),(68,.val (Value.bool true))] [(8,_),(9,_),(11,_),(12,_)] [(29,rowPd 5 1 (32+32) (cells8 (sg)))] ⟨rfl,rfl,rfl,rfl,rfl,rfl,rfl,rfl,rfl,rfl,T0⟩ ⟨rfl,rfl,rfl,rfl,T0⟩ ⟨rfl,T0⟩ rfl (fun a w h=>?_)
     refine go_cond h true rfl (fun ht=>?_) (fun hf=>?_)
     case refine_2=>cases hf
     refine a_endQ TTE h hm [] [eS 13 _] (by kernel_rfl) ⟨rfl,T0⟩ [(1,_),(2,_),(7,_),(8,_),(9,_),(11,_),(12,_),(13,.val ((Value.int IntKind.u64 1))),(14,_)] [(8,_),(9,_),(11,_),(12,_)] [(29,rowPd 5 1 (32+32) (cells8 (sg)))] ⟨rfl,rfl,rfl,rfl,rfl,rfl,rfl,rfl,rfl,T0⟩ ⟨rfl,rfl,rfl,rfl,T0⟩ ⟨rfl,T0⟩ rfl (fun a w h=>?_)
     refine blk_norm ?_
     exact ⟨rfl,h.keepQ [(1,.val (Value.slice (z) (n) (c))),(2,.val (Value.int .u8 ((N:Nat):Int))),(7,.unk 29 id),(8,.ptr 8 0),(9,.ptr 9 0),(11,.ptr 11 0),(12,.ptr 12 0),(13,.val (Value.int .u64 (C2))),(14,.val (Value.int .i64 1))] [(8,by32 (bz pl)),(9,nc (((S:Nat):Int))),(11,nc (Md)),(12,[Value.int .u64 (lw 0 ((X:Nat):Int))]++[Value.int .u64 (lw 1 ((X:Nat):Int))]++[Value.int .u64 0]++[Value.int .u64 0])] [(29,rowPd 5 1 (32+32) (cells8 (sg)))] ⟨rfl,rfl,rfl,rfl,rfl,rfl,rfl,(congrArg (fun z=>some (SV.val (Value.int .u64 z))) (rn_2 r1 hs3 hs4)),rfl,trivial⟩ ⟨rfl,rfl,rfl,(congrArg (fun z=>some ([Value.int .u64 (lw 0 ((X:Nat):Int))]++[Value.int .u64 z]++[Value.int .u64 0]++[Value.int .u64 0])) (rn_s r1)),trivial⟩ ⟨rfl,trivial⟩ rfl⟩
    ·skip
     replace h:=h.keepQ [(1,.val (Value.slice (z) (n) (c))),(2,.val (Value.int .u8 ((N:Nat):Int))),(7,.unk 29 id),(8,.ptr 8 0),(9,.ptr 9 0),(11,.ptr 11 0),(12,.ptr 12 0),(13,.val ((Value.int IntKind.u64 0))),(14,.val (Value.int .i64 1)),(16,.val (Value.bool false))] [(8,by32 (bz pl)),(9,nc (((S:Nat):Int))),(11,nc (Md)),(12,[Value.int .u64 (lw 0 ((X:Nat):Int))]++[Value.int .u64 (((((lw 1 (((S:Nat):Int)))+(lw 1 (Md))) % 18446744073709551616)+(C1)) % 18446744073709551616)]++[Value.int .u64 0]++[Value.int .u64 0])] [(29,rowPd 5 1 (32+32) (cells8 (sg)))] ⟨rfl,rfl,rfl,rfl,rfl,rfl,rfl,rfl,rfl,(congrArg (fun z=>some (SV.val (Value.bool z))) (decide_eq_false hs4)),trivial⟩ ⟨rfl,rfl,rfl,rfl,trivial⟩ ⟨rfl,trivial⟩ rfl
     refine a_regionQ TTE h hm [] [eS 68 _] (by kernel_rfl) ⟨rfl,T0⟩ [(1,_),(2,_),(7,_),(8,_),(9,_),(11,_),(12,_),(13,_),(14,_),(68,.val (Value.bool false))] [(8,_),(9,_),(11,_),(12,_)] [(29,rowPd 5 1 (32+32) (cells8 (sg)))] ⟨rfl,rfl,rfl,rfl,rfl,rfl,rfl,rfl,rfl,rfl,T0⟩ ⟨rfl,rfl,rfl,rfl,T0⟩ ⟨rfl,T0⟩ rfl (fun a w h=>?_)
     refine go_cond h false rfl (fun ht=>?_) (fun hf=>?_)
     case refine_1=>cases ht
     refine wp_skip ?_
     refine blk_norm ?_
     exact ⟨rfl,h.keepQ [(1,.val (Value.slice (z) (n) (c))),(2,.val (Value.int .u8 ((N:Nat):Int))),(7,.unk 29 id),(8,.ptr 8 0),(9,.ptr 9 0),(11,.ptr 11 0),(12,.ptr 12 0),(13,.val (Value.int .u64 (C2))),(14,.val (Value.int .i64 1))] [(8,by32 (bz pl)),(9,nc (((S:Nat):Int))),(11,nc (Md)),(12,[Value.int .u64 (lw 0 ((X:Nat):Int))]++[Value.int .u64 (lw 1 ((X:Nat):Int))]++[Value.int .u64 0]++[Value.int .u64 0])] [(29,rowPd 5 1 (32+32) (cells8 (sg)))] ⟨rfl,rfl,rfl,rfl,rfl,rfl,rfl,(congrArg (fun z=>some (SV.val (Value.int .u64 z))) (rn_0 r1 hs3 hs4)),rfl,trivial⟩ ⟨rfl,rfl,rfl,(congrArg (fun z=>some ([Value.int .u64 (lw 0 ((X:Nat):Int))]++[Value.int .u64 z]++[Value.int .u64 0]++[Value.int .u64 0])) (rn_s r1)),trivial⟩ ⟨rfl,trivial⟩ rfl⟩
  ·skip
   refine then_norm ?_
   refine a_endQ TTE h hm [1] [eS 42 _,eS 43 (.val (Value.int .i64 2)),eS 14 _] (by kernel_rfl) ⟨rfl,fun L u=>u_bin u (gd0 rfl) _ rfl _ _ _ _ _ rfl rfl rfl (eqg_int _ _ _ _ _ _ _ _) _ (fun w=>i_add _ _ _ 2 (by decide) ⟨by decide,by decide⟩ w),rfl,T0⟩ [(1,_),(2,_),(7,_),(8,_),(9,_),(11,_),(12,_),(13,_),(14,.val (Value.int .i64 2))] [(8,_),(9,_),(11,_),(12,_)] [(29,rowPd 5 1 (32+32) (cells8 (sg)))] ⟨rfl,rfl,rfl,rfl,rfl,rfl,rfl,rfl,rfl,T0⟩ ⟨rfl,rfl,rfl,rfl,T0⟩ ⟨rfl,T0⟩ rfl (fun a w h=>?_)
   refine then_norm ?_
   rw [rounds_succ]
   refine wp_seq ?_
   refine a_regionQ TTE h hm [1] [eS 40 _,eS 41 (.val (Value.bool true))] (by kernel_rfl) ⟨rfl,fun L u=>u_bin u (gd0 rfl) _ rfl _ _ _ _ _ rfl rfl rfl (eqg_int _ _ _ _ _ _ _ _) _ (yes_of (fun w=>i_lss _ _ _ _ w) (by decide)),T0⟩ [(1,_),(2,_),(7,_),(8,_),(9,_),(11,_),(12,_),(13,_),(14,_),(41,.val (Value.bool true))] [(8,_),(9,_),(11,_),(12,_)] [(29,rowPd 5 1 (32+32) (cells8 (sg)))] ⟨rfl,rfl,rfl,rfl,rfl,rfl,rfl,rfl,rfl,rfl,T0⟩ ⟨rfl,rfl,rfl,rfl,T0⟩ ⟨rfl,T0⟩ rfl (fun a w h=>?_)
   refine go_cond h true rfl (fun ht=>?_) (fun hf=>?_)
   case refine_2=>cases hf
   refine wp_skip ?_
   refine then_norm ?_
   refine wp_seq ?_
   refine cut_norm (τ:=SS.mkQ [(1,.val (Value.slice (z) (n) (c))),(2,.val (Value.int .u8 ((N:Nat):Int))),(7,.unk 29 id),(8,.ptr 8 0),(9,.ptr 9 0),(11,.ptr 11 0),(12,.ptr 12 0),(13,.val (Value.int .u64 (C3))),(14,.val (Value.int .i64 2))] [(8,by32 (bz pl)),(9,nc (((S:Nat):Int))),(11,nc (Md)),(12,[Value.int .u64 (lw 0 ((X:Nat):Int))]++[Value.int .u64 (lw 1 ((X:Nat):Int))]++[Value.int .u64 (lw 2 ((X:Nat):Int))]++[Value.int .u64 0])] [(29,rowPd 5 1 (32+32) (cells8 (sg)))]) h ?_ (fun a w h=>?_)
   ·skip
    refine wp_block ?_
    refine a_regionQ TTE h hm [6] [eS 44 _,eS 45 _,eS 46 _,eS 47 _,eS 48 _,eS 49 _,eS 50 (.val (Value.int .u64 (((lw 2 (((S:Nat):Int)))+(lw 2 (Md))) % 18446744073709551616))),eS 15 _] (by kernel_rfl) ⟨rfl,rfl,rfl,rfl,rfl,rfl,fun L u=>u_bin u (gd0 rfl) _ rfl _ _ _ _ _ rfl rfl rfl (eqg_int _ _ _ _ _ _ _ _) _ (fun w=>i_addU _ _ _ (((lw 2 (((S:Nat):Int)))+(lw 2 (Md))) % 18446744073709551616) rfl w),rfl,T0⟩ [(1,_),(2,_),(7,_),(8,_),(9,_),(11,_),(12,_),(13,_),(14,_),(15,.val (Value.int .u64 (((lw 2 (((S:Nat):Int)))+(lw 2 (Md))) % 18446744073709551616)))] [(8,_),(9,_),(11,_),(12,_)] [(29,rowPd 5 1 (32+32) (cells8 (sg)))] ⟨rfl,rfl,rfl,rfl,rfl,rfl,rfl,rfl,rfl,rfl,T0⟩ ⟨rfl,rfl,rfl,rfl,T0⟩ ⟨rfl,T0⟩ rfl (fun a w h=>?_)
    refine a_regionQ TTE h hm [4] [eS 51 _,eS 52 _,eS 53 _,eS 54 _,eS 55 (.val (Value.bool (decide ((((lw 2 (((S:Nat):Int)))+(lw 2 (Md))) % 18446744073709551616)<(lw 2 (Md)))))),eS 16 _] (by kernel_rfl) ⟨rfl,rfl,rfl,rfl,fun L u=>u_bin u (gd0 rfl) _ rfl _ _ _ _ _ rfl rfl rfl (eqg_int _ _ _ _ _ _ _ _) _ (fun w=>i_lss _ _ _ _ w),rfl,T0⟩ [(1,_),(2,_),(7,_),(8,_),(9,_),(11,_),(12,_),(13,_),(14,_),(15,_),(16,.val (Value.bool (decide ((((lw 2 (((S:Nat):Int)))+(lw 2 (Md))) % 18446744073709551616)<(lw 2 (Md))))))] [(8,_),(9,_),(11,_),(12,_)] [(29,rowPd 5 1 (32+32) (cells8 (sg)))] ⟨rfl,rfl,rfl,rfl,rfl,rfl,rfl,rfl,rfl,rfl,rfl,T0⟩ ⟨rfl,rfl,rfl,rfl,T0⟩ ⟨rfl,T0⟩ rfl (fun a w h=>?_)
    refine a_regionQ TTE h hm [2] [eS 56 _,eS 57 _,eS 58 (.val (Value.int .u64 (((((lw 2 (((S:Nat):Int)))+(lw 2 (Md))) % 18446744073709551616)+(C2)) % 18446744073709551616))),eS 15 _] (by kernel_rfl) ⟨rfl,rfl,fun L u=>u_bin u (gd0 rfl) _ rfl _ _ _ _ _ rfl rfl rfl (eqg_int _ _ _ _ _ _ _ _) _ (fun w=>i_addU _ _ _ (((((lw 2 (((S:Nat):Int)))+(lw 2 (Md))) % 18446744073709551616)+(C2)) % 18446744073709551616) rfl w),rfl,T0⟩ [(1,_),(2,_),(7,_),(8,_),(9,_),(11,_),(12,_),(13,_),(14,_),(15,.val (Value.int .u64 (((((lw 2 (((S:Nat):Int)))+(lw 2 (Md))) % 18446744073709551616)+(C2)) % 18446744073709551616))),(16,_)] [(8,_),(9,_),(11,_),(12,_)] [(29,rowPd 5 1 (32+32) (cells8 (sg)))] ⟨rfl,rfl,rfl,rfl,rfl,rfl,rfl,rfl,rfl,rfl,rfl,T0⟩ ⟨rfl,rfl,rfl,rfl,T0⟩ ⟨rfl,T0⟩ rfl (fun a w h=>?_)
    by_cases hs5:(((lw 2 (((S:Nat):Int)))+(lw 2 (Md))) % 18446744073709551616)<(lw 2 (Md))
    ·skip
     replace h:=h.keepQ [(1,.val (Value.slice (z) (n) (c))),(2,.val (Value.int .u8 ((N:Nat):Int))),(7,.unk 29 id),(8,.ptr 8 0),(9,.ptr 9 0),(11,.ptr 11 0),(12,.ptr 12 0),(13,.val (Value.int .u64 (C2))),(14,.val (Value.int .i64 2)),(15,.val (Value.int .u64 (((((lw 2 (((S:Nat):Int)))+(lw 2 (Md))) % 18446744073709551616)+(C2)) % 18446744073709551616))),(16,.val (Value.bool true))] [(8,by32 (bz pl)),(9,nc (((S:Nat):Int))),(11,nc (Md)),(12,[Value.int .u64 (lw 0 ((X:Nat):Int))]++[Value.int .u64 (lw 1 ((X:Nat):Int))]++[Value.int .u64 0]++[Value.int .u64 0])] [(29,rowPd 5 1 (32+32) (cells8 (sg)))] ⟨rfl,rfl,rfl,rfl,rfl,rfl,rfl,rfl,rfl,rfl,(congrArg (fun z=>some (SV.val (Value.bool z))) (decide_eq_true hs5)),trivial⟩ ⟨rfl,rfl,rfl,rfl,trivial⟩ ⟨rfl,trivial⟩ rfl
     refine a_regionQ TTE h hm [] [eS 59 _,eS 60 _,eS 61 _,eS 62 _,eS 63 _,eS 64 _,eS 16 _] (by kernel_rfl) ⟨rfl,rfl,rfl,rfl,rfl,rfl,rfl,T0⟩ [(1,_),(2,_),(7,_),(8,_),(9,_),(11,_),(12,_),(14,_),(15,_),(16,_)] [(8,_),(9,_),(11,_),(12,_)] [(29,rowPd 5 1 (32+32) (cells8 (sg)))] ⟨rfl,rfl,rfl,rfl,rfl,rfl,rfl,rfl,rfl,rfl,T0⟩ ⟨rfl,rfl,rfl,rfl,T0⟩ ⟨rfl,T0⟩ rfl (fun a w h=>?_)
     refine a_regionQ TTE h hm [] [eS 65 _,eS 66 _,eS 67 _,eM 12 _] (by kernel_rfl) ⟨rfl,rfl,rfl,rfl,T0⟩ [(1,_),(2,_),(7,_),(8,_),(9,_),(11,_),(12,_),(14,_),(16,_)] [(8,_),(9,_),(11,_),(12,[Value.int .u64 (lw 0 ((X:Nat):Int))]++[Value.int .u64 (lw 1 ((X:Nat):Int))]++[Value.int .u64 (((((lw 2 (((S:Nat):Int)))+(lw 2 (Md))) % 18446744073709551616)+(C2)) % 18446744073709551616)]++[Value.int .u64 0])] [(29,rowPd 5 1 (32+32) (cells8 (sg)))] ⟨rfl,rfl,rfl,rfl,rfl,rfl,rfl,rfl,rfl,T0⟩ ⟨rfl,rfl,rfl,rfl,T0⟩ ⟨rfl,T0⟩ rfl (fun a w h=>?_)
     refine a_regionQ TTE h hm [] [eS 13 _] (by kernel_rfl) ⟨rfl,T0⟩ [(1,_),(2,_),(7,_),(8,_),(9,_),(11,_),(12,_),(13,.val ((Value.int IntKind.u64 0))),(14,_),(16,_)] [(8,_),(9,_),(11,_),(12,_)] [(29,rowPd 5 1 (32+32) (cells8 (sg)))] ⟨rfl,rfl,rfl,rfl,rfl,rfl,rfl,rfl,rfl,rfl,T0⟩ ⟨rfl,rfl,rfl,rfl,T0⟩ ⟨rfl,T0⟩ rfl (fun a w h=>?_)
     refine a_regionQ TTE h hm [] [eS 68 _] (by kernel_rfl) ⟨rfl,T0⟩ [(1,_),(2,_),(7,_),(8,_),(9,_),(11,_),(12,_),(13,_),(14,_),(68,.val (Value.bool true))] [(8,_),(9,_),(11,_),(12,_)] [(29,rowPd 5 1 (32+32) (cells8 (sg)))] ⟨rfl,rfl,rfl,rfl,rfl,rfl,rfl,rfl,rfl,rfl,T0⟩ ⟨rfl,rfl,rfl,rfl,T0⟩ ⟨rfl,T0⟩ rfl (fun a w h=>?_)
     refine go_cond h true rfl (fun ht=>?_) (fun hf=>?_)
     case refine_2=>cases hf
     refine a_endQ TTE h hm [] [eS 13 _] (by kernel_rfl) ⟨rfl,T0⟩ [(1,_),(2,_),(7,_),(8,_),(9,_),(11,_),(12,_),(13,.val ((Value.int IntKind.u64 1))),(14,_)] [(8,_),(9,_),(11,_),(12,_)] [(29,rowPd 5 1 (32+32) (cells8 (sg)))] ⟨rfl,rfl,rfl,rfl,rfl,rfl,rfl,rfl,rfl,T0⟩ ⟨rfl,rfl,rfl,rfl,T0⟩ ⟨rfl,T0⟩ rfl (fun a w h=>?_)
     refine blk_norm ?_
     exact ⟨rfl,h.keepQ [(1,.val (Value.slice (z) (n) (c))),(2,.val (Value.int .u8 ((N:Nat):Int))),(7,.unk 29 id),(8,.ptr 8 0),(9,.ptr 9 0),(11,.ptr 11 0),(12,.ptr 12 0),(13,.val (Value.int .u64 (C3))),(14,.val (Value.int .i64 2))] [(8,by32 (bz pl)),(9,nc (((S:Nat):Int))),(11,nc (Md)),(12,[Value.int .u64 (lw 0 ((X:Nat):Int))]++[Value.int .u64 (lw 1 ((X:Nat):Int))]++[Value.int .u64 (lw 2 ((X:Nat):Int))]++[Value.int .u64 0])] [(29,rowPd 5 1 (32+32) (cells8 (sg)))] ⟨rfl,rfl,rfl,rfl,rfl,rfl,rfl,(congrArg (fun z=>some (SV.val (Value.int .u64 z))) (rn_1 r2 hs5)),rfl,trivial⟩ ⟨rfl,rfl,rfl,(congrArg (fun z=>some ([Value.int .u64 (lw 0 ((X:Nat):Int))]++[Value.int .u64 (lw 1 ((X:Nat):Int))]++[Value.int .u64 z]++[Value.int .u64 0])) (rn_s r2)),trivial⟩ ⟨rfl,trivial⟩ rfl⟩
    ·skip
     replace h:=h.keepQ [(1,.val (Value.slice (z) (n) (c))),(2,.val (Value.int .u8 ((N:Nat):Int))),(7,.unk 29 id),(8,.ptr 8 0),(9,.ptr 9 0),(11,.ptr 11 0),(12,.ptr 12 0),(13,.val (Value.int .u64 (C2))),(14,.val (Value.int .i64 2)),(15,.val (Value.int .u64 (((((lw 2 (((S:Nat):Int)))+(lw 2 (Md))) % 18446744073709551616)+(C2)) % 18446744073709551616))),(16,.val (Value.bool false))] [(8,by32 (bz pl)),(9,nc (((S:Nat):Int))),(11,nc (Md)),(12,[Value.int .u64 (lw 0 ((X:Nat):Int))]++[Value.int .u64 (lw 1 ((X:Nat):Int))]++[Value.int .u64 0]++[Value.int .u64 0])] [(29,rowPd 5 1 (32+32) (cells8 (sg)))] ⟨rfl,rfl,rfl,rfl,rfl,rfl,rfl,rfl,rfl,rfl,(congrArg (fun z=>some (SV.val (Value.bool z))) (decide_eq_false hs5)),trivial⟩ ⟨rfl,rfl,rfl,rfl,trivial⟩ ⟨rfl,trivial⟩ rfl
     refine a_regionQ TTE h hm [4] [eS 59 _,eS 60 _,eS 61 _,eS 62 _,eS 63 (.val (Value.bool (decide ((((((lw 2 (((S:Nat):Int)))+(lw 2 (Md))) % 18446744073709551616)+(C2)) % 18446744073709551616)<(C2))))),eS 64 _,eS 16 _] (by kernel_rfl) ⟨rfl,rfl,rfl,rfl,fun L u=>u_bin u (gd1 u 1 false rfl 60 rfl (lk rfl) rfl) _ rfl _ _ _ _ _ rfl rfl rfl (eqg_int _ _ _ _ _ _ _ _) _ (fun w=>i_lss _ _ _ _ w),rfl,rfl,T0⟩ [(1,_),(2,_),(7,_),(8,_),(9,_),(11,_),(12,_),(14,_),(15,_),(16,.val (Value.bool (decide ((((((lw 2 (((S:Nat):Int)))+(lw 2 (Md))) % 18446744073709551616)+(C2)) % 18446744073709551616)<(C2)))))] [(8,_),(9,_),(11,_),(12,_)] [(29,rowPd 5 1 (32+32) (cells8 (sg)))] ⟨rfl,rfl,rfl,rfl,rfl,rfl,rfl,rfl,rfl,rfl,T0⟩ ⟨rfl,rfl,rfl,rfl,T0⟩ ⟨rfl,T0⟩ rfl (fun a w h=>?_)
     refine a_regionQ TTE h hm [] [eS 65 _,eS 66 _,eS 67 _,eM 12 _] (by kernel_rfl) ⟨rfl,rfl,rfl,rfl,T0⟩ [(1,_),(2,_),(7,_),(8,_),(9,_),(11,_),(12,_),(14,_),(16,_)] [(8,_),(9,_),(11,_),(12,[Value.int .u64 (lw 0 ((X:Nat):Int))]++[Value.int .u64 (lw 1 ((X:Nat):Int))]++[Value.int .u64 (((((lw 2 (((S:Nat):Int)))+(lw 2 (Md))) % 18446744073709551616)+(C2)) % 18446744073709551616)]++[Value.int .u64 0])] [(29,rowPd 5 1 (32+32) (cells8 (sg)))] ⟨rfl,rfl,rfl,rfl,rfl,rfl,rfl,rfl,rfl,T0⟩ ⟨rfl,rfl,rfl,rfl,T0⟩ ⟨rfl,T0⟩ rfl (fun a w h=>?_)
     refine a_regionQ TTE h hm [] [eS 13 _] (by kernel_rfl) ⟨rfl,T0⟩ [(1,_),(2,_),(7,_),(8,_),(9,_),(11,_),(12,_),(13,.val ((Value.int IntKind.u64 0))),(14,_),(16,_)] [(8,_),(9,_),(11,_),(12,_)] [(29,rowPd 5 1 (32+32) (cells8 (sg)))] ⟨rfl,rfl,rfl,rfl,rfl,rfl,rfl,rfl,rfl,rfl,T0⟩ ⟨rfl,rfl,rfl,rfl,T0⟩ ⟨rfl,T0⟩ rfl (fun a w h=>?_)
     by_cases hs6:(((((lw 2 (((S:Nat):Int)))+(lw 2 (Md))) % 18446744073709551616)+(C2)) % 18446744073709551616)<(C2)
     ·skip
      replace h:=h.keepQ [(1,.val (Value.slice (z) (n) (c))),(2,.val (Value.int .u8 ((N:Nat):Int))),(7,.unk 29 id),(8,.ptr 8 0),(9,.ptr 9 0),(11,.ptr 11 0),(12,.ptr 12 0),(13,.val ((Value.int IntKind.u64 0))),(14,.val (Value.int .i64 2)),(16,.val (Value.bool true))] [(8,by32 (bz pl)),(9,nc (((S:Nat):Int))),(11,nc (Md)),(12,[Value.int .u64 (lw 0 ((X:Nat):Int))]++[Value.int .u64 (lw 1 ((X:Nat):Int))]++[Value.int .u64 (((((lw 2 (((S:Nat):Int)))+(lw 2 (Md))) % 18446744073709551616)+(C2)) % 18446744073709551616)]++[Value.int .u64 0])] [(29,rowPd 5 1 (32+32) (cells8 (sg)))] ⟨rfl,rfl,rfl,rfl,rfl,rfl,rfl,rfl,rfl,(congrArg (fun z=>some (SV.val (Value.bool z))) (decide_eq_true hs6)),trivial⟩ ⟨rfl,rfl,rfl,rfl,trivial⟩ ⟨rfl,trivial⟩ rfl
      refine a_regionQ TTE h hm [] [eS 68 _] (by kernel_rfl) ⟨rfl,T0⟩ [(1,_),(2,_),(7,_),(8,_),(9,_),(11,_),(12,_),(13,_),(14,_),(68,.val (Value.bool true))] [(8,_),(9,_),(11,_),(12,_)] [(29,rowPd 5 1 (32+32) (cells8 (sg)))] ⟨rfl,rfl,rfl,rfl,rfl,rfl,rfl,rfl,rfl,rfl,T0⟩ ⟨rfl,rfl,rfl,rfl,T0⟩ ⟨rfl,T0⟩ rfl (fun a w h=>?_)
      refine go_cond h true rfl (fun ht=>?_) (fun hf=>?_)
      case refine_2=>cases hf
      refine a_endQ TTE h hm [] [eS 13 _] (by kernel_rfl) ⟨rfl,T0⟩ [(1,_),(2,_),(7,_),(8,_),(9,_),(11,_),(12,_),(13,.val ((Value.int IntKind.u64 1))),(14,_)] [(8,_),(9,_),(11,_),(12,_)] [(29,rowPd 5 1 (32+32) (cells8 (sg)))] ⟨rfl,rfl,rfl,rfl,rfl,rfl,rfl,rfl,rfl,T0⟩ ⟨rfl,rfl,rfl,rfl,T0⟩ ⟨rfl,T0⟩ rfl (fun a w h=>?_)
      refine blk_norm ?_
      exact ⟨rfl,h.keepQ [(1,.val (Value.slice (z) (n) (c))),(2,.val (Value.int .u8 ((N:Nat):Int))),(7,.unk 29 id),(8,.ptr 8 0),(9,.ptr 9 0),(11,.ptr 11 0),(12,.ptr 12 0),(13,.val (Value.int .u64 (C3))),(14,.val (Value.int .i64 2))] [(8,by32 (bz pl)),(9,nc (((S:Nat):Int))),(11,nc (Md)),(12,[Value.int .u64 (lw 0 ((X:Nat):Int))]++[Value.int .u64 (lw 1 ((X:Nat):Int))]++[Value.int .u64 (lw 2 ((X:Nat):Int))]++[Value.int .u64 0])] [(29,rowPd 5 1 (32+32) (cells8 (sg)))] ⟨rfl,rfl,rfl,rfl,rfl,rfl,rfl,(congrArg (fun z=>some (SV.val (Value.int .u64 z))) (rn_2 r2 hs5 hs6)),rfl,trivial⟩ ⟨rfl,rfl,rfl,(congrArg (fun z=>some ([Value.int .u64 (lw 0 ((X:Nat):Int))]++[Value.int .u64 (lw 1 ((X:Nat):Int))]++[Value.int .u64 z]++[Value.int .u64 0])) (rn_s r2)),trivial⟩ ⟨rfl,trivial⟩ rfl⟩
     ·skip
      replace h:=h.keepQ [(1,.val (Value.slice (z) (n) (c))),(2,.val (Value.int .u8 ((N:Nat):Int))),(7,.unk 29 id),(8,.ptr 8 0),(9,.ptr 9 0),(11,.ptr 11 0),(12,.ptr 12 0),(13,.val ((Value.int IntKind.u64 0))),(14,.val (Value.int .i64 2)),(16,.val (Value.bool false))] [(8,by32 (bz pl)),(9,nc (((S:Nat):Int))),(11,nc (Md)),(12,[Value.int .u64 (lw 0 ((X:Nat):Int))]++[Value.int .u64 (lw 1 ((X:Nat):Int))]++[Value.int .u64 (((((lw 2 (((S:Nat):Int)))+(lw 2 (Md))) % 18446744073709551616)+(C2)) % 18446744073709551616)]++[Value.int .u64 0])] [(29,rowPd 5 1 (32+32) (cells8 (sg)))] ⟨rfl,rfl,rfl,rfl,rfl,rfl,rfl,rfl,rfl,(congrArg (fun z=>some (SV.val (Value.bool z))) (decide_eq_false hs6)),trivial⟩ ⟨rfl,rfl,rfl,rfl,trivial⟩ ⟨rfl,trivial⟩ rfl
      refine a_regionQ TTE h hm [] [eS 68 _] (by kernel_rfl) ⟨rfl,T0⟩ [(1,_),(2,_),(7,_),(8,_),(9,_),(11,_),(12,_),(13,_),(14,_),(68,.val (Value.bool false))] [(8,_),(9,_),(11,_),(12,_)] [(29,rowPd 5 1 (32+32) (cells8 (sg)))] ⟨rfl,rfl,rfl,rfl,rfl,rfl,rfl,rfl,rfl,rfl,T0⟩ ⟨rfl,rfl,rfl,rfl,T0⟩ ⟨rfl,T0⟩ rfl (fun a w h=>?_)
      refine go_cond h false rfl (fun ht=>?_) (fun hf=>?_)
      case refine_1=>cases ht
      refine wp_skip ?_
      refine blk_norm ?_
      exact ⟨rfl,h.keepQ [(1,.val (Value.slice (z) (n) (c))),(2,.val (Value.int .u8 ((N:Nat):Int))),(7,.unk 29 id),(8,.ptr 8 0),(9,.ptr 9 0),(11,.ptr 11 0),(12,.ptr 12 0),(13,.val (Value.int .u64 (C3))),(14,.val (Value.int .i64 2))] [(8,by32 (bz pl)),(9,nc (((S:Nat):Int))),(11,nc (Md)),(12,[Value.int .u64 (lw 0 ((X:Nat):Int))]++[Value.int .u64 (lw 1 ((X:Nat):Int))]++[Value.int .u64 (lw 2 ((X:Nat):Int))]++[Value.int .u64 0])] [(29,rowPd 5 1 (32+32) (cells8 (sg)))] ⟨rfl,rfl,rfl,rfl,rfl,rfl,rfl,(congrArg (fun z=>some (SV.val (Value.int .u64 z))) (rn_0 r2 hs5 hs6)),rfl,trivial⟩ ⟨rfl,rfl,rfl,(congrArg (fun z=>some ([Value.int .u64 (lw 0 ((X:Nat):Int))]++[Value.int .u64 (lw 1 ((X:Nat):Int))]++[Value.int .u64 z]++[Value.int .u64 0])) (rn_s r2)),trivial⟩ ⟨rfl,trivial⟩ rfl⟩
   ·skip
    refine then_norm ?_
    refine a_endQ TTE h hm [1] [eS 42 _,eS 43 (.val (Value.int .i64 3)),eS 14 _] (by kernel_rfl) ⟨rfl,fun L u=>u_bin u (gd0 rfl) _ rfl _ _ _ _ _ rfl rfl rfl (eqg_int _ _ _ _ _ _ _ _) _ (fun w=>i_add _ _ _ 3 (by decide) ⟨by decide,by decide⟩ w),rfl,T0⟩ [(1,_),(2,_),(7,_),(8,_),(9,_),(11,_),(12,_),(13,_),(14,.val (Value.int .i64 3))] [(8,_),(9,_),(11,_),(12,_)] [(29,rowPd 5 1 (32+32) (cells8 (sg)))] ⟨rfl,rfl,rfl,rfl,rfl,rfl,rfl,rfl,rfl,T0⟩ ⟨rfl,rfl,rfl,rfl,T0⟩ ⟨rfl,T0⟩ rfl (fun a w h=>?_)
    refine then_norm ?_
    rw [rounds_succ]
    refine wp_seq ?_
    refine a_regionQ TTE h hm [1] [eS 40 _,eS 41 (.val (Value.bool true))] (by kernel_rfl) ⟨rfl,fun L u=>u_bin u (gd0 rfl) _ rfl _ _ _ _ _ rfl rfl rfl (eqg_int _ _ _ _ _ _ _ _) _ (yes_of (fun w=>i_lss _ _ _ _ w) (by decide)),T0⟩ [(1,_),(2,_),(7,_),(8,_),(9,_),(11,_),(12,_),(13,_),(14,_),(41,.val (Value.bool true))] [(8,_),(9,_),(11,_),(12,_)] [(29,rowPd 5 1 (32+32) (cells8 (sg)))] ⟨rfl,rfl,rfl,rfl,rfl,rfl,rfl,rfl,rfl,rfl,T0⟩ ⟨rfl,rfl,rfl,rfl,T0⟩ ⟨rfl,T0⟩ rfl (fun a w h=>?_)
    refine go_cond h true rfl (fun ht=>?_) (fun hf=>?_)
    case refine_2=>cases hf
    refine wp_skip ?_
    refine then_norm ?_
    refine wp_seq ?_
    refine cut_norm (τ:=SS.mkQ [(1,.val (Value.slice (z) (n) (c))),(2,.val (Value.int .u8 ((N:Nat):Int))),(7,.unk 29 id),(8,.ptr 8 0),(9,.ptr 9 0),(11,.ptr 11 0),(12,.ptr 12 0),(13,.val (Value.int .u64 (0))),(14,.val (Value.int .i64 3))] [(8,by32 (bz pl)),(9,nc (((S:Nat):Int))),(11,nc (Md)),(12,[Value.int .u64 (lw 0 ((X:Nat):Int))]++[Value.int .u64 (lw 1 ((X:Nat):Int))]++[Value.int .u64 (lw 2 ((X:Nat):Int))]++[Value.int .u64 (lw 3 ((X:Nat):Int))])] [(29,rowPd 5 1 (32+32) (cells8 (sg)))]) h ?_ (fun a w h=>?_)
    ·skip
     refine wp_block ?_
     refine a_regionQ TTE h hm [6] [eS 44 _,eS 45 _,eS 46 _,eS 47 _,eS 48 _,eS 49 _,eS 50 (.val (Value.int .u64 (((lw 3 (((S:Nat):Int)))+(lw 3 (Md))) % 18446744073709551616))),eS 15 _] (by kernel_rfl) ⟨rfl,rfl,rfl,rfl,rfl,rfl,fun L u=>u_bin u (gd0 rfl) _ rfl _ _ _ _ _ rfl rfl rfl (eqg_int _ _ _ _ _ _ _ _) _ (fun w=>i_addU _ _ _ (((lw 3 (((S:Nat):Int)))+(lw 3 (Md))) % 18446744073709551616) rfl w),rfl,T0⟩ [(1,_),(2,_),(7,_),(8,_),(9,_),(11,_),(12,_),(13,_),(14,_),(15,.val (Value.int .u64 (((lw 3 (((S:Nat):Int)))+(lw 3 (Md))) % 18446744073709551616)))] [(8,_),(9,_),(11,_),(12,_)] [(29,rowPd 5 1 (32+32) (cells8 (sg)))] ⟨rfl,rfl,rfl,rfl,rfl,rfl,rfl,rfl,rfl,rfl,T0⟩ ⟨rfl,rfl,rfl,rfl,T0⟩ ⟨rfl,T0⟩ rfl (fun a w h=>?_)
     refine a_regionQ TTE h hm [4] [eS 51 _,eS 52 _,eS 53 _,eS 54 _,eS 55 (.val (Value.bool (decide ((((lw 3 (((S:Nat):Int)))+(lw 3 (Md))) % 18446744073709551616)<(lw 3 (Md)))))),eS 16 _] (by kernel_rfl) ⟨rfl,rfl,rfl,rfl,fun L u=>u_bin u (gd0 rfl) _ rfl _ _ _ _ _ rfl rfl rfl (eqg_int _ _ _ _ _ _ _ _) _ (fun w=>i_lss _ _ _ _ w),rfl,T0⟩ [(1,_),(2,_),(7,_),(8,_),(9,_),(11,_),(12,_),(13,_),(14,_),(15,_),(16,.val (Value.bool (decide ((((lw 3 (((S:Nat):Int)))+(lw 3 (Md))) % 18446744073709551616)<(lw 3 (Md))))))] [(8,_),(9,_),(11,_),(12,_)] [(29,rowPd 5 1 (32+32) (cells8 (sg)))] ⟨rfl,rfl,rfl,rfl,rfl,rfl,rfl,rfl,rfl,rfl,rfl,T0⟩ ⟨rfl,rfl,rfl,rfl,T0⟩ ⟨rfl,T0⟩ rfl (fun a w h=>?_)
     refine a_regionQ TTE h hm [2] [eS 56 _,eS 57 _,eS 58 (.val (Value.int .u64 (((((lw 3 (((S:Nat):Int)))+(lw 3 (Md))) % 18446744073709551616)+(C3)) % 18446744073709551616))),eS 15 _] (by kernel_rfl) ⟨rfl,rfl,fun L u=>u_bin u (gd0 rfl) _ rfl _ _ _ _ _ rfl rfl rfl (eqg_int _ _ _ _ _ _ _ _) _ (fun w=>i_addU _ _ _ (((((lw 3 (((S:Nat):Int)))+(lw 3 (Md))) % 18446744073709551616)+(C3)) % 18446744073709551616) rfl w),rfl,T0⟩ [(1,_),(2,_),(7,_),(8,_),(9,_),(11,_),(12,_),(13,_),(14,_),(15,.val (Value.int .u64 (((((lw 3 (((S:Nat):Int)))+(lw 3 (Md))) % 18446744073709551616)+(C3)) % 18446744073709551616))),(16,_)] [(8,_),(9,_),(11,_),(12,_)] [(29,rowPd 5 1 (32+32) (cells8 (sg)))] ⟨rfl,rfl,rfl,rfl,rfl,rfl,rfl,rfl,rfl,rfl,rfl,T0⟩ ⟨rfl,rfl,rfl,rfl,T0⟩ ⟨rfl,T0⟩ rfl (fun a w h=>?_)
     by_cases hs7:(((lw 3 (((S:Nat):Int)))+(lw 3 (Md))) % 18446744073709551616)<(lw 3 (Md))
     ·skip
      replace h:=h.keepQ [(1,.val (Value.slice (z) (n) (c))),(2,.val (Value.int .u8 ((N:Nat):Int))),(7,.unk 29 id),(8,.ptr 8 0),(9,.ptr 9 0),(11,.ptr 11 0),(12,.ptr 12 0),(13,.val (Value.int .u64 (C3))),(14,.val (Value.int .i64 3)),(15,.val (Value.int .u64 (((((lw 3 (((S:Nat):Int)))+(lw 3 (Md))) % 18446744073709551616)+(C3)) % 18446744073709551616))),(16,.val (Value.bool true))] [(8,by32 (bz pl)),(9,nc (((S:Nat):Int))),(11,nc (Md)),(12,[Value.int .u64 (lw 0 ((X:Nat):Int))]++[Value.int .u64 (lw 1 ((X:Nat):Int))]++[Value.int .u64 (lw 2 ((X:Nat):Int))]++[Value.int .u64 0])] [(29,rowPd 5 1 (32+32) (cells8 (sg)))] ⟨rfl,rfl,rfl,rfl,rfl,rfl,rfl,rfl,rfl,rfl,(congrArg (fun z=>some (SV.val (Value.bool z))) (decide_eq_true hs7)),trivial⟩ ⟨rfl,rfl,rfl,rfl,trivial⟩ ⟨rfl,trivial⟩ rfl
      refine a_regionQ TTE h hm [] [eS 59 _,eS 60 _,eS 61 _,eS 62 _,eS 63 _,eS 64 _,eS 16 _] (by kernel_rfl) ⟨rfl,rfl,rfl,rfl,rfl,rfl,rfl,T0⟩ [(1,_),(2,_),(7,_),(8,_),(9,_),(11,_),(12,_),(14,_),(15,_),(16,_)] [(8,_),(9,_),(11,_),(12,_)] [(29,rowPd 5 1 (32+32) (cells8 (sg)))] ⟨rfl,rfl,rfl,rfl,rfl,rfl,rfl,rfl,rfl,rfl,T0⟩ ⟨rfl,rfl,rfl,rfl,T0⟩ ⟨rfl,T0⟩ rfl (fun a w h=>?_)
      refine a_regionQ TTE h hm [] [eS 65 _,eS 66 _,eS 67 _,eM 12 _] (by kernel_rfl) ⟨rfl,rfl,rfl,rfl,T0⟩ [(1,_),(2,_),(7,_),(8,_),(9,_),(11,_),(12,_),(14,_),(16,_)] [(8,_),(9,_),(11,_),(12,[Value.int .u64 (lw 0 ((X:Nat):Int))]++[Value.int .u64 (lw 1 ((X:Nat):Int))]++[Value.int .u64 (lw 2 ((X:Nat):Int))]++[Value.int .u64 (((((lw 3 (((S:Nat):Int)))+(lw 3 (Md))) % 18446744073709551616)+(C3)) % 18446744073709551616)])] [(29,rowPd 5 1 (32+32) (cells8 (sg)))] ⟨rfl,rfl,rfl,rfl,rfl,rfl,rfl,rfl,rfl,T0⟩ ⟨rfl,rfl,rfl,rfl,T0⟩ ⟨rfl,T0⟩ rfl (fun a w h=>?_)
      refine a_regionQ TTE h hm [] [eS 13 _] (by kernel_rfl) ⟨rfl,T0⟩ [(1,_),(2,_),(7,_),(8,_),(9,_),(11,_),(12,_),(13,.val ((Value.int IntKind.u64 0))),(14,_),(16,_)] [(8,_),(9,_),(11,_),(12,_)] [(29,rowPd 5 1 (32+32) (cells8 (sg)))] ⟨rfl,rfl,rfl,rfl,rfl,rfl,rfl,rfl,rfl,rfl,T0⟩ ⟨rfl,rfl,rfl,rfl,T0⟩ ⟨rfl,T0⟩ rfl (fun a w h=>?_)
      refine a_regionQ TTE h hm [] [eS 68 _] (by kernel_rfl) ⟨rfl,T0⟩ [(1,_),(2,_),(7,_),(8,_),(9,_),(11,_),(12,_),(13,_),(14,_),(68,.val (Value.bool true))] [(8,_),(9,_),(11,_),(12,_)] [(29,rowPd 5 1 (32+32) (cells8 (sg)))] ⟨rfl,rfl,rfl,rfl,rfl,rfl,rfl,rfl,rfl,rfl,T0⟩ ⟨rfl,rfl,rfl,rfl,T0⟩ ⟨rfl,T0⟩ rfl (fun a w h=>?_)
      refine go_cond h true rfl (fun ht=>?_) (fun hf=>?_)
      case refine_2=>cases hf
      refine a_endQ TTE h hm [] [eS 13 _] (by kernel_rfl) ⟨rfl,T0⟩ [(1,_),(2,_),(7,_),(8,_),(9,_),(11,_),(12,_),(13,.val ((Value.int IntKind.u64 1))),(14,_)] [(8,_),(9,_),(11,_),(12,_)] [(29,rowPd 5 1 (32+32) (cells8 (sg)))] ⟨rfl,rfl,rfl,rfl,rfl,rfl,rfl,rfl,rfl,T0⟩ ⟨rfl,rfl,rfl,rfl,T0⟩ ⟨rfl,T0⟩ rfl (fun a w h=>?_)
      refine blk_norm ?_
      exact ⟨rfl,h.keepQ [(1,.val (Value.slice (z) (n) (c))),(2,.val (Value.int .u8 ((N:Nat):Int))),(7,.unk 29 id),(8,.ptr 8 0),(9,.ptr 9 0),(11,.ptr 11 0),(12,.ptr 12 0),(13,.val (Value.int .u64 (0))),(14,.val (Value.int .i64 3))] [(8,by32 (bz pl)),(9,nc (((S:Nat):Int))),(11,nc (Md)),(12,[Value.int .u64 (lw 0 ((X:Nat):Int))]++[Value.int .u64 (lw 1 ((X:Nat):Int))]++[Value.int .u64 (lw 2 ((X:Nat):Int))]++[Value.int .u64 (lw 3 ((X:Nat):Int))])] [(29,rowPd 5 1 (32+32) (cells8 (sg)))] ⟨rfl,rfl,rfl,rfl,rfl,rfl,rfl,(congrArg (fun z=>some (SV.val (Value.int .u64 z))) (rn_1 r3 hs7)),rfl,trivial⟩ ⟨rfl,rfl,rfl,(congrArg (fun z=>some ([Value.int .u64 (lw 0 ((X:Nat):Int))]++[Value.int .u64 (lw 1 ((X:Nat):Int))]++[Value.int .u64 (lw 2 ((X:Nat):Int))]++[Value.int .u64 z])) (rn_s r3)),trivial⟩ ⟨rfl,trivial⟩ rfl⟩
     ·skip
      replace h:=h.keepQ [(1,.val (Value.slice (z) (n) (c))),(2,.val (Value.int .u8 ((N:Nat):Int))),(7,.unk 29 id),(8,.ptr 8 0),(9,.ptr 9 0),(11,.ptr 11 0),(12,.ptr 12 0),(13,.val (Value.int .u64 (C3))),(14,.val (Value.int .i64 3)),(15,.val (Value.int .u64 (((((lw 3 (((S:Nat):Int)))+(lw 3 (Md))) % 18446744073709551616)+(C3)) % 18446744073709551616))),(16,.val (Value.bool false))] [(8,by32 (bz pl)),(9,nc (((S:Nat):Int))),(11,nc (Md)),(12,[Value.int .u64 (lw 0 ((X:Nat):Int))]++[Value.int .u64 (lw 1 ((X:Nat):Int))]++[Value.int .u64 (lw 2 ((X:Nat):Int))]++[Value.int .u64 0])] [(29,rowPd 5 1 (32+32) (cells8 (sg)))] ⟨rfl,rfl,rfl,rfl,rfl,rfl,rfl,rfl,rfl,rfl,(congrArg (fun z=>some (SV.val (Value.bool z))) (decide_eq_false hs7)),trivial⟩ ⟨rfl,rfl,rfl,rfl,trivial⟩ ⟨rfl,trivial⟩ rfl
      refine a_regionQ TTE h hm [4] [eS 59 _,eS 60 _,eS 61 _,eS 62 _,eS 63 (.val (Value.bool (decide ((((((lw 3 (((S:Nat):Int)))+(lw 3 (Md))) % 18446744073709551616)+(C3)) % 18446744073709551616)<(C3))))),eS 64 _,eS 16 _] (by kernel_rfl) ⟨rfl,rfl,rfl,rfl,fun L u=>u_bin u (gd1 u 1 false rfl 60 rfl (lk rfl) rfl) _ rfl _ _ _ _ _ rfl rfl rfl (eqg_int _ _ _ _ _ _ _ _) _ (fun w=>i_lss _ _ _ _ w),rfl,rfl,T0⟩ [(1,_),(2,_),(7,_),(8,_),(9,_),(11,_),(12,_),(14,_),(15,_),(16,.val (Value.bool (decide ((((((lw 3 (((S:Nat):Int)))+(lw 3 (Md))) % 18446744073709551616)+(C3)) % 18446744073709551616)<(C3)))))] [(8,_),(9,_),(11,_),(12,_)] [(29,rowPd 5 1 (32+32) (cells8 (sg)))] ⟨rfl,rfl,rfl,rfl,rfl,rfl,rfl,rfl,rfl,rfl,T0⟩ ⟨rfl,rfl,rfl,rfl,T0⟩ ⟨rfl,T0⟩ rfl (fun a w h=>?_)
      refine a_regionQ TTE h hm [] [eS 65 _,eS 66 _,eS 67 _,eM 12 _] (by kernel_rfl) ⟨rfl,rfl,rfl,rfl,T0⟩ [(1,_),(2,_),(7,_),(8,_),(9,_),(11,_),(12,_),(14,_),(16,_)] [(8,_),(9,_),(11,_),(12,[Value.int .u64 (lw 0 ((X:Nat):Int))]++[Value.int .u64 (lw 1 ((X:Nat):Int))]++[Value.int .u64 (lw 2 ((X:Nat):Int))]++[Value.int .u64 (((((lw 3 (((S:Nat):Int)))+(lw 3 (Md))) % 18446744073709551616)+(C3)) % 18446744073709551616)])] [(29,rowPd 5 1 (32+32) (cells8 (sg)))] ⟨rfl,rfl,rfl,rfl,rfl,rfl,rfl,rfl,rfl,T0⟩ ⟨rfl,rfl,rfl,rfl,T0⟩ ⟨rfl,T0⟩ rfl (fun a w h=>?_)
      refine a_regionQ TTE h hm [] [eS 13 _] (by kernel_rfl) ⟨rfl,T0⟩ [(1,_),(2,_),(7,_),(8,_),(9,_),(11,_),(12,_),(13,.val ((Value.int IntKind.u64 0))),(14,_),(16,_)] [(8,_),(9,_),(11,_),(12,_)] [(29,rowPd 5 1 (32+32) (cells8 (sg)))] ⟨rfl,rfl,rfl,rfl,rfl,rfl,rfl,rfl,rfl,rfl,T0⟩ ⟨rfl,rfl,rfl,rfl,T0⟩ ⟨rfl,T0⟩ rfl (fun a w h=>?_)
      by_cases hs8:(((((lw 3 (((S:Nat):Int)))+(lw 3 (Md))) % 18446744073709551616)+(C3)) % 18446744073709551616)<(C3)
      ·skip
       replace h:=h.keepQ [(1,.val (Value.slice (z) (n) (c))),(2,.val (Value.int .u8 ((N:Nat):Int))),(7,.unk 29 id),(8,.ptr 8 0),(9,.ptr 9 0),(11,.ptr 11 0),(12,.ptr 12 0),(13,.val ((Value.int IntKind.u64 0))),(14,.val (Value.int .i64 3)),(16,.val (Value.bool true))] [(8,by32 (bz pl)),(9,nc (((S:Nat):Int))),(11,nc (Md)),(12,[Value.int .u64 (lw 0 ((X:Nat):Int))]++[Value.int .u64 (lw 1 ((X:Nat):Int))]++[Value.int .u64 (lw 2 ((X:Nat):Int))]++[Value.int .u64 (((((lw 3 (((S:Nat):Int)))+(lw 3 (Md))) % 18446744073709551616)+(C3)) % 18446744073709551616)])] [(29,rowPd 5 1 (32+32) (cells8 (sg)))] ⟨rfl,rfl,rfl,rfl,rfl,rfl,rfl,rfl,rfl,(congrArg (fun z=>some (SV.val (Value.bool z))) (decide_eq_true hs8)),trivial⟩ ⟨rfl,rfl,rfl,rfl,trivial⟩ ⟨rfl,trivial⟩ rfl
       refine a_regionQ TTE h hm [] [eS 68 _] (by kernel_rfl) ⟨rfl,T0⟩ [(1,_),(2,_),(7,_),(8,_),(9,_),(11,_),(12,_),(13,_),(14,_),(68,.val (Value.bool true))] [(8,_),(9,_),(11,_),(12,_)] [(29,rowPd 5 1 (32+32) (cells8 (sg)))] ⟨rfl,rfl,rfl,rfl,rfl,rfl,rfl,rfl,rfl,rfl,T0⟩ ⟨rfl,rfl,rfl,rfl,T0⟩ ⟨rfl,T0⟩ rfl (fun a w h=>?_)
       refine go_cond h true rfl (fun ht=>?_) (fun hf=>?_)
       case refine_2=>cases hf
       refine a_endQ TTE h hm [] [eS 13 _] (by kernel_rfl) ⟨rfl,T0⟩ [(1,_),(2,_),(7,_),(8,_),(9,_),(11,_),(12,_),(13,.val ((Value.int IntKind.u64 1))),(14,_)] [(8,_),(9,_),(11,_),(12,_)] [(29,rowPd 5 1 (32+32) (cells8 (sg)))] ⟨rfl,rfl,rfl,rfl,rfl,rfl,rfl,rfl,rfl,T0⟩ ⟨rfl,rfl,rfl,rfl,T0⟩ ⟨rfl,T0⟩ rfl (fun a w h=>?_)
       refine blk_norm ?_
       exact ⟨rfl,h.keepQ [(1,.val (Value.slice (z) (n) (c))),(2,.val (Value.int .u8 ((N:Nat):Int))),(7,.unk 29 id),(8,.ptr 8 0),(9,.ptr 9 0),(11,.ptr 11 0),(12,.ptr 12 0),(13,.val (Value.int .u64 (0))),(14,.val (Value.int .i64 3))] [(8,by32 (bz pl)),(9,nc (((S:Nat):Int))),(11,nc (Md)),(12,[Value.int .u64 (lw 0 ((X:Nat):Int))]++[Value.int .u64 (lw 1 ((X:Nat):Int))]++[Value.int .u64 (lw 2 ((X:Nat):Int))]++[Value.int .u64 (lw 3 ((X:Nat):Int))])] [(29,rowPd 5 1 (32+32) (cells8 (sg)))] ⟨rfl,rfl,rfl,rfl,rfl,rfl,rfl,(congrArg (fun z=>some (SV.val (Value.int .u64 z))) (rn_2 r3 hs7 hs8)),rfl,trivial⟩ ⟨rfl,rfl,rfl,(congrArg (fun z=>some ([Value.int .u64 (lw 0 ((X:Nat):Int))]++[Value.int .u64 (lw 1 ((X:Nat):Int))]++[Value.int .u64 (lw 2 ((X:Nat):Int))]++[Value.int .u64 z])) (rn_s r3)),trivial⟩ ⟨rfl,trivial⟩ rfl⟩
      ·skip
       replace h:=h.keepQ [(1,.val (Value.slice (z) (n) (c))),(2,.val (Value.int .u8 ((N:Nat):Int))),(7,.unk 29 id),(8,.ptr 8 0),(9,.ptr 9 0),(11,.ptr 11 0),(12,.ptr 12 0),(13,.val ((Value.int IntKind.u64 0))),(14,.val (Value.int .i64 3)),(16,.val (Value.bool false))] [(8,by32 (bz pl)),(9,nc (((S:Nat):Int))),(11,nc (Md)),(12,[Value.int .u64 (lw 0 ((X:Nat):Int))]++[Value.int .u64 (lw 1 ((X:Nat):Int))]++[Value.int .u64 (lw 2 ((X:Nat):Int))]++[Value.int .u64 (((((lw 3 (((S:Nat):Int)))+(lw 3 (Md))) % 18446744073709551616)+(C3)) % 18446744073709551616)])] [(29,rowPd 5 1 (32+32) (cells8 (sg)))] ⟨rfl,rfl,rfl,rfl,rfl,rfl,rfl,rfl,rfl,(congrArg (fun z=>some (SV.val (Value.bool z))) (decide_eq_false hs8)),trivial⟩ ⟨rfl,rfl,rfl,rfl,trivial⟩ ⟨rfl,trivial⟩ rfl
       refine a_regionQ TTE h hm [] [eS 68 _] (by kernel_rfl) ⟨rfl,T0⟩ [(1,_),(2,_),(7,_),(8,_),(9,_),(11,_),(12,_),(13,_),(14,_),(68,.val (Value.bool false))] [(8,_),(9,_),(11,_),(12,_)] [(29,rowPd 5 1 (32+32) (cells8 (sg)))] ⟨rfl,rfl,rfl,rfl,rfl,rfl,rfl,rfl,rfl,rfl,T0⟩ ⟨rfl,rfl,rfl,rfl,T0⟩ ⟨rfl,T0⟩ rfl (fun a w h=>?_)
       refine go_cond h false rfl (fun ht=>?_) (fun hf=>?_)
       case refine_1=>cases ht
       refine wp_skip ?_
       refine blk_norm ?_
       exact ⟨rfl,h.keepQ [(1,.val (Value.slice (z) (n) (c))),(2,.val (Value.int .u8 ((N:Nat):Int))),(7,.unk 29 id),(8,.ptr 8 0),(9,.ptr 9 0),(11,.ptr 11 0),(12,.ptr 12 0),(13,.val (Value.int .u64 (0))),(14,.val (Value.int .i64 3))] [(8,by32 (bz pl)),(9,nc (((S:Nat):Int))),(11,nc (Md)),(12,[Value.int .u64 (lw 0 ((X:Nat):Int))]++[Value.int .u64 (lw 1 ((X:Nat):Int))]++[Value.int .u64 (lw 2 ((X:Nat):Int))]++[Value.int .u64 (lw 3 ((X:Nat):Int))])] [(29,rowPd 5 1 (32+32) (cells8 (sg)))] ⟨rfl,rfl,rfl,rfl,rfl,rfl,rfl,(congrArg (fun z=>some (SV.val (Value.int .u64 z))) (rn_0 r3 hs7 hs8)),rfl,trivial⟩ ⟨rfl,rfl,rfl,(congrArg (fun z=>some ([Value.int .u64 (lw 0 ((X:Nat):Int))]++[Value.int .u64 (lw 1 ((X:Nat):Int))]++[Value.int .u64 (lw 2 ((X:Nat):Int))]++[Value.int .u64 z])) (rn_s r3)),trivial⟩ ⟨rfl,trivial⟩ rfl⟩
    ·skip
     refine then_norm ?_
     refine a_endQ TTE h hm [1] [eS 42 _,eS 43 (.val (Value.int .i64 4)),eS 14 _] (by kernel_rfl) ⟨rfl,fun L u=>u_bin u (gd0 rfl) _ rfl _ _ _ _ _ rfl rfl rfl (eqg_int _ _ _ _ _ _ _ _) _ (fun w=>i_add _ _ _ 4 (by decide) ⟨by decide,by decide⟩ w),rfl,T0⟩ [(1,_),(2,_),(7,_),(8,_),(9,_),(11,_),(12,_),(13,_),(14,.val (Value.int .i64 4))] [(8,_),(9,_),(11,_),(12,_)] [(29,rowPd 5 1 (32+32) (cells8 (sg)))] ⟨rfl,rfl,rfl,rfl,rfl,rfl,rfl,rfl,rfl,T0⟩ ⟨rfl,rfl,rfl,rfl,T0⟩ ⟨rfl,T0⟩ rfl (fun a w h=>?_)
     refine then_norm ?_
     rw [rounds_succ]
     refine wp_seq ?_
     refine a_regionQ TTE h hm [1] [eS 40 _,eS 41 (.val (Value.bool false))] (by kernel_rfl) ⟨rfl,fun L u=>u_bin u (gd0 rfl) _ rfl _ _ _ _ _ rfl rfl rfl (eqg_int _ _ _ _ _ _ _ _) _ (no_of (fun w=>i_lss _ _ _ _ w) (by decide)),T0⟩ [(1,_),(2,_),(7,_),(8,_),(9,_),(11,_),(12,_),(13,_),(14,_),(41,.val (Value.bool false))] [(8,_),(9,_),(11,_),(12,_)] [(29,rowPd 5 1 (32+32) (cells8 (sg)))] ⟨rfl,rfl,rfl,rfl,rfl,rfl,rfl,rfl,rfl,rfl,T0⟩ ⟨rfl,rfl,rfl,rfl,T0⟩ ⟨rfl,T0⟩ rfl (fun a w h=>?_)
     refine go_cond h false rfl (fun ht=>?_) (fun hf=>?_)
     case refine_1=>cases ht
     refine wp_exit ?_
     refine then_exit ?_
     refine then_exit ?_
     refine blk_exit ?_
     refine then_norm ?_
     refine a_regionQ TTE h hm [0,1,2,3,5,6,7] [eQ 69 (rowPd 5 1 (0) (cells8 ([]))),eS 70 (.unk 29 id),eS 71 (.unk 29 (fun v=>headV (32) (id v))),eA 72 (rowPd 5 1 (0+(32)) (cells8 ([]++fl (fun i=>((sg).take (32)).getD i 0) (32)))) 69,eS 73 _,eQ 74 (rowPd 5 1 (32) (cells8 (xl))),eA 75 (rowPd 5 1 (0+(32)+(32)) (cells8 ([]++fl (fun i=>((sg).take (32)).getD i 0) (32)++fl (fun i=>(xl).getD i 0) (32)))) 72,eS 17 (.unk 75 id)] (by kernel_rfl) ⟨fun L u=>u_litQ u (gd0 rfl) 69 rfl rfl 0 #[] rfl [] rfl (cells8 []) (by decide) rfl (by kernel_rfl),fun L u=>u_copyQ u (gd0 rfl) 70 rfl (.tmp 7) (Or.inl rfl) rfl rfl,fun L u=>q_head u (gd0 rfl) 71 rfl (.tmp 70) (.const (.int .i64 32)) rfl rfl rfl (vw_row (l:=sg) hsgl) (32) rfl (by omega),fun L u=>u_appQ u (gd0 rfl) 72 rfl rfl (.tmp 69) (.tmp 71) rfl 69 rfl (k:=0) (l:=[]) rfl rfl (m:=(32)) (f:=(fun i=>((sg).take (32)).getD i 0)) (fun β a w hr=>vw_src hr (y:=29) (g:=(fun v=>headV (32) (id v))) (p:=rowPd 5 1 (32+32) (cells8 (sg))) (u.ev rfl) (u.q rfl) (vw_head (vw_row (l:=sg) hsgl) (32) (by omega))) (by omega),rfl,fun L u=>u_callQ u (gd0 rfl) 74 rfl rfl 13 #[(.tmp 73)] #[33] rfl [.val (.agg ([Value.int .u64 (lw 0 ((X:Nat):Int))]++[Value.int .u64 (lw 1 ((X:Nat):Int))]++[Value.int .u64 (lw 2 ((X:Nat):Int))]++[Value.int .u64 (lw 3 ((X:Nat):Int))]).toArray)] rfl (fun vs w=>callFunc_enter Tryd.func13 (by kernel_rfl) (by kernel_rfl) vs w) (rowPd 5 1 (32) (cells8 (xl))) (fun β a w hr=>by have q:=sputN X w;rw [hxl] at q;exact q),fun L u=>u_appQ u (gd0 rfl) 75 rfl rfl (.tmp 72) (.tmp 74) rfl 72 rfl (k:=0+(32)) (l:=[]++fl (fun i=>((sg).take (32)).getD i 0) (32)) rfl rfl (m:=(32)) (f:=(fun i=>(xl).getD i 0)) (fun β a w hr=>vw_src hr (y:=74) (g:=id) (p:=rowPd 5 1 (32) (cells8 (xl))) (u.ev rfl) (u.q rfl) (vw_row (l:=xl) hxll)) (by omega),fun L u=>u_copyQ u (gd0 rfl) 17 rfl (.tmp 75) (Or.inr rfl) rfl rfl,T0⟩ [(1,_),(2,_),(7,_),(8,_),(13,_),(17,.unk 75 id)] [(8,_)] [(29,rowPd 5 1 (32+32) (cells8 (sg))),(75,rowPd 5 1 (0+(32)+(32)) (cells8 ([]++fl (fun i=>((sg).take (32)).getD i 0) (32)++fl (fun i=>(xl).getD i 0) (32))))] ⟨rfl,rfl,rfl,rfl,rfl,rfl,T0⟩ ⟨rfl,T0⟩ ⟨rfl,rfl,T0⟩ rfl (fun a w h=>?_)
     refine wp_seq ?_
     refine sq_begin [0,1,2,3,4,5,6] rfl ?_
     refine sq_step h (i:=0) rfl (u_litQ (xs:=[]) (up_seq (i:=0) (by kernel_rfl) rfl) (gd0 rfl) 76 rfl rfl 0 #[] rfl [] rfl (cells8 []) (by decide) rfl (by kernel_rfl)) (fun a w h=>?_)
     refine sq_step h (i:=1) rfl (u_copyQ (xs:=[]) (up_seq (i:=1) (by kernel_rfl) rfl) (gd0 rfl) 77 rfl (.tmp 7) (Or.inl rfl) rfl rfl) (fun a w h=>?_)
     refine sq_appQ (k:=0) (l:=[]) h (i:=2) rfl (gq0 rfl) 78 rfl (.tmp 76) (.tmp 77) rfl 76 rfl rfl (Or.inr rfl) (m:=(32+32)) (f:=(fun i=>(sg).getD i 0)) (fun β hr=>vw_src hr (y:=29) (g:=id) (p:=rowPd 5 1 (32+32) (cells8 (sg))) rfl rfl (vw_row (l:=sg) hsgl)) (by omega) [(1,.val (Value.slice (z) (n) (c))),(2,.val (Value.int .u8 ((N:Nat):Int))),(7,.unk 29 id),(8,.ptr 8 0),(13,.val (Value.int .u64 (0))),(17,.unk 75 id)] ⟨rfl,rfl,rfl,rfl,rfl,rfl,T0⟩ rfl (fun a w h=>?_)
     replace h:=h.keepQ [(1,.val (Value.slice (z) (n) (c))),(2,.val (Value.int .u8 ((N:Nat):Int))),(7,.unk 29 id),(8,.ptr 8 0),(13,.val (Value.int .u64 (0))),(17,.unk 75 id),(78,.unk 78 id)] [(8,by32 (bz pl))] [(29,rowPd 5 1 (32+32) (cells8 (sg))),(75,rowPd 5 1 (0+(32)+(32)) (cells8 ([]++fl (fun i=>((sg).take (32)).getD i 0) (32)++fl (fun i=>(xl).getD i 0) (32)))),(78,rowPd 5 1 (0+(32+32)) (cells8 ([]++fl (fun i=>(sg).getD i 0) (32+32))))] ⟨rfl,rfl,rfl,rfl,rfl,rfl,rfl,trivial⟩ ⟨rfl,trivial⟩ ⟨rfl,rfl,rfl,trivial⟩ rfl
     refine sq_step h (i:=3) rfl (u_move (xs:=[]) (up_seq (i:=3) (by kernel_rfl) rfl) (gd0 rfl) 79 rfl (.tmp 2) (Or.inl rfl) rfl) (fun a w h=>?_)
     refine sq_step h (i:=4) rfl (u_litQ (xs:=[]) (up_seq (i:=4) (by kernel_rfl) rfl) (gd0 rfl) 80 rfl rfl 1 #[(0,(.tmp 79))] rfl [(0,Value.int .u8 ((N:Nat):Int))] rfl (cells8 [N]) (by decide) rfl (by kernel_rfl)) (fun a w h=>?_)
     refine sq_appQ (k:=0+(32+32)) (l:=[]++fl (fun i=>(sg).getD i 0) (32+32)) h (i:=5) rfl (gq0 rfl) 81 rfl (.tmp 78) (.tmp 80) rfl 78 rfl rfl (Or.inr rfl) (m:=(1)) (f:=(fun i=>([N]).getD i 0)) (fun β hr=>vw_src hr (y:=80) (g:=id) (p:=rowPd 5 1 (1) (cells8 ([N]))) rfl rfl (vw_row (l:=[N]) (lt_one hN))) (by omega) [(1,.val (Value.slice (z) (n) (c))),(2,.val (Value.int .u8 ((N:Nat):Int))),(7,.unk 29 id),(8,.ptr 8 0),(13,.val (Value.int .u64 (0))),(17,.unk 75 id)] ⟨rfl,rfl,rfl,rfl,rfl,rfl,T0⟩ rfl (fun a w h=>?_)
     replace h:=h.keepQ [(1,.val (Value.slice (z) (n) (c))),(2,.val (Value.int .u8 ((N:Nat):Int))),(7,.unk 29 id),(8,.ptr 8 0),(13,.val (Value.int .u64 (0))),(17,.unk 75 id),(81,.unk 81 id)] [(8,by32 (bz pl))] [(29,rowPd 5 1 (32+32) (cells8 (sg))),(75,rowPd 5 1 (0+(32)+(32)) (cells8 ([]++fl (fun i=>((sg).take (32)).getD i 0) (32)++fl (fun i=>(xl).getD i 0) (32)))),(81,rowPd 5 1 (0+(32+32)+(1)) (cells8 ([]++fl (fun i=>(sg).getD i 0) (32+32)++fl (fun i=>([N]).getD i 0) (1))))] ⟨rfl,rfl,rfl,rfl,rfl,rfl,rfl,trivial⟩ ⟨rfl,trivial⟩ ⟨rfl,rfl,rfl,trivial⟩ rfl
     refine sq_step h (i:=6) rfl (u_copyQ (xs:=[]) (up_seq (i:=6) (by kernel_rfl) rfl) (gd0 rfl) 18 rfl (.tmp 81) (Or.inr rfl) rfl rfl) (fun a w h=>?_)
     replace h:=h.keepQ [(1,.val (Value.slice (z) (n) (c))),(2,.val (Value.int .u8 ((N:Nat):Int))),(7,.unk 29 id),(8,.ptr 8 0),(13,.val (Value.int .u64 (0))),(17,.unk 75 id),(18,.unk 81 id)] [(8,by32 (bz pl))] [(29,rowPd 5 1 (32+32) (cells8 (sg))),(75,rowPd 5 1 (0+(32)+(32)) (cells8 ([]++fl (fun i=>((sg).take (32)).getD i 0) (32)++fl (fun i=>(xl).getD i 0) (32)))),(81,rowPd 5 1 (0+(32+32)+(1)) (cells8 ([]++fl (fun i=>(sg).getD i 0) (32+32)++fl (fun i=>([N]).getD i 0) (1))))] ⟨rfl,rfl,rfl,rfl,rfl,rfl,rfl,trivial⟩ ⟨rfl,trivial⟩ ⟨rfl,rfl,rfl,trivial⟩ rfl
     refine sq_end ?_
     refine then_norm ?_
     refine a_region TTE h hm [1,3,5,6,10,12,14,15,16,17,21,23,24,28,30,31] [eS 82 _,eS 83 (.val (Value.bool true)),eS 84 _,eS 85 (.sli 8 0 32 32),eS 86 _,eS 87 (.unk 75 id),eS 88 (.val (Value.bool false)),eS 89 _,eS 90 _,eS 91 _,eS 92 (.sli 8 0 32 32),eS 93 _,eS 94 (.unk 29 id),eS 95 _,eS 96 (.val (Value.int .u8 ((N % 64:Nat):Int))),eS 97 (.val (Value.int .i64 ((N % 64:Nat):Int))),eS 98 (.unk 29 (fun v=>headV (N % 64) (id v))),eS 99 (.val (Value.bool false)),eS 100 _,eS 101 _,eS 102 _,eS 103 (.sli 8 0 32 32),eS 104 _,eS 105 (.unk 81 id),eS 106 (.val (Value.bool false)),eS 107 _,eS 108 _,eS 109 _,eS 110 (.sli 8 0 31 32),eS 111 _,eS 112 (.unk 29 id),eS 113 (.val (Value.bool false)),eS 114 _,eS 115 _,eS 6 _] (by kernel_rfl) ⟨rfl,fun L u=>u_bin u (gd0 rfl) _ rfl _ _ _ _ _ rfl rfl rfl (eqg_int _ _ _ _ _ _ _ _) _ (yes_of (fun w=>i_eql _ _ _ _ w) rfl),rfl,fun L u=>u_slice u (gd1 u 2 true rfl 84 rfl (lk rfl) rfl) 85 rfl 23 (.tmp 8) rfl rfl rfl Tryd.underlying23 i5Z,rfl,fun L u=>u_copyQ u (gd1 u 2 true rfl 84 rfl (lk rfl) rfl) 87 rfl (.tmp 17) (Or.inl rfl) rfl rfl,fun L u=>u_callR u (gd1 u 2 true rfl 84 rfl (lk rfl) rfl) 88 rfl 9 #[(.tmp 85),(.tmp 86),(.tmp 87)] #[24,24,24] rfl [.sli 8 0 32 32,.val (Value.slice (z) (n) (c)),.unk 75 id] rfl (fun vs w=>callFunc_enter Tryd.func9 (by kernel_rfl) (by kernel_rfl) vs w) (Value.bool false) (fun β a w hr=>by obtain ⟨_,_,c3,_⟩:=hr.va 8 (by32 (bz pl)) (u.m rfl);have q:=pVer (hT.keep (Bs.kp_of hr.bl)) (hX.keep (Bs.kp_of hr.bl)) (hH.keep (Bs.kp_of hr.bl)) (pt_by32 hpln hpll c3) (pt_ba (hba.keep (Bs.kp_of hr.bl)) hc hcm) (pt_row (lt_app (lt_app lt_nil (fl_lt (gD_lt (lt_take hsgl (32))) _)) (fl_lt (gD_lt hxll) _)) (hr.thing (x:=75) (u.q rfl))) (by rw [hpln,fl_len];omega);rw [hv1] at q;exact q),rfl,rfl,rfl,fun L u=>u_slice u (gd1 u 9 true rfl 91 rfl (lk rfl) rfl) 92 rfl 23 (.tmp 8) rfl rfl rfl Tryd.underlying23 i5Z,rfl,fun L u=>u_copyQ u (gd1 u 9 true rfl 91 rfl (lk rfl) rfl) 94 rfl (.tmp 7) (Or.inl rfl) rfl rfl,rfl,fun L u=>u_bin u (gd1 u 9 true rfl 91 rfl (lk rfl) rfl) _ rfl _ _ _ _ _ rfl rfl rfl (eqg_int _ _ _ _ _ _ _ _) _ (fun w=>i_rem _ _ _ _ ((N % 64:Nat):Int) (by omega) (by decide) (by omega) w),fun L u=>u_conv u (gd1 u 9 true rfl 91 rfl (lk rfl) rfl) 97 rfl 5 3 (.tmp 96) rfl rfl (Value.int .i64 ((N % 64:Nat):Int)) (fun w=>c_int _ ⟨by omega,by omega⟩ w),fun L u=>q_head u (gd1 u 9 true rfl 91 rfl (lk rfl) rfl) 98 rfl (.tmp 94) (.tmp 97) rfl rfl rfl (vw_row (l:=sg) hsgl) (N % 64) rfl (by omega),fun L u=>u_callR u (gd1 u 9 true rfl 91 rfl (lk rfl) rfl) 99 rfl 9 #[(.tmp 92),(.tmp 93),(.tmp 98)] #[24,24,24] rfl [.sli 8 0 32 32,.val (Value.slice (z) (n) (c)),.unk 29 (fun v=>headV (N % 64) (id v))] rfl (fun vs w=>callFunc_enter Tryd.func9 (by kernel_rfl) (by kernel_rfl) vs w) (Value.bool false) (fun β a w hr=>by obtain ⟨_,_,c3,_⟩:=hr.va 8 (by32 (bz pl)) (u.m rfl);have q:=pVer (hT.keep (Bs.kp_of hr.bl)) (hX.keep (Bs.kp_of hr.bl)) (hH.keep (Bs.kp_of hr.bl)) (pt_by32 hpln hpll c3) (pt_ba (hba.keep (Bs.kp_of hr.bl)) hc hcm) (pt_head (pt_row hsgl (hr.thing (x:=29) (u.q rfl))) (N % 64) (by rw [hsgn];omega)) (by rw [hpln,fl_len];omega);rw [hv2] at q;exact q),rfl,rfl,rfl,fun L u=>u_slice u (gd1 u 20 true rfl 102 rfl (lk rfl) rfl) 103 rfl 23 (.tmp 8) rfl rfl rfl Tryd.underlying23 i5Z,rfl,fun L u=>u_copyQ u (gd1 u 20 true rfl 102 rfl (lk rfl) rfl) 105 rfl (.tmp 18) (Or.inl rfl) rfl rfl,fun L u=>u_callR u (gd1 u 20 true rfl 102 rfl (lk rfl) rfl) 106 rfl 9 #[(.tmp 103),(.tmp 104),(.tmp 105)] #[24,24,24] rfl [.sli 8 0 32 32,.val (Value.slice (z) (n) (c)),.unk 81 id] rfl (fun vs w=>callFunc_enter Tryd.func9 (by kernel_rfl) (by kernel_rfl) vs w) (Value.bool false) (fun β a w hr=>by obtain ⟨_,_,c3,_⟩:=hr.va 8 (by32 (bz pl)) (u.m rfl);have q:=pVer (hT.keep (Bs.kp_of hr.bl)) (hX.keep (Bs.kp_of hr.bl)) (hH.keep (Bs.kp_of hr.bl)) (pt_by32 hpln hpll c3) (pt_ba (hba.keep (Bs.kp_of hr.bl)) hc hcm) (pt_row (lt_app (lt_app lt_nil (fl_lt (gD_lt hsgl) _)) (fl_lt (gD_lt (lt_one hN)) _)) (hr.thing (x:=81) (u.q rfl))) (by rw [hpln,fl_len];omega);rw [hv3] at q;exact q),rfl,rfl,rfl,fun L u=>u_sliceH u (gd1 u 27 true rfl 109 rfl (lk rfl) rfl) 110 rfl 23 (.tmp 8) (.const (.int .i64 31)) rfl rfl rfl Tryd.underlying23 i5Z (hi:=31) rfl (by decide),rfl,fun L u=>u_copyQ u (gd1 u 27 true rfl 109 rfl (lk rfl) rfl) 112 rfl (.tmp 7) (Or.inl rfl) rfl rfl,fun L u=>u_callR u (gd1 u 27 true rfl 109 rfl (lk rfl) rfl) 113 rfl 9 #[(.tmp 110),(.tmp 111),(.tmp 112)] #[24,24,24] rfl [.sli 8 0 31 32,.val (Value.slice (z) (n) (c)),.unk 29 id] rfl (fun vs w=>callFunc_enter Tryd.func9 (by kernel_rfl) (by kernel_rfl) vs w) (Value.bool false) (fun β a w hr=>by obtain ⟨_,_,c3,_⟩:=hr.va 8 (by32 (bz pl)) (u.m rfl);have q:=pVer (hT.keep (Bs.kp_of hr.bl)) (hX.keep (Bs.kp_of hr.bl)) (hH.keep (Bs.kp_of hr.bl)) (pt_by31 hpln hpll c3) (pt_ba (hba.keep (Bs.kp_of hr.bl)) hc hcm) (pt_row hsgl (hr.thing (x:=29) (u.q rfl))) (by rw [List.length_take,hpln,fl_len];omega);rw [hv4] at q;exact q),rfl,rfl,rfl,T0⟩ [(6,.val (Value.bool true))] [] ⟨rfl,T0⟩ T0 rfl (fun a w h=>?_)
     refine wp_ret ?_
     refine ret_slot h 6 rfl (lk rfl) (Value.bool true) rfl ?_
     exact ⟨rfl,h.grows⟩
theorem rounds {S X:Int} (hS:Num S) (hX:Num X) (e:X=S+md 3) (_hlt:S<md 3):∃ C1 C2 C3:Int,Rnd (lw 0 S) (lw 0 (md 3)) 0 (lw 0 X) C1∧Rnd (lw 1 S) (lw 1 (md 3)) C1 (lw 1 X) C2∧Rnd (lw 2 S) (lw 2 (md 3)) C2 (lw 2 X) C3∧Rnd (lw 3 S) (lw 3 (md 3)) C3 (lw 3 X) 0:=by
 have wS:=words S hS
 have wX:=words X hX
 obtain ⟨g0,g1,g2,g3⟩:=md3_w
 rw [g0,g1,g2,g3]
 rw [md3_lit] at e
 have b0:=lw_bd 0 S
 have b1:=lw_bd 1 S
 have b2:=lw_bd 2 S
 have b3:=lw_bd 3 S
 have x0:=lw_bd 0 X
 have x1:=lw_bd 1 X
 have x2:=lw_bd 2 X
 have x3:=lw_bd 3 X
 generalize lw 0 S=s0 at *
 generalize lw 1 S=s1 at *
 generalize lw 2 S=s2 at *
 generalize lw 3 S=s3 at *
 generalize lw 0 X=u0 at *
 generalize lw 1 X=u1 at *
 generalize lw 2 X=u2 at *
 generalize lw 3 X=u3 at *
 obtain ⟨C1,h1,h1'⟩:∃ C1:Int,s0+6346243789798364141=u0+18446744073709551616*C1∧(C1=0∨C1=1):=⟨(s0+6346243789798364141) / 18446744073709551616,by omega,by omega⟩
 obtain ⟨C2,h2,h2'⟩:∃ C2:Int,s1+1503914060200516822+C1=u1+18446744073709551616*C2∧(C2=0∨C2=1):=⟨(s1+1503914060200516822+C1) / 18446744073709551616,by omega,by omega⟩
 obtain ⟨C3,h3,h3'⟩:∃ C3:Int,s2+0+C2=u2+18446744073709551616*C3∧(C3=0∨C3=1):=⟨(s2+0+C2) / 18446744073709551616,by omega,by omega⟩
 exact ⟨C1,C2,C3,⟨by omega,b0,by decide,Or.inl rfl,x0⟩,⟨h2,b1,by decide,h1',x1⟩,⟨h3,b2,by decide,h2',x2⟩,⟨by omega,b3,by decide,h3',x3⟩⟩
theorem kS_below (sd ms:List Nat):kS sd ms<mod3:=by
 have:=kS_lt sd ms
 rw [md3_nat] at this
 omega
theorem two_mod3 {S:Nat} (h:S<mod3):S+mod3<2 ^ 256:=by
 have e:mod3=7237005577332262213973186563042994240857116359379907606001950938285454250989:=by
  have:=md3_nat
  rw [md3_lit] at this
  omega
 omega
theorem lAb {w:World} (hT:Tab w) (hH:Sx.Tab w) (hX:TabX w) {sd:List Nat} (hsd:sd.length=32) (hlt:∀ x ∈ sd,x<256) {n c:Nat} {z:Option Addr} {f:Nat→Nat} (hba:BA w z n f) (hc:n≤c) (hcm:c≤maxLen) {N:Nat} (hN:N<256):Calls Tryd.prog 4 [.agg (by32 (bz sd)).toArray,Value.slice (z) (n) (c),.int .u8 ((N:Nat):Int)].toArray w fun e w'=>e=.returned (.bool true)∧Below w.heap.size w w':=by
 rcases Nat.lt_or_ge 300 n with hn | hn
 ·exact lAb_long hT hH hsd hlt hba hc hcm hn
 ·have hsx:nle ((cbp (pR sd (fl f n))++(nb (kS sd (fl f n)))).drop 32)=kS sd (fl f n):=by rw [drop_app (cbp_len _),nle_nb (kS_num sd (fl f n))]
  have hln:(cbp (pR sd (fl f n))++(nb (kS sd (fl f n)))).length=32+32:=len_app (cbp_len _) (nb_len _)
  have hXn:=two_mod3 (kS_below sd (fl f n))
  have hXe:((kS sd (fl f n)+mod3:Nat):Int)=((kS sd (fl f n):Nat):Int)+md 3:=by rw [md3_nat];omega
  obtain ⟨C1,C2,C3,r0,r1,r2,r3⟩:=rounds (num_nat (kS_num sd (fl f n))) (num_nat hXn) hXe (kS_lt sd (fl f n))
  refine lAb_at (X:=kS sd (fl f n)+mod3) hT hH hX hsd hlt hba hc hcm hN hn rfl hln (lt_app (cbp_lt _) (nb_lt _)) rfl (cbp_len _) (cbp_lt _) rfl (nb_len _) (nb_lt _) hsx ?_ ?_ ?_ ?_ rfl r0 r1 r2 r3
  ·rw [List.nil_append,fl_getD (nb_len _),fl_getD (len_take hln 32 (by decide)),take_app (cbp_len _)]
   exact v_above (cbp_len _) hXn (by rw [hXe];omega)
  ·exact v_len (by rw [List.length_take,hln];omega)
  ·exact v_len (by rw [List.nil_append,List.length_append,fl_len,fl_len];decide)
  ·exact v_key (by rw [List.length_take,cbp_len];decide)
end Go.Proofs.YtjaahnlpnkcimaaDoor
namespace Go.Proofs.YtjaahnlpnkcimaaDoor
set_option maxRecDepth 100000
open Go.ChangeShapes Go.WideShapes Go.ChangeAt Go.RowKit
theorem own:ownKnob Tryd.prog.godebug=none:=by kernel_rfl
theorem cellsU64:Tryd.prog.cellsOf 31=1:=by kernel_rfl
theorem cellsNat:Tryd.prog.cellsOf 33=4:=by kernel_rfl
theorem u8_of_wf {x:Int} (h:(Lit.int .u8 x).wf=true):0≤x∧x≤255:=by
 simp [Lit.wf,IntKind.min,IntKind.max,IntKind.signed,IntKind.bits] at h
 exact ⟨by omega,by omega⟩
theorem Tryd.laidOut:laidOutB Tryd.prog=true:=by kernel_rfl
theorem cellsU8:Tryd.prog.cellsOf 5=1:=by kernel_rfl
theorem open_bytes {H:Type} {enc:TypeId × Value→H} {W:World} {base:Nat} {v:Value} {d:DataW H} {p:List MemPlace}
  (hv:Value.okWide Tryd.prog W .any base 24 v) (h:DataW.Trod enc Tryd.prog W 0 (fun _=>true) true 24 v d p) :
  ∃ a n c f,v=.slice a n c∧BA W a n f∧n≤c∧c≤maxLen:=by
 obtain ⟨a0,len,cap,rfl⟩:=okWide_slice Tryd.underlying24 hv
 obtain ⟨fuel,hf⟩:=h
 rcases open_ints Tryd.underlying24 Tryd.underlying5 cellsU8 hf with ⟨hcs,hx⟩ | ⟨a,len',cap',zs,hcs,_,hl,hm,hz,hx,hcell,hwz⟩
 ·simp [Value.cells] at hcs
  obtain ⟨rfl,rfl,rfl⟩:=hcs
  exact ⟨none,0,0,fun _=>0,rfl,⟨fun _=>by omega,Or.inl rfl⟩,by omega,by unfold maxLen;omega⟩
 ·simp [Value.cells] at hcs
  obtain ⟨rfl,rfl,rfl⟩:=hcs
  simp only [if_true] at hz
  have hr:∀ i,0≤zs.getD i 0∧zs.getD i 0<256:=fun i=>by
   have h:=range_u8 hwz i
   simp only [List.getD_eq_getElem?_getD]
   omega
  refine ⟨some a,len,cap,fun i=>(zs.getD i 0).toNat,rfl,⟨fun i=>by have:=hr i;omega,?_⟩,hl,hm⟩
  by_cases h0:len=0
  ·exact Or.inl h0
  ·obtain ⟨b,off,rfl,hc⟩:=ints_at hcell (by omega)
   exact Or.inr ⟨b,off,rfl,⟨fun i hi=>by
    have:=hr i
    rw [hc i (by omega),Int.toNat_of_nonneg this.1]⟩⟩
theorem cellsHash:Tryd.prog.cellsOf 23=32:=by kernel_rfl
theorem open_hash {H:Type} {enc:TypeId × Value→H} {W:World} {base:Nat} {v:Value} {d:DataW H} {p:List MemPlace}
  (hv:Value.okWide Tryd.prog W .any base 23 v) (h:DataW.Trod enc Tryd.prog W 0 (fun _=>true) true 23 v d p) :
  ∃ sd:List Nat,v=.agg (by32 (bz sd)).toArray∧sd.length=32∧∀ x ∈ sd,x<256:=by
 obtain ⟨cs,rfl,hsz,_⟩:∃ cs,v=.agg cs∧cs.size=Tryd.prog.cellsOf 23∧Row.okWide Tryd.prog W .any base 23 cs:=by
  simpa [Value.okWide,Tryd.underlying23] using hv
 rw [cellsHash] at hsz
 obtain ⟨l⟩:=cs
 have hl:l.length=32:=by simpa using hsz
 obtain ⟨fuel,hf⟩:=h
 obtain ⟨xs,m,_,_,_,hxl,hat⟩:=DataW.trod_array Tryd.underlying23 hf
 have key:∀ i,i<32→∃ n:Nat,l[i]?=some (.int .u8 ((n:Nat):Int))∧n<256:=fun i hi=>by
  have h1:=hat i hi
  rw [cellsU8,Nat.mul_one,List.getElem?_eq_getElem (by omega)] at h1
  obtain ⟨n,e1,_,hw⟩:=DataW.trod_int Tryd.underlying5 h1
  have hb:=u8_of_wf hw
  have e2:(l.drop i).take 1=[.int .u8 n]:=e1
  have e3:((l.drop i).take 1)[0]?=some (.int .u8 n):=by rw [e2];rfl
  rw [List.getElem?_take_of_lt (by decide),List.getElem?_drop,Nat.add_zero] at e3
  exact ⟨n.toNat,by rw [e3,Int.toNat_of_nonneg hb.1],by omega⟩
 obtain ⟨F,hF⟩:∃ F:Nat→Nat,∀ i,F i<256∧(i<32→l[i]?=some (.int .u8 ((F i:Nat):Int))):=by
  refine ⟨fun i=>if hi:i<32 then (key i hi).choose else 0,fun i=>?_⟩
  by_cases hi:i<32
  ·simp only [hi,dite_true,forall_const]
   exact ⟨(key i hi).choose_spec.2,(key i hi).choose_spec.1⟩
  ·simp [hi]
 refine ⟨fl F 32,?_,fl_len _ _,fl_lt (fun i=>(hF i).1) 32⟩
 have e:l=by32 (bz (fl F 32)):=by
  apply List.ext_getElem?
  intro i
  rcases Nat.lt_or_ge i 32 with hi | hi
  ·rw [(hF i).2 hi,by32_at _ i hi]
   unfold bz
   rw [getD_fl hi]
  ·rw [List.getElem?_eq_none (by omega),List.getElem?_eq_none (by rw [by32_len];exact hi)]
 rw [e]
theorem gMod : Tryd.prog.globalNamed "chronicle/field.moduli" = some 1 := by kernel_rfl
theorem tMod:(Tryd.prog.globals[1]?).map (·.type)=some 93:=by kernel_rfl
theorem gCd : Tryd.prog.globalNamed "chronicle/ed.curveD" = some 4 := by kernel_rfl
theorem tCd:(Tryd.prog.globals[4]?).map (·.type)=some 33:=by kernel_rfl
theorem gFirst : Tryd.prog.globalNamed "chronicle/sha512.first" = some 0 := by kernel_rfl
theorem tFirst:(Tryd.prog.globals[0]?).map (·.type)=some 84:=by kernel_rfl
theorem gK : Tryd.prog.globalNamed "chronicle/sha512.constants" = some 5 := by kernel_rfl
theorem tK:(Tryd.prog.globals[5]?).map (·.type)=some 104:=by kernel_rfl
theorem gRp : Tryd.prog.globalNamed "chronicle/ed.rootPower" = some 2 := by kernel_rfl
theorem tRp:(Tryd.prog.globals[2]?).map (·.type)=some 33:=by kernel_rfl
theorem gTn : Tryd.prog.globalNamed "chronicle/ed.turn" = some 3 := by kernel_rfl
theorem tTn:(Tryd.prog.globals[3]?).map (·.type)=some 33:=by kernel_rfl
theorem cellsModuli:Tryd.prog.cellsOf 93=16:=by kernel_rfl
theorem cellsMod:Tryd.prog.cellsOf 67=4:=by kernel_rfl
theorem cellsSt:Tryd.prog.cellsOf 84=8:=by kernel_rfl
theorem cellsW80:Tryd.prog.cellsOf 104=80:=by kernel_rfl
theorem list16 {α:Type} (l:List α) (h:l.length=16):∃ x0 x1 x2 x3 x4 x5 x6 x7 x8 x9 x10 x11 x12 x13 x14 x15,l=[x0,x1,x2,x3,x4,x5,x6,x7,x8,x9,x10,x11,x12,x13,x14,x15]:=by
 match l,h with
 | [x0,x1,x2,x3,x4,x5,x6,x7,x8,x9,x10,x11,x12,x13,x14,x15],_=>exact ⟨x0,x1,x2,x3,x4,x5,x6,x7,x8,x9,x10,x11,x12,x13,x14,x15,rfl⟩
theorem cells_of_table {H:Type} {enc:TypeId × Value→H} {W:World} {sp:Nat→Bool} {held:Bool} {fuel:Nat} {l:List Value} {p:List MemPlace}
  (h:DataW.trod enc Tryd.prog W 0 sp held fuel 93 l=some (Rows.laid_chronicle_field_moduli,p)):l=[.int .u64 18446744073709551615,.int .u64 4294967295,.int .u64 0,.int .u64 18446744069414584321,.int .u64 17562291160714782033,.int .u64 13611842547513532036,.int .u64 18446744073709551615,.int .u64 18446744069414584320,.int .u64 18446744073709551597,.int .u64 18446744073709551615,.int .u64 18446744073709551615,.int .u64 9223372036854775807,.int .u64 6346243789798364141,.int .u64 1503914060200516822,.int .u64 0,.int .u64 1152921504606846976]:=by
 cases fuel with
 | zero=>simp [DataW.trod] at h
 | succ fuel =>
  simp only [DataW.trod,Tryd.underlying93,cellsModuli,cellsMod] at h
  split at h
  ·rename_i hl
   obtain ⟨x0,x1,x2,x3,x4,x5,x6,x7,x8,x9,x10,x11,x12,x13,x14,x15,rfl⟩:=list16 l (by simpa using hl)
   rw [show List.range 4=[0,1,2,3] from rfl] at h
   simp only [Option.map_eq_some_iff,List.mapM_cons,List.mapM_nil,Option.bind_eq_bind,Option.bind_eq_some_iff,Option.pure_def,Option.some.injEq] at h
   obtain ⟨ys,⟨y0,h0,_,⟨y1,h1,_,⟨y2,h2,_,⟨y3,h3,_,rfl,rfl⟩,rfl⟩,rfl⟩,rfl⟩,hx⟩:=h
   obtain ⟨d0,p0⟩:=y0
   obtain ⟨d1,p1⟩:=y1
   obtain ⟨d2,p2⟩:=y2
   obtain ⟨d3,p3⟩:=y3
   simp only [Rows.laid_chronicle_field_moduli,List.map_cons,List.map_nil,Prod.mk.injEq,DataW.agg.injEq,List.cons.injEq,and_true] at hx
   obtain ⟨⟨e0,e1,e2,e3⟩,_⟩:=hx
   subst e0 e1 e2 e3
   have g0:=Lib.cells_of_tab (k:=.u64) (zs:=[18446744073709551615,4294967295,0,18446744069414584321]) Tryd.underlying67 Tryd.underlying31 cellsU64 cellsMod h0
   have g1:=Lib.cells_of_tab (k:=.u64) (zs:=[17562291160714782033,13611842547513532036,18446744073709551615,18446744069414584320]) Tryd.underlying67 Tryd.underlying31 cellsU64 cellsMod h1
   have g2:=Lib.cells_of_tab (k:=.u64) (zs:=[18446744073709551597,18446744073709551615,18446744073709551615,9223372036854775807]) Tryd.underlying67 Tryd.underlying31 cellsU64 cellsMod h2
   have g3:=Lib.cells_of_tab (k:=.u64) (zs:=[6346243789798364141,1503914060200516822,0,1152921504606846976]) Tryd.underlying67 Tryd.underlying31 cellsU64 cellsMod h3
   simp at g0 g1 g2 g3
   simp [g0,g1,g2,g3]
  ·cases h
theorem first_at:∀ i,i<8→([7640891576956012808,13503953896175478587,4354685564936845355,11912009170470909681,5840696475078001361,11170449401992604703,2270897969802886507,6620516959819538809]:List Int).getD i 0=Sx.wn (Sx.start.w i):=by decide +kernel
theorem k_at:∀ i,i<80→([4794697086780616226,8158064640168781261,13096744586834688815,16840607885511220156,4131703408338449720,6480981068601479193,10538285296894168987,12329834152419229976,15566598209576043074,1334009975649890238,2608012711638119052,6128411473006802146,8268148722764581231,9286055187155687089,11230858885718282805,13951009754708518548,16472876342353939154,17275323862435702243,1135362057144423861,2597628984639134821,3308224258029322869,5365058923640841347,6679025012923562964,8573033837759648693,10970295158949994411,12119686244451234320,12683024718118986047,13788192230050041572,14330467153632333762,15395433587784984357,489312712824947311,1452737877330783856,2861767655752347644,3322285676063803686,5560940570517711597,5996557281743188959,7280758554555802590,8532644243296465576,9350256976987008742,10552545826968843579,11727347734174303076,12113106623233404929,14000437183269869457,14369950271660146224,15101387698204529176,15463397548674623760,17586052441742319658,1182934255886127544,1847814050463011016,2177327727835720531,2830643537854262169,3796741975233480872,4115178125766777443,5681478168544905931,6601373596472566643,7507060721942968483,8399075790359081724,8693463985226723168,9568029438360202098,10144078919501101548,10430055236837252648,11840083180663258601,13761210420658862357,14299343276471374635,14566680578165727644,15097957966210449927,16922976911328602910,17689382322260857208,500013540394364858,748580250866718886,1242879168328830382,1977374033974150939,2944078676154940804,3659926193048069267,4368137639120453308,4836135668995329356,5532061633213252278,6448918945643986474,6902733635092675308,7801388544844847127]:List Int).getD i 0=Sx.wn (Sx.kW i):=by decide +kernel
def laid1 : List (String × DataW Unit) := [("chronicle/sha512.first", Rows.laid_chronicle_sha512_first), ("chronicle/sha512.constants", Rows.laid_chronicle_sha512_constants), ("chronicle/field.moduli", Rows.laid_chronicle_field_moduli), ("chronicle/ed.curveD", Rows.laid_chronicle_ed_curveD), ("chronicle/ed.rootPower", Rows.laid_chronicle_ed_rootPower), ("chronicle/ed.turn", Rows.laid_chronicle_ed_turn)]
theorem tab_of_laid {W:World} (h:laidMetH Tryd.prog laid1 W):Tab W∧Sx.Tab W∧TabX W:=by
 rw [MakeChecks.laidMetH_plain _ _ _ (by kernel_rfl)] at h
 have vFirst : Lib.TabIs Tryd.prog W "chronicle/sha512.first" .u64 [7640891576956012808, 13503953896175478587, 4354685564936845355, 11912009170470909681, 5840696475078001361, 11170449401992604703, 2270897969802886507, 6620516959819538809] := Lib.tabIs_of_head (rest := [("chronicle/sha512.constants", Rows.laid_chronicle_sha512_constants), ("chronicle/field.moduli", Rows.laid_chronicle_field_moduli), ("chronicle/ed.curveD", Rows.laid_chronicle_ed_curveD), ("chronicle/ed.rootPower", Rows.laid_chronicle_ed_rootPower), ("chronicle/ed.turn", Rows.laid_chronicle_ed_turn)]) gFirst tFirst Tryd.underlying84 Tryd.underlying31 cellsU64 cellsSt h
 have h0x:=h.tail
 have vK : Lib.TabIs Tryd.prog W "chronicle/sha512.constants" .u64 [4794697086780616226, 8158064640168781261, 13096744586834688815, 16840607885511220156, 4131703408338449720, 6480981068601479193, 10538285296894168987, 12329834152419229976, 15566598209576043074, 1334009975649890238, 2608012711638119052, 6128411473006802146, 8268148722764581231, 9286055187155687089, 11230858885718282805, 13951009754708518548, 16472876342353939154, 17275323862435702243, 1135362057144423861, 2597628984639134821, 3308224258029322869, 5365058923640841347, 6679025012923562964, 8573033837759648693, 10970295158949994411, 12119686244451234320, 12683024718118986047, 13788192230050041572, 14330467153632333762, 15395433587784984357, 489312712824947311, 1452737877330783856, 2861767655752347644, 3322285676063803686, 5560940570517711597, 5996557281743188959, 7280758554555802590, 8532644243296465576, 9350256976987008742, 10552545826968843579, 11727347734174303076, 12113106623233404929, 14000437183269869457, 14369950271660146224, 15101387698204529176, 15463397548674623760, 17586052441742319658, 1182934255886127544, 1847814050463011016, 2177327727835720531, 2830643537854262169, 3796741975233480872, 4115178125766777443, 5681478168544905931, 6601373596472566643, 7507060721942968483, 8399075790359081724, 8693463985226723168, 9568029438360202098, 10144078919501101548, 10430055236837252648, 11840083180663258601, 13761210420658862357, 14299343276471374635, 14566680578165727644, 15097957966210449927, 16922976911328602910, 17689382322260857208, 500013540394364858, 748580250866718886, 1242879168328830382, 1977374033974150939, 2944078676154940804, 3659926193048069267, 4368137639120453308, 4836135668995329356, 5532061633213252278, 6448918945643986474, 6902733635092675308, 7801388544844847127] := Lib.tabIs_of_head (rest := [("chronicle/field.moduli", Rows.laid_chronicle_field_moduli), ("chronicle/ed.curveD", Rows.laid_chronicle_ed_curveD), ("chronicle/ed.rootPower", Rows.laid_chronicle_ed_rootPower), ("chronicle/ed.turn", Rows.laid_chronicle_ed_turn)]) gK tK Tryd.underlying104 Tryd.underlying31 cellsU64 cellsW80 h0x
 have h1x:=h0x.tail
 have hmo:=h1x
 have h2x:=h1x.tail
 have vCd : Lib.TabIs Tryd.prog W "chronicle/ed.curveD" .u64 [8496970652267935907, 31536524315187371, 10144147576115030168, 5909686906226998899] := Lib.tabIs_of_head (rest := [("chronicle/ed.rootPower", Rows.laid_chronicle_ed_rootPower), ("chronicle/ed.turn", Rows.laid_chronicle_ed_turn)]) gCd tCd Tryd.underlying33 Tryd.underlying31 cellsU64 cellsNat h2x
 have h3x:=h2x.tail
 have vRp : Lib.TabIs Tryd.prog W "chronicle/ed.rootPower" .u64 [18446744073709551614, 18446744073709551615, 18446744073709551615, 1152921504606846975] := Lib.tabIs_of_head (rest := [("chronicle/ed.turn", Rows.laid_chronicle_ed_turn)]) gRp tRp Tryd.underlying33 Tryd.underlying31 cellsU64 cellsNat h3x
 have h4x:=h3x.tail
 have vTn : Lib.TabIs Tryd.prog W "chronicle/ed.turn" .u64 [14190309331451158704, 3405592160176694392, 3120150775007532967, 3135389899092516619] := Lib.tabIs_of_head (rest := []) gTn tTn Tryd.underlying33 Tryd.underlying31 cellsU64 cellsNat h4x
 obtain ⟨ps,⟨g,t,cs,fuel,p,q,hg,ht,hvar,hd,_,_⟩,_⟩:=hmo
 obtain rfl:=Option.some.inj (gMod.symm.trans hg)
 obtain rfl:=Option.some.inj (tMod.symm.trans ht)
 have hcs:=cells_of_table hd
 obtain ⟨l⟩:=cs
 simp only at hcs
 subst hcs
 refine ⟨?_,?_,?_⟩
 ·exact ⟨World.var?_cell hg hvar 0,World.var?_cell hg hvar 1,World.var?_cell hg hvar 2,World.var?_cell hg hvar 3,World.var?_cell hg hvar 4,World.var?_cell hg hvar 5,World.var?_cell hg hvar 6,World.var?_cell hg hvar 7,World.var?_cell hg hvar 8,World.var?_cell hg hvar 9,World.var?_cell hg hvar 10,World.var?_cell hg hvar 11,World.var?_cell hg hvar 12,World.var?_cell hg hvar 13,World.var?_cell hg hvar 14,World.var?_cell hg hvar 15,vCd.cell gCd 0 (by decide),vCd.cell gCd 1 (by decide),vCd.cell gCd 2 (by decide),vCd.cell gCd 3 (by decide)⟩
 ·exact ⟨fun i hi=>by rw [← first_at i hi];exact vFirst.cell gFirst i hi,fun i hi=>by rw [← k_at i hi];exact vK.cell gK i hi⟩
 ·exact ⟨vRp.cell gRp 0 (by decide),vRp.cell gRp 1 (by decide),vRp.cell gRp 2 (by decide),vRp.cell gRp 3 (by decide),vTn.cell gTn 0 (by decide),vTn.cell gTn 1 (by decide),vTn.cell gTn 2 (by decide),vTn.cell gTn 3 (by decide)⟩
theorem door_met (os:Os) (args:Array Value):laidMetH Tryd.prog laid1 ((World.doorLaid Tryd.prog 200 os).forCall (fun _ _=>0) ⟨#[],args,[]⟩).memory :=
 laidMetH_of_parts3 (fuel:=8) (laidMet_of_run' 8 (by kernel_rfl) (by kernel_rfl)) (by kernel_rfl) (by kernel_rfl)
end Go.Proofs.YtjaahnlpnkcimaaDoor
