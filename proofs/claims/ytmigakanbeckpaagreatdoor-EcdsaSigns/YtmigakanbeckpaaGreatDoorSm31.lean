/- A part of the proof. -/
import Derived.Test.YtmigakanbeckpaaGreatDoorSm30
import Derived.Test.YtmigakanbeckpaaGreatDoorSm24
import Derived.Test.YtmigakanbeckpaaGreatDoorSm23
import Derived.Deep.AppendLies
import Derived.Great.BuildSlice
set_option maxRecDepth 100000
set_option maxHeartbeats 8000000
namespace Go.Proofs.YtmigakanbeckpaaGreatDoor.Sh
set_option maxRecDepth 100000
open Go.RowKit
attribute [local go_sem ↓] Go.wp_at_zero Go.wp_at_succ
theorem sum_one {w:World} {x:Option Addr} {n c q:Nat} {g:Nat→Nat} (hT:Tab w) (hb:BA w x n g) (hc:n≤c) (hm:c≤maxLen) (hn:n≤800000) (t:TypeId) (hq:q=w.heap.size) :
  Calls Tryz.prog 63 #[.slice (some ⟨q,0,none⟩) 1 1] (w.alloc (.cells #[.slice x n c] t)) fun e w'=>e=.returned (.agg (hA g n))∧Below w.heap.size w w':=by
 subst hq
 have hk:=K.alloc (Below.refl _ w) (.cells #[.slice x n c] t)
 have e1:lenF (fun _=>n) 1=n:=by simp only [lenF];omega
 have h:=sum_any (c:=1) (x:=some ⟨w.heap.size,0,none⟩) (k:=1) (A:=fun _=>x) (L:=fun _=>n) (C:=fun _=>c) (G:=fun _=>g) (hT.keep hk) ⟨fun i _=>hb.keep hk,fun i _=>⟨hc,hm⟩,Or.inr ⟨_,_,rfl,fun i hi=>by
  obtain rfl:i=0:=by omega
  rw [cell_of_row _ _ _ _ _ _ (heap_alloc_new w _)];rfl⟩⟩ (by omega) (by rw [e1];exact hn)
 have e:hashS (catF (fun _=>n) (fun _=>g) 1) (lenF (fun _=>n) 1)=hashS g n:=by
  rw [e1]
  simp only [catF,lenF,cat_zero]
 rw [e] at h
 unfold hA
 exact Calls.mono h (fun e w' ⟨h1,h2⟩=>⟨h1,K.call hk h2⟩)
theorem dsum_hA {w:World} {b n:Nat} {f:Nat→Nat} (hT:Tab w) (hD:Dig w b f n) (hn:n≤800000) :
  Calls Tryz.prog 105 #[.pointer (some ⟨b,0,none⟩)] w fun e w'=>e=.returned (.agg (hA f n))∧Below w.heap.size w w':=by
 unfold hA
 exact dsum_any hT hD hn
theorem dig_made (w:World) (t:TypeId) (f:Nat→Nat):Dig (w.alloc (.cells (dg st0 (fun _=>0) 0).toArray t)) w.heap.size f 0 :=
 ⟨st0,fun _=>0,DigR.made w t st0 (fun _=>0) 0 _ rfl,Or.inl rfl,fun _=>by show 0<256;omega,fun i hi=>by omega⟩
end Go.Proofs.YtmigakanbeckpaaGreatDoor.Sh
namespace Go.Proofs.YtmigakanbeckpaaGreatDoor.Sh
set_option maxRecDepth 100000
open Go.RowKit
theorem wp_one {op:Oper} {a:Act} {w:World} {Kt:Act→World→Prop} {Q:Exit→Act→World→Prop} {x:Operand} {y:Option Addr} {n c:Nat} (ho:op.op=.buildSlice 103 1 #[(0,x)]) (hx:a.eval x=.slice y n c)
  (h:∀ p W',p=w.heap.size→W'.cell? ⟨p,0,none⟩=some (.slice y n c)→Below w.heap.size w W'→Kt (a.put op.dst (.slice (some ⟨p,0,none⟩) 1 1)) W'):Oper.wp Tryz.prog op a w Kt Q:=by
 have h':=h w.heap.size (w.alloc (.cells #[.slice y n c] 25)) rfl (by rw [cell_of_row _ _ _ _ _ _ (heap_alloc_new w _)];rfl) (K.alloc (Below.refl _ _) _)
 unfold Oper.wp execOp
 simp only [ho,List.map_toArray,List.map_cons,List.map_nil,hx]
 go_simp
 exact h'
def cutA (a:Option Addr) (c k:Nat):Option Addr:=if c=k then a else a.map (·.add k)
end Go.Proofs.YtmigakanbeckpaaGreatDoor.Sh
namespace Go.Proofs.YtmigakanbeckpaaGreatDoor.Sh
set_option maxRecDepth 100000
def kpad (f:Nat→Nat) (n i:Nat):Nat:=if n≤64 then (if i<n then f i else 0) else (if i<32 then hByte (hashS f n) i else 0)
def macS (f:Nat→Nat) (n:Nat) (g:Nat→Nat) (m:Nat):St:=hashS (cat (fun i=>kpad f n i ^^^ 92) 64 (hByte (hashS (cat (fun i=>kpad f n i ^^^ 54) 64 g) (64+m)))) 96
theorem kpad_lt {f:Nat→Nat} (hf:∀ i,f i<256) (n i:Nat):kpad f n i<256:=by
 unfold kpad
 (repeat' split)
 ·exact hf i
 ·omega
 ·exact Nat.mod_lt _ (by omega)
 ·omega
def mA (f:Nat→Nat) (n:Nat) (g:Nat→Nat) (m:Nat):Array Value:=(ab (hByte (macS f n g m)) 32).toArray
end Go.Proofs.YtmigakanbeckpaaGreatDoor.Sh
namespace Go.Proofs.YtmigakanbeckpaaGreatDoor.Sh
set_option maxRecDepth 100000
open Go.RowKit
theorem zW {c:Bool} {A B:Prop} (h:c=true) (a:A):if c=true then A else B:=by rw [if_pos h];exact a
theorem wp_call {F:Nat} {op:Oper} {a:Act} {w:World} {Kt:Act→World→Prop} {Q:Exit→Act→World→Prop} {xs:Array Operand} {ts:Array TypeId} {vs:Array Value} {R:Value→World→Prop} (ho:op.op=.call { callee:=.value (.func F),args:=xs,argTypes:=ts }) (hx:xs.map a.eval=vs) (hE:(callFunc F vs).run Tryz.prog w=.ok (.enter F vs) w)
  (hC:Calls Tryz.prog F vs w fun e w'=>∃ r,e=.returned r∧R r w') (h:∀ r w',R r w'→Kt (a.put op.dst r) w'):Oper.wp Tryz.prog op a w Kt Q:=by
 have hf:a.eval (.func F)=.func (.func F) #[] #[]:=rfl
 unfold Oper.wp execOp
 simp only [ho,resolve,invoke,hf,Deferred.ofValue,hx,Sem.run_bind,Sem.run_pure,Result.andThen_ok]
 rw [show (#[]++vs++#[]:Array Value)=vs by simp,hE,Oper.upon_enter]
 refine Calls.mono hC ?_
 rintro e w' ⟨r,rfl,hr⟩
 exact h r w' hr
theorem wpList_app1 {W:World} {ops:Array Oper} {rest:List Oper} {op:Oper} {a:Act} {Q:Exit→Act→World→Prop} (hgd:op.guard=none) (s x:Operand)
  (ho:op.op=.call { callee:=.builtin .append,args:=#[s,x],argTypes:=#[25,25] })
  {base:Nat} {v:Value} {n:Nat} {l:List Nat} {o:Obj} (hs:a.eval s=v) (hown:(W.alloc o).ownsRow base 5 1 v n (cells8 l)) {b c:Nat} (hb:b<256) (hx:a.eval x=.slice (some ⟨W.heap.size,0,none⟩) 1 c) (hq:o=.cells #[.int .u8 (b:Int)] 5) (hn:n+1≤1000000) (hbase:base≤W.heap.size)
  (h:∀ g cap w',w'.ownsRow base 5 1 (.slice (some ⟨g,0,none⟩) (n+1) cap) (n+1) (cells8 (l++[b]))→(W.alloc o).grownBy w' v.ownBlock→(v.ownBlock=some g∨g=W.heap.size+1)→g<w'.heap.size→wpList Tryz.prog ops Q rest (a.put op.dst (.slice (some ⟨g,0,none⟩) (n+1) cap)) w') :
  wpList Tryz.prog ops Q (op :: rest) a (W.alloc o):=by
 obtain ⟨i0,hi,hz0,hz1,hz2⟩:=info_parts info8
 have hy:=one_made W b hb
 subst hq
 refine wpList_append_lies (W.alloc (.cells #[.int .u8 (b:Int)] 5)) hgd s x 25 ho base 5 i0 (.int .u8 0) 1 1 Tryz.underlying25 hi hz0 hz1 hz2 rfl (by decide) v n _ hs hown ⟨W.heap.size,0,none⟩ 1 c [.int .u8 (b:Int)] hx rfl (fun j u hu=>?_) (fun u hu=>by simp only [List.mem_singleton] at hu;subst hu;rfl) (by omega) (by unfold maxLen;omega) (by omega) (by simp;omega) (W.heap.size+1) (by simp) (fun g cap w' h1 h2 h3 h4=>?_)
 ·rcases j with _ | j
  ·rcases hy.at_ with h0 | ⟨b',o',e,hr⟩
   ·omega
   ·cases e
    have h0:=hr.c 0 (by omega)
    simp only [List.getElem?_cons_zero,Option.some.injEq] at hu
    subst hu
    rw [Addr.add_mid]
    exact h0
  ·simp at hu
 ·refine h g cap w' ?_ h2 h3 h4
  rw [show cells8 (l++[b])=cells8 l++[.int .u8 (b:Int)] from List.map_append]
  exact h1
theorem fl_succ (f:Nat→Nat) (n:Nat):fl f (n+1)=fl f n++[f n]:=by
 unfold fl
 rw [List.range_succ,List.map_append]
 rfl
theorem xor_lt {a b:Nat} (ha:a<256) (hb:b<256):a ^^^ b<256:=Nat.xor_lt_two_pow (n:=8) ha hb
theorem infoKB:(Tryz.prog.info? 147).map (·.size)=some 64:=by kernel_rfl
theorem inKB (f:Nat→Nat):(Tryz.prog.info? 147).map (·.size)=some (ab f 64).toArray.size:=by rw [List.size_toArray,ab_len];exact infoKB
theorem ilKB (f:Nat→Nat):(Tryz.prog.info? 147).map (·.size)=some (ab f 64).length:=by rw [ab_len];exact infoKB
theorem zerosKB:(#[.int .u8 0,.int .u8 0,.int .u8 0,.int .u8 0,.int .u8 0,.int .u8 0,.int .u8 0,.int .u8 0,.int .u8 0,.int .u8 0,.int .u8 0,.int .u8 0,.int .u8 0,.int .u8 0,.int .u8 0,.int .u8 0,.int .u8 0,.int .u8 0,.int .u8 0,.int .u8 0,.int .u8 0,.int .u8 0,.int .u8 0,.int .u8 0,.int .u8 0,.int .u8 0,.int .u8 0,.int .u8 0,.int .u8 0,.int .u8 0,.int .u8 0,.int .u8 0,.int .u8 0,.int .u8 0,.int .u8 0,.int .u8 0,.int .u8 0,.int .u8 0,.int .u8 0,.int .u8 0,.int .u8 0,.int .u8 0,.int .u8 0,.int .u8 0,.int .u8 0,.int .u8 0,.int .u8 0,.int .u8 0,.int .u8 0,.int .u8 0,.int .u8 0,.int .u8 0,.int .u8 0,.int .u8 0,.int .u8 0,.int .u8 0,.int .u8 0,.int .u8 0,.int .u8 0,.int .u8 0,.int .u8 0,.int .u8 0,.int .u8 0,.int .u8 0]:Array Value)=(ab (fun _=>0) 64).toArray:=by kernel_rfl
theorem RowB.first {w:World} {b N n:Nat} {f:Nat→Nat} (h:RowB w b N f) (hn:n≤N) (g:Nat→Nat):RowB (w.setCells b 0 (ab g n)) b N (fun i=>if i<n then g i else f i):=by
 have ht:w.there b 0 (ab g n).length:=fun j hj=>by
  rw [ab_len] at hj
  rw [Nat.zero_add,h.c j (by omega),h.z j (by omega)];exact ⟨rfl,rfl⟩
 have hr:=World.rangeAt_setCells_same w b 0 (ab g n) ht
 refine ⟨by rw [qC];exact h.lt,fun i hi=>?_,fun i hi=>by rw [World.frozen?_setCells];exact h.z i hi⟩
 by_cases e:i<n
 ·have:=hr i _ (ab_at g e)
  rw [Nat.zero_add] at this
  rw [this]
  show _=some (Value.int .u8 (((if i<n then g i else f i:Nat)):Int))
  rw [if_pos e]
 ·rw [World.cell?_setCells_out b _ 0 w _ (fun _ _=>Or.inr (by rw [ab_len];simp only;omega)),h.c i hi]
  show _=some (Value.int .u8 (((if i<n then g i else f i:Nat)):Int))
  rw [if_neg e]
theorem RowB.thereN {w:World} {b N n:Nat} {f:Nat→Nat} (h:RowB w b N f) (hn:n≤N):w.there b 0 n:=fun j hj=>by
 rw [Nat.zero_add,h.c j (by omega),h.z j (by omega)];exact ⟨rfl,rfl⟩
theorem run_copyBA {W:World} {b o dLen dCap n c k:Nat} {x:Option Addr} {g:Nat→Nat} (hx:BA W x n g) (hk:k=Nat.min n dLen) (ht:W.there b o k) (ty:TypeId) :
  (Builtin.copy_ #[25,25] ty #[.slice (some ⟨b,o,none⟩) dLen dCap,.slice x n c]).run Tryz.prog W=.ok (goInt k) (W.setCells b o (ab g k)):=by
 rcases hx.at_ with h0 | ⟨xb,xo,rfl,hr⟩
 ·have h:=run_copy_none (P:=Tryz.prog) W 25 25 ty 5 (some ⟨b,o,none⟩) x dLen dCap n c Tryz.underlying25 (by kernel_rfl) (by rw [h0];exact Nat.zero_min _)
  have hk0:k=0:=by rw [hk,h0];exact Nat.zero_min _
  subst hk0
  exact h
 ·have h:=run_copy_cells (P:=Tryz.prog) W 25 25 ty 5 b o dLen dCap ⟨xb,xo,none⟩ n c (ab g k) Tryz.underlying25 (by kernel_rfl) (by rw [ab_len];exact hk) (fun j v hv=>by
   have hj:j<k:=by
    rcases Nat.lt_or_ge j k with h' | h'
    ·exact h'
    ·rw [List.getElem?_eq_none (by rw [ab_len];exact h')] at hv;cases hv
   rw [ab_at g hj] at hv
   have hkn:k≤n:=by rw [hk];exact Nat.min_le_left _ _
   rw [Addr.add_mid,hr.c j (by omega)];exact hv) (fun j hj=>(ht j (by rw [ab_len] at hj;exact hj)).1) (fun j hj=>(ht j (by rw [ab_len] at hj;exact hj)).2) (ab_one _ _)
  rw [ab_len] at h
  exact h
theorem wp_copy {W:World} {op:Oper} {a:Act} {Kt:Act→World→Prop} {Q:Exit→Act→World→Prop} (d s:Operand)
  (ho:op.op=.call { callee:=.builtin .copy,args:=#[d,s],argTypes:=#[25,25] })
  {b o dLen dCap n c:Nat} {x:Option Addr} {g:Nat→Nat} (hd:a.eval d=.slice (some ⟨b,o,none⟩) dLen dCap) (hs:a.eval s=.slice x n c) (hx:BA W x n g) (k:Nat) (hk:k=Nat.min n dLen) (ht:W.there b o k)
  (h:Kt (a.put op.dst (goInt k)) (W.setCells b o (ab g k))):Oper.wp Tryz.prog op a W Kt Q:=by
 have hr:=run_copyBA (c:=c) (dCap:=dCap) hx hk ht op.type
 unfold Oper.wp execOp
 simp only [ho,resolve,invoke,builtin,Sem.run_bind,Sem.run_pure,Result.andThen_ok,List.map_toArray,List.map_cons,List.map_nil,hd,hs,hr]
 exact h
theorem wpList_copy {W:World} {ops:Array Oper} {rest:List Oper} {op:Oper} {a:Act} {Q:Exit→Act→World→Prop} (hgd:op.guard=none) (d s:Operand)
  (ho:op.op=.call { callee:=.builtin .copy,args:=#[d,s],argTypes:=#[25,25] })
  {b o dLen dCap n c:Nat} {x:Option Addr} {g:Nat→Nat} (hd:a.eval d=.slice (some ⟨b,o,none⟩) dLen dCap) (hs:a.eval s=.slice x n c) (hx:BA W x n g) (k:Nat) (hk:k=Nat.min n dLen) (ht:W.there b o k)
  (h:wpList Tryz.prog ops Q rest (a.put op.dst (goInt k)) (W.setCells b o (ab g k))):wpList Tryz.prog ops Q (op :: rest) a W :=
 wpList_plain hgd fun _ hK=>wp_copy d s ho hd hs hx k hk ht (hK _ _ h)
end Go.Proofs.YtmigakanbeckpaaGreatDoor.Sh
namespace Go.Proofs.YtmigakanbeckpaaGreatDoor.Sh
set_option maxRecDepth 100000
open Go.RowKit
attribute [local go_sem ↓] Go.wp_at_zero Go.wp_at_succ
theorem fill_any {w:World} {x:Option Addr} {n c:Nat} {f:Nat→Nat} (hT:Tab w) (hx:BA w x n f) (hc:n≤c) (hm:c≤maxLen) (hn:n≤800000) :
  Calls Tryz.prog 145 #[.slice x n c] w fun e w'=>e=.returned (.agg (ab (kpad f n) 64).toArray)∧Below w.heap.size w w':=by
 have HT:=hide hT
 have HX:=hide hx
 have HN:=hide (And.intro hc (And.intro hm hn))
 have hni:(n:Int)≤800000:=by omega
 clear hT hx hc hm hn
 go_enter Tryz.func145,Tryz.ntmps145
 go_upto_region 2 with fail
 refine qH (fun X hX=>?_)
 have hB:Below w.heap.size w X:=by rw [hX];exact K.alloc (K.alloc (Below.refl _ _) _) _
 have hR:RowB X w.heap.size 64 (fun _=>0):=by rw [hX];exact Row8.keep (RowB.made w 147 64 (fun _=>0) _ zerosKB) (K.alloc (Below.refl _ _) _)
 have hF:RowB X (w.heap.size+1) 64 (fun _=>0):=by
  rw [hX]
  have h:=RowB.made (w.alloc (.cells (ab (fun _=>0) 64).toArray 147)) 147 64 (fun _=>0) _ zerosKB
  rw [← zerosKB] at h
  have e:∀ o,(w.alloc o).heap.size=w.heap.size+1:=fun o=>by simp
  rw [e] at h
  exact h
 clear hX
 have HXX:=hide (HX.out.keep hB)
 have HTX:=hide (HT.out.keep hB)
 obtain ⟨b0,hb0⟩:∃ b0,w.heap.size=b0:=⟨_,rfl⟩
 rw [hb0] at hB hR hF ⊢
 have HR:=hide hR
 have HF:=hide hF
 have HB:=hide hB
 clear hR hF hB
 go_upto_if 7 with fail
 go_cut [] (fun wc=>RowB wc (b0+1) 64 (kpad f n)∧RowB wc b0 64 (fun _=>0)∧Below b0 w wc)
 case first =>
  by_cases h64:n≤64
  ·have h64i:(n:Int)≤64:=by omega
   have HRow:Hid (RowB (X.setCells (b0+1) 0 (ab f n)) (b0+1) 64 (kpad f n)):=Row8.congr (RowB.first HF.out h64 f) (fun i _=>by unfold kpad;rw [if_pos h64])
   have HRes:Hid (RowB (X.setCells (b0+1) 0 (ab f n)) b0 64 (fun _=>0)):=Row8.apart HR.out (by omega) _ _
   have HBel:Hid (Below b0 w (X.setCells (b0+1) 0 (ab f n))):=by subst hb0;exact zK _ _ HB.out (by omega)
   have HTh:=hide (RowB.thereN HF.out h64)
   have HMin:Hid (n=Nat.min n 64):=(Nat.min_eq_left h64).symm
   clear h64 HR HF HB
   go_wp2_with (refine wpList_copy rfl _ _ rfl rfl rfl HXX.out n HMin.out HTh.out ?_;generalize X.setCells (b0+1) 0 (ab f n)=Y at HRow HRes HBel ⊢)
   go_meet
   case rel=>exact ⟨HRow.out,HRes.out,HBel.out⟩
  ·have h64i:(64:Int)<n:=by omega
   have HE:=hide (sum_one HTX.out HXX.out HN.out.1 HN.out.2.1 HN.out.2.2 25 rfl)
   go_wp2_with fail
   with_reducible refine Calls.mono HE.out ?_
   rintro e w2 ⟨rfl,hb⟩
   unfold hA
   obtain ⟨h,hh⟩:∃ h,h=hByte (hashS f n):=⟨_,rfl⟩
   have HK:Hid (∀ i,kpad f n i=if i<32 then h i else 0):=fun i=>by unfold kpad;rw [if_neg h64,hh]
   have HL:Hid (∀ i,h i<256):=fun i=>by rw [hh];exact hByte_lt _ i
   rw [← hh]
   have HR2:=hide (Row8.keep HR.out hb)
   have HF2:=hide (Row8.keep HF.out hb)
   have HB2:Hid (Below b0 w w2):=by subst hb0;exact K.call HB.out hb
   have HSZ:Hid (32=(ab h 32).toArray.size):=by show _=_;rw [List.size_toArray,ab_len]
   clear hb hh HR HF HB h64 HE HXX HTX
   have hal:=K.alloc (Below.refl _ w2) (.cells (ab h 32).toArray 60)
   have HS:=hide (RowB.made w2 60 32 h _ rfl)
   have HR3:=hide (Row8.keep HR2.out hal)
   have HF3:=hide (Row8.keep HF2.out hal)
   have HB3:Hid (Below b0 w (w2.alloc (.cells (ab h 32).toArray 60))):=by subst hb0;exact K.call HB2.out hal
   clear hal HR2 HF2 HB2
   go_upto_region 4 with (refine qG rfl 60 _ _ rfl _ (ab h 32).toArray rfl rfl (inH _) HSZ.out (all_oneCell_toArray (ab_one _ _)) ?_;generalize w2.alloc (.cells (ab h 32).toArray 60)=Y at HS HR3 HF3 HB3 ⊢)
   have hd:=K.drew (Below.refl _ Y)
   have HSd:=hide (RowB.ba (Row8.keep HS.out hd) HL.out)
   have HFd:=hide (Row8.keep HF3.out hd)
   have HRd:=hide (Row8.keep HR3.out hd)
   have HBd:Hid (Below b0 w Y.drew):=by subst hb0;exact K.call HB3.out hd
   clear hd HS HF3 HR3 HB3
   refine wp_region_noPanic ?_
   refine wp_region_held_drew (S:=fun _=>True) (by kernel_rfl) trivial (fun _=>?_)
   refine wpAnyH_take (i:=0) (v:=.slice (some ⟨b0+1,0,none⟩) 64 64) rfl (by kernel_rfl) (by kernel_rfl) (by kernel_rfl) (fun _ _ _ h=>h) (Or.inl ⟨by rfl,fun w' _=>by go_simp⟩) trivial ?_
   simp only [Act.put,List.getElem_toArray,List.getElem_cons_zero,List.setIfInBounds_toArray,List.set_cons_zero,List.set_cons_succ]
   refine wpAnyH_take (i:=1) (v:=.slice (some ⟨w2.heap.size,0,none⟩) 32 32) rfl (by kernel_rfl) (by kernel_rfl) (by kernel_rfl) (fun _ _ _ h=>h) (Or.inl ⟨by rfl,fun w' _=>by go_simp⟩) trivial ?_
   simp only [Act.put,List.getElem_toArray,List.getElem_cons_zero,List.getElem_cons_succ,List.setIfInBounds_toArray,List.set_cons_zero,List.set_cons_succ]
   refine wpAnyH_ready (rs:=[2]) (by kernel_rfl) (by simp) (AllReadyH.cons rfl (fun Kt hK=>?_) AllReadyH.nil)
   refine zW rfl ?_
   refine wp_copy _ _ rfl rfl rfl HSd.out 32 rfl (RowB.thereN HFd.out (by omega)) (hK.out _ _ trivial (fun _=>?_))
   clear hK Kt
   have HRow:Hid (RowB (Y.drew.setCells (b0+1) 0 (ab h 32)) (b0+1) 64 (kpad f n)):=Row8.congr (RowB.first HFd.out (by omega) h) (fun i _=>by rw [HK.out i])
   have HRes:Hid (RowB (Y.drew.setCells (b0+1) 0 (ab h 32)) b0 64 (fun _=>0)):=Row8.apart HRd.out (by omega) _ _
   have HBel:Hid (Below b0 w (Y.drew.setCells (b0+1) 0 (ab h 32))):=by subst hb0;exact zK _ _ HBd.out (by omega)
   clear HFd HRd HBd HSd
   generalize Y.drew.setCells (b0+1) 0 (ab h 32)=Z at HRow HRes HBel ⊢
   refine wpAnyH_done (by kernel_rfl) ?_ _
   refine NoPanic.normal ?_
   simp only [Act.put,List.getElem_toArray,List.getElem_cons_zero,List.getElem_cons_succ,List.setIfInBounds_toArray,List.set_cons_zero,List.set_cons_succ]
   go_wp2_with fail
   go_meet
   case rel=>exact ⟨HRow.out,HRes.out,HBel.out⟩
 case rest =>
  obtain ⟨hF,hR,hB⟩:=hcut
  have HRG:=hide (RowB.range hF)
  have HTH:=hide (RowB.there hR (kpad f n))
  have HST:=hide (RowB.stored hR (kpad f n))
  have HB:Hid (Below b0 w (wc.setCells b0 0 (ab (kpad f n) 64).toArray.toList)):=by subst hb0;exact zK _ _ hB (Nat.le_refl _)
  clear hF hR hB HR HF
  generalize hg:kpad f n=g at HRG HTH HST HB ⊢
  have HG:=hide hg
  clear hg
  go_wp2_with (first
   | (refine wpList_load_mid rfl 147 _ rfl _ 0 rfl (ab g 64) _ HRG.out Tryz.underlying147 rfl (ilKB _) ?_;simp only [Act.put,List.setIfInBounds_toArray,List.set_cons_zero,List.set_cons_succ])
   | (refine wpList_store_mid rfl 147 _ _ rfl b0 0 (ab g 64).toArray rfl rfl HTH.out (inKB _) (all_oneCell_toArray (ab_one _ _)) ?_;generalize wc.setCells b0 0 (ab g 64).toArray.toList=Z at HST HB ⊢))
  exact bodyPost_ret (zV Tryz.results145 _ _ b0 (ab g 64) _ rfl (RowB.range HST.out) Tryz.underlying147 rfl (ilKB _)) rfl ⟨by rw [HG.out],by rw [hb0];exact HB.out⟩
def mixF (f:Nat→Nat) (m i j:Nat):Nat:=if j<i then f j ^^^ m else f j
theorem khash_any {w:World} {x:Option Addr} {k c m:Nat} {f:Nat→Nat} {A:Nat→Option Addr} {L C:Nat→Nat} {G:Nat→Nat→Nat} (hT:Tab w) (hf:∀ i,f i<256) (hm:m<256) (hP:PL w x k A L C G) (hk:k≤1000000) (hl:lenF L k≤700000) :
  Calls Tryz.prog 146 #[.agg (ab f 64).toArray,.int .u8 (m:Int),.slice x k c] w fun e w'=>e=.returned (.agg (hA (cat (fun i=>f i ^^^ m) 64 (catF L G k)) (64+lenF L k)))∧Below w.heap.size w w':=by
 have HT:=hide hT
 have HL:=hide hT.lt
 have HP:=hide hP
 have HN:=hide hl
 have HFl:=hide hf
 have HM:=hide hm
 have hmi:(m:Int)<256:=by omega
 have hki:(k:Int)≤1000000:=by omega
 clear hT hP hl hf hm
 have HMA:Hid (∀ W:World,RowB (W.alloc (.cells (ab f 64).toArray 147)) W.heap.size 64 f):=fun W=>RowB.made W _ 64 f _ rfl
 obtain ⟨A0,hA0⟩:∃ A0,A0=(ab f 64).toArray:=⟨_,rfl⟩
 rw [← hA0] at HMA ⊢
 clear hA0
 have zD:=fun W=>zeroDig W
 go_enter Tryz.func146,Tryz.ntmps146
 go_upto_region 1 with fail
 refine qH (fun X hX=>?_)
 have hB:Below w.heap.size w X:=by rw [hX];exact K.alloc (K.alloc (Below.refl _ _) _) _
 have hF:RowB X w.heap.size 64 f:=by rw [hX];exact Row8.keep (HMA.out w) (K.alloc (Below.refl _ _) _)
 have hH:RowB X (w.heap.size+1) 32 (fun _=>0):=by
  rw [hX]
  have h:=RowB.made (w.alloc (.cells A0 147)) 60 32 (fun _=>0) _ zeros32
  have e:∀ o,(w.alloc o).heap.size=w.heap.size+1:=fun o=>by simp
  rw [e] at h
  exact h
 clear hX HMA
 obtain ⟨b0,hb0⟩:∃ b0,w.heap.size=b0:=⟨_,rfl⟩
 rw [hb0] at hB hH hF HL ⊢
 have HH:=hide hH
 have HF:=hide hF
 have HB:=hide hB
 clear hH hF hB
 go_wp2_with fail
 go_loopg [11] 64 (fun g' s11 wr=>∃ i:Nat,g'=64-i∧i≤64∧s11=.int .i64 i∧RowB wr b0 64 (mixF f m i)∧RowB wr (b0+1) 32 (fun _=>0)∧Below b0 w wr)
 case atStart=>exact ⟨0,rfl,by omega,rfl,Row8.congr HF.out (fun i _=>by unfold mixF;rw [if_neg (by omega)]),HH.out,HB.out⟩
 case round =>
  clear HF HH HB
  obtain ⟨i,rfl,hi,rfl,hF,hH,hB⟩:=hrel
  by_cases hlt:i<64
  ·have ci:=hF.c i hlt
   have zi:=hF.z i hlt
   have e1:mixF f m i i=f i:=by unfold mixF;rw [if_neg (by omega)]
   simp only [e1] at ci
   obtain ⟨d,hd⟩:∃ d,d=f i ^^^ m:=⟨_,rfl⟩
   have HD:=hide hd
   have hfi:=HFl.out i
   have x1:bits .xor .u8 ((f i:Nat):Int) (m:Int)=(d:Int):=by rw [hd];exact u8_xor_nat (f i) m hfi HM.out
   have hd256:d<256:=by rw [hd];exact xor_lt hfi HM.out
   obtain ⟨y,hy⟩:∃ y,y=f i:=⟨_,rfl⟩
   rw [← hy] at ci x1 hfi
   have hyi:(y:Int)<256:=by omega
   have hdi:(d:Int)<256:=by omega
   have hii:(i:Int)<64:=by omega
   have HFr:=hide hF
   have HH:=hide hH
   have HB:=hide hB
   have HI:=hide hlt
   have hvl:=hF.lt
   clear hF hH hB hi hlt hd hy e1
   go_wp2_with fail
   go_roundg (64-(i+1))
   case measure=>have:=HI.out;omega
   case rel=>exact ⟨i+1,rfl,by have:=HI.out;omega,by go_num,(Row8.store HFr.out i HI.out (d:Int)).congr (fun j hj=>by
    unfold mixF
    by_cases e:j=i
    ·subst e;rw [if_pos rfl,if_pos (by omega),HD.out]
    ·rw [if_neg e]
     by_cases e2:j<i
     ·rw [if_pos e2,if_pos (by omega)]
     ·rw [if_neg e2,if_neg (by omega)]),row8_other HH.out (by omega) i _,by subst hb0;exact K.set HB.out (Nat.le_refl _) _⟩
  ·obtain rfl:i=64:=by omega
   have hFF:RowB wr b0 64 (fun i=>f i ^^^ m):=Row8.congr hF (fun j hj=>by unfold mixF;rw [if_pos hj])
   obtain ⟨F,hFe⟩:∃ F:Nat→Nat,F=fun i=>f i ^^^ m:=⟨_,rfl⟩
   have HFlt:Hid (∀ i,F i<256):=fun i=>by rw [hFe];exact xor_lt (HFl.out i) HM.out
   rw [← hFe] at hFF
   have HFE:=hide hFe
   have hsz:=hH.lt
   have HB:=hide hB
   have HH:=hide hH
   have HF:=hide hFF
   have HS:=hide hsz
   clear hF hFF hFe hB hH hsz hlt hi
   go_upto_region 7 with fail
   refine qH (fun X hX=>?_)
   have hal:Below wr.heap.size wr X:=by rw [hX];exact K.alloc (Below.refl _ _) _
   have hD:Dig X wr.heap.size F 0:=by rw [hX];exact dig_made wr 115 F
   clear hX zD
   have HF1:=hide (Row8.keep HF.out hal)
   have HH1:=hide (Row8.keep HH.out hal)
   have HB1:Hid (Below b0 w X):=by subst hb0;exact K.call HB.out hal
   have hbw:Below w.heap.size w X:=by rw [hb0];exact HB1.out
   have HT1:=hide (HT.out.keep hbw)
   obtain ⟨b1,hb1⟩:∃ b1,wr.heap.size=b1:=⟨_,rfl⟩
   rw [hb1] at hD HS ⊢
   have HW:=hide (write_any (b:=b1) (m:=64) (c:=64) (x:=some ⟨b0,0,none⟩) HT1.out (by have:=HL.out;have:=HS.out;omega) (RowB.ba HF1.out HFlt.out) (fun _ p hp=>by cases hp;show b0≠b1;have:=HS.out;omega) (Nat.le_refl _) (by unfold maxLen;omega) hD (by omega))
   clear hal hD hbw HF HH HB HT1
   go_upto_region 8 with fail
   with_reducible refine Calls.mono HW.out ?_
   rintro e W2 ⟨⟨v,rfl⟩,hD2,hG2⟩
   rw [cat_zero,Nat.zero_add] at hD2
   have hH2:RowB W2 (b0+1) 32 (fun _=>0):=⟨Nat.lt_of_lt_of_le HH1.out.lt hG2.size,fun i hi=>hG2.cell (HH1.out.c i hi) (by have:=HS.out;simp;omega),fun i hi=>by
    rw [World.frozen?_of_block (w:=X) (hG2.block (b0+1) HH1.out.lt (by have:=HS.out;simp;omega))];exact HH1.out.z i hi⟩
   have hB2:Below b0 w W2:=HB1.out.grown hG2 (by have:=HH1.out.lt;omega) (fun k hk=>by cases hk;have:=HS.out;omega)
   have HD2:=hide hD2
   have HH2:=hide hH2
   have HB2:=hide hB2
   clear hD2 hH2 hB2 hG2 HW HH1 HB1 HF1
   go_wp2_with fail
   go_loopg [25] k (fun g' s25 wr=>∃ i:Nat,g'=k-i∧i≤k∧s25=.int .i64 i∧Dig wr b1 (cat F 64 (catF L G i)) (64+lenF L i)∧RowB wr (b0+1) 32 (fun _=>0)∧Below b0 w wr)
   case atStart=>exact ⟨0,rfl,by omega,rfl,HD2.out.congr (fun i hi=>by unfold cat;rw [if_pos hi]),HH2.out,HB2.out⟩
   case round =>
    clear HH2 HD2 HB2
    obtain ⟨i,rfl,hi,rfl,hD,hH,hB⟩:=hrel
    have hB':Below w.heap.size w wr:=by rw [hb0];exact hB
    have HT1:=hide (HT.out.keep hB')
    have HP1:=hide (HP.out.keep hB')
    clear hB'
    by_cases hlt:i<k
    ·rcases HP1.out.at_ with h0 | ⟨pb,po,rfl,hc⟩
     ·omega
     have ci:=hc i hlt
     have hii:(i:Int)<(k:Int):=by omega
     have hcp:=HP1.out.cp i hlt
     have hln:lenF L i+L i≤700000:=by
      have h1:=HN.out
      have h2:lenF L (i+1)≤lenF L k:=lenF_mono L hlt
      simp only [lenF] at h2
      omega
     have hDl:b1<wr.heap.size:=by obtain ⟨s,r,h,_⟩:=hD;exact h.lt
     have HW:=hide (write_any (c:=C i) HT1.out (by have:=HL.out;have:=HS.out;omega) (HP1.out.ba i hlt) (fun hm p hp=>by
      have h1:=(HP.out.ba i hlt).block hm p hp
      have:=HS.out
      omega) hcp.1 hcp.2 hD (by omega))
     have HH:=hide hH
     have HB:=hide hB
     have HI:=hide (And.intro hlt hDl)
     clear hc hcp hD hH hB hi hln hDl hlt
     go_wp2_with fail
     with_reducible refine Calls.mono HW.out ?_
     rintro e W2 ⟨⟨v,rfl⟩,hD2,hG2⟩
     rw [cat_assoc,Nat.add_assoc] at hD2
     have hH2:RowB W2 (b0+1) 32 (fun _=>0):=⟨Nat.lt_of_lt_of_le HH.out.lt hG2.size,fun i hi=>hG2.cell (HH.out.c i hi) (by have:=HS.out;simp;omega),fun i hi=>by
      rw [World.frozen?_of_block (w:=wr) (hG2.block (b0+1) HH.out.lt (by have:=HS.out;simp;omega))];exact HH.out.z i hi⟩
     have hB2:Below b0 w W2:=HB.out.grown hG2 (by have:=HI.out;have:=HS.out;omega) (fun k hk=>by cases hk;have:=HS.out;omega)
     clear HW HH HB ci hG2
     go_wp2_with fail
     go_roundg (k-(i+1))
     case measure=>have:=HI.out;omega
     case rel=>exact ⟨i+1,rfl,by have:=HI.out;omega,by go_num,hD2,hH2,hB2⟩
    ·obtain rfl:i=k:=by omega
     have HDS:=hide (dsum_hA HT1.out hD (by have:=HN.out;omega))
     have HH:=hide hH
     have HB:=hide hB
     clear hD hH hB hi hlt
     go_wp2_with fail
     with_reducible refine Calls.mono HDS.out ?_
     rintro e W3 ⟨rfl,hb⟩
     unfold hA
     have hH3:=Row8.keep HH.out hb
     have hB3:Below b0 w W3:=by subst hb0;exact K.call HB.out hb
     have HTH:=hide (RowB.there hH3 (hByte (hashS (cat F 64 (catF L G i)) (64+lenF L i))))
     have HST:=hide (RowB.stored hH3 (hByte (hashS (cat F 64 (catF L G i)) (64+lenF L i))))
     have HB:Hid (Below b0 w (W3.setCells (b0+1) 0 (ab (hByte (hashS (cat F 64 (catF L G i)) (64+lenF L i))) 32).toArray.toList)):=by subst hb0;exact zK _ _ hB3 (by omega)
     clear hb hH3 hB3 HH HDS
     generalize hs2:hashS (cat F 64 (catF L G i)) (64+lenF L i)=s2 at HTH HST HB ⊢
     have HS2:=hide hs2
     clear hs2
     go_wp2_with (refine wpList_store_mid rfl 60 _ _ rfl (b0+1) 0 (ab (hByte s2) 32).toArray rfl rfl HTH.out (inH _) (all_oneCell_toArray (ab_one _ _)) ?_;generalize W3.setCells (b0+1) 0 (ab (hByte s2) 32).toArray.toList=Z at HST HB ⊢)
     exact bodyPost_ret (zV Tryz.results146 _ _ (b0+1) (ab (hByte s2) 32) _ rfl (RowB.range HST.out) Tryz.underlying60 rfl (ilH _)) rfl ⟨by unfold hA;rw [← HFE.out,HS2.out],by rw [hb0];exact HB.out⟩
theorem khash_one_at {w:World} {q:Nat} {x:Option Addr} {n c m:Nat} {f g:Nat→Nat} (hT:Tab w) (hf:∀ i,f i<256) (hm:m<256) (hb:BA w x n g) (hc:n≤c) (hcm:c≤maxLen) (hn:n≤700000) (hq:w.cell? ⟨q,0,none⟩=some (.slice x n c)) :
  Calls Tryz.prog 146 #[.agg (ab f 64).toArray,.int .u8 (m:Int),.slice (some ⟨q,0,none⟩) 1 1] w fun e w'=>e=.returned (.agg (hA (cat (fun i=>f i ^^^ m) 64 g) (64+n)))∧Below w.heap.size w w':=by
 have e1:lenF (fun _=>n) 1=n:=by simp only [lenF];omega
 have h:=khash_any (c:=1) (x:=some ⟨q,0,none⟩) (k:=1) (m:=m) (A:=fun _=>x) (L:=fun _=>n) (C:=fun _=>c) (G:=fun _=>g) hT hf hm ⟨fun i _=>hb,fun i _=>⟨hc,hcm⟩,Or.inr ⟨_,_,rfl,fun i hi=>by
  obtain rfl:i=0:=by omega
  exact hq⟩⟩ (by omega) (by rw [e1];exact hn)
 rw [e1] at h
 simp only [catF,lenF,cat_zero] at h
 exact h
theorem mac_any {w:World} {x y:Option Addr} {n c k d:Nat} {f:Nat→Nat} {A:Nat→Option Addr} {L C:Nat→Nat} {G:Nat→Nat→Nat} (hT:Tab w) (hx:BA w x n f) (hc:n≤c) (hm:c≤maxLen) (hn:n≤800000) (hP:PL w y k A L C G) (hk:k≤1000000) (hl:lenF L k≤700000) :
  Calls Tryz.prog 127 #[.slice x n c,.slice y k d] w fun e w'=>e=.returned (.agg (mA f n (catF L G k) (lenF L k)))∧Below w.heap.size w w':=by
 have HT:=hide hT
 have HX:=hide hx
 have HN:=hide (And.intro hc (And.intro hm hn))
 have HP:=hide hP
 have HK:=hide (And.intro hk hl)
 clear hT hx hc hm hn hP hk hl
 go_enter Tryz.func127,Tryz.ntmps127
 go_upto_region 1 with fail
 refine qH (fun X hX=>?_)
 have hB:Below w.heap.size w X:=by rw [hX];exact K.alloc (Below.refl _ _) _
 have hH:RowB X w.heap.size 32 (fun _=>0):=by rw [hX];exact RowB.made w 60 32 (fun _=>0) _ zeros32
 clear hX
 have HFI:=hide (fill_any (HT.out.keep hB) (HX.out.keep hB) HN.out.1 HN.out.2.1 HN.out.2.2)
 obtain ⟨b0,hb0⟩:∃ b0,w.heap.size=b0:=⟨_,rfl⟩
 rw [hb0] at hB hH ⊢
 have HH:=hide hH
 have HB:=hide hB
 clear hH hB
 go_wp2_with fail
 with_reducible refine Calls.mono HFI.out ?_
 rintro e w2 ⟨rfl,hb⟩
 obtain ⟨g,hg⟩:∃ g,g=kpad f n:=⟨_,rfl⟩
 have HG:Hid (∀ i,g i<256):=fun i=>by rw [hg];exact kpad_lt HX.out.lt n i
 have HGe:=hide hg
 rw [← hg]
 clear hg
 have hal:=K.alloc (Below.refl _ w2) (.cells (ab g 64).toArray 147)
 have hb':=K.call hb hal
 have HF:=hide (RowB.made w2 147 64 g _ rfl)
 have HH2:=hide (Row8.keep HH.out hb')
 have HB2:Hid (Below b0 w (w2.alloc (.cells (ab g 64).toArray 147))):=by subst hb0;exact K.call HB.out hb'
 have HSZ:Hid (64=(ab g 64).toArray.size):=by show _=_;rw [List.size_toArray,ab_len]
 clear hb hb' hal HH HB HFI
 go_upto_region 2 with (refine qG rfl 147 _ _ rfl _ (ab g 64).toArray rfl rfl (inKB _) HSZ.out (all_oneCell_toArray (ab_one _ _)) ?_;generalize w2.alloc (.cells (ab g 64).toArray 147)=Y at HF HH2 HB2 ⊢)
 obtain ⟨b1,hb1⟩:∃ b1,w2.heap.size=b1:=⟨_,rfl⟩
 rw [hb1] at HF ⊢
 have hBw:Below w.heap.size w Y:=by rw [hb0];exact HB2.out
 have HE:=hide (khash_any (c:=d) (m:=54) (HT.out.keep hBw) HG.out (by omega) (HP.out.keep hBw) HK.out.1 HK.out.2)
 have HRG:=hide (RowB.range HF.out)
 clear hBw hb1 HSZ
 go_wp2_with (refine wpList_load_mid rfl 147 _ rfl _ 0 rfl (ab g 64) _ HRG.out Tryz.underlying147 rfl (ilKB _) ?_;simp only [Act.put,List.setIfInBounds_toArray,List.set_cons_zero,List.set_cons_succ])
 with_reducible refine Calls.mono HE.out ?_
 rintro e w3 ⟨rfl,hb⟩
 unfold hA
 obtain ⟨h,hh⟩:∃ h,h=hByte (hashS (cat (fun i=>g i ^^^ 54) 64 (catF L G k)) (64+lenF L k)):=⟨_,rfl⟩
 obtain ⟨h2,hh2⟩:∃ h2,h2=hByte (hashS (cat (fun i=>g i ^^^ 92) 64 h) (64+32)):=⟨_,rfl⟩
 have HL:Hid (∀ i,h i<256):=fun i=>by rw [hh];exact hByte_lt _ i
 have HRes:Hid (h2=hByte (macS f n (catF L G k) (lenF L k))):=by show _=_;rw [hh2,hh,HGe.out];rfl
 have HH3:Hid (Value.agg (hA (cat (fun i=>g i ^^^ 92) 64 h) (64+32))=.agg (ab h2 32).toArray):=by show _=_;rw [hh2];rfl
 rw [← hh]
 clear hh hh2
 have hal:=K.alloc (Below.refl _ w3) (.cells (ab h 32).toArray 60)
 have hb':=K.call hb hal
 have HS:=hide (RowB.made w3 60 32 h _ rfl)
 have HF3:=hide (Row8.keep HF.out hb')
 have HHr:=hide (Row8.keep HH2.out hb')
 have HB3:Hid (Below b0 w (w3.alloc (.cells (ab h 32).toArray 60))):=by subst hb0;exact K.call HB2.out hb'
 have HSZ:Hid (32=(ab h 32).toArray.size):=by show _=_;rw [List.size_toArray,ab_len]
 clear hb hb' hal HH2 HB2 HF HE HRG
 go_upto_region 3 with (refine qG rfl 60 _ _ rfl _ (ab h 32).toArray rfl rfl (inH _) HSZ.out (all_oneCell_toArray (ab_one _ _)) ?_;generalize w3.alloc (.cells (ab h 32).toArray 60)=V at HS HF3 HHr HB3 ⊢)
 have HH2:=HH3
 have hd:=K.drew (Below.refl _ V)
 have hSd:=Row8.keep HS.out hd
 have hFd:=Row8.keep HF3.out hd
 have hHd:=Row8.keep HHr.out hd
 have hBd:Below w.heap.size w V.drew:=by rw [hb0];subst hb0;exact K.call HB3.out hd
 clear hd HS HF3 HHr HB3 HH3
 refine wp_region_noPanic ?_
 refine wp_region_held_drew (S:=fun _=>True) (by kernel_rfl) trivial (fun _=>?_)
 refine wpAnyH_take (i:=1) (v:=.slice (some ⟨w3.heap.size,0,none⟩) 32 32) rfl (by kernel_rfl) (by kernel_rfl) (by kernel_rfl) (fun _ _ _ h=>h) (Or.inl ⟨by rfl,fun w' _=>by go_simp⟩) trivial ?_
 simp only [Act.put,List.getElem_toArray,List.getElem_cons_zero,List.getElem_cons_succ,List.setIfInBounds_toArray,List.set_cons_zero,List.set_cons_succ]
 refine wpAnyH_ready (rs:=[0,2]) (by kernel_rfl) (by simp) (AllReadyH.cons rfl (fun Kt hK=>?_) (AllReadyH.cons rfl (fun Kt hK=>?_) AllReadyH.nil))
 ·refine zW rfl ?_
  refine wp_load_mid 147 _ rfl b1 0 rfl (ab g 64) _ (RowB.range hFd) Tryz.underlying147 rfl (ilKB _) (hK.out _ _ trivial (fun _=>?_))
  clear hK Kt
  simp only [Act.put,List.getElem_toArray,List.getElem_cons_zero,List.setIfInBounds_toArray,List.set_cons_zero,List.set_cons_succ]
  refine wpAnyH_ready (rs:=[2]) (by kernel_rfl) (by simp) (AllReadyH.cons rfl (fun Kt hK=>?_) AllReadyH.nil)
  refine zW rfl ?_
  refine wp_one rfl rfl (fun q W _ hcq hbq=>hK.out _ _ trivial (fun _=>?_))
  clear hK Kt
  simp only [Act.put,List.getElem_toArray,List.getElem_cons_zero,List.getElem_cons_succ,List.setIfInBounds_toArray,List.set_cons_zero,List.set_cons_succ]
  have hSW:=Row8.keep hSd hbq
  have hHW:=Row8.keep hHd hbq
  have hbW:=K.call hBd hbq
  clear hbq hSd hFd hHd hBd
  refine wpAnyH_ready (rs:=[3]) (by kernel_rfl) (by simp) (AllReadyH.cons rfl (fun Kt hK=>?_) AllReadyH.nil)
  refine zW rfl ?_
  refine wp_call (R:=fun r w'=>r=.agg (ab h2 32).toArray∧Below W.heap.size W w') (vs:=#[.agg (ab g 64).toArray,.int .u8 92,.slice (some ⟨q,0,none⟩) 1 1]) rfl (by simp only [List.map_toArray,List.map_cons,List.map_nil];rfl) (by go_simp) (Calls.mono (khash_one_at (m:=92) (HT.out.keep hbW) HG.out (by omega) (RowB.ba hSW HL.out) (Nat.le_refl _) (by unfold maxLen;omega) (by omega) hcq) (fun e w' ⟨he,hb⟩=>⟨_,he,HH2.out,hb⟩)) (fun r W4 ⟨hr,hb4⟩=>?_)
  subst hr
  refine hK.out _ _ trivial (fun _=>?_)
  clear hK Kt
  simp only [Act.put,List.getElem_toArray,List.getElem_cons_zero,List.getElem_cons_succ,List.setIfInBounds_toArray,List.set_cons_zero,List.set_cons_succ]
  refine wpAnyH_ready (rs:=[4]) (by kernel_rfl) (by simp) (AllReadyH.cons rfl (fun Kt hK=>?_) AllReadyH.nil)
  refine zW rfl ?_
  have hH4:=Row8.keep hHW hb4
  have hB4:Below b0 w W4:=by subst hb0;exact K.call hbW hb4
  refine wp_store_mid 60 _ _ rfl b0 0 (ab h2 32).toArray rfl rfl (RowB.there hH4 h2) (inH _) (all_oneCell_toArray (ab_one _ _)) (hK.out _ _ trivial (fun _=>?_))
  clear hK Kt
  refine wpAnyH_done (by kernel_rfl) ?_ _
  refine NoPanic.normal ?_
  have HST:=hide (RowB.stored hH4 h2)
  have HB:Hid (Below b0 w (W4.setCells b0 0 (ab h2 32).toArray.toList)):=by subst hb0;exact zK _ _ hB4 (Nat.le_refl _)
  clear hH4 hB4
  generalize W4.setCells b0 0 (ab h2 32).toArray.toList=Z at HST HB ⊢
  go_wp2_with fail
  exact bodyPost_ret (zV Tryz.results127 _ _ b0 (ab h2 32) _ rfl (RowB.range HST.out) Tryz.underlying60 rfl (ilH _)) rfl ⟨by unfold mA;rw [HRes.out],HB.out⟩
 ·refine zW rfl ?_
  refine wp_one rfl rfl (fun q W _ hcq hbq=>hK.out _ _ trivial (fun _=>?_))
  clear hK Kt
  simp only [Act.put,List.getElem_toArray,List.getElem_cons_zero,List.getElem_cons_succ,List.setIfInBounds_toArray,List.set_cons_zero,List.set_cons_succ]
  have hSW:=Row8.keep hSd hbq
  have hHW:=Row8.keep hHd hbq
  have hFW:=Row8.keep hFd hbq
  have hbW:=K.call hBd hbq
  clear hbq hSd hFd hHd hBd
  refine wpAnyH_ready (rs:=[0]) (by kernel_rfl) (by simp) (AllReadyH.cons rfl (fun Kt hK=>?_) AllReadyH.nil)
  refine zW rfl ?_
  refine wp_load_mid 147 _ rfl b1 0 rfl (ab g 64) _ (RowB.range hFW) Tryz.underlying147 rfl (ilKB _) (hK.out _ _ trivial (fun _=>?_))
  clear hK Kt
  simp only [Act.put,List.getElem_toArray,List.getElem_cons_zero,List.setIfInBounds_toArray,List.set_cons_zero,List.set_cons_succ]
  refine wpAnyH_ready (rs:=[3]) (by kernel_rfl) (by simp) (AllReadyH.cons rfl (fun Kt hK=>?_) AllReadyH.nil)
  refine zW rfl ?_
  refine wp_call (R:=fun r w'=>r=.agg (ab h2 32).toArray∧Below W.heap.size W w') (vs:=#[.agg (ab g 64).toArray,.int .u8 92,.slice (some ⟨q,0,none⟩) 1 1]) rfl (by simp only [List.map_toArray,List.map_cons,List.map_nil];rfl) (by go_simp) (Calls.mono (khash_one_at (m:=92) (HT.out.keep hbW) HG.out (by omega) (RowB.ba hSW HL.out) (Nat.le_refl _) (by unfold maxLen;omega) (by omega) hcq) (fun e w' ⟨he,hb⟩=>⟨_,he,HH2.out,hb⟩)) (fun r W4 ⟨hr,hb4⟩=>?_)
  subst hr
  refine hK.out _ _ trivial (fun _=>?_)
  clear hK Kt
  simp only [Act.put,List.getElem_toArray,List.getElem_cons_zero,List.getElem_cons_succ,List.setIfInBounds_toArray,List.set_cons_zero,List.set_cons_succ]
  refine wpAnyH_ready (rs:=[4]) (by kernel_rfl) (by simp) (AllReadyH.cons rfl (fun Kt hK=>?_) AllReadyH.nil)
  refine zW rfl ?_
  have hH4:=Row8.keep hHW hb4
  have hB4:Below b0 w W4:=by subst hb0;exact K.call hbW hb4
  refine wp_store_mid 60 _ _ rfl b0 0 (ab h2 32).toArray rfl rfl (RowB.there hH4 h2) (inH _) (all_oneCell_toArray (ab_one _ _)) (hK.out _ _ trivial (fun _=>?_))
  clear hK Kt
  refine wpAnyH_done (by kernel_rfl) ?_ _
  refine NoPanic.normal ?_
  have HST:=hide (RowB.stored hH4 h2)
  have HB:Hid (Below b0 w (W4.setCells b0 0 (ab h2 32).toArray.toList)):=by subst hb0;exact zK _ _ hB4 (Nat.le_refl _)
  clear hH4 hB4
  generalize W4.setCells b0 0 (ab h2 32).toArray.toList=Z at HST HB ⊢
  go_wp2_with fail
  exact bodyPost_ret (zV Tryz.results127 _ _ b0 (ab h2 32) _ rfl (RowB.range HST.out) Tryz.underlying60 rfl (ilH _)) rfl ⟨by unfold mA;rw [HRes.out],HB.out⟩
theorem refTwo_any {x y:Option Addr} {n m c d:Nat} {f g:Nat→Nat} {w:World} (hx:BA w x n f) (hy:BA w y m g) (hn:n+m≤90000) :
  Calls Tryz.prog 107 #[.slice x n c,.slice y m d] w fun e w'=>e=.returned (.agg (hA (cat f n g) (n+m)))∧Below w.heap.size w w':=by
 have HX:=hide hx
 have HY:=hide hy
 have HN:=hide hn
 clear hx hy hn
 go_enter Tryz.func107,Tryz.ntmps107
 go_upto_region 1 with fail
 refine qH (fun X hX=>?_)
 have hB:Below w.heap.size w X:=by rw [hX];exact K.alloc (Below.refl _ _) _
 have hH:RowB X w.heap.size 32 (fun _=>0):=by rw [hX];exact RowB.made w 60 32 (fun _=>0) _ zeros32
 clear hX
 have HX1:=hide (HX.out.keep hB)
 have hO0:X.ownsRow X.heap.size 5 1 (.slice none 0 0) 0 (cells8 []):=World.ownsRow_nil _ _ _ _
 go_upto_region 3 with (at_builtin;refine zU rfl _ _ rfl rfl hO0 rfl HX1.out (by have:=HN.out;omega) (Nat.le_refl _) ?_;intro v1 w1 hO1 hg1)
 rw [Nat.zero_add,List.nil_append] at hO1
 have hb1:Below X.heap.size X w1:=(Below.refl _ X).grown hg1 (Nat.le_refl _) (fun k hk=>by cases hk)
 have HY1:=hide (HY.out.keep (K.call hB hb1))
 clear hO0 HX1 hg1
 go_upto_region 4 with (at_builtin;refine zU rfl _ _ rfl rfl hO1 rfl HY1.out (by have:=HN.out;omega) hb1.size ?_;intro v2 w2 hO2 hg2)
 have hb2:Below X.heap.size X w2:=hb1.grown hg2 hb1.size (fun k hk=>(hO1.lt k hk).1)
 rw [fl_cat] at hO2
 obtain ⟨a2,c2,rfl,hc2,hm2⟩:=own_max hO2
 have HA:=hide (own_ba hO2 (cat_lt HX.out.lt HY.out.lt n))
 have hH2:=Row8.keep hH hb2
 have hB2:=K.call hB hb2
 clear hO1 hb1 hg2 hO2 hH HY1 hb2 hB
 obtain ⟨b0,hb0⟩:∃ b0,w.heap.size=b0:=⟨_,rfl⟩
 rw [hb0] at hB2 hH2 ⊢
 have HH:=hide hH2
 have HB:=hide hB2
 clear hH2 hB2
 go_wp2_with fail
 with_reducible refine Calls.mono (refSum_hA HA.out (by have:=HN.out;omega)) ?_
 rintro e W3 ⟨rfl,hb⟩
 have hH3:=Row8.keep HH.out hb
 have hB3:Below b0 w W3:=by subst hb0;exact K.call HB.out hb
 have HTH:=hide (RowB.there hH3 (hByte (hashS (cat f n g) (n+m))))
 have HST:=hide (RowB.stored hH3 (hByte (hashS (cat f n g) (n+m))))
 have HB:Hid (Below b0 w (W3.setCells b0 0 (ab (hByte (hashS (cat f n g) (n+m))) 32).toArray.toList)):=by subst hb0;exact zK _ _ hB3 (Nat.le_refl _)
 clear hb hH3 hB3 HH HA
 unfold hA
 generalize hs2:hashS (cat f n g) (n+m)=s2 at HTH HST HB ⊢
 have HS2:=hide hs2
 clear hs2
 go_wp2_with (refine wpList_store_mid rfl 60 _ _ rfl b0 0 (ab (hByte s2) 32).toArray rfl rfl HTH.out (inH _) (all_oneCell_toArray (ab_one _ _)) ?_;generalize W3.setCells b0 0 (ab (hByte s2) 32).toArray.toList=Z at HST HB ⊢)
 exact bodyPost_ret (zV Tryz.results107 _ _ b0 (ab (hByte s2) 32) _ rfl (RowB.range HST.out) Tryz.underlying60 rfl (ilH _)) rfl ⟨by unfold hA;rw [HS2.out],by rw [hb0];exact HB.out⟩
theorem refMac_any {x y:Option Addr} {n m c d:Nat} {f g:Nat→Nat} {w:World} (hx:BA w x n f) (hy:BA w y m g) (hn:n≤80000) (hm:m≤80000) :
  Calls Tryz.prog 64 #[.slice x n c,.slice y m d] w fun e w'=>e=.returned (.agg (mA f n g m))∧Below w.heap.size w w':=by
 have HX:=hide hx
 have HY:=hide hy
 have HN:=hide (And.intro hn hm)
 have hni:(n:Int)≤80000:=by omega
 clear hx hy hn hm
 go_enter Tryz.func64,Tryz.ntmps64
 go_upto_region 1 with fail
 refine qH (fun X hX=>?_)
 have hB:Below w.heap.size w X:=by rw [hX];exact K.alloc (Below.refl _ _) _
 have hH:RowB X w.heap.size 32 (fun _=>0):=by rw [hX];exact RowB.made w 60 32 (fun _=>0) _ zeros32
 clear hX
 have HX1:=hide (HX.out.keep hB)
 have hO0:X.ownsRow X.heap.size 5 1 (.slice none 0 0) 0 (cells8 []):=World.ownsRow_nil _ _ _ _
 go_upto_region 3 with (at_builtin;refine zU rfl _ _ rfl rfl hO0 rfl HX1.out (by have:=HN.out;omega) (Nat.le_refl _) ?_;intro v1 w1 hO1 hg1)
 rw [Nat.zero_add,List.nil_append] at hO1
 have hb1:Below X.heap.size X w1:=(Below.refl _ X).grown hg1 (Nat.le_refl _) (fun k hk=>by cases hk)
 obtain ⟨a1,c1,rfl,hc1,hm1⟩:=own_max hO1
 have HA:=hide (own_ba hO1 HX.out.lt)
 have HX1:=hide (HX1.out.keep hb1)
 have HB:=hide (K.call hB hb1)
 have HH:=hide (Row8.keep hH hb1)
 obtain ⟨b0,hb0⟩:∃ b0,w.heap.size=b0:=⟨_,rfl⟩
 rw [hb0] at HB HH ⊢
 clear hO0 hg1 hO1 hb1 hB hH
 have hc1i:(n:Int)≤(c1:Int):=by omega
 go_upto_if 17 with fail
 go_cut [5] (fun s5 wc=>∃ (ak:Option Addr) (nk ck:Nat) (fk:Nat→Nat),s5=.slice ak nk ck∧nk≤64∧BA wc ak nk fk∧(∀ i,kpad f n i=if i<nk then fk i else 0)∧RowB wc b0 32 (fun _=>0)∧Below b0 w wc)
 case first =>
  by_cases h64:n≤64
  ·have h64i:(n:Int)≤64:=by omega
   go_wp2_with fail
   go_meet
   case rel=>exact ⟨_,_,_,f,rfl,h64,HA.out,fun i=>by unfold kpad;rw [if_pos h64],HH.out,HB.out⟩
  ·have h64i:(64:Int)<n:=by omega
   go_wp2_with fail
   with_reducible refine Calls.mono (refSum_hA HX1.out (by have:=HN.out;omega)) ?_
   rintro e w2 ⟨rfl,hb⟩
   unfold hA
   obtain ⟨h,hh⟩:∃ h,h=hByte (hashS f n):=⟨_,rfl⟩
   have HK:Hid (∀ i,kpad f n i=if i<32 then h i else 0):=fun i=>by unfold kpad;rw [if_neg h64,hh]
   have HL:Hid (∀ i,h i<256):=fun i=>by rw [hh];exact hByte_lt _ i
   rw [← hh]
   have HH2:=hide (Row8.keep HH.out hb)
   have HB2:Hid (Below b0 w w2):=by subst hb0;exact K.call HB.out hb
   have HSZ:Hid (32=(ab h 32).toArray.size):=by show _=_;rw [List.size_toArray,ab_len]
   clear hb hh HH HB h64
   have hal:=K.alloc (Below.refl _ w2) (.cells (ab h 32).toArray 60)
   have hR:=hide (RowB.made w2 60 32 h _ rfl)
   have HH3:=hide (Row8.keep HH2.out hal)
   have HB3:Hid (Below b0 w (w2.alloc (.cells (ab h 32).toArray 60))):=by subst hb0;exact K.call HB2.out hal
   clear hal HH2 HB2
   go_wp2_with (refine qG rfl 60 _ _ rfl _ (ab h 32).toArray rfl rfl (inH _) HSZ.out (all_oneCell_toArray (ab_one _ _)) ?_;generalize w2.alloc (.cells (ab h 32).toArray 60)=Y at hR HH3 HB3 ⊢)
   go_meet
   case rel=>exact ⟨_,32,_,h,rfl,by omega,RowB.ba hR.out HL.out,HK.out,HH3.out,HB3.out⟩
 case rest =>
  obtain ⟨V0,rfl⟩:∃ V0,V0=wc:=⟨_,rfl⟩
  obtain ⟨ak,nk,ck,fk,rfl,hnk,hA,hk,hH,hB⟩:=hcut
  have HA:=hide hA
  have HK:=hide hk
  have HH:=hide hH
  have HB:=hide hB
  have HNK:=hide hnk
  have hnki:(nk:Int)≤64:=by omega
  clear hA hk hH hB hnk HX1
  obtain ⟨B1,hB1⟩:∃ B1,B1=V0.heap.size:=⟨_,rfl⟩
  have HB1:=hide hB1
  clear hB1
  go_wp2_with fail
  go_loopg [7,8,9] 64 (fun g' s7 s8 s9 wr=>∃ (i:Nat) (u7 u8:Value),u7=s7∧u8=s8∧g'=64-i∧i≤64∧s9=.int .i64 i∧wr.ownsRow B1 5 1 u7 i (cells8 (fl (fun j=>kpad f n j ^^^ 54) i))∧wr.ownsRow B1 5 1 u8 i (cells8 (fl (fun j=>kpad f n j ^^^ 92) i))∧(∀ q,u7.ownBlock=some q→u8.ownBlock≠some q)∧Below B1 V0 wr)
  case atStart=>exact ⟨0,_,_,rfl,rfl,rfl,by omega,rfl,World.ownsRow_nil _ _ _ _,World.ownsRow_nil _ _ _ _,(fun q h=>by cases h),Below.refl _ _⟩
  case round =>
   obtain ⟨i,u7,u8,h7,h8,rfl,hi,rfl,hO7,hO8,hne,hBr⟩:=hrel
   subst h7 h8
   by_cases hlt:i<64
   ·obtain ⟨b,hb⟩:∃ b,b=kpad f n i:=⟨_,rfl⟩
    have hb256:b<256:=by rw [hb];exact kpad_lt HX.out.lt n i
    have x1:bits .xor .u8 (b:Int) 54=((b ^^^ 54:Nat):Int):=u8_xor_nat b 54 hb256 (by omega)
    have x2:bits .xor .u8 (b:Int) 92=((b ^^^ 92:Nat):Int):=u8_xor_nat b 92 hb256 (by omega)
    have HF1:Hid (fl (fun j=>kpad f n j ^^^ 54) (i+1)=fl (fun j=>kpad f n j ^^^ 54) i++[b ^^^ 54]):=by show _=_;rw [fl_succ,hb]
    have HF2:Hid (fl (fun j=>kpad f n j ^^^ 92) (i+1)=fl (fun j=>kpad f n j ^^^ 92) i++[b ^^^ 92]):=by show _=_;rw [fl_succ,hb]
    have l1:b ^^^ 54<256:=xor_lt hb256 (by omega)
    have l2:b ^^^ 92<256:=xor_lt hb256 (by omega)
    have HbE:=hide hb
    generalize he1:b ^^^ 54=d1 at *
    generalize he2:b ^^^ 92=d2 at *
    have HL12:=hide (And.intro l1 l2)
    have HO7:=hide hO7
    have HO8:=hide hO8
    have HNE:=hide hne
    have HBr:=hide hBr
    have hii:(i:Int)<64:=by omega
    have HI:=hide hlt
    have hbi:(b:Int)<256:=by omega
    have hd1:(d1:Int)<256:=by omega
    have hd2:(d2:Int)<256:=by omega
    have HSz:Hid (B1≤wr.heap.size):=by have h1:=hBr.size;have h2:=HB1.out;show _≤_;omega
    clear he1 he2 hb l1 l2 hO7 hO8 hne hBr hlt hi hb256
    go_upto_if 28 with fail
    go_cut [10] (fun s10 wd=>s10=.int .u8 (b:Int)∧wd=wr)
    case first =>
     by_cases hik:i<nk
     ·have hiki:(i:Int)<(nk:Int):=by omega
      rcases HA.out.at_ with h0 | ⟨kb,ko,rfl,hr⟩
      ·omega
      have ci:=(hr.keep (by have h:=HBr.out;rw [HB1.out] at h;exact h)).c i hik
      have e:fk i=b:=by rw [HbE.out,HK.out i,if_pos hik]
      rw [e] at ci
      clear e
      go_wp2_with fail
      go_meet
      case rel=>exact ⟨rfl,rfl⟩
     ·have hiki:¬ (i:Int)<(nk:Int):=by omega
      have hb0':b=0:=by rw [HbE.out,HK.out i,if_neg hik]
      go_wp2_with fail
      go_meet
      case rel=>exact ⟨by rw [hb0'];rfl,rfl⟩
    case rest =>
     obtain ⟨rfl,rfl⟩:=hcut
     go_upto_region 14 with (at_builtin;refine wpList_app1 rfl _ _ rfl rfl (HO7.out.alloc _) HL12.out.1 rfl rfl (by have:=HI.out;omega) HSz.out ?_;intro g7 c7 w7 hO7' hg7 hl7 hs7)
     have hB7:Below B1 V0 w7:=(HBr.out.alloc HSz.out _).grown hg7 (by have:=HSz.out;simp;omega) (fun k hk=>(HO7.out.lt k hk).1)
     have hO8':=(HO8.out.alloc (.cells #[.int .u8 (d1:Int)] 5)).kept hg7 (by
      cases h8:u8.ownBlock with
      | none=>exact Or.inl rfl
      | some q8=>exact Or.inr (fun e=>HNE.out q8 e.symm h8))
     have hne7:u8.ownBlock≠some g7:=fun e=>by
      rcases hl7 with h | h
      ·exact HNE.out g7 h e
      ·have:=(HO8.out.lt g7 e).2
       omega
     have HO7:=hide hO7'
     have HO8:=hide hO8'
     have HNE:=hide hne7
     have HB7:=hide hB7
     have HSz7:Hid (B1≤w7.heap.size):=by have h1:=hB7.size;have h2:=HB1.out;show _≤_;omega
     rw [← HF1.out] at HO7
     have HG7:=hide hs7
     clear hO7' hg7 hl7 hs7 hO8' hne7 hB7 x1
     go_upto_region 9 with (at_builtin;refine wpList_app1 rfl _ _ rfl rfl (HO8.out.alloc _) HL12.out.2 rfl rfl (by have:=HI.out;omega) HSz7.out ?_;intro g8 c8 w8 hO8' hg8 hl8 hs8)
     have hB8:Below B1 V0 w8:=(HB7.out.alloc HSz7.out _).grown hg8 (by have:=HSz7.out;simp;omega) (fun k hk=>(HO8.out.lt k hk).1)
     have hO7':=(HO7.out.alloc (.cells #[.int .u8 (d2:Int)] 5)).kept hg8 (Or.inr (fun e=>HNE.out e.symm))
     have hne8:g7≠g8:=fun e=>by
      rcases hl8 with h | h
      ·exact HNE.out ((show u8.ownBlock=some g8 from h).trans (by rw [e]))
      ·have:=HG7.out
       omega
     have HO7:=hide hO7'
     have HO8:=hide hO8'
     have HNE:=hide hne8
     have HB8:=hide hB8
     rw [← HF2.out] at HO8
     clear hO8' hg8 hl8 hs8 hO7' hne8 hB8 x2
     go_wp2_with fail
     go_roundg (64-(i+1))
     case measure=>have:=HI.out;omega
     case rel=>exact ⟨i+1,_,_,rfl,rfl,rfl,by have:=HI.out;omega,by go_num,HO7.out,HO8.out,fun q h e=>HNE.out (by cases h;cases e;rfl),HB8.out⟩
   ·obtain rfl:i=64:=by omega
    obtain ⟨a7,c7,rfl,_,_⟩:=own_max hO7
    obtain ⟨a8,c8,rfl,_,_⟩:=own_max hO8
    have hb1:Below V0.heap.size V0 wr:=by have h:=hBr;rw [HB1.out] at h;exact h
    have hb2:Below w.heap.size w wr:=by rw [hb0];subst hb0;exact K.call HB.out hb1
    have H7:=hide (own_ba hO7 (fun j=>xor_lt (kpad_lt HX.out.lt n j) (by omega)))
    have H8:=hide (own_ba hO8 (fun j=>xor_lt (kpad_lt HX.out.lt n j) (by omega)))
    have HY2:=hide (HY.out.keep hb2)
    have HH2:=hide (Row8.keep HH.out hb1)
    have HB2:Hid (Below b0 w wr):=by rw [← hb0];exact hb2
    have hME:macS f n g m=hashS (cat (fun j=>kpad f n j ^^^ 92) 64 (hByte (hashS (cat (fun j=>kpad f n j ^^^ 54) 64 g) (64+m)))) (64+32):=rfl
    have HME:=hide hME
    clear hO7 hO8 hne hBr hb1 hb2 hlt hi hME HA HK HH HB
    generalize hF1:(fun j=>kpad f n j ^^^ 54)=F1 at *
    generalize hF2:(fun j=>kpad f n j ^^^ 92)=F2 at *
    clear hF1 hF2
    go_wp2_with fail
    with_reducible refine Calls.mono (refTwo_any H7.out HY2.out (by have:=HN.out;omega)) ?_
    rintro e w2 ⟨rfl,hb⟩
    unfold hA
    obtain ⟨h,hh⟩:∃ h,h=hByte (hashS (cat F1 64 g) (64+m)):=⟨_,rfl⟩
    have HL:Hid (∀ i,h i<256):=fun i=>by rw [hh];exact hByte_lt _ i
    rw [← hh] at HME ⊢
    have hal:=K.alloc (Below.refl _ w2) (.cells (ab h 32).toArray 60)
    have hR:=hide (RowB.made w2 60 32 h _ rfl)
    have hb':=K.call hb hal
    have H8:=hide (H8.out.keep hb')
    have HH3:=hide (Row8.keep HH2.out hb')
    have HB3:Hid (Below b0 w (w2.alloc (.cells (ab h 32).toArray 60))):=by subst hb0;exact K.call HB2.out hb'
    have HSZ:Hid (32=(ab h 32).toArray.size):=by show _=_;rw [List.size_toArray,ab_len]
    clear hal hb hb' hh HH2 HB2 H7 HY2
    go_wp2_with (refine qG rfl 60 _ _ rfl _ (ab h 32).toArray rfl rfl (inH _) HSZ.out (all_oneCell_toArray (ab_one _ _)) ?_;generalize w2.alloc (.cells (ab h 32).toArray 60)=Y at hR HH3 HB3 H8 ⊢)
    with_reducible refine Calls.mono (refTwo_any H8.out (RowB.ba hR.out HL.out) (by omega)) ?_
    rintro e W3 ⟨rfl,hb⟩
    unfold hA
    have hH3:=Row8.keep HH3.out hb
    have hB3:Below b0 w W3:=by subst hb0;exact K.call HB3.out hb
    have HTH:=hide (RowB.there hH3 (hByte (hashS (cat F2 64 h) (64+32))))
    have HST:=hide (RowB.stored hH3 (hByte (hashS (cat F2 64 h) (64+32))))
    have HB:Hid (Below b0 w (W3.setCells b0 0 (ab (hByte (hashS (cat F2 64 h) (64+32))) 32).toArray.toList)):=by subst hb0;exact zK _ _ hB3 (Nat.le_refl _)
    clear hb hH3 hB3 HH3 HB3 hR H8 HSZ
    generalize hs2:hashS (cat F2 64 h) (64+32)=s2 at HTH HST HB HME ⊢
    clear hs2
    go_wp2_with (refine wpList_store_mid rfl 60 _ _ rfl b0 0 (ab (hByte s2) 32).toArray rfl rfl HTH.out (inH _) (all_oneCell_toArray (ab_one _ _)) ?_;generalize W3.setCells b0 0 (ab (hByte s2) 32).toArray.toList=Z at HST HB ⊢)
    exact bodyPost_ret (zV Tryz.results64 _ _ b0 (ab (hByte s2) 32) _ rfl (RowB.range HST.out) Tryz.underlying60 rfl (ilH _)) rfl ⟨by unfold mA;rw [HME.out],by rw [hb0];exact HB.out⟩
def withF (v:Nat→Nat) (b:Nat) (g:Nat→Nat):Nat→Nat:=cat (cat v 32 (fun _=>b)) 33 g
theorem refWith_any {v:Nat→Nat} {b:Nat} {y:Option Addr} {m d:Nat} {g:Nat→Nat} {w:World} (hv:∀ i,v i<256) (hb:b<256) (hy:BA w y m g) (hm:m≤70000) :
  Calls Tryz.prog 65 #[.agg (ab v 32).toArray,.int .u8 (b:Int),.slice y m d] w fun e w'=>∃ a c,e=.returned (.slice a (33+m) c)∧BA w' a (33+m) (withF v b g)∧Below w.heap.size w w':=by
 have HV:=hide hv
 have HY:=hide hy
 have HM:=hide hm
 have HBb:=hide hb
 have hbi:(b:Int)<256:=by omega
 clear hv hy hm hb
 have HMA:Hid (∀ W:World,RowB (W.alloc (.cells (ab v 32).toArray 60)) W.heap.size 32 v):=fun W=>RowB.made W _ 32 v _ rfl
 generalize (ab v 32).toArray=A at *
 go_enter Tryz.func65,Tryz.ntmps65
 go_upto_region 1 with fail
 have hR:=HMA.out w
 have hB:=K.alloc (Below.refl _ w) (.cells A 60)
 generalize w.alloc (.cells A 60)=X at *
 have HBA:=hide (RowB.ba hR HV.out)
 have hO0:X.ownsRow X.heap.size 5 1 (.slice none 0 0) 0 (cells8 []):=World.ownsRow_nil _ _ _ _
 clear HMA hR
 go_upto_region 3 with (at_builtin;refine zU rfl _ _ rfl rfl hO0 rfl HBA.out (by omega) (Nat.le_refl _) ?_;intro v1 w1 hO1 hg1)
 rw [Nat.zero_add,List.nil_append] at hO1
 have hb1:Below X.heap.size X w1:=(Below.refl _ X).grown hg1 (Nat.le_refl _) (fun k hk=>by cases hk)
 clear hO0 hg1 HBA
 go_upto_region 4 with (at_builtin;refine zU rfl _ _ rfl rfl (hO1.alloc _) rfl (one_made w1 b HBb.out) (by omega) (by have:=hb1.size;simp;omega) ?_;intro v2 w2 hO2 hg2)
 have hb2:Below X.heap.size X w2:=(K.alloc hb1 _).grown hg2 (K.alloc hb1 _).size (fun k hk=>(hO1.lt k hk).1)
 rw [fl_cat] at hO2
 have HY2:=hide (HY.out.keep (K.call hB hb2))
 clear hO1 hb1 hg2
 go_wp2_with (at_builtin;refine zU rfl _ _ rfl rfl hO2 rfl HY2.out (by have:=HM.out;omega) hb2.size ?_;intro v3 w3 hO3 hg3)
 have hb3:Below X.heap.size X w3:=hb2.grown hg3 hb2.size (fun k hk=>(hO2.lt k hk).1)
 rw [fl_cat] at hO3
 obtain ⟨a3,c3,rfl,_,_⟩:=own_max hO3
 go_ret
 exact ⟨_,_,rfl,own_ba hO3 (cat_lt (cat_lt HV.out (fun _=>HBb.out) 32) HY.out.lt 33),K.call hB hb3⟩
end Go.Proofs.YtmigakanbeckpaaGreatDoor.Sh
namespace Go.Proofs.YtmigakanbeckpaaGreatDoor.Sh
set_option maxRecDepth 100000
structure KV where
 k:Nat→Nat
 v:Nat→Nat
def macB (f:Nat→Nat) (n:Nat) (g:Nat→Nat) (m:Nat):Nat→Nat:=hByte (macS f n g m)
def kvStep (s:KV) (b:Nat) (g:Nat→Nat) (m:Nat):KV :=
 let k:=macB s.k 32 (withF s.v b g) (33+m)
 ⟨k,macB k 32 s.v 32⟩
def kv0:KV:=⟨fun _=>0,fun _=>1⟩
def kvSeed (g:Nat→Nat) (m:Nat):KV:=kvStep (kvStep kv0 0 g m) 1 g m
def kvNext (s:KV):KV:=⟨s.k,macB s.k 32 s.v 32⟩
def kvAt (g:Nat→Nat) (m:Nat):Nat→KV
 | 0=>kvSeed g m
 | 1=>kvNext (kvSeed g m)
 | i+2=>kvNext (kvStep (kvAt g m (i+1)) 0 (fun _=>0) 0)
end Go.Proofs.YtmigakanbeckpaaGreatDoor.Sh
namespace Go.Proofs.YtmigakanbeckpaaGreatDoor.Sh
set_option maxRecDepth 100000
open Go.RowKit
def hcells (F:Nat→Nat→Nat):Nat→List Value
 | 0=>[]
 | n+1=>hcells F n++ab (F n) 32
theorem hcells_len (F:Nat→Nat→Nat):∀ n,(hcells F n).length=n*32
 | 0=>rfl
 | n+1=>by rw [hcells,List.length_append,hcells_len F n,ab_len];omega
theorem hcells_at (F:Nat→Nat→Nat):∀ (n i j:Nat),i<n→j<32→(hcells F n)[32*i+j]?=some (.int .u8 ((F i j:Nat):Int))
 | 0,i,j,h,_=>by omega
 | n+1,i,j,h,hj=>by
  rw [hcells]
  by_cases e:i=n
  ·subst e
   rw [List.getElem?_append_right (by rw [hcells_len];omega),hcells_len,show 32*i+j-i*32=j by omega,ab_at _ hj]
  ·rw [List.getElem?_append_left (by rw [hcells_len];omega)]
   exact hcells_at F n i j (by omega) hj
theorem infoHash:(Tryz.prog.info? 60).map (fun i=>(i.zero,i.size,i.bytes))=some (some (.agg (ab (fun _=>0) 32).toArray),32,32):=by kernel_rfl
theorem fillH (v:Nat→Nat) (z:Array Value) (hz:z=(ab (fun _=>0) 32).toArray):Instr.fill (fun i=>some (i*32,32)) ((Array.range (1*32)).map (z[· % z.size]!)) [(0,.agg (ab v 32).toArray)]=some (ab v 32).toArray:=by
 subst hz
 kernel_rfl
theorem wpList_listH {w:World} {ops:Array Oper} {rest:List Oper} {op:Oper} {a:Act} {Q:Exit→Act→World→Prop} (hgd:op.guard=none) (x:Operand) (ho:op.op=.buildSlice 55 1 #[(0,x)]) (v:Nat→Nat) (hx:a.eval x=.agg (ab v 32).toArray)
  (h:wpList Tryz.prog ops Q rest (a.put op.dst (.slice (some ⟨w.heap.size,0,none⟩) 1 1)) (w.alloc (.cells (ab v 32).toArray 60))):wpList Tryz.prog ops Q (op :: rest) a w:=by
 obtain ⟨ie,hi,hz0,hz1,hz2⟩:=info_parts infoHash
 refine wpList_buildSlice hgd 55 60 1 _ ho (ab v 32).toArray ie _ Tryz.underlying55 hi hz0 (by rw [hz1];omega) (by rw [hz1];omega) ?_ h
 simp only [List.map_toArray,List.map_cons,List.map_nil,hx,hz1]
 exact fillH v _ rfl
theorem wpList_appH {W:World} {ops:Array Oper} {rest:List Oper} {op:Oper} {a:Act} {Q:Exit→Act→World→Prop} (hgd:op.guard=none) (s x:Operand)
  (ho:op.op=.call { callee:=.builtin .append,args:=#[s,x],argTypes:=#[55,55] })
  {base:Nat} {v:Value} {n:Nat} {F:Nat→Nat→Nat} (hs:a.eval s=v) (hown:W.ownsRow base 60 32 v n (hcells F n)) {b c:Nat} {f:Nat→Nat} (hx:a.eval x=.slice (some ⟨b,0,none⟩) 1 c) (hr:RowB W b 32 f) (hf:F n=f) (hb:n≤1000000) (hbase:base≤W.heap.size)
  (h:∀ v' w',w'.ownsRow base 60 32 v' (n+1) (hcells F (n+1))→W.grownBy w' v.ownBlock→wpList Tryz.prog ops Q rest (a.put op.dst v') w'):wpList Tryz.prog ops Q (op :: rest) a W:=by
 obtain ⟨i0,hi,hz0,hz1,hz2⟩:=info_parts infoHash
 obtain ⟨v',w',h1,h2,h3,_⟩:=run_append_own (P:=Tryz.prog) W base 55 op.type 60 i0 _ 32 32 Tryz.underlying55 hi hz0 hz1 hz2 (by rw [Value.cells,List.size_toArray,ab_len]) (by decide) v n _ hown ⟨b,0,none⟩ 1 c (ab f 32) (by rw [ab_len]) (fun j u hu=>by
  have:=RowB.range hr j u hu
  rw [Addr.add_mid]
  exact this) (ab_one _ _) (by unfold maxLen;omega) (by omega) hbase
 refine wpList_plain hgd fun K hK=>?_
 unfold Oper.wp execOp
 simp only [ho,resolve,invoke,builtin,Sem.run_bind,Sem.run_pure,Result.andThen_ok,List.map_toArray,List.map_cons,List.map_nil,hs,hx,h1]
 refine hK _ _ (h v' w' ?_ h3)
 rw [hcells,hf]
 exact h2
structure HL (w:World) (x:Option Addr) (n:Nat) (F:Nat→Nat→Nat):Prop where
 at_:n=0∨∃ b,x=some ⟨b,0,none⟩∧∀ i,i<n→∀ j,j<32→w.cell? ⟨b,32*i+j,none⟩=some (.int .u8 ((F i j:Nat):Int))
theorem own_hl {w:World} {base n:Nat} {v:Value} {F:Nat→Nat→Nat} (h:w.ownsRow base 60 32 v n (hcells F n)):∃ x c,v=.slice x n c∧HL w x n F∧∀ p,x=some p→base≤p.block:=by
 rcases h.2 with ⟨rfl,rfl⟩ | ⟨g,cap,cur,rfl,hg,_⟩
 ·exact ⟨_,_,rfl,⟨Or.inl rfl⟩,fun p hp=>by cases hp⟩
 ·exact ⟨_,_,rfl,⟨Or.inr ⟨g,rfl,fun i hi j hj=>by rw [h.cellAt (32*i+j) (by omega)];exact hcells_at F n i j hi hj⟩⟩,fun p hp=>by cases hp;exact hg⟩
end Go.Proofs.YtmigakanbeckpaaGreatDoor.Sh
