/- The program's own Sum of one part, of two, of none. Single operations, as steps of a region that draws its order. Hashes with a key. A call of a function of the program, as a step of a region that draws its order. One byte that is appended to a row of one's own, and where the row then lies. Keys of 64 bytes; bytes that are copied (no function of layer 7 is named). What the program's own fill answers. What the program's own hash of a key's bytes and of parts answers. What the program's own Mac answers. What the document's own Two answers. What the document's own Mac answers. What the document's own with answers. The document's own stream of numbers (what it is). Rows of hashes of one's own. -/
import Derived.Test.YtmigakanbeckpaaGreatDoorRm30
import Derived.Test.YtmigakanbeckpaaGreatDoorRm24
import Derived.Test.YtmigakanbeckpaaGreatDoorRm23
import Derived.Deep.AppendLies
import Derived.Great.BuildSlice
set_option maxRecDepth 100000
set_option maxHeartbeats 8000000
namespace Go.Proofs.YtmigakanbeckpaaGreatDoor.Sh
set_option maxRecDepth 100000
open Go.RowKit
attribute [local go_sem ↓] Go.wp_at_zero Go.wp_at_succ
theorem sum_one {w:World} {x:Option Addr} {n c q:Nat} {g:Nat→Nat} (hT:Tab w) (hb:BA w x n g) (hc:n≤c) (hm:c≤maxLen) (hn:n≤800000) (t:TypeId) (hq:q=w.heap.size) :
  Calls Tryz.prog 63 #[.slice (some ⟨q,0,none⟩) 1 1] (w.alloc (.cells #[.slice x n c] t)) fun e w'=>e=.returned (.agg (hA g n))∧Below w.heap.size w w':=by
 subst hq
 have hk:=K.alloc (Below.refl _ w) (.cells #[.slice x n c] t)
 have e1:lenF (fun _=>n) 1=n:=by simp only [lenF];omega
 have h:=sum_any (c:=1) (x:=some ⟨w.heap.size,0,none⟩) (k:=1) (A:=fun _=>x) (L:=fun _=>n) (C:=fun _=>c) (G:=fun _=>g) (hT.keep hk) ⟨fun i _=>hb.keep hk,fun i _=>⟨hc,hm⟩,Or.inr ⟨_,_,rfl,fun i hi=>by
  obtain rfl:i=0:=by omega
  rw [cell_of_row _ _ _ _ _ _ (heap_alloc_new w _)];rfl⟩⟩ (by omega) (by rw [e1];exact hn)
 have e:hashS (catF (fun _=>n) (fun _=>g) 1) (lenF (fun _=>n) 1)=hashS g n:=by
  rw [e1]
  simp only [catF,lenF,cat_zero]
 rw [e] at h
 unfold hA
 exact Calls.mono h (fun e w' ⟨h1,h2⟩=>⟨h1,K.call hk h2⟩)
theorem dsum_hA {w:World} {b n:Nat} {f:Nat→Nat} (hT:Tab w) (hD:Dig w b f n) (hn:n≤800000) :
  Calls Tryz.prog 105 #[.pointer (some ⟨b,0,none⟩)] w fun e w'=>e=.returned (.agg (hA f n))∧Below w.heap.size w w':=by
 unfold hA
 exact dsum_any hT hD hn
theorem dig_made (w:World) (t:TypeId) (f:Nat→Nat):Dig (w.alloc (.cells (dg st0 (fun _=>0) 0).toArray t)) w.heap.size f 0 :=
 ⟨st0,fun _=>0,DigR.made w t st0 (fun _=>0) 0 _ rfl,Or.inl rfl,fun _=>by show 0<256;omega,fun i hi=>by omega⟩
end Go.Proofs.YtmigakanbeckpaaGreatDoor.Sh
namespace Go.Proofs.YtmigakanbeckpaaGreatDoor.Sh
set_option maxRecDepth 100000
open Go.RowKit
theorem wp_one {op:Oper} {a:Act} {w:World} {Kt:Act→World→Prop} {Q:Exit→Act→World→Prop} {x:Operand} {y:Option Addr} {n c:Nat} (ho:op.op=.buildSlice 103 1 #[(0,x)]) (hx:a.eval x=.slice y n c)
  (h:∀ p W',p=w.heap.size→W'.cell? ⟨p,0,none⟩=some (.slice y n c)→Below w.heap.size w W'→Kt (a.put op.dst (.slice (some ⟨p,0,none⟩) 1 1)) W'):Oper.wp Tryz.prog op a w Kt Q:=by
 have h':=h w.heap.size (w.alloc (.cells #[.slice y n c] 25)) rfl (by rw [cell_of_row _ _ _ _ _ _ (heap_alloc_new w _)];rfl) (K.alloc (Below.refl _ _) _)
 unfold Oper.wp execOp
 simp only [ho,List.map_toArray,List.map_cons,List.map_nil,hx]
 go_simp
 exact h'
def cutA (a:Option Addr) (c k:Nat):Option Addr:=if c=k then a else a.map (·.add k)
end Go.Proofs.YtmigakanbeckpaaGreatDoor.Sh
namespace Go.Proofs.YtmigakanbeckpaaGreatDoor.Sh
set_option maxRecDepth 100000
def kpad (f:Nat→Nat) (n i:Nat):Nat:=if n≤64 then (if i<n then f i else 0) else (if i<32 then hByte (hashS f n) i else 0)
def macS (f:Nat→Nat) (n:Nat) (g:Nat→Nat) (m:Nat):St:=hashS (cat (fun i=>kpad f n i ^^^ 92) 64 (hByte (hashS (cat (fun i=>kpad f n i ^^^ 54) 64 g) (64+m)))) 96
theorem kpad_lt {f:Nat→Nat} (hf:∀ i,f i<256) (n i:Nat):kpad f n i<256:=by
 unfold kpad
 (repeat' split)
 ·exact hf i
 ·omega
 ·exact Nat.mod_lt _ (by omega)
 ·omega
def mA (f:Nat→Nat) (n:Nat) (g:Nat→Nat) (m:Nat):Array Value:=(ab (hByte (macS f n g m)) 32).toArray
end Go.Proofs.YtmigakanbeckpaaGreatDoor.Sh
namespace Go.Proofs.YtmigakanbeckpaaGreatDoor.Sh
set_option maxRecDepth 100000
open Go.RowKit
theorem wanted_pos {c:Bool} {A B:Prop} (h:c=true) (a:A):if c=true then A else B:=by rw [if_pos h];exact a
theorem wp_call {F:Nat} {op:Oper} {a:Act} {w:World} {Kt:Act→World→Prop} {Q:Exit→Act→World→Prop} {xs:Array Operand} {ts:Array TypeId} {vs:Array Value} {R:Value→World→Prop} (ho:op.op=.call { callee:=.value (.func F),args:=xs,argTypes:=ts }) (hx:xs.map a.eval=vs) (hE:(callFunc F vs).run Tryz.prog w=.ok (.enter F vs) w)
  (hC:Calls Tryz.prog F vs w fun e w'=>∃ r,e=.returned r∧R r w') (h:∀ r w',R r w'→Kt (a.put op.dst r) w'):Oper.wp Tryz.prog op a w Kt Q:=by
 have hf:a.eval (.func F)=.func (.func F) #[] #[]:=rfl
 unfold Oper.wp execOp
 simp only [ho,resolve,invoke,hf,Deferred.ofValue,hx,Sem.run_bind,Sem.run_pure,Result.andThen_ok]
 rw [show (#[]++vs++#[]:Array Value)=vs by simp,hE,Oper.upon_enter]
 refine Calls.mono hC ?_
 rintro e w' ⟨r,rfl,hr⟩
 exact h r w' hr
end Go.Proofs.YtmigakanbeckpaaGreatDoor.Sh
namespace Go.Proofs.YtmigakanbeckpaaGreatDoor.Sh
set_option maxRecDepth 100000
open Go.RowKit
theorem xor_lt {a b:Nat} (ha:a<256) (hb:b<256):a ^^^ b<256:=Nat.xor_lt_two_pow (n:=8) ha hb
end Go.Proofs.YtmigakanbeckpaaGreatDoor.Sh
namespace Go.Proofs.YtmigakanbeckpaaGreatDoor.Sh
set_option maxRecDepth 100000
open Go.RowKit
theorem infoKB:(Tryz.prog.info? 147).map (·.size)=some 64:=by kernel_rfl
theorem inKB (f:Nat→Nat):(Tryz.prog.info? 147).map (·.size)=some (ab f 64).toArray.size:=by rw [List.size_toArray,ab_len];exact infoKB
theorem ilKB (f:Nat→Nat):(Tryz.prog.info? 147).map (·.size)=some (ab f 64).length:=by rw [ab_len];exact infoKB
theorem zerosKB:(#[.int .u8 0,.int .u8 0,.int .u8 0,.int .u8 0,.int .u8 0,.int .u8 0,.int .u8 0,.int .u8 0,.int .u8 0,.int .u8 0,.int .u8 0,.int .u8 0,.int .u8 0,.int .u8 0,.int .u8 0,.int .u8 0,.int .u8 0,.int .u8 0,.int .u8 0,.int .u8 0,.int .u8 0,.int .u8 0,.int .u8 0,.int .u8 0,.int .u8 0,.int .u8 0,.int .u8 0,.int .u8 0,.int .u8 0,.int .u8 0,.int .u8 0,.int .u8 0,.int .u8 0,.int .u8 0,.int .u8 0,.int .u8 0,.int .u8 0,.int .u8 0,.int .u8 0,.int .u8 0,.int .u8 0,.int .u8 0,.int .u8 0,.int .u8 0,.int .u8 0,.int .u8 0,.int .u8 0,.int .u8 0,.int .u8 0,.int .u8 0,.int .u8 0,.int .u8 0,.int .u8 0,.int .u8 0,.int .u8 0,.int .u8 0,.int .u8 0,.int .u8 0,.int .u8 0,.int .u8 0,.int .u8 0,.int .u8 0,.int .u8 0,.int .u8 0]:Array Value)=(ab (fun _=>0) 64).toArray:=by kernel_rfl
theorem RowB.first {w:World} {b N n:Nat} {f:Nat→Nat} (h:RowB w b N f) (hn:n≤N) (g:Nat→Nat):RowB (w.setCells b 0 (ab g n)) b N (fun i=>if i<n then g i else f i):=by
 have ht:w.there b 0 (ab g n).length:=fun j hj=>by
  rw [ab_len] at hj
  rw [Nat.zero_add,h.c j (by omega),h.z j (by omega)];exact ⟨rfl,rfl⟩
 have hr:=World.rangeAt_setCells_same w b 0 (ab g n) ht
 refine ⟨by rw [size_setCells];exact h.lt,fun i hi=>?_,fun i hi=>by rw [World.frozen?_setCells];exact h.z i hi⟩
 by_cases e:i<n
 ·have:=hr i _ (ab_at g e)
  rw [Nat.zero_add] at this
  rw [this]
  show _=some (Value.int .u8 (((if i<n then g i else f i:Nat)):Int))
  rw [if_pos e]
 ·rw [World.cell?_setCells_out b _ 0 w _ (fun _ _=>Or.inr (by rw [ab_len];simp only;omega)),h.c i hi]
  show _=some (Value.int .u8 (((if i<n then g i else f i:Nat)):Int))
  rw [if_neg e]
theorem RowB.thereN {w:World} {b N n:Nat} {f:Nat→Nat} (h:RowB w b N f) (hn:n≤N):w.there b 0 n:=fun j hj=>by
 rw [Nat.zero_add,h.c j (by omega),h.z j (by omega)];exact ⟨rfl,rfl⟩
theorem run_copyBA {W:World} {b o dLen dCap n c k:Nat} {x:Option Addr} {g:Nat→Nat} (hx:BA W x n g) (hk:k=Nat.min n dLen) (ht:W.there b o k) (ty:TypeId) :
  (Builtin.copy_ #[25,25] ty #[.slice (some ⟨b,o,none⟩) dLen dCap,.slice x n c]).run Tryz.prog W=.ok (goInt k) (W.setCells b o (ab g k)):=by
 rcases hx.at_ with h0 | ⟨xb,xo,rfl,hr⟩
 ·have h:=run_copy_none (P:=Tryz.prog) W 25 25 ty 5 (some ⟨b,o,none⟩) x dLen dCap n c Tryz.underlying25 (by kernel_rfl) (by rw [h0];exact Nat.zero_min _)
  have hk0:k=0:=by rw [hk,h0];exact Nat.zero_min _
  subst hk0
  exact h
 ·have h:=run_copy_cells (P:=Tryz.prog) W 25 25 ty 5 b o dLen dCap ⟨xb,xo,none⟩ n c (ab g k) Tryz.underlying25 (by kernel_rfl) (by rw [ab_len];exact hk) (fun j v hv=>by
   have hj:j<k:=by
    rcases Nat.lt_or_ge j k with h' | h'
    ·exact h'
    ·rw [List.getElem?_eq_none (by rw [ab_len];exact h')] at hv;cases hv
   rw [ab_at g hj] at hv
   have hkn:k≤n:=by rw [hk];exact Nat.min_le_left _ _
   rw [Addr.add_mid,hr.c j (by omega)];exact hv) (fun j hj=>(ht j (by rw [ab_len] at hj;exact hj)).1) (fun j hj=>(ht j (by rw [ab_len] at hj;exact hj)).2) (ab_one _ _)
  rw [ab_len] at h
  exact h
theorem wp_copy {W:World} {op:Oper} {a:Act} {Kt:Act→World→Prop} {Q:Exit→Act→World→Prop} (d s:Operand)
  (ho:op.op=.call { callee:=.builtin .copy,args:=#[d,s],argTypes:=#[25,25] })
  {b o dLen dCap n c:Nat} {x:Option Addr} {g:Nat→Nat} (hd:a.eval d=.slice (some ⟨b,o,none⟩) dLen dCap) (hs:a.eval s=.slice x n c) (hx:BA W x n g) (k:Nat) (hk:k=Nat.min n dLen) (ht:W.there b o k)
  (h:Kt (a.put op.dst (goInt k)) (W.setCells b o (ab g k))):Oper.wp Tryz.prog op a W Kt Q:=by
 have hr:=run_copyBA (c:=c) (dCap:=dCap) hx hk ht op.type
 unfold Oper.wp execOp
 simp only [ho,resolve,invoke,builtin,Sem.run_bind,Sem.run_pure,Result.andThen_ok,List.map_toArray,List.map_cons,List.map_nil,hd,hs,hr]
 exact h
theorem wpList_copy {W:World} {ops:Array Oper} {rest:List Oper} {op:Oper} {a:Act} {Q:Exit→Act→World→Prop} (hgd:op.guard=none) (d s:Operand)
  (ho:op.op=.call { callee:=.builtin .copy,args:=#[d,s],argTypes:=#[25,25] })
  {b o dLen dCap n c:Nat} {x:Option Addr} {g:Nat→Nat} (hd:a.eval d=.slice (some ⟨b,o,none⟩) dLen dCap) (hs:a.eval s=.slice x n c) (hx:BA W x n g) (k:Nat) (hk:k=Nat.min n dLen) (ht:W.there b o k)
  (h:wpList Tryz.prog ops Q rest (a.put op.dst (goInt k)) (W.setCells b o (ab g k))):wpList Tryz.prog ops Q (op :: rest) a W :=
 wpList_plain hgd fun _ hK=>wp_copy d s ho hd hs hx k hk ht (hK _ _ h)
end Go.Proofs.YtmigakanbeckpaaGreatDoor.Sh
namespace Go.Proofs.YtmigakanbeckpaaGreatDoor.Sh
set_option maxRecDepth 100000
open Go.RowKit
attribute [local go_sem ↓] Go.wp_at_zero Go.wp_at_succ
theorem fill_any {w:World} {x:Option Addr} {n c:Nat} {f:Nat→Nat} (hT:Tab w) (hx:BA w x n f) (hc:n≤c) (hm:c≤maxLen) (hn:n≤800000) :
  Calls Tryz.prog 145 #[.slice x n c] w fun e w'=>e=.returned (.agg (ab (kpad f n) 64).toArray)∧Below w.heap.size w w':=by
 have HT:=hide hT
 have HX:=hide hx
 have HN:=hide (And.intro hc (And.intro hm hn))
 have hni:(n:Int)≤800000:=by omega
 clear hT hx hc hm hn
 go_enter Tryz.func145,Tryz.ntmps145
 go_upto_region 2 with fail
 refine wp_world (fun X hX=>?_)
 have hB:Below w.heap.size w X:=by rw [hX];exact K.alloc (K.alloc (Below.refl _ _) _) _
 have hR:RowB X w.heap.size 64 (fun _=>0):=by rw [hX];exact Row8.keep (RowB.made w 147 64 (fun _=>0) _ zerosKB) (K.alloc (Below.refl _ _) _)
 have hF:RowB X (w.heap.size+1) 64 (fun _=>0):=by
  rw [hX]
  have h:=RowB.made (w.alloc (.cells (ab (fun _=>0) 64).toArray 147)) 147 64 (fun _=>0) _ zerosKB
  rw [← zerosKB] at h
  have e:∀ o,(w.alloc o).heap.size=w.heap.size+1:=fun o=>by simp
  rw [e] at h
  exact h
 clear hX
 have HXX:=hide (HX.out.keep hB)
 have HTX:=hide (HT.out.keep hB)
 obtain ⟨b0,hb0⟩:∃ b0,w.heap.size=b0:=⟨_,rfl⟩
 rw [hb0] at hB hR hF ⊢
 have HR:=hide hR
 have HF:=hide hF
 have HB:=hide hB
 clear hR hF hB
 go_upto_if 7 with fail
 go_cut [] (fun wc=>RowB wc (b0+1) 64 (kpad f n)∧RowB wc b0 64 (fun _=>0)∧Below b0 w wc)
 case first =>
  by_cases h64:n≤64
  ·have h64i:(n:Int)≤64:=by omega
   have HRow:Hid (RowB (X.setCells (b0+1) 0 (ab f n)) (b0+1) 64 (kpad f n)):=Row8.congr (RowB.first HF.out h64 f) (fun i _=>by unfold kpad;rw [if_pos h64])
   have HRes:Hid (RowB (X.setCells (b0+1) 0 (ab f n)) b0 64 (fun _=>0)):=Row8.apart HR.out (by omega) _ _
   have HBel:Hid (Below b0 w (X.setCells (b0+1) 0 (ab f n))):=by subst hb0;exact below_setCells _ _ HB.out (by omega)
   have HTh:=hide (RowB.thereN HF.out h64)
   have HMin:Hid (n=Nat.min n 64):=(Nat.min_eq_left h64).symm
   clear h64 HR HF HB
   go_wp2_with (refine wpList_copy rfl _ _ rfl rfl rfl HXX.out n HMin.out HTh.out ?_;generalize X.setCells (b0+1) 0 (ab f n)=Y at HRow HRes HBel ⊢)
   go_meet
   case rel=>exact ⟨HRow.out,HRes.out,HBel.out⟩
  ·have h64i:(64:Int)<n:=by omega
   have HE:=hide (sum_one HTX.out HXX.out HN.out.1 HN.out.2.1 HN.out.2.2 25 rfl)
   go_wp2_with fail
   with_reducible refine Calls.mono HE.out ?_
   rintro e w2 ⟨rfl,hb⟩
   unfold hA
   obtain ⟨h,hh⟩:∃ h,h=hByte (hashS f n):=⟨_,rfl⟩
   have HK:Hid (∀ i,kpad f n i=if i<32 then h i else 0):=fun i=>by unfold kpad;rw [if_neg h64,hh]
   have HL:Hid (∀ i,h i<256):=fun i=>by rw [hh];exact hByte_lt _ i
   rw [← hh]
   have HR2:=hide (Row8.keep HR.out hb)
   have HF2:=hide (Row8.keep HF.out hb)
   have HB2:Hid (Below b0 w w2):=by subst hb0;exact K.call HB.out hb
   have HSZ:Hid (32=(ab h 32).toArray.size):=by show _=_;rw [List.size_toArray,ab_len]
   clear hb hh HR HF HB h64 HE HXX HTX
   have hal:=K.alloc (Below.refl _ w2) (.cells (ab h 32).toArray 60)
   have HS:=hide (RowB.made w2 60 32 h _ rfl)
   have HR3:=hide (Row8.keep HR2.out hal)
   have HF3:=hide (Row8.keep HF2.out hal)
   have HB3:Hid (Below b0 w (w2.alloc (.cells (ab h 32).toArray 60))):=by subst hb0;exact K.call HB2.out hal
   clear hal HR2 HF2 HB2
   go_upto_region 4 with (refine wpList_store_new rfl 60 _ _ rfl _ (ab h 32).toArray rfl rfl (inH _) HSZ.out (all_oneCell_toArray (ab_one _ _)) ?_;generalize w2.alloc (.cells (ab h 32).toArray 60)=Y at HS HR3 HF3 HB3 ⊢)
   have hd:=K.drew (Below.refl _ Y)
   have HSd:=hide (RowB.ba (Row8.keep HS.out hd) HL.out)
   have HFd:=hide (Row8.keep HF3.out hd)
   have HRd:=hide (Row8.keep HR3.out hd)
   have HBd:Hid (Below b0 w Y.drew):=by subst hb0;exact K.call HB3.out hd
   clear hd HS HF3 HR3 HB3
   refine wp_region_noPanic ?_
   refine wp_region_held_drew (S:=fun _=>True) (by kernel_rfl) trivial (fun _=>?_)
   refine wpAnyH_take (i:=0) (v:=.slice (some ⟨b0+1,0,none⟩) 64 64) rfl (by kernel_rfl) (by kernel_rfl) (by kernel_rfl) (fun _ _ _ h=>h) (Or.inl ⟨by rfl,fun w' _=>by go_simp⟩) trivial ?_
   simp only [Act.put,List.getElem_toArray,List.getElem_cons_zero,List.setIfInBounds_toArray,List.set_cons_zero,List.set_cons_succ]
   refine wpAnyH_take (i:=1) (v:=.slice (some ⟨w2.heap.size,0,none⟩) 32 32) rfl (by kernel_rfl) (by kernel_rfl) (by kernel_rfl) (fun _ _ _ h=>h) (Or.inl ⟨by rfl,fun w' _=>by go_simp⟩) trivial ?_
   simp only [Act.put,List.getElem_toArray,List.getElem_cons_zero,List.getElem_cons_succ,List.setIfInBounds_toArray,List.set_cons_zero,List.set_cons_succ]
   refine wpAnyH_ready (rs:=[2]) (by kernel_rfl) (by simp) (AllReadyH.cons rfl (fun Kt hK=>?_) AllReadyH.nil)
   refine wanted_pos rfl ?_
   refine wp_copy _ _ rfl rfl rfl HSd.out 32 rfl (RowB.thereN HFd.out (by omega)) (hK.out _ _ trivial (fun _=>?_))
   clear hK Kt
   have HRow:Hid (RowB (Y.drew.setCells (b0+1) 0 (ab h 32)) (b0+1) 64 (kpad f n)):=Row8.congr (RowB.first HFd.out (by omega) h) (fun i _=>by rw [HK.out i])
   have HRes:Hid (RowB (Y.drew.setCells (b0+1) 0 (ab h 32)) b0 64 (fun _=>0)):=Row8.apart HRd.out (by omega) _ _
   have HBel:Hid (Below b0 w (Y.drew.setCells (b0+1) 0 (ab h 32))):=by subst hb0;exact below_setCells _ _ HBd.out (by omega)
   clear HFd HRd HBd HSd
   generalize Y.drew.setCells (b0+1) 0 (ab h 32)=Z at HRow HRes HBel ⊢
   refine wpAnyH_done (by kernel_rfl) ?_ _
   refine NoPanic.normal ?_
   simp only [Act.put,List.getElem_toArray,List.getElem_cons_zero,List.getElem_cons_succ,List.setIfInBounds_toArray,List.set_cons_zero,List.set_cons_succ]
   go_wp2_with fail
   go_meet
   case rel=>exact ⟨HRow.out,HRes.out,HBel.out⟩
 case rest =>
  obtain ⟨hF,hR,hB⟩:=hcut
  have HRG:=hide (RowB.range hF)
  have HTH:=hide (RowB.there hR (kpad f n))
  have HST:=hide (RowB.stored hR (kpad f n))
  have HB:Hid (Below b0 w (wc.setCells b0 0 (ab (kpad f n) 64).toArray.toList)):=by subst hb0;exact below_setCells _ _ hB (Nat.le_refl _)
  clear hF hR hB HR HF
  generalize hg:kpad f n=g at HRG HTH HST HB ⊢
  have HG:=hide hg
  clear hg
  go_wp2_with (first
   | (refine wpList_load_mid rfl 147 _ rfl _ 0 rfl (ab g 64) _ HRG.out Tryz.underlying147 rfl (ilKB _) ?_;simp only [Act.put,List.setIfInBounds_toArray,List.set_cons_zero,List.set_cons_succ])
   | (refine wpList_store_mid rfl 147 _ _ rfl b0 0 (ab g 64).toArray rfl rfl HTH.out (inKB _) (all_oneCell_toArray (ab_one _ _)) ?_;generalize wc.setCells b0 0 (ab g 64).toArray.toList=Z at HST HB ⊢))
  exact bodyPost_ret (results_cell_mid Tryz.results145 _ _ b0 (ab g 64) _ rfl (RowB.range HST.out) Tryz.underlying147 rfl (ilKB _)) rfl ⟨by rw [HG.out],by rw [hb0];exact HB.out⟩
end Go.Proofs.YtmigakanbeckpaaGreatDoor.Sh
namespace Go.Proofs.YtmigakanbeckpaaGreatDoor.Sh
set_option maxRecDepth 100000
open Go.RowKit
attribute [local go_sem ↓] Go.wp_at_zero Go.wp_at_succ
def mixF (f:Nat→Nat) (m i j:Nat):Nat:=if j<i then f j ^^^ m else f j
theorem khash_any {w:World} {x:Option Addr} {k c m:Nat} {f:Nat→Nat} {A:Nat→Option Addr} {L C:Nat→Nat} {G:Nat→Nat→Nat} (hT:Tab w) (hf:∀ i,f i<256) (hm:m<256) (hP:PL w x k A L C G) (hk:k≤1000000) (hl:lenF L k≤700000) :
  Calls Tryz.prog 146 #[.agg (ab f 64).toArray,.int .u8 (m:Int),.slice x k c] w fun e w'=>e=.returned (.agg (hA (cat (fun i=>f i ^^^ m) 64 (catF L G k)) (64+lenF L k)))∧Below w.heap.size w w':=by
 have HT:=hide hT
 have HL:=hide hT.lt
 have HP:=hide hP
 have HN:=hide hl
 have HFl:=hide hf
 have HM:=hide hm
 have hmi:(m:Int)<256:=by omega
 have hki:(k:Int)≤1000000:=by omega
 clear hT hP hl hf hm
 have HMA:Hid (∀ W:World,RowB (W.alloc (.cells (ab f 64).toArray 147)) W.heap.size 64 f):=fun W=>RowB.made W _ 64 f _ rfl
 obtain ⟨A0,hA0⟩:∃ A0,A0=(ab f 64).toArray:=⟨_,rfl⟩
 rw [← hA0] at HMA ⊢
 clear hA0
 have zD:=fun W=>zeroDig W
 go_enter Tryz.func146,Tryz.ntmps146
 go_upto_region 1 with fail
 refine wp_world (fun X hX=>?_)
 have hB:Below w.heap.size w X:=by rw [hX];exact K.alloc (K.alloc (Below.refl _ _) _) _
 have hF:RowB X w.heap.size 64 f:=by rw [hX];exact Row8.keep (HMA.out w) (K.alloc (Below.refl _ _) _)
 have hH:RowB X (w.heap.size+1) 32 (fun _=>0):=by
  rw [hX]
  have h:=RowB.made (w.alloc (.cells A0 147)) 60 32 (fun _=>0) _ zeros32
  have e:∀ o,(w.alloc o).heap.size=w.heap.size+1:=fun o=>by simp
  rw [e] at h
  exact h
 clear hX HMA
 obtain ⟨b0,hb0⟩:∃ b0,w.heap.size=b0:=⟨_,rfl⟩
 rw [hb0] at hB hH hF HL ⊢
 have HH:=hide hH
 have HF:=hide hF
 have HB:=hide hB
 clear hH hF hB
 go_wp2_with fail
 go_loopg [11] 64 (fun g' s11 wr=>∃ i:Nat,g'=64-i∧i≤64∧s11=.int .i64 i∧RowB wr b0 64 (mixF f m i)∧RowB wr (b0+1) 32 (fun _=>0)∧Below b0 w wr)
 case atStart=>exact ⟨0,rfl,by omega,rfl,Row8.congr HF.out (fun i _=>by unfold mixF;rw [if_neg (by omega)]),HH.out,HB.out⟩
 case round =>
  clear HF HH HB
  obtain ⟨i,rfl,hi,rfl,hF,hH,hB⟩:=hrel
  by_cases hlt:i<64
  ·have ci:=hF.c i hlt
   have zi:=hF.z i hlt
   have e1:mixF f m i i=f i:=by unfold mixF;rw [if_neg (by omega)]
   simp only [e1] at ci
   obtain ⟨d,hd⟩:∃ d,d=f i ^^^ m:=⟨_,rfl⟩
   have HD:=hide hd
   have hfi:=HFl.out i
   have x1:bits .xor .u8 ((f i:Nat):Int) (m:Int)=(d:Int):=by rw [hd];exact u8_xor_nat (f i) m hfi HM.out
   have hd256:d<256:=by rw [hd];exact xor_lt hfi HM.out
   obtain ⟨y,hy⟩:∃ y,y=f i:=⟨_,rfl⟩
   rw [← hy] at ci x1 hfi
   have hyi:(y:Int)<256:=by omega
   have hdi:(d:Int)<256:=by omega
   have hii:(i:Int)<64:=by omega
   have HFr:=hide hF
   have HH:=hide hH
   have HB:=hide hB
   have HI:=hide hlt
   have hvl:=hF.lt
   clear hF hH hB hi hlt hd hy e1
   go_wp2_with fail
   go_roundg (64-(i+1))
   case measure=>have:=HI.out;omega
   case rel=>exact ⟨i+1,rfl,by have:=HI.out;omega,by go_num,(Row8.store HFr.out i HI.out (d:Int)).congr (fun j hj=>by
    unfold mixF
    by_cases e:j=i
    ·subst e;rw [if_pos rfl,if_pos (by omega),HD.out]
    ·rw [if_neg e]
     by_cases e2:j<i
     ·rw [if_pos e2,if_pos (by omega)]
     ·rw [if_neg e2,if_neg (by omega)]),row8_other HH.out (by omega) i _,by subst hb0;exact K.set HB.out (Nat.le_refl _) _⟩
  ·obtain rfl:i=64:=by omega
   have hFF:RowB wr b0 64 (fun i=>f i ^^^ m):=Row8.congr hF (fun j hj=>by unfold mixF;rw [if_pos hj])
   obtain ⟨F,hFe⟩:∃ F:Nat→Nat,F=fun i=>f i ^^^ m:=⟨_,rfl⟩
   have HFlt:Hid (∀ i,F i<256):=fun i=>by rw [hFe];exact xor_lt (HFl.out i) HM.out
   rw [← hFe] at hFF
   have HFE:=hide hFe
   have hsz:=hH.lt
   have HB:=hide hB
   have HH:=hide hH
   have HF:=hide hFF
   have HS:=hide hsz
   clear hF hFF hFe hB hH hsz hlt hi
   go_upto_region 7 with fail
   refine wp_world (fun X hX=>?_)
   have hal:Below wr.heap.size wr X:=by rw [hX];exact K.alloc (Below.refl _ _) _
   have hD:Dig X wr.heap.size F 0:=by rw [hX];exact dig_made wr 115 F
   clear hX zD
   have HF1:=hide (Row8.keep HF.out hal)
   have HH1:=hide (Row8.keep HH.out hal)
   have HB1:Hid (Below b0 w X):=by subst hb0;exact K.call HB.out hal
   have hbw:Below w.heap.size w X:=by rw [hb0];exact HB1.out
   have HT1:=hide (HT.out.keep hbw)
   obtain ⟨b1,hb1⟩:∃ b1,wr.heap.size=b1:=⟨_,rfl⟩
   rw [hb1] at hD HS ⊢
   have HW:=hide (write_any (b:=b1) (m:=64) (c:=64) (x:=some ⟨b0,0,none⟩) HT1.out (by have:=HL.out;have:=HS.out;omega) (RowB.ba HF1.out HFlt.out) (fun _ p hp=>by cases hp;show b0≠b1;have:=HS.out;omega) (Nat.le_refl _) (by unfold maxLen;omega) hD (by omega))
   clear hal hD hbw HF HH HB HT1
   go_upto_region 8 with fail
   with_reducible refine Calls.mono HW.out ?_
   rintro e W2 ⟨⟨v,rfl⟩,hD2,hG2⟩
   rw [cat_zero,Nat.zero_add] at hD2
   have hH2:RowB W2 (b0+1) 32 (fun _=>0):=⟨Nat.lt_of_lt_of_le HH1.out.lt hG2.size,fun i hi=>hG2.cell (HH1.out.c i hi) (by have:=HS.out;simp;omega),fun i hi=>by
    rw [World.frozen?_of_block (w:=X) (hG2.block (b0+1) HH1.out.lt (by have:=HS.out;simp;omega))];exact HH1.out.z i hi⟩
   have hB2:Below b0 w W2:=HB1.out.grown hG2 (by have:=HH1.out.lt;omega) (fun k hk=>by cases hk;have:=HS.out;omega)
   have HD2:=hide hD2
   have HH2:=hide hH2
   have HB2:=hide hB2
   clear hD2 hH2 hB2 hG2 HW HH1 HB1 HF1
   go_wp2_with fail
   go_loopg [25] k (fun g' s25 wr=>∃ i:Nat,g'=k-i∧i≤k∧s25=.int .i64 i∧Dig wr b1 (cat F 64 (catF L G i)) (64+lenF L i)∧RowB wr (b0+1) 32 (fun _=>0)∧Below b0 w wr)
   case atStart=>exact ⟨0,rfl,by omega,rfl,HD2.out.congr (fun i hi=>by unfold cat;rw [if_pos hi]),HH2.out,HB2.out⟩
   case round =>
    clear HH2 HD2 HB2
    obtain ⟨i,rfl,hi,rfl,hD,hH,hB⟩:=hrel
    have hB':Below w.heap.size w wr:=by rw [hb0];exact hB
    have HT1:=hide (HT.out.keep hB')
    have HP1:=hide (HP.out.keep hB')
    clear hB'
    by_cases hlt:i<k
    ·rcases HP1.out.at_ with h0 | ⟨pb,po,rfl,hc⟩
     ·omega
     have ci:=hc i hlt
     have hii:(i:Int)<(k:Int):=by omega
     have hcp:=HP1.out.cp i hlt
     have hln:lenF L i+L i≤700000:=by
      have h1:=HN.out
      have h2:lenF L (i+1)≤lenF L k:=lenF_mono L hlt
      simp only [lenF] at h2
      omega
     have hDl:b1<wr.heap.size:=by obtain ⟨s,r,h,_⟩:=hD;exact h.lt
     have HW:=hide (write_any (c:=C i) HT1.out (by have:=HL.out;have:=HS.out;omega) (HP1.out.ba i hlt) (fun hm p hp=>by
      have h1:=(HP.out.ba i hlt).block hm p hp
      have:=HS.out
      omega) hcp.1 hcp.2 hD (by omega))
     have HH:=hide hH
     have HB:=hide hB
     have HI:=hide (And.intro hlt hDl)
     clear hc hcp hD hH hB hi hln hDl hlt
     go_wp2_with fail
     with_reducible refine Calls.mono HW.out ?_
     rintro e W2 ⟨⟨v,rfl⟩,hD2,hG2⟩
     rw [cat_assoc,Nat.add_assoc] at hD2
     have hH2:RowB W2 (b0+1) 32 (fun _=>0):=⟨Nat.lt_of_lt_of_le HH.out.lt hG2.size,fun i hi=>hG2.cell (HH.out.c i hi) (by have:=HS.out;simp;omega),fun i hi=>by
      rw [World.frozen?_of_block (w:=wr) (hG2.block (b0+1) HH.out.lt (by have:=HS.out;simp;omega))];exact HH.out.z i hi⟩
     have hB2:Below b0 w W2:=HB.out.grown hG2 (by have:=HI.out;have:=HS.out;omega) (fun k hk=>by cases hk;have:=HS.out;omega)
     clear HW HH HB ci hG2
     go_wp2_with fail
     go_roundg (k-(i+1))
     case measure=>have:=HI.out;omega
     case rel=>exact ⟨i+1,rfl,by have:=HI.out;omega,by go_num,hD2,hH2,hB2⟩
    ·obtain rfl:i=k:=by omega
     have HDS:=hide (dsum_hA HT1.out hD (by have:=HN.out;omega))
     have HH:=hide hH
     have HB:=hide hB
     clear hD hH hB hi hlt
     go_wp2_with fail
     with_reducible refine Calls.mono HDS.out ?_
     rintro e W3 ⟨rfl,hb⟩
     unfold hA
     have hH3:=Row8.keep HH.out hb
     have hB3:Below b0 w W3:=by subst hb0;exact K.call HB.out hb
     have HTH:=hide (RowB.there hH3 (hByte (hashS (cat F 64 (catF L G i)) (64+lenF L i))))
     have HST:=hide (RowB.stored hH3 (hByte (hashS (cat F 64 (catF L G i)) (64+lenF L i))))
     have HB:Hid (Below b0 w (W3.setCells (b0+1) 0 (ab (hByte (hashS (cat F 64 (catF L G i)) (64+lenF L i))) 32).toArray.toList)):=by subst hb0;exact below_setCells _ _ hB3 (by omega)
     clear hb hH3 hB3 HH HDS
     generalize hs2:hashS (cat F 64 (catF L G i)) (64+lenF L i)=s2 at HTH HST HB ⊢
     have HS2:=hide hs2
     clear hs2
     go_wp2_with (refine wpList_store_mid rfl 60 _ _ rfl (b0+1) 0 (ab (hByte s2) 32).toArray rfl rfl HTH.out (inH _) (all_oneCell_toArray (ab_one _ _)) ?_;generalize W3.setCells (b0+1) 0 (ab (hByte s2) 32).toArray.toList=Z at HST HB ⊢)
     exact bodyPost_ret (results_cell_mid Tryz.results146 _ _ (b0+1) (ab (hByte s2) 32) _ rfl (RowB.range HST.out) Tryz.underlying60 rfl (ilH _)) rfl ⟨by unfold hA;rw [← HFE.out,HS2.out],by rw [hb0];exact HB.out⟩
end Go.Proofs.YtmigakanbeckpaaGreatDoor.Sh
namespace Go.Proofs.YtmigakanbeckpaaGreatDoor.Sh
set_option maxRecDepth 100000
open Go.RowKit
attribute [local go_sem ↓] Go.wp_at_zero Go.wp_at_succ
theorem khash_one_at {w:World} {q:Nat} {x:Option Addr} {n c m:Nat} {f g:Nat→Nat} (hT:Tab w) (hf:∀ i,f i<256) (hm:m<256) (hb:BA w x n g) (hc:n≤c) (hcm:c≤maxLen) (hn:n≤700000) (hq:w.cell? ⟨q,0,none⟩=some (.slice x n c)) :
  Calls Tryz.prog 146 #[.agg (ab f 64).toArray,.int .u8 (m:Int),.slice (some ⟨q,0,none⟩) 1 1] w fun e w'=>e=.returned (.agg (hA (cat (fun i=>f i ^^^ m) 64 g) (64+n)))∧Below w.heap.size w w':=by
 have e1:lenF (fun _=>n) 1=n:=by simp only [lenF];omega
 have h:=khash_any (c:=1) (x:=some ⟨q,0,none⟩) (k:=1) (m:=m) (A:=fun _=>x) (L:=fun _=>n) (C:=fun _=>c) (G:=fun _=>g) hT hf hm ⟨fun i _=>hb,fun i _=>⟨hc,hcm⟩,Or.inr ⟨_,_,rfl,fun i hi=>by
  obtain rfl:i=0:=by omega
  exact hq⟩⟩ (by omega) (by rw [e1];exact hn)
 rw [e1] at h
 simp only [catF,lenF,cat_zero] at h
 exact h
theorem mac_any {w:World} {x y:Option Addr} {n c k d:Nat} {f:Nat→Nat} {A:Nat→Option Addr} {L C:Nat→Nat} {G:Nat→Nat→Nat} (hT:Tab w) (hx:BA w x n f) (hc:n≤c) (hm:c≤maxLen) (hn:n≤800000) (hP:PL w y k A L C G) (hk:k≤1000000) (hl:lenF L k≤700000) :
  Calls Tryz.prog 127 #[.slice x n c,.slice y k d] w fun e w'=>e=.returned (.agg (mA f n (catF L G k) (lenF L k)))∧Below w.heap.size w w':=by
 have HT:=hide hT
 have HX:=hide hx
 have HN:=hide (And.intro hc (And.intro hm hn))
 have HP:=hide hP
 have HK:=hide (And.intro hk hl)
 clear hT hx hc hm hn hP hk hl
 go_enter Tryz.func127,Tryz.ntmps127
 go_upto_region 1 with fail
 refine wp_world (fun X hX=>?_)
 have hB:Below w.heap.size w X:=by rw [hX];exact K.alloc (Below.refl _ _) _
 have hH:RowB X w.heap.size 32 (fun _=>0):=by rw [hX];exact RowB.made w 60 32 (fun _=>0) _ zeros32
 clear hX
 have HFI:=hide (fill_any (HT.out.keep hB) (HX.out.keep hB) HN.out.1 HN.out.2.1 HN.out.2.2)
 obtain ⟨b0,hb0⟩:∃ b0,w.heap.size=b0:=⟨_,rfl⟩
 rw [hb0] at hB hH ⊢
 have HH:=hide hH
 have HB:=hide hB
 clear hH hB
 go_wp2_with fail
 with_reducible refine Calls.mono HFI.out ?_
 rintro e w2 ⟨rfl,hb⟩
 obtain ⟨g,hg⟩:∃ g,g=kpad f n:=⟨_,rfl⟩
 have HG:Hid (∀ i,g i<256):=fun i=>by rw [hg];exact kpad_lt HX.out.lt n i
 have HGe:=hide hg
 rw [← hg]
 clear hg
 have hal:=K.alloc (Below.refl _ w2) (.cells (ab g 64).toArray 147)
 have hb':=K.call hb hal
 have HF:=hide (RowB.made w2 147 64 g _ rfl)
 have HH2:=hide (Row8.keep HH.out hb')
 have HB2:Hid (Below b0 w (w2.alloc (.cells (ab g 64).toArray 147))):=by subst hb0;exact K.call HB.out hb'
 have HSZ:Hid (64=(ab g 64).toArray.size):=by show _=_;rw [List.size_toArray,ab_len]
 clear hb hb' hal HH HB HFI
 go_upto_region 2 with (refine wpList_store_new rfl 147 _ _ rfl _ (ab g 64).toArray rfl rfl (inKB _) HSZ.out (all_oneCell_toArray (ab_one _ _)) ?_;generalize w2.alloc (.cells (ab g 64).toArray 147)=Y at HF HH2 HB2 ⊢)
 obtain ⟨b1,hb1⟩:∃ b1,w2.heap.size=b1:=⟨_,rfl⟩
 rw [hb1] at HF ⊢
 have hBw:Below w.heap.size w Y:=by rw [hb0];exact HB2.out
 have HE:=hide (khash_any (c:=d) (m:=54) (HT.out.keep hBw) HG.out (by omega) (HP.out.keep hBw) HK.out.1 HK.out.2)
 have HRG:=hide (RowB.range HF.out)
 clear hBw hb1 HSZ
 go_wp2_with (refine wpList_load_mid rfl 147 _ rfl _ 0 rfl (ab g 64) _ HRG.out Tryz.underlying147 rfl (ilKB _) ?_;simp only [Act.put,List.setIfInBounds_toArray,List.set_cons_zero,List.set_cons_succ])
 with_reducible refine Calls.mono HE.out ?_
 rintro e w3 ⟨rfl,hb⟩
 unfold hA
 obtain ⟨h,hh⟩:∃ h,h=hByte (hashS (cat (fun i=>g i ^^^ 54) 64 (catF L G k)) (64+lenF L k)):=⟨_,rfl⟩
 obtain ⟨h2,hh2⟩:∃ h2,h2=hByte (hashS (cat (fun i=>g i ^^^ 92) 64 h) (64+32)):=⟨_,rfl⟩
 have HL:Hid (∀ i,h i<256):=fun i=>by rw [hh];exact hByte_lt _ i
 have HRes:Hid (h2=hByte (macS f n (catF L G k) (lenF L k))):=by show _=_;rw [hh2,hh,HGe.out];rfl
 have HH3:Hid (Value.agg (hA (cat (fun i=>g i ^^^ 92) 64 h) (64+32))=.agg (ab h2 32).toArray):=by show _=_;rw [hh2];rfl
 rw [← hh]
 clear hh hh2
 have hal:=K.alloc (Below.refl _ w3) (.cells (ab h 32).toArray 60)
 have hb':=K.call hb hal
 have HS:=hide (RowB.made w3 60 32 h _ rfl)
 have HF3:=hide (Row8.keep HF.out hb')
 have HHr:=hide (Row8.keep HH2.out hb')
 have HB3:Hid (Below b0 w (w3.alloc (.cells (ab h 32).toArray 60))):=by subst hb0;exact K.call HB2.out hb'
 have HSZ:Hid (32=(ab h 32).toArray.size):=by show _=_;rw [List.size_toArray,ab_len]
 clear hb hb' hal HH2 HB2 HF HE HRG
 go_upto_region 3 with (refine wpList_store_new rfl 60 _ _ rfl _ (ab h 32).toArray rfl rfl (inH _) HSZ.out (all_oneCell_toArray (ab_one _ _)) ?_;generalize w3.alloc (.cells (ab h 32).toArray 60)=V at HS HF3 HHr HB3 ⊢)
 have HH2:=HH3
 have hd:=K.drew (Below.refl _ V)
 have hSd:=Row8.keep HS.out hd
 have hFd:=Row8.keep HF3.out hd
 have hHd:=Row8.keep HHr.out hd
 have hBd:Below w.heap.size w V.drew:=by rw [hb0];subst hb0;exact K.call HB3.out hd
 clear hd HS HF3 HHr HB3 HH3
 refine wp_region_noPanic ?_
 refine wp_region_held_drew (S:=fun _=>True) (by kernel_rfl) trivial (fun _=>?_)
 refine wpAnyH_take (i:=1) (v:=.slice (some ⟨w3.heap.size,0,none⟩) 32 32) rfl (by kernel_rfl) (by kernel_rfl) (by kernel_rfl) (fun _ _ _ h=>h) (Or.inl ⟨by rfl,fun w' _=>by go_simp⟩) trivial ?_
 simp only [Act.put,List.getElem_toArray,List.getElem_cons_zero,List.getElem_cons_succ,List.setIfInBounds_toArray,List.set_cons_zero,List.set_cons_succ]
 refine wpAnyH_ready (rs:=[0,2]) (by kernel_rfl) (by simp) (AllReadyH.cons rfl (fun Kt hK=>?_) (AllReadyH.cons rfl (fun Kt hK=>?_) AllReadyH.nil))
 ·refine wanted_pos rfl ?_
  refine wp_load_mid 147 _ rfl b1 0 rfl (ab g 64) _ (RowB.range hFd) Tryz.underlying147 rfl (ilKB _) (hK.out _ _ trivial (fun _=>?_))
  clear hK Kt
  simp only [Act.put,List.getElem_toArray,List.getElem_cons_zero,List.setIfInBounds_toArray,List.set_cons_zero,List.set_cons_succ]
  refine wpAnyH_ready (rs:=[2]) (by kernel_rfl) (by simp) (AllReadyH.cons rfl (fun Kt hK=>?_) AllReadyH.nil)
  refine wanted_pos rfl ?_
  refine wp_one rfl rfl (fun q W _ hcq hbq=>hK.out _ _ trivial (fun _=>?_))
  clear hK Kt
  simp only [Act.put,List.getElem_toArray,List.getElem_cons_zero,List.getElem_cons_succ,List.setIfInBounds_toArray,List.set_cons_zero,List.set_cons_succ]
  have hSW:=Row8.keep hSd hbq
  have hHW:=Row8.keep hHd hbq
  have hbW:=K.call hBd hbq
  clear hbq hSd hFd hHd hBd
  refine wpAnyH_ready (rs:=[3]) (by kernel_rfl) (by simp) (AllReadyH.cons rfl (fun Kt hK=>?_) AllReadyH.nil)
  refine wanted_pos rfl ?_
  refine wp_call (R:=fun r w'=>r=.agg (ab h2 32).toArray∧Below W.heap.size W w') (vs:=#[.agg (ab g 64).toArray,.int .u8 92,.slice (some ⟨q,0,none⟩) 1 1]) rfl (by simp only [List.map_toArray,List.map_cons,List.map_nil];rfl) (by go_simp) (Calls.mono (khash_one_at (m:=92) (HT.out.keep hbW) HG.out (by omega) (RowB.ba hSW HL.out) (Nat.le_refl _) (by unfold maxLen;omega) (by omega) hcq) (fun e w' ⟨he,hb⟩=>⟨_,he,HH2.out,hb⟩)) (fun r W4 ⟨hr,hb4⟩=>?_)
  subst hr
  refine hK.out _ _ trivial (fun _=>?_)
  clear hK Kt
  simp only [Act.put,List.getElem_toArray,List.getElem_cons_zero,List.getElem_cons_succ,List.setIfInBounds_toArray,List.set_cons_zero,List.set_cons_succ]
  refine wpAnyH_ready (rs:=[4]) (by kernel_rfl) (by simp) (AllReadyH.cons rfl (fun Kt hK=>?_) AllReadyH.nil)
  refine wanted_pos rfl ?_
  have hH4:=Row8.keep hHW hb4
  have hB4:Below b0 w W4:=by subst hb0;exact K.call hbW hb4
  refine wp_store_mid 60 _ _ rfl b0 0 (ab h2 32).toArray rfl rfl (RowB.there hH4 h2) (inH _) (all_oneCell_toArray (ab_one _ _)) (hK.out _ _ trivial (fun _=>?_))
  clear hK Kt
  refine wpAnyH_done (by kernel_rfl) ?_ _
  refine NoPanic.normal ?_
  have HST:=hide (RowB.stored hH4 h2)
  have HB:Hid (Below b0 w (W4.setCells b0 0 (ab h2 32).toArray.toList)):=by subst hb0;exact below_setCells _ _ hB4 (Nat.le_refl _)
  clear hH4 hB4
  generalize W4.setCells b0 0 (ab h2 32).toArray.toList=Z at HST HB ⊢
  go_wp2_with fail
  exact bodyPost_ret (results_cell_mid Tryz.results127 _ _ b0 (ab h2 32) _ rfl (RowB.range HST.out) Tryz.underlying60 rfl (ilH _)) rfl ⟨by unfold mA;rw [HRes.out],HB.out⟩
 ·refine wanted_pos rfl ?_
  refine wp_one rfl rfl (fun q W _ hcq hbq=>hK.out _ _ trivial (fun _=>?_))
  clear hK Kt
  simp only [Act.put,List.getElem_toArray,List.getElem_cons_zero,List.getElem_cons_succ,List.setIfInBounds_toArray,List.set_cons_zero,List.set_cons_succ]
  have hSW:=Row8.keep hSd hbq
  have hHW:=Row8.keep hHd hbq
  have hFW:=Row8.keep hFd hbq
  have hbW:=K.call hBd hbq
  clear hbq hSd hFd hHd hBd
  refine wpAnyH_ready (rs:=[0]) (by kernel_rfl) (by simp) (AllReadyH.cons rfl (fun Kt hK=>?_) AllReadyH.nil)
  refine wanted_pos rfl ?_
  refine wp_load_mid 147 _ rfl b1 0 rfl (ab g 64) _ (RowB.range hFW) Tryz.underlying147 rfl (ilKB _) (hK.out _ _ trivial (fun _=>?_))
  clear hK Kt
  simp only [Act.put,List.getElem_toArray,List.getElem_cons_zero,List.setIfInBounds_toArray,List.set_cons_zero,List.set_cons_succ]
  refine wpAnyH_ready (rs:=[3]) (by kernel_rfl) (by simp) (AllReadyH.cons rfl (fun Kt hK=>?_) AllReadyH.nil)
  refine wanted_pos rfl ?_
  refine wp_call (R:=fun r w'=>r=.agg (ab h2 32).toArray∧Below W.heap.size W w') (vs:=#[.agg (ab g 64).toArray,.int .u8 92,.slice (some ⟨q,0,none⟩) 1 1]) rfl (by simp only [List.map_toArray,List.map_cons,List.map_nil];rfl) (by go_simp) (Calls.mono (khash_one_at (m:=92) (HT.out.keep hbW) HG.out (by omega) (RowB.ba hSW HL.out) (Nat.le_refl _) (by unfold maxLen;omega) (by omega) hcq) (fun e w' ⟨he,hb⟩=>⟨_,he,HH2.out,hb⟩)) (fun r W4 ⟨hr,hb4⟩=>?_)
  subst hr
  refine hK.out _ _ trivial (fun _=>?_)
  clear hK Kt
  simp only [Act.put,List.getElem_toArray,List.getElem_cons_zero,List.getElem_cons_succ,List.setIfInBounds_toArray,List.set_cons_zero,List.set_cons_succ]
  refine wpAnyH_ready (rs:=[4]) (by kernel_rfl) (by simp) (AllReadyH.cons rfl (fun Kt hK=>?_) AllReadyH.nil)
  refine wanted_pos rfl ?_
  have hH4:=Row8.keep hHW hb4
  have hB4:Below b0 w W4:=by subst hb0;exact K.call hbW hb4
  refine wp_store_mid 60 _ _ rfl b0 0 (ab h2 32).toArray rfl rfl (RowB.there hH4 h2) (inH _) (all_oneCell_toArray (ab_one _ _)) (hK.out _ _ trivial (fun _=>?_))
  clear hK Kt
  refine wpAnyH_done (by kernel_rfl) ?_ _
  refine NoPanic.normal ?_
  have HST:=hide (RowB.stored hH4 h2)
  have HB:Hid (Below b0 w (W4.setCells b0 0 (ab h2 32).toArray.toList)):=by subst hb0;exact below_setCells _ _ hB4 (Nat.le_refl _)
  clear hH4 hB4
  generalize W4.setCells b0 0 (ab h2 32).toArray.toList=Z at HST HB ⊢
  go_wp2_with fail
  exact bodyPost_ret (results_cell_mid Tryz.results127 _ _ b0 (ab h2 32) _ rfl (RowB.range HST.out) Tryz.underlying60 rfl (ilH _)) rfl ⟨by unfold mA;rw [HRes.out],HB.out⟩
end Go.Proofs.YtmigakanbeckpaaGreatDoor.Sh
namespace Go.Proofs.YtmigakanbeckpaaGreatDoor.Sh
set_option maxRecDepth 100000
open Go.RowKit
attribute [local go_sem ↓] Go.wp_at_zero Go.wp_at_succ
end Go.Proofs.YtmigakanbeckpaaGreatDoor.Sh
namespace Go.Proofs.YtmigakanbeckpaaGreatDoor.Sh
set_option maxRecDepth 100000
open Go.RowKit
attribute [local go_sem ↓] Go.wp_at_zero Go.wp_at_succ
end Go.Proofs.YtmigakanbeckpaaGreatDoor.Sh
namespace Go.Proofs.YtmigakanbeckpaaGreatDoor.Sh
set_option maxRecDepth 100000
open Go.RowKit
attribute [local go_sem ↓] Go.wp_at_zero Go.wp_at_succ
def withF (v:Nat→Nat) (b:Nat) (g:Nat→Nat):Nat→Nat:=cat (cat v 32 (fun _=>b)) 33 g
end Go.Proofs.YtmigakanbeckpaaGreatDoor.Sh
namespace Go.Proofs.YtmigakanbeckpaaGreatDoor.Sh
set_option maxRecDepth 100000
structure KV where
 k:Nat→Nat
 v:Nat→Nat
def macB (f:Nat→Nat) (n:Nat) (g:Nat→Nat) (m:Nat):Nat→Nat:=hByte (macS f n g m)
def kvStep (s:KV) (b:Nat) (g:Nat→Nat) (m:Nat):KV :=
 let k:=macB s.k 32 (withF s.v b g) (33+m)
 ⟨k,macB k 32 s.v 32⟩
def kv0:KV:=⟨fun _=>0,fun _=>1⟩
def kvSeed (g:Nat→Nat) (m:Nat):KV:=kvStep (kvStep kv0 0 g m) 1 g m
def kvNext (s:KV):KV:=⟨s.k,macB s.k 32 s.v 32⟩
def kvAt (g:Nat→Nat) (m:Nat):Nat→KV
 | 0=>kvSeed g m
 | 1=>kvNext (kvSeed g m)
 | i+2=>kvNext (kvStep (kvAt g m (i+1)) 0 (fun _=>0) 0)
end Go.Proofs.YtmigakanbeckpaaGreatDoor.Sh
namespace Go.Proofs.YtmigakanbeckpaaGreatDoor.Sh
set_option maxRecDepth 100000
open Go.RowKit
def hcells (F:Nat→Nat→Nat):Nat→List Value
 | 0=>[]
 | n+1=>hcells F n++ab (F n) 32
structure HL (w:World) (x:Option Addr) (n:Nat) (F:Nat→Nat→Nat):Prop where
 at_:n=0∨∃ b,x=some ⟨b,0,none⟩∧∀ i,i<n→∀ j,j<32→w.cell? ⟨b,32*i+j,none⟩=some (.int .u8 ((F i j:Nat):Int))
end Go.Proofs.YtmigakanbeckpaaGreatDoor.Sh
