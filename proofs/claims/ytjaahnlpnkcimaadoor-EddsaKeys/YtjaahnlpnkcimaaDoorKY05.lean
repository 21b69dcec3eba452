/- What the program's own appendWord and ending (of layer 6) answer. Texts, one behind the other; rows of bytes of one's own, as bytes that are handed on. Texts, one behind the other; hashes as values (no function of the program is named). Worlds that part in one block alone. A digest in memory: its state, the bytes of its unfinished block, its size. What the program's own add (of layer 6) does. What the program's own Sum (of layer 6) answers. What the program's own PutLittle answers. What the document's own PutLittle and Little answer. What the program's own Little answers. What the program's own Wide answers. The moduli by their numbers, and plain facts on what is left of a number. What math/bits.LeadingZeros64 and Div64 answer at the greatest words of the moduli. -/
import Derived.Test.YtjaahnlpnkcimaaDoorKY04
import Derived.Test.YtjaahnlpnkcimaaDoorKY02
import Derived.Deep.LoopGhost
import Derived.Deep.DeepCutAuto
import Derived.WalkSmall
import Derived.Laws.MathBits
import Derived.Laws.BitsAllLaws
import Derived.Laws.IdiomCopy
import Derived.Laws.CopyOwn
import Derived.Deep.RegionWith
import Derived.OwnWalk
set_option maxRecDepth 100000
set_option maxHeartbeats 8000000
namespace Go.Proofs.YtjaahnlpnkcimaaDoor.Sx
set_option maxRecDepth 100000
open Go.RowKit
attribute [local go_sem ↓] Go.wp_at_zero Go.wp_at_succ
theorem mul64_any (x y:Int) (hx:0≤x) (hx2:x<18446744073709551616) (hy:0≤y) (hy2:y<18446744073709551616) (w:World) :
  Calls Tryd.prog 82 #[.int .u64 x,.int .u64 y] w fun e w'=>e=.returned (.tuple #[.int .u64 (x*y / 18446744073709551616),.int .u64 (x*y % 18446744073709551616)])∧w'=w:=by
 go_enter Tryd.func82,Tryd.ntmps82
 go_wp2
 go_ret2
 refine ⟨?_,rfl⟩
 rw [and_low32 x hx hx2,and_low32 y hy hy2]
 simp only [IntKind.wrap_u64]
 rw [and_low32 _ (Int.emod_nonneg _ (by omega)) (Int.emod_lt_of_pos _ (by omega)),mul64_arith x y hx hx2 hy hy2]
 rfl
def wB (x:Wd):Nat→List Nat
 | 0=>[]
 | i+1=>wB x i++[x.toNat / 256 ^ (7-i) % 256]
theorem appendWord_any (x:Wd) {base n:Nat} {l:List Nat} {v:Value} {w:World} (hO:w.ownsRow base 5 1 v n (cells8 l)) (hb:base≤w.heap.size) (hn:n≤900000) :
  Calls Tryd.prog 83 #[v,.int .u64 (wn x)] w fun e w'=>∃ v',e=.returned v'∧w'.ownsRow base 5 1 v' (n+8) (cells8 (l++wB x 8))∧Below base w w':=by
 have HO:Hid (w.ownsRow base 5 1 v n (cells8 l)):=hO
 have HN:Hid (n≤900000):=hn
 have HBS:Hid (base≤w.heap.size):=hb
 clear hO hn hb
 go_enter Tryd.func83,Tryd.ntmps83
 go_wp2_with fail
 go_loopg [0,6] 8 (fun g v s6 wr=>∃ (i:Nat) (u:Value),u=v∧g=8-i∧i≤8∧s6=.int .i64 i∧wr.ownsRow base 5 1 u (n+i) (cells8 (l++wB x i))∧Below base w wr)
 case atStart=>exact ⟨0,_,rfl,rfl,by omega,rfl,by simpa [wB] using HO.out,Below.refl _ _⟩
 case round =>
  clear HO
  obtain ⟨i,u,hu,rfl,hi,rfl,hO,hB⟩:=hrel
  subst hu
  by_cases hlt:i<8
  ·obtain ⟨bt,hbt⟩:∃ bt,bt=x.toNat / 256 ^ (7-i) % 256:=⟨_,rfl⟩
   have hb256:bt<256:=by rw [hbt];exact Nat.mod_lt _ (by omega)
   have HLB:Hid (wB x (i+1)=wB x i++[bt]):=by show _=_;rw [hbt];rfl
   have HBY:Hid (∀ W:World,Calls Tryd.prog 84 #[.int .u64 (wn x),.int .i64 (i:Int)] W fun e w'=>e=.returned (.int .u8 ((bt:Nat):Int))∧w'=W):=fun W=>by rw [hbt];exact byteOf_any x i hlt W
   have HL:=hide hlt
   have HO:=hide hO
   have HB:=hide hB
   have hii:(i:Int)<8:=by omega
   have hsz:base≤wr.heap.size:=Nat.le_trans HBS.out hB.size
   clear hbt hi hO hB hlt
   go_wp2_with (first
    | (go_at_call 84;with_reducible refine Calls.mono (HBY.out _) ?_;rintro e w' ⟨rfl,rfl⟩)
    | (at_builtin;refine wpList_app rfl _ _ rfl rfl (HO.out.alloc _) rfl (one_made _ bt hb256) (by have:=HL.out;have:=HN.out;omega) (by simp;omega) ?_;intro v2 w2 hO2 hg2))
   have hB2:Below base w w2:=(HB.out.alloc hsz _).grown hg2 (by simp;omega) (fun k hk=>(HO.out.lt k hk).1)
   have hO3:w2.ownsRow base 5 1 v2 (n+(i+1)) (cells8 (l++wB x (i+1))):=by
    rw [HLB.out,← List.append_assoc]
    exact hO2
   clear hO2 hg2 HO HB
   go_wp2_with fail
   go_roundg (8-(i+1))
   case measure=>have:=HL.out;omega
   case rel=>exact ⟨i+1,_,rfl,rfl,by have:=HL.out;omega,by go_num,hO3,hB2⟩
  ·obtain rfl:i=8:=by omega
   clear hlt hi
   go_wp2_with fail
   go_ret
   exact ⟨_,rfl,hO,hB⟩
def endP (n i:Nat):List Nat:=128 :: (List.replicate (zs n) 0++lenB n i)
theorem endP_len (n i:Nat):(endP n i).length=1+zs n+i:=by simp [endP,lenB_len];omega
theorem own_room (w:World) {base:Nat} (hb:base≤w.heap.size) (n c:Nat) (hn:n≤c) (hc:c≤maxLen) :
  (w.alloc (.cells (madeCells #[.int .u8 0] (c*1)) 5)).ownsRow base 5 1 (.slice (some ⟨w.heap.size,0,none⟩) n c) n (cells8 (List.replicate n 0)):=by
 refine ⟨by simp [cells8],.inr ⟨w.heap.size,c,_,rfl,hb,heap_alloc_new w _,hn,hc,by rw [size_madeCells],?_⟩⟩
 apply List.ext_getElem?
 intro i
 simp only [cells8,Nat.mul_one,List.getElem?_take,madeCells,List.map_replicate,List.getElem?_replicate]
 by_cases h:i<n
 ·have h':i<c:=by omega
  simp [h,h',Nat.mod_one]
 ·simp [h]
theorem wpList_make_room (w:World) {ops:Array Oper} {rest:List Oper} {o:Oper} {a:Act} {Q:Exit→Act→World→Prop} (hgd:o.guard=none) (l c:Operand) (hop:o.op=Op.makeSlice 24 l c)
  {base:Nat} (kl kc:IntKind) (L C:Int) (n m:Nat) (hl:a.eval l=.int kl L) (hc:a.eval c=.int kc C) (hL:L=(n:Int)) (hC:C=(m:Int)) (hnm:n≤m) (hm:m≤1000000) (hb:base≤w.heap.size)
  (hK:∀ w',w'.ownsRow base 5 1 (.slice (some ⟨w.heap.size,0,none⟩) n m) n (cells8 (List.replicate n 0))→w.grownBy w' none→wpList Tryd.prog ops Q rest (a.put o.dst (.slice (some ⟨w.heap.size,0,none⟩) n m)) w') :
  wpList Tryd.prog ops Q (o :: rest) a w:=by
 refine wpList_plain hgd fun K hK'=>?_
 subst hL hC
 obtain ⟨i0,hi,hz0,hz1,hz2⟩:=info_parts info8
 have hr:=run_make (P:=Tryd.prog) w 24 5 i0 (.int .u8 0) Tryd.underlying24 hi hz0 kl kc n m (by omega) (by omega) (by rw [hz2];omega) (by omega)
 simp only [Int.toNat_natCast,hz1] at hr
 unfold Oper.wp
 simp [execOp,hop,hl,hc,hr,Result.andThen]
 exact hK' _ _ (hK _ (by have h:=own_room w hb n m hnm (by unfold maxLen;omega);rwa [Nat.mul_one] at h) (World.grownBy_alloc w _ none))
theorem wB_len {n:Nat} {x:Wd} (h:x.toNat=8*n):∀ i,wB x i=lenB n i
 | 0=>rfl
 | i+1=>by simp only [wB,lenB];rw [wB_len h i,h]
theorem mul8_any (n:Nat) (hn:n≤200000) (w:World) :
  Calls Tryd.prog 82 #[.int .u64 (n:Int),.int .u64 8] w fun e w'=>e=.returned (.tuple #[.int .u64 (wn (0:Wd)),.int .u64 (wn (BitVec.ofNat 64 (8*n)))])∧w'=w:=by
 refine Calls.mono (mul64_any (n:Int) 8 (by omega) (by omega) (by omega) (by omega) w) ?_
 rintro e w' ⟨rfl,rfl⟩
 have h0:wn (0:Wd)=0:=rfl
 rw [wn_of (8*n) (by omega),h0,show (n:Int)*8 / 18446744073709551616=0 by omega,show (n:Int)*8 % 18446744073709551616=((8*n:Nat):Int) by omega]
 exact ⟨rfl,rfl⟩
theorem ending_any (n:Nat) (hn:n≤200000) (w:World) :
  Calls Tryd.prog 72 #[.int .u64 (n:Int)] w fun e w'=>∃ v,e=.returned v∧w'.ownsRow w.heap.size 5 1 v (1+zs n+8) (cells8 (endP n 8))∧Below w.heap.size w w':=by
 have hz:=zs_eq n
 have hz64:zs n≤136:=by unfold zs padLen;omega
 obtain ⟨z,hzz⟩:∃ z,z=zs n-8:=⟨_,rfl⟩
 have HZ:Hid (zs n=z+8):=by show _=_;omega
 have hn1:(256-((n:Int) % 128+17)) % 128=(z:Int):=by rw [hzz];unfold zs padLen;omega
 have hn2:(256-((n:Int) % 128+1+16)) % 128=(z:Int):=by rw [hzz];unfold zs padLen;omega
 obtain ⟨q,hq⟩:∃ q,q=n % 128:=⟨_,rfl⟩
 have hqi:(n:Int) % 128=(q:Int):=by omega
 rw [hqi] at hn1 hn2
 have hqb:(q:Int)<128:=by omega
 have hzb:(z:Int)≤128:=by omega
 have hni:(n:Int)≤200000:=by omega
 have HMU:Hid (∀ W:World,Calls Tryd.prog 82 #[.int .u64 (n:Int),.int .u64 8] W fun e w'=>e=.returned (.tuple #[.int .u64 (wn (0:Wd)),.int .u64 (wn (BitVec.ofNat 64 (8*n)))])∧w'=W):=fun W=>mul8_any n hn W
 have HWB:Hid (wB (0:Wd) 8=List.replicate 8 0∧wB (BitVec.ofNat 64 (8*n)) 8=lenB n 8):=⟨rfl,wB_len (by rw [BitVec.toNat_ofNat];omega) 8⟩
 generalize (BitVec.ofNat 64 (8*n):Wd)=lo at HMU HWB
 generalize (0:Wd)=hi at HMU HWB
 clear hz hz64 hq hzz hn
 go_enter Tryd.func72,Tryd.ntmps72
 go_upto_region 4 with (at_make;refine wpList_make_room _ rfl _ _ rfl (base:=w.heap.size) _ _ _ _ (1+z) (1+z+16) rfl rfl (by omega) (by omega) (by omega) (by omega) (Nat.le_refl _) ?_;intro w1 hO1 hg1)
 have hB1:Below w.heap.size w w1:=(Below.refl _ w).grown hg1 (Nat.le_refl _) (fun k hk=>by cases hk)
 have hc0:=hO1.cellAt 0 (by omega)
 have hz0:=hO1.frozenAt 0
 rw [cells8_at _ 0 (by simp;omega)] at hc0
 have hO2:=(hO1.stored 0 (.int .u8 128)).1
 have hB2:Below w.heap.size w (w1.setCell ⟨w.heap.size,0,none⟩ (.int .u8 128)):=K.set hB1 (Nat.le_refl _) _
 have e0:(cells8 (List.replicate (1+z) 0)).set 0 (.int .u8 128)=cells8 (128 :: List.replicate z 0):=by
  rw [Nat.add_comm 1 z,List.replicate_succ]
  rfl
 rw [e0] at hO2
 have HO:=hide hO2
 have HB:=hide hB2
 clear hO1 hg1 hB1 hO2 hB2 e0
 have h1z:(0:Int)<1+(z:Int):=by omega
 go_upto_region 5 with fail
 generalize w1.setCell ⟨w.heap.size,0,none⟩ (.int .u8 128)=X at HO HB ⊢
 clear hc0 hz0
 go_upto_region 6 with (go_at_call 82;with_reducible refine Calls.mono (HMU.out _) ?_;rintro e w' ⟨rfl,rfl⟩)
 have hsX:=HB.out.size
 go_wp2_with fail
 with_reducible refine Calls.mono (appendWord_any hi HO.out hsX (by omega)) ?_
 rintro e w2 ⟨v2,rfl,hO2,hb2⟩
 have HO2:=hide hO2
 have HB2:Hid (Below w.heap.size w w2):=HB.out.trans hb2
 have hs2:=HB2.out.size
 clear hO2 hb2 HO HB
 go_wp2_with fail
 with_reducible refine Calls.mono (appendWord_any lo HO2.out hs2 (by omega)) ?_
 rintro e w3 ⟨v3,rfl,hO3,hb3⟩
 have hB3:Below w.heap.size w w3:=HB2.out.trans hb3
 have hO4:w3.ownsRow w.heap.size 5 1 v3 (1+zs n+8) (cells8 (endP n 8)):=by
  rw [HWB.out.1,HWB.out.2] at hO3
  unfold endP
  rw [HZ.out,← List.replicate_append_replicate]
  rw [show 1+(z+8)+8=1+z+8+8 by omega]
  simpa using hO3
 clear hO3 hb3 HO2 HB2
 go_wp2_with fail
 go_ret
 exact ⟨_,rfl,hO4,hB3⟩
end Go.Proofs.YtjaahnlpnkcimaaDoor.Sx
namespace Go.Proofs.YtjaahnlpnkcimaaDoor.Sx
set_option maxRecDepth 100000
open Go.RowKit
def cat (f:Nat→Nat) (n:Nat) (g:Nat→Nat) (i:Nat):Nat:=if i<n then f i else g (i-n)
end Go.Proofs.YtjaahnlpnkcimaaDoor.Sx
namespace Go.Proofs.YtjaahnlpnkcimaaDoor.Sx
set_option maxRecDepth 100000
open Go.RowKit
theorem word_congr {p q:Nat→Nat} (t:Nat):∀ (i:Nat),i≤8→(∀ j,j<i→p (8*t+j)=q (8*t+j))→wordP p t i=wordP q t i
 | 0,_,_=>rfl
 | i+1,hi,h=>by simp only [wordP];rw [word_congr t i (by omega) (fun j hj=>h j (by omega)),h i (by omega)]
theorem sched_congr {m l:Nat→Wd} (h:∀ t,t<16→m t=l t):∀ (t:Nat),t<80→sched m t=sched l t:=fun t=>by
 induction t using Nat.strongRecOn with
 | ind t ih =>
  intro ht
  by_cases e:t<16
  ·rw [sched_low _ e,sched_low _ e,h t e]
  ·rw [sched_up _ e,sched_up _ e,ih (t-2) (by omega) (by omega),ih (t-7) (by omega) (by omega),ih (t-15) (by omega) (by omega),ih (t-16) (by omega) (by omega)]
theorem rnds_congr {k w v:Nat→Wd} (s:St):∀ (t:Nat),(∀ i,i<t→w i=v i)→rnds k w s t=rnds k v s t
 | 0,_=>rfl
 | t+1,h=>by simp only [rnds];rw [rnds_congr s t (fun i hi=>h i (by omega)),h t (by omega)]
theorem takeB_congr {p q:Nat→Nat} (s:St) (h:∀ i,i<128→p i=q i):takeB s p=takeB s q:=by
 unfold takeB
 rw [rnds_congr s 80 (fun i hi=>sched_congr (fun t ht=>word_congr t 8 (by omega) (fun j hj=>h _ (by omega))) i hi)]
theorem hs_congr {p q:Nat→Nat}:∀ (k:Nat),(∀ i,i<128*k→p i=q i)→hs p k=hs q k
 | 0,_=>rfl
 | k+1,h=>by
  simp only [hs]
  rw [hs_congr k (fun i hi=>h i (by omega)),takeB_congr (q:=fun i=>q (128*k+i)) _ (fun i hi=>h _ (by omega))]
theorem cat_cat (f g:Nat→Nat) (n k:Nat):cat (cat f n g) (n+k) (fun i=>g (k+i))=cat f n g:=by
 funext i
 unfold cat
 by_cases h1:i<n+k
 ·rw [if_pos h1]
 ·rw [if_neg h1,if_neg (by omega)]
  show g (k+(i-(n+k)))=_
  congr 1
  omega
def hA (f:Nat→Nat) (n:Nat):Array Value:=(ab (hByte (hashS f n)) 64).toArray
end Go.Proofs.YtjaahnlpnkcimaaDoor.Sx
namespace Go.Proofs.YtjaahnlpnkcimaaDoor.Sx
set_option maxRecDepth 100000
open Go.RowKit
theorem grown_of {w w':World} (h:Below w.heap.size w w') (r:Option Nat):w.grownBy w' r:=⟨h.os,h.tape,h.output,h.size,fun k hk _=>h.block k hk⟩
theorem grown_trans {w w1 w2:World} {r:Option Nat} (h:w.grownBy w1 r) (k:w1.grownBy w2 r):w.grownBy w2 r :=
 ⟨k.os.trans h.os,k.tape.trans h.tape,k.output.trans h.output,Nat.le_trans h.size k.size,fun i hi hn=>(k.block i (Nat.lt_of_lt_of_le hi h.size) hn).trans (h.block i hi hn)⟩
theorem grown_set (w:World) (b o:Nat) (u:Value):w.grownBy (w.setCell ⟨b,o,none⟩ u) (some b) :=
 ⟨rfl,rfl,rfl,by simp [World.setCell],fun k _ hn=>Below.heap_setCell _ _ _ _ (fun e=>hn (by rw [e]))⟩
theorem grown_sets (b:Nat):∀ (vs:List Value) (o:Nat) (w:World),w.grownBy (w.setCells b o vs) (some b)
 | [],_,w=>World.grownBy.refl _ _
 | v :: r,o,w=>by rw [World.setCells];exact grown_trans (grown_set w b o v) (grown_sets b r (o+1) _)
end Go.Proofs.YtjaahnlpnkcimaaDoor.Sx
namespace Go.Proofs.YtjaahnlpnkcimaaDoor.Sx
set_option maxRecDepth 100000
open Go.RowKit
theorem lt_of_cell {w:World} {p:Addr} {v:Value} (h:w.cell? p=some v):p.block<w.heap.size:=World.block_lt_of_cell? w p h
theorem Tab.kept {W w1:World} {r:Nat} (h:Tab W) (hg:W.grownBy w1 (some r)) (hr:6≤r):Tab w1 :=
 ⟨fun i hi=>hg.cell (h.f i hi) (by simp;omega),fun i hi=>hg.cell (h.k i hi) (by simp;omega)⟩
theorem Rd.kept {W w1:World} {b o n r:Nat} {f:Nat→Int} (h:Rd W b o n f) (hg:W.grownBy w1 (some r)) (hr:b≠r):Rd w1 b o n f :=
 ⟨fun i hi=>hg.cell (h.c i hi) (by simpa using hr)⟩
structure DigR (w:World) (b:Nat) (s:St) (r:Nat→Nat) (n:Nat):Prop where
 lt:b<w.heap.size
 st:∀ i,i<8→w.cell? ⟨b,i,none⟩=some (.int .u64 (wn (s.w i)))
 rs:∀ i,i<128→w.cell? ⟨b,8+i,none⟩=some (.int .u8 ((r i:Nat):Int))
 sz:w.cell? ⟨b,136,none⟩=some (.int .u64 (n:Int))
 z:∀ i,i<137→w.frozen? ⟨b,i,none⟩=false
theorem DigR.keep {W w1:World} {b n:Nat} {s:St} {r:Nat→Nat} (h:DigR W b s r n) (hb:Below W.heap.size W w1):DigR w1 b s r n :=
 ⟨Nat.lt_of_lt_of_le h.lt hb.size,fun i hi=>later hb (h.st i hi),fun i hi=>later hb (h.rs i hi),later hb h.sz,fun i hi=>(hb.frozen (p:=⟨b,i,none⟩) h.lt).trans (h.z i hi)⟩
theorem DigR.there {w:World} {b n:Nat} {s:St} {r:Nat→Nat} (h:DigR w b s r n) (o m:Nat) (hm:o+m≤137):w.there b o m:=fun j hj=>by
 refine ⟨?_,h.z (o+j) (by omega)⟩
 rcases (show o+j<8∨(8≤o+j∧o+j<136)∨o+j=136 by omega) with e | e | e
 ·rw [h.st _ e];rfl
 ·have:=h.rs (o+j-8) (by omega)
  rw [show 8+(o+j-8)=o+j by omega] at this
  rw [this];rfl
 ·rw [e,h.sz];rfl
theorem DigR.rangeSt {w:World} {b n:Nat} {s:St} {r:Nat→Nat} (h:DigR w b s r n):w.rangeAt b 0 (aw s.w 8):=fun j v hv=>by
 have hj:j<8:=by
  rcases Nat.lt_or_ge j 8 with h' | h'
  ·exact h'
  ·rw [List.getElem?_eq_none (by rw [aw_len];exact h')] at hv;cases hv
 rw [aw_at _ hj] at hv
 rw [Nat.zero_add,h.st j hj];exact hv
theorem DigR.rangeRs {w:World} {b n:Nat} {s:St} {r:Nat→Nat} (h:DigR w b s r n):w.rangeAt b 8 (ab r 128):=fun j v hv=>by
 have hj:j<128:=by
  rcases Nat.lt_or_ge j 128 with h' | h'
  ·exact h'
  ·rw [List.getElem?_eq_none (by rw [ab_len];exact h')] at hv;cases hv
 rw [ab_at _ hj] at hv
 rw [h.rs j hj];exact hv
def dg (s:St) (r:Nat→Nat) (n:Nat):List Value:=aw s.w 8++(ab r 128++[.int .u64 (n:Int)])
theorem dg_len (s:St) (r:Nat→Nat) (n:Nat):(dg s r n).length=137:=by simp [dg,aw_len,ab_len]
theorem dg_one (s:St) (r:Nat→Nat) (n:Nat):∀ v ∈ dg s r n,v.oneCell'=true:=by
 intro v hv
 simp only [dg,List.mem_append,List.mem_singleton] at hv
 rcases hv with h | h | rfl
 ·exact aw_one _ _ v h
 ·exact ab_one _ _ v h
 ·rfl
theorem dg_st (s:St) (r:Nat→Nat) (n:Nat) {i:Nat} (h:i<8):(dg s r n)[i]?=some (.int .u64 (wn (s.w i))):=by
 rw [dg,List.getElem?_append_left (by rw [aw_len];exact h),aw_at _ h]
theorem dg_rs (s:St) (r:Nat→Nat) (n:Nat) {i:Nat} (h:i<128):(dg s r n)[8+i]?=some (.int .u8 ((r i:Nat):Int)):=by
 rw [dg,List.getElem?_append_right (by rw [aw_len];omega),aw_len,List.getElem?_append_left (by rw [ab_len];omega),show 8+i-8=i by omega,ab_at _ h]
theorem dg_sz (s:St) (r:Nat→Nat) (n:Nat):(dg s r n)[136]?=some (.int .u64 (n:Int)):=by
 rw [dg,List.getElem?_append_right (by rw [aw_len];omega),aw_len,List.getElem?_append_right (by rw [ab_len];omega),ab_len];rfl
theorem DigR.of_range {w:World} {b n:Nat} {s:St} {r:Nat→Nat} (hl:b<w.heap.size) (h:w.rangeAt b 0 (dg s r n)) (hz:∀ i,i<137→w.frozen? ⟨b,i,none⟩=false):DigR w b s r n :=
 ⟨hl,fun i hi=>by have:=h i _ (dg_st s r n hi);rwa [Nat.zero_add] at this,fun i hi=>by have:=h _ _ (dg_rs s r n hi);rwa [Nat.zero_add] at this,by have:=h _ _ (dg_sz s r n);rwa [Nat.zero_add] at this,hz⟩
theorem DigR.made (w:World) (t:TypeId) (s:St) (r:Nat→Nat) (n:Nat) (cs:Array Value) (h:cs=(dg s r n).toArray):DigR (w.alloc (.cells cs t)) w.heap.size s r n:=by
 subst h
 refine DigR.of_range (by simp) (fun j v hv=>?_) (fun i _=>frozen_of_row _ _ _ _ _ (heap_alloc_new w _))
 rw [cell_of_row _ _ _ _ _ _ (heap_alloc_new w _),Nat.zero_add]
 simpa using hv
theorem DigR.state {w:World} {b n:Nat} {s:St} {r:Nat→Nat} (h:DigR w b s r n) (s':St):DigR (w.setCells b 0 (aw s'.w 8)) b s' r n:=by
 have hr:=World.rangeAt_setCells_same w b 0 (aw s'.w 8) (by rw [aw_len];exact h.there 0 8 (by omega))
 refine ⟨by rw [size_setCells];exact h.lt,fun i hi=>?_,fun i hi=>?_,?_,fun i hi=>by rw [World.frozen?_setCells];exact h.z i hi⟩
 ·have:=hr i _ (aw_at _ hi);rwa [Nat.zero_add] at this
 ·rw [World.cell?_setCells_out b _ 0 w _ (fun _ _=>Or.inr (by rw [aw_len];simp only;omega))];exact h.rs i hi
 ·rw [World.cell?_setCells_out b _ 0 w _ (fun _ _=>Or.inr (by rw [aw_len];simp only;omega))];exact h.sz
theorem DigR.size {w:World} {b n:Nat} {s:St} {r:Nat→Nat} (h:DigR w b s r n) (m:Nat):DigR (w.setCell ⟨b,136,none⟩ (.int .u64 (m:Int))) b s r m:=by
 refine ⟨by simpa using h.lt,fun i hi=>?_,fun i hi=>?_,World.cell?_setCell_same _ _ _ h.sz,fun i hi=>by rw [World.frozen?_setCell];exact h.z i hi⟩
 ·rw [World.cell?_setCell_other _ _ _ _ (by simp only [ne_eq,Addr.mk.injEq,not_and];omega)];exact h.st i hi
 ·rw [World.cell?_setCell_other _ _ _ _ (by simp only [ne_eq,Addr.mk.injEq,not_and];omega)];exact h.rs i hi
def put (r:Nat→Nat) (q k:Nat) (g:Nat→Nat) (i:Nat):Nat:=if q≤i∧i<q+k then g (i-q) else r i
theorem DigR.rest {w:World} {b n:Nat} {s:St} {r:Nat→Nat} (h:DigR w b s r n) (q k:Nat) (hk:q+k≤128) (g:Nat→Nat):DigR (w.setCells b (8+q) (ab g k)) b s (put r q k g) n:=by
 have hr:=World.rangeAt_setCells_same w b (8+q) (ab g k) (by rw [ab_len];exact h.there (8+q) k (by omega))
 refine ⟨by rw [size_setCells];exact h.lt,fun i hi=>?_,fun i hi=>?_,?_,fun i hi=>by rw [World.frozen?_setCells];exact h.z i hi⟩
 ·rw [World.cell?_setCells_out b _ (8+q) w _ (fun _ _=>Or.inl (by simp only;omega))];exact h.st i hi
 ·unfold put
  by_cases e:q≤i∧i<q+k
  ·rw [if_pos e]
   have:=hr (i-q) _ (ab_at g (by omega))
   rwa [show 8+q+(i-q)=8+i by omega] at this
  ·rw [if_neg e,World.cell?_setCells_out b _ (8+q) w _ (fun _ _=>by rw [ab_len];simp only;omega)];exact h.rs i hi
 ·rw [World.cell?_setCells_out b _ (8+q) w _ (fun _ _=>by rw [ab_len];simp only;omega)];exact h.sz
structure DigS (w:World) (b:Nat) (f:Nat→Nat) (n:Nat) (s:St) (r:Nat→Nat):Prop where
 d:DigR w b s r n
 st:s=hs f (n / 128)
 b:∀ i,r i<256
 rs:∀ i,i<n % 128→r i=f (n / 128*128+i)
def Dig (w:World) (b:Nat) (f:Nat→Nat) (n:Nat):Prop:=∃ s r,DigR w b s r n∧(s=hs f (n / 128))∧(∀ i,r i<256)∧(∀ i,i<n % 128→r i=f (n / 128*128+i))
theorem Dig.keep {W w1:World} {b n:Nat} {f:Nat→Nat} (h:Dig W b f n) (hb:Below W.heap.size W w1):Dig w1 b f n:=by
 obtain ⟨s,r,h1,h2⟩:=h
 exact ⟨s,r,h1.keep hb,h2⟩
theorem put_part {f g r:Nat→Nat} {n m:Nat} (h:n % 128+m<128) (hr:∀ i,i<n % 128→r i=f (n / 128*128+i)) :
  (n+m) / 128=n / 128∧hs (cat f n g) ((n+m) / 128)=hs f (n / 128)∧∀ i,i<(n+m) % 128→put r (n % 128) m g i=cat f n g ((n+m) / 128*128+i):=by
 have e:(n+m) / 128=n / 128:=by omega
 refine ⟨e,?_,fun i hi=>?_⟩
 ·rw [e];exact hs_congr _ (fun i hi=>by unfold cat;rw [if_pos (by omega)])
 ·rw [e]
  unfold put cat
  by_cases h1:n % 128≤i
  ·rw [if_pos (by omega),if_neg (by omega)]
   congr 1
   omega
  ·rw [if_neg (by omega),if_pos (by omega)]
   exact hr i (by omega)
theorem put_full {f g r:Nat→Nat} {n m:Nat} (h:n % 128+m=128) (hr:∀ i,i<n % 128→r i=f (n / 128*128+i)) :
  (n+m) % 128=0∧takeB (hs f (n / 128)) (put r (n % 128) m g)=hs (cat f n g) ((n+m) / 128):=by
 have e:(n+m) / 128=n / 128+1:=by omega
 refine ⟨by omega,?_⟩
 rw [e]
 simp only [hs]
 rw [hs_congr (p:=cat f n g) (q:=f) (n / 128) (fun i hi=>by unfold cat;rw [if_pos (by omega)])]
 refine takeB_congr _ (fun i hi=>?_)
 unfold put cat
 by_cases h1:n % 128≤i
 ·rw [if_pos (by omega),if_neg (by omega)]
  congr 1
  omega
 ·rw [if_neg (by omega),if_pos (by omega),hr i (by omega)]
  congr 1
  omega
theorem put_lt {r g:Nat→Nat} (hr:∀ i,r i<256) (hg:∀ i,g i<256) (q k i:Nat):put r q k g i<256:=by
 unfold put
 split
 ·exact hg _
 ·exact hr _
theorem digs_part {W Y:World} {b n j L q N:Nat} {f g r:Nat→Nat} {s:St} (hD:DigS W b (cat f n g) N s r) (hN:N=n+j) (hq:q=N % 128) (hfit:q+L<128) (hg:∀ i,g i<256) (hY:DigR Y b s (put r q L (fun i=>g (j+i))) (N+L)) :
  DigS Y b (cat f n g) (n+(j+L)) s (put r q L (fun i=>g (j+i))):=by
 subst hN hq
 obtain ⟨_,p2,p3⟩:=put_part (f:=cat f n g) (g:=fun i=>g (j+i)) (n:=n+j) (m:=L) hfit hD.rs
 rw [cat_cat] at p2 p3
 rw [show n+(j+L)=n+j+L by omega]
 exact ⟨hY,by rw [p2];exact hD.st,put_lt hD.b (fun i=>hg _) _ _,p3⟩
theorem digs_full {W Y:World} {b n j L q N:Nat} {f g r:Nat→Nat} {s s2:St} (hD:DigS W b (cat f n g) N s r) (hN:N=n+j) (hq:q=N % 128) (hfit:q+L=128) (hg:∀ i,g i<256) (h2:s2=takeB s (put r q L (fun i=>g (j+i)))) (hY:DigR Y b s2 (put r q L (fun i=>g (j+i))) (N+L)) :
  DigS Y b (cat f n g) (n+(j+L)) s2 (put r q L (fun i=>g (j+i))):=by
 subst hN hq
 obtain ⟨p1,p2⟩:=put_full (f:=cat f n g) (g:=fun i=>g (j+i)) (n:=n+j) (m:=L) hfit hD.rs
 rw [cat_cat] at p2
 rw [show n+(j+L)=n+j+L by omega]
 exact ⟨hY,by rw [h2,← p2,hD.st],put_lt hD.b (fun i=>hg _) _ _,fun i hi=>by omega⟩
end Go.Proofs.YtjaahnlpnkcimaaDoor.Sx
namespace Go.Proofs.YtjaahnlpnkcimaaDoor.Sx
set_option maxRecDepth 100000
open Go.RowKit
attribute [local go_sem ↓] Go.wp_at_zero Go.wp_at_succ
theorem step_copy {W:World} {ops:Array Oper} {op:Oper} {a:Act} {K:Act→World→Prop} {Q:Exit→Act→World→Prop} {E:Prop} (hgd:op.guard=none) (d s:Operand)
  (ho:op.op=.call { callee:=.builtin .copy,args:=#[d,s],argTypes:=#[24,24] })
  {b o dLen dCap sLen sCap x y:Nat} (hd:a.eval d=.slice (some ⟨b,o,none⟩) dLen dCap) (hs:a.eval s=.slice (some ⟨x,y,none⟩) sLen sCap) (k:Nat) (hk:k=Nat.min sLen dLen) (g:Nat→Nat)
  (hsrc:Rd W x y k (fun i=>((g i:Nat):Int))) (ht:W.there b o k) (h:K (a.put op.dst (goInt k)) (W.setCells b o (ab g k))) :
  if Region.wanted op (yielded ops a.tmps)=true then Oper.wp Tryd.prog op a W K Q else E:=by
 have hw:Region.wanted op (yielded ops a.tmps)=true:=by simp [Region.wanted,hgd]
 rw [if_pos hw]
 have hr:=run_copy_cells (P:=Tryd.prog) W 24 24 op.type 5 b o dLen dCap ⟨x,y,none⟩ sLen sCap (ab g k) Tryd.underlying24 (by kernel_rfl) (by rw [ab_len];exact hk) (fun j v hv=>by
  have hj:j<k:=by
   rcases Nat.lt_or_ge j k with h' | h'
   ·exact h'
   ·rw [List.getElem?_eq_none (by rw [ab_len];exact h')] at hv;cases hv
  rw [ab_at g hj] at hv
  rw [Addr.add_mid,hsrc.c j hj];exact hv) (fun j hj=>(ht j (by rw [ab_len] at hj;exact hj)).1) (fun j hj=>(ht j (by rw [ab_len] at hj;exact hj)).2) (ab_one _ _)
 rw [ab_len] at hr
 unfold Oper.wp execOp
 simp only [ho,resolve,invoke,builtin,Sem.run_bind,Sem.run_pure,Result.andThen_ok,List.map_toArray,List.map_cons,List.map_nil,hd,hs,hr]
 exact h
theorem run_slice_rest {b q:Nat} (hq:q<128) (W:World):(Instr.sliceAt 86 (.pointer (some ⟨b,8,none⟩)) (some (.int .u64 (q:Int))) none none).run Tryd.prog W=.ok (.slice (some ⟨b,8+q,none⟩) (128-q) (128-q)) W:=by
 have ha:Tryd.prog.arrayLen 86=128:=by kernel_rfl
 have hu:Tryd.prog.underlying 86=some (.array (Tryd.prog.arrayLen 86) (Tryd.prog.elem 86)):=by kernel_rfl
 rw [run_sliceAt_array_l W 86 ⟨b,8,none⟩ hu .u64 (q:Int) (by omega) (by rw [ha];omega)]
 have he:Tryd.prog.elem 86=5:=by kernel_rfl
 have h1:(sizeOf 5).run Tryd.prog W=.ok 1 W:=by
  obtain ⟨i,hi⟩:=Option.isSome_iff_exists.1 (show (Tryd.prog.info? 5).isSome=true by kernel_rfl)
  have:(Tryd.prog.info? 5).map (·.size)=some 1:=by kernel_rfl
  rw [hi] at this
  simp [sizeOf,typeInfo,hi]
  simpa using this
 rw [he,h1,ha]
 simp only [Result.andThen_ok,slicedAt,Int.toNat_natCast,if_neg (show ¬ 128=q by omega),Nat.mul_one,Addr.add_mid]
theorem run_cut {bb o L c k:Nat} (hk:k≤L) (W:World):(Instr.sliceAt 24 (.slice (some ⟨bb,o,none⟩) L c) (some (.int .i64 (k:Int))) none none).run Tryd.prog W=.ok (.slice (some (if c=k then ⟨bb,o,none⟩ else ⟨bb,o+k,none⟩)) (L-k) (c-k)) W:=by
 have hu:Tryd.prog.underlying 24=some (.slice (Tryd.prog.elem 24)):=by kernel_rfl
 have he:Tryd.prog.elem 24=5:=by kernel_rfl
 have h1:(sizeOf 5).run Tryd.prog W=.ok 1 W:=by
  obtain ⟨i,hi⟩:=Option.isSome_iff_exists.1 (show (Tryd.prog.info? 5).isSome=true by kernel_rfl)
  have:(Tryd.prog.info? 5).map (·.size)=some 1:=by kernel_rfl
  rw [hi] at this
  simp [sizeOf,typeInfo,hi]
  simpa using this
 rw [run_sliceAt_slice W 24 _ _ _ _ hu,run_slice_l W 24 _ L c hu .i64 (k:Int) (by omega) (by omega),he,h1]
 simp only [Result.andThen_ok,sliced,Int.toNat_natCast,Nat.mul_one,Option.map_some,Addr.add_mid]
 congr 2
 split <;> rfl
theorem wpList_cut {P:Program} {w:World} {ops:Array Oper} {rest:List Oper} {op:Oper} {a:Act} {Q:Exit→Act→World→Prop} (hgd:op.guard=none) (t:TypeId) (x l:Operand) (ho:op.op=.slice t x (some l) none none)
  (X Y v:Value) (hx:a.eval x=X) (hy:a.eval l=Y) (hr:(Instr.sliceAt t X (some Y) none none).run P w=.ok v w) (h:wpList P ops Q rest (a.put op.dst v) w):wpList P ops Q (op :: rest) a w:=by
 refine wpList_plain hgd fun K hK=>?_
 unfold Oper.wp execOp
 simp only [ho,Option.map,hx,hy,Sem.run_bind,Sem.run_pure,Result.andThen_ok,hr]
 exact hK _ _ h
theorem add_any {b n m c:Nat} {x:Option Addr} {f g:Nat→Nat} {w:World} (hT:Tab w) (h2:6≤b) (hG:BA w x m g) (hx:0<m→∀ p,x=some p→p.block≠b) (hmc:m≤c) (hc:c≤maxLen) (hD:Dig w b f n) (hnm:n+m≤900000) :
  Calls Tryd.prog 71 #[.pointer (some ⟨b,0,none⟩),.slice x m c] w fun e w'=>(∃ v,e=.returned v)∧Dig w' b (cat f n g) (n+m)∧w.grownBy w' (some b):=by
 have HT:=hide hT
 have HG:=hide hG
 have HX:=hide hx
 have HC:=hide hc
 obtain ⟨s1,r1,hR,hs,hrb,hrr⟩:=hD
 have HD:Hid (DigS w b f n s1 r1):=⟨hR,hs,hrb,hrr⟩
 have HW:Hid (w.grownBy w (some b)):=World.grownBy.refl _ _
 have HN:=hide hnm
 clear hT hG hx hc hR hs hrb hrr hnm
 go_enter Tryd.func71,Tryd.ntmps71
 go_wp2_with fail
 go_loopg [1] m (fun g' s1 wr=>∃ (j:Nat) (x':Option Addr) (c':Nat),g'=m-j∧j≤m∧s1=.slice x' (m-j) c'∧m-j≤c'∧c'≤maxLen∧(j<m→∃ bb o,x'=some ⟨bb,o,none⟩∧bb≠b∧Rd wr bb o (m-j) (fun i=>((g (j+i):Nat):Int)))∧(∃ s r,DigS wr b (cat f n g) (n+j) s r)∧w.grownBy wr (some b))
 case atStart =>
  refine ⟨0,x,c,by omega,by omega,rfl,by omega,HC.out,fun hm=>?_,⟨s1,r1,HD.out.d,?_,HD.out.b,fun i hi=>?_⟩,HW.out⟩
  ·rcases HG.out.at_ with h0 | ⟨bb,o,e,hr⟩
   ·omega
   ·refine ⟨bb,o,e,HX.out hm _ e,?_⟩
    have:=hr.kept HW.out (HX.out hm _ e)
    simpa using this
  ·rw [HD.out.st];exact hs_congr _ (fun i hi=>by unfold cat;rw [if_pos (by omega)])
  ·rw [HD.out.rs i hi];unfold cat;rw [if_pos (by omega)];rfl
 case round =>
  clear HD HW
  obtain ⟨j,x',c',rfl,hj,rfl,hc1,hc2,hsrc,⟨s1,r1,hD⟩,hg⟩:=hrel
  by_cases hlt:j<m
  ·obtain ⟨bb,o,rfl,hbb,hr⟩:=hsrc hlt
   obtain ⟨L,hL⟩:∃ L,L=m-j:=⟨_,rfl⟩
   obtain ⟨N,hN⟩:∃ N,N=n+j:=⟨_,rfl⟩
   obtain ⟨q,hq⟩:∃ q,q=N % 128:=⟨_,rfl⟩
   clear hsrc
   have hnm:=HN.out
   have HE:Hid (m=j+L∧N=n+j∧q=N % 128∧0<L∧L≤900000∧N≤900000∧N+L≤900000):=⟨by omega,hN,hq,by omega,by omega,by omega,by omega⟩
   clear hnm
   have hLn:0<L:=by omega
   rw [← hL] at hr hc1 ⊢
   rw [← hN] at hD
   have sz:=hD.d.sz
   have qi:(N:Int) % 128=(q:Int):=by omega
   have qt:(N:Int).tmod 128=(q:Int):=by rw [Int.tmod_eq_emod_of_nonneg (by omega)];omega
   have qb:(q:Int)<128:=by omega
   have qn:q<128:=by omega
   have hsl:=fun W=>run_slice_rest (b:=b) qn W
   have hL0:(0:Int)<(L:Int):=by omega
   have HD:=hide hD
   have HR:=hide hr
   have HGR:=hide hg
   have hbN:(N:Int)≤900000:=by have:=HE.out;omega
   have hbL:(L:Int)≤900000:=by have:=HE.out;omega
   have hlc:(L:Int)≤(c':Int):=by omega
   clear hD hr hg hL hN hq hj hlt hc1
   by_cases hfit:q+L<128
   ·have HF:=hide hfit
    clear hfit
    go_upto_region 1 with fail
    go_region_held3 (fun w'=>w'.cell? ⟨b,136,none⟩=some (.int .u64 (N:Int)))
     (first | (with_reducible assumption) | exact sz | exact h72)
     (first
     | (refine step_copy rfl _ _ rfl rfl rfl L (by have:=HF.out;show L=min L (128-q);omega) (fun i=>g (j+i)) (HR.out.keep (K.drew (Below.refl _ _))) ((World.there_drew _ _ _ _).2 (HD.out.d.there (8+q) L (by have:=HF.out;omega))) ?_;have h72:=((HD.out.d.keep (K.drew (Below.refl _ _))).rest q L (by have:=HF.out;omega) (fun i=>g (j+i))).sz))
    go_upto_region 2 with fail
    refine wp_world (fun X hX=>?_)
    have hDX:DigR X b s1 (put r1 q L (fun i=>g (j+i))) N:=by rw [hX];exact (HD.out.d.keep (K.drew (Below.refl _ _))).rest q L (by have:=HF.out;omega) _
    have HGX:Hid (wr.grownBy X (some b)):=by rw [hX];exact grown_trans (grown_of (K.drew (Below.refl _ _)) _) (grown_sets _ _ _ _)
    clear hX h72 sz hsl
    obtain ⟨M,hM⟩:∃ M,M=N+L:=⟨_,rfl⟩
    have HM:=hide hM
    have c72:=hDX.sz
    have z72:=hDX.z 136 (by omega)
    have m1:(N:Int)+(L:Int)=(M:Int):=by omega
    have m2:(M:Int)≤900000:=by have:=HE.out;omega
    have HDX:=hide hDX
    clear hM hDX
    go_upto_region 3 with fail
    refine wp_world (fun Y hY=>?_)
    have hDY:DigR Y b s1 (put r1 q L (fun i=>g (j+i))) M:=by rw [hY];exact HDX.out.size M
    have HGY:Hid (wr.grownBy Y (some b)):=by rw [hY];exact grown_trans HGX.out (grown_set _ _ _ _)
    have c72:=hDY.sz
    have HDY:=hide hDY
    obtain ⟨u,hu⟩:∃ u,u=q+L:=⟨_,rfl⟩
    have hFF:=HF.out
    have hEE:=HE.out
    have hMM:=HM.out
    have n1:(M:Int) % 128=(u:Int):=by omega
    have n2:(M:Int).tmod 128=(u:Int):=by rw [Int.tmod_eq_emod_of_nonneg (by omega)];omega
    have n3:((u:Int) == 0)=false:=beq_eq_false_iff_ne.2 (by omega)
    have n4:¬ u=0:=by omega
    clear hY hDY HDX HGX z72 hu hFF hEE hMM
    have HCT:=hide (fun W=>run_cut (bb:=bb) (o:=o) (L:=L) (c:=c') (k:=L) (by omega) W)
    obtain ⟨y,hy⟩:∃ y,y=some (if c'=L then (⟨bb,o,none⟩:Addr) else ⟨bb,o+L,none⟩):=⟨_,rfl⟩
    rw [← hy] at HCT
    clear hy
    go_wp2_with (refine wpList_cut rfl 24 _ _ rfl _ _ _ rfl rfl (HCT.out _) ?_)
    go_roundg (m-(j+L))
    case measure=>have:=HE.out;omega
    case rel =>
     have hEE:=HE.out
     have hFF:=HF.out
     have hMM:=HM.out
     refine ⟨j+L,y,c'-L,rfl,by omega,by rw [show m-(j+L)=0 by omega],by omega,by omega,fun h=>by omega,⟨s1,_,digs_part HD.out hEE.2.1 hEE.2.2.1 hFF HG.out.lt (by rw [← hMM];exact HDY.out)⟩,grown_trans HGR.out HGY.out⟩
   ·obtain ⟨k,hk⟩:∃ k,k=128-q:=⟨_,rfl⟩
    have HF:Hid (q+k=128∧k≤L∧0<k):=⟨by omega,by omega,by omega⟩
    have hke:128-q=k:=hk.symm
    have hki:(k:Int)≤128:=by omega
    have hkp:0<k:=by omega
    have hkl:(k:Int)≤(L:Int):=by omega
    clear hfit hk
    go_upto_region 1 with fail
    go_region_held3 (fun w'=>w'.cell? ⟨b,136,none⟩=some (.int .u64 (N:Int)))
     (first | (with_reducible assumption) | exact sz | exact h72)
     (first
     | (refine step_copy rfl _ _ rfl rfl rfl k (by have:=HF.out;show k=min L _;omega) (fun i=>g (j+i)) ((HR.out.first k HF.out.2.1).keep (K.drew (Below.refl _ _))) ((World.there_drew _ _ _ _).2 (HD.out.d.there (8+q) k (by have:=HF.out;omega))) ?_;have h72:=((HD.out.d.keep (K.drew (Below.refl _ _))).rest q k (by have:=HF.out;omega) (fun i=>g (j+i))).sz))
    go_upto_region 2 with fail
    refine wp_world (fun X hX=>?_)
    have hDX:DigR X b s1 (put r1 q k (fun i=>g (j+i))) N:=by rw [hX];exact (HD.out.d.keep (K.drew (Below.refl _ _))).rest q k (by have:=HF.out;omega) _
    have HGX:Hid (wr.grownBy X (some b)):=by rw [hX];exact grown_trans (grown_of (K.drew (Below.refl _ _)) _) (grown_sets _ _ _ _)
    clear hX h72 sz hsl
    obtain ⟨M,hM⟩:∃ M,M=N+k:=⟨_,rfl⟩
    have HM:=hide hM
    have c72:=hDX.sz
    have z72:=hDX.z 136 (by omega)
    have m1:(N:Int)+(k:Int)=(M:Int):=by omega
    have m2:(M:Int)≤900000:=by have:=HE.out;omega
    have HDX:=hide hDX
    clear hM hDX
    go_upto_region 3 with fail
    refine wp_world (fun Y hY=>?_)
    have hDY:DigR Y b s1 (put r1 q k (fun i=>g (j+i))) M:=by rw [hY];exact HDX.out.size M
    have HGY:Hid (wr.grownBy Y (some b)):=by rw [hY];exact grown_trans HGX.out (grown_set _ _ _ _)
    have c72:=hDY.sz
    have hFF:=HF.out
    have hEE:=HE.out
    have hMM:=HM.out
    have n1:(M:Int) % 128=0:=by omega
    have n2:(M:Int).tmod 128=0:=by rw [Int.tmod_eq_emod_of_nonneg (by omega)];omega
    clear hY HDX HGX z72 hFF hEE hMM
    obtain ⟨r2,hr2⟩:∃ r2,r2=put r1 q k (fun i=>g (j+i)):=⟨_,rfl⟩
    have HR2:=hide hr2
    rw [← hr2] at hDY
    obtain ⟨s2,hs2⟩:∃ s2,s2=takeB s1 r2:=⟨_,rfl⟩
    have HS2:=hide hs2
    have HTI:Hid (∀ W:World,Tab W→Calls Tryd.prog 81 #[.agg (aw s1.w 8).toArray,.agg (ab r2 128).toArray] W fun e w'=>e=.returned (.agg (aw s2.w 8).toArray)∧Below W.heap.size W w'):=fun W hT=>by
     rw [hs2]
     exact takeIn_any (fun i=>by rw [hr2];exact put_lt HD.out.b (fun i=>HG.out.lt _) _ _ i) s1 hT
    have HTY:Hid (Tab Y):=(HT.out.kept (grown_trans HGR.out HGY.out) h2)
    have HDY:=hide hDY
    clear hr2 hs2 hDY
    go_upto_region 4 with fail
    go_cut [4] (fun s4 wc=>s4=.int .i64 (k:Int)∧DigR wc b s2 r2 M∧Y.grownBy wc (some b))
    case first =>
     have HTd:=hide (HTY.out.keep (K.drew (Below.refl _ _)))
     have HDd:=hide (HDY.out.keep (K.drew (Below.refl _ _)))
     refine wp_region_noPanic ?_
     refine wp_region_held_drew (S:=fun _=>True) (by kernel_rfl) trivial (fun hHeld=>?_)
     refine wpAnyH_take (i:=0) (v:=.pointer (some ⟨b,0,none⟩)) rfl (by kernel_rfl) (by kernel_rfl) (by kernel_rfl) (fun _ _ _ h=>h) (Or.inl ⟨by rfl,fun w' _=>by go_simp⟩) trivial ?_
     simp only [Act.put,List.getElem_toArray,List.getElem_cons_zero,List.setIfInBounds_toArray,List.set_cons_zero,List.set_cons_succ]
     refine wpAnyH_take (i:=1) (v:=.pointer (some ⟨b,0,none⟩)) rfl (by kernel_rfl) (by kernel_rfl) (by kernel_rfl) (fun _ _ _ h=>h) (Or.inl ⟨by rfl,fun w' _=>by go_simp⟩) trivial ?_
     simp only [Act.put,List.getElem_toArray,List.getElem_cons_zero,List.getElem_cons_succ,List.setIfInBounds_toArray,List.set_cons_zero,List.set_cons_succ]
     refine wpAnyH_take (i:=2) (v:=.pointer (some ⟨b,0,none⟩)) rfl (by kernel_rfl) (by kernel_rfl) (by kernel_rfl) (fun _ _ _ h=>h) (Or.inl ⟨by rfl,fun w' _=>by go_simp⟩) trivial ?_
     simp only [Act.put,List.getElem_toArray,List.getElem_cons_zero,List.getElem_cons_succ,List.setIfInBounds_toArray,List.set_cons_zero,List.set_cons_succ]
     refine wpAnyH_take (i:=3) (v:=.pointer (some ⟨b,0,none⟩)) rfl (by kernel_rfl) (by kernel_rfl) (by kernel_rfl) (fun _ _ _ h=>h) (Or.inl ⟨by rfl,fun w' _=>by go_simp⟩) trivial ?_
     simp only [Act.put,List.getElem_toArray,List.getElem_cons_zero,List.getElem_cons_succ,List.setIfInBounds_toArray,List.set_cons_zero,List.set_cons_succ]
     refine wpAnyH_take (i:=5) (v:=.pointer (some ⟨b,0,none⟩)) rfl (by kernel_rfl) (by kernel_rfl) (by kernel_rfl) (fun _ _ _ h=>h) (Or.inl ⟨by rfl,fun w' _=>by go_simp⟩) trivial ?_
     simp only [Act.put,List.getElem_toArray,List.getElem_cons_zero,List.getElem_cons_succ,List.setIfInBounds_toArray,List.set_cons_zero,List.set_cons_succ]
     refine wpAnyH_take (i:=6) (v:=.pointer (some ⟨b,0,none⟩)) rfl (by kernel_rfl) (by kernel_rfl) (by kernel_rfl) (fun _ _ _ h=>h) (Or.inl ⟨by rfl,fun w' _=>by go_simp⟩) trivial ?_
     simp only [Act.put,List.getElem_toArray,List.getElem_cons_zero,List.getElem_cons_succ,List.setIfInBounds_toArray,List.set_cons_zero,List.set_cons_succ]
     refine wpAnyH_take (i:=7) (v:=.pointer (some ⟨b,8,none⟩)) rfl (by kernel_rfl) (by kernel_rfl) (by kernel_rfl) (fun _ _ _ h=>h) (Or.inl ⟨by rfl,fun w' _=>by go_simp⟩) trivial ?_
     simp only [Act.put,List.getElem_toArray,List.getElem_cons_zero,List.getElem_cons_succ,List.setIfInBounds_toArray,List.set_cons_zero,List.set_cons_succ]
     refine wpAnyH_ready (rs:=[4,8]) (by kernel_rfl) (by simp) ?_
     refine AllReadyH.cons rfl (fun K hK=>?_) (AllReadyH.cons rfl (fun K hK=>?_) AllReadyH.nil)
     ·rw [if_pos (by rfl)]
      refine wp_load_mid 84 _ rfl b 0 rfl (aw s1.w 8) _ HDd.out.rangeSt Tryd.underlying84 rfl (ilSt _) ?_
      refine hK.out _ _ trivial (fun _=>?_)
      clear hK K
      simp only [Act.put,List.getElem_toArray,List.getElem_cons_zero,List.getElem_cons_succ,List.setIfInBounds_toArray,List.set_cons_zero,List.set_cons_succ]
      refine wpAnyH_ready (rs:=[8]) (by kernel_rfl) (by simp) ?_
      refine AllReadyH.cons rfl (fun K hK=>?_) AllReadyH.nil
      rw [if_pos (by rfl)]
      refine wp_load_mid 86 _ rfl b 8 rfl (ab r2 128) _ HDd.out.rangeRs Tryd.underlying86 rfl (ilBlk _) ?_
      refine hK.out _ _ trivial (fun _=>?_)
      clear hK K
      simp only [Act.put,List.getElem_toArray,List.getElem_cons_zero,List.getElem_cons_succ,List.setIfInBounds_toArray,List.set_cons_zero,List.set_cons_succ]
      refine wpAnyH_ready (rs:=[9]) (by kernel_rfl) (by simp) ?_
      refine AllReadyH.cons rfl (fun K hK=>?_) AllReadyH.nil
      go_simp
      with_reducible refine Calls.mono (HTI.out _ HTd.out) ?_
      rintro e w1 ⟨rfl,hkk⟩
      dsimp only
      refine hK.out _ _ trivial (fun _=>?_)
      clear hK K
      refine wpAnyH_take (i:=10) (v:=.pointer (some ⟨b,0,none⟩)) rfl (by kernel_rfl) (by kernel_rfl) (by kernel_rfl) (fun _ _ _ h=>h) (Or.inl ⟨by rfl,fun w' _=>by go_simp⟩) trivial ?_
      simp only [Act.put,List.getElem_toArray,List.getElem_cons_zero,List.getElem_cons_succ,List.setIfInBounds_toArray,List.set_cons_zero,List.set_cons_succ]
      refine wpAnyH_take (i:=11) (v:=.pointer (some ⟨b,0,none⟩)) rfl (by kernel_rfl) (by kernel_rfl) (by kernel_rfl) (fun _ _ _ h=>h) (Or.inl ⟨by rfl,fun w' _=>by go_simp⟩) trivial ?_
      simp only [Act.put,List.getElem_toArray,List.getElem_cons_zero,List.getElem_cons_succ,List.setIfInBounds_toArray,List.set_cons_zero,List.set_cons_succ]
      refine wpAnyH_ready (rs:=[12]) (by kernel_rfl) (by simp) ?_
      refine AllReadyH.cons rfl (fun K hK=>?_) AllReadyH.nil
      rw [if_pos (by rfl)]
      have hDw:=HDd.out.keep hkk
      refine wp_store_mid 84 _ _ rfl b 0 (aw s2.w 8).toArray rfl rfl (by rw [size8];exact hDw.there 0 8 (by omega)) (inSt _) (all8 _) ?_
      refine hK.out _ _ trivial (fun _=>?_)
      clear hK K
      refine wpAnyH_done (by kernel_rfl) ?_ _
      refine NoPanic.normal ?_
      have hDz:=hDw.state s2
      have hGz:Y.grownBy (w1.setCells b 0 (aw s2.w 8).toArray.toList) (some b):=grown_trans (grown_of (K.drew (Below.refl _ _)) _) (grown_trans (grown_of hkk _) (grown_sets _ _ _ _))
      go_wp2_with fail
      go_meet
      case rel=>exact ⟨rfl,hDz,hGz⟩
     ·rw [if_pos (by rfl)]
      refine wp_load_mid 86 _ rfl b 8 rfl (ab r2 128) _ HDd.out.rangeRs Tryd.underlying86 rfl (ilBlk _) ?_
      refine hK.out _ _ trivial (fun _=>?_)
      clear hK K
      simp only [Act.put,List.getElem_toArray,List.getElem_cons_zero,List.getElem_cons_succ,List.setIfInBounds_toArray,List.set_cons_zero,List.set_cons_succ]
      refine wpAnyH_ready (rs:=[4]) (by kernel_rfl) (by simp) ?_
      refine AllReadyH.cons rfl (fun K hK=>?_) AllReadyH.nil
      rw [if_pos (by rfl)]
      refine wp_load_mid 84 _ rfl b 0 rfl (aw s1.w 8) _ HDd.out.rangeSt Tryd.underlying84 rfl (ilSt _) ?_
      refine hK.out _ _ trivial (fun _=>?_)
      clear hK K
      simp only [Act.put,List.getElem_toArray,List.getElem_cons_zero,List.getElem_cons_succ,List.setIfInBounds_toArray,List.set_cons_zero,List.set_cons_succ]
      refine wpAnyH_ready (rs:=[9]) (by kernel_rfl) (by simp) ?_
      refine AllReadyH.cons rfl (fun K hK=>?_) AllReadyH.nil
      go_simp
      with_reducible refine Calls.mono (HTI.out _ HTd.out) ?_
      rintro e w1 ⟨rfl,hkk⟩
      dsimp only
      refine hK.out _ _ trivial (fun _=>?_)
      clear hK K
      refine wpAnyH_take (i:=10) (v:=.pointer (some ⟨b,0,none⟩)) rfl (by kernel_rfl) (by kernel_rfl) (by kernel_rfl) (fun _ _ _ h=>h) (Or.inl ⟨by rfl,fun w' _=>by go_simp⟩) trivial ?_
      simp only [Act.put,List.getElem_toArray,List.getElem_cons_zero,List.getElem_cons_succ,List.setIfInBounds_toArray,List.set_cons_zero,List.set_cons_succ]
      refine wpAnyH_take (i:=11) (v:=.pointer (some ⟨b,0,none⟩)) rfl (by kernel_rfl) (by kernel_rfl) (by kernel_rfl) (fun _ _ _ h=>h) (Or.inl ⟨by rfl,fun w' _=>by go_simp⟩) trivial ?_
      simp only [Act.put,List.getElem_toArray,List.getElem_cons_zero,List.getElem_cons_succ,List.setIfInBounds_toArray,List.set_cons_zero,List.set_cons_succ]
      refine wpAnyH_ready (rs:=[12]) (by kernel_rfl) (by simp) ?_
      refine AllReadyH.cons rfl (fun K hK=>?_) AllReadyH.nil
      rw [if_pos (by rfl)]
      have hDw:=HDd.out.keep hkk
      refine wp_store_mid 84 _ _ rfl b 0 (aw s2.w 8).toArray rfl rfl (by rw [size8];exact hDw.there 0 8 (by omega)) (inSt _) (all8 _) ?_
      refine hK.out _ _ trivial (fun _=>?_)
      clear hK K
      refine wpAnyH_done (by kernel_rfl) ?_ _
      refine NoPanic.normal ?_
      have hDz:=hDw.state s2
      have hGz:Y.grownBy (w1.setCells b 0 (aw s2.w 8).toArray.toList) (some b):=grown_trans (grown_of (K.drew (Below.refl _ _)) _) (grown_trans (grown_of hkk _) (grown_sets _ _ _ _))
      go_wp2_with fail
      go_meet
      case rel=>exact ⟨rfl,hDz,hGz⟩
    case rest =>
     obtain ⟨rfl,hDc,hGc⟩:=hcut
     have HDc:=hide hDc
     have HGc:=hide (grown_trans HGR.out (grown_trans HGY.out hGc))
     have HGd:=hide (grown_trans HGY.out hGc)
     clear hDc hGc HTI HTY HDY
     have HCT:=hide (fun W=>run_cut (bb:=bb) (o:=o) (L:=L) (c:=c') (k:=k) (by have:=HF.out;omega) W)
     obtain ⟨y,hy⟩:∃ y,y=some (if c'=k then (⟨bb,o,none⟩:Addr) else ⟨bb,o+k,none⟩):=⟨_,rfl⟩
     rw [← hy] at HCT
     have HY:=hide hy
     clear hy
     go_wp2_with (refine wpList_cut rfl 24 _ _ rfl _ _ _ rfl rfl (HCT.out _) ?_)
     go_roundg (m-(j+k))
     case measure=>have:=HE.out;have:=HF.out;omega
     case rel =>
      have hEE:=HE.out
      have hFF:=HF.out
      have hMM:=HM.out
      refine ⟨j+k,y,c'-k,rfl,by omega,by rw [show m-(j+k)=L-k by omega],by omega,by omega,fun h=>?_,⟨s2,_,digs_full HD.out hEE.2.1 hEE.2.2.1 hFF.1 HG.out.lt (by rw [HS2.out,HR2.out]) (by rw [← hMM,← HR2.out];exact HDc.out)⟩,HGc.out⟩
      have hc:¬ c'=k:=by omega
      refine ⟨bb,o+k,by rw [HY.out,if_neg hc],hbb,?_⟩
      have hr:=(HR.out.kept HGd.out hbb).part k (m-(j+k)) (by omega)
      exact hr.congr (fun i _=>by show ((g (j+(k+i)):Nat):Int)=_;rw [Nat.add_assoc])
  ·obtain rfl:m=j:=by omega
   have HD:=hide hD
   have HGR:=hide hg
   have hz:m-m=0:=by omega
   rw [hz]
   clear hD hg hsrc hlt hj hz
   go_wp2_with fail
   exact bodyPost_end (by simp [results,Tryd.results71];rfl) rfl ⟨⟨_,rfl⟩,⟨s1,r1,HD.out.d,HD.out.st,HD.out.b,HD.out.rs⟩,HGR.out⟩
end Go.Proofs.YtjaahnlpnkcimaaDoor.Sx
namespace Go.Proofs.YtjaahnlpnkcimaaDoor.Sx
set_option maxRecDepth 100000
open Go.RowKit
attribute [local go_sem ↓] Go.wp_at_zero Go.wp_at_succ
def st0:St:=⟨0,0,0,0,0,0,0,0⟩
theorem zeroDig (w:World):(zeroValue 88).run Tryd.prog w=.ok (.agg (dg st0 (fun _=>0) 0).toArray) w :=
 (zero_of_info (P:=Tryd.prog) (t:=88) (v:=.agg (dg st0 (fun _=>0) 0).toArray) (n:=137) (by kernel_rfl)).1 w
theorem infoDig:(Tryd.prog.info? 88).map (·.size)=some 137:=by kernel_rfl
theorem inDig (s:St) (r:Nat→Nat) (n:Nat):(Tryd.prog.info? 88).map (·.size)=some (dg s r n).toArray.size:=by rw [List.size_toArray,dg_len];exact infoDig
def endF (n i:Nat):Nat:=(endP n 8).getD i 0
theorem endF_lt (n i:Nat):endF n i<256:=by
 refine getD_lt (fun x hx=>?_) i
 simp only [endP,List.mem_cons,List.mem_append,List.mem_replicate] at hx
 rcases hx with rfl | ⟨_,rfl⟩ | hx
 ·omega
 ·omega
 ·have hl:∀ (k:Nat),∀ y ∈ lenB n k,y<256:=fun k=>by
   induction k with
   | zero=>intro y hy;simp [lenB] at hy
   | succ k ih =>
    intro y hy
    simp only [lenB,List.mem_append,List.mem_singleton] at hy
    rcases hy with hy | rfl
    ·exact ih y hy
    ·exact Nat.mod_lt _ (by omega)
  exact hl 8 x hx
theorem cat_end (f:Nat→Nat) (n i:Nat) (h:i<padLen n):cat f n (endF n) i=pad f n i:=by
 rw [← padL_at f n i h]
 unfold cat endF
 have e:padL f n=fl f n++endP n 8:=by unfold padL endP;simp
 rw [e]
 by_cases h1:i<n
 ·rw [if_pos h1,List.getD_eq_getElem?_getD,List.getElem?_append_left (by rw [fl_len];exact h1),fl_at f h1];rfl
 ·rw [if_neg h1,List.getD_eq_getElem?_getD,List.getD_eq_getElem?_getD,List.getElem?_append_right (by rw [fl_len];omega),fl_len]
theorem hash_end (f:Nat→Nat) (n:Nat):hs (cat f n (endF n)) (padLen n / 128)=hashS f n:=by
 unfold hashS
 have:=zs_eq n
 exact hs_congr _ (fun i hi=>cat_end f n i (by omega))
theorem BA.block {w:World} {x:Option Addr} {m:Nat} {g:Nat→Nat} (h:BA w x m g) (hm:0<m):∀ p,x=some p→p.block<w.heap.size:=by
 intro p hp
 rcases h.at_ with h0 | ⟨b,o,e,hr⟩
 ·omega
 ·rw [hp] at e
  obtain rfl:=Option.some.inj e
  exact lt_of_cell (hr.c 0 hm)
theorem Tab.lt {w:World} (h:Tab w):6≤w.heap.size:=lt_of_cell (h.k 0 (by omega))
structure PL (w:World) (x:Option Addr) (k:Nat) (A:Nat→Option Addr) (L C:Nat→Nat) (G:Nat→Nat→Nat):Prop where
 ba:∀ i,i<k→BA w (A i) (L i) (G i)
 cp:∀ i,i<k→L i≤C i∧C i≤maxLen
 at_:k=0∨∃ b o,x=some ⟨b,o,none⟩∧∀ i,i<k→w.cell? ⟨b,o+i,none⟩=some (.slice (A i) (L i) (C i))
theorem PL.keep {W w1:World} {x:Option Addr} {k:Nat} {A:Nat→Option Addr} {L C:Nat→Nat} {G:Nat→Nat→Nat} (h:PL W x k A L C G) (hb:Below W.heap.size W w1):PL w1 x k A L C G :=
 ⟨fun i hi=>(h.ba i hi).keep hb,h.cp,h.at_.elim Or.inl fun ⟨b,o,e,hc⟩=>Or.inr ⟨b,o,e,fun i hi=>later hb (hc i hi)⟩⟩
def lenF (L:Nat→Nat):Nat→Nat
 | 0=>0
 | i+1=>lenF L i+L i
def catF (L:Nat→Nat) (G:Nat→Nat→Nat):Nat→Nat→Nat
 | 0=>fun _=>0
 | i+1=>cat (catF L G i) (lenF L i) (G i)
theorem lenF_mono (L : Nat → Nat) {i k : Nat} (h : i ≤ k) : lenF L i ≤ lenF L k := by
  induction k with
  | zero => obtain rfl : i = 0 := by omega
            exact Nat.le_refl _
  | succ k ih =>
    by_cases e : i = k + 1
    · rw [e]; exact Nat.le_refl _
    · have := ih (by omega)
      simp only [lenF]
      omega
theorem builtMsg:Tryd.prog.built 88 [(0,.agg (aw start.w 8).toArray)]=some (dg start (fun _=>0) 0).toArray:=by kernel_rfl
theorem foldMsg:List.foldl (fun (cs:Array Value) (x:Value × Nat)=>cs.setIfInBounds x.snd x.fst) (dg st0 (fun _=>0) 0).toArray (aw start.w 8).zipIdx=(dg start (fun _=>0) 0).toArray:=by kernel_rfl
theorem sum_any {w:World} {x:Option Addr} {k c:Nat} {A:Nat→Option Addr} {L C:Nat→Nat} {G:Nat→Nat→Nat} (hT:Tab w) (hP:PL w x k A L C G) (hk:k≤1000000) (hl:lenF L k≤200000) :
  Calls Tryd.prog 41 #[.slice x k c] w fun e w'=>e=.returned (.agg (ab (hByte (hashS (catF L G k) (lenF L k))) 64).toArray)∧Below w.heap.size w w':=by
 have HT:=hide hT
 have HL:=hide hT.lt
 have HP:=hide hP
 have HN:=hide hl
 have hki:(k:Int)≤1000000:=by omega
 clear hT hP hl
 have zD:=fun W=>zeroDig W
 go_enter Tryd.func41,Tryd.ntmps41
 go_upto_region 1 with fail
 refine wp_world (fun X0 hX0=>?_)
 have hB0:Below w.heap.size w X0:=by rw [hX0];exact K.alloc (Below.refl _ _) _
 have hH0:RowB X0 w.heap.size 64 (fun _=>0):=by rw [hX0];exact RowB.made w 59 64 (fun _=>0) _ zeros64
 have HS0:Hid (X0.heap.size=w.heap.size+1):=by show _=_;rw [hX0];simp
 have hT0:=HT.out.keep hB0
 clear hX0
 have HRg:Hid (X0.rangeAt 0 0 (aw start.w 8)):=fun j v hv=>by
  have hj:j<8:=by
   rcases Nat.lt_or_ge j 8 with h' | h'
   ·exact h'
   ·rw [List.getElem?_eq_none (by rw [aw_len];exact h')] at hv;cases hv
  rw [aw_at _ hj] at hv
  rw [Nat.zero_add,hT0.f j hj];exact hv
 have HIN:=hide (inDig start (fun _=>0) 0)
 have HBU:=hide builtMsg
 obtain ⟨D,hD0⟩:∃ D,D=(dg start (fun _=>0) 0).toArray:=⟨_,rfl⟩
 have HSZ:Hid ((dg st0 (fun _=>0) 0).toArray.size=D.size):=by show _=_;rw [hD0,List.size_toArray,List.size_toArray,dg_len,dg_len]
 have HON:Hid (D.all (·.oneCell')=true):=by show _=_;rw [hD0];exact all_oneCell_toArray (dg_one _ _ _)
 rw [← hD0] at HIN HBU
 have hfold:List.foldl (fun (cs:Array Value) (x:Value × Nat)=>cs.setIfInBounds x.snd x.fst) (dg st0 (fun _=>0) 0).toArray (aw start.w 8).zipIdx=D:=by rw [hD0];exact foldMsg
 have HMD:Hid (DigR (X0.alloc (.cells D 88)) X0.heap.size start (fun _=>0) 0):=DigR.made X0 88 start (fun _=>0) 0 _ hD0
 clear hD0
 go_upto_region 2 with (first
  | (refine wpList_load_mid rfl 84 _ rfl _ 0 rfl (aw start.w 8) _ HRg.out Tryd.underlying84 rfl (ilSt _) ?_;simp only [Act.put,List.setIfInBounds_toArray,List.set_cons_zero,List.set_cons_succ])
  | (refine wpList_builtV rfl 88 _ rfl D HBU.out ?_)
  | (refine wpList_store_new rfl 88 _ _ rfl _ D rfl rfl HIN.out HSZ.out HON.out ?_))
 have hal:=K.alloc (Below.refl _ X0) (.cells D 88)
 have hZ:=HMD.out
 have hH:=Row8.keep hH0 hal
 have hB:Below w.heap.size w (X0.alloc (.cells D 88)):=K.call hB0 hal
 clear hfold HMD HIN HBU HSZ HON HRg hal hB0 hH0 hT0 zD
 generalize X0.alloc (.cells D 88)=X at *
 rw [HS0.out] at hZ ⊢
 clear HS0
 obtain ⟨b0,hb0⟩:∃ b0,w.heap.size=b0:=⟨_,rfl⟩
 rw [hb0] at hB hH hZ HL ⊢
 have HH:=hide hH
 have HZ:=hide hZ
 have HB:=hide hB
 clear hH hZ hB
 go_wp2_with fail
 go_loopg [10] k (fun g s8 wr=>∃ i:Nat,g=k-i∧i≤k∧s8=.int .i64 i∧Dig wr (b0+1) (catF L G i) (lenF L i)∧RowB wr b0 64 (fun _=>0)∧Below b0 w wr)
 case atStart=>exact ⟨0,rfl,by omega,rfl,⟨start,fun _=>0,HZ.out,by simp only [lenF,Nat.zero_div,hs],fun _=>by show 0<256;omega,fun i hi=>by simp only [lenF] at hi;omega⟩,HH.out,HB.out⟩
 case round =>
  clear HH HZ HB
  obtain ⟨i,rfl,hi,rfl,hD,hH,hB⟩:=hrel
  have hB':Below w.heap.size w wr:=by rw [hb0];exact hB
  have HT1:=hide (HT.out.keep hB')
  have HP1:=hide (HP.out.keep hB')
  clear hB'
  by_cases hlt:i<k
  ·rcases HP1.out.at_ with h0 | ⟨pb,po,rfl,hc⟩
   ·omega
   have ci:=hc i hlt
   have hii:(i:Int)<(k:Int):=by omega
   have hcp:=HP1.out.cp i hlt
   have hln:lenF L i+L i≤800000:=by
    have h1:=HN.out
    have h2:lenF L (i+1)≤lenF L k:=lenF_mono L hlt
    simp only [lenF] at h2
    omega
   have hDl:b0+1<wr.heap.size:=by obtain ⟨s,r,h,_⟩:=hD;exact h.lt
   have HW:=hide (add_any (c:=C i) HT1.out (by have:=HL.out;omega) (HP1.out.ba i hlt) (fun hm p hp=>by
    have h1:=(HP.out.ba i hlt).block hm p hp
    omega) hcp.1 hcp.2 hD (by omega))
   have HH:=hide hH
   have HB:=hide hB
   have HI:=hide (And.intro hlt hDl)
   clear hc hcp hD hH hB hi hln hDl hlt
   go_wp2_with fail
   with_reducible refine Calls.mono HW.out ?_
   rintro e W2 ⟨⟨v,rfl⟩,hD2,hG2⟩
   have hH2:RowB W2 b0 64 (fun _=>0):=⟨Nat.lt_of_lt_of_le HH.out.lt hG2.size,fun i hi=>hG2.cell (HH.out.c i hi) (by simp),fun i hi=>by
    rw [World.frozen?_of_block (w:=wr) (hG2.block b0 HH.out.lt (by simp))];exact HH.out.z i hi⟩
   have hB2:Below b0 w W2:=HB.out.grown hG2 (by have:=HI.out;omega) (fun k hk=>by cases hk;omega)
   clear HW HH HB ci hG2
   go_wp2_with fail
   go_roundg (k-(i+1))
   case measure=>have:=HI.out;omega
   case rel=>exact ⟨i+1,rfl,by have:=HI.out;omega,by go_num,hD2,hH2,hB2⟩
  ·obtain rfl:i=k:=by omega
   obtain ⟨n,hn⟩:∃ n,n=lenF L i:=⟨_,rfl⟩
   obtain ⟨f,hf⟩:∃ f,f=catF L G i:=⟨_,rfl⟩
   have HE:Hid (hashS (catF L G i) (lenF L i)=hashS f n):=by show _=_;rw [hn,hf]
   rw [← hn,← hf] at hD
   have HN:Hid (n≤200000):=by show _≤_;rw [hn];exact HN.out
   clear hn hf hi hlt
   have sz:wr.cell? ⟨b0+1,136,none⟩=some (.int .u64 (n:Int)):=by obtain ⟨s,r,h,_⟩:=hD;exact h.sz
   have HTq:=HT1
   have HDq:=hide hD
   have HHq:=hide hH
   have HBq:=hide hB
   clear hD hH hB
   go_wp2_with fail
   with_reducible refine Calls.mono (ending_any n HN.out wr) ?_
   rintro e W1 ⟨v,rfl,hO,hb⟩
   obtain ⟨g,cap,rfl,hg,hr⟩:=own_rd (f:=fun i=>((endF n i:Nat):Int)) hO (fun j hj=>by rw [cells8_at _ j (by rw [endP_len];exact hj)];rfl) (by omega)
   have hcap:=own_cap hO
   have hcm:cap≤maxLen:=by
    rcases hO.2 with ⟨h,_⟩ | ⟨_,_,_,h,_,_,_,hm,_⟩
    ·cases h
    ·cases h;exact hm
   have hBA:BA W1 (some ⟨g,0,none⟩) (1+zs n+8) (endF n):=⟨endF_lt n,Or.inr ⟨g,0,rfl,hr.rd⟩⟩
   have hT1:=HTq.out.keep hb
   have hD1:=HDq.out.keep hb
   have hH1:=Row8.keep HHq.out hb
   have hB1:Below b0 w W1:=HBq.out.trans (hb.mono (by have:=lt_of_cell sz;simp only at this;omega))
   have hYl:b0+1<wr.heap.size:=lt_of_cell sz
   have hz:=zs_eq n
   have hzl:1+zs n+8≤200:=by unfold zs padLen;omega
   have HW:=hide (add_any (c:=cap) hT1 (by have:=HL.out;omega) hBA (fun _ p hp=>by cases hp;show g≠b0+1;omega) hcap hcm hD1 (by have:=HN.out;omega))
   clear hO hb hr hBA hcap hcm hT1 hD1 HTq HDq HHq HBq sz
   go_wp2_with fail
   with_reducible refine Calls.mono HW.out ?_
   rintro e W2 ⟨⟨v,rfl⟩,hD2,hG2⟩
   have hH2:RowB W2 b0 64 (fun _=>0):=⟨Nat.lt_of_lt_of_le hH1.lt hG2.size,fun i hi=>hG2.cell (hH1.c i hi) (by simp),fun i hi=>by
    rw [World.frozen?_of_block (w:=W1) (hG2.block b0 hH1.lt (by simp))];exact hH1.z i hi⟩
   have hB2:Below b0 w W2:=hB1.grown hG2 (by have:=hH1.lt;omega) (fun k hk=>by cases hk;omega)
   obtain ⟨s2,r2,hR2,hs2,_⟩:=hD2
   have e2:n+(1+zs n+8)=padLen n:=by omega
   rw [e2] at hs2
   have hs3:s2=hashS f n:=by rw [hs2,hash_end]
   have HRg:=hide hR2.rangeSt
   have HH:=hide hH2
   have HB:=hide hB2
   have HS3:=hide hs3
   clear hG2 hB1 hH1 hR2 hs2 hs3 hH2 hB2 HW
   go_wp2_with (refine wpList_load_mid rfl 84 _ rfl _ 0 rfl (aw s2.w 8) _ HRg.out Tryd.underlying84 rfl (ilSt _) ?_;simp only [Act.put,List.setIfInBounds_toArray,List.set_cons_zero,List.set_cons_succ])
   with_reducible refine Calls.mono (hash_any s2 W2) ?_
   rintro e W3 ⟨rfl,hb⟩
   have hH3:=Row8.keep HH.out hb
   have hB3:Below b0 w W3:=HB.out.trans (hb.mono (by have:=HH.out.lt;omega))
   have HTH:=hide (RowB.there hH3 (hByte s2))
   have HST:=hide (RowB.stored hH3 (hByte s2))
   have HB:Hid (Below b0 w (W3.setCells b0 0 (ab (hByte s2) 64).toArray.toList)):=by subst hb0;exact below_setCells _ _ hB3 (Nat.le_refl _)
   clear hb hH3 hB3 HH HRg
   go_wp2_with (refine wpList_store_mid rfl 59 _ _ rfl b0 0 (ab (hByte s2) 64).toArray rfl rfl HTH.out (inH _) (all_oneCell_toArray (ab_one _ _)) ?_;generalize W3.setCells b0 0 (ab (hByte s2) 64).toArray.toList=Z at HST HB ⊢)
   refine bodyPost_ret (results_cell_mid Tryd.results41 _ _ b0 (ab (hByte s2) 64) _ rfl (RowB.range HST.out) Tryd.underlying59 rfl (ilH _)) rfl ⟨?_,by rw [hb0];exact HB.out⟩
   rw [HE.out,HS3.out]
end Go.Proofs.YtjaahnlpnkcimaaDoor.Sx
namespace Go.Proofs.YtjaahnlpnkcimaaDoor
set_option maxRecDepth 100000
open Go.RowKit
attribute [local go_sem ↓] Go.wp_at_zero Go.wp_at_succ
theorem rest8 (k:Nat):k % 8=0∨k % 8=1∨k % 8=2∨k % 8=3∨k % 8=4∨k % 8=5∨k % 8=6∨k % 8=7:=by omega
theorem drop_any (x:Int) (h0:0≤x) (h1:x<18446744073709551616) (k:Nat) (hk:k<64) (w:World) :
  Calls Tryd.prog 51 #[.int .u64 x,.int .i64 k] w fun e w'=>e=.returned (.int .u8 (x / 256 ^ (k % 8) % 256))∧w'=w:=by
 rcases rest8 k with hr | hr | hr | hr | hr | hr | hr | hr
 all_goals
  rw [hr]
  have hri:(k:Int) % 8=((k % 8:Nat):Int):=by omega
  rw [hr] at hri
  clear hr
  go_enter Tryd.func51,Tryd.ntmps51
  go_wp2
  go_ret
  exact ⟨ret_int (by first | (simp;done) | (simp;omega)),rfl⟩
theorem row_made {w:World} {base b n:Nat} (h:w.ownsRow base 5 1 (.slice (some ⟨b,0,none⟩) n n) n (madeCells (Value.int .u8 0).cells (n*1)).toList):Row8 w b n (fun _=>0):=by
 have hlt:=h.lt b rfl
 refine ⟨hlt.2,fun i hi=>?_,fun i _=>h.frozenAt i⟩
 rw [h.cellAt i (by omega),Nat.mul_one,show (Value.int .u8 0).cells=#[.int .u8 0] from rfl,toList_madeCells_one,List.getElem?_replicate,if_pos hi]
theorem Arr.set1 {W:World} {n b o:Nat} {y0 y1 y2 y3:Int} {v:Value} (h:Arr W b y0 y1 y2 y3) (hn:b≠n):Arr (W.setCell ⟨n,o,none⟩ v) b y0 y1 y2 y3 :=
 ⟨by have:=h.lt;simpa using this,by simp [go_sem,h.c0],by simp [go_sem,h.c1],by simp [go_sem,h.c2],by simp [go_sem,h.c3]⟩
theorem size_alloc1 (w:World) (o:Obj):(w.alloc o).heap.size=w.heap.size+1:=by simp
theorem below_grown {w w0 w1:World} (h:Below w.heap.size w w0) (hg:w0.grownBy w1 none):Below w.heap.size w w1 :=
 h.grown hg h.size (fun k hk=>by cases hk)
theorem putLittle_any (a:Int) (w:World) :
  Calls Tryd.prog 22 #[.agg #[.int .u64 (L 0 a),.int .u64 (L 1 a),.int .u64 (L 2 a),.int .u64 (L 3 a)]] w fun e w'=>e=.returned (.slice (some ⟨w.heap.size+1,0,none⟩) 32 32)∧Row8 w' (w.heap.size+1) 32 (fun i=>Y i a)∧Below w.heap.size w w':=by
 obtain ⟨i0,hi,hz0,hz1,hz2⟩:=info_parts info8
 have hA0:=Arr.new w w.heap.size rfl 33 (L 0 a) (L 1 a) (L 2 a) (L 3 a)
 go_enter Tryd.func22,Tryd.ntmps22
 go_wp2_with (at_make;refine wpList_make_full _ rfl _ _ 24 rfl (w.heap.size+1) 5 i0 (.int .u8 0) 1 Tryd.underlying24 hi hz0 hz1 .i64 .i64 32 32 32 rfl rfl rfl rfl (by rw [hz2];decide) (by decide) (by simp) ?_;intro w1 hown hgrow)
 have hR1:Row8 w1 (w.heap.size+1) 32 (fun _=>0):=by have h:=row_made hown;rw [size_alloc1] at h;exact h
 have hB1:Below w.heap.size w w1:=below_grown (K.alloc (Below.refl _ w) _) hgrow
 have hA1:=hA0.keep ((Below.refl _ _).grown hgrow (Nat.le_refl _) (fun k hk=>by cases hk))
 clear hown hgrow hA0 hi hz0 hz1 hz2
 go_loopg [6] 32 (fun g s6 wr=>∃ k:Nat,g=32-k∧k≤32∧s6=.int .i64 k∧Row8 wr (w.heap.size+1) 32 (fun i=>if i<k then Y i a else 0)∧Arr wr w.heap.size (L 0 a) (L 1 a) (L 2 a) (L 3 a)∧Below w.heap.size w wr)
 case atStart=>exact ⟨0,rfl,by omega,rfl,hR1.congr (fun i hi=>by simp),hA1,hB1⟩
 case round =>
  clear hR1 hA1 hB1 w1
  obtain ⟨k,rfl,hk,rfl,hR,hA,hB⟩:=hrel
  by_cases hlt:k<32
  ·have HR:Hid (Row8 wr (w.heap.size+1) 32 (fun i=>if i<k then Y i a else 0)):=hR
   have HA:Hid (Arr wr w.heap.size (L 0 a) (L 1 a) (L 2 a) (L 3 a)):=hA
   have HB:Hid (Below w.heap.size w wr):=hB
   have hcell:=hR.c k (by omega)
   have hfree:=hR.z k (by omega)
   have ⟨al,a0,a1,a2,a3⟩:=hA
   have hrl:=hR.lt
   have hq:(k:Int) / 8=0∨(k:Int) / 8=1∨(k:Int) / 8=2∨(k:Int) / 8=3:=by omega
   clear hR hA hB
   rcases hq with hq | hq | hq | hq
   ·have l1:=L_lo 0 a
    have l2:=L_hi 0 a
    go_wp2_with (go_at_call 51;with_reducible refine Calls.mono (drop_any (L 0 a) (by omega) (by omega) k (by omega) _) ?_;rintro e w' ⟨rfl,rfl⟩)
    go_roundg (32-(k+1))
    case measure=>omega
    case rel=>exact ⟨k+1,rfl,by omega,by go_num,(HR.out.store k (by omega) _).congr (fun i hi=>by rw [byte_word a 0 (k % 8) (by omega),show 8*0+k % 8=k by omega];(repeat' split) <;> first | rfl | (congr 1;omega) | omega),HA.out.set1 (by omega),K.set HB.out (by simp) _⟩
   ·have l1:=L_lo 1 a
    have l2:=L_hi 1 a
    go_wp2_with (go_at_call 51;with_reducible refine Calls.mono (drop_any (L 1 a) (by omega) (by omega) k (by omega) _) ?_;rintro e w' ⟨rfl,rfl⟩)
    go_roundg (32-(k+1))
    case measure=>omega
    case rel=>exact ⟨k+1,rfl,by omega,by go_num,(HR.out.store k (by omega) _).congr (fun i hi=>by rw [byte_word a 1 (k % 8) (by omega),show 8*1+k % 8=k by omega];(repeat' split) <;> first | rfl | (congr 1;omega) | omega),HA.out.set1 (by omega),K.set HB.out (by simp) _⟩
   ·have l1:=L_lo 2 a
    have l2:=L_hi 2 a
    go_wp2_with (go_at_call 51;with_reducible refine Calls.mono (drop_any (L 2 a) (by omega) (by omega) k (by omega) _) ?_;rintro e w' ⟨rfl,rfl⟩)
    go_roundg (32-(k+1))
    case measure=>omega
    case rel=>exact ⟨k+1,rfl,by omega,by go_num,(HR.out.store k (by omega) _).congr (fun i hi=>by rw [byte_word a 2 (k % 8) (by omega),show 8*2+k % 8=k by omega];(repeat' split) <;> first | rfl | (congr 1;omega) | omega),HA.out.set1 (by omega),K.set HB.out (by simp) _⟩
   ·have l1:=L_lo 3 a
    have l2:=L_hi 3 a
    go_wp2_with (go_at_call 51;with_reducible refine Calls.mono (drop_any (L 3 a) (by omega) (by omega) k (by omega) _) ?_;rintro e w' ⟨rfl,rfl⟩)
    go_roundg (32-(k+1))
    case measure=>omega
    case rel=>exact ⟨k+1,rfl,by omega,by go_num,(HR.out.store k (by omega) _).congr (fun i hi=>by rw [byte_word a 3 (k % 8) (by omega),show 8*3+k % 8=k by omega];(repeat' split) <;> first | rfl | (congr 1;omega) | omega),HA.out.set1 (by omega),K.set HB.out (by simp) _⟩
  ·go_wp2_with fail
   obtain rfl:k=32:=by omega
   go_ret
   exact ⟨rfl,hR.congr (fun i hi=>if_pos (by omega)),hB⟩
theorem e_PutC (a:Int) (w:World) :
  Calls Tryd.prog 22 #[.agg #[.int .u64 (L 0 a),.int .u64 (L 1 a),.int .u64 (L 2 a),.int .u64 (L 3 a)]] w fun e w'=>NewC (fun i=>Y i a) w e w' :=
 Calls.mono (putLittle_any a w) (fun _ _ ⟨he,hr,hb⟩=>newC_row he (by omega) hr hb)
end Go.Proofs.YtjaahnlpnkcimaaDoor
namespace Go.Proofs.YtjaahnlpnkcimaaDoor
set_option maxRecDepth 100000
open Go.RowKit
attribute [local go_sem ↓] Go.wp_at_zero Go.wp_at_succ
def Only (A:Act) (W:World):Exit→Act→World→Prop
 | .normal,a,w=>a=A∧w=W
 | _,_,_=>False
theorem Only.intro (A:Act) (W:World):Only A W .normal A W:=⟨rfl,rfl⟩
theorem Only.out {A:Act} {W:World} {Q:Exit→Act→World→Prop} (h:Q .normal A W):∀ e a w,Only A W e a w→Q e a w:=by
 intro e a w hq
 cases e <;> first | exact (hq:False).elim | (obtain ⟨rfl,rfl⟩:=hq;exact h)
def pl (a:Int) (m:Nat):List Value:=(List.range m).map (fun j=>Value.int .u8 (Y j a))
theorem pl_succ (a:Int) (m:Nat):pl a (m+1)=pl a m++[Value.int .u8 (Y m a)]:=by simp [pl,List.range_succ]
theorem pl_at (a:Int) (m j:Nat) (h:j<m):(pl a m)[j]?=some (Value.int .u8 (Y j a)):=by simp [pl,h]
theorem arr_at {w:World} {b:Nat} {a:Int} (h:Arr w b (L 0 a) (L 1 a) (L 2 a) (L 3 a)) (i:Nat) (hi:i<4):w.cell? ⟨b,i,none⟩=some (.int .u64 (L i a)):=by
 match i,hi with
 | 0,_=>exact h.c0
 | 1,_=>exact h.c1
 | 2,_=>exact h.c2
 | 3,_=>exact h.c3
theorem div_next (x:Int) (k:Nat):x / 256 ^ k / 256=x / 256 ^ (k+1):=by
 rw [Int.pow_succ,← Int.ediv_ediv_of_nonneg (Int.le_of_lt (Int.pow_pos (by omega)))]
theorem div_bd {x:Int} (h0:0≤x) (h1:x<18446744073709551616) (k:Nat):0≤x / 256 ^ k∧x / 256 ^ k<18446744073709551616 :=
 ⟨Int.ediv_nonneg h0 (Int.le_of_lt (Int.pow_pos (by omega))),Int.lt_of_le_of_lt (Int.ediv_le_self _ h0) h1⟩
theorem refPutLittle_any (a:Int) (w:World) :
  Calls Tryd.prog 13 #[.agg #[.int .u64 (L 0 a),.int .u64 (L 1 a),.int .u64 (L 2 a),.int .u64 (L 3 a)]] w fun e w'=>New32 (fun i=>Y i a) w e w':=by
 obtain ⟨i0,hi,hz0,hz1,hz2⟩:=info_parts info8
 have hA:=Arr.new w w.heap.size rfl 33 (L 0 a) (L 1 a) (L 2 a) (L 3 a)
 have hw:Below w.heap.size w (w.alloc (.cells #[.int .u64 (L 0 a),.int .u64 (L 1 a),.int .u64 (L 2 a),.int .u64 (L 3 a)] 33)):=K.alloc (Below.refl _ _) _
 go_enter Tryd.func13,Tryd.ntmps13
 go_wp2_with fail
 generalize w.alloc (.cells #[.int .u64 (L 0 a),.int .u64 (L 1 a),.int .u64 (L 2 a),.int .u64 (L 3 a)] 33)=W0 at *
 go_loopg [3,4] 4 (fun g v s wr=>∃ i:Nat,g=4-i∧i≤4∧s=.int .i64 i∧wr.ownsRow W0.heap.size 5 1 v (8*i) (pl a (8*i))∧Below W0.heap.size W0 wr)
 case atStart=>exact ⟨0,rfl,by omega,rfl,World.ownsRow_nil _ _ _ _,Below.refl _ _⟩
 case round =>
  obtain ⟨i,rfl,hle,rfl,hO,hB⟩:=hrel
  by_cases hlt:i<4
  ·have hc:=arr_at (hA.keep hB) i hlt
   have hii:(i:Int)<4:=by omega
   have HL:Hid (0≤L i a∧L i a<18446744073709551616):=⟨L_lo _ _,L_hi _ _⟩
   have HI:Hid (i<4):=hlt
   clear hlt hle
   go_wp2_with fail
   go_loopg [3,5,6] 8 (fun g v x s wr=>∃ k:Nat,g=8-k∧k≤8∧s=.int .i64 k∧x=.int .u64 (L i a / 256 ^ k)∧wr.ownsRow W0.heap.size 5 1 v (8*i+k) (pl a (8*i+k))∧Below W0.heap.size W0 wr)
   case atStart=>exact ⟨0,rfl,by omega,rfl,by simp,hO,hB⟩
   case round =>
    clear hO hB hc
    obtain ⟨k,rfl,hle,rfl,rfl,hO,hB⟩:=hrel
    by_cases hlt:k<8
    ·have hbd:=div_bd HL.out.1 HL.out.2 k
     have HD:Hid (L i a / 256 ^ k % 256=Y (8*i+k) a∧L i a / 256 ^ k / 256=L i a / 256 ^ (k+1)):=⟨byte_word a i k hlt,div_next _ _⟩
     generalize L i a / 256 ^ k=x at *
     go_wp2_with (at_builtin;refine wpList_append_own _ rfl _ _ 24 rfl W0.heap.size 5 i0 (.int .u8 0) 1 1 Tryd.underlying24 hi hz0 hz1 hz2 rfl (by decide) _ _ _ rfl (hO.alloc _) ⟨wr.heap.size,0,none⟩ 1 1 [.int .u8 (x % 256)] rfl rfl ?c1 ?c2 ?c3 ?c4 ?c5 ?_)
     case c1 =>
      intro j u hu
      match j,hu with
      | 0,hu=>simp at hu;subst hu;simp [Addr.add]
     case c2=>intro u hu;simp at hu;subst hu;rfl
     case c3=>have:=HI.out;unfold maxLen;omega
     case c4=>have:=HI.out;omega
     case c5=>have:=hB.size;simp;omega
     intro v' w1 hown' hgrow _
     have R1:Below W0.heap.size W0 w1:=(K.alloc hB _).grown hgrow (K.alloc hB _).size (fun k hk=>(hO.lt k hk).1)
     have R2:w1.ownsRow W0.heap.size 5 1 v' (8*i+(k+1)) (pl a (8*i+(k+1))):=by rw [← Nat.add_assoc,pl_succ,← HD.out.1];exact hown'
     clear hown' hgrow hO hB
     go_wp2_with fail
     go_roundg (8-(k+1))
     case measure=>omega
     case rel=>exact ⟨k+1,rfl,by omega,by go_num,by rw [← HD.out.2],R2,R1⟩
    ·obtain rfl:k=8:=by omega
     go_wp2_with fail
     go_roundg (4-(i+1))
     case measure=>have:=HI.out;omega
     case rel=>exact ⟨i+1,rfl,by have:=HI.out;omega,by go_num,hO,hB⟩
  ·obtain rfl:i=4:=by omega
   go_wp2_with fail
   have hcp:=hO
   obtain ⟨g,cap,rfl,hge,hR⟩:=own_rd (f:=fun i=>Y i a) hO (fun j hj=>pl_at a _ j hj) (by omega)
   go_ret
   exact new32_row rfl (Nat.le_trans hw.size hge) (own_cap hcp) hR (K.call hw hB)
theorem eight_any {b o cap:Nat} {f:Nat→Int} (hf:∀ i,0≤f i∧f i<256) {w:World} (hD:Rd w b o 8 f) :
  Calls Tryd.prog 29 #[.slice (some ⟨b,o,none⟩) 8 cap] w fun e w'=>e=.returned (.int .u64 (E f 0 8))∧w'=w:=by
 have c0:=hD.c 0 (by omega)
 have l0:=(hf 0).1
 have u0:=(hf 0).2
 have c1:=hD.c 1 (by omega)
 have l1:=(hf 1).1
 have u1:=(hf 1).2
 have c2:=hD.c 2 (by omega)
 have l2:=(hf 2).1
 have u2:=(hf 2).2
 have c3:=hD.c 3 (by omega)
 have l3:=(hf 3).1
 have u3:=(hf 3).2
 have c4:=hD.c 4 (by omega)
 have l4:=(hf 4).1
 have u4:=(hf 4).2
 have c5:=hD.c 5 (by omega)
 have l5:=(hf 5).1
 have u5:=(hf 5).2
 have c6:=hD.c 6 (by omega)
 have l6:=(hf 6).1
 have u6:=(hf 6).2
 have c7:=hD.c 7 (by omega)
 have l7:=(hf 7).1
 have u7:=(hf 7).2
 rw [Nat.add_zero] at c0
 have HE:Hid (E f 0 8=f 0+256*(f 1+256*(f 2+256*(f 3+256*(f 4+256*(f 5+256*(f 6+256*f 7))))))):=by
  show _=_
  simp [E]
  omega
 clear hf hD
 generalize f 0=x0 at *
 generalize f 1=x1 at *
 generalize f 2=x2 at *
 generalize f 3=x3 at *
 generalize f 4=x4 at *
 generalize f 5=x5 at *
 generalize f 6=x6 at *
 generalize f 7=x7 at *
 go_enter Tryd.func29,Tryd.ntmps29
 go_wp2_with fail
 refine wp_loop_rounds 9 ?_
 rw [rounds_succ]
 go_wp2_with fail
 rw [rounds_succ]
 go_wp2_with fail
 rw [rounds_succ]
 go_wp2_with fail
 rw [rounds_succ]
 go_wp2_with fail
 rw [rounds_succ]
 go_wp2_with fail
 rw [rounds_succ]
 go_wp2_with fail
 rw [rounds_succ]
 go_wp2_with fail
 rw [rounds_succ]
 go_wp2_with fail
 rw [rounds_succ]
 go_wp2_with fail
 go_ret
 exact ⟨ret_int (by rw [HE.out];omega),rfl⟩
theorem E_shift (f:Nat→Int) (k:Nat):∀ r,E (fun i=>f (k+i)) 0 r=E f k r
 | 0=>rfl
 | r+1=>by simp only [E];rw [E_shift f k r,Nat.zero_add]
theorem eight_at {b o n cap:Nat} (k:Nat) {f:Nat→Int} (hf:∀ i,0≤f i∧f i<256) (hk:k+8≤n) {w:World} (hD:Rd w b o n f) :
  Calls Tryd.prog 29 #[.slice (some ⟨b,o+k,none⟩) 8 cap] w fun e w'=>e=.returned (.int .u64 (E f k 8))∧w'=w:=by
 have h:=eight_any (cap:=cap) (fun i=>hf (k+i)) (hD.part k 8 hk)
 rw [E_shift] at h
 exact h
theorem eight_at0 {b o n cap:Nat} {f:Nat→Int} (hf:∀ i,0≤f i∧f i<256) (hk:8≤n) {w:World} (hD:Rd w b o n f) :
  Calls Tryd.prog 29 #[.slice (some ⟨b,o,none⟩) 8 cap] w fun e w'=>e=.returned (.int .u64 (E f 0 8))∧w'=w :=
 eight_at (cap:=cap) 0 hf (by omega) hD
theorem refLittle_any {b o cap:Nat} {f:Nat→Int} (hcap:32≤cap) (hf:∀ i,0≤f i∧f i<256) {w:World} (hD:Rd w b o 32 f) :
  Calls Tryd.prog 11 #[.slice (some ⟨b,o,none⟩) 32 cap] w fun e w'=>e=.returned (.tuple #[.agg #[.int .u64 (E f 0 8),.int .u64 (E f 8 8),.int .u64 (E f 16 8),.int .u64 (E f 24 8)],.bool true])∧Below w.heap.size w w':=by
 have HF:Hid (∀ i,0≤f i∧f i<256):=hf
 have HD:Hid (∀ w1,Below w.heap.size w w1→Rd w1 b o 32 f):=fun w1 hb=>hD.keep hb
 have hci:(32:Int)≤cap:=by omega
 clear hf hD
 go_enter Tryd.func11,Tryd.ntmps11
 go_wp2_with fail
 apply wp_mono (Q:=Only _ _)
 ·go_region_with (first
   | (go_at_call 29;with_reducible refine Calls.mono (eight_at0 HF.out (by omega) (HD.out _ (K.drew (K.alloc (Below.refl _ _) _)))) ?_;rintro e w' ⟨rfl,rfl⟩)
   | (go_at_call 29;with_reducible refine Calls.mono (eight_at 8 HF.out (by omega) (HD.out _ (K.drew (K.alloc (Below.refl _ _) _)))) ?_;rintro e w' ⟨rfl,rfl⟩)
   | (go_at_call 29;with_reducible refine Calls.mono (eight_at 16 HF.out (by omega) (HD.out _ (K.drew (K.alloc (Below.refl _ _) _)))) ?_;rintro e w' ⟨rfl,rfl⟩)
   | (go_at_call 29;with_reducible refine Calls.mono (eight_at 24 HF.out (by omega) (HD.out _ (K.drew (K.alloc (Below.refl _ _) _)))) ?_;rintro e w' ⟨rfl,rfl⟩))
  all_goals exact Only.intro _ _
 refine Only.out ?_
 go_wp2_with fail
 exact bodyPost_ret (v:=.tuple #[.agg #[.int .u64 (E f 0 8),.int .u64 (E f 8 8),.int .u64 (E f 16 8),.int .u64 (E f 24 8)],.bool true]) (by simp [results,Tryd.results11,go_sem]) rfl ⟨rfl,K.drew (K.alloc (Below.refl _ _) _)⟩
end Go.Proofs.YtjaahnlpnkcimaaDoor
namespace Go.Proofs.YtjaahnlpnkcimaaDoor
set_option maxRecDepth 100000
open Go.RowKit
attribute [local go_sem ↓] Go.wp_at_zero Go.wp_at_succ
theorem lift_any (x:Int) (h0:0≤x) (h1:x<256) (k:Nat) (hk:k<64) (w:World) :
  Calls Tryd.prog 59 #[.int .u8 x,.int .i64 k] w fun e w'=>e=.returned (.int .u64 (x*256 ^ (k % 8)))∧w'=w:=by
 rcases rest8 k with hr | hr | hr | hr | hr | hr | hr | hr
 all_goals
  rw [hr]
  have hri:(k:Int) % 8=((k % 8:Nat):Int):=by omega
  rw [hr] at hri
  clear hr
  go_enter Tryd.func59,Tryd.ntmps59
  go_wp2
  go_ret
  exact ⟨ret_int (by simp),rfl⟩
structure RowQ (w:World) (b n:Nat) (g:Nat→Int):Prop where
 lt:b<w.heap.size
 c:∀ i,i<n→w.cell? ⟨b,i,none⟩=some (.int .u64 (g i))
 z:∀ i,i<n→w.frozen? ⟨b,i,none⟩=false
theorem RowQ.keep {W w1:World} {b n:Nat} {g:Nat→Int} (h:RowQ W b n g) (hb:Below W.heap.size W w1):RowQ w1 b n g :=
 ⟨Nat.lt_of_lt_of_le h.lt hb.size,fun i hi=>later hb (h.c i hi),fun i hi=>(hb.frozen (p:=⟨b,i,none⟩) h.lt).trans (h.z i hi)⟩
theorem RowQ.congr {w:World} {b n:Nat} {f g:Nat→Int} (h:RowQ w b n f) (e:∀ i,i<n→f i=g i):RowQ w b n g :=
 ⟨h.lt,fun i hi=>by rw [← e i hi];exact h.c i hi,h.z⟩
theorem RowQ.store {w:World} {b n:Nat} {f:Nat→Int} (h:RowQ w b n f) (k:Nat) (hk:k<n) (v:Int):RowQ (w.setCell ⟨b,k,none⟩ (.int .u64 v)) b n (fun i=>if i=k then v else f i):=by
 refine ⟨by simpa using h.lt,fun i hi=>?_,fun i hi=>by rw [World.frozen?_setCell];exact h.z i hi⟩
 have hc:=h.c i hi
 have hcs:=h.c k hk
 by_cases e:i=k
 ·subst e;simp [go_sem,hc]
 ·simp [go_sem,hc,e]
theorem RowQ.other {w:World} {b n m o:Nat} {f:Nat→Int} {v:Value} (h:RowQ w b n f) (hb:b≠m):RowQ (w.setCell ⟨m,o,none⟩ v) b n f:=by
 refine ⟨by simpa using h.lt,fun i hi=>?_,fun i hi=>by rw [World.frozen?_setCell];exact h.z i hi⟩
 have hc:=h.c i hi
 simp [go_sem,hc]
theorem RowQ.drew {W:World} {b n:Nat} {g:Nat→Int} (h:RowQ W b n g):RowQ W.drew b n g:=h.keep (Below.refl _ _).drew
theorem RowQ.new4 (W:World) (b:Nat) (hb:b=W.heap.size):RowQ (W.alloc (.cells #[.int .u64 0,.int .u64 0,.int .u64 0,.int .u64 0] 33)) b 4 (fun _=>0):=by
 subst hb
 refine ⟨by simp,fun i hi=>?_,fun i hi=>by simp [go_sem]⟩
 match i,hi with
 | 0,_=>simp [go_sem]
 | 1,_=>simp [go_sem]
 | 2,_=>simp [go_sem]
 | 3,_=>simp [go_sem]
theorem or_byte {x y:Int} {r:Nat} (hr:r<8) (hx:0≤x) (hx2:x<256 ^ r) (hy:0≤y) (hy2:y<256):bits .or .u64 x (y*256 ^ r)=x+y*256 ^ r:=by
 have e:(256:Int) ^ r=((2 ^ (8*r):Nat):Int):=by rw [Nat.pow_mul];simp
 have h7:(2:Nat) ^ (8*r)≤2 ^ 56:=Nat.pow_le_pow_right (by omega) (by omega)
 rw [e] at hx2 ⊢
 obtain ⟨n,rfl⟩:=Int.eq_ofNat_of_zero_le hx
 obtain ⟨m,rfl⟩:=Int.eq_ofNat_of_zero_le hy
 have hn:n<2 ^ (8*r):=by omega
 have hm:m*2 ^ (8*r)≤255*2 ^ 56:=Nat.mul_le_mul (by omega) h7
 have hmi:(m:Int)*((2 ^ (8*r):Nat):Int)=((m*2 ^ (8*r):Nat):Int):=by simp
 rw [hmi]
 generalize hp:2 ^ (8*r)=p at *
 rw [u64_or _ _ (by omega) (by omega) (by omega) (by omega),Int.toNat_natCast,Int.toNat_natCast,Nat.or_comm,Nat.mul_comm,← hp,← Nat.two_pow_add_eq_or_of_lt (by omega)]
 omega
def G (f:Nat→Int) (k j:Nat):Int:=E f (8*j) (min 8 (k-8*j))
theorem G_zero (f:Nat→Int) (j:Nat):G f 0 j=0:=by unfold G;rw [show min 8 (0-8*j)=0 by omega];rfl
theorem G_bd {f:Nat→Int} (hf:∀ i,0≤f i∧f i<256) (k j:Nat):0≤G f k j∧G f k j<18446744073709551616:=by
 have h:=E_bd hf (8*j) (min 8 (k-8*j))
 have h8:(256:Int) ^ min 8 (k-8*j)≤256 ^ 8:=by
  have:(256:Nat) ^ min 8 (k-8*j)≤256 ^ 8:=Nat.pow_le_pow_right (by omega) (by omega)
  have h':=Int.ofNat_le.2 this
  rw [Int.natCast_pow,Int.natCast_pow] at h'
  exact h'
 exact ⟨h.1,Int.lt_of_lt_of_le h.2 (Int.le_trans h8 (by decide))⟩
theorem G_step {f:Nat→Int} (hf:∀ i,0≤f i∧f i<256) (k:Nat):bits .or .u64 (G f k (k / 8)) (f k*256 ^ (k % 8))=G f (k+1) (k / 8):=by
 have h:=E_bd hf (8*(k / 8)) (k % 8)
 unfold G
 rw [show min 8 (k-8*(k / 8))=k % 8 by omega,show min 8 (k+1-8*(k / 8))=k % 8+1 by omega,or_byte (by omega) h.1 h.2 (hf k).1 (hf k).2]
 simp only [E]
 rw [show 8*(k / 8)+k % 8=k by omega]
theorem G_other (f:Nat→Int) {k j:Nat} (h:j≠k / 8):G f k j=G f (k+1) j:=by
 unfold G
 rw [show min 8 (k-8*j)=min 8 (k+1-8*j) by omega]
theorem word_step {g h:Nat→Int} {n q:Nat} {v:Int} (hv:v=h q) (ho:∀ {i},i≠q→g i=h i):∀ i,i<n→(if i=q then v else g i)=h i:=by
 intro i _
 split
 ·next e=>rw [e];exact hv
 ·next e=>exact ho e
theorem G_full (f:Nat→Int) {n j:Nat} (h:8*j+8≤n):G f n j=E f (8*j) 8:=by
 unfold G
 rw [show min 8 (n-8*j)=8 by omega]
theorem little_any {b o cap:Nat} {f:Nat→Int} (hf:∀ i,0≤f i∧f i<256) {w:World} (hD:Rd w b o 32 f) :
  Calls Tryd.prog 24 #[.slice (some ⟨b,o,none⟩) 32 cap] w fun e w'=>e=.returned (.tuple #[.agg #[.int .u64 (E f 0 8),.int .u64 (E f 8 8),.int .u64 (E f 16 8),.int .u64 (E f 24 8)],.bool true])∧Below w.heap.size w w':=by
 have HF:Hid (∀ i,0≤f i∧f i<256):=hf
 have HD:Hid (Rd w b o 32 f):=hD
 clear hf hD
 go_enter Tryd.func24,Tryd.ntmps24
 go_wp2_with fail
 go_loopg [13] 32 (fun g s wr=>∃ k:Nat,g=32-k∧k≤32∧s=.int .i64 k∧RowQ wr (w.heap.size+1) 4 (G f k)∧RowQ wr w.heap.size 4 (fun _=>0)∧Below w.heap.size w wr)
 case atStart=>exact ⟨0,rfl,by omega,rfl,(RowQ.new4 _ _ (by simp)).congr (fun i _=>(G_zero _ i).symm),(RowQ.new4 w _ rfl).keep ((Below.refl _ _).alloc (Nat.le_refl _) _),K.alloc (K.alloc (Below.refl _ w) _) _⟩
 case round =>
  obtain ⟨k,rfl,hk,rfl,hR,hZ,hB⟩:=hrel
  by_cases hlt:k<32
  ·have hx:=HF.out k
   have hd:=(HD.out.keep hB).c k (by omega)
   have HR:Hid (RowQ wr (w.heap.size+1) 4 (G f k)):=hR
   have HZ:Hid (RowQ wr w.heap.size 4 (fun _=>0)):=hZ
   have HB:Hid (Below w.heap.size w wr):=hB
   have hrl:=hR.lt
   have hq:k / 8=0∨k / 8=1∨k / 8=2∨k / 8=3:=by omega
   clear hR hZ hB
   rcases hq with hq | hq | hq | hq
   ·have HQ:Hid (k / 8=0):=hq
    have hqi:(k:Int) / 8=0:=by omega
    have hg:=G_bd (f:=f) (fun i=>HF.out _) k 0
    have hc:=HR.out.c 0 (by omega)
    have hz:=HR.out.z 0 (by omega)
    clear hq
    go_upto_region 7 with fail
    apply wp_mono (Q:=Only _ _)
    ·go_region_with (go_at_call 59;with_reducible refine Calls.mono (lift_any (f k) hx.1 hx.2 k (by omega) _) ?_;rintro e w' ⟨rfl,rfl⟩)
     all_goals exact Only.intro _ _
    refine Only.out ?_
    have HG:Hid (bits .or .u64 (G f k 0) ((f k)*256 ^ (k % 8))=G f (k+1) 0):=by have h:=G_step (f:=f) (fun i=>HF.out _) k;rw [HQ.out] at h;exact h
    clear hc hz hd hx hg
    go_wp2_with fail
    go_roundg (32-(k+1))
    case measure=>omega
    case rel=>exact ⟨k+1,rfl,by omega,by go_num,((HR.out.store 0 (by omega) _).congr (word_step HG.out (fun e=>G_other _ (by rw [HQ.out];exact e)))).drew,(HZ.out.other (by omega)).drew,K.drew (K.set HB.out (by simp) _)⟩
   ·have HQ:Hid (k / 8=1):=hq
    have hqi:(k:Int) / 8=1:=by omega
    have hg:=G_bd (f:=f) (fun i=>HF.out _) k 1
    have hc:=HR.out.c 1 (by omega)
    have hz:=HR.out.z 1 (by omega)
    clear hq
    go_upto_region 7 with fail
    apply wp_mono (Q:=Only _ _)
    ·go_region_with (go_at_call 59;with_reducible refine Calls.mono (lift_any (f k) hx.1 hx.2 k (by omega) _) ?_;rintro e w' ⟨rfl,rfl⟩)
     all_goals exact Only.intro _ _
    refine Only.out ?_
    have HG:Hid (bits .or .u64 (G f k 1) ((f k)*256 ^ (k % 8))=G f (k+1) 1):=by have h:=G_step (f:=f) (fun i=>HF.out _) k;rw [HQ.out] at h;exact h
    clear hc hz hd hx hg
    go_wp2_with fail
    go_roundg (32-(k+1))
    case measure=>omega
    case rel=>exact ⟨k+1,rfl,by omega,by go_num,((HR.out.store 1 (by omega) _).congr (word_step HG.out (fun e=>G_other _ (by rw [HQ.out];exact e)))).drew,(HZ.out.other (by omega)).drew,K.drew (K.set HB.out (by simp) _)⟩
   ·have HQ:Hid (k / 8=2):=hq
    have hqi:(k:Int) / 8=2:=by omega
    have hg:=G_bd (f:=f) (fun i=>HF.out _) k 2
    have hc:=HR.out.c 2 (by omega)
    have hz:=HR.out.z 2 (by omega)
    clear hq
    go_upto_region 7 with fail
    apply wp_mono (Q:=Only _ _)
    ·go_region_with (go_at_call 59;with_reducible refine Calls.mono (lift_any (f k) hx.1 hx.2 k (by omega) _) ?_;rintro e w' ⟨rfl,rfl⟩)
     all_goals exact Only.intro _ _
    refine Only.out ?_
    have HG:Hid (bits .or .u64 (G f k 2) ((f k)*256 ^ (k % 8))=G f (k+1) 2):=by have h:=G_step (f:=f) (fun i=>HF.out _) k;rw [HQ.out] at h;exact h
    clear hc hz hd hx hg
    go_wp2_with fail
    go_roundg (32-(k+1))
    case measure=>omega
    case rel=>exact ⟨k+1,rfl,by omega,by go_num,((HR.out.store 2 (by omega) _).congr (word_step HG.out (fun e=>G_other _ (by rw [HQ.out];exact e)))).drew,(HZ.out.other (by omega)).drew,K.drew (K.set HB.out (by simp) _)⟩
   ·have HQ:Hid (k / 8=3):=hq
    have hqi:(k:Int) / 8=3:=by omega
    have hg:=G_bd (f:=f) (fun i=>HF.out _) k 3
    have hc:=HR.out.c 3 (by omega)
    have hz:=HR.out.z 3 (by omega)
    clear hq
    go_upto_region 7 with fail
    apply wp_mono (Q:=Only _ _)
    ·go_region_with (go_at_call 59;with_reducible refine Calls.mono (lift_any (f k) hx.1 hx.2 k (by omega) _) ?_;rintro e w' ⟨rfl,rfl⟩)
     all_goals exact Only.intro _ _
    refine Only.out ?_
    have HG:Hid (bits .or .u64 (G f k 3) ((f k)*256 ^ (k % 8))=G f (k+1) 3):=by have h:=G_step (f:=f) (fun i=>HF.out _) k;rw [HQ.out] at h;exact h
    clear hc hz hd hx hg
    go_wp2_with fail
    go_roundg (32-(k+1))
    case measure=>omega
    case rel=>exact ⟨k+1,rfl,by omega,by go_num,((HR.out.store 3 (by omega) _).congr (word_step HG.out (fun e=>G_other _ (by rw [HQ.out];exact e)))).drew,(HZ.out.other (by omega)).drew,K.drew (K.set HB.out (by simp) _)⟩
  ·obtain rfl:k=32:=by omega
   have c0:=hR.c 0 (by omega)
   have c1:=hR.c 1 (by omega)
   have c2:=hR.c 2 (by omega)
   have c3:=hR.c 3 (by omega)
   have z0:=hZ.c 0 (by omega)
   have z1:=hZ.c 1 (by omega)
   have z2:=hZ.c 2 (by omega)
   have z3:=hZ.c 3 (by omega)
   have y0:=hZ.z 0 (by omega)
   have y1:=hZ.z 1 (by omega)
   have y2:=hZ.z 2 (by omega)
   have y3:=hZ.z 3 (by omega)
   have zl:=hZ.lt
   have cl:=hR.lt
   rw [G_full _ (show 8*0+8≤32 by omega)] at c0
   rw [G_full _ (show 8*1+8≤32 by omega)] at c1
   rw [G_full _ (show 8*2+8≤32 by omega)] at c2
   rw [G_full _ (show 8*3+8≤32 by omega)] at c3
   clear hR hZ
   go_wp2_with fail
   exact bodyPost_ret (v:=.tuple #[.agg #[.int .u64 (E f 0 8),.int .u64 (E f 8 8),.int .u64 (E f 16 8),.int .u64 (E f 24 8)],.bool true]) (by simp [results,Tryd.results24,go_sem,z0,z1,z2,z3]) rfl ⟨rfl,K.set (K.set (K.set (K.set (hB) (by simp) _) (by simp) _) (by simp) _) (by simp) _⟩
end Go.Proofs.YtjaahnlpnkcimaaDoor
namespace Go.Proofs.YtjaahnlpnkcimaaDoor
set_option maxRecDepth 100000
open Go.RowKit
attribute [local go_sem ↓] Go.wp_at_zero Go.wp_at_succ
theorem RowQ.new8 (W:World) (b:Nat) (hb:b=W.heap.size):RowQ (W.alloc (.cells #[.int .u64 0,.int .u64 0,.int .u64 0,.int .u64 0,.int .u64 0,.int .u64 0,.int .u64 0,.int .u64 0] 63)) b 8 (fun _=>0):=by
 subst hb
 refine ⟨by simp,fun i hi=>?_,fun i hi=>by simp [go_sem]⟩
 match i,hi with
 | 0,_=>simp [go_sem]
 | 1,_=>simp [go_sem]
 | 2,_=>simp [go_sem]
 | 3,_=>simp [go_sem]
 | 4,_=>simp [go_sem]
 | 5,_=>simp [go_sem]
 | 6,_=>simp [go_sem]
 | 7,_=>simp [go_sem]
theorem wide_any {b o cap:Nat} {f:Nat→Int} (hf:∀ i,0≤f i∧f i<256) {w:World} (hD:Rd w b o 64 f) :
  Calls Tryd.prog 42 #[.slice (some ⟨b,o,none⟩) 64 cap] w fun e w'=>e=.returned (.tuple #[.agg #[.int .u64 (E f 0 8),.int .u64 (E f 8 8),.int .u64 (E f 16 8),.int .u64 (E f 24 8),.int .u64 (E f 32 8),.int .u64 (E f 40 8),.int .u64 (E f 48 8),.int .u64 (E f 56 8)],.bool true])∧Below w.heap.size w w':=by
 have HF:Hid (∀ i,0≤f i∧f i<256):=hf
 have HD:Hid (Rd w b o 64 f):=hD
 clear hf hD
 go_enter Tryd.func42,Tryd.ntmps42
 go_wp2_with fail
 go_loopg [13] 64 (fun g s wr=>∃ k:Nat,g=64-k∧k≤64∧s=.int .i64 k∧RowQ wr (w.heap.size+1) 8 (G f k)∧RowQ wr w.heap.size 8 (fun _=>0)∧Below w.heap.size w wr)
 case atStart=>exact ⟨0,rfl,by omega,rfl,(RowQ.new8 _ _ (by simp)).congr (fun i _=>(G_zero _ i).symm),(RowQ.new8 w _ rfl).keep ((Below.refl _ _).alloc (Nat.le_refl _) _),K.alloc (K.alloc (Below.refl _ w) _) _⟩
 case round =>
  obtain ⟨k,rfl,hk,rfl,hR,hZ,hB⟩:=hrel
  by_cases hlt:k<64
  ·have hx:=HF.out k
   have hd:=(HD.out.keep hB).c k (by omega)
   have HR:Hid (RowQ wr (w.heap.size+1) 8 (G f k)):=hR
   have HZ:Hid (RowQ wr w.heap.size 8 (fun _=>0)):=hZ
   have HB:Hid (Below w.heap.size w wr):=hB
   have hrl:=hR.lt
   have hq:k / 8=0∨k / 8=1∨k / 8=2∨k / 8=3∨k / 8=4∨k / 8=5∨k / 8=6∨k / 8=7:=by omega
   clear hR hZ hB
   rcases hq with hq | hq | hq | hq | hq | hq | hq | hq
   ·have HQ:Hid (k / 8=0):=hq
    have hqi:(k:Int) / 8=0:=by omega
    have hg:=G_bd (f:=f) (fun i=>HF.out _) k 0
    have hc:=HR.out.c 0 (by omega)
    have hz:=HR.out.z 0 (by omega)
    clear hq
    go_upto_region 7 with fail
    apply wp_mono (Q:=Only _ _)
    ·go_region_with (go_at_call 59;with_reducible refine Calls.mono (lift_any (f k) hx.1 hx.2 k (by omega) _) ?_;rintro e w' ⟨rfl,rfl⟩)
     all_goals exact Only.intro _ _
    refine Only.out ?_
    have HG:Hid (bits .or .u64 (G f k 0) ((f k)*256 ^ (k % 8))=G f (k+1) 0):=by have h:=G_step (f:=f) (fun i=>HF.out _) k;rw [HQ.out] at h;exact h
    clear hc hz hd hx hg
    go_wp2_with fail
    go_roundg (64-(k+1))
    case measure=>omega
    case rel=>exact ⟨k+1,rfl,by omega,by go_num,((HR.out.store 0 (by omega) _).congr (word_step HG.out (fun e=>G_other _ (by rw [HQ.out];exact e)))).drew,(HZ.out.other (by omega)).drew,K.drew (K.set HB.out (by simp) _)⟩
   ·have HQ:Hid (k / 8=1):=hq
    have hqi:(k:Int) / 8=1:=by omega
    have hg:=G_bd (f:=f) (fun i=>HF.out _) k 1
    have hc:=HR.out.c 1 (by omega)
    have hz:=HR.out.z 1 (by omega)
    clear hq
    go_upto_region 7 with fail
    apply wp_mono (Q:=Only _ _)
    ·go_region_with (go_at_call 59;with_reducible refine Calls.mono (lift_any (f k) hx.1 hx.2 k (by omega) _) ?_;rintro e w' ⟨rfl,rfl⟩)
     all_goals exact Only.intro _ _
    refine Only.out ?_
    have HG:Hid (bits .or .u64 (G f k 1) ((f k)*256 ^ (k % 8))=G f (k+1) 1):=by have h:=G_step (f:=f) (fun i=>HF.out _) k;rw [HQ.out] at h;exact h
    clear hc hz hd hx hg
    go_wp2_with fail
    go_roundg (64-(k+1))
    case measure=>omega
    case rel=>exact ⟨k+1,rfl,by omega,by go_num,((HR.out.store 1 (by omega) _).congr (word_step HG.out (fun e=>G_other _ (by rw [HQ.out];exact e)))).drew,(HZ.out.other (by omega)).drew,K.drew (K.set HB.out (by simp) _)⟩
   ·have HQ:Hid (k / 8=2):=hq
    have hqi:(k:Int) / 8=2:=by omega
    have hg:=G_bd (f:=f) (fun i=>HF.out _) k 2
    have hc:=HR.out.c 2 (by omega)
    have hz:=HR.out.z 2 (by omega)
    clear hq
    go_upto_region 7 with fail
    apply wp_mono (Q:=Only _ _)
    ·go_region_with (go_at_call 59;with_reducible refine Calls.mono (lift_any (f k) hx.1 hx.2 k (by omega) _) ?_;rintro e w' ⟨rfl,rfl⟩)
     all_goals exact Only.intro _ _
    refine Only.out ?_
    have HG:Hid (bits .or .u64 (G f k 2) ((f k)*256 ^ (k % 8))=G f (k+1) 2):=by have h:=G_step (f:=f) (fun i=>HF.out _) k;rw [HQ.out] at h;exact h
    clear hc hz hd hx hg
    go_wp2_with fail
    go_roundg (64-(k+1))
    case measure=>omega
    case rel=>exact ⟨k+1,rfl,by omega,by go_num,((HR.out.store 2 (by omega) _).congr (word_step HG.out (fun e=>G_other _ (by rw [HQ.out];exact e)))).drew,(HZ.out.other (by omega)).drew,K.drew (K.set HB.out (by simp) _)⟩
   ·have HQ:Hid (k / 8=3):=hq
    have hqi:(k:Int) / 8=3:=by omega
    have hg:=G_bd (f:=f) (fun i=>HF.out _) k 3
    have hc:=HR.out.c 3 (by omega)
    have hz:=HR.out.z 3 (by omega)
    clear hq
    go_upto_region 7 with fail
    apply wp_mono (Q:=Only _ _)
    ·go_region_with (go_at_call 59;with_reducible refine Calls.mono (lift_any (f k) hx.1 hx.2 k (by omega) _) ?_;rintro e w' ⟨rfl,rfl⟩)
     all_goals exact Only.intro _ _
    refine Only.out ?_
    have HG:Hid (bits .or .u64 (G f k 3) ((f k)*256 ^ (k % 8))=G f (k+1) 3):=by have h:=G_step (f:=f) (fun i=>HF.out _) k;rw [HQ.out] at h;exact h
    clear hc hz hd hx hg
    go_wp2_with fail
    go_roundg (64-(k+1))
    case measure=>omega
    case rel=>exact ⟨k+1,rfl,by omega,by go_num,((HR.out.store 3 (by omega) _).congr (word_step HG.out (fun e=>G_other _ (by rw [HQ.out];exact e)))).drew,(HZ.out.other (by omega)).drew,K.drew (K.set HB.out (by simp) _)⟩
   ·have HQ:Hid (k / 8=4):=hq
    have hqi:(k:Int) / 8=4:=by omega
    have hg:=G_bd (f:=f) (fun i=>HF.out _) k 4
    have hc:=HR.out.c 4 (by omega)
    have hz:=HR.out.z 4 (by omega)
    clear hq
    go_upto_region 7 with fail
    apply wp_mono (Q:=Only _ _)
    ·go_region_with (go_at_call 59;with_reducible refine Calls.mono (lift_any (f k) hx.1 hx.2 k (by omega) _) ?_;rintro e w' ⟨rfl,rfl⟩)
     all_goals exact Only.intro _ _
    refine Only.out ?_
    have HG:Hid (bits .or .u64 (G f k 4) ((f k)*256 ^ (k % 8))=G f (k+1) 4):=by have h:=G_step (f:=f) (fun i=>HF.out _) k;rw [HQ.out] at h;exact h
    clear hc hz hd hx hg
    go_wp2_with fail
    go_roundg (64-(k+1))
    case measure=>omega
    case rel=>exact ⟨k+1,rfl,by omega,by go_num,((HR.out.store 4 (by omega) _).congr (word_step HG.out (fun e=>G_other _ (by rw [HQ.out];exact e)))).drew,(HZ.out.other (by omega)).drew,K.drew (K.set HB.out (by simp) _)⟩
   ·have HQ:Hid (k / 8=5):=hq
    have hqi:(k:Int) / 8=5:=by omega
    have hg:=G_bd (f:=f) (fun i=>HF.out _) k 5
    have hc:=HR.out.c 5 (by omega)
    have hz:=HR.out.z 5 (by omega)
    clear hq
    go_upto_region 7 with fail
    apply wp_mono (Q:=Only _ _)
    ·go_region_with (go_at_call 59;with_reducible refine Calls.mono (lift_any (f k) hx.1 hx.2 k (by omega) _) ?_;rintro e w' ⟨rfl,rfl⟩)
     all_goals exact Only.intro _ _
    refine Only.out ?_
    have HG:Hid (bits .or .u64 (G f k 5) ((f k)*256 ^ (k % 8))=G f (k+1) 5):=by have h:=G_step (f:=f) (fun i=>HF.out _) k;rw [HQ.out] at h;exact h
    clear hc hz hd hx hg
    go_wp2_with fail
    go_roundg (64-(k+1))
    case measure=>omega
    case rel=>exact ⟨k+1,rfl,by omega,by go_num,((HR.out.store 5 (by omega) _).congr (word_step HG.out (fun e=>G_other _ (by rw [HQ.out];exact e)))).drew,(HZ.out.other (by omega)).drew,K.drew (K.set HB.out (by simp) _)⟩
   ·have HQ:Hid (k / 8=6):=hq
    have hqi:(k:Int) / 8=6:=by omega
    have hg:=G_bd (f:=f) (fun i=>HF.out _) k 6
    have hc:=HR.out.c 6 (by omega)
    have hz:=HR.out.z 6 (by omega)
    clear hq
    go_upto_region 7 with fail
    apply wp_mono (Q:=Only _ _)
    ·go_region_with (go_at_call 59;with_reducible refine Calls.mono (lift_any (f k) hx.1 hx.2 k (by omega) _) ?_;rintro e w' ⟨rfl,rfl⟩)
     all_goals exact Only.intro _ _
    refine Only.out ?_
    have HG:Hid (bits .or .u64 (G f k 6) ((f k)*256 ^ (k % 8))=G f (k+1) 6):=by have h:=G_step (f:=f) (fun i=>HF.out _) k;rw [HQ.out] at h;exact h
    clear hc hz hd hx hg
    go_wp2_with fail
    go_roundg (64-(k+1))
    case measure=>omega
    case rel=>exact ⟨k+1,rfl,by omega,by go_num,((HR.out.store 6 (by omega) _).congr (word_step HG.out (fun e=>G_other _ (by rw [HQ.out];exact e)))).drew,(HZ.out.other (by omega)).drew,K.drew (K.set HB.out (by simp) _)⟩
   ·have HQ:Hid (k / 8=7):=hq
    have hqi:(k:Int) / 8=7:=by omega
    have hg:=G_bd (f:=f) (fun i=>HF.out _) k 7
    have hc:=HR.out.c 7 (by omega)
    have hz:=HR.out.z 7 (by omega)
    clear hq
    go_upto_region 7 with fail
    apply wp_mono (Q:=Only _ _)
    ·go_region_with (go_at_call 59;with_reducible refine Calls.mono (lift_any (f k) hx.1 hx.2 k (by omega) _) ?_;rintro e w' ⟨rfl,rfl⟩)
     all_goals exact Only.intro _ _
    refine Only.out ?_
    have HG:Hid (bits .or .u64 (G f k 7) ((f k)*256 ^ (k % 8))=G f (k+1) 7):=by have h:=G_step (f:=f) (fun i=>HF.out _) k;rw [HQ.out] at h;exact h
    clear hc hz hd hx hg
    go_wp2_with fail
    go_roundg (64-(k+1))
    case measure=>omega
    case rel=>exact ⟨k+1,rfl,by omega,by go_num,((HR.out.store 7 (by omega) _).congr (word_step HG.out (fun e=>G_other _ (by rw [HQ.out];exact e)))).drew,(HZ.out.other (by omega)).drew,K.drew (K.set HB.out (by simp) _)⟩
  ·obtain rfl:k=64:=by omega
   have c0:=hR.c 0 (by omega)
   have c1:=hR.c 1 (by omega)
   have c2:=hR.c 2 (by omega)
   have c3:=hR.c 3 (by omega)
   have c4:=hR.c 4 (by omega)
   have c5:=hR.c 5 (by omega)
   have c6:=hR.c 6 (by omega)
   have c7:=hR.c 7 (by omega)
   have z0:=hZ.c 0 (by omega)
   have z1:=hZ.c 1 (by omega)
   have z2:=hZ.c 2 (by omega)
   have z3:=hZ.c 3 (by omega)
   have z4:=hZ.c 4 (by omega)
   have z5:=hZ.c 5 (by omega)
   have z6:=hZ.c 6 (by omega)
   have z7:=hZ.c 7 (by omega)
   have y0:=hZ.z 0 (by omega)
   have y1:=hZ.z 1 (by omega)
   have y2:=hZ.z 2 (by omega)
   have y3:=hZ.z 3 (by omega)
   have y4:=hZ.z 4 (by omega)
   have y5:=hZ.z 5 (by omega)
   have y6:=hZ.z 6 (by omega)
   have y7:=hZ.z 7 (by omega)
   have zl:=hZ.lt
   have cl:=hR.lt
   rw [G_full _ (show 8*0+8≤64 by omega)] at c0
   rw [G_full _ (show 8*1+8≤64 by omega)] at c1
   rw [G_full _ (show 8*2+8≤64 by omega)] at c2
   rw [G_full _ (show 8*3+8≤64 by omega)] at c3
   rw [G_full _ (show 8*4+8≤64 by omega)] at c4
   rw [G_full _ (show 8*5+8≤64 by omega)] at c5
   rw [G_full _ (show 8*6+8≤64 by omega)] at c6
   rw [G_full _ (show 8*7+8≤64 by omega)] at c7
   clear hR hZ
   go_wp2_with fail
   exact bodyPost_ret (v:=.tuple #[.agg #[.int .u64 (E f 0 8),.int .u64 (E f 8 8),.int .u64 (E f 16 8),.int .u64 (E f 24 8),.int .u64 (E f 32 8),.int .u64 (E f 40 8),.int .u64 (E f 48 8),.int .u64 (E f 56 8)],.bool true]) (by simp [results,Tryd.results42,go_sem,z0,z1,z2,z3,z4,z5,z6,z7]) rfl ⟨rfl,K.set (K.set (K.set (K.set (K.set (K.set (K.set (K.set (hB) (by simp) _) (by simp) _) (by simp) _) (by simp) _) (by simp) _) (by simp) _) (by simp) _) (by simp) _⟩
end Go.Proofs.YtjaahnlpnkcimaaDoor
namespace Go.Proofs.YtjaahnlpnkcimaaDoor
set_option maxRecDepth 100000
def md (k:Int):Int:=if k=0 then 115792089210356248762697446949407573530086143415290314195533631308867097853951 else if k=1 then 115792089210356248762697446949407573529996955224135760342422259061068512044369 else if k=2 then 57896044618658097711785492504343953926634992332820282019728792003956564819949 else if k=3 then 7237005577332262213973186563042994240857116359379907606001950938285454250989 else 0
theorem md_num (k:Int):Num (md k):=by
 unfold md
 (repeat' split) <;> exact ⟨by omega,by unfold M;omega⟩
theorem mod_low {s m:Int} (h0:0≤s) (h:s<m):s % m=s:=Int.emod_eq_of_lt h0 h
theorem mod_once {s m:Int} (h0:m≤s) (h:s<m+m):s % m=s-m:=by
 have e:s % m=(s-m) % m:=by rw [Int.sub_emod_right]
 rw [e];exact Int.emod_eq_of_lt (by omega) (by omega)
theorem md_0_0:L 0 (md 0)=18446744073709551615:=by decide
theorem md_0_1:L 1 (md 0)=4294967295:=by decide
theorem md_0_2:L 2 (md 0)=0:=by decide
theorem md_0_3:L 3 (md 0)=18446744069414584321:=by decide
theorem md_1_0:L 0 (md 1)=17562291160714782033:=by decide
theorem md_1_1:L 1 (md 1)=13611842547513532036:=by decide
theorem md_1_2:L 2 (md 1)=18446744073709551615:=by decide
theorem md_1_3:L 3 (md 1)=18446744069414584320:=by decide
theorem md_2_0:L 0 (md 2)=18446744073709551597:=by decide
theorem md_2_1:L 1 (md 2)=18446744073709551615:=by decide
theorem md_2_2:L 2 (md 2)=18446744073709551615:=by decide
theorem md_2_3:L 3 (md 2)=9223372036854775807:=by decide
theorem md_3_0:L 0 (md 3)=6346243789798364141:=by decide
theorem md_3_1:L 1 (md 3)=1503914060200516822:=by decide
theorem md_3_2:L 2 (md 3)=0:=by decide
theorem md_3_3:L 3 (md 3)=1152921504606846976:=by decide
theorem md_none {k:Int} (h:k<0∨3<k):md k=0:=by unfold md;(repeat' split) <;> omega
theorem L_zero (i:Nat):L i 0=0:=by simp [L]
theorem md_cases {k:Int} (h:0≤k∧k≤3):k=0∨k=1∨k=2∨k=3:=by omega
theorem md_pos {k:Int} (h:0≤k∧k≤3):0<md k:=by
 rcases md_cases h with rfl | rfl | rfl | rfl <;> decide
theorem md_odd {k:Int} (h:0≤k∧k≤3):(L 0 (md k) == 0)=false:=by
 rcases md_cases h with rfl | rfl | rfl | rfl <;> decide
end Go.Proofs.YtjaahnlpnkcimaaDoor
namespace Go.Proofs.YtjaahnlpnkcimaaDoor
set_option maxRecDepth 100000
open Go.RowKit
attribute [local go_sem ↓] Go.wp_at_zero Go.wp_at_succ
theorem lead_0 (w:World):Calls Tryd.prog 94 #[.int .u64 18446744069414584321] w fun e w'=>e=.returned (.int .i64 0)∧w'=w:=by
 go_enter Tryd.func94,Tryd.ntmps94
 go_wp2
 go_ret
 exact ⟨by kernel_rfl,rfl⟩
theorem lead_1 (w:World):Calls Tryd.prog 94 #[.int .u64 18446744069414584320] w fun e w'=>e=.returned (.int .i64 0)∧w'=w:=by
 go_enter Tryd.func94,Tryd.ntmps94
 go_wp2
 go_ret
 exact ⟨by kernel_rfl,rfl⟩
theorem lead_2 (w:World):Calls Tryd.prog 94 #[.int .u64 9223372036854775807] w fun e w'=>e=.returned (.int .i64 1)∧w'=w:=by
 go_enter Tryd.func94,Tryd.ntmps94
 go_wp2
 go_ret
 exact ⟨by kernel_rfl,rfl⟩
theorem lead_3 (w:World):Calls Tryd.prog 94 #[.int .u64 1152921504606846976] w fun e w'=>e=.returned (.int .i64 3)∧w'=w:=by
 go_enter Tryd.func94,Tryd.ntmps94
 go_wp2
 go_ret
 exact ⟨by kernel_rfl,rfl⟩
theorem or_apart (x d:Int) (s:Nat) (hx:0≤x) (hd:0≤d) (hd2:d<2 ^ s) (h:x*2 ^ s+d<18446744073709551616):bits .or .u64 (x*2 ^ s) d=x*2 ^ s+d:=by
 obtain ⟨x,rfl⟩:=Int.eq_ofNat_of_zero_le hx
 obtain ⟨d,rfl⟩:=Int.eq_ofNat_of_zero_le hd
 have hd3:d<2 ^ s:=by exact_mod_cast hd2
 have e:((x:Int)*2 ^ s)=((x*2 ^ s:Nat):Int):=by simp
 rw [e] at h ⊢
 have h3:x*2 ^ s+d<18446744073709551616:=by omega
 rw [u64_or_nat _ _ (by omega) (by omega),Nat.mul_comm,← Nat.two_pow_add_eq_or_of_lt hd3]
 simp
theorem or_nothing (x:Int) (hx:0≤x) (h:x<18446744073709551616):bits .or .u64 x 0=x:=by
 obtain ⟨x,rfl⟩:=Int.eq_ofNat_of_zero_le hx
 have:=u64_or_nat x 0 (by omega) (by omega)
 rwa [Nat.or_zero] at this
theorem tdiv_pos {u y:Int} (hu:0≤u):u.tdiv y=u / y:=Int.tdiv_eq_ediv_of_nonneg hu
end Go.Proofs.YtjaahnlpnkcimaaDoor
