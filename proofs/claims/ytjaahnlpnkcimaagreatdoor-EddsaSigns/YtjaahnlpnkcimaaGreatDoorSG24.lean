/- What the document's own Decode of layer 9 answers. What the document's own Decode of layer 9 answers: the point whose bytes these are, if there is one. Bytes as lists: their number, their hash, and parts of texts in memory. Walks by states: bits of bytes and words. Bits that are set and taken by masks; a number's bytes, three bits taken and one set. Points of four numbers (X : Y : Z : T) with X Y = Z T, added by one formula: they are the points of the second curve. What the program's own functions of layer 9 answer. -/
import Derived.Test.YtjaahnlpnkcimaaGreatDoorSG23
import Derived.Test.YtjaahnlpnkcimaaGreatDoorSG02
import Derived.Test.YtjaahnlpnkcimaaGreatDoorSG22
import Derived.Test.YtjaahnlpnkcimaaGreatDoorSG04
import Derived.Test.YtjaahnlpnkcimaaGreatDoorSG05
import Derived.Test.YtjaahnlpnkcimaaGreatDoorSG06
import Derived.Test.YtjaahnlpnkcimaaGreatDoorSG19
import Derived.Test.YtjaahnlpnkcimaaGreatDoorSG20
set_option maxRecDepth 100000
set_option maxHeartbeats 8000000
namespace Go.Proofs.YtjaahnlpnkcimaaGreatDoor
set_option maxRecDepth 100000
open Go.RowKit
end Go.Proofs.YtjaahnlpnkcimaaGreatDoor
namespace Go.Proofs.YtjaahnlpnkcimaaGreatDoor
set_option maxRecDepth 100000
open Go.RowKit
structure LN (f:Nat→Nat) (u:Nat):Prop where
 lt:u<2 ^ 256
 at_:∀ i,i<32→Y i (u:Int)=((f i:Nat):Int)
theorem num_nat {u:Nat} (h:u<2 ^ 256):Num (u:Int):=⟨by omega,by unfold M;omega⟩
theorem low_is {u:Nat} (h:u<2 ^ 256):((u:Nat):Int)=((u % 2 ^ 255:Nat):Int)+2 ^ 255*((u / 2 ^ 255:Nat):Int)∧(u / 2 ^ 255=0∨u / 2 ^ 255=1)∧u % 2 ^ 255<2 ^ 255:=by
 have h1:=Nat.mod_add_div u (2 ^ 255)
 have h2:u % 2 ^ 255<2 ^ 255:=Nat.mod_lt _ (by decide)
 refine ⟨?_,by omega,h2⟩
 rw [show (2:Int) ^ 255=((2 ^ 255:Nat):Int) from rfl]
 omega
theorem LN.low {f:Nat→Nat} {u:Nat} (h:LN f u):by31 (fun i=>((f i:Nat):Int)) ((fun i=>((f i:Nat):Int)) 31 % 128)=by32 (fun i=>Y i ((u % 2 ^ 255:Nat):Int)):=by
 obtain ⟨e,hs,hl⟩:=low_is h.lt
 have hl':((u % 2 ^ 255:Nat):Int)<2 ^ 255:=by
  rw [show (2:Int) ^ 255=((2 ^ 255:Nat):Int) from rfl]
  omega
 have h0:(0:Int)≤((u % 2 ^ 255:Nat):Int):=by omega
 refine by31_ext ?_ ?_
 ·intro i hi
  show ((f i:Nat):Int)=_
  rw [← h.at_ i (by omega),e,Y_low _ _ hi]
 ·show ((f 31:Nat):Int) % 128=_
  rw [← h.at_ 31 (by omega),e,Y_high h0 hl' (by omega)]
  obtain ⟨a,b,_⟩:=Y_top h0 hl'
  omega
end Go.Proofs.YtjaahnlpnkcimaaGreatDoor
namespace Go.Proofs.YtjaahnlpnkcimaaGreatDoor
set_option maxRecDepth 100000
open Go.RowKit
def nle:List Nat→Nat
 | []=>0
 | x :: l=>x+256*nle l
theorem nle_lt:∀ {l:List Nat},(∀ x ∈ l,x<256)→nle l<256 ^ l.length
 | [],_=>by decide
 | x :: l,h=>by
  have h1:=h x (by simp)
  have h2:=nle_lt (l:=l) (fun y hy=>h y (by simp [hy]))
  rw [List.length_cons,Nat.pow_succ,nle]
  omega
theorem nle_at:∀ {l:List Nat},(∀ x ∈ l,x<256)→∀ i,nle l / 256 ^ i % 256=l.getD i 0
 | [],_,i=>by simp [nle]
 | x :: l,h,0=>by
  have h1:=h x (by simp)
  simp only [nle,Nat.pow_zero,Nat.div_one,List.getD_cons_zero]
  omega
 | x :: l,h,i+1=>by
  have h1:=h x (by simp)
  have h2:=nle_at (l:=l) (fun y hy=>h y (by simp [hy])) i
  rw [List.getD_cons_succ,← h2,nle,Nat.pow_succ,Nat.mul_comm (256 ^ i) 256,← Nat.div_div_eq_div_mul,show (x+256*nle l) / 256=nle l by omega]
theorem Y_nat (u i:Nat):Y i (u:Int)=((u / 256 ^ i % 256:Nat):Int):=by
 unfold Y
 push_cast
 rfl
theorem nle_Y {l:List Nat} (h:∀ x ∈ l,x<256) (i:Nat):Y i ((nle l:Nat):Int)=((l.getD i 0:Nat):Int):=by rw [Y_nat,nle_at h]
theorem nle_ln {l:List Nat} (h:∀ x ∈ l,x<256) (hl:l.length=32):LN (fun i=>l.getD i 0) (nle l):=⟨by have:=nle_lt h;rw [hl] at this;exact Nat.lt_of_lt_of_eq this (by decide),fun i _=>nle_Y h i⟩
theorem LN.of {f g:Nat→Nat} {u:Nat} (h:LN f u) (e:∀ i,i<32→f i=g i):LN g u:=⟨h.lt,fun i hi=>by rw [h.at_ i hi,e i hi]⟩
theorem getD_fl {f:Nat→Nat} {n i:Nat} (h:i<n):(fl f n).getD i 0=f i:=by rw [List.getD_eq_getElem?_getD,fl_at f h];rfl
theorem gD_lt {l:List Nat} (h:∀ x ∈ l,x<256) (i:Nat):l.getD i 0<256:=by
 rw [List.getD_eq_getElem?_getD]
 cases hi:l[i]? with
 | none=>decide
 | some x=>exact h x (List.mem_of_getElem? hi)
def by64 (f:Nat→Int):List Value:=by32 f++by32 (fun i=>f (32+i))
theorem by64_at (f:Nat→Int) (i:Nat) (h:i<64):(by64 f)[i]?=some (.int .u8 (f i)):=by
 unfold by64
 rw [List.getElem?_append]
 split
 ·rename_i hi
  exact by32_at f i (by rw [by32_len] at hi;exact hi)
 ·rename_i hi
  rw [by32_len] at hi ⊢
  rw [by32_at _ (i-32) (by omega),show 32+(i-32)=i by omega]
theorem rd_by64 {w:World} {b:Nat} {f:Nat→Int} (h:w.rangeAt b 0 (by64 f)):Rd w b 0 64 f:=⟨fun i hi=>h i _ (by64_at f i hi)⟩
def hsh (l:List Nat):List Nat:=fl (Sx.hByte (Sx.hashS (fun i=>l.getD i 0) l.length)) 64
theorem hb6_lt (s:Sx.St) (i:Nat):Sx.hByte s i<256:=Nat.mod_lt _ (by decide)
theorem hsh_len (l:List Nat):(hsh l).length=64:=fl_len _ _
theorem hsh_lt (l:List Nat):∀ x ∈ hsh l,x<256:=fl_lt (fun i=>hb6_lt _ i) 64
abbrev bz (l:List Nat) (i:Nat):Int:=((l.getD i 0:Nat):Int)
theorem bz_bd {l:List Nat} (h:∀ x ∈ l,x<256) (i:Nat):0≤bz l i∧bz l i<256:=⟨by unfold bz;omega,by have:=gD_lt h i;unfold bz;omega⟩
theorem ab_hsh (l:List Nat):Sx.ab (Sx.hByte (Sx.hashS (fun i=>l.getD i 0) l.length)) 64=by64 (bz (hsh l)):=by
 apply List.ext_getElem?
 intro i
 rcases Nat.lt_or_ge i 64 with hi | hi
 ·rw [by64_at _ i hi]
  unfold bz hsh
  rw [getD_fl hi]
  simp [Sx.ab,hi]
 ·rw [List.getElem?_eq_none (by simp [Sx.ab];exact hi),List.getElem?_eq_none (by show (by32 _++by32 _).length≤i;rw [List.length_append,by32_len,by32_len];exact hi)]
theorem ba_sx {w:World} {z:Option Addr} {n:Nat} {f:Nat→Nat} (h:BA w z n f):Sx.BA w z n f:=⟨h.lt,h.at_.imp id fun ⟨b,o,e,hr⟩=>⟨b,o,e,⟨hr.c⟩⟩⟩
theorem BA.of {w:World} {z:Option Addr} {n:Nat} {f g:Nat→Nat} (h:BA w z n f) (hg:∀ i,g i<256) (e:∀ i,i<n→f i=g i):BA w z n g :=
 ⟨hg,h.at_.imp id fun ⟨b,o,e1,hr⟩=>⟨b,o,e1,⟨fun i hi=>by rw [hr.c i hi,e i hi]⟩⟩⟩
def Pt (w:World) (v:Value) (l:List Nat):Prop:=∃ z c,v=.slice z l.length c∧l.length≤c∧c≤maxLen∧BA w z l.length (fun i=>l.getD i 0)
theorem Pt.keep {w w':World} {v:Value} {l:List Nat} (h:Pt w v l) (hb:Below w.heap.size w w'):Pt w' v l:=let ⟨z,c,h1,h2,h3,h4⟩:=h;⟨z,c,h1,h2,h3,h4.keep hb⟩
theorem pt_ba {w:World} {z:Option Addr} {n c:Nat} {f:Nat→Nat} (h:BA w z n f) (hc:n≤c) (hm:c≤maxLen):Pt w (.slice z n c) (fl f n) :=
 ⟨z,c,by rw [fl_len],by rw [fl_len];exact hc,hm,by rw [fl_len];exact h.of (gD_lt (fl_lt h.lt n)) (fun i hi=>(getD_fl hi).symm)⟩
theorem pt_nil (w:World):Pt w (.slice none 0 0) []:=⟨none,0,rfl,Nat.le_refl _,Nat.zero_le _,⟨fun i=>by simp,Or.inl rfl⟩⟩
theorem pt_rm {n:Nat} {l:List Nat} {v:Value} {F:Nat→Bool} {w:World} (h:(rmPd n l).p v F w):Pt w v l:=by
 obtain ⟨z,c,h1,h2,h3,h4,h5⟩:=rm_ba h
 subst h4
 exact ⟨z,c,h1,h2,h3,h5⟩
theorem pt_rd {w:World} {b o c:Nat} {l:List Nat} (h:Rd w b o l.length (bz l)) (hl:∀ x ∈ l,x<256) (hc:l.length≤c) (hm:c≤maxLen):Pt w (.slice (some ⟨b,o,none⟩) l.length c) l:=⟨_,c,rfl,hc,hm,gD_lt hl,Or.inr ⟨b,o,rfl,h⟩⟩
def Pts (w:World):List Value→List (List Nat)→Prop
 | [],[]=>True
 | v :: vs,l :: ls=>Pt w v l∧Pts w vs ls
 | _,_=>False
theorem Pts.keep {w w':World} (hb:Below w.heap.size w w'):∀ {vs:List Value} {ls:List (List Nat)},Pts w vs ls→Pts w' vs ls
 | [],[],_=>trivial
 | _ :: _,_ :: _,h=>⟨h.1.keep hb,Pts.keep hb h.2⟩
theorem Pts.len {w:World}:∀ {vs:List Value} {ls:List (List Nat)},Pts w vs ls→vs.length=ls.length
 | [],[],_=>rfl
 | _ :: _,_ :: _,h=>by rw [List.length_cons,List.length_cons,Pts.len h.2]
theorem Pts.at {w:World}:∀ {vs:List Value} {ls:List (List Nat)},Pts w vs ls→∀ i v,vs[i]?=some v→Pt w v (ls.getD i [])
 | v :: vs,l :: ls,h,0,u,e=>by
  cases e
  exact h.1
 | v :: vs,l :: ls,h,i+1,u,e=>by
  rw [List.getD_cons_succ]
  exact Pts.at h.2 i u e
def slA:Value→Option Addr
 | .slice z _ _=>z
 | _=>none
def slC:Value→Nat
 | .slice _ _ c=>c
 | _=>0
theorem cat6 {l1 l2:List Nat}:Sx.cat (fun i=>l1.getD i 0) l1.length (fun i=>l2.getD i 0)=fun i=>(l1++l2).getD i 0:=by
 funext i
 unfold Sx.cat
 show (if i<l1.length then l1.getD i 0 else l2.getD (i-l1.length) 0)=(l1++l2).getD i 0
 rw [List.getD_eq_getElem?_getD,List.getD_eq_getElem?_getD,List.getD_eq_getElem?_getD,List.getElem?_append]
 split <;> rfl
theorem cats (ls:List (List Nat)):∀ k,k≤ls.length→Sx.lenF (fun i=>(ls.getD i []).length) k=((ls.take k).flatten).length∧Sx.catF (fun i=>(ls.getD i []).length) (fun i j=>(ls.getD i []).getD j 0) k=fun j=>((ls.take k).flatten).getD j 0
 | 0,_=>⟨rfl,rfl⟩
 | k+1,h=>by
  obtain ⟨h1,h2⟩:=cats ls k (by omega)
  have e:ls.take (k+1)=ls.take k++[ls.getD k []]:=by
   rw [List.take_add_one,List.getElem?_eq_getElem (by omega),List.getD_eq_getElem?_getD,List.getElem?_eq_getElem (by omega)]
   rfl
  refine ⟨?_,?_⟩
  ·rw [e,List.flatten_append,List.length_append,Sx.lenF,h1]
   simp
  ·rw [e,List.flatten_append,Sx.catF,h1,h2,cat6]
   simp
theorem sumL {w:World} (hH:Sx.Tab w) {b c:Nat} {vs:List Value} {ls:List (List Nat)} (hp:Pts w vs ls) (hc:∀ i v,vs[i]?=some v→w.cell? ⟨b,i,none⟩=some v) (hk:vs.length≤1000) (hl:ls.flatten.length≤200000) {k:Nat} (hkk:vs.length=k) :
  Calls Tryz.prog 35 #[.slice (some ⟨b,0,none⟩) k c] w fun e w'=>e=.returned (.agg (by64 (bz (hsh ls.flatten))).toArray)∧Below w.heap.size w w':=by
 subst hkk
 obtain ⟨e1,e2⟩:=cats ls ls.length (Nat.le_refl _)
 rw [List.take_length,← hp.len] at e1 e2
 have hat:∀ i,i<vs.length→∃ v,vs[i]?=some v:=fun i hi=>⟨_,List.getElem?_eq_getElem hi⟩
 have q:=Sx.sum_any (c:=c) (x:=some ⟨b,0,none⟩) (k:=vs.length) (A:=fun i=>slA (vs.getD i undef)) (L:=fun i=>(ls.getD i []).length) (C:=fun i=>slC (vs.getD i undef)) (G:=fun i j=>(ls.getD i []).getD j 0) hH ⟨fun i hi=>?_,fun i hi=>?_,Or.inr ⟨b,0,rfl,fun i hi=>?_⟩⟩ (by omega) (by rw [e1];exact hl)
 ·rw [e1,e2,ab_hsh] at q
  exact q
 ·obtain ⟨v,hv⟩:=hat i hi
  obtain ⟨z,cc,h1,_,_,h4⟩:=hp.at i v hv
  have e:slA (vs.getD i undef)=z:=by rw [List.getD_eq_getElem?_getD,hv,Option.getD_some,h1];rfl
  rw [e]
  exact ba_sx h4
 ·obtain ⟨v,hv⟩:=hat i hi
  obtain ⟨z,cc,h1,h2,h3,_⟩:=hp.at i v hv
  have e:slC (vs.getD i undef)=cc:=by rw [List.getD_eq_getElem?_getD,hv,Option.getD_some,h1];rfl
  rw [e]
  exact ⟨h2,h3⟩
 ·obtain ⟨v,hv⟩:=hat i hi
  obtain ⟨z,cc,h1,_⟩:=hp.at i v hv
  have e:vs.getD i undef=v:=by rw [List.getD_eq_getElem?_getD,hv];rfl
  rw [Nat.zero_add,hc i v hv,e,h1]
  rfl
theorem lc_of {w:World} {ss:List SV} {β:Nat→Loc} {ls:List (List Nat)} {F:Nat} {r:Value} {k:Nat} (hp:Pts w (ss.map (SV.at β)) ls) (hk:ss.length=k)
  (hC:∀ {w1:World} {b:Nat},Below w.heap.size w w1→Pts w1 (ss.map (SV.at β)) ls→(∀ i v,(ss.map (SV.at β))[i]?=some v→w1.cell? ⟨b,i,none⟩=some v)→(ss.map (SV.at β)).length=k→Calls Tryz.prog F #[.slice (some ⟨b,0,none⟩) k k] w1 fun e w'=>e=.returned r∧Below w1.heap.size w1 w') :
  (∀ s ∈ ss,∃ z m c,s.at β=.slice z m c)∧Calls Tryz.prog F #[.slice (some ⟨w.heap.size,0,none⟩) k k] (w.alloc (.cells (ss.map (SV.at β)).toArray 24)) fun e w'=>e=.returned r∧Below (w.heap.size+1) (w.alloc (.cells (ss.map (SV.at β)).toArray 24)) w':=by
 refine ⟨fun s hs=>?_,?_⟩
 ·obtain ⟨i,hi,e⟩:=List.mem_iff_getElem.1 hs
  obtain ⟨z,c,h1,_⟩:=hp.at i (s.at β) (by rw [List.getElem?_map,List.getElem?_eq_getElem hi,e];rfl)
  exact ⟨z,_,c,h1⟩
 ·have hb:Below w.heap.size w (w.alloc (.cells (ss.map (SV.at β)).toArray 24)):=Below.alloc (Below.refl _ w) (Nat.le_refl _) _
  have q:=hC (b:=w.heap.size) hb (hp.keep hb) (fun i v hv=>by
   have:=cell_of_row (w.alloc (.cells (ss.map (SV.at β)).toArray 24)) w.heap.size i (ss.map (SV.at β)).toArray 24 (0,0) (heap_alloc_new w _)
   rw [this]
   simpa using hv) (by rw [List.length_map];exact hk)
  rw [show (w.alloc (.cells (ss.map (SV.at β)).toArray 24)).heap.size=w.heap.size+1 by simp] at q
  exact q
end Go.Proofs.YtjaahnlpnkcimaaGreatDoor
namespace Go.Proofs.YtjaahnlpnkcimaaGreatDoor
set_option maxRecDepth 100000
open Go.RowKit
theorem or_top8:∀ a:Fin 128,(BitVec.ofInt 8 (a.val:Int) ||| BitVec.ofInt 8 128).toNat=a.val+128:=by decide +kernel
theorem i_orB {P:Program} (ty:TypeId) (a c:Int) (h0:0≤a) (h1:a<128) (hc:c=a+128) (w:World):(binOp .or ty (.int .u8 a) (.int .u8 128)).run P w=.ok (.int .u8 c) w:=by
 have h:=or_top8 ⟨a.toNat,by omega⟩
 simp only [Int.toNat_of_nonneg h0] at h
 have e:(Op.intBits .or .u8 a 128).run P w=.ok (.int .u8 c) w:=by
  show Result.ok (Value.int .u8 (IntKind.u8.wrap ((BitVec.ofInt 8 a ||| BitVec.ofInt 8 128).toNat:Int))) w=_
  rw [h]
  have:((a.toNat+128:Nat):Int)=c:=by omega
  rw [this,wrapB (by omega)]
 simpa [binOp] using e
end Go.Proofs.YtjaahnlpnkcimaaGreatDoor
namespace Go.Proofs.YtjaahnlpnkcimaaGreatDoor
set_option maxRecDepth 100000
open Go.RowKit
theorem and_low (a:Nat) (h:a<2 ^ 64):a &&& ((2 ^ 61-1) <<< 3)=a / 8*8:=by
 have e:a / 8*8=(a >>> 3) <<< 3:=by rw [Nat.shiftRight_eq_div_pow,Nat.shiftLeft_eq]
 rw [e]
 apply Nat.eq_of_testBit_eq
 intro i
 rw [Nat.testBit_and,Nat.testBit_shiftLeft,Nat.testBit_shiftLeft,Nat.testBit_shiftRight,Nat.testBit_two_pow_sub_one]
 by_cases h3:i ≥ 3
 ·rw [show 3+(i-3)=i by omega]
  by_cases h6:i<64
  ·simp [h3,show i-3<61 by omega]
  ·rw [Nat.testBit_lt_two_pow (Nat.lt_of_lt_of_le h (Nat.pow_le_pow_right (by decide) (by omega)))]
   simp
 ·simp [h3]
theorem or_next (a:Nat) (h:a<2 ^ 63):a ||| 2 ^ 62=a % 2 ^ 62+2 ^ 62:=by
 have q:=Nat.two_pow_add_eq_or_of_lt (i:=62) (b:=a % 2 ^ 62) (Nat.mod_lt _ (by decide)) 1
 rw [Nat.mul_one] at q
 rw [Nat.add_comm,q]
 apply Nat.eq_of_testBit_eq
 intro i
 rw [Nat.testBit_or,Nat.testBit_or,Nat.testBit_mod_two_pow,Nat.testBit_two_pow]
 by_cases h1:i<62
 ·simp [h1,show ¬ 62=i by omega]
 ·by_cases h2:i=62
  ·subst h2;simp
  ·rw [Nat.testBit_lt_two_pow (Nat.lt_of_lt_of_le h (Nat.pow_le_pow_right (by decide) (by omega)))]
   simp [show ¬ 62=i by omega]
theorem ofI {a:Int} (h0:0≤a) (h1:a<18446744073709551616):(BitVec.ofInt 64 a).toNat=a.toNat:=by
 rw [BitVec.toNat_ofInt]
 congr 1
 rw [Int.emod_eq_of_lt h0 (by simpa using h1)]
theorem i_not7 {P:Program} (ty:TypeId) (a c:Int) (h0:0≤a) (h1:a<18446744073709551616) (hc:c=a / 8*8) (w:World):(binOp .andNot ty (.int .u64 a) (.int .u64 7)).run P w=.ok (.int .u64 c) w:=by
 have h:(BitVec.ofInt 64 a &&& ~~~ (BitVec.ofInt 64 7)).toNat=a.toNat / 8*8:=by
  rw [BitVec.toNat_and,ofI h0 h1,show (~~~ (BitVec.ofInt 64 7)).toNat=(2 ^ 61-1) <<< 3 by decide +kernel]
  exact and_low _ (by omega)
 have e:(Op.intBits .andNot .u64 a 7).run P w=.ok (.int .u64 c) w:=by
  show Result.ok (Value.int .u64 (IntKind.u64.wrap ((BitVec.ofInt 64 a &&& ~~~ (BitVec.ofInt 64 7)).toNat:Int))) w=_
  rw [h]
  have:((a.toNat / 8*8:Nat):Int)=c:=by omega
  rw [this,wrapW (by omega)]
 simpa [binOp] using e
theorem i_not63 {P:Program} (ty:TypeId) (a c:Int) (h0:0≤a) (h1:a<18446744073709551616) (hc:c=a % 9223372036854775808) (w:World):(binOp .andNot ty (.int .u64 a) (.int .u64 9223372036854775808)).run P w=.ok (.int .u64 c) w:=by
 have h:(BitVec.ofInt 64 a &&& ~~~ (BitVec.ofInt 64 9223372036854775808)).toNat=a.toNat % 9223372036854775808:=by
  rw [BitVec.toNat_and,ofI h0 h1,show (~~~ (BitVec.ofInt 64 9223372036854775808)).toNat=2 ^ 63-1 by decide +kernel,Nat.and_two_pow_sub_one_eq_mod]
 have e:(Op.intBits .andNot .u64 a 9223372036854775808).run P w=.ok (.int .u64 c) w:=by
  show Result.ok (Value.int .u64 (IntKind.u64.wrap ((BitVec.ofInt 64 a &&& ~~~ (BitVec.ofInt 64 9223372036854775808)).toNat:Int))) w=_
  rw [h]
  have:((a.toNat % 9223372036854775808:Nat):Int)=c:=by omega
  rw [this,wrapW (by omega)]
 simpa [binOp] using e
theorem i_or62 {P:Program} (ty:TypeId) (a c:Int) (h0:0≤a) (h1:a<9223372036854775808) (hc:c=a % 4611686018427387904+4611686018427387904) (w:World):(binOp .or ty (.int .u64 a) (.int .u64 4611686018427387904)).run P w=.ok (.int .u64 c) w:=by
 have h:(BitVec.ofInt 64 a ||| BitVec.ofInt 64 4611686018427387904).toNat=a.toNat % 4611686018427387904+4611686018427387904:=by
  rw [BitVec.toNat_or,ofI h0 (by omega),show (BitVec.ofInt 64 4611686018427387904).toNat=2 ^ 62 by decide +kernel]
  exact or_next _ (by omega)
 have e:(Op.intBits .or .u64 a 4611686018427387904).run P w=.ok (.int .u64 c) w:=by
  show Result.ok (Value.int .u64 (IntKind.u64.wrap ((BitVec.ofInt 64 a ||| BitVec.ofInt 64 4611686018427387904).toNat:Int))) w=_
  rw [h]
  have:((a.toNat % 4611686018427387904+4611686018427387904:Nat):Int)=c:=by omega
  rw [this,wrapW (by omega)]
 simpa [binOp] using e
def clm (l:List Nat):List Nat:=(l.set 0 (l.getD 0 0 / 8*8)).set 31 (l.getD 31 0 % 64+64)
theorem clm_len {l:List Nat} (h:l.length=32):(clm l).length=32:=by unfold clm;rw [List.length_set,List.length_set,h]
theorem clm_lt {l:List Nat} (h:∀ x ∈ l,x<256):∀ x ∈ clm l,x<256:=lt_set (lt_set h 0 (by have:=gD_lt h 0;omega)) 31 (by omega)
theorem getD_set (l:List Nat) (i j b:Nat) (hi:i<l.length):(l.set i b).getD j 0=if i=j then b else l.getD j 0:=by
 rw [List.getD_eq_getElem?_getD,List.getD_eq_getElem?_getD,List.getElem?_set]
 by_cases e:i=j
 ·subst e;simp [hi]
 ·simp [e]
theorem clm_at {l:List Nat} (h:l.length=32) (j:Nat):(clm l).getD j 0=if 31=j then l.getD 31 0 % 64+64 else if 0=j then l.getD 0 0 / 8*8 else l.getD j 0:=by
 unfold clm
 rw [getD_set _ 31 j _ (by rw [List.length_set,h];decide),getD_set _ 0 j _ (by rw [h];decide)]
theorem E8 (f:Nat→Int) (o:Nat):E f o 8=f o+256*f (o+1)+65536*f (o+2)+16777216*f (o+3)+4294967296*f (o+4)+1099511627776*f (o+5)+281474976710656*f (o+6)+72057594037927936*f (o+7):=by
 simp only [E,Nat.add_zero]
 omega
theorem LN.word {f:Nat→Nat} {u:Nat} (h:LN f u) {j:Nat} (hj:j<4):L j (u:Int)=E (fun i=>((f i:Nat):Int)) (8*j) 8:=by
 rw [← E_word]
 exact E_congr _ _ (fun i hi=>h.at_ _ (by omega))
theorem clm_nc {l:List Nat} (hl:l.length=32) (hlt:∀ x ∈ l,x<256) {U:Nat} (hU:LN (fun i=>l.getD i 0) U):[Value.int .u64 (lw 0 (U:Int) / 8*8)]++[Value.int .u64 (lw 1 (U:Int))]++[Value.int .u64 (lw 2 (U:Int))]++[Value.int .u64 (lw 3 (U:Int) % 9223372036854775808 % 4611686018427387904+4611686018427387904)]=nc ((nle (clm l):Nat):Int):=by
 have hA:=nle_ln (clm_lt hlt) (clm_len hl)
 have b:∀ i:Nat,l[i]?.getD 0<256:=fun i=>by rw [← List.getD_eq_getElem?_getD];exact gD_lt hlt i
 have w0:L 0 ((nle (clm l):Nat):Int)=lw 0 (U:Int) / 8*8:=by
  show _=L 0 (U:Int) / 8*8
  rw [hA.word (j:=0) (by decide),hU.word (j:=0) (by decide),E8,E8]
  simp only [clm_at hl]
  have:=b 0;have:=b 1;have:=b 2;have:=b 3;have:=b 4;have:=b 5;have:=b 6;have:=b 7
  simp
  omega
 have w1:L 1 ((nle (clm l):Nat):Int)=lw 1 (U:Int):=by
  show _=L 1 (U:Int)
  rw [hA.word (j:=1) (by decide),hU.word (j:=1) (by decide),E8,E8]
  simp only [clm_at hl]
  simp
 have w2:L 2 ((nle (clm l):Nat):Int)=lw 2 (U:Int):=by
  show _=L 2 (U:Int)
  rw [hA.word (j:=2) (by decide),hU.word (j:=2) (by decide),E8,E8]
  simp only [clm_at hl]
  simp
 have w3:L 3 ((nle (clm l):Nat):Int)=lw 3 (U:Int) % 9223372036854775808 % 4611686018427387904+4611686018427387904:=by
  show _=L 3 (U:Int) % 9223372036854775808 % 4611686018427387904+4611686018427387904
  rw [hA.word (j:=3) (by decide),hU.word (j:=3) (by decide),E8,E8]
  simp only [clm_at hl]
  have:=b 24;have:=b 25;have:=b 26;have:=b 27;have:=b 28;have:=b 29;have:=b 30;have:=b 31
  simp
  omega
 show _=[Value.int .u64 (L 0 _),Value.int .u64 (L 1 _),Value.int .u64 (L 2 _),Value.int .u64 (L 3 _)]
 rw [w0,w1,w2,w3]
 rfl
end Go.Proofs.YtjaahnlpnkcimaaGreatDoor
namespace Go.Proofs.YtjaahnlpnkcimaaGreatDoor
set_option maxRecDepth 100000
structure X4:Type where
 x:Fin m2
 y:Fin m2
 z:Fin m2
 t:Fin m2
def xdrop (p:X4):Ep m2:=⟨p.x*fiv p.z,p.y*fiv p.z⟩
def xlift (a:Ep m2):X4:=⟨a.x,a.y,1,a.x*a.y⟩
def xadd (p q:X4):X4 :=
 ⟨(p.x*q.y+q.x*p.y)*(p.z*q.z-ed*(p.t*q.t)),(p.z*q.z+ed*(p.t*q.t))*(p.y*q.y+p.x*q.x),
  (p.z*q.z-ed*(p.t*q.t))*(p.z*q.z+ed*(p.t*q.t)),(p.x*q.y+q.x*p.y)*(p.y*q.y+p.x*q.x)⟩
structure Xo (p:X4):Prop where
 z:p.z≠0
 t:p.x*p.y=p.z*p.t
 on:(xdrop p).on ed
def X4.three (p:X4):P3 (Fin m2):=⟨p.x,p.y,p.z⟩
theorem Xo.fo {p:X4} (h:Xo p):Fo p.three:=⟨h.z,h.on⟩
theorem xdrop_lift (a:Ep m2):xdrop (xlift a)=a:=fdrop_lift a
theorem xo_lift {a:Ep m2} (h:a.on ed):Xo (xlift a):=⟨fld2.one,by simp only [xlift];grobner,by rw [xdrop_lift];exact h⟩
theorem fdrop_sc {k x y z:Fin m2} (hk:k≠0) (hz:z≠0):fdrop ⟨k*x,k*y,k*z⟩=fdrop ⟨x,y,z⟩:=by
 have i1:=fld2.inv _ hz
 have i2:=fld2.inv _ (fld2.ne hk hz)
 simp only [fdrop]
 generalize fiv z=i at *
 generalize fiv (k*z)=j at *
 clear hk hz
 have e:k*j=i:=by
  have:k*j*(z*i)=k*z*j*i:=by clear i1 i2;grobner
  rw [i1,i2] at this
  rw [show k*j=k*j*1 by clear i1 i2 this;grobner,this]
  clear i1 i2 this
  grobner
 clear i1 i2
 congr 1
 ·rw [show k*x*j=x*(k*j) by clear e;grobner,e]
 ·rw [show k*y*j=y*(k*j) by clear e;grobner,e]
theorem xadd_three {p q:X4} (hp:Xo p) (hq:Xo q):fadd p.three q.three=⟨p.z*q.z*(p.z*q.z)*(xadd p q).x,p.z*q.z*(p.z*q.z)*(xadd p q).y,p.z*q.z*(p.z*q.z)*(xadd p q).z⟩:=by
 have h1:=hp.t
 have h2:=hq.t
 have e:ed*(p.x*q.x*(p.y*q.y))=p.z*q.z*(ed*(p.t*q.t)):=by
  rw [show p.x*q.x*(p.y*q.y)=p.x*p.y*(q.x*q.y) by clear h1 h2;grobner,h1,h2]
  clear h1 h2
  grobner
 clear h1 h2
 simp only [fadd,X4.three,xadd,e]
 clear e hp hq
 congr 1 <;> grobner
theorem xadd_ok {p q:X4} (hp:Xo p) (hq:Xo q):Xo (xadd p q)∧xdrop (xadd p q)=eadd (xdrop p) (xdrop q):=by
 have hf:=fadd_ok hp.fo hq.fo
 have hc:=fld2.ne (fld2.ne hp.z hq.z) (fld2.ne hp.z hq.z)
 rw [xadd_three hp hq] at hf
 have nz:(xadd p q).z≠0:=fun h=>hf.1.z (by
  show p.z*q.z*(p.z*q.z)*(xadd p q).z=0
  rw [h]
  grobner)
 have key:xdrop (xadd p q)=eadd (xdrop p) (xdrop q):=(fdrop_sc hc nz).symm.trans hf.2
 refine ⟨⟨nz,?_,by rw [key];exact egr.mem hp.on hq.on⟩,key⟩
 simp only [xadd]
 clear hf hc nz key hp hq
 grobner
structure Sums (A:X4→X4→X4):Prop where
 ok:∀ {p q:X4},Xo p→Xo q→Xo (A p q)∧xdrop (A p q)=eadd (xdrop p) (xdrop q)
theorem xadd_sums:Sums xadd:=⟨xadd_ok⟩
def xm (A:X4→X4→X4) (k:Nat) (p:X4):Nat→X4
 | 0=>xlift (Ep.o m2)
 | n+1=>if k / 2 ^ (255-n) % 2=1 then A (A (xm A k p n) (xm A k p n)) p else A (xm A k p n) (xm A k p n)
theorem xm_mt {A:X4→X4→X4} (hA:Sums A) {k:Nat} {p:X4} (hp:Xo p):∀ n,n≤256→Xo (xm A k p n)∧xdrop (xm A k p n)=mt eadd (Ep.o m2) (xdrop p) (k / 2 ^ (256-n) % 2 ^ n)
 | 0,_=>by
  rw [show k / 2 ^ (256-0) % 2 ^ 0=0 by rw [Nat.pow_zero,Nat.mod_one]]
  exact ⟨xo_lift egr.zero,xdrop_lift _⟩
 | n+1,hn=>by
  obtain ⟨h1,h2⟩:=xm_mt hA (k:=k) hp n (by omega)
  have e1:k / 2 ^ (256-(n+1)) % 2 ^ (n+1)=2*(k / 2 ^ (256-n) % 2 ^ n)+k / 2 ^ (255-n) % 2:=by
   rw [show 256-(n+1)=255-n by omega]
   have e2:k / 2 ^ (256-n)=k / 2 ^ (255-n) / 2:=by
    rw [Nat.div_div_eq_div_mul,← Nat.pow_succ]
    congr 2
    omega
   rw [e2]
   generalize k / 2 ^ (255-n)=m
   rw [Nat.pow_succ,Nat.mul_comm (2 ^ n) 2,Nat.mod_mul]
   omega
  obtain ⟨g1,g2⟩:=hA.ok h1 h1
  rw [h2,← mt_two egr hp.on] at g2
  rw [e1]
  by_cases hb:k / 2 ^ (255-n) % 2=1
  ·rw [show xm A k p (n+1)=_ from if_pos hb]
   obtain ⟨f1,f2⟩:=hA.ok g1 hp
   refine ⟨f1,?_⟩
   rw [f2,g2,hb]
   rfl
  ·rw [show xm A k p (n+1)=_ from if_neg hb]
   refine ⟨g1,?_⟩
   rw [g2,show k / 2 ^ (255-n) % 2=0 by omega]
   rfl
theorem xm_all {A:X4→X4→X4} (hA:Sums A) {k:Nat} (hk:k<2 ^ 256) {p:X4} (hp:Xo p):xdrop (xm A k p 256)=mt eadd (Ep.o m2) (xdrop p) k:=by
 rw [(xm_mt hA (k:=k) hp 256 (Nat.le_refl _)).2,Nat.sub_self,Nat.pow_zero,Nat.div_one,Nat.mod_eq_of_lt hk]
end Go.Proofs.YtjaahnlpnkcimaaGreatDoor
namespace Go.Proofs.YtjaahnlpnkcimaaGreatDoor
set_option maxRecDepth 100000
open Go.RowKit
theorem i81:(Tryz.prog.info? 81).map (·.size)=some 16:=by kernel_rfl
theorem g_bN1:Tryz.prog.built 34 [(0,.int .u64 1)]=some (gc 1).toArray:=by kernel_rfl
theorem g_bN1x {one:Fin m2} (h:one=1):Tryz.prog.built 34 [(0,.int .u64 1)]=some (gc one).toArray:=by rw [h];exact g_bN1
theorem g_bX (x y z t:Fin m2):Tryz.prog.built 81 [(0,.agg (gc x).toArray),(1,.agg (gc y).toArray),(2,.agg (gc z).toArray),(3,.agg (gc t).toArray)]=some (gc x++gc y++gc z++gc t).toArray:=by kernel_rfl
def xc (p:X4):List Value:=gc p.x++gc p.y++gc p.z++gc p.t
theorem cE92 (vs:List Value):∀ w,(callFunc 92 vs.toArray).run Tryz.prog w=.ok (.enter 92 vs.toArray) w:=callFunc_enter Tryz.func92 (by kernel_rfl) (by kernel_rfl) _
theorem cE58 (vs:List Value):∀ w,(callFunc 58 vs.toArray).run Tryz.prog w=.ok (.enter 58 vs.toArray) w:=callFunc_enter Tryz.func58 (by kernel_rfl) (by kernel_rfl) _
theorem cE91 (vs:List Value):∀ w,(callFunc 91 vs.toArray).run Tryz.prog w=.ok (.enter 91 vs.toArray) w:=callFunc_enter Tryz.func91 (by kernel_rfl) (by kernel_rfl) _
theorem cE90 (vs:List Value):∀ w,(callFunc 90 vs.toArray).run Tryz.prog w=.ok (.enter 90 vs.toArray) w:=callFunc_enter Tryz.func90 (by kernel_rfl) (by kernel_rfl) _
theorem cE57 (vs:List Value):∀ w,(callFunc 57 vs.toArray).run Tryz.prog w=.ok (.enter 57 vs.toArray) w:=callFunc_enter Tryz.func57 (by kernel_rfl) (by kernel_rfl) _
theorem cE53 (vs:List Value):∀ w,(callFunc 53 vs.toArray).run Tryz.prog w=.ok (.enter 53 vs.toArray) w:=callFunc_enter Tryz.func53 (by kernel_rfl) (by kernel_rfl) _
theorem cE65 (vs:List Value):∀ w,(callFunc 65 vs.toArray).run Tryz.prog w=.ok (.enter 65 vs.toArray) w:=callFunc_enter Tryz.func65 (by kernel_rfl) (by kernel_rfl) _
theorem cE63 (vs:List Value):∀ w,(callFunc 63 vs.toArray).run Tryz.prog w=.ok (.enter 63 vs.toArray) w:=callFunc_enter Tryz.func63 (by kernel_rfl) (by kernel_rfl) _
theorem cE66 (vs:List Value):∀ w,(callFunc 66 vs.toArray).run Tryz.prog w=.ok (.enter 66 vs.toArray) w:=callFunc_enter Tryz.func66 (by kernel_rfl) (by kernel_rfl) _
theorem cE64 (vs:List Value):∀ w,(callFunc 64 vs.toArray).run Tryz.prog w=.ok (.enter 64 vs.toArray) w:=callFunc_enter Tryz.func64 (by kernel_rfl) (by kernel_rfl) _
theorem cE59 (vs:List Value):∀ w,(callFunc 59 vs.toArray).run Tryz.prog w=.ok (.enter 59 vs.toArray) w:=callFunc_enter Tryz.func59 (by kernel_rfl) (by kernel_rfl) _
theorem cE27 (vs:List Value):∀ w,(callFunc 27 vs.toArray).run Tryz.prog w=.ok (.enter 27 vs.toArray) w:=callFunc_enter Tryz.func27 (by kernel_rfl) (by kernel_rfl) _
theorem cE54 (vs:List Value):∀ w,(callFunc 54 vs.toArray).run Tryz.prog w=.ok (.enter 54 vs.toArray) w:=callFunc_enter Tryz.func54 (by kernel_rfl) (by kernel_rfl) _
theorem e_add {w:World} (hT:Tab w) (x y:Fin m2):Calls Tryz.prog 92 [.agg (gc (x)).toArray,.agg (gc (y)).toArray].toArray w fun e w'=>e=.returned (.agg (gc (x+y)).toArray)∧Below w.heap.size w w':=by
 refine enter (args:=[.agg (gc (x)).toArray,.agg (gc (y)).toArray]) Tryz.func92 rfl 8 rfl (lk rfl) (fun a h=>?_)
 refine aX h [] [eN 2 _,eN 3 _,eN 4 _] ⟨rfl,rfl,rfl,T0⟩ [(2,.ptr 2 0),(3,.ptr 3 0),(4,.ptr 4 0)] [(2,gc (x)),(3,gc (y)),(4,nz)] (fun a w h=>?_)
 refine aX h [2] [eS 5 _,eS 6 _,eS 7 _,eM 4 _] ⟨rfl,rfl,fun L u=>u_call u (gd0 rfl) _ rfl _ _ _ rfl [_,_,_] rfl (cE20 _) _ (fun w hb=>d_add (hT.keep (Bs.kp_of hb)) _ _),rfl,T0⟩ [(4,_)] [(4,gc ((x)+(y)))] (fun a w h=>?_)
 refine wp_ret ?_
 refine ret_row h 4 34 rfl (lk rfl) 4 rfl (gc ((x)+(y))) rfl _ Tryz.underlying34 rfl i34 ?_
 exact ⟨rfl,h.grows⟩
theorem e_sub {w:World} (hT:Tab w) (x y:Fin m2):Calls Tryz.prog 58 [.agg (gc (x)).toArray,.agg (gc (y)).toArray].toArray w fun e w'=>e=.returned (.agg (gc (x-y)).toArray)∧Below w.heap.size w w':=by
 refine enter (args:=[.agg (gc (x)).toArray,.agg (gc (y)).toArray]) Tryz.func58 rfl 8 rfl (lk rfl) (fun a h=>?_)
 refine aX h [] [eN 2 _,eN 3 _,eN 4 _] ⟨rfl,rfl,rfl,T0⟩ [(2,.ptr 2 0),(3,.ptr 3 0),(4,.ptr 4 0)] [(2,gc (x)),(3,gc (y)),(4,nz)] (fun a w h=>?_)
 refine aX h [2] [eS 5 _,eS 6 _,eS 7 _,eM 4 _] ⟨rfl,rfl,fun L u=>u_call u (gd0 rfl) _ rfl _ _ _ rfl [_,_,_] rfl (cE93 _) _ (fun w hb=>d_sub (hT.keep (Bs.kp_of hb)) _ _),rfl,T0⟩ [(4,_)] [(4,gc ((x)-(y)))] (fun a w h=>?_)
 refine wp_ret ?_
 refine ret_row h 4 34 rfl (lk rfl) 4 rfl (gc ((x)-(y))) rfl _ Tryz.underlying34 rfl i34 ?_
 exact ⟨rfl,h.grows⟩
theorem e_mul {w:World} (hT:Tab w) (x y:Fin m2):Calls Tryz.prog 91 [.agg (gc (x)).toArray,.agg (gc (y)).toArray].toArray w fun e w'=>e=.returned (.agg (gc (x*y)).toArray)∧Below w.heap.size w w':=by
 refine enter (args:=[.agg (gc (x)).toArray,.agg (gc (y)).toArray]) Tryz.func91 rfl 8 rfl (lk rfl) (fun a h=>?_)
 refine aX h [] [eN 2 _,eN 3 _,eN 4 _] ⟨rfl,rfl,rfl,T0⟩ [(2,.ptr 2 0),(3,.ptr 3 0),(4,.ptr 4 0)] [(2,gc (x)),(3,gc (y)),(4,nz)] (fun a w h=>?_)
 refine aX h [2] [eS 5 _,eS 6 _,eS 7 _,eM 4 _] ⟨rfl,rfl,fun L u=>u_call u (gd0 rfl) _ rfl _ _ _ rfl [_,_,_] rfl (cE21 _) _ (fun w hb=>d_mul (hT.keep (Bs.kp_of hb)) _ _),rfl,T0⟩ [(4,_)] [(4,gc ((x)*(y)))] (fun a w h=>?_)
 refine wp_ret ?_
 refine ret_row h 4 34 rfl (lk rfl) 4 rfl (gc ((x)*(y))) rfl _ Tryz.underlying34 rfl i34 ?_
 exact ⟨rfl,h.grows⟩
theorem Tab.ed {w:World} (h:Tab w):w.rangeAt 4 0 (gc ed):=by
 rw [gc_ed]
 intro j v hj
 match j,hj with
 | 0,hj=>cases hj;exact h.ccurveD0
 | 1,hj=>cases hj;exact h.ccurveD1
 | 2,hj=>cases hj;exact h.ccurveD2
 | 3,hj=>cases hj;exact h.ccurveD3
 | j+4,hj=>cases hj
theorem e_one {w:World} {one:Fin m2} (hone:one=1):Calls Tryz.prog 90 [].toArray w fun e w'=>e=.returned (.agg (gc one).toArray)∧Below w.heap.size w w':=by
 refine enter (args:=[]) Tryz.func90 rfl 2 rfl (lk rfl) (fun a h=>?_)
 refine aX h [] [eN 0 _] ⟨rfl,T0⟩ [(0,.ptr 0 0)] [(0,nz)] (fun a w h=>?_)
 refine aX h [0] [eS 1 (.val (.agg (gc (one)).toArray)),eM 0 _] ⟨fun L u=>u_build u (gd0 rfl) 1 rfl 34 #[(0,(.const (.int .u64 1)))] rfl [(0,(Value.int IntKind.u64 1))] rfl (gc (one)) (g_bN1x hone),rfl,T0⟩ [(0,_)] [(0,gc (one))] (fun a w h=>?_)
 refine wp_ret ?_
 refine ret_row h 0 34 rfl (lk rfl) 0 rfl (gc (one)) rfl _ Tryz.underlying34 rfl i34 ?_
 exact ⟨rfl,h.grows⟩
theorem o_cells:pcE (Ep.o m2)=gc 0++gc 1++[Value.bool false]:=rfl
theorem e_neutral {w:World} :Calls Tryz.prog 53 [].toArray w fun e w'=>e=.returned (.agg (pcE (Ep.o m2)).toArray)∧Below w.heap.size w w':=by
 obtain ⟨one,hone⟩:∃ z:Fin m2,z=1:=⟨_,rfl⟩
 refine enter (args:=[]) Tryz.func53 rfl 3 rfl (lk rfl) (fun a h=>?_)
 refine aX h [] [eN 0 _] ⟨rfl,T0⟩ [(0,.ptr 0 0)] [(0,nz++nz++[Value.bool false])] (fun a w h=>?_)
 refine aX h [0,1] [eS 1 _,eS 2 (.val (.agg (nz++gc (one)++[Value.bool false]).toArray)),eM 0 _] ⟨fun L u=>u_call u (gd0 rfl) _ rfl _ _ _ rfl [] rfl (cE90 _) _ (fun w hb=>e_one hone),fun L u=>u_build u (gd0 rfl) 2 rfl 40 #[(1,(.tmp 1))] rfl [(1,.agg (gc (one)).toArray)] rfl (nz++gc (one)++[Value.bool false]) (g_bY _),rfl,T0⟩ [(0,_)] [(0,nz++gc (one)++[Value.bool false])] (fun a w h=>?_)
 refine wp_ret ?_
 refine ret_row h 0 40 rfl (lk rfl) 0 rfl (nz++gc (one)++[Value.bool false]) rfl _ Tryz.underlying40 rfl i40 ?_
 exact ⟨by rw [o_cells,hone,nz_gc],h.grows⟩
theorem xplus_poly {p:Nat} [NeZero p] (d x1 y1 z1 t1 x2 y2 z2 t2:Fin p) {v1:Fin p} (ev1:v1=x1*x2) {v2:Fin p} (ev2:v2=y1*y2) {v3:Fin p} (ev3:v3=z1*z2) {v4:Fin p} (ev4:v4=t1*t2) {v5:Fin p} (ev5:v5=d*v4) {v6:Fin p} (ev6:v6=x1*y2) {v7:Fin p} (ev7:v7=x2*y1) {v8:Fin p} (ev8:v8=v6+v7) {v9:Fin p} (ev9:v9=v2+v1) {v10:Fin p} (ev10:v10=v3+v5) {v11:Fin p} (ev11:v11=v3-v5) {v12:Fin p} (ev12:v12=v8*v11) {v13:Fin p} (ev13:v13=v9*v10) {v14:Fin p} (ev14:v14=v10*v11) {v15:Fin p} (ev15:v15=v8*v9):v12=(x1*y2+x2*y1)*(z1*z2-d*(t1*t2))∧v13=(z1*z2+d*(t1*t2))*(y1*y2+x1*x2)∧v14=(z1*z2-d*(t1*t2))*(z1*z2+d*(t1*t2))∧v15=(x1*y2+x2*y1)*(y1*y2+x1*x2):=by
 subst ev1 ev2 ev3 ev4 ev5 ev6 ev7 ev8 ev9 ev10 ev11 ev12 ev13 ev14 ev15
 refine ⟨?_,?_,?_,?_⟩ <;> grobner
theorem e_plus {w:World} (hT:Tab w) (x1 y1 z1 t1 x2 y2 z2 t2:Fin m2):Calls Tryz.prog 66 [.agg (gc (x1)++gc (y1)++gc (z1)++gc (t1)).toArray,.agg (gc (x2)++gc (y2)++gc (z2)++gc (t2)).toArray].toArray w fun e w'=>e=.returned (.agg (xc (xadd ⟨x1,y1,z1,t1⟩ ⟨x2,y2,z2,t2⟩)).toArray)∧Below w.heap.size w w':=by
 obtain ⟨v1,ev1⟩:∃ z:Fin m2,z=x1*x2:=⟨_,rfl⟩
 obtain ⟨v2,ev2⟩:∃ z:Fin m2,z=y1*y2:=⟨_,rfl⟩
 obtain ⟨v3,ev3⟩:∃ z:Fin m2,z=z1*z2:=⟨_,rfl⟩
 obtain ⟨v4,ev4⟩:∃ z:Fin m2,z=t1*t2:=⟨_,rfl⟩
 obtain ⟨v5,ev5⟩:∃ z:Fin m2,z=ed*v4:=⟨_,rfl⟩
 obtain ⟨v6,ev6⟩:∃ z:Fin m2,z=x1*y2:=⟨_,rfl⟩
 obtain ⟨v7,ev7⟩:∃ z:Fin m2,z=x2*y1:=⟨_,rfl⟩
 obtain ⟨v8,ev8⟩:∃ z:Fin m2,z=v6+v7:=⟨_,rfl⟩
 obtain ⟨v9,ev9⟩:∃ z:Fin m2,z=v2+v1:=⟨_,rfl⟩
 obtain ⟨v10,ev10⟩:∃ z:Fin m2,z=v3+v5:=⟨_,rfl⟩
 obtain ⟨v11,ev11⟩:∃ z:Fin m2,z=v3-v5:=⟨_,rfl⟩
 obtain ⟨v12,ev12⟩:∃ z:Fin m2,z=v8*v11:=⟨_,rfl⟩
 obtain ⟨v13,ev13⟩:∃ z:Fin m2,z=v9*v10:=⟨_,rfl⟩
 obtain ⟨v14,ev14⟩:∃ z:Fin m2,z=v10*v11:=⟨_,rfl⟩
 obtain ⟨v15,ev15⟩:∃ z:Fin m2,z=v8*v9:=⟨_,rfl⟩
 have hpp:=xplus_poly ed x1 y1 z1 t1 x2 y2 z2 t2 ev1 ev2 ev3 ev4 ev5 ev6 ev7 ev8 ev9 ev10 ev11 ev12 ev13 ev14 ev15
 refine enter (args:=[.agg (gc (x1)++gc (y1)++gc (z1)++gc (t1)).toArray,.agg (gc (x2)++gc (y2)++gc (z2)++gc (t2)).toArray]) Tryz.func66 rfl 68 rfl (lk rfl) (fun a h=>?_)
 refine aX h [] [eN 2 _,eN 3 _,eN 4 _] ⟨rfl,rfl,rfl,T0⟩ [(2,.ptr 2 0),(3,.ptr 3 0),(4,.ptr 4 0)] [(2,gc (x1)++gc (y1)++gc (z1)++gc (t1)),(3,gc (x2)++gc (y2)++gc (z2)++gc (t2)),(4,nz++nz++nz++nz)] (fun a w h=>?_)
 refine aX h [4,9,14] [eS 13 _,eS 14 _,eS 15 _,eS 16 _,eS 17 (.val (.agg (gc (v1)).toArray)),eS 18 _,eS 19 _,eS 20 _,eS 21 _,eS 22 (.val (.agg (gc (v2)).toArray)),eS 23 _,eS 24 _,eS 25 _,eS 26 _,eS 27 (.val (.agg (gc (v3)).toArray)),eN 5 _,eN 6 _,eN 7 _,eM 5 _,eM 6 _,eM 7 _] ⟨rfl,rfl,rfl,rfl,fun L u=>u_call u (gd0 rfl) _ rfl _ _ _ rfl [_,_] rfl (cE91 _) (.agg (gc (v1)).toArray) (fun w hb=>by have g:=e_mul (hT.keep (Bs.kp_of hb)) x1 x2;rw [← ev1] at g;exact g),rfl,rfl,rfl,rfl,fun L u=>u_call u (gd0 rfl) _ rfl _ _ _ rfl [_,_] rfl (cE91 _) (.agg (gc (v2)).toArray) (fun w hb=>by have g:=e_mul (hT.keep (Bs.kp_of hb)) y1 y2;rw [← ev2] at g;exact g),rfl,rfl,rfl,rfl,fun L u=>u_call u (gd0 rfl) _ rfl _ _ _ rfl [_,_] rfl (cE91 _) (.agg (gc (v3)).toArray) (fun w hb=>by have g:=e_mul (hT.keep (Bs.kp_of hb)) z1 z2;rw [← ev3] at g;exact g),rfl,rfl,rfl,rfl,rfl,rfl,T0⟩ [(2,_),(3,_),(4,_),(5,.ptr 5 0),(6,.ptr 6 0),(7,.ptr 7 0)] [(2,_),(3,_),(4,_),(5,gc (v1)),(6,gc (v2)),(7,gc (v3))] (fun a w h=>?_)
 refine aX h [0,5,6] [eS 28 (.val (.agg (gc (ed)).toArray)),eS 29 _,eS 30 _,eS 31 _,eS 32 _,eS 33 (.val (.agg (gc (v4)).toArray)),eS 34 (.val (.agg (gc (v5)).toArray)),eN 8 _,eM 8 _] ⟨fun L u=>u_loadXR u (gd0 rfl) 28 rfl 34 (.global 4) rfl rfl Tryz.underlying34 rfl (gc (ed)) i34 rfl (hT.ed) rfl,rfl,rfl,rfl,rfl,fun L u=>u_call u (gd0 rfl) _ rfl _ _ _ rfl [_,_] rfl (cE91 _) (.agg (gc (v4)).toArray) (fun w hb=>by have g:=e_mul (hT.keep (Bs.kp_of hb)) t1 t2;rw [← ev4] at g;exact g),fun L u=>u_call u (gd0 rfl) _ rfl _ _ _ rfl [_,_] rfl (cE91 _) (.agg (gc (v5)).toArray) (fun w hb=>by have g:=e_mul (hT.keep (Bs.kp_of hb)) ed v4;rw [← ev5] at g;exact g),rfl,rfl,T0⟩ [(2,_),(3,_),(4,_),(5,_),(6,_),(7,_),(8,.ptr 8 0)] [(2,_),(3,_),(4,_),(5,_),(6,_),(7,_),(8,gc (v5))] (fun a w h=>?_)
 refine aX h [4,9,10] [eS 35 _,eS 36 _,eS 37 _,eS 38 _,eS 39 (.val (.agg (gc (v6)).toArray)),eS 40 _,eS 41 _,eS 42 _,eS 43 _,eS 44 (.val (.agg (gc (v7)).toArray)),eS 45 (.val (.agg (gc (v8)).toArray)),eN 9 _,eM 9 _] ⟨rfl,rfl,rfl,rfl,fun L u=>u_call u (gd0 rfl) _ rfl _ _ _ rfl [_,_] rfl (cE91 _) (.agg (gc (v6)).toArray) (fun w hb=>by have g:=e_mul (hT.keep (Bs.kp_of hb)) x1 y2;rw [← ev6] at g;exact g),rfl,rfl,rfl,rfl,fun L u=>u_call u (gd0 rfl) _ rfl _ _ _ rfl [_,_] rfl (cE91 _) (.agg (gc (v7)).toArray) (fun w hb=>by have g:=e_mul (hT.keep (Bs.kp_of hb)) x2 y1;rw [← ev7] at g;exact g),fun L u=>u_call u (gd0 rfl) _ rfl _ _ _ rfl [_,_] rfl (cE92 _) (.agg (gc (v8)).toArray) (fun w hb=>by have g:=e_add (hT.keep (Bs.kp_of hb)) v6 v7;rw [← ev8] at g;exact g),rfl,rfl,T0⟩ [(4,_),(5,_),(6,_),(7,_),(8,_),(9,.ptr 9 0)] [(4,_),(5,_),(6,_),(7,_),(8,_),(9,gc (v8))] (fun a w h=>?_)
 refine aX h [2] [eS 46 _,eS 47 _,eS 48 (.val (.agg (gc (v9)).toArray)),eN 10 _,eM 10 _] ⟨rfl,rfl,fun L u=>u_call u (gd0 rfl) _ rfl _ _ _ rfl [_,_] rfl (cE92 _) (.agg (gc (v9)).toArray) (fun w hb=>by have g:=e_add (hT.keep (Bs.kp_of hb)) v2 v1;rw [← ev9] at g;exact g),rfl,rfl,T0⟩ [(4,_),(7,_),(8,_),(9,_),(10,.ptr 10 0)] [(4,_),(7,_),(8,_),(9,_),(10,gc (v9))] (fun a w h=>?_)
 refine aX h [2,5] [eS 49 _,eS 50 _,eS 51 (.val (.agg (gc (v10)).toArray)),eS 52 _,eS 53 _,eS 54 (.val (.agg (gc (v11)).toArray)),eN 11 _,eN 12 _,eM 11 _,eM 12 _] ⟨rfl,rfl,fun L u=>u_call u (gd0 rfl) _ rfl _ _ _ rfl [_,_] rfl (cE92 _) (.agg (gc (v10)).toArray) (fun w hb=>by have g:=e_add (hT.keep (Bs.kp_of hb)) v3 v5;rw [← ev10] at g;exact g),rfl,rfl,fun L u=>u_call u (gd0 rfl) _ rfl _ _ _ rfl [_,_] rfl (cE58 _) (.agg (gc (v11)).toArray) (fun w hb=>by have g:=e_sub (hT.keep (Bs.kp_of hb)) v3 v5;rw [← ev11] at g;exact g),rfl,rfl,rfl,rfl,T0⟩ [(4,_),(9,_),(10,_),(11,.ptr 11 0),(12,.ptr 12 0)] [(4,_),(9,_),(10,_),(11,gc (v10)),(12,gc (v11))] (fun a w h=>?_)
 refine aX h [2,5,8,11,12] [eS 55 _,eS 56 _,eS 57 (.val (.agg (gc (v12)).toArray)),eS 58 _,eS 59 _,eS 60 (.val (.agg (gc (v13)).toArray)),eS 61 _,eS 62 _,eS 63 (.val (.agg (gc (v14)).toArray)),eS 64 _,eS 65 _,eS 66 (.val (.agg (gc (v15)).toArray)),eS 67 (.val (.agg (gc (v12)++gc (v13)++gc (v14)++gc (v15)).toArray)),eM 4 _] ⟨rfl,rfl,fun L u=>u_call u (gd0 rfl) _ rfl _ _ _ rfl [_,_] rfl (cE91 _) (.agg (gc (v12)).toArray) (fun w hb=>by have g:=e_mul (hT.keep (Bs.kp_of hb)) v8 v11;rw [← ev12] at g;exact g),rfl,rfl,fun L u=>u_call u (gd0 rfl) _ rfl _ _ _ rfl [_,_] rfl (cE91 _) (.agg (gc (v13)).toArray) (fun w hb=>by have g:=e_mul (hT.keep (Bs.kp_of hb)) v9 v10;rw [← ev13] at g;exact g),rfl,rfl,fun L u=>u_call u (gd0 rfl) _ rfl _ _ _ rfl [_,_] rfl (cE91 _) (.agg (gc (v14)).toArray) (fun w hb=>by have g:=e_mul (hT.keep (Bs.kp_of hb)) v10 v11;rw [← ev14] at g;exact g),rfl,rfl,fun L u=>u_call u (gd0 rfl) _ rfl _ _ _ rfl [_,_] rfl (cE91 _) (.agg (gc (v15)).toArray) (fun w hb=>by have g:=e_mul (hT.keep (Bs.kp_of hb)) v8 v9;rw [← ev15] at g;exact g),fun L u=>u_build u (gd0 rfl) 67 rfl 81 #[(0,(.tmp 57)),(1,(.tmp 60)),(2,(.tmp 63)),(3,(.tmp 66))] rfl [(0,.agg (gc (v12)).toArray),(1,.agg (gc (v13)).toArray),(2,.agg (gc (v14)).toArray),(3,.agg (gc (v15)).toArray)] rfl (gc (v12)++gc (v13)++gc (v14)++gc (v15)) (g_bX _ _ _ _),rfl,T0⟩ [(4,_)] [(4,gc (v12)++gc (v13)++gc (v14)++gc (v15))] (fun a w h=>?_)
 refine wp_ret ?_
 refine ret_row h 4 81 rfl (lk rfl) 4 rfl (gc (v12)++gc (v13)++gc (v14)++gc (v15)) rfl _ Tryz.underlying81 rfl i81 ?_
 exact ⟨by rw [hpp.1,hpp.2.1,hpp.2.2.1,hpp.2.2.2];rfl,h.grows⟩
end Go.Proofs.YtjaahnlpnkcimaaGreatDoor
