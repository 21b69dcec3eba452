/- What the document's own Encode of layer 9 answers. What the document's own Half answers. Two lists of bytes are the same. What the document's own Same answers, of all lists of bytes. What the document's own Add answers, for all numbers: the same as limb.Add. What the document's own Decode of layer 9 answers. What the document's own Decode of layer 9 answers: the point whose bytes these are, if there is one. Bytes as lists: their number, their hash, and parts of texts in memory. Walks by states: bits of bytes and words. Bits that are set and taken by masks; a number's bytes, three bits taken and one set. -/
import Derived.Test.YtjaahnlpnkcimaaDoorRG21
import Derived.Test.YtjaahnlpnkcimaaDoorRG05
import Derived.Test.YtjaahnlpnkcimaaDoorRG02
import Derived.Test.YtjaahnlpnkcimaaDoorRG04
import Derived.Test.YtjaahnlpnkcimaaDoorRG18
import Derived.Deep.LoopGhost
import Derived.Deep.DeepCutAuto
set_option maxHeartbeats 2000000
namespace Go.Proofs.YtjaahnlpnkcimaaDoor
set_option maxRecDepth 100000
open Go.RowKit
theorem i5:(Tryd.prog.info? 5).map (·.size)=some 1:=by kernel_rfl
theorem cE37 (vs:List Value):∀ w,(callFunc 37 vs.toArray).run Tryd.prog w=.ok (.enter 37 vs.toArray) w:=callFunc_enter Tryd.func37 (by kernel_rfl) (by kernel_rfl) _
end Go.Proofs.YtjaahnlpnkcimaaDoor
namespace Go.Proofs.YtjaahnlpnkcimaaDoor
set_option maxRecDepth 100000
open Go.RowKit
attribute [local go_sem ↓] Go.wp_at_zero Go.wp_at_succ
end Go.Proofs.YtjaahnlpnkcimaaDoor
namespace Go.Proofs.YtjaahnlpnkcimaaDoor
set_option maxRecDepth 100000
def sameB (f g:Nat→Int) (n:Nat):Bool:=decide (∀ i,i<n→f i=g i)
theorem same_no {f g:Nat→Int} {n k:Nat} (h:k<n) (hne:f k≠g k):sameB f g n=false:=by
 unfold sameB
 rw [decide_eq_false_iff_not]
 exact fun hh=>hne (hh k h)
theorem same_yes {f g:Nat→Int} {n:Nat} (h:∀ i,i<n→f i=g i):sameB f g n=true:=decide_eq_true h
end Go.Proofs.YtjaahnlpnkcimaaDoor
namespace Go.Proofs.YtjaahnlpnkcimaaDoor
set_option maxRecDepth 100000
open Go.RowKit
attribute [local go_sem ↓] Go.wp_at_zero Go.wp_at_succ
theorem same_len (a1 a2:Option Addr) (n1 n2 c1 c2:Nat) (h:n1≠n2) (w:World) :
  Calls Tryd.prog 10 #[.slice a1 n1 c1,.slice a2 n2 c2] w fun e w'=>e=.returned (.bool false)∧w'=w:=by
 have hb:((n1:Int) == (n2:Int))=false:=beq_eq_false_iff_ne.2 (by omega)
 go_enter Tryd.func10,Tryd.ntmps10
 go_wp2_with fail
 go_ret
 exact ⟨rfl,rfl⟩
theorem same_none (a1 a2:Option Addr) (c1 c2:Nat) (w:World) :
  Calls Tryd.prog 10 #[.slice a1 0 c1,.slice a2 0 c2] w fun e w'=>e=.returned (.bool true)∧w'=w:=by
 go_enter Tryd.func10,Tryd.ntmps10
 go_wp2_with fail
 refine wp_loop_rounds 1 ?_
 rw [rounds_succ]
 go_wp2_with fail
 go_ret
 exact ⟨rfl,rfl⟩
theorem same_any {b o c b2 o2 c2 n:Nat} {f g:Nat→Int} (hn:n≤1000000) {w:World} (h1:Rd w b o n f) (h2:Rd w b2 o2 n g) :
  Calls Tryd.prog 10 #[.slice (some ⟨b,o,none⟩) n c,.slice (some ⟨b2,o2,none⟩) n c2] w fun e w'=>e=.returned (.bool (sameB f g n))∧Below w.heap.size w w':=by
 have H1:Hid (Rd w b o n f):=h1
 have H2:Hid (Rd w b2 o2 n g):=h2
 clear h1 h2
 go_enter Tryd.func10,Tryd.ntmps10
 go_wp2_with fail
 go_loopg [5] n (fun gh s wr=>∃ k:Nat,gh=n-k∧k≤n∧s=.int .i64 k∧(∀ i,i<k→f i=g i)∧Below w.heap.size w wr)
 case atStart=>exact ⟨0,rfl,by omega,rfl,fun i h=>by omega,Below.refl _ _⟩
 case round =>
  obtain ⟨k,rfl,hk,rfl,hall,hB⟩:=hrel
  have HA:Hid (∀ i,i<k→f i=g i):=hall
  have HB:Hid (Below w.heap.size w wr):=hB
  by_cases hlt:k<n
  ·have hc1:=(H1.out.keep hB).c k hlt
   have hc2:=(H2.out.keep hB).c k hlt
   clear hB hall
   by_cases he:f k=g k
   ·have HS:Hid (∀ i,i<k+1→f i=g i):=fun i hi=>by
     by_cases e:i=k
     ·rw [e];exact he
     ·exact HA.out i (by omega)
    rw [← he] at hc2
    clear he
    go_upto_region 6 with fail
    go_quiet (fail)
    go_wp2_with fail
    go_roundg (n-(k+1))
    case measure=>omega
    case rel=>exact ⟨k+1,rfl,by omega,by go_num,HS.out,K.drewN HB.out _⟩
   ·have hb:(f k == g k)=false:=beq_eq_false_iff_ne.2 he
    have HS:Hid (sameB f g n=false):=same_no hlt he
    clear he
    go_upto_region 6 with fail
    go_quiet (fail)
    go_wp2_with fail
    go_ret
    exact ⟨ret_bool HS.out.symm,K.drewN HB.out _⟩
  ·obtain rfl:k=n:=by omega
   clear hall hB
   go_wp2_with fail
   go_ret
   exact ⟨ret_bool (same_yes HA.out).symm,HB.out⟩
end Go.Proofs.YtjaahnlpnkcimaaDoor
namespace Go.Proofs.YtjaahnlpnkcimaaDoor
set_option maxRecDepth 100000
open Go.RowKit
attribute [local go_sem ↓] Go.wp_at_zero Go.wp_at_succ
end Go.Proofs.YtjaahnlpnkcimaaDoor
namespace Go.Proofs.YtjaahnlpnkcimaaDoor
set_option maxRecDepth 100000
open Go.RowKit
theorem gc_im:gc im=[Value.int .u64 14190309331451158704]++[Value.int .u64 3405592160176694392]++[Value.int .u64 3120150775007532967]++[Value.int .u64 3135389899092516619]:=by kernel_rfl
theorem ex8_num:Num ((ex8:Nat):Int):=⟨by decide +kernel,by decide +kernel⟩
theorem gc_pow (x:Fin m2) (k:Nat):gc (x ^ k)=nc (pw (x.val:Int) (k:Int) % md 2):=by
 have h:x ^ k=kc ((x.val:Int) ^ k):=by rw [kc_pow,kc_self]
 rw [gc,h,kc_val,md_m2]
 unfold pw
 rw [Int.toNat_natCast]
theorem d_pow {w:World} (hT:Tab w) (x:Fin m2) {k:Nat} (hk:Num (k:Int)):Calls Tryd.prog 37 [.int .i64 2,.agg (gc x).toArray,.agg (nc (k:Int)).toArray].toArray w fun e w'=>e=.returned (.agg (gc (x ^ k)).toArray)∧Below w.heap.size w w':=by
 rw [gc_pow]
 exact f_pow (k:=2) ⟨by decide,by decide⟩ (gin_num x) hk hT
end Go.Proofs.YtjaahnlpnkcimaaDoor
namespace Go.Proofs.YtjaahnlpnkcimaaDoor
set_option maxRecDepth 100000
open Go.RowKit
theorem Y_all {u v:Int} (hu:Num u) (hv:Num v) (h:∀ i,i<32→Y i u=Y i v):u=v:=by
 have a:=E_words u
 have b:=E_words v
 have e:∀ o,o+8≤32→E (fun i=>Y i u) o 8=E (fun i=>Y i v) o 8:=fun o ho=>E_congr o 8 (fun i hi=>h _ (by omega))
 exact num_ext hu hv (by rw [← a.1,← b.1];exact e 0 (by omega)) (by rw [← a.2.1,← b.2.1];exact e 8 (by omega)) (by rw [← a.2.2.1,← b.2.2.1];exact e 16 (by omega)) (by rw [← a.2.2.2,← b.2.2.2];exact e 24 (by omega))
structure LN (f:Nat→Nat) (u:Nat):Prop where
 lt:u<2 ^ 256
 at_:∀ i,i<32→Y i (u:Int)=((f i:Nat):Int)
theorem num_nat {u:Nat} (h:u<2 ^ 256):Num (u:Int):=⟨by omega,by unfold M;omega⟩
theorem low_is {u:Nat} (h:u<2 ^ 256):((u:Nat):Int)=((u % 2 ^ 255:Nat):Int)+2 ^ 255*((u / 2 ^ 255:Nat):Int)∧(u / 2 ^ 255=0∨u / 2 ^ 255=1)∧u % 2 ^ 255<2 ^ 255:=by
 have h1:=Nat.mod_add_div u (2 ^ 255)
 have h2:u % 2 ^ 255<2 ^ 255:=Nat.mod_lt _ (by decide)
 refine ⟨?_,by omega,h2⟩
 rw [show (2:Int) ^ 255=((2 ^ 255:Nat):Int) from rfl]
 omega
theorem LN.low {f:Nat→Nat} {u:Nat} (h:LN f u):by31 (fun i=>((f i:Nat):Int)) ((fun i=>((f i:Nat):Int)) 31 % 128)=by32 (fun i=>Y i ((u % 2 ^ 255:Nat):Int)):=by
 obtain ⟨e,hs,hl⟩:=low_is h.lt
 have hl':((u % 2 ^ 255:Nat):Int)<2 ^ 255:=by
  rw [show (2:Int) ^ 255=((2 ^ 255:Nat):Int) from rfl]
  omega
 have h0:(0:Int)≤((u % 2 ^ 255:Nat):Int):=by omega
 refine by31_ext ?_ ?_
 ·intro i hi
  show ((f i:Nat):Int)=_
  rw [← h.at_ i (by omega),e,Y_low _ _ hi]
 ·show ((f 31:Nat):Int) % 128=_
  rw [← h.at_ 31 (by omega),e,Y_high h0 hl' (by omega)]
  obtain ⟨a,b,_⟩:=Y_top h0 hl'
  omega
end Go.Proofs.YtjaahnlpnkcimaaDoor
namespace Go.Proofs.YtjaahnlpnkcimaaDoor
set_option maxRecDepth 100000
open Go.RowKit
def nle:List Nat→Nat
 | []=>0
 | x :: l=>x+256*nle l
theorem nle_lt:∀ {l:List Nat},(∀ x ∈ l,x<256)→nle l<256 ^ l.length
 | [],_=>by decide
 | x :: l,h=>by
  have h1:=h x (by simp)
  have h2:=nle_lt (l:=l) (fun y hy=>h y (by simp [hy]))
  rw [List.length_cons,Nat.pow_succ,nle]
  omega
theorem nle_at:∀ {l:List Nat},(∀ x ∈ l,x<256)→∀ i,nle l / 256 ^ i % 256=l.getD i 0
 | [],_,i=>by simp [nle]
 | x :: l,h,0=>by
  have h1:=h x (by simp)
  simp only [nle,Nat.pow_zero,Nat.div_one,List.getD_cons_zero]
  omega
 | x :: l,h,i+1=>by
  have h1:=h x (by simp)
  have h2:=nle_at (l:=l) (fun y hy=>h y (by simp [hy])) i
  rw [List.getD_cons_succ,← h2,nle,Nat.pow_succ,Nat.mul_comm (256 ^ i) 256,← Nat.div_div_eq_div_mul,show (x+256*nle l) / 256=nle l by omega]
theorem Y_nat (u i:Nat):Y i (u:Int)=((u / 256 ^ i % 256:Nat):Int):=by
 unfold Y
 push_cast
 rfl
theorem nle_Y {l:List Nat} (h:∀ x ∈ l,x<256) (i:Nat):Y i ((nle l:Nat):Int)=((l.getD i 0:Nat):Int):=by rw [Y_nat,nle_at h]
theorem nle_ln {l:List Nat} (h:∀ x ∈ l,x<256) (hl:l.length=32):LN (fun i=>l.getD i 0) (nle l):=⟨by have:=nle_lt h;rw [hl] at this;exact Nat.lt_of_lt_of_eq this (by decide),fun i _=>nle_Y h i⟩
theorem LN.one {f:Nat→Nat} {u v:Nat} (h1:LN f u) (h2:LN f v):u=v:=by
 have:=Y_all (num_nat h1.lt) (num_nat h2.lt) (fun i hi=>by rw [h1.at_ i hi,h2.at_ i hi])
 omega
theorem LN.of {f g:Nat→Nat} {u:Nat} (h:LN f u) (e:∀ i,i<32→f i=g i):LN g u:=⟨h.lt,fun i hi=>by rw [h.at_ i hi,e i hi]⟩
theorem getD_fl {f:Nat→Nat} {n i:Nat} (h:i<n):(fl f n).getD i 0=f i:=by rw [List.getD_eq_getElem?_getD,fl_at f h];rfl
theorem gD_lt {l:List Nat} (h:∀ x ∈ l,x<256) (i:Nat):l.getD i 0<256:=by
 rw [List.getD_eq_getElem?_getD]
 cases hi:l[i]? with
 | none=>decide
 | some x=>exact h x (List.mem_of_getElem? hi)
def by64 (f:Nat→Int):List Value:=by32 f++by32 (fun i=>f (32+i))
theorem by64_at (f:Nat→Int) (i:Nat) (h:i<64):(by64 f)[i]?=some (.int .u8 (f i)):=by
 unfold by64
 rw [List.getElem?_append]
 split
 ·rename_i hi
  exact by32_at f i (by rw [by32_len] at hi;exact hi)
 ·rename_i hi
  rw [by32_len] at hi ⊢
  rw [by32_at _ (i-32) (by omega),show 32+(i-32)=i by omega]
theorem rd_by64 {w:World} {b:Nat} {f:Nat→Int} (h:w.rangeAt b 0 (by64 f)):Rd w b 0 64 f:=⟨fun i hi=>h i _ (by64_at f i hi)⟩
def hsh (l:List Nat):List Nat:=fl (Sx.hByte (Sx.hashS (fun i=>l.getD i 0) l.length)) 64
theorem hb6_lt (s:Sx.St) (i:Nat):Sx.hByte s i<256:=Nat.mod_lt _ (by decide)
theorem hsh_len (l:List Nat):(hsh l).length=64:=fl_len _ _
theorem hsh_lt (l:List Nat):∀ x ∈ hsh l,x<256:=fl_lt (fun i=>hb6_lt _ i) 64
abbrev bz (l:List Nat) (i:Nat):Int:=((l.getD i 0:Nat):Int)
theorem bz_bd {l:List Nat} (h:∀ x ∈ l,x<256) (i:Nat):0≤bz l i∧bz l i<256:=⟨by unfold bz;omega,by have:=gD_lt h i;unfold bz;omega⟩
theorem ab_hsh (l:List Nat):Sx.ab (Sx.hByte (Sx.hashS (fun i=>l.getD i 0) l.length)) 64=by64 (bz (hsh l)):=by
 apply List.ext_getElem?
 intro i
 rcases Nat.lt_or_ge i 64 with hi | hi
 ·rw [by64_at _ i hi]
  unfold bz hsh
  rw [getD_fl hi]
  simp [Sx.ab,hi]
 ·rw [List.getElem?_eq_none (by simp [Sx.ab];exact hi),List.getElem?_eq_none (by show (by32 _++by32 _).length≤i;rw [List.length_append,by32_len,by32_len];exact hi)]
theorem ba_sx {w:World} {z:Option Addr} {n:Nat} {f:Nat→Nat} (h:BA w z n f):Sx.BA w z n f:=⟨h.lt,h.at_.imp id fun ⟨b,o,e,hr⟩=>⟨b,o,e,⟨hr.c⟩⟩⟩
theorem BA.of {w:World} {z:Option Addr} {n:Nat} {f g:Nat→Nat} (h:BA w z n f) (hg:∀ i,g i<256) (e:∀ i,i<n→f i=g i):BA w z n g :=
 ⟨hg,h.at_.imp id fun ⟨b,o,e1,hr⟩=>⟨b,o,e1,⟨fun i hi=>by rw [hr.c i hi,e i hi]⟩⟩⟩
def Pt (w:World) (v:Value) (l:List Nat):Prop:=∃ z c,v=.slice z l.length c∧l.length≤c∧c≤maxLen∧BA w z l.length (fun i=>l.getD i 0)
theorem Pt.keep {w w':World} {v:Value} {l:List Nat} (h:Pt w v l) (hb:Below w.heap.size w w'):Pt w' v l:=let ⟨z,c,h1,h2,h3,h4⟩:=h;⟨z,c,h1,h2,h3,h4.keep hb⟩
theorem pt_ba {w:World} {z:Option Addr} {n c:Nat} {f:Nat→Nat} (h:BA w z n f) (hc:n≤c) (hm:c≤maxLen):Pt w (.slice z n c) (fl f n) :=
 ⟨z,c,by rw [fl_len],by rw [fl_len];exact hc,hm,by rw [fl_len];exact h.of (gD_lt (fl_lt h.lt n)) (fun i hi=>(getD_fl hi).symm)⟩
theorem pt_rm {n:Nat} {l:List Nat} {v:Value} {F:Nat→Bool} {w:World} (h:(rmPd n l).p v F w):Pt w v l:=by
 obtain ⟨z,c,h1,h2,h3,h4,h5⟩:=rm_ba h
 subst h4
 exact ⟨z,c,h1,h2,h3,h5⟩
theorem pt_rd {w:World} {b o c:Nat} {l:List Nat} (h:Rd w b o l.length (bz l)) (hl:∀ x ∈ l,x<256) (hc:l.length≤c) (hm:c≤maxLen):Pt w (.slice (some ⟨b,o,none⟩) l.length c) l:=⟨_,c,rfl,hc,hm,gD_lt hl,Or.inr ⟨b,o,rfl,h⟩⟩
def Pts (w:World):List Value→List (List Nat)→Prop
 | [],[]=>True
 | v :: vs,l :: ls=>Pt w v l∧Pts w vs ls
 | _,_=>False
theorem Pts.keep {w w':World} (hb:Below w.heap.size w w'):∀ {vs:List Value} {ls:List (List Nat)},Pts w vs ls→Pts w' vs ls
 | [],[],_=>trivial
 | _ :: _,_ :: _,h=>⟨h.1.keep hb,Pts.keep hb h.2⟩
theorem Pts.len {w:World}:∀ {vs:List Value} {ls:List (List Nat)},Pts w vs ls→vs.length=ls.length
 | [],[],_=>rfl
 | _ :: _,_ :: _,h=>by rw [List.length_cons,List.length_cons,Pts.len h.2]
theorem Pts.at {w:World}:∀ {vs:List Value} {ls:List (List Nat)},Pts w vs ls→∀ i v,vs[i]?=some v→Pt w v (ls.getD i [])
 | v :: vs,l :: ls,h,0,u,e=>by
  cases e
  exact h.1
 | v :: vs,l :: ls,h,i+1,u,e=>by
  rw [List.getD_cons_succ]
  exact Pts.at h.2 i u e
def slA:Value→Option Addr
 | .slice z _ _=>z
 | _=>none
def slC:Value→Nat
 | .slice _ _ c=>c
 | _=>0
theorem cat6 {l1 l2:List Nat}:Sx.cat (fun i=>l1.getD i 0) l1.length (fun i=>l2.getD i 0)=fun i=>(l1++l2).getD i 0:=by
 funext i
 unfold Sx.cat
 show (if i<l1.length then l1.getD i 0 else l2.getD (i-l1.length) 0)=(l1++l2).getD i 0
 rw [List.getD_eq_getElem?_getD,List.getD_eq_getElem?_getD,List.getD_eq_getElem?_getD,List.getElem?_append]
 split <;> rfl
theorem cats (ls:List (List Nat)):∀ k,k≤ls.length→Sx.lenF (fun i=>(ls.getD i []).length) k=((ls.take k).flatten).length∧Sx.catF (fun i=>(ls.getD i []).length) (fun i j=>(ls.getD i []).getD j 0) k=fun j=>((ls.take k).flatten).getD j 0
 | 0,_=>⟨rfl,rfl⟩
 | k+1,h=>by
  obtain ⟨h1,h2⟩:=cats ls k (by omega)
  have e:ls.take (k+1)=ls.take k++[ls.getD k []]:=by
   rw [List.take_add_one,List.getElem?_eq_getElem (by omega),List.getD_eq_getElem?_getD,List.getElem?_eq_getElem (by omega)]
   rfl
  refine ⟨?_,?_⟩
  ·rw [e,List.flatten_append,List.length_append,Sx.lenF,h1]
   simp
  ·rw [e,List.flatten_append,Sx.catF,h1,h2,cat6]
   simp
theorem sumL {w:World} (hH:Sx.Tab w) {b c:Nat} {vs:List Value} {ls:List (List Nat)} (hp:Pts w vs ls) (hc:∀ i v,vs[i]?=some v→w.cell? ⟨b,i,none⟩=some v) (hk:vs.length≤1000) (hl:ls.flatten.length≤200000) {k:Nat} (hkk:vs.length=k) :
  Calls Tryd.prog 41 #[.slice (some ⟨b,0,none⟩) k c] w fun e w'=>e=.returned (.agg (by64 (bz (hsh ls.flatten))).toArray)∧Below w.heap.size w w':=by
 subst hkk
 obtain ⟨e1,e2⟩:=cats ls ls.length (Nat.le_refl _)
 rw [List.take_length,← hp.len] at e1 e2
 have hat:∀ i,i<vs.length→∃ v,vs[i]?=some v:=fun i hi=>⟨_,List.getElem?_eq_getElem hi⟩
 have q:=Sx.sum_any (c:=c) (x:=some ⟨b,0,none⟩) (k:=vs.length) (A:=fun i=>slA (vs.getD i undef)) (L:=fun i=>(ls.getD i []).length) (C:=fun i=>slC (vs.getD i undef)) (G:=fun i j=>(ls.getD i []).getD j 0) hH ⟨fun i hi=>?_,fun i hi=>?_,Or.inr ⟨b,0,rfl,fun i hi=>?_⟩⟩ (by omega) (by rw [e1];exact hl)
 ·rw [e1,e2,ab_hsh] at q
  exact q
 ·obtain ⟨v,hv⟩:=hat i hi
  obtain ⟨z,cc,h1,_,_,h4⟩:=hp.at i v hv
  have e:slA (vs.getD i undef)=z:=by rw [List.getD_eq_getElem?_getD,hv,Option.getD_some,h1];rfl
  rw [e]
  exact ba_sx h4
 ·obtain ⟨v,hv⟩:=hat i hi
  obtain ⟨z,cc,h1,h2,h3,_⟩:=hp.at i v hv
  have e:slC (vs.getD i undef)=cc:=by rw [List.getD_eq_getElem?_getD,hv,Option.getD_some,h1];rfl
  rw [e]
  exact ⟨h2,h3⟩
 ·obtain ⟨v,hv⟩:=hat i hi
  obtain ⟨z,cc,h1,_⟩:=hp.at i v hv
  have e:vs.getD i undef=v:=by rw [List.getD_eq_getElem?_getD,hv];rfl
  rw [Nat.zero_add,hc i v hv,e,h1]
  rfl
theorem lc_of {w:World} {ss:List SV} {β:Nat→Loc} {ls:List (List Nat)} {F:Nat} {r:Value} {k:Nat} (hp:Pts w (ss.map (SV.at β)) ls) (hk:ss.length=k)
  (hC:∀ {w1:World} {b:Nat},Below w.heap.size w w1→Pts w1 (ss.map (SV.at β)) ls→(∀ i v,(ss.map (SV.at β))[i]?=some v→w1.cell? ⟨b,i,none⟩=some v)→(ss.map (SV.at β)).length=k→Calls Tryd.prog F #[.slice (some ⟨b,0,none⟩) k k] w1 fun e w'=>e=.returned r∧Below w1.heap.size w1 w') :
  (∀ s ∈ ss,∃ z m c,s.at β=.slice z m c)∧Calls Tryd.prog F #[.slice (some ⟨w.heap.size,0,none⟩) k k] (w.alloc (.cells (ss.map (SV.at β)).toArray 24)) fun e w'=>e=.returned r∧Below (w.heap.size+1) (w.alloc (.cells (ss.map (SV.at β)).toArray 24)) w':=by
 refine ⟨fun s hs=>?_,?_⟩
 ·obtain ⟨i,hi,e⟩:=List.mem_iff_getElem.1 hs
  obtain ⟨z,c,h1,_⟩:=hp.at i (s.at β) (by rw [List.getElem?_map,List.getElem?_eq_getElem hi,e];rfl)
  exact ⟨z,_,c,h1⟩
 ·have hb:Below w.heap.size w (w.alloc (.cells (ss.map (SV.at β)).toArray 24)):=Below.alloc (Below.refl _ w) (Nat.le_refl _) _
  have q:=hC (b:=w.heap.size) hb (hp.keep hb) (fun i v hv=>by
   have:=cell_of_row (w.alloc (.cells (ss.map (SV.at β)).toArray 24)) w.heap.size i (ss.map (SV.at β)).toArray 24 (0,0) (heap_alloc_new w _)
   rw [this]
   simpa using hv) (by rw [List.length_map];exact hk)
  rw [show (w.alloc (.cells (ss.map (SV.at β)).toArray 24)).heap.size=w.heap.size+1 by simp] at q
  exact q
end Go.Proofs.YtjaahnlpnkcimaaDoor
namespace Go.Proofs.YtjaahnlpnkcimaaDoor
set_option maxRecDepth 100000
open Go.RowKit
theorem or_top8:∀ a:Fin 128,(BitVec.ofInt 8 (a.val:Int) ||| BitVec.ofInt 8 128).toNat=a.val+128:=by decide +kernel
theorem i_orB {P:Program} (ty:TypeId) (a c:Int) (h0:0≤a) (h1:a<128) (hc:c=a+128) (w:World):(binOp .or ty (.int .u8 a) (.int .u8 128)).run P w=.ok (.int .u8 c) w:=by
 have h:=or_top8 ⟨a.toNat,by omega⟩
 simp only [Int.toNat_of_nonneg h0] at h
 have e:(Op.intBits .or .u8 a 128).run P w=.ok (.int .u8 c) w:=by
  show Result.ok (Value.int .u8 (IntKind.u8.wrap ((BitVec.ofInt 8 a ||| BitVec.ofInt 8 128).toNat:Int))) w=_
  rw [h]
  have:((a.toNat+128:Nat):Int)=c:=by omega
  rw [this,wrapB (by omega)]
 simpa [binOp] using e
end Go.Proofs.YtjaahnlpnkcimaaDoor
namespace Go.Proofs.YtjaahnlpnkcimaaDoor
set_option maxRecDepth 100000
open Go.RowKit
theorem and_low (a:Nat) (h:a<2 ^ 64):a &&& ((2 ^ 61-1) <<< 3)=a / 8*8:=by
 have e:a / 8*8=(a >>> 3) <<< 3:=by rw [Nat.shiftRight_eq_div_pow,Nat.shiftLeft_eq]
 rw [e]
 apply Nat.eq_of_testBit_eq
 intro i
 rw [Nat.testBit_and,Nat.testBit_shiftLeft,Nat.testBit_shiftLeft,Nat.testBit_shiftRight,Nat.testBit_two_pow_sub_one]
 by_cases h3:i ≥ 3
 ·rw [show 3+(i-3)=i by omega]
  by_cases h6:i<64
  ·simp [h3,show i-3<61 by omega]
  ·rw [Nat.testBit_lt_two_pow (Nat.lt_of_lt_of_le h (Nat.pow_le_pow_right (by decide) (by omega)))]
   simp
 ·simp [h3]
theorem or_next (a:Nat) (h:a<2 ^ 63):a ||| 2 ^ 62=a % 2 ^ 62+2 ^ 62:=by
 have q:=Nat.two_pow_add_eq_or_of_lt (i:=62) (b:=a % 2 ^ 62) (Nat.mod_lt _ (by decide)) 1
 rw [Nat.mul_one] at q
 rw [Nat.add_comm,q]
 apply Nat.eq_of_testBit_eq
 intro i
 rw [Nat.testBit_or,Nat.testBit_or,Nat.testBit_mod_two_pow,Nat.testBit_two_pow]
 by_cases h1:i<62
 ·simp [h1,show ¬ 62=i by omega]
 ·by_cases h2:i=62
  ·subst h2;simp
  ·rw [Nat.testBit_lt_two_pow (Nat.lt_of_lt_of_le h (Nat.pow_le_pow_right (by decide) (by omega)))]
   simp [show ¬ 62=i by omega]
theorem ofI {a:Int} (h0:0≤a) (h1:a<18446744073709551616):(BitVec.ofInt 64 a).toNat=a.toNat:=by
 rw [BitVec.toNat_ofInt]
 congr 1
 rw [Int.emod_eq_of_lt h0 (by simpa using h1)]
theorem i_not7 {P:Program} (ty:TypeId) (a c:Int) (h0:0≤a) (h1:a<18446744073709551616) (hc:c=a / 8*8) (w:World):(binOp .andNot ty (.int .u64 a) (.int .u64 7)).run P w=.ok (.int .u64 c) w:=by
 have h:(BitVec.ofInt 64 a &&& ~~~ (BitVec.ofInt 64 7)).toNat=a.toNat / 8*8:=by
  rw [BitVec.toNat_and,ofI h0 h1,show (~~~ (BitVec.ofInt 64 7)).toNat=(2 ^ 61-1) <<< 3 by decide +kernel]
  exact and_low _ (by omega)
 have e:(Op.intBits .andNot .u64 a 7).run P w=.ok (.int .u64 c) w:=by
  show Result.ok (Value.int .u64 (IntKind.u64.wrap ((BitVec.ofInt 64 a &&& ~~~ (BitVec.ofInt 64 7)).toNat:Int))) w=_
  rw [h]
  have:((a.toNat / 8*8:Nat):Int)=c:=by omega
  rw [this,wrapW (by omega)]
 simpa [binOp] using e
theorem i_not63 {P:Program} (ty:TypeId) (a c:Int) (h0:0≤a) (h1:a<18446744073709551616) (hc:c=a % 9223372036854775808) (w:World):(binOp .andNot ty (.int .u64 a) (.int .u64 9223372036854775808)).run P w=.ok (.int .u64 c) w:=by
 have h:(BitVec.ofInt 64 a &&& ~~~ (BitVec.ofInt 64 9223372036854775808)).toNat=a.toNat % 9223372036854775808:=by
  rw [BitVec.toNat_and,ofI h0 h1,show (~~~ (BitVec.ofInt 64 9223372036854775808)).toNat=2 ^ 63-1 by decide +kernel,Nat.and_two_pow_sub_one_eq_mod]
 have e:(Op.intBits .andNot .u64 a 9223372036854775808).run P w=.ok (.int .u64 c) w:=by
  show Result.ok (Value.int .u64 (IntKind.u64.wrap ((BitVec.ofInt 64 a &&& ~~~ (BitVec.ofInt 64 9223372036854775808)).toNat:Int))) w=_
  rw [h]
  have:((a.toNat % 9223372036854775808:Nat):Int)=c:=by omega
  rw [this,wrapW (by omega)]
 simpa [binOp] using e
theorem i_or62 {P:Program} (ty:TypeId) (a c:Int) (h0:0≤a) (h1:a<9223372036854775808) (hc:c=a % 4611686018427387904+4611686018427387904) (w:World):(binOp .or ty (.int .u64 a) (.int .u64 4611686018427387904)).run P w=.ok (.int .u64 c) w:=by
 have h:(BitVec.ofInt 64 a ||| BitVec.ofInt 64 4611686018427387904).toNat=a.toNat % 4611686018427387904+4611686018427387904:=by
  rw [BitVec.toNat_or,ofI h0 (by omega),show (BitVec.ofInt 64 4611686018427387904).toNat=2 ^ 62 by decide +kernel]
  exact or_next _ (by omega)
 have e:(Op.intBits .or .u64 a 4611686018427387904).run P w=.ok (.int .u64 c) w:=by
  show Result.ok (Value.int .u64 (IntKind.u64.wrap ((BitVec.ofInt 64 a ||| BitVec.ofInt 64 4611686018427387904).toNat:Int))) w=_
  rw [h]
  have:((a.toNat % 4611686018427387904+4611686018427387904:Nat):Int)=c:=by omega
  rw [this,wrapW (by omega)]
 simpa [binOp] using e
def clm (l:List Nat):List Nat:=(l.set 0 (l.getD 0 0 / 8*8)).set 31 (l.getD 31 0 % 64+64)
theorem clm_len {l:List Nat} (h:l.length=32):(clm l).length=32:=by unfold clm;rw [List.length_set,List.length_set,h]
theorem clm_lt {l:List Nat} (h:∀ x ∈ l,x<256):∀ x ∈ clm l,x<256:=lt_set (lt_set h 0 (by have:=gD_lt h 0;omega)) 31 (by omega)
theorem getD_set (l:List Nat) (i j b:Nat) (hi:i<l.length):(l.set i b).getD j 0=if i=j then b else l.getD j 0:=by
 rw [List.getD_eq_getElem?_getD,List.getD_eq_getElem?_getD,List.getElem?_set]
 by_cases e:i=j
 ·subst e;simp [hi]
 ·simp [e]
theorem clm_at {l:List Nat} (h:l.length=32) (j:Nat):(clm l).getD j 0=if 31=j then l.getD 31 0 % 64+64 else if 0=j then l.getD 0 0 / 8*8 else l.getD j 0:=by
 unfold clm
 rw [getD_set _ 31 j _ (by rw [List.length_set,h];decide),getD_set _ 0 j _ (by rw [h];decide)]
theorem E8 (f:Nat→Int) (o:Nat):E f o 8=f o+256*f (o+1)+65536*f (o+2)+16777216*f (o+3)+4294967296*f (o+4)+1099511627776*f (o+5)+281474976710656*f (o+6)+72057594037927936*f (o+7):=by
 simp only [E,Nat.add_zero]
 omega
theorem LN.word {f:Nat→Nat} {u:Nat} (h:LN f u) {j:Nat} (hj:j<4):L j (u:Int)=E (fun i=>((f i:Nat):Int)) (8*j) 8:=by
 rw [← E_word]
 exact E_congr _ _ (fun i hi=>h.at_ _ (by omega))
theorem clm_nc {l:List Nat} (hl:l.length=32) (hlt:∀ x ∈ l,x<256) {U:Nat} (hU:LN (fun i=>l.getD i 0) U):[Value.int .u64 (lw 0 (U:Int) / 8*8)]++[Value.int .u64 (lw 1 (U:Int))]++[Value.int .u64 (lw 2 (U:Int))]++[Value.int .u64 (lw 3 (U:Int) % 9223372036854775808 % 4611686018427387904+4611686018427387904)]=nc ((nle (clm l):Nat):Int):=by
 have hA:=nle_ln (clm_lt hlt) (clm_len hl)
 have b:∀ i:Nat,l[i]?.getD 0<256:=fun i=>by rw [← List.getD_eq_getElem?_getD];exact gD_lt hlt i
 have w0:L 0 ((nle (clm l):Nat):Int)=lw 0 (U:Int) / 8*8:=by
  show _=L 0 (U:Int) / 8*8
  rw [hA.word (j:=0) (by decide),hU.word (j:=0) (by decide),E8,E8]
  simp only [clm_at hl]
  have:=b 0;have:=b 1;have:=b 2;have:=b 3;have:=b 4;have:=b 5;have:=b 6;have:=b 7
  simp
  omega
 have w1:L 1 ((nle (clm l):Nat):Int)=lw 1 (U:Int):=by
  show _=L 1 (U:Int)
  rw [hA.word (j:=1) (by decide),hU.word (j:=1) (by decide),E8,E8]
  simp only [clm_at hl]
  simp
 have w2:L 2 ((nle (clm l):Nat):Int)=lw 2 (U:Int):=by
  show _=L 2 (U:Int)
  rw [hA.word (j:=2) (by decide),hU.word (j:=2) (by decide),E8,E8]
  simp only [clm_at hl]
  simp
 have w3:L 3 ((nle (clm l):Nat):Int)=lw 3 (U:Int) % 9223372036854775808 % 4611686018427387904+4611686018427387904:=by
  show _=L 3 (U:Int) % 9223372036854775808 % 4611686018427387904+4611686018427387904
  rw [hA.word (j:=3) (by decide),hU.word (j:=3) (by decide),E8,E8]
  simp only [clm_at hl]
  have:=b 24;have:=b 25;have:=b 26;have:=b 27;have:=b 28;have:=b 29;have:=b 30;have:=b 31
  simp
  omega
 show _=[Value.int .u64 (L 0 _),Value.int .u64 (L 1 _),Value.int .u64 (L 2 _),Value.int .u64 (L 3 _)]
 rw [w0,w1,w2,w3]
 rfl
end Go.Proofs.YtjaahnlpnkcimaaDoor
