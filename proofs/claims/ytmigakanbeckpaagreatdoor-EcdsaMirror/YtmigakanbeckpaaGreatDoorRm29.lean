/- The numbers of layer 11: r and s, what a signature's equation says, and that what is made so is right. What the document's own Decode answers. P256Bytes, over what Encode and Decode answer. What the document's own Encode answers. Rows that are made with room behind them. What the program's own Decode answers. What the program's own Encode answers. A point's bytes, as a thing; what the document's own Public of layer 11 answers. What field.Fold answers. What the document's own seed of layer 11 answers. What the program's own right, choice and majority answer. -/
import Derived.Test.YtmigakanbeckpaaGreatDoorRm28
import Derived.Test.YtmigakanbeckpaaGreatDoorRm20
import Derived.Test.YtmigakanbeckpaaGreatDoorRm23
import Derived.Test.YtmigakanbeckpaaGreatDoorRm25
import Derived.Test.YtmigakanbeckpaaGreatDoorRm02
import Derived.Test.YtmigakanbeckpaaGreatDoorRm26
import Derived.Test.YtmigakanbeckpaaGreatDoorRm03
import Derived.Test.YtmigakanbeckpaaGreatDoorRm17
set_option maxRecDepth 100000
set_option maxHeartbeats 4000000
namespace Go.Proofs.YtmigakanbeckpaaGreatDoor
set_option maxRecDepth 100000
open Go.RowKit
def mo (x:Int):Nat:=(x % md 1).toNat
theorem mo_eq (x:Int):x % md 1=((mo x:Nat):Int):=(Int.toNat_of_nonneg (Int.emod_nonneg _ (by decide))).symm
theorem mod1_md:((mod1:Nat):Int)=md 1:=by kernel_rfl
theorem mo_lt (x:Int):mo x<mod1:=by
 have h:=Int.emod_lt_of_pos x (show (0:Int)<md 1 by decide)
 rw [mo_eq,← mod1_md] at h
 omega
theorem mod1_lt:mod1<2 ^ 256:=by decide +kernel
theorem mo_num (x:Int):mo x<2 ^ 256:=Nat.lt_trans (mo_lt x) mod1_lt
theorem mo_q (x:Int):∃ q,x=((mo x:Nat):Int)+md 1*q:=⟨x / md 1,by rw [← mo_eq];exact (Int.emod_add_mul_ediv x (md 1)).symm⟩
theorem mo_self {a:Nat} (h:a<mod1):mo (a:Int)=a:=by
 unfold mo
 rw [← mod1_md,Int.emod_eq_of_lt (by omega) (by omega)]
 rfl
theorem wi_iff (a:Nat):wi a=true ↔ a≠0∧a<mod1:=by
 unfold wi
 rw [← mod1_md]
 simp
theorem wi_lt {a:Nat} (h:wi a=true):a<2 ^ 256:=Nat.lt_trans ((wi_iff a).1 h).2 mod1_lt
def vO (k:Nat):Nat:=mo (pw (k:Int) (md 1-2))
theorem fermat1 {a:Int} (ha:0≤a) (h:a % md 1≠0):a ^ ((md 1).toNat-1) % md 1=1:=by
 have F:Full (md 1).toNat:=mod1_full
 obtain ⟨m,hm⟩:=Int.eq_ofNat_of_zero_le (show 0≤md 1 by decide)
 rw [hm] at h F ⊢
 obtain ⟨a,rfl⟩:=Int.eq_ofNat_of_zero_le ha
 simp only [Int.toNat_natCast] at F ⊢
 have hd:¬ m ∣ a:=fun hd=>h (by have:=Nat.mod_eq_zero_of_dvd hd;omega)
 have e:=F.fermat a hd
 have e2:((a ^ (m-1) % m:Nat):Int)=1:=by rw [e];rfl
 rw [Int.natCast_emod,Int.natCast_pow] at e2
 exact e2
theorem inv1_one {a:Int} (ha:0≤a) (h:a % md 1≠0):a*(pw a (md 1-2) % md 1) % md 1=1:=by
 rw [mul_mod_r]
 unfold pw
 have e:(md 1).toNat-1=(md 1-2).toNat+1:=by decide
 have f:=fermat1 ha h
 rw [e,Int.pow_succ,Int.mul_comm] at f
 exact f
theorem vO_one {k:Nat} (h:wi k=true):∃ q,(k:Int)*((vO k:Nat):Int)=1+md 1*q:=by
 obtain ⟨h0,h1⟩:=(wi_iff k).1 h
 have e:=inv1_one (a:=(k:Int)) (by omega) (by
  rw [← mod1_md,Int.emod_eq_of_lt (by omega) (by omega)];omega)
 rw [mo_eq (pw (k:Int) (md 1-2))] at e
 have e2:=Int.emod_add_mul_ediv ((k:Int)*((mo (pw (k:Int) (md 1-2)):Nat):Int)) (md 1)
 rw [e] at e2
 unfold vO
 exact ⟨_,e2.symm⟩
def rOf (k:Nat):Nat:=mo ((px (mt wplus Wp.o wG k)).val:Int)
def pO (d k:Nat):Nat:=mo (((rOf k:Nat):Int)*(d:Int))
def qO (d z k:Nat):Nat:=mo ((z:Int)+((pO d k:Nat):Int))
def sOf (d z k:Nat):Nat:=mo (((qO d z k:Nat):Int)*((vO k:Nat):Int))
def sgn (d z:Nat):List Nat→Option (Nat × Nat)
 | []=>none
 | k :: l=>if rOf k≠0∧sOf d z k≠0 then some (rOf k,sOf d z k) else sgn d z l
def u1O (z s:Nat):Nat:=mo ((z:Int)*((vO s:Nat):Int))
def sumO (a:Wp m0) (z r s:Nat):Wp m0:=wplus (mt wplus Wp.o wG (u1O z s)) (mt wplus Wp.o a (u1O r s))
def xeq (q:Fin m0 × Fin m0) (r:Nat):Bool:=decide (mo (q.1.val:Int)=r)
theorem xeq_of {q:Fin m0 × Fin m0} {r:Nat} (h:mo (q.1.val:Int)=r):xeq q r=true:=by
 unfold xeq
 exact decide_eq_true h
def rgtO (o:Wp m0) (r:Nat):Bool:=match o with
 | none=>false
 | some q=>xeq q r
theorem rgtO_some (q:Fin m0 × Fin m0) (r:Nat):rgtO (some q) r=xeq q r:=rfl
def rgt (a:Wp m0) (z r s:Nat):Bool:=rgtO (sumO a z r s) r
theorem G_mod (k:Nat):mt wplus Wp.o wG (k % mod1)=mt wplus Wp.o wG k:=mt_mod wgr wG_on wG_order k
theorem G_eq {a b:Nat} (q:Int) (h:(a:Int)=(b:Int)+md 1*q):mt wplus Wp.o wG a=mt wplus Wp.o wG b:=by
 rw [← G_mod a,← G_mod b]
 congr 1
 rw [← mod1_md] at h
 have e:((a % mod1:Nat):Int)=((b % mod1:Nat):Int):=by
  rw [Int.natCast_emod,Int.natCast_emod,h,Int.add_mul_emod_self_left]
 omega
theorem wG_ne:wG≠Wp.o:=by
 intro e
 have:=congrArg Option.isSome e
 revert this
 decide +kernel
theorem G_ne {k:Nat} (h:wi k=true):mt wplus Wp.o wG k≠Wp.o:=by
 intro e
 obtain ⟨q,hq⟩:=vO_one h
 have e1:mt wplus Wp.o wG (k*vO k)=Wp.o:=by rw [mt_mul wgr wG_on,e,mt_o wgr]
 have e2:mt wplus Wp.o wG (k*vO k)=mt wplus Wp.o wG 1:=G_eq q (by rw [Int.natCast_mul];exact hq)
 rw [e2,mt_one wgr wG_on] at e1
 exact wG_ne e1
theorem sum_G (d z r s:Nat):sumO (mt wplus Wp.o wG d) z r s=mt wplus Wp.o wG (u1O z s+d*u1O r s):=by
 unfold sumO
 rw [mt_add wgr wG_on,mt_mul wgr wG_on]
theorem sum_k {d z k:Nat} (hk:wi k=true) (hs:sOf d z k≠0):sumO (mt wplus Wp.o wG d) z (rOf k) (sOf d z k)=mt wplus Wp.o wG k:=by
 rw [sum_G]
 obtain ⟨q1,h1⟩:=mo_q ((z:Int)*((vO (sOf d z k):Nat):Int))
 obtain ⟨q2,h2⟩:=mo_q (((rOf k:Nat):Int)*((vO (sOf d z k):Nat):Int))
 obtain ⟨q3,h3⟩:=mo_q ((z:Int)+((pO d k:Nat):Int))
 obtain ⟨q4,h4⟩:=mo_q (((rOf k:Nat):Int)*(d:Int))
 obtain ⟨q5,h5⟩:=mo_q (((qO d z k:Nat):Int)*((vO k:Nat):Int))
 obtain ⟨q6,h6⟩:=vO_one hk
 obtain ⟨q7,h7⟩:=vO_one (k:=sOf d z k) ((wi_iff _).2 ⟨hs,mo_lt _⟩)
 change _=((u1O z (sOf d z k):Nat):Int)+_ at h1
 change _=((u1O (rOf k) (sOf d z k):Nat):Int)+_ at h2
 change _=((qO d z k:Nat):Int)+_ at h3
 change _=((pO d k:Nat):Int)+_ at h4
 change _=((sOf d z k:Nat):Int)+_ at h5
 refine G_eq ((k:Int)*q7+((vO (sOf d z k):Nat):Int)*((k:Int)*q5-((qO d z k:Nat):Int)*q6)+((vO (sOf d z k):Nat):Int)*(q3+q4)-(q1+(d:Int)*q2)) ?_
 rw [Int.natCast_add,Int.natCast_mul]
 generalize ((u1O z (sOf d z k):Nat):Int)=a1 at *
 generalize ((u1O (rOf k) (sOf d z k):Nat):Int)=a2 at *
 generalize ((vO (sOf d z k):Nat):Int)=v at *
 generalize ((sOf d z k:Nat):Int)=s at *
 generalize ((qO d z k:Nat):Int)=q at *
 generalize ((pO d k:Nat):Int)=p at *
 generalize ((rOf k:Nat):Int)=r at *
 generalize ((vO k:Nat):Int)=t at *
 generalize (md 1)=n at *
 clear hk hs
 grobner
theorem px_some (q:Fin m0 × Fin m0):px (some q:Wp m0)=q.1:=rfl
theorem rgt_some {a:Wp m0} {z r s:Nat} {q:Fin m0 × Fin m0} (h:sumO a z r s=some q) (hr:mo (q.1.val:Int)=r):rgt a z r s=true:=by
 unfold rgt
 rw [h,rgtO_some]
 exact xeq_of hr
theorem rgt_of {d z k:Nat} (hk:wi k=true) (hs:sOf d z k≠0):rgt (mt wplus Wp.o wG d) z (rOf k) (sOf d z k)=true:=by
 have e0:=sum_k hk hs
 have e1:=G_ne hk
 have e2:rOf k=mo ((px (mt wplus Wp.o wG k)).val:Int):=rfl
 generalize mt wplus Wp.o wG k=a at e0 e1 e2
 cases a with
 | none=>exact absurd rfl e1
 | some q =>
  rw [px_some] at e2
  exact rgt_some e0 e2.symm
theorem sgn_of {d z:Nat}:∀ {l:List Nat} {r s:Nat},sgn d z l=some (r,s)→∃ k ∈ l,r=rOf k∧s=sOf d z k∧rOf k≠0∧sOf d z k≠0
 | [],_,_,h=>by cases h
 | k :: l,r,s,h=>by
  unfold sgn at h
  split at h
  ·rename_i hc
   cases h
   exact ⟨k,List.mem_cons_self,rfl,rfl,hc.1,hc.2⟩
  ·obtain ⟨k',h1,h2⟩:=sgn_of h
   exact ⟨k',List.mem_cons_of_mem _ h1,h2⟩
theorem rgt_sgn {d z r s:Nat} {l:List Nat} (hl:∀ k ∈ l,wi k=true) (h:sgn d z l=some (r,s)):wi r=true∧wi s=true∧rgt (mt wplus Wp.o wG d) z r s=true:=by
 obtain ⟨k,h1,rfl,rfl,h2,h3⟩:=sgn_of h
 exact ⟨(wi_iff _).2 ⟨h2,mo_lt _⟩,(wi_iff _).2 ⟨h3,mo_lt _⟩,rgt_of (hl k h1) h3⟩
end Go.Proofs.YtmigakanbeckpaaGreatDoor
namespace Go.Proofs.YtmigakanbeckpaaGreatDoor
set_option maxRecDepth 100000
open Go.RowKit
theorem i5:(Tryz.prog.info? 5).map (·.size)=some 1:=by kernel_rfl
structure BN (f:Nat→Nat) (k:Nat) (u:Int):Prop where
 num:Num u
 at_:∀ i,i<32→Y i u=((f (k+(31-i)):Nat):Int)
theorem Y_all {u v:Int} (hu:Num u) (hv:Num v) (h:∀ i,i<32→Y i u=Y i v):u=v:=by
 have a:=E_words u
 have b:=E_words v
 have e:∀ o,o+8≤32→E (fun i=>Y i u) o 8=E (fun i=>Y i v) o 8:=fun o ho=>E_congr o 8 (fun i hi=>h _ (by omega))
 exact num_ext hu hv (by rw [← a.1,← b.1];exact e 0 (by omega)) (by rw [← a.2.1,← b.2.1];exact e 8 (by omega)) (by rw [← a.2.2.1,← b.2.2.1];exact e 16 (by omega)) (by rw [← a.2.2.2,← b.2.2.2];exact e 24 (by omega))
theorem BN.one {f:Nat→Nat} {k:Nat} {u v:Int} (h:BN f k u) (g:BN f k v):u=v:=Y_all h.num g.num (fun i hi=>by rw [h.at_ i hi,g.at_ i hi])
theorem BN.shift {f:Nat→Nat} {k:Nat} {u:Int} (h:BN f k u):BN (fun i=>f (k+i)) 0 u:=⟨h.num,fun i hi=>by rw [h.at_ i hi,Nat.zero_add]⟩
theorem bPn (a b:Int):Tryz.prog.built 44 [(0,.agg (nc a).toArray),(1,.agg (nc b).toArray)]=some (nc a++nc b++[Value.bool false]).toArray:=by kernel_rfl
end Go.Proofs.YtmigakanbeckpaaGreatDoor
namespace Go.Proofs.YtmigakanbeckpaaGreatDoor
set_option maxRecDepth 100000
open Go.RowKit
def Made (m:Nat) (e:Nat→Nat) (r:Value) (w1 w2:World):Prop:=∃ g c,r=.slice (some ⟨g,0,none⟩) m c∧w1.heap.size≤g∧BA w2 (some ⟨g,0,none⟩) m e∧m≤c∧c≤maxLen
theorem same_ba {w:World} {a b:Option Addr} {n c d:Nat} {f:Nat→Nat} (hn:n≤1000) (h1:BA w a n f) (h2:BA w b n f):Calls Tryz.prog 11 [.slice a n c,.slice b n d].toArray w fun e w'=>e=.returned (.bool true)∧Below w.heap.size w w':=by
 rcases h1.at_ with rfl | ⟨b1,o1,rfl,r1⟩
 ·exact Calls.mono (same_none a b c d w) (fun e w' ⟨he,hw⟩=>⟨he,by rw [hw];exact Below.refl _ _⟩)
 ·rcases h2.at_ with rfl | ⟨b2,o2,rfl,r2⟩
  ·exact Calls.mono (same_none _ b c d w) (fun e w' ⟨he,hw⟩=>⟨he,by rw [hw];exact Below.refl _ _⟩)
  ·have h:=same_any (c:=c) (c2:=d) (by omega) r1 r2
   rw [same_yes (fun i _=>rfl)] at h
   exact h
end Go.Proofs.YtmigakanbeckpaaGreatDoor
namespace Go.Proofs.YtmigakanbeckpaaGreatDoor
set_option maxRecDepth 100000
open Go.RowKit
attribute [local go_sem ↓] Go.wp_at_zero Go.wp_at_succ
def bgB (a:Int) (i:Nat):Nat:=(Y (31-i) a).toNat
theorem bgB_lt (a:Int) (i:Nat):bgB a i<256:=by
 have:=Y_lo (31-i) a
 have:=Y_hi (31-i) a
 unfold bgB
 omega
theorem bgB_int (a:Int) (i:Nat):((bgB a i:Nat):Int)=Y (31-i) a:=Int.toNat_of_nonneg (Y_lo _ _)
def ptB (X Y:Int):Nat→Nat:=cat (cat (fun _=>4) 1 (bgB X)) 33 (bgB Y)
theorem bg_ba {w:World} {g:Nat} {a:Int} (h:Row8 w g 32 (fun i=>Y (31-i) a)):BA w (some ⟨g,0,none⟩) 32 (bgB a) :=
 ⟨bgB_lt a,Or.inr ⟨g,0,rfl,⟨fun i hi=>by rw [Nat.zero_add,h.c i hi,bgB_int]⟩⟩⟩
theorem own_byte (w:World) (base q x:Nat) (hb:base≤w.heap.size) (hq:q=w.heap.size):(w.alloc (.cells #[.int .u8 (x:Int)] 5)).ownsRow base 5 1 (.slice (some ⟨q,0,none⟩) 1 1) 1 (cells8 [x]):=by
 subst hq
 exact ⟨rfl,.inr ⟨w.heap.size,1,#[.int .u8 (x:Int)],rfl,hb,heap_alloc_new w _,Nat.le_refl _,by unfold maxLen;omega,rfl,rfl⟩⟩
theorem one_row (w:World) (x:Nat):Row8 (w.alloc (.cells #[.int .u8 (x:Int)] 5)) w.heap.size 1 (fun _=>(x:Int)) :=
 ⟨by simp,fun i hi=>by
  obtain rfl:i=0:=by omega
  rw [cell_of_row _ _ _ _ _ _ (heap_alloc_new w _)];rfl,fun i _=>frozen_of_row _ _ _ _ _ (heap_alloc_new w _)⟩
theorem pt_cells (w:World) (X Y:Int) (t:Bool):∀ j v,[Value.int .u64 (L 0 X),.int .u64 (L 1 X),.int .u64 (L 2 X),.int .u64 (L 3 X),.int .u64 (L 0 Y),.int .u64 (L 1 Y),.int .u64 (L 2 Y),.int .u64 (L 3 Y),.bool t][j]?=some v→(w.alloc (.cells #[.int .u64 (L 0 X),.int .u64 (L 1 X),.int .u64 (L 2 X),.int .u64 (L 3 X),.int .u64 (L 0 Y),.int .u64 (L 1 Y),.int .u64 (L 2 Y),.int .u64 (L 3 Y),.bool t] 44)).cell? ⟨w.heap.size,j,none⟩=some v:=by
 intro j v hv
 rw [cell_of_row _ _ _ _ _ _ (heap_alloc_new w _)]
 simpa using hv
theorem r_formedL {w:World} (hT:Tab w) {X Y:Int} (hX:Num X) (hY:Num Y) (t:Bool):Calls Tryz.prog 48 #[.agg #[.int .u64 (L 0 X),.int .u64 (L 1 X),.int .u64 (L 2 X),.int .u64 (L 3 X),.int .u64 (L 0 Y),.int .u64 (L 1 Y),.int .u64 (L 2 Y),.int .u64 (L 3 Y),.bool t]] w fun e w'=>e=.returned (.bool (fmd X Y t))∧Below w.heap.size w w':=r_Formed hT hX hY t
theorem r_enc_none {w:World} (hT:Tab w) {X Y:Int} (hX:Num X) (hY:Num Y) (t:Bool) (h:t=true∨fmd X Y t=false) :
  Calls Tryz.prog 23 [.agg (rc X Y t).toArray].toArray w fun e w'=>∃ b,e=.returned (.slice (some ⟨b,0,none⟩) 1 1)∧w.heap.size≤b∧Row8 w' b 1 (fun _=>0)∧Below w.heap.size w w':=by
 show Calls Tryz.prog 23 #[.agg #[.int .u64 (L 0 X),.int .u64 (L 1 X),.int .u64 (L 2 X),.int .u64 (L 3 X),.int .u64 (L 0 Y),.int .u64 (L 1 Y),.int .u64 (L 2 Y),.int .u64 (L 3 Y),.bool t]] w _
 have hal:=K.alloc (Below.refl _ w) (.cells #[.int .u64 (L 0 X),.int .u64 (L 1 X),.int .u64 (L 2 X),.int .u64 (L 3 X),.int .u64 (L 0 Y),.int .u64 (L 1 Y),.int .u64 (L 2 Y),.int .u64 (L 3 Y),.bool t] 44)
 have hc:=pt_cells w X Y t
 have HE:=hide (r_formedL (hT.keep hal) hX hY t)
 have HAl:=hide hal
 have c0:=hc 0 _ rfl
 have c1:=hc 1 _ rfl
 have c2:=hc 2 _ rfl
 have c3:=hc 3 _ rfl
 have c4:=hc 4 _ rfl
 have c5:=hc 5 _ rfl
 have c6:=hc 6 _ rfl
 have c7:=hc 7 _ rfl
 have c8:=hc 8 _ rfl
 clear hc hal hX hY hT
 cases t with
 | true =>
  clear h HE
  go_enter Tryz.func23,Tryz.ntmps23
  go_upto_region 1 with fail
  generalize w.alloc (.cells #[.int .u64 (L 0 X),.int .u64 (L 1 X),.int .u64 (L 2 X),.int .u64 (L 3 X),.int .u64 (L 0 Y),.int .u64 (L 1 Y),.int .u64 (L 2 Y),.int .u64 (L 3 Y),.bool true] 44)=X0 at *
  go_wp2_with fail
  go_ret
  exact ⟨X0.heap.size,rfl,HAl.out.size,one_row X0 0,K.alloc HAl.out _⟩
 | false =>
  have hf:=h.resolve_left (by decide)
  rw [hf] at HE
  clear h hf
  go_enter Tryz.func23,Tryz.ntmps23
  go_upto_region 1 with fail
  generalize w.alloc (.cells #[.int .u64 (L 0 X),.int .u64 (L 1 X),.int .u64 (L 2 X),.int .u64 (L 3 X),.int .u64 (L 0 Y),.int .u64 (L 1 Y),.int .u64 (L 2 Y),.int .u64 (L 3 Y),.bool false] 44)=X0 at *
  go_wp2_with fail
  with_reducible refine Calls.mono HE.out ?_
  rintro e w2 ⟨rfl,hb⟩
  have HB2:=hide (K.call HAl.out hb)
  clear hb HE HAl c0 c1 c2 c3 c4 c5 c6 c7 c8
  go_wp2_with fail
  go_ret
  exact ⟨w2.heap.size,rfl,HB2.out.size,one_row w2 0,K.alloc HB2.out _⟩
theorem r_enc_at {w : World} (hT : Tab w) {X Y : Int} (hX : Num X) (hY : Num Y) (h : fmd X Y false = true) :
    Calls Tryz.prog 23 [.agg (rc X Y false).toArray].toArray w fun e w' => ∃ r, e = .returned r ∧ Made 65 (ptB X Y) r w w' ∧ Below w.heap.size w w' := by
  show Calls Tryz.prog 23 #[.agg #[.int .u64 (L 0 X), .int .u64 (L 1 X), .int .u64 (L 2 X), .int .u64 (L 3 X), .int .u64 (L 0 Y), .int .u64 (L 1 Y), .int .u64 (L 2 Y), .int .u64 (L 3 Y), .bool false]] w _
  have hal := K.alloc (Below.refl _ w) (.cells #[.int .u64 (L 0 X), .int .u64 (L 1 X), .int .u64 (L 2 X), .int .u64 (L 3 X), .int .u64 (L 0 Y), .int .u64 (L 1 Y), .int .u64 (L 2 Y), .int .u64 (L 3 Y), .bool false] 44)
  have hc := pt_cells w X Y false
  have HE := hide (r_formedL (hT.keep hal) hX hY false)
  have HAl := hide hal
  have HCs : Hid (∀ W, Below (w.alloc (.cells #[.int .u64 (L 0 X), .int .u64 (L 1 X), .int .u64 (L 2 X), .int .u64 (L 3 X), .int .u64 (L 0 Y), .int .u64 (L 1 Y), .int .u64 (L 2 Y), .int .u64 (L 3 Y), .bool false] 44)).heap.size (w.alloc (.cells #[.int .u64 (L 0 X), .int .u64 (L 1 X), .int .u64 (L 2 X), .int .u64 (L 3 X), .int .u64 (L 0 Y), .int .u64 (L 1 Y), .int .u64 (L 2 Y), .int .u64 (L 3 Y), .bool false] 44)) W → ∀ j v, [Value.int .u64 (L 0 X), .int .u64 (L 1 X), .int .u64 (L 2 X), .int .u64 (L 3 X), .int .u64 (L 0 Y), .int .u64 (L 1 Y), .int .u64 (L 2 Y), .int .u64 (L 3 Y), .bool false][j]? = some v → W.cell? ⟨w.heap.size, j, none⟩ = some v) := fun W hb j v hv => later hb (hc j v hv)
  have c0 := hc 0 _ rfl
  have c1 := hc 1 _ rfl
  have c2 := hc 2 _ rfl
  have c3 := hc 3 _ rfl
  have c4 := hc 4 _ rfl
  have c5 := hc 5 _ rfl
  have c6 := hc 6 _ rfl
  have c7 := hc 7 _ rfl
  have c8 := hc 8 _ rfl
  clear hc hal hX hY hT
  rw [h] at HE
  clear h
  go_enter Tryz.func23, Tryz.ntmps23
  go_upto_region 1 with fail
  generalize w.alloc (.cells #[.int .u64 (L 0 X), .int .u64 (L 1 X), .int .u64 (L 2 X), .int .u64 (L 3 X), .int .u64 (L 0 Y), .int .u64 (L 1 Y), .int .u64 (L 2 Y), .int .u64 (L 3 Y), .bool false] 44) = X0 at *
  go_wp2_with fail
  with_reducible refine Calls.mono HE.out ?_
  rintro e w2 ⟨rfl, hb⟩
  have HO := hide (own_byte w2 w2.heap.size w2.heap.size 4 (Nat.le_refl _) rfl)
  have ha := K.call hb (K.alloc (Below.refl _ w2) (.cells #[.int .u8 ((4 : Nat) : Int)] 5))
  have HS := hide hb.size
  clear HE c0 c1 c2 c3 c4 c5 c6 c7 c8
  have d0 := HCs.out _ ha 0 _ rfl
  have d1 := HCs.out _ ha 1 _ rfl
  have d2 := HCs.out _ ha 2 _ rfl
  have d3 := HCs.out _ ha 3 _ rfl
  have HA := hide ha
  obtain ⟨b2, hb2⟩ : ∃ b2, w2.heap.size = b2 := ⟨_, rfl⟩
  clear ha hb
  go_upto_region 4 with fail
  rw [hb2] at HO HS
  have HB2 := hide hb2
  clear hb2
  generalize w2.alloc (.cells #[.int .u8 ((4 : Nat) : Int)] 5) = X1 at *
  have hX1 := HA.out
  go_wp2_with fail
  with_reducible refine Calls.mono (refPutBig_any X X1) ?_
  rintro e w3 ⟨g3, k3, rfl, hR3, hb3⟩
  have HO3 := hide (own_keep HO.out hb3)
  have HBA3 := hide (bg_ba hR3)
  have HX3 := hide (K.call HA.out hb3)
  have HSz3 : Hid (b2 ≤ w3.heap.size) := by have h1 := (HO3.out.lt b2 rfl).2; show b2 ≤ _; omega
  clear hR3 hb3 HO hX1 d0 d1 d2 d3
  go_upto_region 5 with (at_builtin; refine wpList_app rfl _ _ rfl rfl HO3.out rfl HBA3.out (by omega) HSz3.out ?_; intro v4 w4 hO4 hg4)
  have hb4 : Below X0.heap.size X0 w4 := HX3.out.grown hg4 HX3.out.size (fun k hk => by cases hk; exact HS.out)
  have d4 := HCs.out _ hb4 4 _ rfl
  have d5 := HCs.out _ hb4 5 _ rfl
  have d6 := HCs.out _ hb4 6 _ rfl
  have d7 := HCs.out _ hb4 7 _ rfl
  have HO4 := hide hO4
  have HX4 := hide hb4
  clear hO4 hg4 hb4 HO3 HBA3 HX3 HSz3 HA
  go_wp2_with fail
  with_reducible refine Calls.mono (refPutBig_any Y w4) ?_
  rintro e w5 ⟨g5, k5, rfl, hR5, hb5⟩
  have HO5 := hide (own_keep HO4.out hb5)
  have HBA5 := hide (bg_ba hR5)
  have HX5 := hide (K.call HX4.out hb5)
  have HSz5 : Hid (b2 ≤ w5.heap.size) := by have h1 := HX5.out.size; have h2 := HO4.out; rcases h2.2 with ⟨_, h0⟩ | ⟨q, _, _, rfl, hq, _⟩
                                            · omega
                                            · have h3 := (HO5.out.lt q rfl).2; show b2 ≤ _; omega
  clear hR5 hb5 HO4 HX4 d4 d5 d6 d7
  go_wp2_with (at_builtin; refine wpList_app rfl _ _ rfl rfl HO5.out rfl HBA5.out (by omega) HSz5.out ?_; intro v6 w6 hO6 hg6)
  have hb6 : Below X0.heap.size X0 w6 := HX5.out.grown hg6 HX5.out.size (fun k hk => by have := (HO5.out.lt k hk).1; have := HS.out; omega)
  have hO7 : w6.ownsRow b2 5 1 v6 65 (cells8 (fl (ptB X Y) 65)) := by
    have e : [4] ++ fl (bgB X) 32 ++ fl (bgB Y) 32 = fl (ptB X Y) 65 := by
      rw [show [4] = fl (fun _ => 4) 1 from rfl, fl_cat, fl_cat]
      rfl
    rw [e] at hO6
    exact hO6
  obtain ⟨g6, c6, rfl, hg, _⟩ := own_rd (f := fun i => ((ptB X Y i : Nat) : Int)) hO7 (fun j hj => by rw [cells8_at _ j (by rw [fl_len]; exact hj), List.getD_eq_getElem?_getD, fl_at _ hj]; rfl) (by omega)
  obtain ⟨_, _, hv, hc6, hm6⟩ := own_max hO7
  cases hv
  have hba := own_ba hO7 (cat_lt (cat_lt (fun _ => by show 4 < 256; omega) (bgB_lt X) 1) (bgB_lt Y) 33)
  go_ret
  exact ⟨_, rfl, ⟨g6, _, rfl, by have h1 := HAl.out.size; have h2 := HS.out; omega, hba, hc6, hm6⟩, K.call HAl.out hb6⟩
end Go.Proofs.YtmigakanbeckpaaGreatDoor
namespace Go.Proofs.YtmigakanbeckpaaGreatDoor
set_option maxRecDepth 100000
open Go.RowKit
theorem own_room (w:World) {base:Nat} (hb:base≤w.heap.size) (n c:Nat) (hn:n≤c) (hc:c≤maxLen) :
  (w.alloc (.cells (madeCells #[.int .u8 0] (c*1)) 5)).ownsRow base 5 1 (.slice (some ⟨w.heap.size,0,none⟩) n c) n (cells8 (List.replicate n 0)):=by
 refine ⟨by simp [cells8],.inr ⟨w.heap.size,c,_,rfl,hb,heap_alloc_new w _,hn,hc,by rw [size_madeCells],?_⟩⟩
 apply List.ext_getElem?
 intro i
 simp only [cells8,Nat.mul_one,List.getElem?_take,madeCells,List.map_replicate,List.getElem?_replicate]
 by_cases h:i<n
 ·have h':i<c:=by omega
  simp [h,h',Nat.mod_one]
 ·simp [h]
theorem wpList_make_room (w:World) {ops:Array Oper} {rest:List Oper} {o:Oper} {a:Act} {Q:Exit→Act→World→Prop} (hgd:o.guard=none) (l c:Operand) (hop:o.op=Op.makeSlice 25 l c)
  {base:Nat} (kl kc:IntKind) (L C:Int) (n m:Nat) (hl:a.eval l=.int kl L) (hc:a.eval c=.int kc C) (hL:L=(n:Int)) (hC:C=(m:Int)) (hnm:n≤m) (hm:m≤1000000) (hb:base≤w.heap.size)
  (hK:∀ w',w'.ownsRow base 5 1 (.slice (some ⟨w.heap.size,0,none⟩) n m) n (cells8 (List.replicate n 0))→w.grownBy w' none→wpList Tryz.prog ops Q rest (a.put o.dst (.slice (some ⟨w.heap.size,0,none⟩) n m)) w') :
  wpList Tryz.prog ops Q (o :: rest) a w:=by
 refine wpList_plain hgd fun K hK'=>?_
 subst hL hC
 obtain ⟨i0,hi,hz0,hz1,hz2⟩:=info_parts info8
 have hr:=run_make (P:=Tryz.prog) w 25 5 i0 (.int .u8 0) Tryz.underlying25 hi hz0 kl kc n m (by omega) (by omega) (by rw [hz2];omega) (by omega)
 simp only [Int.toNat_natCast,hz1] at hr
 unfold Oper.wp
 simp [execOp,hop,hl,hc,hr,Result.andThen]
 exact hK' _ _ (hK _ (by have h:=own_room w hb n m hnm (by unfold maxLen;omega);rwa [Nat.mul_one] at h) (World.grownBy_alloc w _ none))
end Go.Proofs.YtmigakanbeckpaaGreatDoor
namespace Go.Proofs.YtmigakanbeckpaaGreatDoor
set_option maxRecDepth 100000
open Go.RowKit
theorem cE70 (vs:List Value):∀ w,(callFunc 70 vs.toArray).run Tryz.prog w=.ok (.enter 70 vs.toArray) w:=callFunc_enter Tryz.func70 (by kernel_rfl) (by kernel_rfl) _
theorem q_Big {w:World} {a:Option Addr} {c:Nat} {f:Nat→Nat} (hb:BA w a 32 f) {u:Int} (hu:BN f 0 u):Calls Tryz.prog 70 [.slice a 32 c].toArray w fun e w'=>e=.returned (.tuple [.agg (nc u).toArray,.bool true].toArray)∧Below w.heap.size w w':=by
 rcases hb.at_ with h0 | ⟨b,o,rfl,hr⟩
 ·omega
 have h:=big_any (cap:=c) (fun i=>⟨by omega,by have:=hb.lt i;omega⟩) hr
 have e:∀ o,o+8≤32→E (fun i=>((f (31-i):Nat):Int)) o 8=E (fun i=>Y i u) o 8:=fun o ho=>E_congr o 8 (fun i hi=>by
  rw [hu.at_ _ (by omega),Nat.zero_add])
 have w4:=E_words u
 rw [e 0 (by omega),e 8 (by omega),e 16 (by omega),e 24 (by omega),w4.1,w4.2.1,w4.2.2.1,w4.2.2.2] at h
 exact h
theorem q_dec_A {w:World} {b o c:Nat} {f:Nat→Nat} (hrd:Rd w b o 1 (fun i=>((f i:Nat):Int))) (h0:f 0=0):Calls Tryz.prog 35 [Value.slice (some ⟨b,o,none⟩) (1) (c)].toArray w fun e w'=>e=.returned (.tuple [.agg (nz++nz++[Value.bool true]).toArray,.bool true].toArray)∧Below w.heap.size w w':=by
 refine enter (args:=[Value.slice (some ⟨b,o,none⟩) (1) (c)]) Tryz.func35 rfl 47 rfl (lk rfl) (fun a h=>?_)
 refine aX h [] [eN 2 _,eS 3 _] ⟨rfl,rfl,T0⟩ [(0,.val (Value.slice (some ⟨b,o,none⟩) (1) (c))),(2,.ptr 2 0)] [(2,nz++nz++[Value.bool false])] (fun a w h=>?_)
 refine wp_seq ?_
 refine aX h [1,2] [eS 9 _,eS 10 (.val (Value.int .i64 ((1:Nat):Int))),eS 11 (.val (Value.bool true))] ⟨rfl,fun L u=>u_lenV u (gd0 rfl) 10 rfl (.tmp 9) 25 rfl rfl Tryz.underlying25,fun L u=>u_bin u (gd0 rfl) _ rfl _ _ _ _ _ rfl rfl rfl (eqg_int _ _ _ _ _ _ _ _) _ (yes_of (fun w=>i_eql _ _ _ _ w) (by omega)),T0⟩ [(0,_),(2,_),(11,.val (Value.bool true))] [(2,_)] (fun a w h=>?_)
 refine go_cond h true rfl (fun ht=>?_) (fun hf=>?_)
 case refine_2=>cases hf
 refine aX h [0,2,3,4] [eS 12 _,eS 13 _,eS 14 (.val (Value.pointer (some ⟨b,o+0,none⟩))),eS 15 (.val (Value.int .u8 ((f 0:Nat):Int))),eS 16 (.val (Value.bool true)),eM 2 _,eS 3 _] ⟨fun L u=>u_call u (gd0 rfl) _ rfl _ _ _ rfl [] rfl (cE69 _) _ (fun w hb=>q_neutral),rfl,fun L u=>u_atX u (gd0 rfl) 14 rfl 25 (.tmp 13) (.const (.int .i64 0)) rfl rfl (k:=0) rfl Tryz.underlying25 i5 (by omega) (o+0) rfl,fun L u=>u_loadX u (gd0 rfl) 15 rfl 5 (.tmp 14) rfl rfl Tryz.underlying5 rfl (Value.int .u8 ((f 0:Nat):Int)) (hrd.c 0 (by omega)) rfl,fun L u=>u_bin u (gd0 rfl) _ rfl _ _ _ _ _ rfl rfl rfl (eqg_int _ _ _ _ _ _ _ _) _ (yes_of (fun w=>i_eql _ _ _ _ w) (by omega)),rfl,rfl,T0⟩ [(2,_),(3,.val (Value.bool true))] [(2,nz++nz++[Value.bool true])] (fun a w h=>?_)
 refine wp_ret ?_
 refine then_ret ?_
 refine ret_two h _ _ rfl (ans_row (cs:=nz++nz++[Value.bool true]) 2 (lk rfl) 44 rfl rfl Tryz.underlying44 rfl i44) (ans_tmp (v:=Value.bool true) 3 (lk rfl) rfl) ?_
 exact ⟨rfl,h.grows⟩
theorem q_dec_E {w:World} (hT:Tab w) {b o c:Nat} {f:Nat→Nat} (hba:BA w (some ⟨b,o,none⟩) 65 f) (hrd:Rd w b o 65 (fun i=>((f i:Nat):Int))) (hc:65≤c) {U V:Int} (hbU:BN f 1 U) (hbV:BN f 33 V) (h4:f 0=4) (hfm:fmd U V false=false):Calls Tryz.prog 35 [Value.slice (some ⟨b,o,none⟩) (65) (c)].toArray w fun e w'=>e=.returned (.tuple [.agg (nz++nz++[Value.bool true]).toArray,.bool false].toArray)∧Below w.heap.size w w':=by
 refine enter (args:=[Value.slice (some ⟨b,o,none⟩) (65) (c)]) Tryz.func35 rfl 47 rfl (lk rfl) (fun a h=>?_)
 refine aX h [] [eN 2 _,eS 3 _] ⟨rfl,rfl,T0⟩ [(0,.val (Value.slice (some ⟨b,o,none⟩) (65) (c))),(2,.ptr 2 0)] [(2,nz++nz++[Value.bool false])] (fun a w h=>?_)
 refine wp_seq ?_
 refine aX h [1,2] [eS 9 _,eS 10 (.val (Value.int .i64 ((65:Nat):Int))),eS 11 (.val (Value.bool false))] ⟨rfl,fun L u=>u_lenV u (gd0 rfl) 10 rfl (.tmp 9) 25 rfl rfl Tryz.underlying25,fun L u=>u_bin u (gd0 rfl) _ rfl _ _ _ _ _ rfl rfl rfl (eqg_int _ _ _ _ _ _ _ _) _ (no_of (fun w=>i_eql _ _ _ _ w) (by omega)),T0⟩ [(0,_),(2,_),(11,.val (Value.bool false))] [(2,_)] (fun a w h=>?_)
 refine go_cond h false rfl (fun ht=>?_) (fun hf=>?_)
 case refine_1=>cases ht
 refine wp_skip ?_
 refine then_norm ?_
 refine wp_seq ?_
 refine aX h [1,2,5,6,7] [eS 17 _,eS 18 (.val (Value.int .i64 ((65:Nat):Int))),eS 19 (.val (Value.bool false)),eS 20 _,eS 21 _,eS 22 (.val (Value.pointer (some ⟨b,o+0,none⟩))),eS 23 (.val (Value.int .u8 ((f 0:Nat):Int))),eS 24 (.val (Value.bool false)),eS 25 _] ⟨rfl,fun L u=>u_lenV u (gd0 rfl) 18 rfl (.tmp 17) 25 rfl rfl Tryz.underlying25,fun L u=>u_bin u (gd0 rfl) _ rfl _ _ _ _ _ rfl rfl rfl (eqg_int _ _ _ _ _ _ _ _) _ (no_of (fun w=>i_neq _ _ _ _ w) (by omega)),rfl,rfl,fun L u=>u_atX u (gd1 u 3 false rfl 20 rfl (lk rfl) rfl) 22 rfl 25 (.tmp 21) (.const (.int .i64 0)) rfl rfl (k:=0) rfl Tryz.underlying25 i5 (by omega) (o+0) rfl,fun L u=>u_loadX u (gd1 u 3 false rfl 20 rfl (lk rfl) rfl) 23 rfl 5 (.tmp 22) rfl rfl Tryz.underlying5 rfl (Value.int .u8 ((f 0:Nat):Int)) (hrd.c 0 (by omega)) rfl,fun L u=>u_bin u (gd1 u 3 false rfl 20 rfl (lk rfl) rfl) _ rfl _ _ _ _ _ rfl rfl rfl (eqg_int _ _ _ _ _ _ _ _) _ (no_of (fun w=>i_neq _ _ _ _ w) (by omega)),rfl,T0⟩ [(0,_),(2,_),(25,.val (Value.bool false))] [(2,_)] (fun a w h=>?_)
 refine go_cond h false rfl (fun ht=>?_) (fun hf=>?_)
 case refine_1=>cases ht
 refine wp_skip ?_
 refine then_norm ?_
 refine aX h [1,2] [eS 28 _,eS 29 (.val (Value.slice (cutA (some ⟨b,o,none⟩) (c) 1) (32) (c-1))),eS 30 _,eS 27 _,eS 31 _,eS 32 _,eN 4 _,eM 4 _,eS 5 _] ⟨rfl,fun L u=>u_part2 u (gd0 rfl) 29 rfl 25 (.tmp 28) (.const (.int .i64 1)) (.const (.int .i64 33)) rfl rfl rfl rfl (.slice (cutA (some ⟨b,o,none⟩) (c) 1) 32 (c-1)) (fun w=>run_midS (k:=1) (m:=33) (by omega) (by omega) w),fun L u=>u_call u (gd0 rfl) _ rfl _ _ _ rfl [_] rfl (cE70 _) _ (fun w hb=>q_Big ((hba.keep (Bs.kp_of hb)).cut c 1 32 (by omega) (by omega)) hbU.shift),rfl,rfl,rfl,rfl,rfl,rfl,T0⟩ [(0,_),(2,_),(4,.ptr 4 0)] [(2,_),(4,nc (U))] (fun a w h=>?_)
 refine aX h [1,2] [eS 34 _,eS 35 (.val (Value.slice (cutA (some ⟨b,o,none⟩) (c) 33) (32) (c-33))),eS 36 _,eS 33 _,eS 37 _,eS 38 _,eN 6 _,eM 6 _,eS 7 _] ⟨rfl,fun L u=>u_partT u (gd0 rfl) 35 rfl 25 (.tmp 34) (.const (.int .i64 33)) rfl rfl rfl (.slice (cutA (some ⟨b,o,none⟩) (c) 33) 32 (c-33)) (fun w=>run_fromS (k:=33) (by omega) w),fun L u=>u_call u (gd0 rfl) _ rfl _ _ _ rfl [_] rfl (cE70 _) _ (fun w hb=>q_Big ((hba.keep (Bs.kp_of hb)).cut c 33 32 (by omega) (by omega)) hbV.shift),rfl,rfl,rfl,rfl,rfl,rfl,T0⟩ [(2,_),(4,_),(6,.ptr 6 0)] [(2,_),(4,_),(6,nc (V))] (fun a w h=>?_)
 refine aX h [2] [eS 39 _,eS 40 _,eS 41 (.val (.agg (nc (U)++nc (V)++[Value.bool false]).toArray)),eN 8 _,eM 8 _] ⟨rfl,rfl,fun L u=>u_build u (gd0 rfl) 41 rfl 44 #[(0,(.tmp 39)),(1,(.tmp 40))] rfl [(0,.agg (nc (U)).toArray),(1,.agg (nc (V)).toArray)] rfl (nc (U)++nc (V)++[Value.bool false]) (bPn _ _),rfl,rfl,T0⟩ [(2,_),(8,.ptr 8 0)] [(2,_),(8,nc (U)++nc (V)++[Value.bool false])] (fun a w h=>?_)
 refine wp_seq ?_
 refine aX h [1] [eS 42 _,eS 43 (.val (Value.bool false)),eS 44 _] ⟨rfl,fun L u=>u_call u (gd0 rfl) _ rfl _ _ _ rfl [_] rfl (cE51 _) (Value.bool false) (fun w hb=>by have g:=q_Formed (hT.keep (Bs.kp_of hb)) hbU.num hbV.num false;rw [hfm] at g;exact g),rfl,T0⟩ [(2,_),(8,_),(44,.val (Value.bool true))] [(2,_),(8,_)] (fun a w h=>?_)
 refine go_cond h true rfl (fun ht=>?_) (fun hf=>?_)
 case refine_2=>cases hf
 refine aX h [0] [eS 45 _,eM 2 _,eS 3 _] ⟨fun L u=>u_call u (gd0 rfl) _ rfl _ _ _ rfl [] rfl (cE69 _) _ (fun w hb=>q_neutral),rfl,rfl,T0⟩ [(2,_),(3,.val (Value.bool false))] [(2,nz++nz++[Value.bool true])] (fun a w h=>?_)
 refine wp_ret ?_
 refine then_ret ?_
 refine ret_two h _ _ rfl (ans_row (cs:=nz++nz++[Value.bool true]) 2 (lk rfl) 44 rfl rfl Tryz.underlying44 rfl i44) (ans_tmp (v:=Value.bool false) 3 (lk rfl) rfl) ?_
 exact ⟨rfl,h.grows⟩
theorem q_dec_F {w:World} (hT:Tab w) {b o c:Nat} {f:Nat→Nat} (hba:BA w (some ⟨b,o,none⟩) 65 f) (hrd:Rd w b o 65 (fun i=>((f i:Nat):Int))) (hc:65≤c) {U V:Int} (hbU:BN f 1 U) (hbV:BN f 33 V) (h4:f 0=4) (hfm:fmd U V false=true):Calls Tryz.prog 35 [Value.slice (some ⟨b,o,none⟩) (65) (c)].toArray w fun e w'=>e=.returned (.tuple [.agg (rc U V false).toArray,.bool true].toArray)∧Below w.heap.size w w':=by
 refine enter (args:=[Value.slice (some ⟨b,o,none⟩) (65) (c)]) Tryz.func35 rfl 47 rfl (lk rfl) (fun a h=>?_)
 refine aX h [] [eN 2 _,eS 3 _] ⟨rfl,rfl,T0⟩ [(0,.val (Value.slice (some ⟨b,o,none⟩) (65) (c))),(2,.ptr 2 0)] [(2,nz++nz++[Value.bool false])] (fun a w h=>?_)
 refine wp_seq ?_
 refine aX h [1,2] [eS 9 _,eS 10 (.val (Value.int .i64 ((65:Nat):Int))),eS 11 (.val (Value.bool false))] ⟨rfl,fun L u=>u_lenV u (gd0 rfl) 10 rfl (.tmp 9) 25 rfl rfl Tryz.underlying25,fun L u=>u_bin u (gd0 rfl) _ rfl _ _ _ _ _ rfl rfl rfl (eqg_int _ _ _ _ _ _ _ _) _ (no_of (fun w=>i_eql _ _ _ _ w) (by omega)),T0⟩ [(0,_),(2,_),(11,.val (Value.bool false))] [(2,_)] (fun a w h=>?_)
 refine go_cond h false rfl (fun ht=>?_) (fun hf=>?_)
 case refine_1=>cases ht
 refine wp_skip ?_
 refine then_norm ?_
 refine wp_seq ?_
 refine aX h [1,2,5,6,7] [eS 17 _,eS 18 (.val (Value.int .i64 ((65:Nat):Int))),eS 19 (.val (Value.bool false)),eS 20 _,eS 21 _,eS 22 (.val (Value.pointer (some ⟨b,o+0,none⟩))),eS 23 (.val (Value.int .u8 ((f 0:Nat):Int))),eS 24 (.val (Value.bool false)),eS 25 _] ⟨rfl,fun L u=>u_lenV u (gd0 rfl) 18 rfl (.tmp 17) 25 rfl rfl Tryz.underlying25,fun L u=>u_bin u (gd0 rfl) _ rfl _ _ _ _ _ rfl rfl rfl (eqg_int _ _ _ _ _ _ _ _) _ (no_of (fun w=>i_neq _ _ _ _ w) (by omega)),rfl,rfl,fun L u=>u_atX u (gd1 u 3 false rfl 20 rfl (lk rfl) rfl) 22 rfl 25 (.tmp 21) (.const (.int .i64 0)) rfl rfl (k:=0) rfl Tryz.underlying25 i5 (by omega) (o+0) rfl,fun L u=>u_loadX u (gd1 u 3 false rfl 20 rfl (lk rfl) rfl) 23 rfl 5 (.tmp 22) rfl rfl Tryz.underlying5 rfl (Value.int .u8 ((f 0:Nat):Int)) (hrd.c 0 (by omega)) rfl,fun L u=>u_bin u (gd1 u 3 false rfl 20 rfl (lk rfl) rfl) _ rfl _ _ _ _ _ rfl rfl rfl (eqg_int _ _ _ _ _ _ _ _) _ (no_of (fun w=>i_neq _ _ _ _ w) (by omega)),rfl,T0⟩ [(0,_),(2,_),(25,.val (Value.bool false))] [(2,_)] (fun a w h=>?_)
 refine go_cond h false rfl (fun ht=>?_) (fun hf=>?_)
 case refine_1=>cases ht
 refine wp_skip ?_
 refine then_norm ?_
 refine aX h [1,2] [eS 28 _,eS 29 (.val (Value.slice (cutA (some ⟨b,o,none⟩) (c) 1) (32) (c-1))),eS 30 _,eS 27 _,eS 31 _,eS 32 _,eN 4 _,eM 4 _,eS 5 _] ⟨rfl,fun L u=>u_part2 u (gd0 rfl) 29 rfl 25 (.tmp 28) (.const (.int .i64 1)) (.const (.int .i64 33)) rfl rfl rfl rfl (.slice (cutA (some ⟨b,o,none⟩) (c) 1) 32 (c-1)) (fun w=>run_midS (k:=1) (m:=33) (by omega) (by omega) w),fun L u=>u_call u (gd0 rfl) _ rfl _ _ _ rfl [_] rfl (cE70 _) _ (fun w hb=>q_Big ((hba.keep (Bs.kp_of hb)).cut c 1 32 (by omega) (by omega)) hbU.shift),rfl,rfl,rfl,rfl,rfl,rfl,T0⟩ [(0,_),(2,_),(4,.ptr 4 0)] [(2,_),(4,nc (U))] (fun a w h=>?_)
 refine aX h [1,2] [eS 34 _,eS 35 (.val (Value.slice (cutA (some ⟨b,o,none⟩) (c) 33) (32) (c-33))),eS 36 _,eS 33 _,eS 37 _,eS 38 _,eN 6 _,eM 6 _,eS 7 _] ⟨rfl,fun L u=>u_partT u (gd0 rfl) 35 rfl 25 (.tmp 34) (.const (.int .i64 33)) rfl rfl rfl (.slice (cutA (some ⟨b,o,none⟩) (c) 33) 32 (c-33)) (fun w=>run_fromS (k:=33) (by omega) w),fun L u=>u_call u (gd0 rfl) _ rfl _ _ _ rfl [_] rfl (cE70 _) _ (fun w hb=>q_Big ((hba.keep (Bs.kp_of hb)).cut c 33 32 (by omega) (by omega)) hbV.shift),rfl,rfl,rfl,rfl,rfl,rfl,T0⟩ [(2,_),(4,_),(6,.ptr 6 0)] [(2,_),(4,_),(6,nc (V))] (fun a w h=>?_)
 refine aX h [2] [eS 39 _,eS 40 _,eS 41 (.val (.agg (nc (U)++nc (V)++[Value.bool false]).toArray)),eN 8 _,eM 8 _] ⟨rfl,rfl,fun L u=>u_build u (gd0 rfl) 41 rfl 44 #[(0,(.tmp 39)),(1,(.tmp 40))] rfl [(0,.agg (nc (U)).toArray),(1,.agg (nc (V)).toArray)] rfl (nc (U)++nc (V)++[Value.bool false]) (bPn _ _),rfl,rfl,T0⟩ [(2,_),(8,.ptr 8 0)] [(2,_),(8,nc (U)++nc (V)++[Value.bool false])] (fun a w h=>?_)
 refine wp_seq ?_
 refine aX h [1] [eS 42 _,eS 43 (.val (Value.bool true)),eS 44 _] ⟨rfl,fun L u=>u_call u (gd0 rfl) _ rfl _ _ _ rfl [_] rfl (cE51 _) (Value.bool true) (fun w hb=>by have g:=q_Formed (hT.keep (Bs.kp_of hb)) hbU.num hbV.num false;rw [hfm] at g;exact g),rfl,T0⟩ [(2,_),(8,_),(44,.val (Value.bool false))] [(2,_),(8,_)] (fun a w h=>?_)
 refine go_cond h false rfl (fun ht=>?_) (fun hf=>?_)
 case refine_1=>cases ht
 refine wp_skip ?_
 refine then_norm ?_
 refine aX h [] [eS 46 _,eM 2 _,eS 3 _] ⟨rfl,rfl,rfl,T0⟩ [(2,_),(3,.val (Value.bool true))] [(2,nc (U)++nc (V)++[Value.bool false])] (fun a w h=>?_)
 refine wp_ret ?_
 refine ret_two h _ _ rfl (ans_row (cs:=nc (U)++nc (V)++[Value.bool false]) 2 (lk rfl) 44 rfl rfl Tryz.underlying44 rfl i44) (ans_tmp (v:=Value.bool true) 3 (lk rfl) rfl) ?_
 exact ⟨rfl,h.grows⟩
end Go.Proofs.YtmigakanbeckpaaGreatDoor
namespace Go.Proofs.YtmigakanbeckpaaGreatDoor
set_option maxRecDepth 100000
open Go.RowKit
attribute [local go_sem ↓] Go.wp_at_zero Go.wp_at_succ
theorem q_PutBig (a:Int) (w:World) :
  Calls Tryz.prog 52 #[.agg #[.int .u64 (L 0 a),.int .u64 (L 1 a),.int .u64 (L 2 a),.int .u64 (L 3 a)]] w fun e w'=>∃ g cap,e=.returned (.slice (some ⟨g,0,none⟩) 32 cap)∧Row8 w' g 32 (fun i=>Y (31-i) a)∧Below w.heap.size w w' :=
 Calls.mono (putBig_any a w) (fun _ _ ⟨he,hr,hb⟩=>⟨_,_,he,hr,hb⟩)
theorem q_formedL {w:World} (hT:Tab w) {X Y:Int} (hX:Num X) (hY:Num Y) (t:Bool):Calls Tryz.prog 51 #[.agg #[.int .u64 (L 0 X),.int .u64 (L 1 X),.int .u64 (L 2 X),.int .u64 (L 3 X),.int .u64 (L 0 Y),.int .u64 (L 1 Y),.int .u64 (L 2 Y),.int .u64 (L 3 Y),.bool t]] w fun e w'=>e=.returned (.bool (fmd X Y t))∧Below w.heap.size w w':=q_Formed hT hX hY t
theorem q_enc_none {w:World} (hT:Tab w) {X Y:Int} (hX:Num X) (hY:Num Y) (t:Bool) (h:t=true∨fmd X Y t=false) :
  Calls Tryz.prog 26 [.agg (rc X Y t).toArray].toArray w fun e w'=>∃ b,e=.returned (.slice (some ⟨b,0,none⟩) 1 1)∧w.heap.size≤b∧Row8 w' b 1 (fun _=>0)∧Below w.heap.size w w':=by
 show Calls Tryz.prog 26 #[.agg #[.int .u64 (L 0 X),.int .u64 (L 1 X),.int .u64 (L 2 X),.int .u64 (L 3 X),.int .u64 (L 0 Y),.int .u64 (L 1 Y),.int .u64 (L 2 Y),.int .u64 (L 3 Y),.bool t]] w _
 have hal:=K.alloc (Below.refl _ w) (.cells #[.int .u64 (L 0 X),.int .u64 (L 1 X),.int .u64 (L 2 X),.int .u64 (L 3 X),.int .u64 (L 0 Y),.int .u64 (L 1 Y),.int .u64 (L 2 Y),.int .u64 (L 3 Y),.bool t] 44)
 have hc:=pt_cells w X Y t
 have HE:=hide (q_formedL (hT.keep hal) hX hY t)
 have HAl:=hide hal
 have c0:=hc 0 _ rfl
 have c1:=hc 1 _ rfl
 have c2:=hc 2 _ rfl
 have c3:=hc 3 _ rfl
 have c4:=hc 4 _ rfl
 have c5:=hc 5 _ rfl
 have c6:=hc 6 _ rfl
 have c7:=hc 7 _ rfl
 have c8:=hc 8 _ rfl
 clear hc hal hX hY hT
 cases t with
 | true =>
  clear h HE
  go_enter Tryz.func26,Tryz.ntmps26
  go_upto_region 1 with fail
  generalize w.alloc (.cells #[.int .u64 (L 0 X),.int .u64 (L 1 X),.int .u64 (L 2 X),.int .u64 (L 3 X),.int .u64 (L 0 Y),.int .u64 (L 1 Y),.int .u64 (L 2 Y),.int .u64 (L 3 Y),.bool true] 44)=X0 at *
  go_wp2_with fail
  go_ret
  exact ⟨X0.heap.size,rfl,HAl.out.size,one_row X0 0,K.alloc HAl.out _⟩
 | false =>
  have hf:=h.resolve_left (by decide)
  rw [hf] at HE
  clear h hf
  go_enter Tryz.func26,Tryz.ntmps26
  go_upto_region 1 with fail
  generalize w.alloc (.cells #[.int .u64 (L 0 X),.int .u64 (L 1 X),.int .u64 (L 2 X),.int .u64 (L 3 X),.int .u64 (L 0 Y),.int .u64 (L 1 Y),.int .u64 (L 2 Y),.int .u64 (L 3 Y),.bool false] 44)=X0 at *
  go_wp2_with fail
  with_reducible refine Calls.mono HE.out ?_
  rintro e w2 ⟨rfl,hb⟩
  have HB2:=hide (K.call HAl.out hb)
  clear hb HE HAl c0 c1 c2 c3 c4 c5 c6 c7 c8
  go_wp2_with fail
  go_ret
  exact ⟨w2.heap.size,rfl,HB2.out.size,one_row w2 0,K.alloc HB2.out _⟩
theorem q_enc_at {w : World} (hT : Tab w) {X Y : Int} (hX : Num X) (hY : Num Y) (h : fmd X Y false = true) :
    Calls Tryz.prog 26 [.agg (rc X Y false).toArray].toArray w fun e w' => ∃ r, e = .returned r ∧ Made 65 (ptB X Y) r w w' ∧ Below w.heap.size w w' := by
  show Calls Tryz.prog 26 #[.agg #[.int .u64 (L 0 X), .int .u64 (L 1 X), .int .u64 (L 2 X), .int .u64 (L 3 X), .int .u64 (L 0 Y), .int .u64 (L 1 Y), .int .u64 (L 2 Y), .int .u64 (L 3 Y), .bool false]] w _
  have hal := K.alloc (Below.refl _ w) (.cells #[.int .u64 (L 0 X), .int .u64 (L 1 X), .int .u64 (L 2 X), .int .u64 (L 3 X), .int .u64 (L 0 Y), .int .u64 (L 1 Y), .int .u64 (L 2 Y), .int .u64 (L 3 Y), .bool false] 44)
  have hc := pt_cells w X Y false
  have HE := hide (q_formedL (hT.keep hal) hX hY false)
  have HAl := hide hal
  have HCs : Hid (∀ W, Below (w.alloc (.cells #[.int .u64 (L 0 X), .int .u64 (L 1 X), .int .u64 (L 2 X), .int .u64 (L 3 X), .int .u64 (L 0 Y), .int .u64 (L 1 Y), .int .u64 (L 2 Y), .int .u64 (L 3 Y), .bool false] 44)).heap.size (w.alloc (.cells #[.int .u64 (L 0 X), .int .u64 (L 1 X), .int .u64 (L 2 X), .int .u64 (L 3 X), .int .u64 (L 0 Y), .int .u64 (L 1 Y), .int .u64 (L 2 Y), .int .u64 (L 3 Y), .bool false] 44)) W → ∀ j v, [Value.int .u64 (L 0 X), .int .u64 (L 1 X), .int .u64 (L 2 X), .int .u64 (L 3 X), .int .u64 (L 0 Y), .int .u64 (L 1 Y), .int .u64 (L 2 Y), .int .u64 (L 3 Y), .bool false][j]? = some v → W.cell? ⟨w.heap.size, j, none⟩ = some v) := fun W hb j v hv => later hb (hc j v hv)
  have c0 := hc 0 _ rfl
  have c1 := hc 1 _ rfl
  have c2 := hc 2 _ rfl
  have c3 := hc 3 _ rfl
  have c4 := hc 4 _ rfl
  have c5 := hc 5 _ rfl
  have c6 := hc 6 _ rfl
  have c7 := hc 7 _ rfl
  have c8 := hc 8 _ rfl
  clear hc hal hX hY hT
  rw [h] at HE
  clear h
  go_enter Tryz.func26, Tryz.ntmps26
  go_upto_region 1 with fail
  generalize w.alloc (.cells #[.int .u64 (L 0 X), .int .u64 (L 1 X), .int .u64 (L 2 X), .int .u64 (L 3 X), .int .u64 (L 0 Y), .int .u64 (L 1 Y), .int .u64 (L 2 Y), .int .u64 (L 3 Y), .bool false] 44) = X0 at *
  go_wp2_with fail
  with_reducible refine Calls.mono HE.out ?_
  rintro e w2 ⟨rfl, hb⟩
  have HS := hide hb.size
  have HB := hide hb
  clear HE c0 c1 c2 c3 c4 c5 c6 c7 c8 hb
  obtain ⟨b2, hb2⟩ : ∃ b2, w2.heap.size = b2 := ⟨_, rfl⟩
  go_upto_region 4 with (at_make; refine wpList_make_room _ rfl _ _ rfl (base := w2.heap.size) _ _ _ _ 0 65 rfl rfl rfl rfl (by omega) (by omega) (Nat.le_refl _) ?_; intro w1 hO1 hg1)
  have ha1 : Below X0.heap.size X0 w1 := HB.out.grown hg1 HB.out.size (fun k hk => by cases hk)
  rw [hb2] at hO1 HS
  have hz1 := (hO1.lt b2 rfl).2
  have HO1 := hide (own_keep hO1 (K.alloc (Below.refl _ w1) (.cells #[.int .u8 ((4 : Nat) : Int)] 5)))
  have HA1 := hide (K.call ha1 (K.alloc (Below.refl _ w1) (.cells #[.int .u8 ((4 : Nat) : Int)] 5)))
  have HBA1 : Hid (BA (w1.alloc (.cells #[.int .u8 ((4 : Nat) : Int)] 5)) (some ⟨w1.heap.size, 0, none⟩) 1 (fun _ => 4)) := ⟨fun _ => by omega, Or.inr ⟨_, 0, rfl, (one_row w1 4).rd⟩⟩
  have HSz1 : Hid (b2 ≤ (w1.alloc (.cells #[.int .u8 ((4 : Nat) : Int)] 5)).heap.size) := by rw [size_alloc1]; show b2 ≤ _; omega
  have HB2 := hide hb2
  clear hO1 hg1 ha1 hz1 HB hb2
  go_upto_region 5 with (at_builtin; refine wpList_app rfl _ _ rfl rfl HO1.out rfl HBA1.out (by omega) HSz1.out ?_; intro v1 X1 hO2 hg2)
  have HO : Hid (X1.ownsRow b2 5 1 v1 1 (cells8 [4])) := hO2
  have HA := hide (HA1.out.grown hg2 HA1.out.size (fun k hk => by have := (HO1.out.lt k hk).1; have := HS.out; omega))
  have hX1 := HA.out
  have d0 := HCs.out _ hX1 0 _ rfl
  have d1 := HCs.out _ hX1 1 _ rfl
  have d2 := HCs.out _ hX1 2 _ rfl
  have d3 := HCs.out _ hX1 3 _ rfl
  clear hO2 hg2 HO1 HA1 HBA1 HSz1
  go_wp2_with fail
  with_reducible refine Calls.mono (q_PutBig X X1) ?_
  rintro e w3 ⟨g3, k3, rfl, hR3, hb3⟩
  have HO3 := hide (own_keep HO.out hb3)
  have HBA3 := hide (bg_ba hR3)
  have HX3 := hide (K.call HA.out hb3)
  have HSz3 : Hid (b2 ≤ w3.heap.size) := by have h1 := HX3.out.size; rcases HO3.out.2 with ⟨_, h0⟩ | ⟨q, _, _, hq0, hq, _⟩
                                            · cases h0
                                            · have h3 := (HO3.out.lt q (by rw [hq0]; rfl)).2; show b2 ≤ _; omega
  clear hR3 hb3 HO hX1 d0 d1 d2 d3
  go_upto_region 6 with (at_builtin; refine wpList_app rfl _ _ rfl rfl HO3.out rfl HBA3.out (by omega) HSz3.out ?_; intro v4 w4 hO4 hg4)
  have hb4 : Below X0.heap.size X0 w4 := HX3.out.grown hg4 HX3.out.size (fun k hk => by have := (HO3.out.lt k hk).1; have := HS.out; omega)
  have d4 := HCs.out _ hb4 4 _ rfl
  have d5 := HCs.out _ hb4 5 _ rfl
  have d6 := HCs.out _ hb4 6 _ rfl
  have d7 := HCs.out _ hb4 7 _ rfl
  have HO4 := hide hO4
  have HX4 := hide hb4
  clear hO4 hg4 hb4 HO3 HBA3 HX3 HSz3 HA
  go_wp2_with fail
  with_reducible refine Calls.mono (q_PutBig Y w4) ?_
  rintro e w5 ⟨g5, k5, rfl, hR5, hb5⟩
  have HO5 := hide (own_keep HO4.out hb5)
  have HBA5 := hide (bg_ba hR5)
  have HX5 := hide (K.call HX4.out hb5)
  have HSz5 : Hid (b2 ≤ w5.heap.size) := by have h1 := HX5.out.size; have h2 := HO4.out; rcases h2.2 with ⟨_, h0⟩ | ⟨q, _, _, rfl, hq, _⟩
                                            · omega
                                            · have h3 := (HO5.out.lt q rfl).2; show b2 ≤ _; omega
  clear hR5 hb5 HO4 HX4 d4 d5 d6 d7
  go_wp2_with (at_builtin; refine wpList_app rfl _ _ rfl rfl HO5.out rfl HBA5.out (by omega) HSz5.out ?_; intro v6 w6 hO6 hg6)
  have hb6 : Below X0.heap.size X0 w6 := HX5.out.grown hg6 HX5.out.size (fun k hk => by have := (HO5.out.lt k hk).1; have := HS.out; omega)
  have hO7 : w6.ownsRow b2 5 1 v6 65 (cells8 (fl (ptB X Y) 65)) := by
    have e : [4] ++ fl (bgB X) 32 ++ fl (bgB Y) 32 = fl (ptB X Y) 65 := by
      rw [show [4] = fl (fun _ => 4) 1 from rfl, fl_cat, fl_cat]
      rfl
    rw [e] at hO6
    exact hO6
  obtain ⟨g6, c6, rfl, hg, _⟩ := own_rd (f := fun i => ((ptB X Y i : Nat) : Int)) hO7 (fun j hj => by rw [cells8_at _ j (by rw [fl_len]; exact hj), List.getD_eq_getElem?_getD, fl_at _ hj]; rfl) (by omega)
  obtain ⟨_, _, hv, hc6, hm6⟩ := own_max hO7
  cases hv
  have hba := own_ba hO7 (cat_lt (cat_lt (fun _ => by show 4 < 256; omega) (bgB_lt X) 1) (bgB_lt Y) 33)
  go_ret
  exact ⟨_, rfl, ⟨g6, _, rfl, by have h1 := HAl.out.size; have h2 := HS.out; omega, hba, hc6, hm6⟩, K.call HAl.out hb6⟩
end Go.Proofs.YtmigakanbeckpaaGreatDoor
namespace Go.Proofs.YtmigakanbeckpaaGreatDoor
open Go.RowKit
def ptL (a:Wp m0):List Nat:=match a with
 | none=>[0]
 | some q=>fl (ptB (q.1.val:Int) (q.2.val:Int)) 65
theorem ba_fl {w:World} {z:Option Addr} {n:Nat} {f:Nat→Nat} (h:BA w z n f):BA w z n (fun i=>(fl f n).getD i 0):=by
 refine ⟨fun i=>?_,h.at_.imp id fun ⟨b,o,e,hr⟩=>⟨b,o,e,hr.congr (fun i hi=>?_)⟩⟩
 ·show (fl f n).getD i 0<256
  rw [List.getD_eq_getElem?_getD]
  cases hi:(fl f n)[i]? with
  | none=>decide
  | some x=>exact fl_lt h.lt n x (List.mem_of_getElem? hi)
 ·show ((f i:Nat):Int)=(((fl f n).getD i 0:Nat):Int)
  rw [List.getD_eq_getElem?_getD,fl_at f hi]
  rfl
theorem ba_in {w:World} {g o n:Nat} {f:Nat→Nat} (h:BA w (some ⟨g,o,none⟩) n f) (hn:0<n):g<w.heap.size:=by
 rcases h.at_ with h0 | ⟨b,q,e,hr⟩
 ·omega
 ·cases e
  exact World.block_lt_of_cell? w _ (hr.c 0 hn)
theorem rEncP {w:World} (hT:Tab w) {a:Wp m0} (ha:a.on wb):Calls Tryz.prog 23 [.agg (pc a).toArray].toArray w fun r w'=>∃ v Fp,r=.returned v∧(rdPd (ptL a).length (ptL a)).p v Fp w'∧(∀ b,Fp b=true→w.heap.size≤b∧b<w'.heap.size)∧Below w.heap.size w w':=by
 cases a with
 | none =>
  have q:=r_enc_none hT (fin_num (px (none:Wp m0))) (fin_num (py (none:Wp m0))) true (Or.inl rfl)
  refine rd_of (n:=1) (l:=[0]) rfl (Calls.mono q ?_)
  rintro e w' ⟨b,rfl,h1,h2,h3⟩
  refine ⟨b,1,rfl,Nat.le_refl _,h1,h2.lt,⟨fun i=>?_,Or.inr ⟨b,0,rfl,h2.rd.congr (fun i hi=>?_)⟩⟩,h3⟩
  ·show ([0]:List Nat).getD i 0<256
   rcases i with _ | i <;> simp
  ·obtain rfl:i=0:=by omega
   rfl
 | some p =>
  have q:=r_enc_at hT (fin_num (px (some p))) (fin_num (py (some p))) (fmd_pc ha)
  refine rd_of (n:=(ptL (some p)).length) rfl (Calls.mono q ?_)
  rintro e w' ⟨r,rfl,⟨g,c,rfl,h1,h2,h3,h4⟩,h5⟩
  have el:(ptL (some p)).length=65:=fl_len _ _
  rw [el]
  exact ⟨g,c,rfl,h3,h1,ba_in h2 (by decide),ba_fl h2,h5⟩
theorem qEncP {w:World} (hT:Tab w) {a:Wp m0} (ha:a.on wb):Calls Tryz.prog 26 [.agg (pc a).toArray].toArray w fun r w'=>∃ v Fp,r=.returned v∧(rdPd (ptL a).length (ptL a)).p v Fp w'∧(∀ b,Fp b=true→w.heap.size≤b∧b<w'.heap.size)∧Below w.heap.size w w':=by
 cases a with
 | none =>
  have q:=q_enc_none hT (fin_num (px (none:Wp m0))) (fin_num (py (none:Wp m0))) true (Or.inl rfl)
  refine rd_of (n:=1) (l:=[0]) rfl (Calls.mono q ?_)
  rintro e w' ⟨b,rfl,h1,h2,h3⟩
  refine ⟨b,1,rfl,Nat.le_refl _,h1,h2.lt,⟨fun i=>?_,Or.inr ⟨b,0,rfl,h2.rd.congr (fun i hi=>?_)⟩⟩,h3⟩
  ·show ([0]:List Nat).getD i 0<256
   rcases i with _ | i <;> simp
  ·obtain rfl:i=0:=by omega
   rfl
 | some p =>
  have q:=q_enc_at hT (fin_num (px (some p))) (fin_num (py (some p))) (fmd_pc ha)
  refine rd_of (n:=(ptL (some p)).length) rfl (Calls.mono q ?_)
  rintro e w' ⟨r,rfl,⟨g,c,rfl,h1,h2,h3,h4⟩,h5⟩
  have el:(ptL (some p)).length=65:=fl_len _ _
  rw [el]
  exact ⟨g,c,rfl,h3,h1,ba_in h2 (by decide),ba_fl h2,h5⟩
end Go.Proofs.YtmigakanbeckpaaGreatDoor
namespace Go.Proofs.YtmigakanbeckpaaGreatDoor
set_option maxRecDepth 100000
open Go.RowKit
attribute [local go_sem ↓] Go.wp_at_zero Go.wp_at_succ
theorem f_fold {k a:Int} (hkk:0≤k∧k≤3) (ha:Num a) {w:World} (hT:Tab w):Calls Tryz.prog 60 #[.int .i64 k,.agg #[.int .u64 (L 0 a),.int .u64 (L 1 a),.int .u64 (L 2 a),.int .u64 (L 3 a)]] w fun e w'=>e=.returned (.agg #[.int .u64 (L 0 (a % md k)),.int .u64 (L 1 (a % md k)),.int .u64 (L 2 (a % md k)),.int .u64 (L 3 (a % md k))])∧Below w.heap.size w w':=by
 go_enter Tryz.func60,Tryz.ntmps60
 go_wp2
 have hR:=(ArrW.new (w.alloc (.cells #[.int .u64 (L 0 a),.int .u64 (L 1 a),.int .u64 (L 2 a),.int .u64 (L 3 a)] 24)) (w.heap.size+1) (by simp) 24 0 0 0 0).keep (Below.refl _ _).drew
 go_region_held3 (fun w'=>Below w.heap.size w w'∧w'.cell? ⟨w.heap.size,0,none⟩=some (.int .u64 (L 0 a))∧w'.cell? ⟨w.heap.size,1,none⟩=some (.int .u64 (L 1 a))∧w'.cell? ⟨w.heap.size,2,none⟩=some (.int .u64 (L 2 a))∧w'.cell? ⟨w.heap.size,3,none⟩=some (.int .u64 (L 3 a)))
  ((go_split_ands;(repeat' apply And.intro) <;> first | (with_reducible assumption) | (with_reducible exact later hk (by assumption)) | (with_reducible exact K.call (by assumption) hk) | (with_reducible exact later_a (by assumption)) | (with_reducible exact later_ad (by assumption)) | (with_reducible exact set4_other (by omega) _ _ _ _ (by assumption)) | (with_reducible exact K.set4 (by assumption) (by omega) _ _ _ _) | (simp [go_sem];done) | (repeat' (first | (with_reducible assumption) | (with_reducible exact Below.refl _ _) | (with_reducible refine K.drewN ?_ _) | (with_reducible refine K.drew ?_) | (with_reducible refine K.alloc ?_ _)))))
  (first
   | (go_at_call 101;with_reducible refine Calls.mono (modOf_any k (hT.keep (by go_split_ands;assumption))) ?_;rintro e w' ⟨rfl,hk⟩;have hR:=hR.keep hk;have ⟨kr,kr0,kr1,kr2,kr3,kf0,kf1,kf2,kf3⟩:=hR)
   | (go_at_call 102;with_reducible refine Calls.mono (fold_any hkk ha _) ?_;rintro e w' ⟨rfl,hk⟩;have hR:=hR.keep hk;have ⟨kr,kr0,kr1,kr2,kr3,kf0,kf1,kf2,kf3⟩:=hR))
 have hH:=‹Below _ _ _∧_›
 go_wp2
 exact bodyPost_ret (v:=.agg #[.int .u64 (L 0 (a % md k)),.int .u64 (L 1 (a % md k)),.int .u64 (L 2 (a % md k)),.int .u64 (L 3 (a % md k))]) (by simp [results,Tryz.results60,go_sem,kr0,kr1,kr2,kr3]) rfl ⟨rfl,hH.1⟩
end Go.Proofs.YtmigakanbeckpaaGreatDoor
namespace Go.Proofs.YtmigakanbeckpaaGreatDoor
open Go.RowKit
theorem fold1 {w:World} (hT:Tab w) {a b:Nat} (ha:a<2 ^ 256) (hb:(a:Int) % md 1=(b:Int)):Calls Tryz.prog 60 [.int .i64 1,.agg (nc (a:Int)).toArray].toArray w fun e w'=>e=.returned (.agg (nc (b:Int)).toArray)∧Below w.heap.size w w':=by
 have h:=f_fold (k:=1) ⟨by decide,by decide⟩ (num_natX ha) hT
 rw [hb] at h
 exact h
end Go.Proofs.YtmigakanbeckpaaGreatDoor
namespace Go.Proofs.YtmigakanbeckpaaGreatDoor.Sh
set_option maxRecDepth 100000
open Go.RowKit
attribute [local go_sem ↓] Go.wp_at_zero Go.wp_at_succ
attribute [local go_sem] wn_or wn_and
theorem rot_of (x:Wd) (n:Nat):wor (wshl x (32-n)) (wshr x n)=rotr x n:=by
 unfold wor wshl wshr rotr;exact BitVec.or_comm _ _
theorem shl8_or (x:Wd) (v:Nat) (hv:v<256):wor (wshl x 8) (BitVec.ofNat 32 v)=wadd (wmul x 256) (BitVec.ofNat 32 v):=by
 apply BitVec.eq_of_toNat_eq
 unfold wor wshl wadd wmul
 have hx:=x.isLt
 rw [BitVec.toNat_or,BitVec.toNat_shiftLeft,BitVec.toNat_add,BitVec.toNat_mul,BitVec.toNat_ofNat,BitVec.toNat_ofNat,Nat.shiftLeft_eq,Nat.mod_eq_of_lt (show v<2 ^ 32 by omega)]
 have e:x.toNat*2 ^ 8 % 2 ^ 32=(x.toNat % 16777216) <<< 8:=by rw [Nat.shiftLeft_eq];omega
 rw [e,← Nat.shiftLeft_add_eq_or_of_lt (show v<2 ^ 8 by omega),Nat.shiftLeft_eq]
 omega
theorem rotl_2 (x:Wd) (w:World):Calls Tryz.prog 158 #[.int .u32 (wn x),.int .i64 (-2)] w fun e w'=>e=.returned (.int .u32 (wn (rotr x 2)))∧w'=w:=by
 rw [← rot_of x 2]
 have h1:wn x / 4=wn (wshr x 2):=wn_shr x 2
 have h2:wn x <<< 30 % 4294967296=wn (wshl x 30):=wn_shl' x 30
 have h3:wn x*1073741824 % 4294967296=wn (wshl x 30):=wn_shl x 30
 have hlo:=wn_nn x
 have hhi:=wn_lt x
 have hb:bits .and .u64 (IntKind.u64.wrap (-2)) 31=30:=by kernel_rfl
 go_enter Tryz.func158,Tryz.ntmps158
 go_wp2_with fail
 go_ret
 exact ⟨rfl,rfl⟩
theorem right_2 (x:Wd) (w:World):Calls Tryz.prog 149 #[.int .u32 (wn x),.int .i64 2] w fun e w'=>e=.returned (.int .u32 (wn (rotr x 2)))∧w'=w:=by
 go_enter Tryz.func149,Tryz.ntmps149
 go_wp2_with (go_at_call 158;with_reducible refine Calls.mono (rotl_2 x _) ?_;rintro e w' ⟨rfl,rfl⟩)
 go_ret
 exact ⟨rfl,rfl⟩
theorem rotl_6 (x:Wd) (w:World):Calls Tryz.prog 158 #[.int .u32 (wn x),.int .i64 (-6)] w fun e w'=>e=.returned (.int .u32 (wn (rotr x 6)))∧w'=w:=by
 rw [← rot_of x 6]
 have h1:wn x / 64=wn (wshr x 6):=wn_shr x 6
 have h2:wn x <<< 26 % 4294967296=wn (wshl x 26):=wn_shl' x 26
 have h3:wn x*67108864 % 4294967296=wn (wshl x 26):=wn_shl x 26
 have hlo:=wn_nn x
 have hhi:=wn_lt x
 have hb:bits .and .u64 (IntKind.u64.wrap (-6)) 31=26:=by kernel_rfl
 go_enter Tryz.func158,Tryz.ntmps158
 go_wp2_with fail
 go_ret
 exact ⟨rfl,rfl⟩
theorem right_6 (x:Wd) (w:World):Calls Tryz.prog 149 #[.int .u32 (wn x),.int .i64 6] w fun e w'=>e=.returned (.int .u32 (wn (rotr x 6)))∧w'=w:=by
 go_enter Tryz.func149,Tryz.ntmps149
 go_wp2_with (go_at_call 158;with_reducible refine Calls.mono (rotl_6 x _) ?_;rintro e w' ⟨rfl,rfl⟩)
 go_ret
 exact ⟨rfl,rfl⟩
theorem rotl_7 (x:Wd) (w:World):Calls Tryz.prog 158 #[.int .u32 (wn x),.int .i64 (-7)] w fun e w'=>e=.returned (.int .u32 (wn (rotr x 7)))∧w'=w:=by
 rw [← rot_of x 7]
 have h1:wn x / 128=wn (wshr x 7):=wn_shr x 7
 have h2:wn x <<< 25 % 4294967296=wn (wshl x 25):=wn_shl' x 25
 have h3:wn x*33554432 % 4294967296=wn (wshl x 25):=wn_shl x 25
 have hlo:=wn_nn x
 have hhi:=wn_lt x
 have hb:bits .and .u64 (IntKind.u64.wrap (-7)) 31=25:=by kernel_rfl
 go_enter Tryz.func158,Tryz.ntmps158
 go_wp2_with fail
 go_ret
 exact ⟨rfl,rfl⟩
theorem right_7 (x:Wd) (w:World):Calls Tryz.prog 149 #[.int .u32 (wn x),.int .i64 7] w fun e w'=>e=.returned (.int .u32 (wn (rotr x 7)))∧w'=w:=by
 go_enter Tryz.func149,Tryz.ntmps149
 go_wp2_with (go_at_call 158;with_reducible refine Calls.mono (rotl_7 x _) ?_;rintro e w' ⟨rfl,rfl⟩)
 go_ret
 exact ⟨rfl,rfl⟩
theorem rotl_11 (x:Wd) (w:World):Calls Tryz.prog 158 #[.int .u32 (wn x),.int .i64 (-11)] w fun e w'=>e=.returned (.int .u32 (wn (rotr x 11)))∧w'=w:=by
 rw [← rot_of x 11]
 have h1:wn x / 2048=wn (wshr x 11):=wn_shr x 11
 have h2:wn x <<< 21 % 4294967296=wn (wshl x 21):=wn_shl' x 21
 have h3:wn x*2097152 % 4294967296=wn (wshl x 21):=wn_shl x 21
 have hlo:=wn_nn x
 have hhi:=wn_lt x
 have hb:bits .and .u64 (IntKind.u64.wrap (-11)) 31=21:=by kernel_rfl
 go_enter Tryz.func158,Tryz.ntmps158
 go_wp2_with fail
 go_ret
 exact ⟨rfl,rfl⟩
theorem right_11 (x:Wd) (w:World):Calls Tryz.prog 149 #[.int .u32 (wn x),.int .i64 11] w fun e w'=>e=.returned (.int .u32 (wn (rotr x 11)))∧w'=w:=by
 go_enter Tryz.func149,Tryz.ntmps149
 go_wp2_with (go_at_call 158;with_reducible refine Calls.mono (rotl_11 x _) ?_;rintro e w' ⟨rfl,rfl⟩)
 go_ret
 exact ⟨rfl,rfl⟩
theorem rotl_13 (x:Wd) (w:World):Calls Tryz.prog 158 #[.int .u32 (wn x),.int .i64 (-13)] w fun e w'=>e=.returned (.int .u32 (wn (rotr x 13)))∧w'=w:=by
 rw [← rot_of x 13]
 have h1:wn x / 8192=wn (wshr x 13):=wn_shr x 13
 have h2:wn x <<< 19 % 4294967296=wn (wshl x 19):=wn_shl' x 19
 have h3:wn x*524288 % 4294967296=wn (wshl x 19):=wn_shl x 19
 have hlo:=wn_nn x
 have hhi:=wn_lt x
 have hb:bits .and .u64 (IntKind.u64.wrap (-13)) 31=19:=by kernel_rfl
 go_enter Tryz.func158,Tryz.ntmps158
 go_wp2_with fail
 go_ret
 exact ⟨rfl,rfl⟩
theorem right_13 (x:Wd) (w:World):Calls Tryz.prog 149 #[.int .u32 (wn x),.int .i64 13] w fun e w'=>e=.returned (.int .u32 (wn (rotr x 13)))∧w'=w:=by
 go_enter Tryz.func149,Tryz.ntmps149
 go_wp2_with (go_at_call 158;with_reducible refine Calls.mono (rotl_13 x _) ?_;rintro e w' ⟨rfl,rfl⟩)
 go_ret
 exact ⟨rfl,rfl⟩
theorem rotl_17 (x:Wd) (w:World):Calls Tryz.prog 158 #[.int .u32 (wn x),.int .i64 (-17)] w fun e w'=>e=.returned (.int .u32 (wn (rotr x 17)))∧w'=w:=by
 rw [← rot_of x 17]
 have h1:wn x / 131072=wn (wshr x 17):=wn_shr x 17
 have h2:wn x <<< 15 % 4294967296=wn (wshl x 15):=wn_shl' x 15
 have h3:wn x*32768 % 4294967296=wn (wshl x 15):=wn_shl x 15
 have hlo:=wn_nn x
 have hhi:=wn_lt x
 have hb:bits .and .u64 (IntKind.u64.wrap (-17)) 31=15:=by kernel_rfl
 go_enter Tryz.func158,Tryz.ntmps158
 go_wp2_with fail
 go_ret
 exact ⟨rfl,rfl⟩
theorem right_17 (x:Wd) (w:World):Calls Tryz.prog 149 #[.int .u32 (wn x),.int .i64 17] w fun e w'=>e=.returned (.int .u32 (wn (rotr x 17)))∧w'=w:=by
 go_enter Tryz.func149,Tryz.ntmps149
 go_wp2_with (go_at_call 158;with_reducible refine Calls.mono (rotl_17 x _) ?_;rintro e w' ⟨rfl,rfl⟩)
 go_ret
 exact ⟨rfl,rfl⟩
theorem rotl_18 (x:Wd) (w:World):Calls Tryz.prog 158 #[.int .u32 (wn x),.int .i64 (-18)] w fun e w'=>e=.returned (.int .u32 (wn (rotr x 18)))∧w'=w:=by
 rw [← rot_of x 18]
 have h1:wn x / 262144=wn (wshr x 18):=wn_shr x 18
 have h2:wn x <<< 14 % 4294967296=wn (wshl x 14):=wn_shl' x 14
 have h3:wn x*16384 % 4294967296=wn (wshl x 14):=wn_shl x 14
 have hlo:=wn_nn x
 have hhi:=wn_lt x
 have hb:bits .and .u64 (IntKind.u64.wrap (-18)) 31=14:=by kernel_rfl
 go_enter Tryz.func158,Tryz.ntmps158
 go_wp2_with fail
 go_ret
 exact ⟨rfl,rfl⟩
theorem right_18 (x:Wd) (w:World):Calls Tryz.prog 149 #[.int .u32 (wn x),.int .i64 18] w fun e w'=>e=.returned (.int .u32 (wn (rotr x 18)))∧w'=w:=by
 go_enter Tryz.func149,Tryz.ntmps149
 go_wp2_with (go_at_call 158;with_reducible refine Calls.mono (rotl_18 x _) ?_;rintro e w' ⟨rfl,rfl⟩)
 go_ret
 exact ⟨rfl,rfl⟩
theorem rotl_19 (x:Wd) (w:World):Calls Tryz.prog 158 #[.int .u32 (wn x),.int .i64 (-19)] w fun e w'=>e=.returned (.int .u32 (wn (rotr x 19)))∧w'=w:=by
 rw [← rot_of x 19]
 have h1:wn x / 524288=wn (wshr x 19):=wn_shr x 19
 have h2:wn x <<< 13 % 4294967296=wn (wshl x 13):=wn_shl' x 13
 have h3:wn x*8192 % 4294967296=wn (wshl x 13):=wn_shl x 13
 have hlo:=wn_nn x
 have hhi:=wn_lt x
 have hb:bits .and .u64 (IntKind.u64.wrap (-19)) 31=13:=by kernel_rfl
 go_enter Tryz.func158,Tryz.ntmps158
 go_wp2_with fail
 go_ret
 exact ⟨rfl,rfl⟩
theorem right_19 (x:Wd) (w:World):Calls Tryz.prog 149 #[.int .u32 (wn x),.int .i64 19] w fun e w'=>e=.returned (.int .u32 (wn (rotr x 19)))∧w'=w:=by
 go_enter Tryz.func149,Tryz.ntmps149
 go_wp2_with (go_at_call 158;with_reducible refine Calls.mono (rotl_19 x _) ?_;rintro e w' ⟨rfl,rfl⟩)
 go_ret
 exact ⟨rfl,rfl⟩
theorem rotl_22 (x:Wd) (w:World):Calls Tryz.prog 158 #[.int .u32 (wn x),.int .i64 (-22)] w fun e w'=>e=.returned (.int .u32 (wn (rotr x 22)))∧w'=w:=by
 rw [← rot_of x 22]
 have h1:wn x / 4194304=wn (wshr x 22):=wn_shr x 22
 have h2:wn x <<< 10 % 4294967296=wn (wshl x 10):=wn_shl' x 10
 have h3:wn x*1024 % 4294967296=wn (wshl x 10):=wn_shl x 10
 have hlo:=wn_nn x
 have hhi:=wn_lt x
 have hb:bits .and .u64 (IntKind.u64.wrap (-22)) 31=10:=by kernel_rfl
 go_enter Tryz.func158,Tryz.ntmps158
 go_wp2_with fail
 go_ret
 exact ⟨rfl,rfl⟩
theorem right_22 (x:Wd) (w:World):Calls Tryz.prog 149 #[.int .u32 (wn x),.int .i64 22] w fun e w'=>e=.returned (.int .u32 (wn (rotr x 22)))∧w'=w:=by
 go_enter Tryz.func149,Tryz.ntmps149
 go_wp2_with (go_at_call 158;with_reducible refine Calls.mono (rotl_22 x _) ?_;rintro e w' ⟨rfl,rfl⟩)
 go_ret
 exact ⟨rfl,rfl⟩
theorem rotl_25 (x:Wd) (w:World):Calls Tryz.prog 158 #[.int .u32 (wn x),.int .i64 (-25)] w fun e w'=>e=.returned (.int .u32 (wn (rotr x 25)))∧w'=w:=by
 rw [← rot_of x 25]
 have h1:wn x / 33554432=wn (wshr x 25):=wn_shr x 25
 have h2:wn x <<< 7 % 4294967296=wn (wshl x 7):=wn_shl' x 7
 have h3:wn x*128 % 4294967296=wn (wshl x 7):=wn_shl x 7
 have hlo:=wn_nn x
 have hhi:=wn_lt x
 have hb:bits .and .u64 (IntKind.u64.wrap (-25)) 31=7:=by kernel_rfl
 go_enter Tryz.func158,Tryz.ntmps158
 go_wp2_with fail
 go_ret
 exact ⟨rfl,rfl⟩
theorem right_25 (x:Wd) (w:World):Calls Tryz.prog 149 #[.int .u32 (wn x),.int .i64 25] w fun e w'=>e=.returned (.int .u32 (wn (rotr x 25)))∧w'=w:=by
 go_enter Tryz.func149,Tryz.ntmps149
 go_wp2_with (go_at_call 158;with_reducible refine Calls.mono (rotl_25 x _) ?_;rintro e w' ⟨rfl,rfl⟩)
 go_ret
 exact ⟨rfl,rfl⟩
theorem wn_not' (x:Wd):bits .xor .u32 IntKind.u32.max (wn x)=wn (wnot x):=by
 have h:IntKind.u32.max=wn (4294967295#32):=by kernel_rfl
 rw [h,wn_xor]
 congr 1
theorem choice_any (x y z:Wd) (w:World):Calls Tryz.prog 150 #[.int .u32 (wn x),.int .u32 (wn y),.int .u32 (wn z)] w fun e w'=>e=.returned (.int .u32 (wn (chW x y z)))∧w'=w:=by
 have n2:=wn_not' x
 go_enter Tryz.func150,Tryz.ntmps150
 go_wp2_with fail
 go_ret
 exact ⟨rfl,rfl⟩
theorem majority_any (x y z:Wd) (w:World):Calls Tryz.prog 151 #[.int .u32 (wn x),.int .u32 (wn y),.int .u32 (wn z)] w fun e w'=>e=.returned (.int .u32 (wn (majW x y z)))∧w'=w:=by
 go_enter Tryz.func151,Tryz.ntmps151
 go_wp2_with fail
 go_ret
 exact ⟨rfl,rfl⟩
end Go.Proofs.YtmigakanbeckpaaGreatDoor.Sh
