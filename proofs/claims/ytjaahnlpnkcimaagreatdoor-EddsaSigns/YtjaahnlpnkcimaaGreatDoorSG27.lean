/- What the document's own Sum answers. What the document's own smaller functions of layer 12 answer. What the document's own Public and Sign answer. What the document's own Verify answers. What layer 12's statements ask first. EddsaSigns, walked. -/
import Derived.Test.YtjaahnlpnkcimaaGreatDoorSG04
import Derived.Test.YtjaahnlpnkcimaaGreatDoorSG26
import Derived.Test.YtjaahnlpnkcimaaGreatDoorSG23
import Derived.Test.YtjaahnlpnkcimaaGreatDoorSG24
import Derived.Deep.RegionWith
set_option maxRecDepth 100000
set_option maxHeartbeats 8000000
namespace Go.Proofs.YtjaahnlpnkcimaaGreatDoor.Sx
set_option maxRecDepth 100000
open Go.RowKit
attribute [local go_sem ↓] Go.wp_at_zero Go.wp_at_succ
theorem refTake8 {b o cap:Nat} {p:Nat→Nat} (hp:∀ i,p i<256) (s r:St) (hr:r=takeB s p) {w:World} (hD:Rd w b o 128 (fun i=>((p i:Nat):Int))) :
  Calls Tryz.prog 84 #[.agg #[.int .u64 (wn (s.w 0)),.int .u64 (wn (s.w 1)),.int .u64 (wn (s.w 2)),.int .u64 (wn (s.w 3)),.int .u64 (wn (s.w 4)),.int .u64 (wn (s.w 5)),.int .u64 (wn (s.w 6)),.int .u64 (wn (s.w 7))],.slice (some ⟨b,o,none⟩) 128 cap] w fun e w'=>e=.returned (.agg #[.int .u64 (wn (r.w 0)),.int .u64 (wn (r.w 1)),.int .u64 (wn (r.w 2)),.int .u64 (wn (r.w 3)),.int .u64 (wn (r.w 4)),.int .u64 (wn (r.w 5)),.int .u64 (wn (r.w 6)),.int .u64 (wn (r.w 7))])∧Below w.heap.size w w':=by
 have:=refTake_any (cap:=cap) hp s hD
 rw [← hr,aw8,aw8] at this
 exact this
theorem refSum_any {x:Option Addr} {n c:Nat} {f:Nat→Nat} {w:World} (h:BA w x n f) (hn:n≤100000) :
  Calls Tryz.prog 37 #[.slice x n c] w fun e w'=>e=.returned (.agg (ab (hByte (hashS f n)) 64).toArray)∧Below w.heap.size w w':=by
 have H:Hid (BA w x n f):=h
 clear h
 go_enter Tryz.func37,Tryz.ntmps37
 go_wp2_with fail
 with_reducible refine Calls.mono (refStart_any _) ?_
 rintro e W1 ⟨rfl,hb⟩
 have hR:=(RowB.made w 52 64 (fun _=>0) _ zeros64).keep hb
 have hB1:Below w.heap.size w W1:=K.call (K.alloc (Below.refl _ _) _) hb
 clear hb
 go_upto_region 2 with (refine wpList_store_new rfl 62 _ _ rfl _ (aw start.w 8).toArray rfl rfl (in8 _) (by rw [size8];rfl) (all8 _) ?_)
 have hal:=K.alloc (Below.refl _ W1) (.cells (aw start.w 8).toArray 62)
 have hS:=RowW.made W1 62 8 start.w _ rfl
 have hn3:w.heap.size<W1.heap.size:=hR.lt
 have hR:=hR.keep hal
 have hB2:Below w.heap.size w (W1.alloc (.cells (aw start.w 8).toArray 62)):=K.call hB1 hal
 clear hal hB1
 generalize W1.alloc (.cells (aw start.w 8).toArray 62)=X1 at *
 generalize W1.heap.size=n3 at *
 have hn3X:n3<X1.heap.size:=hS.lt
 go_wp2_with fail
 with_reducible refine Calls.mono (refPadded_any (H.out.keep hB2) hn) ?_
 rintro e W2 ⟨v,rfl,hO,hb⟩
 have hS:=hS.keep hb
 have hR:=hR.keep hb
 have hB3:Below w.heap.size w W2:=K.call hB2 hb
 have hpl:=zs_eq n
 obtain ⟨g,cap,rfl,hg,hP⟩:=own_rd (f:=fun i=>((pad f n i:Nat):Int)) hO (fun i hi=>by rw [cells8_at _ i (by rw [padL_len];exact hi),padL_at f n i hi]) (by omega)
 have hcap:=own_cap hO
 have hgn:g≠n3:=by omega
 have hgN:g≠w.heap.size:=by omega
 have HPL:Hid (∀ i,pad f n i<256):=pad_lt H.out.lt n
 have hPd:=hP.rd
 obtain ⟨pl,hpl'⟩:∃ pl,pl=padLen n:=⟨_,rfl⟩
 obtain ⟨M,hM⟩:∃ M,M=padLen n / 128:=⟨_,rfl⟩
 have HM:Hid (pl=128*M∧hashS f n=hs (pad f n) M):=⟨by omega,by rw [hM];rfl⟩
 have hplb:pl≤200000:=by rw [hpl'];unfold padLen;omega
 rw [← hpl'] at hcap hPd ⊢
 clear hO hb hB2 hP hpl hM hpl' H
 have hpli:(pl:Int)≤200000:=by omega
 have HS:=hide hS
 have HR:=hide hR
 have HPd:=hide hPd
 have HB:=hide hB3
 clear hS hR hPd hB3
 go_wp2_with fail
 go_loopg [5] M (fun q s5 wr=>∃ k:Nat,q=M-k∧k≤M∧s5=.int .i64 ((128*k:Nat):Int)∧RowW wr n3 8 (hs (pad f n) k).w∧Rd wr g 0 pl (fun i=>((pad f n i:Nat):Int))∧RowB wr w.heap.size 64 (fun _=>0)∧Below w.heap.size w wr)
 case atStart=>exact ⟨0,rfl,by omega,rfl,HS.out,HPd.out,HR.out,HB.out⟩
 case round =>
  clear HS HPd HR HB
  obtain ⟨k,rfl,hk,rfl,hS,hP,hR,hB⟩:=hrel
  by_cases hlt:k<M
  ·obtain ⟨m,hm⟩:∃ m,m=128*k:=⟨_,rfl⟩
   have HK:Hid (m=128*k∧k<M∧m+128≤pl):=⟨hm,hlt,by have:=HM.out.1;omega⟩
   have hpart:=hP.part m 128 HK.out.2.2
   obtain ⟨r,hr⟩:∃ r,r=hs (pad f n) (k+1):=⟨_,rfl⟩
   obtain ⟨s,hs'⟩:∃ s,s=hs (pad f n) k:=⟨_,rfl⟩
   have HRK:Hid (r=takeB s (fun i=>pad f n (m+i))):=by show _=_;rw [hr,hs',hm];rfl
   have HRE:=hide hr
   rw [← hs'] at hS
   rw [← hm]
   have c0:=hS.c 0 (by omega)
   have c1:=hS.c 1 (by omega)
   have c2:=hS.c 2 (by omega)
   have c3:=hS.c 3 (by omega)
   have c4:=hS.c 4 (by omega)
   have c5:=hS.c 5 (by omega)
   have c6:=hS.c 6 (by omega)
   have c7:=hS.c 7 (by omega)
   have hmi:(m:Int)<pl:=by have:=HK.out;omega
   have hmi2:(m:Int)+128≤pl:=by have:=HK.out;omega
   have hw:IntKind.i64.wrap ((m:Int)+128)=(m:Int)+128:=by rw [IntKind.wrap_i64];omega
   have HPart:=hide hpart
   have HS:=hide hS
   have HP:=hide hP
   have HR:=hide hR
   have HB:=hide hB
   clear hm hr hs' hpart hS hP hR hB hlt hk
   go_upto_region 6 with fail
   rw [Nat.zero_add] at HPart
   have hl1:((m:Int)+128).toNat-m=128:=by omega
   have hl2:m+128-m=128:=by omega
   have hcm:(m:Int)+128≤cap:=by omega
   go_region_with (go_at_call 84;with_reducible refine Calls.mono (refTake8 (fun i=>HPL.out (m+i)) s r HRK.out (HPart.out.keep (K.drew (Below.refl _ _)))) ?_;rintro e w' ⟨rfl,hb⟩;have hS2:=(HS.out.keep (K.drew (Below.refl _ _))).keep hb;have d0:=hS2.c 0 (by omega);have z0:=hS2.z 0 (by omega);have d1:=hS2.c 1 (by omega);have z1:=hS2.z 1 (by omega);have d2:=hS2.c 2 (by omega);have z2:=hS2.z 2 (by omega);have d3:=hS2.c 3 (by omega);have z3:=hS2.z 3 (by omega);have d4:=hS2.c 4 (by omega);have z4:=hS2.z 4 (by omega);have d5:=hS2.c 5 (by omega);have z5:=hS2.z 5 (by omega);have d6:=hS2.c 6 (by omega);have z6:=hS2.z 6 (by omega);have d7:=hS2.c 7 (by omega);have z7:=hS2.z 7 (by omega))
   all_goals
    have hdb:Below wr.heap.size wr wr.drew:=K.drew (Below.refl _ _)
    have hS3:RowW (w'.setCells n3 0 (aw r.w 8)) n3 8 r.w:=hS2.stored r.w
    have hP3:=((HP.out.keep hdb).keep hb).apart hgn 0 (aw r.w 8)
    have hR3:=Row8.apart ((Row8.keep HR.out hdb).keep hb) (g:=n3) (by omega) 0 (aw r.w 8)
    have hB3:Below w.heap.size w (w'.setCells n3 0 (aw r.w 8)):=below_setCells _ _ (K.call (K.call HB.out hdb) hb) (by omega)
    rw [show ((((((((w'.setCell ⟨n3,0,none⟩ (.int .u64 (wn (r.w 0)))).setCell ⟨n3,1,none⟩ (.int .u64 (wn (r.w 1)))).setCell ⟨n3,2,none⟩ (.int .u64 (wn (r.w 2)))).setCell ⟨n3,3,none⟩ (.int .u64 (wn (r.w 3)))).setCell ⟨n3,4,none⟩ (.int .u64 (wn (r.w 4)))).setCell ⟨n3,5,none⟩ (.int .u64 (wn (r.w 5)))).setCell ⟨n3,6,none⟩ (.int .u64 (wn (r.w 6)))).setCell ⟨n3,7,none⟩ (.int .u64 (wn (r.w 7))))=w'.setCells n3 0 (aw r.w 8) from rfl]
    clear d0 z0 c0 d1 z1 c1 d2 z2 c2 d3 z3 c3 d4 z4 c4 d5 z5 c5 d6 z6 c6 d7 z7 c7 hS2 hb hdb HS HP HR HB HPart
    generalize w'.setCells n3 0 (aw r.w 8)=X at *
    go_wp2_with fail
    go_roundg (M-(k+1))
    case measure=>have:=HK.out;omega
    case rel=>exact ⟨k+1,rfl,by have:=HK.out;omega,congrArg (Value.int .i64) (by have:=HK.out;omega),by rw [← HRE.out];exact hS3,hP3,hR3,hB3⟩
  ·obtain rfl:k=M:=by omega
   obtain ⟨s,hs'⟩:∃ s,s=hs (pad f n) k:=⟨_,rfl⟩
   have HSE:Hid (s=hashS f n):=by rw [hs',HM.out.2];rfl
   rw [← hs'] at hS
   obtain ⟨m,hm⟩:∃ m,m=128*k:=⟨_,rfl⟩
   have hmi:¬ (m:Int)<pl:=by have:=HM.out.1;omega
   rw [← hm]
   have HS:=hide hS
   have HR:=hide hR
   have HB:=hide hB
   clear hs' hm hS hP hR hB hlt hk
   go_wp2_with fail
   have hal:=K.alloc (Below.refl _ wr) (.cells #[.int .u8 0,.int .u8 0,.int .u8 0,.int .u8 0,.int .u8 0,.int .u8 0,.int .u8 0,.int .u8 0,.int .u8 0,.int .u8 0,.int .u8 0,.int .u8 0,.int .u8 0,.int .u8 0,.int .u8 0,.int .u8 0,.int .u8 0,.int .u8 0,.int .u8 0,.int .u8 0,.int .u8 0,.int .u8 0,.int .u8 0,.int .u8 0,.int .u8 0,.int .u8 0,.int .u8 0,.int .u8 0,.int .u8 0,.int .u8 0,.int .u8 0,.int .u8 0,.int .u8 0,.int .u8 0,.int .u8 0,.int .u8 0,.int .u8 0,.int .u8 0,.int .u8 0,.int .u8 0,.int .u8 0,.int .u8 0,.int .u8 0,.int .u8 0,.int .u8 0,.int .u8 0,.int .u8 0,.int .u8 0,.int .u8 0,.int .u8 0,.int .u8 0,.int .u8 0,.int .u8 0,.int .u8 0,.int .u8 0,.int .u8 0,.int .u8 0,.int .u8 0,.int .u8 0,.int .u8 0,.int .u8 0,.int .u8 0,.int .u8 0,.int .u8 0] 52)
   have hS:=HS.out.keep hal
   have hR:=Row8.keep HR.out hal
   have hO:=RowB.made wr 52 64 (fun _=>0) _ zeros64
   have hB:=K.call HB.out hal
   have hn6:n3<wr.heap.size:=HS.out.lt
   have hnN:w.heap.size<wr.heap.size:=HR.out.lt
   clear HS HR HB hal
   generalize wr.alloc (.cells #[.int .u8 0,.int .u8 0,.int .u8 0,.int .u8 0,.int .u8 0,.int .u8 0,.int .u8 0,.int .u8 0,.int .u8 0,.int .u8 0,.int .u8 0,.int .u8 0,.int .u8 0,.int .u8 0,.int .u8 0,.int .u8 0,.int .u8 0,.int .u8 0,.int .u8 0,.int .u8 0,.int .u8 0,.int .u8 0,.int .u8 0,.int .u8 0,.int .u8 0,.int .u8 0,.int .u8 0,.int .u8 0,.int .u8 0,.int .u8 0,.int .u8 0,.int .u8 0,.int .u8 0,.int .u8 0,.int .u8 0,.int .u8 0,.int .u8 0,.int .u8 0,.int .u8 0,.int .u8 0,.int .u8 0,.int .u8 0,.int .u8 0,.int .u8 0,.int .u8 0,.int .u8 0,.int .u8 0,.int .u8 0,.int .u8 0,.int .u8 0,.int .u8 0,.int .u8 0,.int .u8 0,.int .u8 0,.int .u8 0,.int .u8 0,.int .u8 0,.int .u8 0,.int .u8 0,.int .u8 0,.int .u8 0,.int .u8 0,.int .u8 0,.int .u8 0] 52)=X at *
   generalize wr.heap.size=n6 at *
   go_loopg [7] 64 (fun q s7 wr=>∃ i:Nat,q=64-i∧i≤64∧s7=.int .i64 i∧RowB wr n6 64 (fun j=>if j<i then hByte s j else 0)∧RowW wr n3 8 s.w∧RowB wr w.heap.size 64 (fun _=>0)∧Below w.heap.size w wr)
   case atStart=>exact ⟨0,rfl,by omega,rfl,hO.congr (fun j hj=>by simp),hS,hR,hB⟩
   case round =>
   clear hO hS hR hB
   obtain ⟨i,rfl,hi,rfl,hO,hS,hR,hB⟩:=hrel
   by_cases hlt:i<64
   ·have co:=hO.c i hlt
    have zo:=hO.z i hlt
    obtain ⟨j,hj⟩:∃ j,j=i / 8:=⟨_,rfl⟩
    have cs:=hS.c j (by omega)
    have hji:(i:Int) / 8=(j:Int):=by omega
    have hj8:(j:Int)<8:=by omega
    have hii:(i:Int)<64:=by omega
    obtain ⟨x,hx⟩:∃ x,x=s.w j:=⟨_,rfl⟩
    have HV:Hid (hByte s i=x.toNat / 256 ^ (7-i % 8) % 256):=by show _=_;unfold hByte;rw [hx,hj]
    rw [← hx] at cs
    have HO:=hide hO
    have HS:=hide hS
    have HR:=hide hR
    have HB:=hide hB
    have HI:=hide hlt
    have hol:=hO.lt
    clear hO hS hR hB hi hlt hx hj
    rcases (show i % 8=0∨i % 8=1∨i % 8=2∨i % 8=3∨i % 8=4∨i % 8=5∨i % 8=6∨i % 8=7 by omega) with hr | hr | hr | hr | hr | hr | hr | hr
    ·have hv:wn x / 72057594037927936 % 256=((hByte s i:Nat):Int):=by rw [HV.out,hr];unfold wn;omega
     have hv2:IntKind.u8.wrap (wn x / 72057594037927936)=((hByte s i:Nat):Int):=by rw [IntKind.wrap_u8',hv]
     have hlo:=wn_nn x
     have hhi:=wn_lt x
     have hri:(i:Int) % 8=0:=by omega
     clear hr
     go_wp2_with fail
     go_roundg (64-(i+1))
     case measure=>have:=HI.out;omega
     case rel=>exact ⟨i+1,rfl,by have:=HI.out;omega,by go_num,(Row8.store HO.out i HI.out _).congr (fun j hj=>by
      by_cases e:j=i
      ·subst e;simp
      ·simp only [if_neg e];(repeat' split) <;> first | rfl | omega),HS.out.other (by omega) i _,row8_other HR.out (by omega) i _,K.set HB.out (by show w.heap.size≤n6;omega) _⟩
    ·have hv:wn x / 281474976710656 % 256=((hByte s i:Nat):Int):=by rw [HV.out,hr];unfold wn;omega
     have hv2:IntKind.u8.wrap (wn x / 281474976710656)=((hByte s i:Nat):Int):=by rw [IntKind.wrap_u8',hv]
     have hlo:=wn_nn x
     have hhi:=wn_lt x
     have hri:(i:Int) % 8=1:=by omega
     clear hr
     go_wp2_with fail
     go_roundg (64-(i+1))
     case measure=>have:=HI.out;omega
     case rel=>exact ⟨i+1,rfl,by have:=HI.out;omega,by go_num,(Row8.store HO.out i HI.out _).congr (fun j hj=>by
      by_cases e:j=i
      ·subst e;simp
      ·simp only [if_neg e];(repeat' split) <;> first | rfl | omega),HS.out.other (by omega) i _,row8_other HR.out (by omega) i _,K.set HB.out (by show w.heap.size≤n6;omega) _⟩
    ·have hv:wn x / 1099511627776 % 256=((hByte s i:Nat):Int):=by rw [HV.out,hr];unfold wn;omega
     have hv2:IntKind.u8.wrap (wn x / 1099511627776)=((hByte s i:Nat):Int):=by rw [IntKind.wrap_u8',hv]
     have hlo:=wn_nn x
     have hhi:=wn_lt x
     have hri:(i:Int) % 8=2:=by omega
     clear hr
     go_wp2_with fail
     go_roundg (64-(i+1))
     case measure=>have:=HI.out;omega
     case rel=>exact ⟨i+1,rfl,by have:=HI.out;omega,by go_num,(Row8.store HO.out i HI.out _).congr (fun j hj=>by
      by_cases e:j=i
      ·subst e;simp
      ·simp only [if_neg e];(repeat' split) <;> first | rfl | omega),HS.out.other (by omega) i _,row8_other HR.out (by omega) i _,K.set HB.out (by show w.heap.size≤n6;omega) _⟩
    ·have hv:wn x / 4294967296 % 256=((hByte s i:Nat):Int):=by rw [HV.out,hr];unfold wn;omega
     have hv2:IntKind.u8.wrap (wn x / 4294967296)=((hByte s i:Nat):Int):=by rw [IntKind.wrap_u8',hv]
     have hlo:=wn_nn x
     have hhi:=wn_lt x
     have hri:(i:Int) % 8=3:=by omega
     clear hr
     go_wp2_with fail
     go_roundg (64-(i+1))
     case measure=>have:=HI.out;omega
     case rel=>exact ⟨i+1,rfl,by have:=HI.out;omega,by go_num,(Row8.store HO.out i HI.out _).congr (fun j hj=>by
      by_cases e:j=i
      ·subst e;simp
      ·simp only [if_neg e];(repeat' split) <;> first | rfl | omega),HS.out.other (by omega) i _,row8_other HR.out (by omega) i _,K.set HB.out (by show w.heap.size≤n6;omega) _⟩
    ·have hv:wn x / 16777216 % 256=((hByte s i:Nat):Int):=by rw [HV.out,hr];unfold wn;omega
     have hv2:IntKind.u8.wrap (wn x / 16777216)=((hByte s i:Nat):Int):=by rw [IntKind.wrap_u8',hv]
     have hlo:=wn_nn x
     have hhi:=wn_lt x
     have hri:(i:Int) % 8=4:=by omega
     clear hr
     go_wp2_with fail
     go_roundg (64-(i+1))
     case measure=>have:=HI.out;omega
     case rel=>exact ⟨i+1,rfl,by have:=HI.out;omega,by go_num,(Row8.store HO.out i HI.out _).congr (fun j hj=>by
      by_cases e:j=i
      ·subst e;simp
      ·simp only [if_neg e];(repeat' split) <;> first | rfl | omega),HS.out.other (by omega) i _,row8_other HR.out (by omega) i _,K.set HB.out (by show w.heap.size≤n6;omega) _⟩
    ·have hv:wn x / 65536 % 256=((hByte s i:Nat):Int):=by rw [HV.out,hr];unfold wn;omega
     have hv2:IntKind.u8.wrap (wn x / 65536)=((hByte s i:Nat):Int):=by rw [IntKind.wrap_u8',hv]
     have hlo:=wn_nn x
     have hhi:=wn_lt x
     have hri:(i:Int) % 8=5:=by omega
     clear hr
     go_wp2_with fail
     go_roundg (64-(i+1))
     case measure=>have:=HI.out;omega
     case rel=>exact ⟨i+1,rfl,by have:=HI.out;omega,by go_num,(Row8.store HO.out i HI.out _).congr (fun j hj=>by
      by_cases e:j=i
      ·subst e;simp
      ·simp only [if_neg e];(repeat' split) <;> first | rfl | omega),HS.out.other (by omega) i _,row8_other HR.out (by omega) i _,K.set HB.out (by show w.heap.size≤n6;omega) _⟩
    ·have hv:wn x / 256 % 256=((hByte s i:Nat):Int):=by rw [HV.out,hr];unfold wn;omega
     have hv2:IntKind.u8.wrap (wn x / 256)=((hByte s i:Nat):Int):=by rw [IntKind.wrap_u8',hv]
     have hlo:=wn_nn x
     have hhi:=wn_lt x
     have hri:(i:Int) % 8=6:=by omega
     clear hr
     go_wp2_with fail
     go_roundg (64-(i+1))
     case measure=>have:=HI.out;omega
     case rel=>exact ⟨i+1,rfl,by have:=HI.out;omega,by go_num,(Row8.store HO.out i HI.out _).congr (fun j hj=>by
      by_cases e:j=i
      ·subst e;simp
      ·simp only [if_neg e];(repeat' split) <;> first | rfl | omega),HS.out.other (by omega) i _,row8_other HR.out (by omega) i _,K.set HB.out (by show w.heap.size≤n6;omega) _⟩
    ·have hv:wn x % 256=((hByte s i:Nat):Int):=by rw [HV.out,hr];unfold wn;omega
     have hv2:IntKind.u8.wrap (wn x)=((hByte s i:Nat):Int):=by rw [IntKind.wrap_u8',hv]
     have hlo:=wn_nn x
     have hhi:=wn_lt x
     have hri:(i:Int) % 8=7:=by omega
     clear hr
     go_wp2_with fail
     go_roundg (64-(i+1))
     case measure=>have:=HI.out;omega
     case rel=>exact ⟨i+1,rfl,by have:=HI.out;omega,by go_num,(Row8.store HO.out i HI.out _).congr (fun j hj=>by
      by_cases e:j=i
      ·subst e;simp
      ·simp only [if_neg e];(repeat' split) <;> first | rfl | omega),HS.out.other (by omega) i _,row8_other HR.out (by omega) i _,K.set HB.out (by show w.heap.size≤n6;omega) _⟩
   ·obtain rfl:i=64:=by omega
    have hO':RowB wr n6 64 (hByte s):=hO.congr (fun j hj=>by simp only [if_pos hj])
    have HRr:=hide (RowB.range hO')
    have HTH:=hide (RowB.there hR (hByte s))
    have HS:=hide (RowB.stored hR (hByte s))
    have HB:Hid (Below w.heap.size w (wr.setCells w.heap.size 0 (ab (hByte s) 64).toArray.toList)):=below_setCells _ _ hB (Nat.le_refl _)
    clear hO hO' hS hR hB hi hlt
    go_upto_region 12 with fail
    go_wp2_with (refine wpList_load_mid rfl 52 _ rfl _ 0 rfl (ab (hByte s) 64) _ HRr.out Tryz.underlying52 rfl (ilH _) ?_;simp only [Act.put,List.setIfInBounds_toArray,List.set_cons_zero,List.set_cons_succ];refine wpList_store_mid rfl 52 _ _ rfl w.heap.size 0 (ab (hByte s) 64).toArray rfl rfl HTH.out (inH _) (all_oneCell_toArray (ab_one _ _)) ?_;generalize wr.setCells w.heap.size 0 (ab (hByte s) 64).toArray.toList=X at HS HB ⊢)
    refine bodyPost_ret (results_cell_mid Tryz.results37 _ _ w.heap.size (ab (hByte s) 64) _ rfl (RowB.range HS.out) Tryz.underlying52 rfl (ilH _)) rfl ⟨?_,HB.out⟩
    rw [HSE.out]
end Go.Proofs.YtjaahnlpnkcimaaGreatDoor.Sx
namespace Go.Proofs.YtjaahnlpnkcimaaGreatDoor
set_option maxRecDepth 100000
open Go.RowKit
theorem i_quoB {P:Program} (ty:TypeId) (k:IntKind) (a b c:Int) (ha:0≤a) (hb:0<b) (hc:c=a / b) (hw:k.wrap c=c) (w:World):(binOp .quo ty (.int k a) (.int k b)).run P w=.ok (.int k c) w:=by
 have e:a.tdiv b=c:=by rw [hc,Int.tdiv_eq_ediv_of_nonneg ha]
 have hb0:b≠0:=by omega
 simp [binOp,Op.intDiv,hb0,e,hw]
theorem i_mulB {P:Program} (ty:TypeId) (a b c:Int) (hc:c=a*b) (h:0≤c∧c<256) (w:World):(binOp .mul ty (.int .u8 a) (.int .u8 b)).run P w=.ok (.int .u8 c) w:=by
 have e:IntKind.u8.wrap (a*b)=c:=by rw [← hc,wrapB h]
 simp [binOp,Op.intArith,e]
theorem lt_nil:∀ x ∈ ([]:List Nat),x<256:=fun x hx=>by cases hx
theorem pl_nb (A:Nat):pl (A:Int) 32=cells8 (nb A):=by
 unfold pl nb cells8 fl
 rw [List.map_map]
 apply List.map_congr_left
 intro i _
 show _=Value.int .u8 (((Y i (A:Int)).toNat:Nat):Int)
 rw [nbY]
theorem sputN (A:Nat) (w:World):Calls Tryz.prog 24 [.agg (nc (A:Int)).toArray].toArray w fun e w'=>∃ v Fp,e=.returned v∧(rowPd 5 1 (32) (cells8 (nb A))).p v Fp w'∧(∀ b,Fp b=true→w.heap.size≤b∧b<w'.heap.size)∧Below w.heap.size w w':=by
 have q:=refPutLittle_own (A:Int) w
 rw [pl_nb] at q
 exact thing_of q
theorem smulN {w:World} (hT:Tab w) {k:Nat} (hk:k<2 ^ 256) {a:Ep m2} (ha:a.on ed):Calls Tryz.prog 17 [.agg (nc (k:Int)).toArray,.agg (pcE a).toArray].toArray w fun e w'=>e=.returned (.agg (pcE (mt eadd (Ep.o m2) a k)).toArray)∧Below w.heap.size w w':=by
 have q:=s_Mul hT hk (gin_num a.x) (gin_num a.y) false
 rw [rpE_pc ha] at q
 exact q
theorem slitBA {w:World} {z:Option Addr} {c:Nat} {f:Nat→Nat} (h:BA w z 32 f) (hc:32≤c) {u:Nat} (hu:LN f u):Calls Tryz.prog 32 [.slice z 32 c].toArray w fun e w'=>e=.returned (.tuple [.agg (nc (u:Int)).toArray,.bool true].toArray)∧Below w.heap.size w w':=by
 rcases h.at_ with h0 | ⟨b,o,rfl,hr⟩
 ·omega
 ·have q:=refLittle_any (cap:=c) hc (fun i=>⟨by omega,by have:=h.lt i;omega⟩) hr
  have e:∀ j,j<4→E (fun i=>((f i:Nat):Int)) (8*j) 8=L j (u:Int):=fun j hj=>(hu.word hj).symm
  rw [show E (fun i=>((f i:Nat):Int)) 0 8=L 0 _ from e 0 (by decide),show E (fun i=>((f i:Nat):Int)) 8 8=L 1 _ from e 1 (by decide),show E (fun i=>((f i:Nat):Int)) 16 8=L 2 _ from e 2 (by decide),show E (fun i=>((f i:Nat):Int)) 24 8=L 3 _ from e 3 (by decide)] at q
  exact q
theorem rsumBA {w:World} {z:Option Addr} {c:Nat} {l:List Nat} {n:Nat} (hl:l.length=n) (h:BA w z n (fun i=>l.getD i 0)) (hn:n≤100000):Calls Tryz.prog 37 [.slice z n c].toArray w fun e w'=>e=.returned (.agg (by64 (bz (hsh l))).toArray)∧Below w.heap.size w w':=by
 subst hl
 have q:=Sx.refSum_any (c:=c) (ba_sx h) hn
 rw [ab_hsh] at q
 exact q
theorem rsumT {w:World} {v:Value} {F:Nat→Bool} {n:Nat} {l:List Nat} (h:(rowPd 5 1 (n) (cells8 (l))).p v F w) (hlt:∀ x ∈ l,x<256) (hn:n≤100000):Calls Tryz.prog 37 [v].toArray w fun e w'=>e=.returned (.agg (by64 (bz (hsh l))).toArray)∧Below w.heap.size w w':=by
 obtain ⟨z,c,rfl,_,h3,h4⟩:=row_ba h hlt
 exact rsumBA h3 h4 hn
theorem rwideN {w:World} {b c:Nat} {l:List Nat} (hc:64≤c) (hr:w.rangeAt b 0 (by64 (bz (hsh l)))):Calls Tryz.prog 52 [.slice (some ⟨b,0,none⟩) 64 c].toArray w fun e w'=>e=.returned (.tuple [.agg (w8 ((nle (hsh l):Nat):Int)).toArray,.bool true].toArray)∧Below w.heap.size w w':=by
 have q:=refWide_any (cap:=c) hc (bz_bd (hsh_lt l)) (rd_by64 hr)
 have e:∀ j,E (bz (hsh l)) (8*j) 8=L j ((nle (hsh l):Nat):Int):=fun j=>by
  rw [← E_word]
  exact E_congr _ _ (fun i _=>(nle_Y (hsh_lt l) _).symm)
 rw [show E (bz (hsh l)) 0 8=L 0 _ from e 0,show E (bz (hsh l)) 8 8=L 1 _ from e 1,show E (bz (hsh l)) 16 8=L 2 _ from e 2,show E (bz (hsh l)) 24 8=L 3 _ from e 3,show E (bz (hsh l)) 32 8=L 4 _ from e 4,show E (bz (hsh l)) 40 8=L 5 _ from e 5,show E (bz (hsh l)) 48 8=L 6 _ from e 6,show E (bz (hsh l)) 56 8=L 7 _ from e 7] at q
 exact q
theorem slitT {w:World} {v:Value} {F:Nat→Bool} {l:List Nat} (h:(rowPd 5 1 (32) (cells8 (l))).p v F w) (hlt:∀ x ∈ l,x<256):Calls Tryz.prog 32 [v].toArray w fun e w'=>e=.returned (.tuple [.agg (nc ((nle l:Nat):Int)).toArray,.bool true].toArray)∧Below w.heap.size w w':=by
 obtain ⟨z,c,rfl,h2,h3,h4⟩:=row_ba h hlt
 exact slitBA h4 h2 (nle_ln hlt h3)
theorem cZ17 (vs:List Value):∀ w,(callFunc 17 vs.toArray).run Tryz.prog w=.ok (.enter 17 vs.toArray) w:=callFunc_enter Tryz.func17 (by kernel_rfl) (by kernel_rfl) _
theorem cZ18 (vs:List Value):∀ w,(callFunc 18 vs.toArray).run Tryz.prog w=.ok (.enter 18 vs.toArray) w:=callFunc_enter Tryz.func18 (by kernel_rfl) (by kernel_rfl) _
theorem cZ38 (vs:List Value):∀ w,(callFunc 38 vs.toArray).run Tryz.prog w=.ok (.enter 38 vs.toArray) w:=callFunc_enter Tryz.func38 (by kernel_rfl) (by kernel_rfl) _
theorem sEnc_even {w:World} (hT:Tab w) {x y:Fin m2} {l:List Nat} (hq:y*y-x*x=1+ed*(x*x*(y*y))) (hpx:lw 0 ((x.val:Nat):Int) % 2=0) (hE:nb y.val=l):Calls Tryz.prog 16 [.agg (gc (x)++gc (y)++[Value.bool false]).toArray].toArray w fun e w'=>∃ v Fp,e=.returned v∧(rowPd 5 1 (32) (cells8 (l))).p v Fp w'∧(∀ b,Fp b=true→w.heap.size≤b∧b<w'.heap.size)∧Below w.heap.size w w':=by
 refine enter (args:=[.agg (gc (x)++gc (y)++[Value.bool false]).toArray]) Tryz.func16 rfl 22 rfl (lk rfl) (fun a h=>?_)
 refine a_region TTE h hm [] [eN 1 _,eS 2 _] (by kernel_rfl) ⟨rfl,rfl,T0⟩ [(1,.ptr 1 0)] [(1,gc (x)++gc (y)++[Value.bool false])] ⟨rfl,T0⟩ ⟨rfl,T0⟩ rfl (fun a w h=>?_)
 refine wp_seq ?_
 refine a_region TTE h hm [1] [eS 4 _,eS 5 (.val (Value.bool true)),eS 6 _] (by kernel_rfl) ⟨rfl,fun L u=>u_call u (gd0 rfl) _ rfl _ _ _ rfl [_] rfl (cZ38 _) (Value.bool true) (fun w hb=>by have q:=s_formed_at (hT.keep (Bs.kp_of hb)) x y;rw [decide_eq_true hq] at q;exact q),rfl,T0⟩ [(1,_),(6,.val (Value.bool false))] [(1,_)] ⟨rfl,rfl,T0⟩ ⟨rfl,T0⟩ rfl (fun a w h=>?_)
 refine go_cond h false rfl (fun ht=>?_) (fun hf=>?_)
 case refine_1=>cases ht
 refine wp_skip ?_
 refine then_norm ?_
 refine a_regionQ TTE h hm [2,3] [eS 8 _,eS 9 _,eQ 10 (rowPd 5 1 (32) (cells8 (nb y.val))),eS 3 (.unk 10 id)] (by kernel_rfl) ⟨rfl,rfl,fun L u=>u_callQ u (gd0 rfl) 10 rfl rfl 24 #[(.tmp 9)] #[34] rfl [.val (.agg (gc (y)).toArray)] rfl (fun vs w=>callFunc_enter Tryz.func24 (by kernel_rfl) (by kernel_rfl) vs w) (rowPd 5 1 (32) (cells8 (nb y.val))) (fun β a w hr=>sputN _ _),fun L u=>u_copyQ u (gd0 rfl) 3 rfl (.tmp 10) (Or.inr rfl) rfl rfl,T0⟩ [(1,_),(3,.unk 10 id)] [(1,_)] [(10,rowPd 5 1 (32) (cells8 (nb y.val)))] ⟨rfl,rfl,T0⟩ ⟨rfl,T0⟩ ⟨rfl,T0⟩ rfl (fun a w h=>?_)
 refine wp_seq ?_
 refine a_regionQ TTE h hm [3,4] [eS 11 _,eS 12 _,eS 13 _,eS 14 (.val (Value.int .u64 0)),eS 15 (.val (Value.bool false))] (by kernel_rfl) ⟨rfl,rfl,rfl,fun L u=>u_bin u (gd0 rfl) _ rfl _ _ _ _ _ rfl rfl rfl (eqg_int _ _ _ _ _ _ _ _) _ (fun w=>i_rem _ _ _ _ _ (lw_lo _ _) (by decide) hpx.symm w),fun L u=>u_bin u (gd0 rfl) _ rfl _ _ _ _ _ rfl rfl rfl (eqg_int _ _ _ _ _ _ _ _) _ (no_of (fun w=>i_eql _ _ _ _ w) (by decide)),T0⟩ [(3,_),(15,.val (Value.bool false))] [] [(10,rowPd 5 1 (32) (cells8 (nb y.val)))] ⟨rfl,rfl,T0⟩ T0 ⟨rfl,T0⟩ rfl (fun a w h=>?_)
 refine go_cond h false rfl (fun ht=>?_) (fun hf=>?_)
 case refine_1=>cases ht
 refine wp_skip ?_
 refine then_norm ?_
 refine a_regionQ TTE h hm [0,1] [eS 21 (.unk 10 id),eS 2 (.unk 10 id)] (by kernel_rfl) ⟨fun L u=>u_copyQ u (gd0 rfl) 21 rfl (.tmp 3) (Or.inl rfl) rfl rfl,fun L u=>u_copyQ u (gd0 rfl) 2 rfl (.tmp 21) (Or.inr rfl) rfl rfl,T0⟩ [(2,.unk 10 id)] [] [(10,rowPd 5 1 (32) (cells8 (nb y.val)))] ⟨rfl,T0⟩ T0 ⟨rfl,T0⟩ rfl (fun a w h=>?_)
 refine wp_ret ?_
 refine ret_thing h 2 rfl (lk rfl) 10 id rfl rfl (fun v F hp hF=>?_)
 exact ⟨v,F,rfl,by rw [hE] at hp;exact hp,hF,h.grows⟩
theorem sEnc_odd {w:World} (hT:Tab w) {x y:Fin m2} {l:List Nat} (hq:y*y-x*x=1+ed*(x*x*(y*y))) (hpx:lw 0 ((x.val:Nat):Int) % 2=1) (_h31:(nb y.val).getD 31 0<128) (hE:(nb y.val).set 31 ((nb y.val).getD (31) 0+128)=l):Calls Tryz.prog 16 [.agg (gc (x)++gc (y)++[Value.bool false]).toArray].toArray w fun e w'=>∃ v Fp,e=.returned v∧(rowPd 5 1 (32) (cells8 (l))).p v Fp w'∧(∀ b,Fp b=true→w.heap.size≤b∧b<w'.heap.size)∧Below w.heap.size w w':=by
 refine enter (args:=[.agg (gc (x)++gc (y)++[Value.bool false]).toArray]) Tryz.func16 rfl 22 rfl (lk rfl) (fun a h=>?_)
 refine a_region TTE h hm [] [eN 1 _,eS 2 _] (by kernel_rfl) ⟨rfl,rfl,T0⟩ [(1,.ptr 1 0)] [(1,gc (x)++gc (y)++[Value.bool false])] ⟨rfl,T0⟩ ⟨rfl,T0⟩ rfl (fun a w h=>?_)
 refine wp_seq ?_
 refine a_region TTE h hm [1] [eS 4 _,eS 5 (.val (Value.bool true)),eS 6 _] (by kernel_rfl) ⟨rfl,fun L u=>u_call u (gd0 rfl) _ rfl _ _ _ rfl [_] rfl (cZ38 _) (Value.bool true) (fun w hb=>by have q:=s_formed_at (hT.keep (Bs.kp_of hb)) x y;rw [decide_eq_true hq] at q;exact q),rfl,T0⟩ [(1,_),(6,.val (Value.bool false))] [(1,_)] ⟨rfl,rfl,T0⟩ ⟨rfl,T0⟩ rfl (fun a w h=>?_)
 refine go_cond h false rfl (fun ht=>?_) (fun hf=>?_)
 case refine_1=>cases ht
 refine wp_skip ?_
 refine then_norm ?_
 refine a_regionQ TTE h hm [2,3] [eS 8 _,eS 9 _,eQ 10 (rowPd 5 1 (32) (cells8 (nb y.val))),eS 3 (.unk 10 id)] (by kernel_rfl) ⟨rfl,rfl,fun L u=>u_callQ u (gd0 rfl) 10 rfl rfl 24 #[(.tmp 9)] #[34] rfl [.val (.agg (gc (y)).toArray)] rfl (fun vs w=>callFunc_enter Tryz.func24 (by kernel_rfl) (by kernel_rfl) vs w) (rowPd 5 1 (32) (cells8 (nb y.val))) (fun β a w hr=>sputN _ _),fun L u=>u_copyQ u (gd0 rfl) 3 rfl (.tmp 10) (Or.inr rfl) rfl rfl,T0⟩ [(1,_),(3,.unk 10 id)] [(1,_)] [(10,rowPd 5 1 (32) (cells8 (nb y.val)))] ⟨rfl,rfl,T0⟩ ⟨rfl,T0⟩ ⟨rfl,T0⟩ rfl (fun a w h=>?_)
 refine wp_seq ?_
 refine a_regionQ TTE h hm [3,4] [eS 11 _,eS 12 _,eS 13 _,eS 14 (.val (Value.int .u64 1)),eS 15 (.val (Value.bool true))] (by kernel_rfl) ⟨rfl,rfl,rfl,fun L u=>u_bin u (gd0 rfl) _ rfl _ _ _ _ _ rfl rfl rfl (eqg_int _ _ _ _ _ _ _ _) _ (fun w=>i_rem _ _ _ _ _ (lw_lo _ _) (by decide) hpx.symm w),fun L u=>u_bin u (gd0 rfl) _ rfl _ _ _ _ _ rfl rfl rfl (eqg_int _ _ _ _ _ _ _ _) _ (yes_of (fun w=>i_eql _ _ _ _ w) rfl),T0⟩ [(3,_),(15,.val (Value.bool true))] [] [(10,rowPd 5 1 (32) (cells8 (nb y.val)))] ⟨rfl,rfl,T0⟩ T0 ⟨rfl,T0⟩ rfl (fun a w h=>?_)
 refine go_cond h true rfl (fun ht=>?_) (fun hf=>?_)
 case refine_2=>cases hf
 refine sq_begin [0,1,2,3,4,5] rfl ?_
 refine sq_step h (i:=0) rfl (u_copyQ (xs:=[]) (up_seq (i:=0) (by kernel_rfl) rfl) (gd0 rfl) 16 rfl (.tmp 3) (Or.inl rfl) rfl rfl) (fun a w h=>?_)
 refine sq_step h (i:=1) rfl (q_at (xs:=[]) (up_seq (i:=1) (by kernel_rfl) rfl) (gd0 rfl) 17 rfl (.tmp 16) (.const (.int .i64 31)) rfl rfl rfl (vw_row (l:=nb y.val) (nb_lt _)) (31) rfl (by omega)) (fun a w h=>?_)
 refine sq_step h (i:=2) rfl (q_load (xs:=[]) (up_seq (i:=2) (by kernel_rfl) rfl) (gd0 rfl) 18 rfl (.tmp 17) rfl rfl rfl (vw_row (l:=nb y.val) (nb_lt _)) (by omega) ((nb y.val).getD (31) 0) rfl) (fun a w h=>?_)
 refine sq_step h (i:=3) rfl (u_bin (xs:=[]) (up_seq (i:=3) (by kernel_rfl) rfl) (gd0 rfl) _ rfl _ _ _ _ _ rfl rfl rfl (eqg_int _ _ _ _ _ _ _ _) _ (fun w=>i_addB _ _ _ (((nb y.val).getD (31) 0+128:Nat):Int) (by omega) ⟨by omega,by omega⟩ w)) (fun a w h=>?_)
 refine sq_step h (i:=4) rfl (q_at (xs:=[]) (up_seq (i:=4) (by kernel_rfl) rfl) (gd0 rfl) 20 rfl (.tmp 16) (.const (.int .i64 31)) rfl rfl rfl (vw_row (l:=nb y.val) (nb_lt _)) (31) rfl (by omega)) (fun a w h=>?_)
 refine sq_step h (i:=5) rfl (u_storeQ (xs:=[]) (up_seq (i:=5) (by kernel_rfl) rfl) (gd0 rfl) (.tmp 20) (.tmp 19) rfl rfl rfl rfl (by decide) rfl) (fun a w h=>?_)
 replace h:=h.keepQ [(3,.unk 10 id)] [] [(10,rowPd 5 1 (32) (cells8 ((nb y.val).set 31 ((nb y.val).getD (31) 0+128))))] ⟨rfl,trivial⟩ trivial ⟨rfl,trivial⟩ rfl
 refine sq_end ?_
 refine then_norm ?_
 refine a_regionQ TTE h hm [0,1] [eS 21 (.unk 10 id),eS 2 (.unk 10 id)] (by kernel_rfl) ⟨fun L u=>u_copyQ u (gd0 rfl) 21 rfl (.tmp 3) (Or.inl rfl) rfl rfl,fun L u=>u_copyQ u (gd0 rfl) 2 rfl (.tmp 21) (Or.inr rfl) rfl rfl,T0⟩ [(2,.unk 10 id)] [] [(10,rowPd 5 1 (32) (cells8 ((nb y.val).set 31 ((nb y.val).getD (31) 0+128))))] ⟨rfl,T0⟩ T0 ⟨rfl,T0⟩ rfl (fun a w h=>?_)
 refine wp_ret ?_
 refine ret_thing h 2 rfl (lk rfl) 10 id rfl rfl (fun v F hp hF=>?_)
 exact ⟨v,F,rfl,by rw [hE] at hp;exact hp,hF,h.grows⟩
theorem nb_top (y:Fin m2):(nb y.val).getD 31 0<128:=by
 have h1:=y_int ⟨0,y⟩
 have h2:=(Y_top (y:=(y.val:Int)) (by omega) h1).2.1
 have e:(nb y.val).getD 31 0=(Y 31 (y.val:Int)).toNat:=getD_fl (by decide)
 rw [e]
 have:=nbY y.val 31
 omega
theorem ext_getD {l m:List Nat} {n:Nat} (h1:l.length=n) (h2:m.length=n) (h:∀ i,i<n→l.getD i 0=m.getD i 0):l=m:=by
 rw [← fl_getD h1,← fl_getD h2]
 exact List.map_congr_left (fun i hi=>h i (List.mem_range.1 hi))
theorem sEnc {w:World} (hT:Tab w) {a:Ep m2} (ha:a.on ed):Calls Tryz.prog 16 [.agg (pcE a).toArray].toArray w fun e w'=>∃ v Fp,e=.returned v∧(rowPd 5 1 (32) (cells8 (cbp a))).p v Fp w'∧(∀ b,Fp b=true→w.heap.size≤b∧b<w'.heap.size)∧Below w.heap.size w w':=by
 obtain ⟨x,y⟩:=a
 rcases Nat.mod_two_eq_zero_or_one x.val with h2 | h2
 ·refine sEnc_even hT ha (by rw [L0_odd];show ((x.val:Nat):Int) % 2=0;omega) ?_
  show nb y.val=nb (code ⟨x,y⟩)
  rw [code_even (a:=⟨x,y⟩) h2]
 ·refine sEnc_odd hT ha (by rw [L0_odd];show ((x.val:Nat):Int) % 2=1;omega) (nb_top y) ?_
  show (nb y.val).set 31 ((nb y.val).getD 31 0+128)=nb (code ⟨x,y⟩)
  refine ext_getD (by rw [List.length_set,nb_len]) (nb_len _) (fun i hi=>?_)
  rw [getD_set _ 31 i _ (by rw [nb_len];decide)]
  unfold nb
  rw [getD_fl hi,getD_fl hi,getD_fl (by decide)]
  by_cases e:31=i
  ·subst e
   rw [if_pos rfl]
   have e1:=code_top (a:=⟨x,y⟩) h2
   have e2:=nbY y.val 31
   have e3:=nbY (code ⟨x,y⟩) 31
   simp only at e1 e2 e3
   omega
  ·rw [if_neg e]
   have e1:=e_on (a:=⟨x,y⟩) i (by omega)
   rw [e1]
theorem rScl_at {w:World} (hT:Tab w) {n0 n1 n2 c0 c1 c2:Nat} {z0 z1 z2:Option Addr} {f0 f1 f2:Nat→Nat} {l:List Nat} (hb0:BA w z0 n0 f0) (hb1:BA w z1 n1 f1) (hb2:BA w z2 n2 f2) (_hl:n0+n1+n2≤100000) (hfl:[]++(fl f0 (n0))++(fl f1 (n1))++(fl f2 (n2))=l):Calls Tryz.prog 23 [Value.slice (z0) (n0) (c0),Value.slice (z1) (n1) (c1),Value.slice (z2) (n2) (c2)].toArray w fun e w'=>e=.returned (.agg (nc ((scl l:Nat):Int)).toArray)∧Below w.heap.size w w':=by
 refine enter (args:=[Value.slice (z0) (n0) (c0),Value.slice (z1) (n1) (c1),Value.slice (z2) (n2) (c2)]) Tryz.func23 rfl 29 rfl (lk rfl) (fun a h=>?_)
 refine a_region TTE h hm [] [eN 6 _] (by kernel_rfl) ⟨rfl,T0⟩ [(0,.val (Value.slice (z0) (n0) (c0))),(1,.val (Value.slice (z1) (n1) (c1))),(2,.val (Value.slice (z2) (n2) (c2))),(6,.ptr 6 0)] [(6,nz)] ⟨rfl,rfl,rfl,rfl,T0⟩ ⟨rfl,T0⟩ rfl (fun a w h=>?_)
 refine a_region TTE h hm [] [eS 7 _] (by kernel_rfl) ⟨rfl,T0⟩ [(0,_),(1,_),(2,_),(6,_),(7,.val ((Value.slice none 0 0)))] [(6,_)] ⟨rfl,rfl,rfl,rfl,rfl,T0⟩ ⟨rfl,T0⟩ rfl (fun a w h=>?_)
 refine wp_seq ?_
 refine sq_begin [0,1,2,3] rfl ?_
 refine sq_step h (i:=0) rfl (u_move (xs:=[]) (up_seq (i:=0) (by kernel_rfl) rfl) (gd0 rfl) 11 rfl (.tmp 7) (Or.inl rfl) rfl) (fun a w h=>?_)
 refine sq_step h (i:=1) rfl (u_move (xs:=[]) (up_seq (i:=1) (by kernel_rfl) rfl) (gd0 rfl) 12 rfl (.tmp 0) (Or.inl rfl) rfl) (fun a w h=>?_)
 replace h:=(h.nil 5 1 13 11 rfl rfl).keepQ [(0,.val (Value.slice (z0) (n0) (c0))),(1,.val (Value.slice (z1) (n1) (c1))),(2,.val (Value.slice (z2) (n2) (c2))),(6,.ptr 6 0),(7,.val ((Value.slice none 0 0))),(11,.unk 13 id),(12,.val (Value.slice (z0) (n0) (c0)))] [(6,nz)] [(13,rowPd 5 1 0 [])] ⟨rfl,rfl,rfl,rfl,rfl,rfl,rfl,trivial⟩ ⟨rfl,trivial⟩ ⟨rfl,trivial⟩ rfl
 refine sq_appQ (k:=0) (l:=[]) h (i:=2) rfl (gq0 rfl) 13 rfl (.tmp 11) (.tmp 12) rfl 13 rfl rfl (Or.inl rfl) (m:=(n0)) (f:=f0) (fun β hr=>⟨z0,c0,hr.eval (v:=.val (Value.slice z0 n0 c0)) rfl,hb0.keep (Bs.kp_of hr.bl)⟩) (by omega) [(1,.val (Value.slice (z1) (n1) (c1))),(2,.val (Value.slice (z2) (n2) (c2))),(6,.ptr 6 0)] ⟨rfl,rfl,rfl,T0⟩ rfl (fun a w h=>?_)
 replace h:=h.keepQ [(1,.val (Value.slice (z1) (n1) (c1))),(2,.val (Value.slice (z2) (n2) (c2))),(6,.ptr 6 0),(13,.unk 13 id)] [(6,nz)] [(13,rowPd 5 1 (0+(n0)) (cells8 ([]++(fl f0 (n0)))))] ⟨rfl,rfl,rfl,rfl,trivial⟩ ⟨rfl,trivial⟩ ⟨rfl,trivial⟩ rfl
 refine sq_step h (i:=3) rfl (u_copyQ (xs:=[]) (up_seq (i:=3) (by kernel_rfl) rfl) (gd0 rfl) 7 rfl (.tmp 13) (Or.inr rfl) rfl rfl) (fun a w h=>?_)
 replace h:=h.keepQ [(1,.val (Value.slice (z1) (n1) (c1))),(2,.val (Value.slice (z2) (n2) (c2))),(6,.ptr 6 0),(7,.unk 13 id)] [(6,nz)] [(13,rowPd 5 1 (0+(n0)) (cells8 ([]++(fl f0 (n0)))))] ⟨rfl,rfl,rfl,rfl,trivial⟩ ⟨rfl,trivial⟩ ⟨rfl,trivial⟩ rfl
 refine sq_end ?_
 refine then_norm ?_
 refine wp_seq ?_
 refine sq_begin [0,1,2,3] rfl ?_
 refine sq_step h (i:=0) rfl (u_copyQ (xs:=[]) (up_seq (i:=0) (by kernel_rfl) rfl) (gd0 rfl) 14 rfl (.tmp 7) (Or.inl rfl) rfl rfl) (fun a w h=>?_)
 refine sq_step h (i:=1) rfl (u_move (xs:=[]) (up_seq (i:=1) (by kernel_rfl) rfl) (gd0 rfl) 15 rfl (.tmp 1) (Or.inl rfl) rfl) (fun a w h=>?_)
 refine sq_appQ (k:=0+(n0)) (l:=[]++(fl f0 (n0))) h (i:=2) rfl (gq0 rfl) 16 rfl (.tmp 14) (.tmp 15) rfl 13 rfl rfl (Or.inr rfl) (m:=(n1)) (f:=f1) (fun β hr=>⟨z1,c1,hr.eval (v:=.val (Value.slice z1 n1 c1)) rfl,hb1.keep (Bs.kp_of hr.bl)⟩) (by omega) [(2,.val (Value.slice (z2) (n2) (c2))),(6,.ptr 6 0)] ⟨rfl,rfl,T0⟩ rfl (fun a w h=>?_)
 replace h:=h.keepQ [(2,.val (Value.slice (z2) (n2) (c2))),(6,.ptr 6 0),(16,.unk 16 id)] [(6,nz)] [(16,rowPd 5 1 (0+(n0)+(n1)) (cells8 ([]++(fl f0 (n0))++(fl f1 (n1)))))] ⟨rfl,rfl,rfl,trivial⟩ ⟨rfl,trivial⟩ ⟨rfl,trivial⟩ rfl
 refine sq_step h (i:=3) rfl (u_copyQ (xs:=[]) (up_seq (i:=3) (by kernel_rfl) rfl) (gd0 rfl) 7 rfl (.tmp 16) (Or.inr rfl) rfl rfl) (fun a w h=>?_)
 replace h:=h.keepQ [(2,.val (Value.slice (z2) (n2) (c2))),(6,.ptr 6 0),(7,.unk 16 id)] [(6,nz)] [(16,rowPd 5 1 (0+(n0)+(n1)) (cells8 ([]++(fl f0 (n0))++(fl f1 (n1)))))] ⟨rfl,rfl,rfl,trivial⟩ ⟨rfl,trivial⟩ ⟨rfl,trivial⟩ rfl
 refine sq_end ?_
 refine then_norm ?_
 refine wp_seq ?_
 refine sq_begin [0,1,2,3] rfl ?_
 refine sq_step h (i:=0) rfl (u_copyQ (xs:=[]) (up_seq (i:=0) (by kernel_rfl) rfl) (gd0 rfl) 17 rfl (.tmp 7) (Or.inl rfl) rfl rfl) (fun a w h=>?_)
 refine sq_step h (i:=1) rfl (u_move (xs:=[]) (up_seq (i:=1) (by kernel_rfl) rfl) (gd0 rfl) 18 rfl (.tmp 2) (Or.inl rfl) rfl) (fun a w h=>?_)
 refine sq_appQ (k:=0+(n0)+(n1)) (l:=[]++(fl f0 (n0))++(fl f1 (n1))) h (i:=2) rfl (gq0 rfl) 19 rfl (.tmp 17) (.tmp 18) rfl 16 rfl rfl (Or.inr rfl) (m:=(n2)) (f:=f2) (fun β hr=>⟨z2,c2,hr.eval (v:=.val (Value.slice z2 n2 c2)) rfl,hb2.keep (Bs.kp_of hr.bl)⟩) (by omega) [(6,.ptr 6 0)] ⟨rfl,T0⟩ rfl (fun a w h=>?_)
 replace h:=h.keepQ [(6,.ptr 6 0),(19,.unk 19 id)] [(6,nz)] [(19,rowPd 5 1 (0+(n0)+(n1)+(n2)) (cells8 ([]++(fl f0 (n0))++(fl f1 (n1))++(fl f2 (n2)))))] ⟨rfl,rfl,trivial⟩ ⟨rfl,trivial⟩ ⟨rfl,trivial⟩ rfl
 refine sq_step h (i:=3) rfl (u_copyQ (xs:=[]) (up_seq (i:=3) (by kernel_rfl) rfl) (gd0 rfl) 7 rfl (.tmp 19) (Or.inr rfl) rfl rfl) (fun a w h=>?_)
 replace h:=h.keepQ [(6,.ptr 6 0),(7,.unk 19 id)] [(6,nz)] [(19,rowPd 5 1 (0+(n0)+(n1)+(n2)) (cells8 ([]++(fl f0 (n0))++(fl f1 (n1))++(fl f2 (n2)))))] ⟨rfl,rfl,trivial⟩ ⟨rfl,trivial⟩ ⟨rfl,trivial⟩ rfl
 refine sq_end ?_
 refine then_norm ?_
 refine a_region TTE h hm [0,1] [eS 20 (.unk 19 id),eS 21 (.val (.agg (by64 (bz (hsh l))).toArray)),eN 8 _,eM 8 _] (by kernel_rfl) ⟨fun L u=>u_copyQ u (gd0 rfl) 20 rfl (.tmp 7) (Or.inl rfl) rfl rfl,fun L u=>u_callR u (gd0 rfl) 21 rfl 37 #[(.tmp 20)] #[24] rfl [.unk 19 id] rfl (fun vs w=>callFunc_enter Tryz.func37 (by kernel_rfl) (by kernel_rfl) vs w) (.agg (by64 (bz (hsh l))).toArray) (fun β a w hr=>by rw [← hfl];exact rsumT (hr.thing (x:=19) (u.q rfl)) (lt_app (lt_app (lt_app lt_nil (fl_lt hb0.lt _)) (fl_lt hb1.lt _)) (fl_lt hb2.lt _)) (by omega)),rfl,rfl,T0⟩ [(6,_),(8,.ptr 8 0)] [(6,_),(8,by64 (bz (hsh l)))] ⟨rfl,rfl,T0⟩ ⟨rfl,rfl,T0⟩ rfl (fun a w h=>?_)
 refine a_region TTE h hm [0,1] [eS 23 (.sli 8 0 64 64),eS 24 (.val (.tuple [Value.agg (w8 (((nle (hsh l):Nat):Int))).toArray,Value.bool true].toArray)),eS 22 _,eS 25 _,eS 26 _,eN 9 _,eM 9 _,eS 10 _] (by kernel_rfl) ⟨fun L u=>u_slice u (gd0 rfl) 23 rfl 52 (.tmp 8) rfl rfl rfl Tryz.underlying52 i5Z,fun L u=>u_callR u (gd0 rfl) 24 rfl 52 #[(.tmp 23)] #[24] rfl [.sli 8 0 64 64] rfl (fun vs w=>callFunc_enter Tryz.func52 (by kernel_rfl) (by kernel_rfl) vs w) (.tuple [.agg (w8 (((nle (hsh l):Nat):Int))).toArray,Value.bool true].toArray) (fun β a w hr=>by obtain ⟨_,_,c3,_⟩:=hr.va 8 (by64 (bz (hsh l))) (u.m rfl);exact rwideN (by decide) c3),rfl,rfl,rfl,rfl,rfl,rfl,T0⟩ [(6,_),(9,.ptr 9 0)] [(6,_),(9,w8 (((nle (hsh l):Nat):Int)))] ⟨rfl,rfl,T0⟩ ⟨rfl,rfl,T0⟩ rfl (fun a w h=>?_)
 refine a_region TTE h hm [1] [eS 27 _,eS 28 (.val (.agg (nc (((scl l:Nat):Int))).toArray)),eM 6 _] (by kernel_rfl) ⟨rfl,fun L u=>u_call u (gd0 rfl) _ rfl _ _ _ rfl [_,_] rfl (cZ44 _) _ (fun w hb=>redN (hT.keep (Bs.kp_of hb)) l),rfl,T0⟩ [(6,_)] [(6,nc (((scl l:Nat):Int)))] ⟨rfl,T0⟩ ⟨rfl,T0⟩ rfl (fun a w h=>?_)
 refine wp_ret ?_
 refine ret_row h 6 34 rfl (lk rfl) 6 rfl (nc (((scl l:Nat):Int))) rfl _ Tryz.underlying34 rfl i34Z ?_
 exact ⟨rfl,h.grows⟩
theorem rScl {w:World} (hT:Tab w) {v0 v1 v2:Value} {l0 l1 l2:List Nat} (h0:Pt w v0 l0) (h1:Pt w v1 l1) (h2:Pt w v2 l2) (hl:(l0++(l1++l2)).length≤100000):Calls Tryz.prog 23 [v0,v1,v2].toArray w fun e w'=>e=.returned (.agg (nc ((scl (l0++(l1++l2)):Nat):Int)).toArray)∧Below w.heap.size w w':=by
 obtain ⟨z0,c0,rfl,_,_,b0⟩:=h0
 obtain ⟨z1,c1,rfl,_,_,b1⟩:=h1
 obtain ⟨z2,c2,rfl,_,_,b2⟩:=h2
 rw [List.length_append,List.length_append] at hl
 exact rScl_at hT b0 b1 b2 (by omega) (by rw [fl_getD rfl,fl_getD rfl,fl_getD rfl,List.nil_append,List.append_assoc])
theorem rKey_at {w:World} {sd t32:List Nat} {b0 b31 A:Nat} (hsd:sd.length=32) (hlt:∀ x ∈ sd,x<256) (hT32:[]++fl (fun i=>(hsh sd).getD i 0) (32)=t32) (ht32l:∀ x ∈ t32,x<256) (_ht32n:t32.length=32) (hb0:(t32).getD (0) 0=b0) (hb31:((t32).set 0 (b0 / 8*8)).getD (31) 0=b31) (_hl0:b0<256) (_hl31:b31<256) (hA:nle (((t32).set 0 (b0 / 8*8)).set 31 (b31 % 64+64))=A):Calls Tryz.prog 15 [.agg (by32 (bz sd)).toArray].toArray w fun e w'=>∃ v Fp,e=.returned v∧(tusPd (.agg (nc ((A:Nat):Int)).toArray) (rmPd 32 (kB sd))).p v Fp w'∧(∀ b,Fp b=true→w.heap.size≤b∧b<w'.heap.size)∧Below w.heap.size w w':=by
 refine enter (args:=[.agg (by32 (bz sd)).toArray]) Tryz.func15 rfl 34 rfl (lk rfl) (fun a h=>?_)
 refine a_region TTE h hm [] [eN 1 _,eN 2 _,eS 3 _] (by kernel_rfl) ⟨rfl,rfl,rfl,T0⟩ [(1,.ptr 1 0),(2,.ptr 2 0)] [(1,by32 (bz sd)),(2,nz)] ⟨rfl,rfl,T0⟩ ⟨rfl,rfl,T0⟩ rfl (fun a w h=>?_)
 refine a_region TTE h hm [0,1] [eS 8 (.sli 1 0 32 32),eS 9 (.val (.agg (by64 (bz (hsh sd))).toArray)),eN 4 _,eM 4 _] (by kernel_rfl) ⟨fun L u=>u_slice u (gd0 rfl) 8 rfl 23 (.tmp 1) rfl rfl rfl Tryz.underlying23 i5Z,fun L u=>u_callR u (gd0 rfl) 9 rfl 37 #[(.tmp 8)] #[24] rfl [.sli 1 0 32 32] rfl (fun vs w=>callFunc_enter Tryz.func37 (by kernel_rfl) (by kernel_rfl) vs w) (.agg (by64 (bz (hsh sd))).toArray) (fun β a w hr=>by obtain ⟨_,_,c3,_⟩:=hr.va 1 (by32 (bz sd)) (u.m rfl);exact rsumBA hsd ⟨gD_lt hlt,Or.inr ⟨_,0,rfl,rd_by c3⟩⟩ (by decide)),rfl,rfl,T0⟩ [(2,_),(4,.ptr 4 0)] [(2,_),(4,by64 (bz (hsh sd)))] ⟨rfl,rfl,T0⟩ ⟨rfl,rfl,T0⟩ rfl (fun a w h=>?_)
 refine a_region TTE h hm [] [eS 5 _] (by kernel_rfl) ⟨rfl,T0⟩ [(2,_),(4,_),(5,.val ((Value.slice none 0 0)))] [(2,_),(4,_)] ⟨rfl,rfl,rfl,T0⟩ ⟨rfl,rfl,T0⟩ rfl (fun a w h=>?_)
 refine wp_seq ?_
 refine sq_begin [0,1,2,3] rfl ?_
 refine sq_step h (i:=0) rfl (u_move (xs:=[]) (up_seq (i:=0) (by kernel_rfl) rfl) (gd0 rfl) 10 rfl (.tmp 5) (Or.inl rfl) rfl) (fun a w h=>?_)
 refine sq_step h (i:=1) rfl (u_sliceH (xs:=[]) (up_seq (i:=1) (by kernel_rfl) rfl) (gd0 rfl) 11 rfl 52 (.tmp 4) (.const (.int .i64 32)) rfl rfl rfl Tryz.underlying52 i5Z (hi:=32) rfl (by decide)) (fun a w h=>?_)
 replace h:=(h.nil 5 1 12 10 rfl rfl).keepQ [(2,.ptr 2 0),(4,.ptr 4 0),(5,.val ((Value.slice none 0 0))),(10,.unk 12 id),(11,.sli 4 0 32 64)] [(2,nz),(4,by64 (bz (hsh sd)))] [(12,rowPd 5 1 0 [])] ⟨rfl,rfl,rfl,rfl,rfl,trivial⟩ ⟨rfl,rfl,trivial⟩ ⟨rfl,trivial⟩ rfl
 refine sq_appQ (k:=0) (l:=[]) h (i:=2) rfl (gq0 rfl) 12 rfl (.tmp 10) (.tmp 11) rfl 12 rfl rfl (Or.inl rfl) (m:=(32)) (f:=(fun i=>(hsh sd).getD i 0)) (fun β hr=>by obtain ⟨_,_,c3,_⟩:=hr.va 4 (by64 (bz (hsh sd))) rfl;exact ⟨_,64,hr.eval (v:=.sli 4 0 32 64) rfl,gD_lt (hsh_lt sd),Or.inr ⟨_,0,rfl,⟨fun i hi=>(rd_by64 c3).c i (by omega)⟩⟩⟩) (by omega) [(2,.ptr 2 0),(4,.ptr 4 0)] ⟨rfl,rfl,T0⟩ rfl (fun a w h=>?_)
 replace h:=h.keepQ [(2,.ptr 2 0),(4,.ptr 4 0),(12,.unk 12 id)] [(2,nz),(4,by64 (bz (hsh sd)))] [(12,rowPd 5 1 (32) (cells8 (t32)))] ⟨rfl,rfl,rfl,trivial⟩ ⟨rfl,rfl,trivial⟩ ⟨(congrArg (fun z=>some (rowPd 5 1 32 (cells8 z))) hT32),trivial⟩ rfl
 refine sq_step h (i:=3) rfl (u_copyQ (xs:=[]) (up_seq (i:=3) (by kernel_rfl) rfl) (gd0 rfl) 5 rfl (.tmp 12) (Or.inr rfl) rfl rfl) (fun a w h=>?_)
 replace h:=h.keepQ [(2,.ptr 2 0),(4,.ptr 4 0),(5,.unk 12 id)] [(2,nz),(4,by64 (bz (hsh sd)))] [(12,rowPd 5 1 (32) (cells8 (t32)))] ⟨rfl,rfl,rfl,trivial⟩ ⟨rfl,rfl,trivial⟩ ⟨rfl,trivial⟩ rfl
 refine sq_end ?_
 refine then_norm ?_
 refine wp_seq ?_
 refine sq_begin [0,1,2,3,4,5,6,7] rfl ?_
 refine sq_step h (i:=0) rfl (u_copyQ (xs:=[]) (up_seq (i:=0) (by kernel_rfl) rfl) (gd0 rfl) 13 rfl (.tmp 5) (Or.inl rfl) rfl rfl) (fun a w h=>?_)
 refine sq_step h (i:=1) rfl (u_copyQ (xs:=[]) (up_seq (i:=1) (by kernel_rfl) rfl) (gd0 rfl) 14 rfl (.tmp 5) (Or.inl rfl) rfl rfl) (fun a w h=>?_)
 refine sq_step h (i:=2) rfl (q_at (xs:=[]) (up_seq (i:=2) (by kernel_rfl) rfl) (gd0 rfl) 15 rfl (.tmp 14) (.const (.int .i64 0)) rfl rfl rfl (vw_row (l:=t32) ht32l) (0) rfl (by omega)) (fun a w h=>?_)
 refine sq_step h (i:=3) rfl (q_load (xs:=[]) (up_seq (i:=3) (by kernel_rfl) rfl) (gd0 rfl) 16 rfl (.tmp 15) rfl rfl rfl (vw_row (l:=t32) ht32l) (by omega) (b0) hb0) (fun a w h=>?_)
 refine sq_step h (i:=4) rfl (u_bin (xs:=[]) (up_seq (i:=4) (by kernel_rfl) rfl) (gd0 rfl) _ rfl _ _ _ _ _ rfl rfl rfl (eqg_int _ _ _ _ _ _ _ _) _ (fun w=>i_quoB _ _ _ _ ((b0 / 8:Nat):Int) (by omega) (by decide) (by omega) (wrapB (by omega)) w)) (fun a w h=>?_)
 refine sq_step h (i:=5) rfl (u_bin (xs:=[]) (up_seq (i:=5) (by kernel_rfl) rfl) (gd0 rfl) _ rfl _ _ _ _ _ rfl rfl rfl (eqg_int _ _ _ _ _ _ _ _) _ (fun w=>i_mulB _ _ _ ((b0 / 8*8:Nat):Int) (by omega) (by omega) w)) (fun a w h=>?_)
 refine sq_step h (i:=6) rfl (q_at (xs:=[]) (up_seq (i:=6) (by kernel_rfl) rfl) (gd0 rfl) 19 rfl (.tmp 13) (.const (.int .i64 0)) rfl rfl rfl (vw_row (l:=t32) ht32l) (0) rfl (by omega)) (fun a w h=>?_)
 refine sq_step h (i:=7) rfl (u_storeQ (xs:=[]) (up_seq (i:=7) (by kernel_rfl) rfl) (gd0 rfl) (.tmp 19) (.tmp 18) rfl rfl rfl rfl (by decide) rfl) (fun a w h=>?_)
 replace h:=h.keepQ [(2,.ptr 2 0),(4,.ptr 4 0),(5,.unk 12 id)] [(2,nz),(4,by64 (bz (hsh sd)))] [(12,rowPd 5 1 (32) (cells8 ((t32).set 0 (b0 / 8*8))))] ⟨rfl,rfl,rfl,trivial⟩ ⟨rfl,rfl,trivial⟩ ⟨rfl,trivial⟩ rfl
 refine sq_end ?_
 refine then_norm ?_
 refine wp_seq ?_
 refine sq_begin [0,1,2,3,4,5,6,7] rfl ?_
 refine sq_step h (i:=0) rfl (u_copyQ (xs:=[]) (up_seq (i:=0) (by kernel_rfl) rfl) (gd0 rfl) 20 rfl (.tmp 5) (Or.inl rfl) rfl rfl) (fun a w h=>?_)
 refine sq_step h (i:=1) rfl (u_copyQ (xs:=[]) (up_seq (i:=1) (by kernel_rfl) rfl) (gd0 rfl) 21 rfl (.tmp 5) (Or.inl rfl) rfl rfl) (fun a w h=>?_)
 refine sq_step h (i:=2) rfl (q_at (xs:=[]) (up_seq (i:=2) (by kernel_rfl) rfl) (gd0 rfl) 22 rfl (.tmp 21) (.const (.int .i64 31)) rfl rfl rfl (vw_row (l:=(t32).set 0 (b0 / 8*8)) (lt_set ht32l 0 (by omega))) (31) rfl (by omega)) (fun a w h=>?_)
 refine sq_step h (i:=3) rfl (q_load (xs:=[]) (up_seq (i:=3) (by kernel_rfl) rfl) (gd0 rfl) 23 rfl (.tmp 22) rfl rfl rfl (vw_row (l:=(t32).set 0 (b0 / 8*8)) (lt_set ht32l 0 (by omega))) (by omega) (b31) hb31) (fun a w h=>?_)
 refine sq_step h (i:=4) rfl (u_bin (xs:=[]) (up_seq (i:=4) (by kernel_rfl) rfl) (gd0 rfl) _ rfl _ _ _ _ _ rfl rfl rfl (eqg_int _ _ _ _ _ _ _ _) _ (fun w=>i_rem _ _ _ _ ((b31 % 64:Nat):Int) (by omega) (by decide) (by omega) w)) (fun a w h=>?_)
 refine sq_step h (i:=5) rfl (u_bin (xs:=[]) (up_seq (i:=5) (by kernel_rfl) rfl) (gd0 rfl) _ rfl _ _ _ _ _ rfl rfl rfl (eqg_int _ _ _ _ _ _ _ _) _ (fun w=>i_addB _ _ _ ((b31 % 64+64:Nat):Int) (by omega) ⟨by omega,by omega⟩ w)) (fun a w h=>?_)
 refine sq_step h (i:=6) rfl (q_at (xs:=[]) (up_seq (i:=6) (by kernel_rfl) rfl) (gd0 rfl) 26 rfl (.tmp 20) (.const (.int .i64 31)) rfl rfl rfl (vw_row (l:=(t32).set 0 (b0 / 8*8)) (lt_set ht32l 0 (by omega))) (31) rfl (by omega)) (fun a w h=>?_)
 refine sq_step h (i:=7) rfl (u_storeQ (xs:=[]) (up_seq (i:=7) (by kernel_rfl) rfl) (gd0 rfl) (.tmp 26) (.tmp 25) rfl rfl rfl rfl (by decide) rfl) (fun a w h=>?_)
 replace h:=h.keepQ [(2,.ptr 2 0),(4,.ptr 4 0),(5,.unk 12 id)] [(2,nz),(4,by64 (bz (hsh sd)))] [(12,rowPd 5 1 (32) (cells8 (((t32).set 0 (b0 / 8*8)).set 31 (b31 % 64+64))))] ⟨rfl,rfl,rfl,trivial⟩ ⟨rfl,rfl,trivial⟩ ⟨rfl,trivial⟩ rfl
 refine sq_end ?_
 refine then_norm ?_
 refine a_region TTE h hm [0,1] [eS 28 (.unk 12 id),eS 29 (.val (.tuple [Value.agg (nc (((A:Nat):Int))).toArray,Value.bool true].toArray)),eS 27 _,eS 30 _,eS 31 _,eN 6 _,eM 6 _,eS 7 _] (by kernel_rfl) ⟨fun L u=>u_copyQ u (gd0 rfl) 28 rfl (.tmp 5) (Or.inl rfl) rfl rfl,fun L u=>u_callR u (gd0 rfl) 29 rfl 32 #[(.tmp 28)] #[24] rfl [.unk 12 id] rfl (fun vs w=>callFunc_enter Tryz.func32 (by kernel_rfl) (by kernel_rfl) vs w) (.tuple [.agg (nc (((A:Nat):Int))).toArray,Value.bool true].toArray) (fun β a w hr=>by rw [← hA];exact slitT (hr.thing (x:=12) (u.q rfl)) (lt_set (lt_set ht32l 0 (by omega)) 31 (by omega))),rfl,rfl,rfl,rfl,rfl,rfl,T0⟩ [(2,_),(4,_),(6,.ptr 6 0)] [(2,_),(4,_),(6,nc (((A:Nat):Int)))] ⟨rfl,rfl,rfl,T0⟩ ⟨rfl,rfl,rfl,T0⟩ rfl (fun a w h=>?_)
 refine a_region TTE h hm [1] [eS 32 _,eS 33 (.sli 4 32 32 32),eM 2 _,eS 3 _] (by kernel_rfl) ⟨rfl,fun L u=>u_sliceB u (gd0 rfl) 33 rfl 52 (.tmp 4) (.const (.int .i64 32)) (.const (.int .i64 64)) rfl rfl rfl Tryz.underlying52 i5Z (lo:=32) (hi:=64) rfl rfl (by decide) (by decide) (by decide),rfl,rfl,T0⟩ [(2,_),(3,.sli 4 32 32 32)] [(2,nc (((A:Nat):Int))),(4,_)] ⟨rfl,rfl,T0⟩ ⟨rfl,rfl,T0⟩ rfl (fun a w h=>?_)
 refine wp_ret ?_
 refine ret_cs h 2 3 34 rfl (ans_row (cs:=nc ((A:Nat):Int)) 2 (lk rfl) 34 rfl rfl Tryz.underlying34 rfl i34Z) (lk rfl) 4 32 32 32 rfl rfl (fun b h1 h2 h3=>?_)
 exact sp_ret h1 h2 h3 h.grows
theorem fl_hs (sd:List Nat):[]++fl (fun i=>(hsh sd).getD i 0) (32)=(hsh sd).take 32:=by
 have q:=fl_getD (l:=(hsh sd).take 32) (n:=32) (hs_take_len sd)
 rw [List.nil_append,← q]
 apply List.map_congr_left
 intro i hi
 show (hsh sd).getD i 0=((hsh sd).take 32).getD i 0
 rw [List.getD_eq_getElem?_getD,List.getD_eq_getElem?_getD,List.getElem?_take_of_lt (List.mem_range.1 hi)]
theorem rKey {w:World} {sd:List Nat} (hsd:sd.length=32) (hlt:∀ x ∈ sd,x<256):Calls Tryz.prog 15 [.agg (by32 (bz sd)).toArray].toArray w fun e w'=>∃ v Fp,e=.returned v∧(tusPd (.agg (nc ((kA sd:Nat):Int)).toArray) (rmPd 32 (kB sd))).p v Fp w'∧(∀ b,Fp b=true→w.heap.size≤b∧b<w'.heap.size)∧Below w.heap.size w w':=by
 have hl:=lt_take (hsh_lt sd) 32
 refine rKey_at hsd hlt (fl_hs sd) hl (hs_take_len sd) rfl rfl (gD_lt hl 0) ?_ ?_
 ·exact gD_lt (lt_set hl 0 (by have:=gD_lt hl 0;omega)) 31
 ·unfold kA clm
  rw [getD_set _ 0 31 _ (by rw [hs_take_len];decide),if_neg (by decide)]
end Go.Proofs.YtjaahnlpnkcimaaGreatDoor
namespace Go.Proofs.YtjaahnlpnkcimaaGreatDoor
set_option maxRecDepth 100000
open Go.RowKit
theorem rPub {w:World} (hT:Tab w) {sd:List Nat} (hsd:sd.length=32) (hlt:∀ x ∈ sd,x<256):Calls Tryz.prog 8 [.agg (by32 (bz sd)).toArray].toArray w fun e w'=>∃ v Fp,e=.returned v∧(rowPd 5 1 (32) (cells8 (cbp (pA sd)))).p v Fp w'∧(∀ b,Fp b=true→w.heap.size≤b∧b<w'.heap.size)∧Below w.heap.size w w':=by
 refine enter (args:=[.agg (by32 (bz sd)).toArray]) Tryz.func8 rfl 14 rfl (lk rfl) (fun a h=>?_)
 refine a_region TTE h hm [] [eN 1 _,eS 2 _] (by kernel_rfl) ⟨rfl,rfl,T0⟩ [(1,.ptr 1 0)] [(1,by32 (bz sd))] ⟨rfl,T0⟩ ⟨rfl,T0⟩ rfl (fun a w h=>?_)
 refine a_region TTE h hm [1,2,3,4,7] [eS 6 _,eQ 7 (tusPd (.agg (nc (((kA sd:Nat):Int))).toArray) (rmPd 32 (kB sd))),eS 5 (.unk 7 id),eS 8 (.val (.agg (nc (((kA sd:Nat):Int))).toArray)),eS 9 (.unk 7 sndV),eN 3 _,eM 3 _,eS 4 (.unk 7 sndV)] (by kernel_rfl) ⟨rfl,fun L u=>u_callQ u (gd0 rfl) 7 rfl rfl 15 #[(.tmp 6)] #[23] rfl [.val (.agg (by32 (bz sd)).toArray)] rfl (fun vs w=>callFunc_enter Tryz.func15 (by kernel_rfl) (by kernel_rfl) vs w) (tusPd (.agg (nc (((kA sd:Nat):Int))).toArray) (rmPd 32 (kB sd))) (fun β a w hr=>rKey hsd hlt),fun L u=>u_copyQ u (gd0 rfl) 5 rfl (.tmp 7) (Or.inl rfl) rfl rfl,fun L u=>u_ext0S u (gd0 rfl) 8 rfl (.tmp 5) rfl rfl rfl,fun L u=>u_ext1S u (gd0 rfl) 9 rfl (.tmp 5) rfl rfl rfl,rfl,rfl,fun L u=>u_copyQ u (gd0 rfl) 4 rfl (.tmp 9) (Or.inr rfl) rfl rfl,T0⟩ [(3,.ptr 3 0)] [(3,nc (((kA sd:Nat):Int)))] ⟨rfl,T0⟩ ⟨rfl,T0⟩ rfl (fun a w h=>?_)
 refine a_regionQ TTE h hm [1,2,3,4] [eS 10 _,eS 11 (.val (.agg (pcE (eG)).toArray)),eS 12 (.val (.agg (pcE (pA sd)).toArray)),eQ 13 (rowPd 5 1 (32) (cells8 (cbp (pA sd)))),eS 2 (.unk 13 id)] (by kernel_rfl) ⟨rfl,fun L u=>u_call u (gd0 rfl) _ rfl _ _ _ rfl [] rfl (cZ18 _) _ (fun w hb=>s_Base),fun L u=>u_call u (gd0 rfl) _ rfl _ _ _ rfl [_,_] rfl (cZ17 _) _ (fun w hb=>smulN (hT.keep (Bs.kp_of hb)) (kA_num sd) eG_on),fun L u=>u_callQ u (gd0 rfl) 13 rfl rfl 16 #[(.tmp 12)] #[40] rfl [.val (.agg (pcE (pA sd)).toArray)] rfl (fun vs w=>callFunc_enter Tryz.func16 (by kernel_rfl) (by kernel_rfl) vs w) (rowPd 5 1 (32) (cells8 (cbp (pA sd)))) (fun β a w hr=>sEnc (hT.keep (Bs.kp_of hr.bl)) (pA_on sd)),fun L u=>u_copyQ u (gd0 rfl) 2 rfl (.tmp 13) (Or.inr rfl) rfl rfl,T0⟩ [(2,.unk 13 id)] [] [(13,rowPd 5 1 (32) (cells8 (cbp (pA sd))))] ⟨rfl,T0⟩ T0 ⟨rfl,T0⟩ rfl (fun a w h=>?_)
 refine wp_ret ?_
 refine ret_thing h 2 rfl (lk rfl) 13 id rfl rfl (fun v F hp hF=>?_)
 exact ⟨v,F,rfl,hp,hF,h.grows⟩
theorem rSign {w:World} (hT:Tab w) {sd:List Nat} (hsd:sd.length=32) (hlt:∀ x ∈ sd,x<256) {n c:Nat} {z:Option Addr} {f:Nat→Nat} (hba:BA w z n f) (hc:n≤c) (hcm:c≤maxLen) (_hn:n≤80000):Calls Tryz.prog 10 [.agg (by32 (bz sd)).toArray,Value.slice (z) (n) (c)].toArray w fun e w'=>∃ v Fp,e=.returned v∧(rowPd 5 1 (32+(32)) (cells8 (cbp (pR sd (fl f n))++(nb (kS sd (fl f n)))))).p v Fp w'∧(∀ b,Fp b=true→w.heap.size≤b∧b<w'.heap.size)∧Below w.heap.size w w':=by
 refine enter (args:=[.agg (by32 (bz sd)).toArray,Value.slice (z) (n) (c)]) Tryz.func10 rfl 37 rfl (lk rfl) (fun a h=>?_)
 refine a_region TTE h hm [] [eN 2 _,eS 4 _] (by kernel_rfl) ⟨rfl,rfl,T0⟩ [(1,.val (Value.slice (z) (n) (c))),(2,.ptr 2 0)] [(2,by32 (bz sd))] ⟨rfl,rfl,T0⟩ ⟨rfl,T0⟩ rfl (fun a w h=>?_)
 refine a_regionQ TTE h hm [1,2,3,4,7] [eS 12 _,eQ 13 (tusPd (.agg (nc (((kA sd:Nat):Int))).toArray) (rmPd 32 (kB sd))),eS 11 (.unk 13 id),eS 14 (.val (.agg (nc (((kA sd:Nat):Int))).toArray)),eS 15 (.unk 13 sndV),eN 5 _,eM 5 _,eS 6 (.unk 13 sndV)] (by kernel_rfl) ⟨rfl,fun L u=>u_callQ u (gd0 rfl) 13 rfl rfl 15 #[(.tmp 12)] #[23] rfl [.val (.agg (by32 (bz sd)).toArray)] rfl (fun vs w=>callFunc_enter Tryz.func15 (by kernel_rfl) (by kernel_rfl) vs w) (tusPd (.agg (nc (((kA sd:Nat):Int))).toArray) (rmPd 32 (kB sd))) (fun β a w hr=>rKey hsd hlt),fun L u=>u_copyQ u (gd0 rfl) 11 rfl (.tmp 13) (Or.inl rfl) rfl rfl,fun L u=>u_ext0S u (gd0 rfl) 14 rfl (.tmp 11) rfl rfl rfl,fun L u=>u_ext1S u (gd0 rfl) 15 rfl (.tmp 11) rfl rfl rfl,rfl,rfl,fun L u=>u_copyQ u (gd0 rfl) 6 rfl (.tmp 15) (Or.inr rfl) rfl rfl,T0⟩ [(1,_),(2,_),(5,.ptr 5 0),(6,.unk 13 sndV)] [(2,_),(5,nc (((kA sd:Nat):Int)))] [(13,tusPd (.agg (nc (((kA sd:Nat):Int))).toArray) (rmPd 32 (kB sd)))] ⟨rfl,rfl,rfl,rfl,T0⟩ ⟨rfl,rfl,T0⟩ ⟨rfl,T0⟩ rfl (fun a w h=>?_)
 refine a_region TTE h hm [0,2] [eS 16 (.unk 13 sndV),eS 17 _,eS 18 (.val (.agg (nc (((kR sd (fl f n):Nat):Int))).toArray)),eN 7 _,eM 7 _] (by kernel_rfl) ⟨fun L u=>u_copyQ u (gd0 rfl) 16 rfl (.tmp 6) (Or.inl rfl) rfl rfl,rfl,fun L u=>u_callR u (gd0 rfl) 18 rfl 23 #[(.tmp 16),(.tmp 17),(.const (.slice none 0 0))] #[24,24,24] rfl [.unk 13 sndV,.val (Value.slice (z) (n) (c)),.val ((Value.slice none 0 0))] rfl (fun vs w=>callFunc_enter Tryz.func23 (by kernel_rfl) (by kernel_rfl) vs w) (.agg (nc (((kR sd (fl f n):Nat):Int))).toArray) (fun β a w hr=>by have q:=rScl (hT.keep (Bs.kp_of hr.bl)) (pt_rm (tus_snd (hr.thing (x:=13) (u.q rfl)))) (pt_ba (hba.keep (Bs.kp_of hr.bl)) hc hcm) (pt_nil _) (by rw [List.length_append,List.length_append,kB_len,fl_len];simp;omega);rw [List.append_nil] at q;exact q),rfl,rfl,T0⟩ [(1,_),(2,_),(5,_),(7,.ptr 7 0)] [(2,_),(5,_),(7,nc (((kR sd (fl f n):Nat):Int)))] ⟨rfl,rfl,rfl,rfl,T0⟩ ⟨rfl,rfl,rfl,T0⟩ rfl (fun a w h=>?_)
 refine a_regionQ TTE h hm [1,2,3,4] [eS 19 _,eS 20 (.val (.agg (pcE (eG)).toArray)),eS 21 (.val (.agg (pcE (pR sd (fl f n))).toArray)),eQ 22 (rowPd 5 1 (32) (cells8 (cbp (pR sd (fl f n))))),eS 8 (.unk 22 id)] (by kernel_rfl) ⟨rfl,fun L u=>u_call u (gd0 rfl) _ rfl _ _ _ rfl [] rfl (cZ18 _) _ (fun w hb=>s_Base),fun L u=>u_call u (gd0 rfl) _ rfl _ _ _ rfl [_,_] rfl (cZ17 _) _ (fun w hb=>smulN (hT.keep (Bs.kp_of hb)) (scl_num _) eG_on),fun L u=>u_callQ u (gd0 rfl) 22 rfl rfl 16 #[(.tmp 21)] #[40] rfl [.val (.agg (pcE (pR sd (fl f n))).toArray)] rfl (fun vs w=>callFunc_enter Tryz.func16 (by kernel_rfl) (by kernel_rfl) vs w) (rowPd 5 1 (32) (cells8 (cbp (pR sd (fl f n))))) (fun β a w hr=>sEnc (hT.keep (Bs.kp_of hr.bl)) (mG_on _)),fun L u=>u_copyQ u (gd0 rfl) 8 rfl (.tmp 22) (Or.inr rfl) rfl rfl,T0⟩ [(1,_),(2,_),(5,_),(7,_),(8,.unk 22 id)] [(2,_),(5,_),(7,_)] [(22,rowPd 5 1 (32) (cells8 (cbp (pR sd (fl f n)))))] ⟨rfl,rfl,rfl,rfl,rfl,T0⟩ ⟨rfl,rfl,rfl,T0⟩ ⟨rfl,T0⟩ rfl (fun a w h=>?_)
 refine a_regionQ TTE h hm [0,2,4] [eS 23 (.unk 22 id),eS 24 _,eQ 25 (rowPd 5 1 (32) (cells8 (cbp (pA sd)))),eS 26 _,eS 27 (.val (.agg (nc (((kK (cbp (pR sd (fl f n))) (cbp (pA sd)) (fl f n):Nat):Int))).toArray)),eN 9 _,eM 9 _] (by kernel_rfl) ⟨fun L u=>u_copyQ u (gd0 rfl) 23 rfl (.tmp 8) (Or.inl rfl) rfl rfl,rfl,fun L u=>u_callQ u (gd0 rfl) 25 rfl rfl 8 #[(.tmp 24)] #[23] rfl [.val (.agg (by32 (bz sd)).toArray)] rfl (fun vs w=>callFunc_enter Tryz.func8 (by kernel_rfl) (by kernel_rfl) vs w) (rowPd 5 1 (32) (cells8 (cbp (pA sd)))) (fun β a w hr=>rPub (hT.keep (Bs.kp_of hr.bl)) hsd hlt),rfl,fun L u=>u_callR u (gd0 rfl) 27 rfl 23 #[(.tmp 23),(.tmp 25),(.tmp 26)] #[24,24,24] rfl [.unk 22 id,.unk 25 id,.val (Value.slice (z) (n) (c))] rfl (fun vs w=>callFunc_enter Tryz.func23 (by kernel_rfl) (by kernel_rfl) vs w) (.agg (nc (((kK (cbp (pR sd (fl f n))) (cbp (pA sd)) (fl f n):Nat):Int))).toArray) (fun β a w hr=>rScl (hT.keep (Bs.kp_of hr.bl)) (pt_rm (rm_row (cbp_lt _) (hr.thing (x:=22) (u.q rfl)))) (pt_rm (rm_row (cbp_lt _) (hr.thing (x:=25) (u.q rfl)))) (pt_ba (hba.keep (Bs.kp_of hr.bl)) hc hcm) (by rw [List.length_append,List.length_append,cbp_len,cbp_len,fl_len];omega)),rfl,rfl,T0⟩ [(5,_),(7,_),(8,_),(9,.ptr 9 0)] [(5,_),(7,_),(9,nc (((kK (cbp (pR sd (fl f n))) (cbp (pA sd)) (fl f n):Nat):Int)))] [(22,rowPd 5 1 (32) (cells8 (cbp (pR sd (fl f n)))))] ⟨rfl,rfl,rfl,rfl,T0⟩ ⟨rfl,rfl,rfl,T0⟩ ⟨rfl,T0⟩ rfl (fun a w h=>?_)
 refine a_regionQ TTE h hm [3,4] [eS 28 _,eS 29 _,eS 30 _,eS 31 (.val (.agg (nc (((kM sd (fl f n):Nat):Int))).toArray)),eS 32 (.val (.agg (nc (((kS sd (fl f n):Nat):Int))).toArray)),eN 10 _,eM 10 _] (by kernel_rfl) ⟨rfl,rfl,rfl,fun L u=>u_call u (gd0 rfl) _ rfl _ _ _ rfl [_,_,_] rfl (cZ21 _) _ (fun w hb=>mul3 (hT.keep (Bs.kp_of hb)) (scl_num _) (kA_num sd)),fun L u=>u_call u (gd0 rfl) _ rfl _ _ _ rfl [_,_,_] rfl (cZ20 _) _ (fun w hb=>add3 (hT.keep (Bs.kp_of hb)) (scl_num _) (tm3_num _)),rfl,rfl,T0⟩ [(8,_),(10,.ptr 10 0)] [(10,nc (((kS sd (fl f n):Nat):Int)))] [(22,rowPd 5 1 (32) (cells8 (cbp (pR sd (fl f n)))))] ⟨rfl,rfl,T0⟩ ⟨rfl,T0⟩ ⟨rfl,T0⟩ rfl (fun a w h=>?_)
 refine wp_seq ?_
 refine sq_begin [0,1,2,3,4] rfl ?_
 refine sq_step h (i:=0) rfl (u_copyQ (xs:=[]) (up_seq (i:=0) (by kernel_rfl) rfl) (gd0 rfl) 33 rfl (.tmp 8) (Or.inl rfl) rfl rfl) (fun a w h=>?_)
 refine sq_step h (i:=1) rfl (u_load (xs:=[]) (up_seq (i:=1) (by kernel_rfl) rfl) (gd0 rfl) 34 rfl 34 (.tmp 10) rfl rfl rfl Tryz.underlying34 rfl i34Z (lk rfl) _ rfl) (fun a w h=>?_)
 refine sq_step h (i:=2) rfl (u_callQ (xs:=[]) (up_seq (i:=2) (by kernel_rfl) rfl) (gd0 rfl) 35 rfl rfl 24 #[(.tmp 34)] #[34] rfl [.val (.agg (nc (((kS sd (fl f n):Nat):Int))).toArray)] rfl (fun vs w=>callFunc_enter Tryz.func24 (by kernel_rfl) (by kernel_rfl) vs w) (rowPd 5 1 (32) (cells8 (nb (kS sd (fl f n))))) (fun β a w hr=>sputN _ _)) (fun a w h=>?_)
 refine sq_appQ (k:=32) (l:=cbp (pR sd (fl f n))) h (i:=3) rfl (gq0 rfl) 36 rfl (.tmp 33) (.tmp 35) rfl 22 rfl rfl (Or.inr rfl) (m:=(32)) (f:=(fun i=>(nb (kS sd (fl f n))).getD i 0)) (fun β hr=>vw_src hr (y:=35) (g:=id) (p:=rowPd 5 1 (32) (cells8 (nb (kS sd (fl f n))))) rfl rfl (vw_row (l:=nb (kS sd (fl f n))) (nb_lt _))) (by omega) [] T0 rfl (fun a w h=>?_)
 replace h:=h.keepQ [(36,.unk 36 id)] [] [(36,rowPd 5 1 (32+(32)) (cells8 (cbp (pR sd (fl f n))++(nb (kS sd (fl f n))))))] ⟨rfl,trivial⟩ trivial ⟨(congrArg (fun z=>some (rowPd 5 1 (32+(32)) (cells8 (cbp (pR sd (fl f n))++z)))) (fl_getD (l:=nb (kS sd (fl f n))) (n:=32) (nb_len _))),trivial⟩ rfl
 refine sq_step h (i:=4) rfl (u_copyQ (xs:=[]) (up_seq (i:=4) (by kernel_rfl) rfl) (gd0 rfl) 4 rfl (.tmp 36) (Or.inr rfl) rfl rfl) (fun a w h=>?_)
 replace h:=h.keepQ [(4,.unk 36 id)] [] [(36,rowPd 5 1 (32+(32)) (cells8 (cbp (pR sd (fl f n))++(nb (kS sd (fl f n))))))] ⟨rfl,trivial⟩ trivial ⟨rfl,trivial⟩ rfl
 refine sq_end ?_
 refine then_norm ?_
 refine wp_ret ?_
 refine ret_thing h 4 rfl (lk rfl) 36 id rfl rfl (fun v F hp hF=>?_)
 exact ⟨v,F,rfl,hp,hF,h.grows⟩
end Go.Proofs.YtjaahnlpnkcimaaGreatDoor
namespace Go.Proofs.YtjaahnlpnkcimaaGreatDoor
set_option maxRecDepth 100000
open Go.RowKit
end Go.Proofs.YtjaahnlpnkcimaaGreatDoor
namespace Go.Proofs.YtjaahnlpnkcimaaGreatDoor
set_option maxRecDepth 100000
open Go.RowKit
def zrs:List Nat:=List.replicate 32 0
theorem zrs_lt:∀ x ∈ zrs,x<256:=fun x hx=>by
 rw [List.eq_of_mem_replicate hx]
 decide
theorem b_zrs:Tryz.prog.built 23 []=some (by32 (bz zrs)).toArray:=by kernel_rfl
theorem sameT {w:World} {v1 v2:Value} {l1 l2:List Nat} (h1:Pt w v1 l1) (h2:Pt w v2 l2) (e:l1=l2) (hn:l1.length≤1000000):Calls Tryz.prog 7 [v1,v2].toArray w fun e w'=>e=.returned (.bool true)∧Below w.heap.size w w':=by
 subst e
 obtain ⟨z1,c1,rfl,_,_,b1⟩:=h1
 obtain ⟨z2,c2,rfl,_,_,b2⟩:=h2
 have q:=same_fl (c:=c1) (c2:=c2) b1 b2 hn
 rw [decide_eq_true rfl] at q
 exact q
theorem pt_row {w:World} {v:Value} {F:Nat→Bool} {n:Nat} {l:List Nat} (hl:∀ x ∈ l,x<256) (h:(rowPd 5 1 (n) (cells8 (l))).p v F w):Pt w v l:=pt_rm (rm_row hl h)
theorem cZ5 (vs:List Value):∀ w,(callFunc 5 vs.toArray).run Tryz.prog w=.ok (.enter 5 vs.toArray) w:=callFunc_enter Tryz.func5 (by kernel_rfl) (by kernel_rfl) _
theorem awk {w:World} (hT:Tab w) (hH:Sx.Tab w):Calls Tryz.prog 5 [].toArray w fun e w'=>e=.returned (.bool true)∧Below w.heap.size w w':=by
 refine enter (args:=[]) Tryz.func5 rfl 5 rfl (lk rfl) (fun a h=>?_)
 refine a_region TTE h hm [] [eS 0 _] (by kernel_rfl) ⟨rfl,T0⟩ [] [] T0 T0 rfl (fun a w h=>?_)
 refine a_region TTE h hm [0,1,2,3] [eS 1 (.val (.agg (by32 (bz zrs)).toArray)),eQ 2 (rowPd 5 1 (32+32) (cells8 (cbp (pR zrs (fl (fun _=>0) 0))++(nb (kS zrs (fl (fun _=>0) 0)))))),eS 3 (.val (Value.int .i64 ((32+32:Nat):Int))),eS 4 (.val (Value.bool true)),eS 0 _] (by kernel_rfl) ⟨fun L u=>u_build u (gd0 rfl) 1 rfl 23 #[] rfl [] rfl (by32 (bz zrs)) (b_zrs),fun L u=>u_callQ u (gd0 rfl) 2 rfl rfl 9 #[(.tmp 1),(.const (.slice none 0 0))] #[23,24] rfl [.val (.agg (by32 (bz zrs)).toArray),.val ((Value.slice none 0 0))] rfl (fun vs w=>callFunc_enter Tryz.func9 (by kernel_rfl) (by kernel_rfl) vs w) (rowPd 5 1 (32+32) (cells8 (cbp (pR zrs (fl (fun _=>0) 0))++(nb (kS zrs (fl (fun _=>0) 0)))))) (fun β a w hr=>qSign (sd:=zrs) (z:=none) (n:=0) (c:=0) (f:=fun _=>0) (hT.keep (Bs.kp_of hr.bl)) (hH.keep (Bs.kp_of hr.bl)) rfl zrs_lt ⟨fun _=>by decide,Or.inl rfl⟩ (Nat.le_refl _) (Nat.zero_le _) (Nat.zero_le _)),fun L u=>q_len u (gd0 rfl) 3 rfl (.tmp 2) rfl rfl rfl (vw_row (l:=cbp (pR zrs (fl (fun _=>0) 0))++(nb (kS zrs (fl (fun _=>0) 0)))) (lt_app (cbp_lt _) (nb_lt _))),fun L u=>u_bin u (gd0 rfl) _ rfl _ _ _ _ _ rfl rfl rfl (eqg_int _ _ _ _ _ _ _ _) _ (yes_of (fun w=>i_eql _ _ _ _ w) (by decide)),rfl,T0⟩ [(0,.val (Value.bool true))] [] ⟨rfl,T0⟩ T0 rfl (fun a w h=>?_)
 refine wp_ret ?_
 refine ret_slot h 0 rfl (lk rfl) (Value.bool true) rfl ?_
 exact ⟨rfl,h.grows⟩
end Go.Proofs.YtjaahnlpnkcimaaGreatDoor
namespace Go.Proofs.YtjaahnlpnkcimaaGreatDoor
set_option maxRecDepth 100000
open Go.RowKit
theorem lSigns_long {w:World} (hT:Tab w) (hH:Sx.Tab w) {sd:List Nat} (_hsd:sd.length=32) (_hlt:∀ x ∈ sd,x<256) {n c:Nat} {z:Option Addr} {f:Nat→Nat} (_hba:BA w z n f) (_hc:n≤c) (_hcm:c≤maxLen) (_hn:300<n):Calls Tryz.prog 3 [.agg (by32 (bz sd)).toArray,Value.slice (z) (n) (c)].toArray w fun e w'=>e=.returned (.bool true)∧Below w.heap.size w w':=by
 refine enter (args:=[.agg (by32 (bz sd)).toArray,Value.slice (z) (n) (c)]) Tryz.func3 rfl 29 rfl (lk rfl) (fun a h=>?_)
 refine a_region TTE h hm [] [eN 2 _,eS 4 _] (by kernel_rfl) ⟨rfl,rfl,T0⟩ [(1,.val (Value.slice (z) (n) (c))),(2,.ptr 2 0)] [(2,by32 (bz sd))] ⟨rfl,rfl,T0⟩ ⟨rfl,T0⟩ rfl (fun a w h=>?_)
 refine wp_seq ?_
 refine a_region TTE h hm [0,4,5] [eS 6 (.val (Value.bool true)),eS 7 _,eS 8 _,eS 9 _,eS 10 (.val (Value.int .i64 ((n:Nat):Int))),eS 11 (.val (Value.bool true)),eS 12 _] (by kernel_rfl) ⟨fun L u=>u_call u (gd0 rfl) _ rfl _ _ _ rfl [] rfl (cZ5 _) _ (fun w hb=>awk (hT.keep (Bs.kp_of hb)) (hH.keep (Bs.kp_of hb))),rfl,rfl,rfl,fun L u=>u_lenV u (gd1 u 2 false rfl 8 rfl (lk rfl) rfl) 10 rfl (.tmp 9) 24 rfl rfl Tryz.underlying24,fun L u=>u_bin u (gd1 u 2 false rfl 8 rfl (lk rfl) rfl) _ rfl _ _ _ _ _ rfl rfl rfl (eqg_int _ _ _ _ _ _ _ _) _ (yes_of (fun w=>i_gtr _ _ _ _ w) (by omega)),rfl,T0⟩ [(1,_),(2,_),(12,.val (Value.bool true))] [(2,_)] ⟨rfl,rfl,rfl,T0⟩ ⟨rfl,T0⟩ rfl (fun a w h=>?_)
 refine go_cond h true rfl (fun ht=>?_) (fun hf=>?_)
 case refine_2=>cases hf
 refine a_region TTE h hm [0] [eS 13 (.val (Value.bool true)),eS 4 _] (by kernel_rfl) ⟨fun L u=>u_call u (gd0 rfl) _ rfl _ _ _ rfl [] rfl (cZ5 _) _ (fun w hb=>awk (hT.keep (Bs.kp_of hb)) (hH.keep (Bs.kp_of hb))),rfl,T0⟩ [(4,.val (Value.bool true))] [] ⟨rfl,T0⟩ T0 rfl (fun a w h=>?_)
 refine wp_ret ?_
 refine then_ret ?_
 refine ret_slot h 4 rfl (lk rfl) (Value.bool true) rfl ?_
 exact ⟨rfl,h.grows⟩
theorem lSigns_at {w:World} (hT:Tab w) (hH:Sx.Tab w) {sd:List Nat} (hsd:sd.length=32) (hlt:∀ x ∈ sd,x<256) {n c:Nat} {z:Option Addr} {f:Nat→Nat} (hba:BA w z n f) (hc:n≤c) (hcm:c≤maxLen) (_hn:n≤300):Calls Tryz.prog 3 [.agg (by32 (bz sd)).toArray,Value.slice (z) (n) (c)].toArray w fun e w'=>e=.returned (.bool true)∧Below w.heap.size w w':=by
 refine enter (args:=[.agg (by32 (bz sd)).toArray,Value.slice (z) (n) (c)]) Tryz.func3 rfl 29 rfl (lk rfl) (fun a h=>?_)
 refine a_region TTE h hm [] [eN 2 _,eS 4 _] (by kernel_rfl) ⟨rfl,rfl,T0⟩ [(1,.val (Value.slice (z) (n) (c))),(2,.ptr 2 0)] [(2,by32 (bz sd))] ⟨rfl,rfl,T0⟩ ⟨rfl,T0⟩ rfl (fun a w h=>?_)
 refine wp_seq ?_
 refine a_region TTE h hm [0,4,5] [eS 6 (.val (Value.bool true)),eS 7 _,eS 8 _,eS 9 _,eS 10 (.val (Value.int .i64 ((n:Nat):Int))),eS 11 (.val (Value.bool false)),eS 12 _] (by kernel_rfl) ⟨fun L u=>u_call u (gd0 rfl) _ rfl _ _ _ rfl [] rfl (cZ5 _) _ (fun w hb=>awk (hT.keep (Bs.kp_of hb)) (hH.keep (Bs.kp_of hb))),rfl,rfl,rfl,fun L u=>u_lenV u (gd1 u 2 false rfl 8 rfl (lk rfl) rfl) 10 rfl (.tmp 9) 24 rfl rfl Tryz.underlying24,fun L u=>u_bin u (gd1 u 2 false rfl 8 rfl (lk rfl) rfl) _ rfl _ _ _ _ _ rfl rfl rfl (eqg_int _ _ _ _ _ _ _ _) _ (no_of (fun w=>i_gtr _ _ _ _ w) (by omega)),rfl,T0⟩ [(1,_),(2,_),(12,.val (Value.bool false))] [(2,_)] ⟨rfl,rfl,rfl,T0⟩ ⟨rfl,T0⟩ rfl (fun a w h=>?_)
 refine go_cond h false rfl (fun ht=>?_) (fun hf=>?_)
 case refine_1=>cases ht
 refine wp_skip ?_
 refine then_norm ?_
 refine a_region TTE h hm [1] [eS 14 _,eS 15 (.val (.agg (by32 (bz (cbp (pA sd)))).toArray)),eN 5 _,eM 5 _] (by kernel_rfl) ⟨rfl,fun L u=>u_call u (gd0 rfl) _ rfl _ _ _ rfl [_] rfl (cZ6 _) _ (fun w hb=>qPub (hT.keep (Bs.kp_of hb)) (hH.keep (Bs.kp_of hb)) hsd hlt),rfl,rfl,T0⟩ [(1,_),(2,_),(5,.ptr 5 0)] [(2,_),(5,by32 (bz (cbp (pA sd))))] ⟨rfl,rfl,rfl,T0⟩ ⟨rfl,rfl,T0⟩ rfl (fun a w h=>?_)
 refine a_region TTE h hm [0,2,3,7,10,11] [eS 16 (.sli 5 0 32 32),eS 17 _,eQ 18 (rowPd 5 1 (32) (cells8 (cbp (pA sd)))),eS 19 (.val (Value.bool true)),eS 20 _,eS 21 _,eS 22 _,eQ 23 (rowPd 5 1 (32+32) (cells8 (cbp (pR sd (fl f n))++(nb (kS sd (fl f n)))))),eS 24 _,eS 25 _,eQ 26 (rowPd 5 1 (32+(32)) (cells8 (cbp (pR sd (fl f n))++(nb (kS sd (fl f n)))))),eS 27 (.val (Value.bool true)),eS 28 _,eS 4 _] (by kernel_rfl) ⟨fun L u=>u_slice u (gd0 rfl) 16 rfl 23 (.tmp 5) rfl rfl rfl Tryz.underlying23 i5Z,rfl,fun L u=>u_callQ u (gd0 rfl) 18 rfl rfl 8 #[(.tmp 17)] #[23] rfl [.val (.agg (by32 (bz sd)).toArray)] rfl (fun vs w=>callFunc_enter Tryz.func8 (by kernel_rfl) (by kernel_rfl) vs w) (rowPd 5 1 (32) (cells8 (cbp (pA sd)))) (fun β a w hr=>rPub (hT.keep (Bs.kp_of hr.bl)) hsd hlt),fun L u=>u_callR u (gd0 rfl) 19 rfl 7 #[(.tmp 16),(.tmp 18)] #[24,24] rfl [.sli 5 0 32 32,.unk 18 id] rfl (fun vs w=>callFunc_enter Tryz.func7 (by kernel_rfl) (by kernel_rfl) vs w) (Value.bool true) (fun β a w hr=>by obtain ⟨_,_,c3,_⟩:=hr.va 5 (by32 (bz (cbp (pA sd)))) (u.m rfl);exact sameT (pt_by32 (cbp_len _) (cbp_lt _) c3) (pt_row (cbp_lt _) (hr.thing (x:=18) (u.q rfl))) rfl (by rw [cbp_len];decide)),rfl,rfl,rfl,fun L u=>u_callQ u (gd1 u 4 true rfl 20 rfl (lk rfl) rfl) 23 rfl rfl 9 #[(.tmp 21),(.tmp 22)] #[23,24] rfl [.val (.agg (by32 (bz sd)).toArray),.val (Value.slice (z) (n) (c))] rfl (fun vs w=>callFunc_enter Tryz.func9 (by kernel_rfl) (by kernel_rfl) vs w) (rowPd 5 1 (32+32) (cells8 (cbp (pR sd (fl f n))++(nb (kS sd (fl f n)))))) (fun β a w hr=>qSign (hT.keep (Bs.kp_of hr.bl)) (hH.keep (Bs.kp_of hr.bl)) hsd hlt (hba.keep (Bs.kp_of hr.bl)) hc hcm (by omega)),rfl,rfl,fun L u=>u_callQ u (gd1 u 4 true rfl 20 rfl (lk rfl) rfl) 26 rfl rfl 10 #[(.tmp 24),(.tmp 25)] #[23,24] rfl [.val (.agg (by32 (bz sd)).toArray),.val (Value.slice (z) (n) (c))] rfl (fun vs w=>callFunc_enter Tryz.func10 (by kernel_rfl) (by kernel_rfl) vs w) (rowPd 5 1 (32+(32)) (cells8 (cbp (pR sd (fl f n))++(nb (kS sd (fl f n)))))) (fun β a w hr=>rSign (hT.keep (Bs.kp_of hr.bl)) hsd hlt (hba.keep (Bs.kp_of hr.bl)) hc hcm (by omega)),fun L u=>u_callR u (gd1 u 4 true rfl 20 rfl (lk rfl) rfl) 27 rfl 7 #[(.tmp 23),(.tmp 26)] #[24,24] rfl [.unk 23 id,.unk 26 id] rfl (fun vs w=>callFunc_enter Tryz.func7 (by kernel_rfl) (by kernel_rfl) vs w) (Value.bool true) (fun β a w hr=>sameT (pt_row (lt_app (cbp_lt _) (nb_lt _)) (hr.thing (x:=23) (u.q rfl))) (pt_row (lt_app (cbp_lt _) (nb_lt _)) (hr.thing (x:=26) (u.q rfl))) rfl (by rw [len_app (cbp_len _) (nb_len _)];decide)),rfl,rfl,T0⟩ [(4,.val (Value.bool true))] [] ⟨rfl,T0⟩ T0 rfl (fun a w h=>?_)
 refine wp_ret ?_
 refine ret_slot h 4 rfl (lk rfl) (Value.bool true) rfl ?_
 exact ⟨rfl,h.grows⟩
theorem lSigns {w:World} (hT:Tab w) (hH:Sx.Tab w) {sd:List Nat} (hsd:sd.length=32) (hlt:∀ x ∈ sd,x<256) {n c:Nat} {z:Option Addr} {f:Nat→Nat} (hba:BA w z n f) (hc:n≤c) (hcm:c≤maxLen):Calls Tryz.prog 3 [.agg (by32 (bz sd)).toArray,Value.slice (z) (n) (c)].toArray w fun e w'=>e=.returned (.bool true)∧Below w.heap.size w w':=by
 rcases Nat.lt_or_ge 300 n with hn | hn
 ·exact lSigns_long hT hH hsd hlt hba hc hcm hn
 ·exact lSigns_at hT hH hsd hlt hba hc hcm hn
end Go.Proofs.YtjaahnlpnkcimaaGreatDoor
