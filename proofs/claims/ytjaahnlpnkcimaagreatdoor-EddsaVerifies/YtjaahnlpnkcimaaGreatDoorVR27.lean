/- What the document's own Sum answers. What the document's own smaller functions of layer 12 answer. What the document's own Public and Sign answer. What the document's own Verify answers. What layer 12's statements ask first. -/
import Derived.Test.YtjaahnlpnkcimaaGreatDoorVR04
import Derived.Test.YtjaahnlpnkcimaaGreatDoorVR26
import Derived.Test.YtjaahnlpnkcimaaGreatDoorVR23
import Derived.Test.YtjaahnlpnkcimaaGreatDoorVR24
import Derived.Deep.RegionWith
set_option maxRecDepth 100000
set_option maxHeartbeats 8000000
namespace Go.Proofs.YtjaahnlpnkcimaaGreatDoor.Sx
set_option maxRecDepth 100000
open Go.RowKit
attribute [local go_sem ↓] Go.wp_at_zero Go.wp_at_succ
theorem refTake8 {b o cap:Nat} {p:Nat→Nat} (hp:∀ i,p i<256) (s r:St) (hr:r=takeB s p) {w:World} (hD:Rd w b o 128 (fun i=>((p i:Nat):Int))) :
  Calls Tryz.prog 84 #[.agg #[.int .u64 (wn (s.w 0)),.int .u64 (wn (s.w 1)),.int .u64 (wn (s.w 2)),.int .u64 (wn (s.w 3)),.int .u64 (wn (s.w 4)),.int .u64 (wn (s.w 5)),.int .u64 (wn (s.w 6)),.int .u64 (wn (s.w 7))],.slice (some ⟨b,o,none⟩) 128 cap] w fun e w'=>e=.returned (.agg #[.int .u64 (wn (r.w 0)),.int .u64 (wn (r.w 1)),.int .u64 (wn (r.w 2)),.int .u64 (wn (r.w 3)),.int .u64 (wn (r.w 4)),.int .u64 (wn (r.w 5)),.int .u64 (wn (r.w 6)),.int .u64 (wn (r.w 7))])∧Below w.heap.size w w':=by
 have:=refTake_any (cap:=cap) hp s hD
 rw [← hr,aw8,aw8] at this
 exact this
theorem refSum_any {x:Option Addr} {n c:Nat} {f:Nat→Nat} {w:World} (h:BA w x n f) (hn:n≤100000) :
  Calls Tryz.prog 37 #[.slice x n c] w fun e w'=>e=.returned (.agg (ab (hByte (hashS f n)) 64).toArray)∧Below w.heap.size w w':=by
 have H:Hid (BA w x n f):=h
 clear h
 go_enter Tryz.func37,Tryz.ntmps37
 go_wp2_with fail
 with_reducible refine Calls.mono (refStart_any _) ?_
 rintro e W1 ⟨rfl,hb⟩
 have hR:=(RowB.made w 52 64 (fun _=>0) _ zeros64).keep hb
 have hB1:Below w.heap.size w W1:=K.call (K.alloc (Below.refl _ _) _) hb
 clear hb
 go_upto_region 2 with (refine wpList_store_new rfl 62 _ _ rfl _ (aw start.w 8).toArray rfl rfl (in8 _) (by rw [size8];rfl) (all8 _) ?_)
 have hal:=K.alloc (Below.refl _ W1) (.cells (aw start.w 8).toArray 62)
 have hS:=RowW.made W1 62 8 start.w _ rfl
 have hn3:w.heap.size<W1.heap.size:=hR.lt
 have hR:=hR.keep hal
 have hB2:Below w.heap.size w (W1.alloc (.cells (aw start.w 8).toArray 62)):=K.call hB1 hal
 clear hal hB1
 generalize W1.alloc (.cells (aw start.w 8).toArray 62)=X1 at *
 generalize W1.heap.size=n3 at *
 have hn3X:n3<X1.heap.size:=hS.lt
 go_wp2_with fail
 with_reducible refine Calls.mono (refPadded_any (H.out.keep hB2) hn) ?_
 rintro e W2 ⟨v,rfl,hO,hb⟩
 have hS:=hS.keep hb
 have hR:=hR.keep hb
 have hB3:Below w.heap.size w W2:=K.call hB2 hb
 have hpl:=zs_eq n
 obtain ⟨g,cap,rfl,hg,hP⟩:=own_rd (f:=fun i=>((pad f n i:Nat):Int)) hO (fun i hi=>by rw [cells8_at _ i (by rw [padL_len];exact hi),padL_at f n i hi]) (by omega)
 have hcap:=own_cap hO
 have hgn:g≠n3:=by omega
 have hgN:g≠w.heap.size:=by omega
 have HPL:Hid (∀ i,pad f n i<256):=pad_lt H.out.lt n
 have hPd:=hP.rd
 obtain ⟨pl,hpl'⟩:∃ pl,pl=padLen n:=⟨_,rfl⟩
 obtain ⟨M,hM⟩:∃ M,M=padLen n / 128:=⟨_,rfl⟩
 have HM:Hid (pl=128*M∧hashS f n=hs (pad f n) M):=⟨by omega,by rw [hM];rfl⟩
 have hplb:pl≤200000:=by rw [hpl'];unfold padLen;omega
 rw [← hpl'] at hcap hPd ⊢
 clear hO hb hB2 hP hpl hM hpl' H
 have hpli:(pl:Int)≤200000:=by omega
 have HS:=hide hS
 have HR:=hide hR
 have HPd:=hide hPd
 have HB:=hide hB3
 clear hS hR hPd hB3
 go_wp2_with fail
 go_loopg [5] M (fun q s5 wr=>∃ k:Nat,q=M-k∧k≤M∧s5=.int .i64 ((128*k:Nat):Int)∧RowW wr n3 8 (hs (pad f n) k).w∧Rd wr g 0 pl (fun i=>((pad f n i:Nat):Int))∧RowB wr w.heap.size 64 (fun _=>0)∧Below w.heap.size w wr)
 case atStart=>exact ⟨0,rfl,by omega,rfl,HS.out,HPd.out,HR.out,HB.out⟩
 case round =>
  clear HS HPd HR HB
  obtain ⟨k,rfl,hk,rfl,hS,hP,hR,hB⟩:=hrel
  by_cases hlt:k<M
  ·obtain ⟨m,hm⟩:∃ m,m=128*k:=⟨_,rfl⟩
   have HK:Hid (m=128*k∧k<M∧m+128≤pl):=⟨hm,hlt,by have:=HM.out.1;omega⟩
   have hpart:=hP.part m 128 HK.out.2.2
   obtain ⟨r,hr⟩:∃ r,r=hs (pad f n) (k+1):=⟨_,rfl⟩
   obtain ⟨s,hs'⟩:∃ s,s=hs (pad f n) k:=⟨_,rfl⟩
   have HRK:Hid (r=takeB s (fun i=>pad f n (m+i))):=by show _=_;rw [hr,hs',hm];rfl
   have HRE:=hide hr
   rw [← hs'] at hS
   rw [← hm]
   have c0:=hS.c 0 (by omega)
   have c1:=hS.c 1 (by omega)
   have c2:=hS.c 2 (by omega)
   have c3:=hS.c 3 (by omega)
   have c4:=hS.c 4 (by omega)
   have c5:=hS.c 5 (by omega)
   have c6:=hS.c 6 (by omega)
   have c7:=hS.c 7 (by omega)
   have hmi:(m:Int)<pl:=by have:=HK.out;omega
   have hmi2:(m:Int)+128≤pl:=by have:=HK.out;omega
   have hw:IntKind.i64.wrap ((m:Int)+128)=(m:Int)+128:=by rw [IntKind.wrap_i64];omega
   have HPart:=hide hpart
   have HS:=hide hS
   have HP:=hide hP
   have HR:=hide hR
   have HB:=hide hB
   clear hm hr hs' hpart hS hP hR hB hlt hk
   go_upto_region 6 with fail
   rw [Nat.zero_add] at HPart
   have hl1:((m:Int)+128).toNat-m=128:=by omega
   have hl2:m+128-m=128:=by omega
   have hcm:(m:Int)+128≤cap:=by omega
   go_region_with (go_at_call 84;with_reducible refine Calls.mono (refTake8 (fun i=>HPL.out (m+i)) s r HRK.out (HPart.out.keep (K.drew (Below.refl _ _)))) ?_;rintro e w' ⟨rfl,hb⟩;have hS2:=(HS.out.keep (K.drew (Below.refl _ _))).keep hb;have d0:=hS2.c 0 (by omega);have z0:=hS2.z 0 (by omega);have d1:=hS2.c 1 (by omega);have z1:=hS2.z 1 (by omega);have d2:=hS2.c 2 (by omega);have z2:=hS2.z 2 (by omega);have d3:=hS2.c 3 (by omega);have z3:=hS2.z 3 (by omega);have d4:=hS2.c 4 (by omega);have z4:=hS2.z 4 (by omega);have d5:=hS2.c 5 (by omega);have z5:=hS2.z 5 (by omega);have d6:=hS2.c 6 (by omega);have z6:=hS2.z 6 (by omega);have d7:=hS2.c 7 (by omega);have z7:=hS2.z 7 (by omega))
   all_goals
    have hdb:Below wr.heap.size wr wr.drew:=K.drew (Below.refl _ _)
    have hS3:RowW (w'.setCells n3 0 (aw r.w 8)) n3 8 r.w:=hS2.stored r.w
    have hP3:=((HP.out.keep hdb).keep hb).apart hgn 0 (aw r.w 8)
    have hR3:=Row8.apart ((Row8.keep HR.out hdb).keep hb) (g:=n3) (by omega) 0 (aw r.w 8)
    have hB3:Below w.heap.size w (w'.setCells n3 0 (aw r.w 8)):=below_setCells _ _ (K.call (K.call HB.out hdb) hb) (by omega)
    rw [show ((((((((w'.setCell ⟨n3,0,none⟩ (.int .u64 (wn (r.w 0)))).setCell ⟨n3,1,none⟩ (.int .u64 (wn (r.w 1)))).setCell ⟨n3,2,none⟩ (.int .u64 (wn (r.w 2)))).setCell ⟨n3,3,none⟩ (.int .u64 (wn (r.w 3)))).setCell ⟨n3,4,none⟩ (.int .u64 (wn (r.w 4)))).setCell ⟨n3,5,none⟩ (.int .u64 (wn (r.w 5)))).setCell ⟨n3,6,none⟩ (.int .u64 (wn (r.w 6)))).setCell ⟨n3,7,none⟩ (.int .u64 (wn (r.w 7))))=w'.setCells n3 0 (aw r.w 8) from rfl]
    clear d0 z0 c0 d1 z1 c1 d2 z2 c2 d3 z3 c3 d4 z4 c4 d5 z5 c5 d6 z6 c6 d7 z7 c7 hS2 hb hdb HS HP HR HB HPart
    generalize w'.setCells n3 0 (aw r.w 8)=X at *
    go_wp2_with fail
    go_roundg (M-(k+1))
    case measure=>have:=HK.out;omega
    case rel=>exact ⟨k+1,rfl,by have:=HK.out;omega,congrArg (Value.int .i64) (by have:=HK.out;omega),by rw [← HRE.out];exact hS3,hP3,hR3,hB3⟩
  ·obtain rfl:k=M:=by omega
   obtain ⟨s,hs'⟩:∃ s,s=hs (pad f n) k:=⟨_,rfl⟩
   have HSE:Hid (s=hashS f n):=by rw [hs',HM.out.2];rfl
   rw [← hs'] at hS
   obtain ⟨m,hm⟩:∃ m,m=128*k:=⟨_,rfl⟩
   have hmi:¬ (m:Int)<pl:=by have:=HM.out.1;omega
   rw [← hm]
   have HS:=hide hS
   have HR:=hide hR
   have HB:=hide hB
   clear hs' hm hS hP hR hB hlt hk
   go_wp2_with fail
   have hal:=K.alloc (Below.refl _ wr) (.cells #[.int .u8 0,.int .u8 0,.int .u8 0,.int .u8 0,.int .u8 0,.int .u8 0,.int .u8 0,.int .u8 0,.int .u8 0,.int .u8 0,.int .u8 0,.int .u8 0,.int .u8 0,.int .u8 0,.int .u8 0,.int .u8 0,.int .u8 0,.int .u8 0,.int .u8 0,.int .u8 0,.int .u8 0,.int .u8 0,.int .u8 0,.int .u8 0,.int .u8 0,.int .u8 0,.int .u8 0,.int .u8 0,.int .u8 0,.int .u8 0,.int .u8 0,.int .u8 0,.int .u8 0,.int .u8 0,.int .u8 0,.int .u8 0,.int .u8 0,.int .u8 0,.int .u8 0,.int .u8 0,.int .u8 0,.int .u8 0,.int .u8 0,.int .u8 0,.int .u8 0,.int .u8 0,.int .u8 0,.int .u8 0,.int .u8 0,.int .u8 0,.int .u8 0,.int .u8 0,.int .u8 0,.int .u8 0,.int .u8 0,.int .u8 0,.int .u8 0,.int .u8 0,.int .u8 0,.int .u8 0,.int .u8 0,.int .u8 0,.int .u8 0,.int .u8 0] 52)
   have hS:=HS.out.keep hal
   have hR:=Row8.keep HR.out hal
   have hO:=RowB.made wr 52 64 (fun _=>0) _ zeros64
   have hB:=K.call HB.out hal
   have hn6:n3<wr.heap.size:=HS.out.lt
   have hnN:w.heap.size<wr.heap.size:=HR.out.lt
   clear HS HR HB hal
   generalize wr.alloc (.cells #[.int .u8 0,.int .u8 0,.int .u8 0,.int .u8 0,.int .u8 0,.int .u8 0,.int .u8 0,.int .u8 0,.int .u8 0,.int .u8 0,.int .u8 0,.int .u8 0,.int .u8 0,.int .u8 0,.int .u8 0,.int .u8 0,.int .u8 0,.int .u8 0,.int .u8 0,.int .u8 0,.int .u8 0,.int .u8 0,.int .u8 0,.int .u8 0,.int .u8 0,.int .u8 0,.int .u8 0,.int .u8 0,.int .u8 0,.int .u8 0,.int .u8 0,.int .u8 0,.int .u8 0,.int .u8 0,.int .u8 0,.int .u8 0,.int .u8 0,.int .u8 0,.int .u8 0,.int .u8 0,.int .u8 0,.int .u8 0,.int .u8 0,.int .u8 0,.int .u8 0,.int .u8 0,.int .u8 0,.int .u8 0,.int .u8 0,.int .u8 0,.int .u8 0,.int .u8 0,.int .u8 0,.int .u8 0,.int .u8 0,.int .u8 0,.int .u8 0,.int .u8 0,.int .u8 0,.int .u8 0,.int .u8 0,.int .u8 0,.int .u8 0,.int .u8 0] 52)=X at *
   generalize wr.heap.size=n6 at *
   go_loopg [7] 64 (fun q s7 wr=>∃ i:Nat,q=64-i∧i≤64∧s7=.int .i64 i∧RowB wr n6 64 (fun j=>if j<i then hByte s j else 0)∧RowW wr n3 8 s.w∧RowB wr w.heap.size 64 (fun _=>0)∧Below w.heap.size w wr)
   case atStart=>exact ⟨0,rfl,by omega,rfl,hO.congr (fun j hj=>by simp),hS,hR,hB⟩
   case round =>
   clear hO hS hR hB
   obtain ⟨i,rfl,hi,rfl,hO,hS,hR,hB⟩:=hrel
   by_cases hlt:i<64
   ·have co:=hO.c i hlt
    have zo:=hO.z i hlt
    obtain ⟨j,hj⟩:∃ j,j=i / 8:=⟨_,rfl⟩
    have cs:=hS.c j (by omega)
    have hji:(i:Int) / 8=(j:Int):=by omega
    have hj8:(j:Int)<8:=by omega
    have hii:(i:Int)<64:=by omega
    obtain ⟨x,hx⟩:∃ x,x=s.w j:=⟨_,rfl⟩
    have HV:Hid (hByte s i=x.toNat / 256 ^ (7-i % 8) % 256):=by show _=_;unfold hByte;rw [hx,hj]
    rw [← hx] at cs
    have HO:=hide hO
    have HS:=hide hS
    have HR:=hide hR
    have HB:=hide hB
    have HI:=hide hlt
    have hol:=hO.lt
    clear hO hS hR hB hi hlt hx hj
    rcases (show i % 8=0∨i % 8=1∨i % 8=2∨i % 8=3∨i % 8=4∨i % 8=5∨i % 8=6∨i % 8=7 by omega) with hr | hr | hr | hr | hr | hr | hr | hr
    ·have hv:wn x / 72057594037927936 % 256=((hByte s i:Nat):Int):=by rw [HV.out,hr];unfold wn;omega
     have hv2:IntKind.u8.wrap (wn x / 72057594037927936)=((hByte s i:Nat):Int):=by rw [IntKind.wrap_u8',hv]
     have hlo:=wn_nn x
     have hhi:=wn_lt x
     have hri:(i:Int) % 8=0:=by omega
     clear hr
     go_wp2_with fail
     go_roundg (64-(i+1))
     case measure=>have:=HI.out;omega
     case rel=>exact ⟨i+1,rfl,by have:=HI.out;omega,by go_num,(Row8.store HO.out i HI.out _).congr (fun j hj=>by
      by_cases e:j=i
      ·subst e;simp
      ·simp only [if_neg e];(repeat' split) <;> first | rfl | omega),HS.out.other (by omega) i _,row8_other HR.out (by omega) i _,K.set HB.out (by show w.heap.size≤n6;omega) _⟩
    ·have hv:wn x / 281474976710656 % 256=((hByte s i:Nat):Int):=by rw [HV.out,hr];unfold wn;omega
     have hv2:IntKind.u8.wrap (wn x / 281474976710656)=((hByte s i:Nat):Int):=by rw [IntKind.wrap_u8',hv]
     have hlo:=wn_nn x
     have hhi:=wn_lt x
     have hri:(i:Int) % 8=1:=by omega
     clear hr
     go_wp2_with fail
     go_roundg (64-(i+1))
     case measure=>have:=HI.out;omega
     case rel=>exact ⟨i+1,rfl,by have:=HI.out;omega,by go_num,(Row8.store HO.out i HI.out _).congr (fun j hj=>by
      by_cases e:j=i
      ·subst e;simp
      ·simp only [if_neg e];(repeat' split) <;> first | rfl | omega),HS.out.other (by omega) i _,row8_other HR.out (by omega) i _,K.set HB.out (by show w.heap.size≤n6;omega) _⟩
    ·have hv:wn x / 1099511627776 % 256=((hByte s i:Nat):Int):=by rw [HV.out,hr];unfold wn;omega
     have hv2:IntKind.u8.wrap (wn x / 1099511627776)=((hByte s i:Nat):Int):=by rw [IntKind.wrap_u8',hv]
     have hlo:=wn_nn x
     have hhi:=wn_lt x
     have hri:(i:Int) % 8=2:=by omega
     clear hr
     go_wp2_with fail
     go_roundg (64-(i+1))
     case measure=>have:=HI.out;omega
     case rel=>exact ⟨i+1,rfl,by have:=HI.out;omega,by go_num,(Row8.store HO.out i HI.out _).congr (fun j hj=>by
      by_cases e:j=i
      ·subst e;simp
      ·simp only [if_neg e];(repeat' split) <;> first | rfl | omega),HS.out.other (by omega) i _,row8_other HR.out (by omega) i _,K.set HB.out (by show w.heap.size≤n6;omega) _⟩
    ·have hv:wn x / 4294967296 % 256=((hByte s i:Nat):Int):=by rw [HV.out,hr];unfold wn;omega
     have hv2:IntKind.u8.wrap (wn x / 4294967296)=((hByte s i:Nat):Int):=by rw [IntKind.wrap_u8',hv]
     have hlo:=wn_nn x
     have hhi:=wn_lt x
     have hri:(i:Int) % 8=3:=by omega
     clear hr
     go_wp2_with fail
     go_roundg (64-(i+1))
     case measure=>have:=HI.out;omega
     case rel=>exact ⟨i+1,rfl,by have:=HI.out;omega,by go_num,(Row8.store HO.out i HI.out _).congr (fun j hj=>by
      by_cases e:j=i
      ·subst e;simp
      ·simp only [if_neg e];(repeat' split) <;> first | rfl | omega),HS.out.other (by omega) i _,row8_other HR.out (by omega) i _,K.set HB.out (by show w.heap.size≤n6;omega) _⟩
    ·have hv:wn x / 16777216 % 256=((hByte s i:Nat):Int):=by rw [HV.out,hr];unfold wn;omega
     have hv2:IntKind.u8.wrap (wn x / 16777216)=((hByte s i:Nat):Int):=by rw [IntKind.wrap_u8',hv]
     have hlo:=wn_nn x
     have hhi:=wn_lt x
     have hri:(i:Int) % 8=4:=by omega
     clear hr
     go_wp2_with fail
     go_roundg (64-(i+1))
     case measure=>have:=HI.out;omega
     case rel=>exact ⟨i+1,rfl,by have:=HI.out;omega,by go_num,(Row8.store HO.out i HI.out _).congr (fun j hj=>by
      by_cases e:j=i
      ·subst e;simp
      ·simp only [if_neg e];(repeat' split) <;> first | rfl | omega),HS.out.other (by omega) i _,row8_other HR.out (by omega) i _,K.set HB.out (by show w.heap.size≤n6;omega) _⟩
    ·have hv:wn x / 65536 % 256=((hByte s i:Nat):Int):=by rw [HV.out,hr];unfold wn;omega
     have hv2:IntKind.u8.wrap (wn x / 65536)=((hByte s i:Nat):Int):=by rw [IntKind.wrap_u8',hv]
     have hlo:=wn_nn x
     have hhi:=wn_lt x
     have hri:(i:Int) % 8=5:=by omega
     clear hr
     go_wp2_with fail
     go_roundg (64-(i+1))
     case measure=>have:=HI.out;omega
     case rel=>exact ⟨i+1,rfl,by have:=HI.out;omega,by go_num,(Row8.store HO.out i HI.out _).congr (fun j hj=>by
      by_cases e:j=i
      ·subst e;simp
      ·simp only [if_neg e];(repeat' split) <;> first | rfl | omega),HS.out.other (by omega) i _,row8_other HR.out (by omega) i _,K.set HB.out (by show w.heap.size≤n6;omega) _⟩
    ·have hv:wn x / 256 % 256=((hByte s i:Nat):Int):=by rw [HV.out,hr];unfold wn;omega
     have hv2:IntKind.u8.wrap (wn x / 256)=((hByte s i:Nat):Int):=by rw [IntKind.wrap_u8',hv]
     have hlo:=wn_nn x
     have hhi:=wn_lt x
     have hri:(i:Int) % 8=6:=by omega
     clear hr
     go_wp2_with fail
     go_roundg (64-(i+1))
     case measure=>have:=HI.out;omega
     case rel=>exact ⟨i+1,rfl,by have:=HI.out;omega,by go_num,(Row8.store HO.out i HI.out _).congr (fun j hj=>by
      by_cases e:j=i
      ·subst e;simp
      ·simp only [if_neg e];(repeat' split) <;> first | rfl | omega),HS.out.other (by omega) i _,row8_other HR.out (by omega) i _,K.set HB.out (by show w.heap.size≤n6;omega) _⟩
    ·have hv:wn x % 256=((hByte s i:Nat):Int):=by rw [HV.out,hr];unfold wn;omega
     have hv2:IntKind.u8.wrap (wn x)=((hByte s i:Nat):Int):=by rw [IntKind.wrap_u8',hv]
     have hlo:=wn_nn x
     have hhi:=wn_lt x
     have hri:(i:Int) % 8=7:=by omega
     clear hr
     go_wp2_with fail
     go_roundg (64-(i+1))
     case measure=>have:=HI.out;omega
     case rel=>exact ⟨i+1,rfl,by have:=HI.out;omega,by go_num,(Row8.store HO.out i HI.out _).congr (fun j hj=>by
      by_cases e:j=i
      ·subst e;simp
      ·simp only [if_neg e];(repeat' split) <;> first | rfl | omega),HS.out.other (by omega) i _,row8_other HR.out (by omega) i _,K.set HB.out (by show w.heap.size≤n6;omega) _⟩
   ·obtain rfl:i=64:=by omega
    have hO':RowB wr n6 64 (hByte s):=hO.congr (fun j hj=>by simp only [if_pos hj])
    have HRr:=hide (RowB.range hO')
    have HTH:=hide (RowB.there hR (hByte s))
    have HS:=hide (RowB.stored hR (hByte s))
    have HB:Hid (Below w.heap.size w (wr.setCells w.heap.size 0 (ab (hByte s) 64).toArray.toList)):=below_setCells _ _ hB (Nat.le_refl _)
    clear hO hO' hS hR hB hi hlt
    go_upto_region 12 with fail
    go_wp2_with (refine wpList_load_mid rfl 52 _ rfl _ 0 rfl (ab (hByte s) 64) _ HRr.out Tryz.underlying52 rfl (ilH _) ?_;simp only [Act.put,List.setIfInBounds_toArray,List.set_cons_zero,List.set_cons_succ];refine wpList_store_mid rfl 52 _ _ rfl w.heap.size 0 (ab (hByte s) 64).toArray rfl rfl HTH.out (inH _) (all_oneCell_toArray (ab_one _ _)) ?_;generalize wr.setCells w.heap.size 0 (ab (hByte s) 64).toArray.toList=X at HS HB ⊢)
    refine bodyPost_ret (results_cell_mid Tryz.results37 _ _ w.heap.size (ab (hByte s) 64) _ rfl (RowB.range HS.out) Tryz.underlying52 rfl (ilH _)) rfl ⟨?_,HB.out⟩
    rw [HSE.out]
end Go.Proofs.YtjaahnlpnkcimaaGreatDoor.Sx
namespace Go.Proofs.YtjaahnlpnkcimaaGreatDoor
set_option maxRecDepth 100000
open Go.RowKit
theorem lt_nil:∀ x ∈ ([]:List Nat),x<256:=fun x hx=>by cases hx
theorem smulN {w:World} (hT:Tab w) {k:Nat} (hk:k<2 ^ 256) {a:Ep m2} (ha:a.on ed):Calls Tryz.prog 17 [.agg (nc (k:Int)).toArray,.agg (pcE a).toArray].toArray w fun e w'=>e=.returned (.agg (pcE (mt eadd (Ep.o m2) a k)).toArray)∧Below w.heap.size w w':=by
 have q:=s_Mul hT hk (gin_num a.x) (gin_num a.y) false
 rw [rpE_pc ha] at q
 exact q
theorem saddN {w:World} (hT:Tab w) {a b:Ep m2} (ha:a.on ed) (hb:b.on ed):Calls Tryz.prog 34 [.agg (pcE a).toArray,.agg (pcE b).toArray].toArray w fun e w'=>e=.returned (.agg (pcE (eadd a b)).toArray)∧Below w.heap.size w w':=by
 have q:=s_Add hT (gin_num a.x) (gin_num a.y) (gin_num b.x) (gin_num b.y) false false
 rw [rpE_pc ha,rpE_pc hb] at q
 exact q
theorem sbelN {w:World} {V:Nat} (hV:V<2 ^ 256):Calls Tryz.prog 33 [.int .i64 3,.agg (nc (V:Int)).toArray].toArray w fun e w'=>e=.returned (.bool (decide ((V:Int)<md 3)))∧Below w.heap.size w w':=refBelow_any (k:=3) (num_nat hV) w
theorem slitBA {w:World} {z:Option Addr} {c:Nat} {f:Nat→Nat} (h:BA w z 32 f) (hc:32≤c) {u:Nat} (hu:LN f u):Calls Tryz.prog 32 [.slice z 32 c].toArray w fun e w'=>e=.returned (.tuple [.agg (nc (u:Int)).toArray,.bool true].toArray)∧Below w.heap.size w w':=by
 rcases h.at_ with h0 | ⟨b,o,rfl,hr⟩
 ·omega
 ·have q:=refLittle_any (cap:=c) hc (fun i=>⟨by omega,by have:=h.lt i;omega⟩) hr
  have e:∀ j,j<4→E (fun i=>((f i:Nat):Int)) (8*j) 8=L j (u:Int):=fun j hj=>(hu.word hj).symm
  rw [show E (fun i=>((f i:Nat):Int)) 0 8=L 0 _ from e 0 (by decide),show E (fun i=>((f i:Nat):Int)) 8 8=L 1 _ from e 1 (by decide),show E (fun i=>((f i:Nat):Int)) 16 8=L 2 _ from e 2 (by decide),show E (fun i=>((f i:Nat):Int)) 24 8=L 3 _ from e 3 (by decide)] at q
  exact q
theorem sdecP {w:World} (hT:Tab w) {z:Option Addr} {n c:Nat} {f:Nat→Nat} (h:BA w z n f):Calls Tryz.prog 31 [.slice z n c].toArray w fun e w'=>e=.returned (.tuple [.agg (pcE (aPt (fl f n))).toArray,.bool (aOk (fl f n))].toArray)∧Below w.heap.size w w':=by
 unfold aPt aOk
 rw [fl_len]
 by_cases e:n=32
 ·subst e
  rw [if_pos rfl,decide_eq_true rfl,Bool.true_and]
  exact s_Dec hT h (ln_fl h.lt)
 ·rw [if_neg e,decide_eq_false e,Bool.false_and]
  exact s_dec_not e
theorem rsumBA {w:World} {z:Option Addr} {c:Nat} {l:List Nat} {n:Nat} (hl:l.length=n) (h:BA w z n (fun i=>l.getD i 0)) (hn:n≤100000):Calls Tryz.prog 37 [.slice z n c].toArray w fun e w'=>e=.returned (.agg (by64 (bz (hsh l))).toArray)∧Below w.heap.size w w':=by
 subst hl
 have q:=Sx.refSum_any (c:=c) (ba_sx h) hn
 rw [ab_hsh] at q
 exact q
theorem rsumT {w:World} {v:Value} {F:Nat→Bool} {n:Nat} {l:List Nat} (h:(rowPd 5 1 (n) (cells8 (l))).p v F w) (hlt:∀ x ∈ l,x<256) (hn:n≤100000):Calls Tryz.prog 37 [v].toArray w fun e w'=>e=.returned (.agg (by64 (bz (hsh l))).toArray)∧Below w.heap.size w w':=by
 obtain ⟨z,c,rfl,_,h3,h4⟩:=row_ba h hlt
 exact rsumBA h3 h4 hn
theorem rwideN {w:World} {b c:Nat} {l:List Nat} (hc:64≤c) (hr:w.rangeAt b 0 (by64 (bz (hsh l)))):Calls Tryz.prog 52 [.slice (some ⟨b,0,none⟩) 64 c].toArray w fun e w'=>e=.returned (.tuple [.agg (w8 ((nle (hsh l):Nat):Int)).toArray,.bool true].toArray)∧Below w.heap.size w w':=by
 have q:=refWide_any (cap:=c) hc (bz_bd (hsh_lt l)) (rd_by64 hr)
 have e:∀ j,E (bz (hsh l)) (8*j) 8=L j ((nle (hsh l):Nat):Int):=fun j=>by
  rw [← E_word]
  exact E_congr _ _ (fun i _=>(nle_Y (hsh_lt l) _).symm)
 rw [show E (bz (hsh l)) 0 8=L 0 _ from e 0,show E (bz (hsh l)) 8 8=L 1 _ from e 1,show E (bz (hsh l)) 16 8=L 2 _ from e 2,show E (bz (hsh l)) 24 8=L 3 _ from e 3,show E (bz (hsh l)) 32 8=L 4 _ from e 4,show E (bz (hsh l)) 40 8=L 5 _ from e 5,show E (bz (hsh l)) 48 8=L 6 _ from e 6,show E (bz (hsh l)) 56 8=L 7 _ from e 7] at q
 exact q
theorem cZ23 (vs:List Value):∀ w,(callFunc 23 vs.toArray).run Tryz.prog w=.ok (.enter 23 vs.toArray) w:=callFunc_enter Tryz.func23 (by kernel_rfl) (by kernel_rfl) _
theorem cZ12 (vs:List Value):∀ w,(callFunc 12 vs.toArray).run Tryz.prog w=.ok (.enter 12 vs.toArray) w:=callFunc_enter Tryz.func12 (by kernel_rfl) (by kernel_rfl) _
theorem cZ17 (vs:List Value):∀ w,(callFunc 17 vs.toArray).run Tryz.prog w=.ok (.enter 17 vs.toArray) w:=callFunc_enter Tryz.func17 (by kernel_rfl) (by kernel_rfl) _
theorem cZ18 (vs:List Value):∀ w,(callFunc 18 vs.toArray).run Tryz.prog w=.ok (.enter 18 vs.toArray) w:=callFunc_enter Tryz.func18 (by kernel_rfl) (by kernel_rfl) _
theorem cZ31 (vs:List Value):∀ w,(callFunc 31 vs.toArray).run Tryz.prog w=.ok (.enter 31 vs.toArray) w:=callFunc_enter Tryz.func31 (by kernel_rfl) (by kernel_rfl) _
theorem cZ34 (vs:List Value):∀ w,(callFunc 34 vs.toArray).run Tryz.prog w=.ok (.enter 34 vs.toArray) w:=callFunc_enter Tryz.func34 (by kernel_rfl) (by kernel_rfl) _
theorem cZ32 (vs:List Value):∀ w,(callFunc 32 vs.toArray).run Tryz.prog w=.ok (.enter 32 vs.toArray) w:=callFunc_enter Tryz.func32 (by kernel_rfl) (by kernel_rfl) _
theorem cZ33 (vs:List Value):∀ w,(callFunc 33 vs.toArray).run Tryz.prog w=.ok (.enter 33 vs.toArray) w:=callFunc_enter Tryz.func33 (by kernel_rfl) (by kernel_rfl) _
theorem rScl_at {w:World} (hT:Tab w) {n0 n1 n2 c0 c1 c2:Nat} {z0 z1 z2:Option Addr} {f0 f1 f2:Nat→Nat} {l:List Nat} (hb0:BA w z0 n0 f0) (hb1:BA w z1 n1 f1) (hb2:BA w z2 n2 f2) (_hl:n0+n1+n2≤100000) (hfl:[]++(fl f0 (n0))++(fl f1 (n1))++(fl f2 (n2))=l):Calls Tryz.prog 23 [Value.slice (z0) (n0) (c0),Value.slice (z1) (n1) (c1),Value.slice (z2) (n2) (c2)].toArray w fun e w'=>e=.returned (.agg (nc ((scl l:Nat):Int)).toArray)∧Below w.heap.size w w':=by
 refine enter (args:=[Value.slice (z0) (n0) (c0),Value.slice (z1) (n1) (c1),Value.slice (z2) (n2) (c2)]) Tryz.func23 rfl 29 rfl (lk rfl) (fun a h=>?_)
 refine a_region TTE h hm [] [eN 6 _] (by kernel_rfl) ⟨rfl,T0⟩ [(0,.val (Value.slice (z0) (n0) (c0))),(1,.val (Value.slice (z1) (n1) (c1))),(2,.val (Value.slice (z2) (n2) (c2))),(6,.ptr 6 0)] [(6,nz)] ⟨rfl,rfl,rfl,rfl,T0⟩ ⟨rfl,T0⟩ rfl (fun a w h=>?_)
 refine a_region TTE h hm [] [eS 7 _] (by kernel_rfl) ⟨rfl,T0⟩ [(0,_),(1,_),(2,_),(6,_),(7,.val ((Value.slice none 0 0)))] [(6,_)] ⟨rfl,rfl,rfl,rfl,rfl,T0⟩ ⟨rfl,T0⟩ rfl (fun a w h=>?_)
 refine wp_seq ?_
 refine sq_begin [0,1,2,3] rfl ?_
 refine sq_step h (i:=0) rfl (u_move (xs:=[]) (up_seq (i:=0) (by kernel_rfl) rfl) (gd0 rfl) 11 rfl (.tmp 7) (Or.inl rfl) rfl) (fun a w h=>?_)
 refine sq_step h (i:=1) rfl (u_move (xs:=[]) (up_seq (i:=1) (by kernel_rfl) rfl) (gd0 rfl) 12 rfl (.tmp 0) (Or.inl rfl) rfl) (fun a w h=>?_)
 replace h:=(h.nil 5 1 13 11 rfl rfl).keepQ [(0,.val (Value.slice (z0) (n0) (c0))),(1,.val (Value.slice (z1) (n1) (c1))),(2,.val (Value.slice (z2) (n2) (c2))),(6,.ptr 6 0),(7,.val ((Value.slice none 0 0))),(11,.unk 13 id),(12,.val (Value.slice (z0) (n0) (c0)))] [(6,nz)] [(13,rowPd 5 1 0 [])] ⟨rfl,rfl,rfl,rfl,rfl,rfl,rfl,trivial⟩ ⟨rfl,trivial⟩ ⟨rfl,trivial⟩ rfl
 refine sq_appQ (k:=0) (l:=[]) h (i:=2) rfl (gq0 rfl) 13 rfl (.tmp 11) (.tmp 12) rfl 13 rfl rfl (Or.inl rfl) (m:=(n0)) (f:=f0) (fun β hr=>⟨z0,c0,hr.eval (v:=.val (Value.slice z0 n0 c0)) rfl,hb0.keep (Bs.kp_of hr.bl)⟩) (by omega) [(1,.val (Value.slice (z1) (n1) (c1))),(2,.val (Value.slice (z2) (n2) (c2))),(6,.ptr 6 0)] ⟨rfl,rfl,rfl,T0⟩ rfl (fun a w h=>?_)
 replace h:=h.keepQ [(1,.val (Value.slice (z1) (n1) (c1))),(2,.val (Value.slice (z2) (n2) (c2))),(6,.ptr 6 0),(13,.unk 13 id)] [(6,nz)] [(13,rowPd 5 1 (0+(n0)) (cells8 ([]++(fl f0 (n0)))))] ⟨rfl,rfl,rfl,rfl,trivial⟩ ⟨rfl,trivial⟩ ⟨rfl,trivial⟩ rfl
 refine sq_step h (i:=3) rfl (u_copyQ (xs:=[]) (up_seq (i:=3) (by kernel_rfl) rfl) (gd0 rfl) 7 rfl (.tmp 13) (Or.inr rfl) rfl rfl) (fun a w h=>?_)
 replace h:=h.keepQ [(1,.val (Value.slice (z1) (n1) (c1))),(2,.val (Value.slice (z2) (n2) (c2))),(6,.ptr 6 0),(7,.unk 13 id)] [(6,nz)] [(13,rowPd 5 1 (0+(n0)) (cells8 ([]++(fl f0 (n0)))))] ⟨rfl,rfl,rfl,rfl,trivial⟩ ⟨rfl,trivial⟩ ⟨rfl,trivial⟩ rfl
 refine sq_end ?_
 refine then_norm ?_
 refine wp_seq ?_
 refine sq_begin [0,1,2,3] rfl ?_
 refine sq_step h (i:=0) rfl (u_copyQ (xs:=[]) (up_seq (i:=0) (by kernel_rfl) rfl) (gd0 rfl) 14 rfl (.tmp 7) (Or.inl rfl) rfl rfl) (fun a w h=>?_)
 refine sq_step h (i:=1) rfl (u_move (xs:=[]) (up_seq (i:=1) (by kernel_rfl) rfl) (gd0 rfl) 15 rfl (.tmp 1) (Or.inl rfl) rfl) (fun a w h=>?_)
 refine sq_appQ (k:=0+(n0)) (l:=[]++(fl f0 (n0))) h (i:=2) rfl (gq0 rfl) 16 rfl (.tmp 14) (.tmp 15) rfl 13 rfl rfl (Or.inr rfl) (m:=(n1)) (f:=f1) (fun β hr=>⟨z1,c1,hr.eval (v:=.val (Value.slice z1 n1 c1)) rfl,hb1.keep (Bs.kp_of hr.bl)⟩) (by omega) [(2,.val (Value.slice (z2) (n2) (c2))),(6,.ptr 6 0)] ⟨rfl,rfl,T0⟩ rfl (fun a w h=>?_)
 replace h:=h.keepQ [(2,.val (Value.slice (z2) (n2) (c2))),(6,.ptr 6 0),(16,.unk 16 id)] [(6,nz)] [(16,rowPd 5 1 (0+(n0)+(n1)) (cells8 ([]++(fl f0 (n0))++(fl f1 (n1)))))] ⟨rfl,rfl,rfl,trivial⟩ ⟨rfl,trivial⟩ ⟨rfl,trivial⟩ rfl
 refine sq_step h (i:=3) rfl (u_copyQ (xs:=[]) (up_seq (i:=3) (by kernel_rfl) rfl) (gd0 rfl) 7 rfl (.tmp 16) (Or.inr rfl) rfl rfl) (fun a w h=>?_)
 replace h:=h.keepQ [(2,.val (Value.slice (z2) (n2) (c2))),(6,.ptr 6 0),(7,.unk 16 id)] [(6,nz)] [(16,rowPd 5 1 (0+(n0)+(n1)) (cells8 ([]++(fl f0 (n0))++(fl f1 (n1)))))] ⟨rfl,rfl,rfl,trivial⟩ ⟨rfl,trivial⟩ ⟨rfl,trivial⟩ rfl
 refine sq_end ?_
 refine then_norm ?_
 refine wp_seq ?_
 refine sq_begin [0,1,2,3] rfl ?_
 refine sq_step h (i:=0) rfl (u_copyQ (xs:=[]) (up_seq (i:=0) (by kernel_rfl) rfl) (gd0 rfl) 17 rfl (.tmp 7) (Or.inl rfl) rfl rfl) (fun a w h=>?_)
 refine sq_step h (i:=1) rfl (u_move (xs:=[]) (up_seq (i:=1) (by kernel_rfl) rfl) (gd0 rfl) 18 rfl (.tmp 2) (Or.inl rfl) rfl) (fun a w h=>?_)
 refine sq_appQ (k:=0+(n0)+(n1)) (l:=[]++(fl f0 (n0))++(fl f1 (n1))) h (i:=2) rfl (gq0 rfl) 19 rfl (.tmp 17) (.tmp 18) rfl 16 rfl rfl (Or.inr rfl) (m:=(n2)) (f:=f2) (fun β hr=>⟨z2,c2,hr.eval (v:=.val (Value.slice z2 n2 c2)) rfl,hb2.keep (Bs.kp_of hr.bl)⟩) (by omega) [(6,.ptr 6 0)] ⟨rfl,T0⟩ rfl (fun a w h=>?_)
 replace h:=h.keepQ [(6,.ptr 6 0),(19,.unk 19 id)] [(6,nz)] [(19,rowPd 5 1 (0+(n0)+(n1)+(n2)) (cells8 ([]++(fl f0 (n0))++(fl f1 (n1))++(fl f2 (n2)))))] ⟨rfl,rfl,trivial⟩ ⟨rfl,trivial⟩ ⟨rfl,trivial⟩ rfl
 refine sq_step h (i:=3) rfl (u_copyQ (xs:=[]) (up_seq (i:=3) (by kernel_rfl) rfl) (gd0 rfl) 7 rfl (.tmp 19) (Or.inr rfl) rfl rfl) (fun a w h=>?_)
 replace h:=h.keepQ [(6,.ptr 6 0),(7,.unk 19 id)] [(6,nz)] [(19,rowPd 5 1 (0+(n0)+(n1)+(n2)) (cells8 ([]++(fl f0 (n0))++(fl f1 (n1))++(fl f2 (n2)))))] ⟨rfl,rfl,trivial⟩ ⟨rfl,trivial⟩ ⟨rfl,trivial⟩ rfl
 refine sq_end ?_
 refine then_norm ?_
 refine a_region TTE h hm [0,1] [eS 20 (.unk 19 id),eS 21 (.val (.agg (by64 (bz (hsh l))).toArray)),eN 8 _,eM 8 _] (by kernel_rfl) ⟨fun L u=>u_copyQ u (gd0 rfl) 20 rfl (.tmp 7) (Or.inl rfl) rfl rfl,fun L u=>u_callR u (gd0 rfl) 21 rfl 37 #[(.tmp 20)] #[24] rfl [.unk 19 id] rfl (fun vs w=>callFunc_enter Tryz.func37 (by kernel_rfl) (by kernel_rfl) vs w) (.agg (by64 (bz (hsh l))).toArray) (fun β a w hr=>by rw [← hfl];exact rsumT (hr.thing (x:=19) (u.q rfl)) (lt_app (lt_app (lt_app lt_nil (fl_lt hb0.lt _)) (fl_lt hb1.lt _)) (fl_lt hb2.lt _)) (by omega)),rfl,rfl,T0⟩ [(6,_),(8,.ptr 8 0)] [(6,_),(8,by64 (bz (hsh l)))] ⟨rfl,rfl,T0⟩ ⟨rfl,rfl,T0⟩ rfl (fun a w h=>?_)
 refine a_region TTE h hm [0,1] [eS 23 (.sli 8 0 64 64),eS 24 (.val (.tuple [Value.agg (w8 (((nle (hsh l):Nat):Int))).toArray,Value.bool true].toArray)),eS 22 _,eS 25 _,eS 26 _,eN 9 _,eM 9 _,eS 10 _] (by kernel_rfl) ⟨fun L u=>u_slice u (gd0 rfl) 23 rfl 52 (.tmp 8) rfl rfl rfl Tryz.underlying52 i5Z,fun L u=>u_callR u (gd0 rfl) 24 rfl 52 #[(.tmp 23)] #[24] rfl [.sli 8 0 64 64] rfl (fun vs w=>callFunc_enter Tryz.func52 (by kernel_rfl) (by kernel_rfl) vs w) (.tuple [.agg (w8 (((nle (hsh l):Nat):Int))).toArray,Value.bool true].toArray) (fun β a w hr=>by obtain ⟨_,_,c3,_⟩:=hr.va 8 (by64 (bz (hsh l))) (u.m rfl);exact rwideN (by decide) c3),rfl,rfl,rfl,rfl,rfl,rfl,T0⟩ [(6,_),(9,.ptr 9 0)] [(6,_),(9,w8 (((nle (hsh l):Nat):Int)))] ⟨rfl,rfl,T0⟩ ⟨rfl,rfl,T0⟩ rfl (fun a w h=>?_)
 refine a_region TTE h hm [1] [eS 27 _,eS 28 (.val (.agg (nc (((scl l:Nat):Int))).toArray)),eM 6 _] (by kernel_rfl) ⟨rfl,fun L u=>u_call u (gd0 rfl) _ rfl _ _ _ rfl [_,_] rfl (cZ44 _) _ (fun w hb=>redN (hT.keep (Bs.kp_of hb)) l),rfl,T0⟩ [(6,_)] [(6,nc (((scl l:Nat):Int)))] ⟨rfl,T0⟩ ⟨rfl,T0⟩ rfl (fun a w h=>?_)
 refine wp_ret ?_
 refine ret_row h 6 34 rfl (lk rfl) 6 rfl (nc (((scl l:Nat):Int))) rfl _ Tryz.underlying34 rfl i34Z ?_
 exact ⟨rfl,h.grows⟩
theorem rScl {w:World} (hT:Tab w) {v0 v1 v2:Value} {l0 l1 l2:List Nat} (h0:Pt w v0 l0) (h1:Pt w v1 l1) (h2:Pt w v2 l2) (hl:(l0++(l1++l2)).length≤100000):Calls Tryz.prog 23 [v0,v1,v2].toArray w fun e w'=>e=.returned (.agg (nc ((scl (l0++(l1++l2)):Nat):Int)).toArray)∧Below w.heap.size w w':=by
 obtain ⟨z0,c0,rfl,_,_,b0⟩:=h0
 obtain ⟨z1,c1,rfl,_,_,b1⟩:=h1
 obtain ⟨z2,c2,rfl,_,_,b2⟩:=h2
 rw [List.length_append,List.length_append] at hl
 exact rScl_at hT b0 b1 b2 (by omega) (by rw [fl_getD rfl,fl_getD rfl,fl_getD rfl,List.nil_append,List.append_assoc])
end Go.Proofs.YtjaahnlpnkcimaaGreatDoor
namespace Go.Proofs.YtjaahnlpnkcimaaGreatDoor
set_option maxRecDepth 100000
open Go.RowKit
end Go.Proofs.YtjaahnlpnkcimaaGreatDoor
namespace Go.Proofs.YtjaahnlpnkcimaaGreatDoor
set_option maxRecDepth 100000
open Go.RowKit
theorem rV_len {w:World} {np cp nm cm ns cs:Nat} {zp zm zs:Option Addr} (_hns:ns≠64):Calls Tryz.prog 12 [Value.slice (zp) (np) (cp),Value.slice (zm) (nm) (cm),Value.slice (zs) (ns) (cs)].toArray w fun e w'=>e=.returned (.bool false)∧Below w.heap.size w w':=by
 refine enter (args:=[Value.slice (zp) (np) (cp),Value.slice (zm) (nm) (cm),Value.slice (zs) (ns) (cs)]) Tryz.func12 rfl 61 rfl (lk rfl) (fun a h=>?_)
 refine a_region TTE h hm [] [eS 6 _] (by kernel_rfl) ⟨rfl,T0⟩ [(0,.val (Value.slice (zp) (np) (cp))),(1,.val (Value.slice (zm) (nm) (cm))),(2,.val (Value.slice (zs) (ns) (cs)))] [] ⟨rfl,rfl,rfl,T0⟩ T0 rfl (fun a w h=>?_)
 refine wp_seq ?_
 refine a_region TTE h hm [1,2] [eS 15 _,eS 16 (.val (Value.int .i64 ((ns:Nat):Int))),eS 17 (.val (Value.bool true))] (by kernel_rfl) ⟨rfl,fun L u=>u_lenV u (gd0 rfl) 16 rfl (.tmp 15) 24 rfl rfl Tryz.underlying24,fun L u=>u_bin u (gd0 rfl) _ rfl _ _ _ _ _ rfl rfl rfl (eqg_int _ _ _ _ _ _ _ _) _ (yes_of (fun w=>i_neq _ _ _ _ w) (by omega)),T0⟩ [(0,_),(1,_),(2,_),(17,.val (Value.bool true))] [] ⟨rfl,rfl,rfl,rfl,T0⟩ T0 rfl (fun a w h=>?_)
 refine go_cond h true rfl (fun ht=>?_) (fun hf=>?_)
 case refine_2=>cases hf
 refine a_region TTE h hm [] [eS 6 _] (by kernel_rfl) ⟨rfl,T0⟩ [(6,.val (Value.bool false))] [] ⟨rfl,T0⟩ T0 rfl (fun a w h=>?_)
 refine wp_ret ?_
 refine then_ret ?_
 refine ret_slot h 6 rfl (lk rfl) (Value.bool false) rfl ?_
 exact ⟨rfl,h.grows⟩
theorem rV_a {w:World} (hT:Tab w) {np cp nm cm cs:Nat} {zp zm zs:Option Addr} {fp fm fs:Nat→Nat} (hbp:BA w zp np fp) (_hcp:np≤cp) (_hmp:cp≤maxLen) (_hbm:BA w zm nm fm) (_hcm:nm≤cm) (_hmm:cm≤maxLen) (hbs:BA w zs 64 fs) (hcs:64≤cs) (_hms:cs≤maxLen) (_hl:np+nm≤90000) {U V:Nat} (hU:LN (fun i=>fs (0+i)) U) (hV:LN (fun i=>fs (32+i)) V) {R A:Ep m2} {K:Nat} (hRp:dpt U=R) (hAp:aPt (fl fp np)=A) (_hKK:scl (fl (fun i=>fs (0+i)) 32++(fl fp np++fl fm nm))=K) (_hRo:R.on ed) (_hAo:A.on ed) (_hKn:K<2 ^ 256) (hR:dok U=true) (hA:aOk (fl fp np)=false):Calls Tryz.prog 12 [Value.slice (zp) (np) (cp),Value.slice (zm) (nm) (cm),Value.slice (zs) (64) (cs)].toArray w fun e w'=>e=.returned (.bool false)∧Below w.heap.size w w':=by
 refine enter (args:=[Value.slice (zp) (np) (cp),Value.slice (zm) (nm) (cm),Value.slice (zs) (64) (cs)]) Tryz.func12 rfl 61 rfl (lk rfl) (fun a h=>?_)
 refine a_region TTE h hm [] [eS 6 _] (by kernel_rfl) ⟨rfl,T0⟩ [(0,.val (Value.slice (zp) (np) (cp))),(1,.val (Value.slice (zm) (nm) (cm))),(2,.val (Value.slice (zs) (64) (cs)))] [] ⟨rfl,rfl,rfl,T0⟩ T0 rfl (fun a w h=>?_)
 refine wp_seq ?_
 refine a_region TTE h hm [1,2] [eS 15 _,eS 16 (.val (Value.int .i64 ((64:Nat):Int))),eS 17 (.val (Value.bool false))] (by kernel_rfl) ⟨rfl,fun L u=>u_lenV u (gd0 rfl) 16 rfl (.tmp 15) 24 rfl rfl Tryz.underlying24,fun L u=>u_bin u (gd0 rfl) _ rfl _ _ _ _ _ rfl rfl rfl (eqg_int _ _ _ _ _ _ _ _) _ (no_of (fun w=>i_neq _ _ _ _ w) (by omega)),T0⟩ [(0,_),(1,_),(2,_),(17,.val (Value.bool false))] [] ⟨rfl,rfl,rfl,rfl,T0⟩ T0 rfl (fun a w h=>?_)
 refine go_cond h false rfl (fun ht=>?_) (fun hf=>?_)
 case refine_1=>cases ht
 refine wp_skip ?_
 refine then_norm ?_
 refine a_region TTE h hm [1] [eS 19 _,eS 20 (.val (.tuple [Value.agg (pcE (A)).toArray,Value.bool false].toArray)),eS 18 _,eS 21 _,eS 22 _,eN 7 _,eM 7 _,eS 8 _] (by kernel_rfl) ⟨rfl,fun L u=>u_call u (gd0 rfl) _ rfl _ _ _ rfl [_] rfl (cZ31 _) (.tuple [.agg (pcE (A)).toArray,Value.bool false].toArray) (fun w hb=>by have q:=sdecP (hT.keep (Bs.kp_of hb)) (c:=cp) (hbp.keep (Bs.kp_of hb));rw [hA,hAp] at q;exact q),rfl,rfl,rfl,rfl,rfl,rfl,T0⟩ [(0,_),(1,_),(2,_),(7,.ptr 7 0),(8,.val (Value.bool false))] [(7,pcE (A))] ⟨rfl,rfl,rfl,rfl,rfl,T0⟩ ⟨rfl,T0⟩ rfl (fun a w h=>?_)
 refine a_region TTE h hm [1,2] [eS 24 _,eS 25 (.val (Value.slice (cutA (zs) (cs) 0) (32) (cs))),eS 26 (.val (.tuple [Value.agg (pcE (R)).toArray,Value.bool true].toArray)),eS 23 _,eS 27 _,eS 28 _,eN 9 _,eM 9 _,eS 10 _] (by kernel_rfl) ⟨rfl,fun L u=>u_partH u (gd0 rfl) 25 rfl 24 (.tmp 24) (.const (.int .i64 32)) rfl rfl rfl (Value.slice (cutA (zs) (cs) 0) (32) (cs)) (fun w=>run_toS (m:=32) (by omega) w),fun L u=>u_call u (gd0 rfl) _ rfl _ _ _ rfl [_] rfl (cZ31 _) (.tuple [.agg (pcE (R)).toArray,Value.bool true].toArray) (fun w hb=>by have q:=s_Dec (hT.keep (Bs.kp_of hb)) (c:=cs) ((hbs.keep (Bs.kp_of hb)).cut cs 0 32 (by omega) hcs) hU;rw [hR,hRp] at q;exact q),rfl,rfl,rfl,rfl,rfl,rfl,T0⟩ [(0,_),(1,_),(2,_),(7,_),(8,_),(9,.ptr 9 0),(10,.val (Value.bool true))] [(7,_),(9,pcE (R))] ⟨rfl,rfl,rfl,rfl,rfl,rfl,rfl,T0⟩ ⟨rfl,rfl,T0⟩ rfl (fun a w h=>?_)
 refine a_region TTE h hm [1,2] [eS 30 _,eS 31 (.val (Value.slice (cutA (zs) (cs) 32) (32) (cs-32))),eS 32 (.val (.tuple [Value.agg (nc (((V:Nat):Int))).toArray,Value.bool true].toArray)),eS 29 _,eS 33 _,eS 34 _,eN 11 _,eM 11 _,eS 12 _] (by kernel_rfl) ⟨rfl,fun L u=>u_part2 u (gd0 rfl) 31 rfl 24 (.tmp 30) (.const (.int .i64 32)) (.const (.int .i64 64)) rfl rfl rfl rfl (Value.slice (cutA (zs) (cs) 32) (32) (cs-32)) (fun w=>run_midS (k:=32) (m:=64) (by omega) (by omega) w),fun L u=>u_call u (gd0 rfl) _ rfl _ _ _ rfl [_] rfl (cZ32 _) _ (fun w hb=>slitBA ((hbs.keep (Bs.kp_of hb)).cut cs 32 32 (by omega) hcs) (by omega) hV),rfl,rfl,rfl,rfl,rfl,rfl,T0⟩ [(0,_),(1,_),(2,_),(7,_),(8,_),(9,_),(10,_),(11,.ptr 11 0)] [(7,_),(9,_),(11,nc (((V:Nat):Int)))] ⟨rfl,rfl,rfl,rfl,rfl,rfl,rfl,rfl,T0⟩ ⟨rfl,rfl,rfl,T0⟩ rfl (fun a w h=>?_)
 refine wp_seq ?_
 refine a_region TTE h hm [] [eS 35 _,eS 36 _,eS 37 _,eS 38 _,eS 39 _,eS 40 _,eS 41 _,eS 42 _,eS 43 _,eS 44 _,eS 45 _] (by kernel_rfl) ⟨rfl,rfl,rfl,rfl,rfl,rfl,rfl,rfl,rfl,rfl,rfl,T0⟩ [(0,_),(1,_),(2,_),(7,_),(9,_),(11,_),(45,.val (Value.bool true))] [(7,_),(9,_),(11,_)] ⟨rfl,rfl,rfl,rfl,rfl,rfl,rfl,T0⟩ ⟨rfl,rfl,rfl,T0⟩ rfl (fun a w h=>?_)
 refine go_cond h true rfl (fun ht=>?_) (fun hf=>?_)
 case refine_2=>cases hf
 refine a_region TTE h hm [] [eS 6 _] (by kernel_rfl) ⟨rfl,T0⟩ [(6,.val (Value.bool false))] [] ⟨rfl,T0⟩ T0 rfl (fun a w h=>?_)
 refine wp_ret ?_
 refine then_ret ?_
 refine ret_slot h 6 rfl (lk rfl) (Value.bool false) rfl ?_
 exact ⟨rfl,h.grows⟩
theorem rV_ra {w:World} (hT:Tab w) {np cp nm cm cs:Nat} {zp zm zs:Option Addr} {fp fm fs:Nat→Nat} (hbp:BA w zp np fp) (_hcp:np≤cp) (_hmp:cp≤maxLen) (_hbm:BA w zm nm fm) (_hcm:nm≤cm) (_hmm:cm≤maxLen) (hbs:BA w zs 64 fs) (hcs:64≤cs) (_hms:cs≤maxLen) (_hl:np+nm≤90000) {U V:Nat} (hU:LN (fun i=>fs (0+i)) U) (hV:LN (fun i=>fs (32+i)) V) {R A:Ep m2} {K:Nat} (hRp:dpt U=R) (hAp:aPt (fl fp np)=A) (_hKK:scl (fl (fun i=>fs (0+i)) 32++(fl fp np++fl fm nm))=K) (_hRo:R.on ed) (_hAo:A.on ed) (_hKn:K<2 ^ 256) (hR:dok U=false) (hA:aOk (fl fp np)=false):Calls Tryz.prog 12 [Value.slice (zp) (np) (cp),Value.slice (zm) (nm) (cm),Value.slice (zs) (64) (cs)].toArray w fun e w'=>e=.returned (.bool false)∧Below w.heap.size w w':=by
 refine enter (args:=[Value.slice (zp) (np) (cp),Value.slice (zm) (nm) (cm),Value.slice (zs) (64) (cs)]) Tryz.func12 rfl 61 rfl (lk rfl) (fun a h=>?_)
 refine a_region TTE h hm [] [eS 6 _] (by kernel_rfl) ⟨rfl,T0⟩ [(0,.val (Value.slice (zp) (np) (cp))),(1,.val (Value.slice (zm) (nm) (cm))),(2,.val (Value.slice (zs) (64) (cs)))] [] ⟨rfl,rfl,rfl,T0⟩ T0 rfl (fun a w h=>?_)
 refine wp_seq ?_
 refine a_region TTE h hm [1,2] [eS 15 _,eS 16 (.val (Value.int .i64 ((64:Nat):Int))),eS 17 (.val (Value.bool false))] (by kernel_rfl) ⟨rfl,fun L u=>u_lenV u (gd0 rfl) 16 rfl (.tmp 15) 24 rfl rfl Tryz.underlying24,fun L u=>u_bin u (gd0 rfl) _ rfl _ _ _ _ _ rfl rfl rfl (eqg_int _ _ _ _ _ _ _ _) _ (no_of (fun w=>i_neq _ _ _ _ w) (by omega)),T0⟩ [(0,_),(1,_),(2,_),(17,.val (Value.bool false))] [] ⟨rfl,rfl,rfl,rfl,T0⟩ T0 rfl (fun a w h=>?_)
 refine go_cond h false rfl (fun ht=>?_) (fun hf=>?_)
 case refine_1=>cases ht
 refine wp_skip ?_
 refine then_norm ?_
 refine a_region TTE h hm [1] [eS 19 _,eS 20 (.val (.tuple [Value.agg (pcE (A)).toArray,Value.bool false].toArray)),eS 18 _,eS 21 _,eS 22 _,eN 7 _,eM 7 _,eS 8 _] (by kernel_rfl) ⟨rfl,fun L u=>u_call u (gd0 rfl) _ rfl _ _ _ rfl [_] rfl (cZ31 _) (.tuple [.agg (pcE (A)).toArray,Value.bool false].toArray) (fun w hb=>by have q:=sdecP (hT.keep (Bs.kp_of hb)) (c:=cp) (hbp.keep (Bs.kp_of hb));rw [hA,hAp] at q;exact q),rfl,rfl,rfl,rfl,rfl,rfl,T0⟩ [(0,_),(1,_),(2,_),(7,.ptr 7 0),(8,.val (Value.bool false))] [(7,pcE (A))] ⟨rfl,rfl,rfl,rfl,rfl,T0⟩ ⟨rfl,T0⟩ rfl (fun a w h=>?_)
 refine a_region TTE h hm [1,2] [eS 24 _,eS 25 (.val (Value.slice (cutA (zs) (cs) 0) (32) (cs))),eS 26 (.val (.tuple [Value.agg (pcE (R)).toArray,Value.bool false].toArray)),eS 23 _,eS 27 _,eS 28 _,eN 9 _,eM 9 _,eS 10 _] (by kernel_rfl) ⟨rfl,fun L u=>u_partH u (gd0 rfl) 25 rfl 24 (.tmp 24) (.const (.int .i64 32)) rfl rfl rfl (Value.slice (cutA (zs) (cs) 0) (32) (cs)) (fun w=>run_toS (m:=32) (by omega) w),fun L u=>u_call u (gd0 rfl) _ rfl _ _ _ rfl [_] rfl (cZ31 _) (.tuple [.agg (pcE (R)).toArray,Value.bool false].toArray) (fun w hb=>by have q:=s_Dec (hT.keep (Bs.kp_of hb)) (c:=cs) ((hbs.keep (Bs.kp_of hb)).cut cs 0 32 (by omega) hcs) hU;rw [hR,hRp] at q;exact q),rfl,rfl,rfl,rfl,rfl,rfl,T0⟩ [(0,_),(1,_),(2,_),(7,_),(8,_),(9,.ptr 9 0),(10,.val (Value.bool false))] [(7,_),(9,pcE (R))] ⟨rfl,rfl,rfl,rfl,rfl,rfl,rfl,T0⟩ ⟨rfl,rfl,T0⟩ rfl (fun a w h=>?_)
 refine a_region TTE h hm [1,2] [eS 30 _,eS 31 (.val (Value.slice (cutA (zs) (cs) 32) (32) (cs-32))),eS 32 (.val (.tuple [Value.agg (nc (((V:Nat):Int))).toArray,Value.bool true].toArray)),eS 29 _,eS 33 _,eS 34 _,eN 11 _,eM 11 _,eS 12 _] (by kernel_rfl) ⟨rfl,fun L u=>u_part2 u (gd0 rfl) 31 rfl 24 (.tmp 30) (.const (.int .i64 32)) (.const (.int .i64 64)) rfl rfl rfl rfl (Value.slice (cutA (zs) (cs) 32) (32) (cs-32)) (fun w=>run_midS (k:=32) (m:=64) (by omega) (by omega) w),fun L u=>u_call u (gd0 rfl) _ rfl _ _ _ rfl [_] rfl (cZ32 _) _ (fun w hb=>slitBA ((hbs.keep (Bs.kp_of hb)).cut cs 32 32 (by omega) hcs) (by omega) hV),rfl,rfl,rfl,rfl,rfl,rfl,T0⟩ [(0,_),(1,_),(2,_),(7,_),(8,_),(9,_),(10,_),(11,.ptr 11 0)] [(7,_),(9,_),(11,nc (((V:Nat):Int)))] ⟨rfl,rfl,rfl,rfl,rfl,rfl,rfl,rfl,T0⟩ ⟨rfl,rfl,rfl,T0⟩ rfl (fun a w h=>?_)
 refine wp_seq ?_
 refine a_region TTE h hm [] [eS 35 _,eS 36 _,eS 37 _,eS 38 _,eS 39 _,eS 40 _,eS 41 _,eS 42 _,eS 43 _,eS 44 _,eS 45 _] (by kernel_rfl) ⟨rfl,rfl,rfl,rfl,rfl,rfl,rfl,rfl,rfl,rfl,rfl,T0⟩ [(0,_),(1,_),(2,_),(7,_),(9,_),(11,_),(45,.val (Value.bool true))] [(7,_),(9,_),(11,_)] ⟨rfl,rfl,rfl,rfl,rfl,rfl,rfl,T0⟩ ⟨rfl,rfl,rfl,T0⟩ rfl (fun a w h=>?_)
 refine go_cond h true rfl (fun ht=>?_) (fun hf=>?_)
 case refine_2=>cases hf
 refine a_region TTE h hm [] [eS 6 _] (by kernel_rfl) ⟨rfl,T0⟩ [(6,.val (Value.bool false))] [] ⟨rfl,T0⟩ T0 rfl (fun a w h=>?_)
 refine wp_ret ?_
 refine then_ret ?_
 refine ret_slot h 6 rfl (lk rfl) (Value.bool false) rfl ?_
 exact ⟨rfl,h.grows⟩
theorem rV_r {w:World} (hT:Tab w) {np cp nm cm cs:Nat} {zp zm zs:Option Addr} {fp fm fs:Nat→Nat} (hbp:BA w zp np fp) (_hcp:np≤cp) (_hmp:cp≤maxLen) (_hbm:BA w zm nm fm) (_hcm:nm≤cm) (_hmm:cm≤maxLen) (hbs:BA w zs 64 fs) (hcs:64≤cs) (_hms:cs≤maxLen) (_hl:np+nm≤90000) {U V:Nat} (hU:LN (fun i=>fs (0+i)) U) (hV:LN (fun i=>fs (32+i)) V) {R A:Ep m2} {K:Nat} (hRp:dpt U=R) (hAp:aPt (fl fp np)=A) (_hKK:scl (fl (fun i=>fs (0+i)) 32++(fl fp np++fl fm nm))=K) (_hRo:R.on ed) (_hAo:A.on ed) (_hKn:K<2 ^ 256) (hR:dok U=false) (hA:aOk (fl fp np)=true):Calls Tryz.prog 12 [Value.slice (zp) (np) (cp),Value.slice (zm) (nm) (cm),Value.slice (zs) (64) (cs)].toArray w fun e w'=>e=.returned (.bool false)∧Below w.heap.size w w':=by
 refine enter (args:=[Value.slice (zp) (np) (cp),Value.slice (zm) (nm) (cm),Value.slice (zs) (64) (cs)]) Tryz.func12 rfl 61 rfl (lk rfl) (fun a h=>?_)
 refine a_region TTE h hm [] [eS 6 _] (by kernel_rfl) ⟨rfl,T0⟩ [(0,.val (Value.slice (zp) (np) (cp))),(1,.val (Value.slice (zm) (nm) (cm))),(2,.val (Value.slice (zs) (64) (cs)))] [] ⟨rfl,rfl,rfl,T0⟩ T0 rfl (fun a w h=>?_)
 refine wp_seq ?_
 refine a_region TTE h hm [1,2] [eS 15 _,eS 16 (.val (Value.int .i64 ((64:Nat):Int))),eS 17 (.val (Value.bool false))] (by kernel_rfl) ⟨rfl,fun L u=>u_lenV u (gd0 rfl) 16 rfl (.tmp 15) 24 rfl rfl Tryz.underlying24,fun L u=>u_bin u (gd0 rfl) _ rfl _ _ _ _ _ rfl rfl rfl (eqg_int _ _ _ _ _ _ _ _) _ (no_of (fun w=>i_neq _ _ _ _ w) (by omega)),T0⟩ [(0,_),(1,_),(2,_),(17,.val (Value.bool false))] [] ⟨rfl,rfl,rfl,rfl,T0⟩ T0 rfl (fun a w h=>?_)
 refine go_cond h false rfl (fun ht=>?_) (fun hf=>?_)
 case refine_1=>cases ht
 refine wp_skip ?_
 refine then_norm ?_
 refine a_region TTE h hm [1] [eS 19 _,eS 20 (.val (.tuple [Value.agg (pcE (A)).toArray,Value.bool true].toArray)),eS 18 _,eS 21 _,eS 22 _,eN 7 _,eM 7 _,eS 8 _] (by kernel_rfl) ⟨rfl,fun L u=>u_call u (gd0 rfl) _ rfl _ _ _ rfl [_] rfl (cZ31 _) (.tuple [.agg (pcE (A)).toArray,Value.bool true].toArray) (fun w hb=>by have q:=sdecP (hT.keep (Bs.kp_of hb)) (c:=cp) (hbp.keep (Bs.kp_of hb));rw [hA,hAp] at q;exact q),rfl,rfl,rfl,rfl,rfl,rfl,T0⟩ [(0,_),(1,_),(2,_),(7,.ptr 7 0),(8,.val (Value.bool true))] [(7,pcE (A))] ⟨rfl,rfl,rfl,rfl,rfl,T0⟩ ⟨rfl,T0⟩ rfl (fun a w h=>?_)
 refine a_region TTE h hm [1,2] [eS 24 _,eS 25 (.val (Value.slice (cutA (zs) (cs) 0) (32) (cs))),eS 26 (.val (.tuple [Value.agg (pcE (R)).toArray,Value.bool false].toArray)),eS 23 _,eS 27 _,eS 28 _,eN 9 _,eM 9 _,eS 10 _] (by kernel_rfl) ⟨rfl,fun L u=>u_partH u (gd0 rfl) 25 rfl 24 (.tmp 24) (.const (.int .i64 32)) rfl rfl rfl (Value.slice (cutA (zs) (cs) 0) (32) (cs)) (fun w=>run_toS (m:=32) (by omega) w),fun L u=>u_call u (gd0 rfl) _ rfl _ _ _ rfl [_] rfl (cZ31 _) (.tuple [.agg (pcE (R)).toArray,Value.bool false].toArray) (fun w hb=>by have q:=s_Dec (hT.keep (Bs.kp_of hb)) (c:=cs) ((hbs.keep (Bs.kp_of hb)).cut cs 0 32 (by omega) hcs) hU;rw [hR,hRp] at q;exact q),rfl,rfl,rfl,rfl,rfl,rfl,T0⟩ [(0,_),(1,_),(2,_),(7,_),(8,_),(9,.ptr 9 0),(10,.val (Value.bool false))] [(7,_),(9,pcE (R))] ⟨rfl,rfl,rfl,rfl,rfl,rfl,rfl,T0⟩ ⟨rfl,rfl,T0⟩ rfl (fun a w h=>?_)
 refine a_region TTE h hm [1,2] [eS 30 _,eS 31 (.val (Value.slice (cutA (zs) (cs) 32) (32) (cs-32))),eS 32 (.val (.tuple [Value.agg (nc (((V:Nat):Int))).toArray,Value.bool true].toArray)),eS 29 _,eS 33 _,eS 34 _,eN 11 _,eM 11 _,eS 12 _] (by kernel_rfl) ⟨rfl,fun L u=>u_part2 u (gd0 rfl) 31 rfl 24 (.tmp 30) (.const (.int .i64 32)) (.const (.int .i64 64)) rfl rfl rfl rfl (Value.slice (cutA (zs) (cs) 32) (32) (cs-32)) (fun w=>run_midS (k:=32) (m:=64) (by omega) (by omega) w),fun L u=>u_call u (gd0 rfl) _ rfl _ _ _ rfl [_] rfl (cZ32 _) _ (fun w hb=>slitBA ((hbs.keep (Bs.kp_of hb)).cut cs 32 32 (by omega) hcs) (by omega) hV),rfl,rfl,rfl,rfl,rfl,rfl,T0⟩ [(0,_),(1,_),(2,_),(7,_),(8,_),(9,_),(10,_),(11,.ptr 11 0)] [(7,_),(9,_),(11,nc (((V:Nat):Int)))] ⟨rfl,rfl,rfl,rfl,rfl,rfl,rfl,rfl,T0⟩ ⟨rfl,rfl,rfl,T0⟩ rfl (fun a w h=>?_)
 refine wp_seq ?_
 refine a_region TTE h hm [] [eS 35 _,eS 36 _,eS 37 _,eS 38 _,eS 39 _,eS 40 _,eS 41 _,eS 42 _,eS 43 _,eS 44 _,eS 45 _] (by kernel_rfl) ⟨rfl,rfl,rfl,rfl,rfl,rfl,rfl,rfl,rfl,rfl,rfl,T0⟩ [(0,_),(1,_),(2,_),(7,_),(9,_),(11,_),(45,.val (Value.bool true))] [(7,_),(9,_),(11,_)] ⟨rfl,rfl,rfl,rfl,rfl,rfl,rfl,T0⟩ ⟨rfl,rfl,rfl,T0⟩ rfl (fun a w h=>?_)
 refine go_cond h true rfl (fun ht=>?_) (fun hf=>?_)
 case refine_2=>cases hf
 refine a_region TTE h hm [] [eS 6 _] (by kernel_rfl) ⟨rfl,T0⟩ [(6,.val (Value.bool false))] [] ⟨rfl,T0⟩ T0 rfl (fun a w h=>?_)
 refine wp_ret ?_
 refine then_ret ?_
 refine ret_slot h 6 rfl (lk rfl) (Value.bool false) rfl ?_
 exact ⟨rfl,h.grows⟩
theorem rV_s {w:World} (hT:Tab w) {np cp nm cm cs:Nat} {zp zm zs:Option Addr} {fp fm fs:Nat→Nat} (hbp:BA w zp np fp) (_hcp:np≤cp) (_hmp:cp≤maxLen) (_hbm:BA w zm nm fm) (_hcm:nm≤cm) (_hmm:cm≤maxLen) (hbs:BA w zs 64 fs) (hcs:64≤cs) (_hms:cs≤maxLen) (_hl:np+nm≤90000) {U V:Nat} (hU:LN (fun i=>fs (0+i)) U) (hV:LN (fun i=>fs (32+i)) V) {R A:Ep m2} {K:Nat} (hRp:dpt U=R) (hAp:aPt (fl fp np)=A) (_hKK:scl (fl (fun i=>fs (0+i)) 32++(fl fp np++fl fm nm))=K) (_hRo:R.on ed) (_hAo:A.on ed) (_hKn:K<2 ^ 256) (hR:dok U=true) (hA:aOk (fl fp np)=true) (hB:decide ((V:Int)<md 3)=false):Calls Tryz.prog 12 [Value.slice (zp) (np) (cp),Value.slice (zm) (nm) (cm),Value.slice (zs) (64) (cs)].toArray w fun e w'=>e=.returned (.bool false)∧Below w.heap.size w w':=by
 refine enter (args:=[Value.slice (zp) (np) (cp),Value.slice (zm) (nm) (cm),Value.slice (zs) (64) (cs)]) Tryz.func12 rfl 61 rfl (lk rfl) (fun a h=>?_)
 refine a_region TTE h hm [] [eS 6 _] (by kernel_rfl) ⟨rfl,T0⟩ [(0,.val (Value.slice (zp) (np) (cp))),(1,.val (Value.slice (zm) (nm) (cm))),(2,.val (Value.slice (zs) (64) (cs)))] [] ⟨rfl,rfl,rfl,T0⟩ T0 rfl (fun a w h=>?_)
 refine wp_seq ?_
 refine a_region TTE h hm [1,2] [eS 15 _,eS 16 (.val (Value.int .i64 ((64:Nat):Int))),eS 17 (.val (Value.bool false))] (by kernel_rfl) ⟨rfl,fun L u=>u_lenV u (gd0 rfl) 16 rfl (.tmp 15) 24 rfl rfl Tryz.underlying24,fun L u=>u_bin u (gd0 rfl) _ rfl _ _ _ _ _ rfl rfl rfl (eqg_int _ _ _ _ _ _ _ _) _ (no_of (fun w=>i_neq _ _ _ _ w) (by omega)),T0⟩ [(0,_),(1,_),(2,_),(17,.val (Value.bool false))] [] ⟨rfl,rfl,rfl,rfl,T0⟩ T0 rfl (fun a w h=>?_)
 refine go_cond h false rfl (fun ht=>?_) (fun hf=>?_)
 case refine_1=>cases ht
 refine wp_skip ?_
 refine then_norm ?_
 refine a_region TTE h hm [1] [eS 19 _,eS 20 (.val (.tuple [Value.agg (pcE (A)).toArray,Value.bool true].toArray)),eS 18 _,eS 21 _,eS 22 _,eN 7 _,eM 7 _,eS 8 _] (by kernel_rfl) ⟨rfl,fun L u=>u_call u (gd0 rfl) _ rfl _ _ _ rfl [_] rfl (cZ31 _) (.tuple [.agg (pcE (A)).toArray,Value.bool true].toArray) (fun w hb=>by have q:=sdecP (hT.keep (Bs.kp_of hb)) (c:=cp) (hbp.keep (Bs.kp_of hb));rw [hA,hAp] at q;exact q),rfl,rfl,rfl,rfl,rfl,rfl,T0⟩ [(0,_),(1,_),(2,_),(7,.ptr 7 0),(8,.val (Value.bool true))] [(7,pcE (A))] ⟨rfl,rfl,rfl,rfl,rfl,T0⟩ ⟨rfl,T0⟩ rfl (fun a w h=>?_)
 refine a_region TTE h hm [1,2] [eS 24 _,eS 25 (.val (Value.slice (cutA (zs) (cs) 0) (32) (cs))),eS 26 (.val (.tuple [Value.agg (pcE (R)).toArray,Value.bool true].toArray)),eS 23 _,eS 27 _,eS 28 _,eN 9 _,eM 9 _,eS 10 _] (by kernel_rfl) ⟨rfl,fun L u=>u_partH u (gd0 rfl) 25 rfl 24 (.tmp 24) (.const (.int .i64 32)) rfl rfl rfl (Value.slice (cutA (zs) (cs) 0) (32) (cs)) (fun w=>run_toS (m:=32) (by omega) w),fun L u=>u_call u (gd0 rfl) _ rfl _ _ _ rfl [_] rfl (cZ31 _) (.tuple [.agg (pcE (R)).toArray,Value.bool true].toArray) (fun w hb=>by have q:=s_Dec (hT.keep (Bs.kp_of hb)) (c:=cs) ((hbs.keep (Bs.kp_of hb)).cut cs 0 32 (by omega) hcs) hU;rw [hR,hRp] at q;exact q),rfl,rfl,rfl,rfl,rfl,rfl,T0⟩ [(0,_),(1,_),(2,_),(7,_),(8,_),(9,.ptr 9 0),(10,.val (Value.bool true))] [(7,_),(9,pcE (R))] ⟨rfl,rfl,rfl,rfl,rfl,rfl,rfl,T0⟩ ⟨rfl,rfl,T0⟩ rfl (fun a w h=>?_)
 refine a_region TTE h hm [1,2] [eS 30 _,eS 31 (.val (Value.slice (cutA (zs) (cs) 32) (32) (cs-32))),eS 32 (.val (.tuple [Value.agg (nc (((V:Nat):Int))).toArray,Value.bool true].toArray)),eS 29 _,eS 33 _,eS 34 _,eN 11 _,eM 11 _,eS 12 _] (by kernel_rfl) ⟨rfl,fun L u=>u_part2 u (gd0 rfl) 31 rfl 24 (.tmp 30) (.const (.int .i64 32)) (.const (.int .i64 64)) rfl rfl rfl rfl (Value.slice (cutA (zs) (cs) 32) (32) (cs-32)) (fun w=>run_midS (k:=32) (m:=64) (by omega) (by omega) w),fun L u=>u_call u (gd0 rfl) _ rfl _ _ _ rfl [_] rfl (cZ32 _) _ (fun w hb=>slitBA ((hbs.keep (Bs.kp_of hb)).cut cs 32 32 (by omega) hcs) (by omega) hV),rfl,rfl,rfl,rfl,rfl,rfl,T0⟩ [(0,_),(1,_),(2,_),(7,_),(8,_),(9,_),(10,_),(11,.ptr 11 0)] [(7,_),(9,_),(11,nc (((V:Nat):Int)))] ⟨rfl,rfl,rfl,rfl,rfl,rfl,rfl,rfl,T0⟩ ⟨rfl,rfl,rfl,T0⟩ rfl (fun a w h=>?_)
 refine wp_seq ?_
 refine a_region TTE h hm [8] [eS 35 _,eS 36 _,eS 37 _,eS 38 _,eS 39 _,eS 40 _,eS 41 _,eS 42 _,eS 43 (.val (Value.bool false)),eS 44 _,eS 45 _] (by kernel_rfl) ⟨rfl,rfl,rfl,rfl,rfl,rfl,rfl,rfl,fun L u=>u_call u (gd1 u 6 false rfl 41 rfl (lk rfl) rfl) _ rfl _ _ _ rfl [_,_] rfl (cZ33 _) (Value.bool false) (fun w hb=>by have q:=sbelN (w:=w) hV.lt;rw [hB] at q;exact q),rfl,rfl,T0⟩ [(0,_),(1,_),(2,_),(7,_),(9,_),(11,_),(45,.val (Value.bool true))] [(7,_),(9,_),(11,_)] ⟨rfl,rfl,rfl,rfl,rfl,rfl,rfl,T0⟩ ⟨rfl,rfl,rfl,T0⟩ rfl (fun a w h=>?_)
 refine go_cond h true rfl (fun ht=>?_) (fun hf=>?_)
 case refine_2=>cases hf
 refine a_region TTE h hm [] [eS 6 _] (by kernel_rfl) ⟨rfl,T0⟩ [(6,.val (Value.bool false))] [] ⟨rfl,T0⟩ T0 rfl (fun a w h=>?_)
 refine wp_ret ?_
 refine then_ret ?_
 refine ret_slot h 6 rfl (lk rfl) (Value.bool false) rfl ?_
 exact ⟨rfl,h.grows⟩
theorem rV_ok {w:World} (hT:Tab w) {np cp nm cm cs:Nat} {zp zm zs:Option Addr} {fp fm fs:Nat→Nat} (hbp:BA w zp np fp) (hcp:np≤cp) (hmp:cp≤maxLen) (hbm:BA w zm nm fm) (hcm:nm≤cm) (hmm:cm≤maxLen) (hbs:BA w zs 64 fs) (hcs:64≤cs) (hms:cs≤maxLen) (_hl:np+nm≤90000) {U V:Nat} (hU:LN (fun i=>fs (0+i)) U) (hV:LN (fun i=>fs (32+i)) V) {R A:Ep m2} {K:Nat} (hRp:dpt U=R) (hAp:aPt (fl fp np)=A) (hKK:scl (fl (fun i=>fs (0+i)) 32++(fl fp np++fl fm nm))=K) (hRo:R.on ed) (hAo:A.on ed) (hKn:K<2 ^ 256) (hR:dok U=true) (hA:aOk (fl fp np)=true) (hB:decide ((V:Int)<md 3)=true):Calls Tryz.prog 12 [Value.slice (zp) (np) (cp),Value.slice (zm) (nm) (cm),Value.slice (zs) (64) (cs)].toArray w fun e w'=>e=.returned (.bool (eqE (mt eadd (Ep.o m2) eG (V)) (eadd R (mt eadd (Ep.o m2) A (K)))))∧Below w.heap.size w w':=by
 refine enter (args:=[Value.slice (zp) (np) (cp),Value.slice (zm) (nm) (cm),Value.slice (zs) (64) (cs)]) Tryz.func12 rfl 61 rfl (lk rfl) (fun a h=>?_)
 refine a_region TTE h hm [] [eS 6 _] (by kernel_rfl) ⟨rfl,T0⟩ [(0,.val (Value.slice (zp) (np) (cp))),(1,.val (Value.slice (zm) (nm) (cm))),(2,.val (Value.slice (zs) (64) (cs)))] [] ⟨rfl,rfl,rfl,T0⟩ T0 rfl (fun a w h=>?_)
 refine wp_seq ?_
 refine a_region TTE h hm [1,2] [eS 15 _,eS 16 (.val (Value.int .i64 ((64:Nat):Int))),eS 17 (.val (Value.bool false))] (by kernel_rfl) ⟨rfl,fun L u=>u_lenV u (gd0 rfl) 16 rfl (.tmp 15) 24 rfl rfl Tryz.underlying24,fun L u=>u_bin u (gd0 rfl) _ rfl _ _ _ _ _ rfl rfl rfl (eqg_int _ _ _ _ _ _ _ _) _ (no_of (fun w=>i_neq _ _ _ _ w) (by omega)),T0⟩ [(0,_),(1,_),(2,_),(17,.val (Value.bool false))] [] ⟨rfl,rfl,rfl,rfl,T0⟩ T0 rfl (fun a w h=>?_)
 refine go_cond h false rfl (fun ht=>?_) (fun hf=>?_)
 case refine_1=>cases ht
 refine wp_skip ?_
 refine then_norm ?_
 refine a_region TTE h hm [1] [eS 19 _,eS 20 (.val (.tuple [Value.agg (pcE (A)).toArray,Value.bool true].toArray)),eS 18 _,eS 21 _,eS 22 _,eN 7 _,eM 7 _,eS 8 _] (by kernel_rfl) ⟨rfl,fun L u=>u_call u (gd0 rfl) _ rfl _ _ _ rfl [_] rfl (cZ31 _) (.tuple [.agg (pcE (A)).toArray,Value.bool true].toArray) (fun w hb=>by have q:=sdecP (hT.keep (Bs.kp_of hb)) (c:=cp) (hbp.keep (Bs.kp_of hb));rw [hA,hAp] at q;exact q),rfl,rfl,rfl,rfl,rfl,rfl,T0⟩ [(0,_),(1,_),(2,_),(7,.ptr 7 0),(8,.val (Value.bool true))] [(7,pcE (A))] ⟨rfl,rfl,rfl,rfl,rfl,T0⟩ ⟨rfl,T0⟩ rfl (fun a w h=>?_)
 refine a_region TTE h hm [1,2] [eS 24 _,eS 25 (.val (Value.slice (cutA (zs) (cs) 0) (32) (cs))),eS 26 (.val (.tuple [Value.agg (pcE (R)).toArray,Value.bool true].toArray)),eS 23 _,eS 27 _,eS 28 _,eN 9 _,eM 9 _,eS 10 _] (by kernel_rfl) ⟨rfl,fun L u=>u_partH u (gd0 rfl) 25 rfl 24 (.tmp 24) (.const (.int .i64 32)) rfl rfl rfl (Value.slice (cutA (zs) (cs) 0) (32) (cs)) (fun w=>run_toS (m:=32) (by omega) w),fun L u=>u_call u (gd0 rfl) _ rfl _ _ _ rfl [_] rfl (cZ31 _) (.tuple [.agg (pcE (R)).toArray,Value.bool true].toArray) (fun w hb=>by have q:=s_Dec (hT.keep (Bs.kp_of hb)) (c:=cs) ((hbs.keep (Bs.kp_of hb)).cut cs 0 32 (by omega) hcs) hU;rw [hR,hRp] at q;exact q),rfl,rfl,rfl,rfl,rfl,rfl,T0⟩ [(0,_),(1,_),(2,_),(7,_),(8,_),(9,.ptr 9 0),(10,.val (Value.bool true))] [(7,_),(9,pcE (R))] ⟨rfl,rfl,rfl,rfl,rfl,rfl,rfl,T0⟩ ⟨rfl,rfl,T0⟩ rfl (fun a w h=>?_)
 refine a_region TTE h hm [1,2] [eS 30 _,eS 31 (.val (Value.slice (cutA (zs) (cs) 32) (32) (cs-32))),eS 32 (.val (.tuple [Value.agg (nc (((V:Nat):Int))).toArray,Value.bool true].toArray)),eS 29 _,eS 33 _,eS 34 _,eN 11 _,eM 11 _,eS 12 _] (by kernel_rfl) ⟨rfl,fun L u=>u_part2 u (gd0 rfl) 31 rfl 24 (.tmp 30) (.const (.int .i64 32)) (.const (.int .i64 64)) rfl rfl rfl rfl (Value.slice (cutA (zs) (cs) 32) (32) (cs-32)) (fun w=>run_midS (k:=32) (m:=64) (by omega) (by omega) w),fun L u=>u_call u (gd0 rfl) _ rfl _ _ _ rfl [_] rfl (cZ32 _) _ (fun w hb=>slitBA ((hbs.keep (Bs.kp_of hb)).cut cs 32 32 (by omega) hcs) (by omega) hV),rfl,rfl,rfl,rfl,rfl,rfl,T0⟩ [(0,_),(1,_),(2,_),(7,_),(8,_),(9,_),(10,_),(11,.ptr 11 0)] [(7,_),(9,_),(11,nc (((V:Nat):Int)))] ⟨rfl,rfl,rfl,rfl,rfl,rfl,rfl,rfl,T0⟩ ⟨rfl,rfl,rfl,T0⟩ rfl (fun a w h=>?_)
 refine wp_seq ?_
 refine a_region TTE h hm [8] [eS 35 _,eS 36 _,eS 37 _,eS 38 _,eS 39 _,eS 40 _,eS 41 _,eS 42 _,eS 43 (.val (Value.bool true)),eS 44 _,eS 45 _] (by kernel_rfl) ⟨rfl,rfl,rfl,rfl,rfl,rfl,rfl,rfl,fun L u=>u_call u (gd1 u 6 false rfl 41 rfl (lk rfl) rfl) _ rfl _ _ _ rfl [_,_] rfl (cZ33 _) (Value.bool true) (fun w hb=>by have q:=sbelN (w:=w) hV.lt;rw [hB] at q;exact q),rfl,rfl,T0⟩ [(0,_),(1,_),(2,_),(7,_),(9,_),(11,_),(45,.val (Value.bool false))] [(7,_),(9,_),(11,_)] ⟨rfl,rfl,rfl,rfl,rfl,rfl,rfl,T0⟩ ⟨rfl,rfl,rfl,T0⟩ rfl (fun a w h=>?_)
 refine go_cond h false rfl (fun ht=>?_) (fun hf=>?_)
 case refine_1=>cases ht
 refine wp_skip ?_
 refine then_norm ?_
 refine a_region TTE h hm [1,4] [eS 46 _,eS 47 (.val (Value.slice (cutA (zs) (cs) 0) (32) (cs))),eS 48 _,eS 49 _,eS 50 (.val (.agg (nc (((K:Nat):Int))).toArray)),eN 13 _,eM 13 _] (by kernel_rfl) ⟨rfl,fun L u=>u_partH u (gd0 rfl) 47 rfl 24 (.tmp 46) (.const (.int .i64 32)) rfl rfl rfl (Value.slice (cutA (zs) (cs) 0) (32) (cs)) (fun w=>run_toS (m:=32) (by omega) w),rfl,rfl,fun L u=>u_call u (gd0 rfl) _ rfl _ _ _ rfl [_,_,_] rfl (cZ23 _) (.agg (nc (((K:Nat):Int))).toArray) (fun w hb=>by have q:=rScl (hT.keep (Bs.kp_of hb)) (pt_ba ((hbs.keep (Bs.kp_of hb)).cut cs 0 32 (by omega) hcs) (by omega) hms) (pt_ba (hbp.keep (Bs.kp_of hb)) hcp hmp) (pt_ba (hbm.keep (Bs.kp_of hb)) hcm hmm) (by rw [List.length_append,List.length_append,fl_len,fl_len,fl_len];omega);rw [hKK] at q;exact q),rfl,rfl,T0⟩ [(7,_),(9,_),(11,_),(13,.ptr 13 0)] [(7,_),(9,_),(11,_),(13,nc (((K:Nat):Int)))] ⟨rfl,rfl,rfl,rfl,T0⟩ ⟨rfl,rfl,rfl,rfl,T0⟩ rfl (fun a w h=>?_)
 refine a_region TTE h hm [1,2] [eS 51 _,eS 52 (.val (.agg (pcE (eG)).toArray)),eS 53 (.val (.agg (pcE (mt eadd (Ep.o m2) eG (V))).toArray)),eN 14 _,eM 14 _] (by kernel_rfl) ⟨rfl,fun L u=>u_call u (gd0 rfl) _ rfl _ _ _ rfl [] rfl (cZ18 _) _ (fun w hb=>s_Base),fun L u=>u_call u (gd0 rfl) _ rfl _ _ _ rfl [_,_] rfl (cZ17 _) _ (fun w hb=>smulN (hT.keep (Bs.kp_of hb)) hV.lt eG_on),rfl,rfl,T0⟩ [(7,_),(9,_),(13,_),(14,.ptr 14 0)] [(7,_),(9,_),(13,_),(14,pcE (mt eadd (Ep.o m2) eG (V)))] ⟨rfl,rfl,rfl,rfl,T0⟩ ⟨rfl,rfl,rfl,rfl,T0⟩ rfl (fun a w h=>?_)
 refine a_region TTE h hm [4,5,6] [eS 54 _,eS 55 _,eS 56 _,eS 57 _,eS 58 (.val (.agg (pcE (mt eadd (Ep.o m2) A (K))).toArray)),eS 59 (.val (.agg (pcE (eadd R (mt eadd (Ep.o m2) A (K)))).toArray)),eS 60 (.val (Value.bool (eqE (mt eadd (Ep.o m2) eG (V)) (eadd R (mt eadd (Ep.o m2) A (K)))))),eS 6 _] (by kernel_rfl) ⟨rfl,rfl,rfl,rfl,fun L u=>u_call u (gd0 rfl) _ rfl _ _ _ rfl [_,_] rfl (cZ17 _) _ (fun w hb=>smulN (hT.keep (Bs.kp_of hb)) hKn hAo),fun L u=>u_call u (gd0 rfl) _ rfl _ _ _ rfl [_,_] rfl (cZ34 _) _ (fun w hb=>saddN (hT.keep (Bs.kp_of hb)) hRo (mt_on egr hAo _)),fun L u=>u_eql u (gd0 rfl) 60 rfl 40 40 (.tmp 54) (.tmp 59) rfl rfl rfl Tryz.eqGuardType40 (eqE (mt eadd (Ep.o m2) eG (V)) (eadd R (mt eadd (Ep.o m2) A (K)))) (fun w=>eqE_run _ _ w),rfl,T0⟩ [(6,.val (Value.bool (eqE (mt eadd (Ep.o m2) eG (V)) (eadd R (mt eadd (Ep.o m2) A (K))))))] [] ⟨rfl,T0⟩ T0 rfl (fun a w h=>?_)
 refine wp_ret ?_
 refine ret_slot h 6 rfl (lk rfl) (Value.bool (eqE (mt eadd (Ep.o m2) eG (V)) (eadd R (mt eadd (Ep.o m2) A (K))))) rfl ?_
 exact ⟨rfl,h.grows⟩
theorem rVer {w:World} (hT:Tab w) {vp vm vs:Value} {pl ml sl:List Nat} (hp:Pt w vp pl) (hq:Pt w vm ml) (hs:Pt w vs sl) (hl:pl.length+ml.length≤90000):Calls Tryz.prog 12 [vp,vm,vs].toArray w fun e w'=>e=.returned (.bool (vOk pl ml sl))∧Below w.heap.size w w':=by
 obtain ⟨zp,cp,rfl,hcp,hmp,hbp⟩:=hp
 obtain ⟨zm,cm,rfl,hcm,hmm,hbm⟩:=hq
 obtain ⟨zs,cs,rfl,hcs,hms,hbs⟩:=hs
 by_cases h64:sl.length=64
 ·rw [h64] at hbs hcs ⊢
  have hU:=ln_fl (f:=fun i=>(fun i=>sl.getD i 0) (0+i)) (fun i=>hbs.lt _)
  have hV:=ln_fl (f:=fun i=>(fun i=>sl.getD i 0) (32+i)) (fun i=>hbs.lt _)
  rw [fl_take h64] at hU
  rw [fl_drop h64] at hV
  have ep:fl (fun i=>pl.getD i 0) pl.length=pl:=fl_getD rfl
  have em:fl (fun i=>ml.getD i 0) ml.length=ml:=fl_getD rfl
  cases hR:dok (nle (sl.take 32)) with
  | false =>
   have ev:vOk pl ml sl=false:=by unfold vOk;rw [hR,Bool.false_and,Bool.and_false]
   rw [ev]
   cases hA:aOk pl with
   | false=>exact rV_ra hT hbp hcp hmp hbm hcm hmm hbs hcs hms hl hU hV rfl rfl rfl (dpt_on _) (aPt_on _) (scl_num _) hR (by rw [ep];exact hA)
   | true=>exact rV_r hT hbp hcp hmp hbm hcm hmm hbs hcs hms hl hU hV rfl rfl rfl (dpt_on _) (aPt_on _) (scl_num _) hR (by rw [ep];exact hA)
  | true =>
   cases hA:aOk pl with
   | false =>
    have ev:vOk pl ml sl=false:=by unfold vOk;rw [hA,Bool.false_and,Bool.and_false,Bool.and_false]
    rw [ev]
    exact rV_a hT hbp hcp hmp hbm hcm hmm hbs hcs hms hl hU hV rfl rfl rfl (dpt_on _) (aPt_on _) (scl_num _) hR (by rw [ep];exact hA)
   | true =>
    cases hB:decide (((nle (sl.drop 32):Nat):Int)<md 3) with
    | false =>
     have ev:vOk pl ml sl=false:=by unfold vOk;rw [hB,Bool.false_and,Bool.and_false,Bool.and_false,Bool.and_false]
     rw [ev]
     exact rV_s hT hbp hcp hmp hbm hcm hmm hbs hcs hms hl hU hV rfl rfl rfl (dpt_on _) (aPt_on _) (scl_num _) hR (by rw [ep];exact hA) hB
    | true =>
     have q:=rV_ok hT hbp hcp hmp hbm hcm hmm hbs hcs hms hl hU hV rfl rfl rfl (dpt_on _) (aPt_on _) (scl_num _) hR (by rw [ep];exact hA) hB
     rw [fl_take h64,ep,em] at q
     have ev:vOk pl ml sl=eqE (mt eadd (Ep.o m2) eG (nle (sl.drop 32))) (eadd (dpt (nle (sl.take 32))) (mt eadd (Ep.o m2) (aPt pl) (kK (sl.take 32) pl ml))):=by unfold vOk;rw [decide_eq_true h64,hR,hA,hB,Bool.true_and,Bool.true_and,Bool.true_and,Bool.true_and]
     rw [ev]
     exact q
 ·have ev:vOk pl ml sl=false:=by unfold vOk;rw [decide_eq_false h64,Bool.false_and]
  rw [ev]
  exact rV_len h64
end Go.Proofs.YtjaahnlpnkcimaaGreatDoor
namespace Go.Proofs.YtjaahnlpnkcimaaGreatDoor
set_option maxRecDepth 100000
open Go.RowKit
def zrs:List Nat:=List.replicate 32 0
theorem zrs_lt:∀ x ∈ zrs,x<256:=fun x hx=>by
 rw [List.eq_of_mem_replicate hx]
 decide
theorem b_zrs:Tryz.prog.built 23 []=some (by32 (bz zrs)).toArray:=by kernel_rfl
theorem cZ5 (vs:List Value):∀ w,(callFunc 5 vs.toArray).run Tryz.prog w=.ok (.enter 5 vs.toArray) w:=callFunc_enter Tryz.func5 (by kernel_rfl) (by kernel_rfl) _
theorem awk {w:World} (hT:Tab w) (hH:Sx.Tab w):Calls Tryz.prog 5 [].toArray w fun e w'=>e=.returned (.bool true)∧Below w.heap.size w w':=by
 refine enter (args:=[]) Tryz.func5 rfl 5 rfl (lk rfl) (fun a h=>?_)
 refine a_region TTE h hm [] [eS 0 _] (by kernel_rfl) ⟨rfl,T0⟩ [] [] T0 T0 rfl (fun a w h=>?_)
 refine a_region TTE h hm [0,1,2,3] [eS 1 (.val (.agg (by32 (bz zrs)).toArray)),eQ 2 (rowPd 5 1 (32+32) (cells8 (cbp (pR zrs (fl (fun _=>0) 0))++(nb (kS zrs (fl (fun _=>0) 0)))))),eS 3 (.val (Value.int .i64 ((32+32:Nat):Int))),eS 4 (.val (Value.bool true)),eS 0 _] (by kernel_rfl) ⟨fun L u=>u_build u (gd0 rfl) 1 rfl 23 #[] rfl [] rfl (by32 (bz zrs)) (b_zrs),fun L u=>u_callQ u (gd0 rfl) 2 rfl rfl 9 #[(.tmp 1),(.const (.slice none 0 0))] #[23,24] rfl [.val (.agg (by32 (bz zrs)).toArray),.val ((Value.slice none 0 0))] rfl (fun vs w=>callFunc_enter Tryz.func9 (by kernel_rfl) (by kernel_rfl) vs w) (rowPd 5 1 (32+32) (cells8 (cbp (pR zrs (fl (fun _=>0) 0))++(nb (kS zrs (fl (fun _=>0) 0)))))) (fun β a w hr=>qSign (sd:=zrs) (z:=none) (n:=0) (c:=0) (f:=fun _=>0) (hT.keep (Bs.kp_of hr.bl)) (hH.keep (Bs.kp_of hr.bl)) rfl zrs_lt ⟨fun _=>by decide,Or.inl rfl⟩ (Nat.le_refl _) (Nat.zero_le _) (Nat.zero_le _)),fun L u=>q_len u (gd0 rfl) 3 rfl (.tmp 2) rfl rfl rfl (vw_row (l:=cbp (pR zrs (fl (fun _=>0) 0))++(nb (kS zrs (fl (fun _=>0) 0)))) (lt_app (cbp_lt _) (nb_lt _))),fun L u=>u_bin u (gd0 rfl) _ rfl _ _ _ _ _ rfl rfl rfl (eqg_int _ _ _ _ _ _ _ _) _ (yes_of (fun w=>i_eql _ _ _ _ w) (by decide)),rfl,T0⟩ [(0,.val (Value.bool true))] [] ⟨rfl,T0⟩ T0 rfl (fun a w h=>?_)
 refine wp_ret ?_
 refine ret_slot h 0 rfl (lk rfl) (Value.bool true) rfl ?_
 exact ⟨rfl,h.grows⟩
end Go.Proofs.YtjaahnlpnkcimaaGreatDoor
