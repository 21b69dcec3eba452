/- What math/bits.Div64 answers at the greatest words of the moduli: the quotient. -/
import Derived.Test.YtjaahnlpnkcimaaDoorAB05
import Derived.Deep.CutBlock
import Derived.Deep.DeepCutAuto
import Derived.Deep.Light
import Derived.Laws.MathBits
set_option maxHeartbeats 4000000
namespace Go.Proofs.YtjaahnlpnkcimaaDoor
set_option maxRecDepth 100000
open Go.RowKit
attribute [local go_sem ↓] Go.wp_at_zero Go.wp_at_succ
theorem div_2_main (hi lo:Int) (h0:0<hi) (h1:hi<9223372036854775807) (l0:0≤lo) (l1:lo<18446744073709551616) (w:World) :
  Calls Tryd.prog 93 #[.int .u64 hi,.int .u64 lo,.int .u64 9223372036854775807] w fun e w'=>∃ r,e=.returned (.tuple #[.int .u64 ((hi*18446744073709551616+lo) / 9223372036854775807),.int .u64 r])∧w'=w:=by
 have hne:(hi == 0)=false:=beq_eq_false_iff_ne.2 (by omega)
 have hle:¬ (9223372036854775807≤hi):=by omega
 have H0:Hid (0<hi∧hi<9223372036854775807∧0≤lo∧lo<18446744073709551616):=⟨h0,h1,l0,l1⟩
 go_enter Tryd.func93,Tryd.ntmps93
 go_upto_block 0 with (go_at_call 94;with_reducible refine Calls.mono (lead_2 _) ?_;rintro e w' ⟨rfl,rfl⟩)
 obtain ⟨u,hu⟩:∃ u,u=(hi*2)+(lo / 9223372036854775808):=⟨_,rfl⟩
 have F1:bits .or .u64 (hi*2) (lo / 9223372036854775808)=u:=by
  have:=H0.out
  rw [hu];exact or_apart hi _ 1 (by omega) (by omega) (by omega) (by omega)
 obtain ⟨v,F2⟩:∃ v,IntKind.u64.wrap (lo*2)=v:=⟨_,rfl⟩
 rw [F1,F2]
 rw [IntKind.wrap_u64] at F2
 obtain ⟨u1,F3⟩:∃ u1,v / 4294967296=u1:=⟨_,rfl⟩
 obtain ⟨u0,hu0⟩:∃ u0,u0=v % 4294967296:=⟨_,rfl⟩
 have F4:bits .and .u64 v 4294967295=u0:=by rw [hu0];exact and_low32 v (by omega) (by omega)
 have F4':bits .and .u64 18446744073709551614 4294967295=4294967294:=by decide
 obtain ⟨q,hq⟩:∃ q,q=u / 4294967295:=⟨_,rfl⟩
 have hub:0≤u∧u<18446744073709551614:=by have:=H0.out;omega
 have F5:IntKind.u64.wrap (u.tdiv 4294967295)=q:=by rw [IntKind.wrap_u64,tdiv_pos hub.1,hq];omega
 obtain ⟨r,hr⟩:∃ r,r=u-q*4294967295:=⟨_,rfl⟩
 have F6:IntKind.u64.wrap (u-IntKind.u64.wrap (q*4294967295))=r:=by rw [IntKind.wrap_u64,IntKind.wrap_u64,hr];omega
 rw [F3,F4,F4',F5,F6]
 obtain ⟨Q1,hQ1⟩:∃ Q1,Q1=(u*4294967296+u1) / 18446744073709551614:=⟨_,rfl⟩
 have HA:Hid (0≤u∧u<18446744073709551614∧0≤u1∧u1<4294967296∧0≤u0∧u0<4294967296∧(hi*18446744073709551616+lo)*2=u*18446744073709551616+u1*4294967296+u0):=by have:=H0.out;exact ⟨by omega,by omega,by omega,by omega,by omega,by omega,by omega⟩
 have HQ:Hid (q*4294967295≤u∧u<q*4294967295+4294967295∧r=u-q*4294967295∧Q1*18446744073709551614≤u*4294967296+u1∧u*4294967296+u1<Q1*18446744073709551614+18446744073709551614):=⟨by omega,by omega,by omega,by omega,by omega⟩
 clear F1 F3 F4 F4' F5 F6 hu hq hr hQ1 hub hu0 l0 l1 h0 hle F2
 go_cut [15] (fun s15 wc=>s15=.int .u64 Q1∧wc=w')
 case first =>
  go_wp2_with fail
  refine wp_loop_rounds 2 ?_
  rw [rounds_succ]
  go_wp2_with fail
  all_goals first
   | (go_meet;refine ⟨congrArg (Value.int .u64) ?_,rfl⟩;go_light;have f1:=HA.out;have f2:=HQ.out;clear H0 HA HQ;have m1:(r+4294967295) % 18446744073709551616=r+4294967295:=(by omega);have m2:(4294967296*r) % 18446744073709551616=4294967296*r:=(by omega);have m3:(4294967296*r+u1) % 18446744073709551616=4294967296*r+u1:=(by omega);have m4:(q-1) % 18446744073709551616=q-1∨q=0:=(by omega);have m5:q*4294967294 % 18446744073709551616=q*4294967294∨4294967296≤q:=(by omega);simp only [IntKind.wrap_u64,m1,m2,m3] at *;(first | omega | (have m6:4294967296*(r+4294967295) % 18446744073709551616=4294967296*(r+4294967295):=(by omega);have m7:(4294967296*(r+4294967295)+u1) % 18446744073709551616=4294967296*(r+4294967295)+u1:=(by omega);have m8:(q-1) % 18446744073709551616=q-1:=(by omega);simp only [m6,m7,m8] at *;have m9:(q-1)*4294967294 % 18446744073709551616=(q-1)*4294967294∨4294967296≤q-1:=(by omega);omega)))
   | (rw [rounds_succ];go_wp2_with fail;all_goals first | (go_meet;refine ⟨congrArg (Value.int .u64) ?_,rfl⟩;go_light;have f1:=HA.out;have f2:=HQ.out;clear H0 HA HQ;have m1:(r+4294967295) % 18446744073709551616=r+4294967295:=(by omega);have m2:(4294967296*r) % 18446744073709551616=4294967296*r:=(by omega);have m3:(4294967296*r+u1) % 18446744073709551616=4294967296*r+u1:=(by omega);have m4:(q-1) % 18446744073709551616=q-1∨q=0:=(by omega);have m5:q*4294967294 % 18446744073709551616=q*4294967294∨4294967296≤q:=(by omega);simp only [IntKind.wrap_u64,m1,m2,m3] at *;(first | omega | (have m6:4294967296*(r+4294967295) % 18446744073709551616=4294967296*(r+4294967295):=(by omega);have m7:(4294967296*(r+4294967295)+u1) % 18446744073709551616=4294967296*(r+4294967295)+u1:=(by omega);have m8:(q-1) % 18446744073709551616=q-1:=(by omega);simp only [m6,m7,m8] at *;have m9:(q-1)*4294967294 % 18446744073709551616=(q-1)*4294967294∨4294967296≤q-1:=(by omega);omega))) | (exfalso;go_light;have f1:=HA.out;have f2:=HQ.out;clear H0 HA HQ;have m1:(r+4294967295) % 18446744073709551616=r+4294967295:=(by omega);have m2:(4294967296*r) % 18446744073709551616=4294967296*r:=(by omega);have m3:(4294967296*r+u1) % 18446744073709551616=4294967296*r+u1:=(by omega);have m4:(q-1) % 18446744073709551616=q-1∨q=0:=(by omega);have m5:q*4294967294 % 18446744073709551616=q*4294967294∨4294967296≤q:=(by omega);simp only [IntKind.wrap_u64,m1,m2,m3] at *;(first | omega | (have m6:4294967296*(r+4294967295) % 18446744073709551616=4294967296*(r+4294967295):=(by omega);have m7:(4294967296*(r+4294967295)+u1) % 18446744073709551616=4294967296*(r+4294967295)+u1:=(by omega);have m8:(q-1) % 18446744073709551616=q-1:=(by omega);simp only [m6,m7,m8] at *;have m9:(q-1)*4294967294 % 18446744073709551616=(q-1)*4294967294∨4294967296≤q-1:=(by omega);omega))))
 case rest =>
  obtain ⟨rfl,rfl⟩:=hcut
  go_upto_block 2 with fail
  obtain ⟨x,hx⟩:∃ x,x=u*4294967296+u1-Q1*18446744073709551614:=⟨_,rfl⟩
  have f1:=HA.out
  have f2:=HQ.out
  have G1:IntKind.u64.wrap (IntKind.u64.wrap (IntKind.u64.wrap (u*4294967296)+u1)-IntKind.u64.wrap (Q1*18446744073709551614))=x:=by simp only [IntKind.wrap_u64];omega
  have hxb:0≤x∧x<18446744073709551614:=by omega
  obtain ⟨p,hp⟩:∃ p,p=x / 4294967295:=⟨_,rfl⟩
  have G2:IntKind.u64.wrap (x.tdiv 4294967295)=p:=by rw [IntKind.wrap_u64,tdiv_pos hxb.1,hp];omega
  obtain ⟨z,hz⟩:∃ z,z=x-p*4294967295:=⟨_,rfl⟩
  have G3:IntKind.u64.wrap (x-IntKind.u64.wrap (p*4294967295))=z:=by rw [IntKind.wrap_u64,IntKind.wrap_u64,hz];omega
  rw [G1,G2,G3]
  obtain ⟨Q0,hQ0⟩:∃ Q0,Q0=(x*4294967296+u0) / 18446744073709551614:=⟨_,rfl⟩
  have HX:Hid (0≤x∧x<18446744073709551614∧x=u*4294967296+u1-Q1*18446744073709551614):=⟨by omega,by omega,by omega⟩
  have HP:Hid (p*4294967295≤x∧x<p*4294967295+4294967295∧z=x-p*4294967295∧Q0*18446744073709551614≤x*4294967296+u0∧x*4294967296+u0<Q0*18446744073709551614+18446744073709551614):=⟨by omega,by omega,by omega,by omega,by omega⟩
  clear G1 G2 G3 hx hp hz hQ0 hxb f1 f2
  go_cut [18] (fun s18 wd=>s18=.int .u64 Q0∧wd=wc)
  case first =>
   go_wp2_with fail
   refine wp_loop_rounds 2 ?_
   rw [rounds_succ]
   go_wp2_with fail
   all_goals first
    | (go_meet;refine ⟨congrArg (Value.int .u64) ?_,rfl⟩;go_light;have f0:=HA.out;have f1:=HX.out;have f2:=HP.out;clear H0 HA HQ;have m1:(z+4294967295) % 18446744073709551616=z+4294967295:=(by omega);have m2:(4294967296*z) % 18446744073709551616=4294967296*z:=(by omega);have m3:(4294967296*z+u0) % 18446744073709551616=4294967296*z+u0:=(by omega);have m4:(p-1) % 18446744073709551616=p-1∨p=0:=(by omega);have m5:p*4294967294 % 18446744073709551616=p*4294967294∨4294967296≤p:=(by omega);simp only [IntKind.wrap_u64,m1,m2,m3] at *;(first | omega | (have m6:4294967296*(z+4294967295) % 18446744073709551616=4294967296*(z+4294967295):=(by omega);have m7:(4294967296*(z+4294967295)+u0) % 18446744073709551616=4294967296*(z+4294967295)+u0:=(by omega);have m8:(p-1) % 18446744073709551616=p-1:=(by omega);simp only [m6,m7,m8] at *;have m9:(p-1)*4294967294 % 18446744073709551616=(p-1)*4294967294∨4294967296≤p-1:=(by omega);omega)))
    | (rw [rounds_succ];go_wp2_with fail;all_goals first | (go_meet;refine ⟨congrArg (Value.int .u64) ?_,rfl⟩;go_light;have f0:=HA.out;have f1:=HX.out;have f2:=HP.out;clear H0 HA HQ;have m1:(z+4294967295) % 18446744073709551616=z+4294967295:=(by omega);have m2:(4294967296*z) % 18446744073709551616=4294967296*z:=(by omega);have m3:(4294967296*z+u0) % 18446744073709551616=4294967296*z+u0:=(by omega);have m4:(p-1) % 18446744073709551616=p-1∨p=0:=(by omega);have m5:p*4294967294 % 18446744073709551616=p*4294967294∨4294967296≤p:=(by omega);simp only [IntKind.wrap_u64,m1,m2,m3] at *;(first | omega | (have m6:4294967296*(z+4294967295) % 18446744073709551616=4294967296*(z+4294967295):=(by omega);have m7:(4294967296*(z+4294967295)+u0) % 18446744073709551616=4294967296*(z+4294967295)+u0:=(by omega);have m8:(p-1) % 18446744073709551616=p-1:=(by omega);simp only [m6,m7,m8] at *;have m9:(p-1)*4294967294 % 18446744073709551616=(p-1)*4294967294∨4294967296≤p-1:=(by omega);omega))) | (exfalso;go_light;have f0:=HA.out;have f1:=HX.out;have f2:=HP.out;clear H0 HA HQ;have m1:(z+4294967295) % 18446744073709551616=z+4294967295:=(by omega);have m2:(4294967296*z) % 18446744073709551616=4294967296*z:=(by omega);have m3:(4294967296*z+u0) % 18446744073709551616=4294967296*z+u0:=(by omega);have m4:(p-1) % 18446744073709551616=p-1∨p=0:=(by omega);have m5:p*4294967294 % 18446744073709551616=p*4294967294∨4294967296≤p:=(by omega);simp only [IntKind.wrap_u64,m1,m2,m3] at *;(first | omega | (have m6:4294967296*(z+4294967295) % 18446744073709551616=4294967296*(z+4294967295):=(by omega);have m7:(4294967296*(z+4294967295)+u0) % 18446744073709551616=4294967296*(z+4294967295)+u0:=(by omega);have m8:(p-1) % 18446744073709551616=p-1:=(by omega);simp only [m6,m7,m8] at *;have m9:(p-1)*4294967294 % 18446744073709551616=(p-1)*4294967294∨4294967296≤p-1:=(by omega);omega))))
  case rest =>
   obtain ⟨rfl,rfl⟩:=hcut
   have E:IntKind.u64.wrap (IntKind.u64.wrap (Q1*4294967296)+Q0)=(hi*18446744073709551616+lo) / 9223372036854775807:=by
    have f0:=HA.out
    have f1:=HX.out
    have f2:=HP.out
    have f3:=H0.out
    have f4:=HQ.out
    clear H0 HA HX HP HQ
    simp only [IntKind.wrap_u64]
    omega
   go_wp2_with fail
   go_ret2
   exact ⟨_,rfl,rfl⟩
end Go.Proofs.YtjaahnlpnkcimaaDoor
