/- What the program's takeDown answers: what is left of a number of five words. -/
import Derived.Test.YtjaahnlpnkcimaaDoorRG10
import Derived.Deep.LoopGhost
import Derived.Deep.RegionWith
set_option maxHeartbeats 8000000
namespace Go.Proofs.YtjaahnlpnkcimaaDoor
set_option maxRecDepth 100000
open Go.RowKit
attribute [local go_sem ↓] Go.wp_at_zero Go.wp_at_succ
def A (d m:Int) (i:Nat):Int:=d*(m % B ^ i) / B ^ i
theorem A_zero (d m:Int):A d m 0=0:=by simp [A,Int.emod_one]
theorem A_lo {d:Int} (m:Int) (i:Nat) (hd:0≤d):0≤A d m i:=Int.ediv_nonneg (Int.mul_nonneg hd (Int.emod_nonneg _ (by have:=Bk_pos i;omega))) (Int.le_of_lt (Bk_pos i))
theorem A_step (d m:Int) (i:Nat):d*L i m+A d m i=d*(m % B ^ (i+1)) / B ^ i:=by
 have h:=Bk_pos i
 unfold A L
 rw [mod_succ,Int.mul_add,Int.mul_left_comm d (B ^ i),Int.add_mul_ediv_left _ _ (by omega)]
 omega
theorem A_next (d m:Int) (i:Nat):(d*L i m+A d m i) / 18446744073709551616=A d m (i+1):=by
 rw [A_step]
 unfold A
 have h:=Bk_pos i
 rw [show (18446744073709551616:Int)=B from rfl,Int.ediv_ediv_of_nonneg (Int.le_of_lt h),← Int.pow_succ]
theorem A_word (d m:Int) (i:Nat):(d*L i m+A d m i) % 18446744073709551616=L i (d*m):=by
 have h:=Bk_pos (i+1)
 have e:d*m=d*(m % B ^ (i+1))+B ^ i*(B*(d*(m / B ^ (i+1)))):=by
  have:=Int.mul_ediv_add_emod m (B ^ (i+1))
  rw [← Int.mul_assoc,← Int.pow_succ,Int.mul_left_comm,← Int.mul_add,Int.add_comm,this]
 rw [A_step]
 unfold L
 rw [e,Int.add_mul_ediv_left _ _ (by have:=Bk_pos i;omega)]
 generalize d*(m % B ^ (i+1)) / B ^ i=x
 generalize d*(m / B ^ (i+1))=y
 unfold B
 omega
theorem A_hi {d:Int} (m:Int) (i:Nat) (hd:0≤d) (hd2:d<18446744073709551616):A d m i<18446744073709551616:=by
 have h:=Bk_pos i
 have h1:=Int.emod_nonneg m (by omega:B ^ i≠0)
 have h2:=Int.emod_lt_of_pos m h
 unfold A
 refine Int.ediv_lt_of_lt_mul h ?_
 by_cases hz:d=0
 ·subst hz;rw [Int.zero_mul];exact Int.mul_pos (by omega) h
 ·calc d*(m % B ^ i)<d*B ^ i:=Int.mul_lt_mul_of_pos_left h2 (by omega)
   _≤18446744073709551616*B ^ i:=Int.mul_le_mul_of_nonneg_right (by omega) (by omega)
theorem above_eq {d:Int} (m:Int) (i:Nat) (hd:0≤d) (hd2:d<18446744073709551616):IntKind.u64.wrap (mHi d (L i m)+u1 d (L i m) (A d m i))=A d m (i+1):=by
 have h:=A_next d m i
 have a1:=A_lo m i hd
 have a2:=A_hi m i hd hd2
 have a3:=A_hi m (i+1) hd hd2
 have a4:=A_lo m (i+1) hd
 unfold mHi u1 mLo
 rw [IntKind.wrap_u64]
 generalize d*L i m=p at *
 omega
theorem low_eq (d m:Int) (i:Nat):t1 d (L i m) (A d m i)=L i (d*m):=by
 rw [← A_word]
 unfold t1 mLo
 generalize d*L i m=p at *
 omega
theorem add64_A {d:Int} (m:Int) (i:Nat) (hd:0≤d) (w:World):(callFunc 75 #[.int .u64 (mLo d (L i m)),.int .u64 (A d m i),.int .u64 0]).run Tryd.prog w =
  .ok (.value (.tuple #[.int .u64 (L i (d*m)),.int .u64 (u1 d (L i m) (A d m i))])) w:=by
 rw [← low_eq];exact add64_t1 d (L i m) (A d m i) (A_lo m i hd) w
theorem add64_A0 {d:Int} (m:Int) (hd:0≤d) (w:World):(callFunc 75 #[.int .u64 (mLo d (L 0 m)),.int .u64 0,.int .u64 0]).run Tryd.prog w =
  .ok (.value (.tuple #[.int .u64 (L 0 (d*m)),.int .u64 (u1 d (L 0 m) (A d m 0))])) w:=by
 have:=add64_A m 0 hd w
 rwa [A_zero] at this ⊢
theorem top_eq {d X m:Int} (hd:0≤d) (hd2:d<18446744073709551616) (hm:Num m):IntKind.u64.wrap (L 4 X-IntKind.u64.wrap (A d m 4+D X (d*m) 4))=L 4 (X-d*m):=by
 have e:=sub_word X (d*m) 4
 have f:=A_word d m 4
 have g:L 4 m=0:=by obtain ⟨h1,h2⟩:=hm;unfold M at h2;unfold L B;omega
 have a1:=A_lo m 4 hd
 have a2:=A_hi m 4 hd hd2
 rw [g,Int.mul_zero,Int.zero_add] at f
 rw [← e,← f,IntKind.wrap_u64,IntKind.wrap_u64]
 omega
theorem top_over {T m:Int} (hm:Num m) (h:C T m 4=1):IntKind.u64.wrap (L 4 T+1)=L 4 (T+m):=by
 have e:=add_word T m 4
 have g:L 4 m=0:=by obtain ⟨h1,h2⟩:=hm;unfold M at h2;unfold L B;omega
 rw [g,h,Int.add_zero] at e
 rw [IntKind.wrap_u64,e]
theorem top_stay {T m:Int} (hm:Num m) (h:C T m 4=0):L 4 T=L 4 (T+m):=by
 have e:=add_word T m 4
 have g:L 4 m=0:=by obtain ⟨h1,h2⟩:=hm;unfold M at h2;unfold L B;omega
 have l1:=L_lo 4 T
 have l2:=L_hi 4 T
 rw [g,h,Int.add_zero,Int.add_zero] at e
 rw [← e];omega
theorem top_zero {T m:Int} (hm:Num m) (h0:0≤T) (h1:T<m):L 4 T=0:=by
 obtain ⟨m1,m2⟩:=hm;unfold M at m2;unfold L B;omega
theorem top_not {T m:Int} (hm:Num m) (h0:T<0) (h1:0≤T+4*m):(L 4 T == 0)=false:=by
 obtain ⟨m1,m2⟩:=hm
 refine beq_eq_false_iff_ne.2 ?_
 unfold M at m2;unfold L B;omega
structure TakeS (w wr:World) (n:Nat) (T m:Int):Prop where
 below:Below w.heap.size w wr
 M0:Arr wr w.heap.size (L 0 m) (L 1 m) (L 2 m) (L 3 m)
 R:ArrW wr (w.heap.size+1+1) 0 0 0 0
 X:ArrW wr n (L 0 T) (L 1 T) (L 2 T) (L 3 T)
theorem take_any {k X:Int} (hk:0≤k∧k≤3) (h0:0≤X) (h1:X<md k*18446744073709551616) (w:World) :
  Calls Tryd.prog 85 #[.agg #[.int .u64 (L 0 (md k)),.int .u64 (L 1 (md k)),.int .u64 (L 2 (md k)),.int .u64 (L 3 (md k))],.agg #[.int .u64 (L 1 X),.int .u64 (L 2 X),.int .u64 (L 3 X),.int .u64 (L 4 X)],.int .u64 (L 0 X)] w fun e w'=>e=.returned (.agg #[.int .u64 (L 0 (X % md k)),.int .u64 (L 1 (X % md k)),.int .u64 (L 2 (X % md k)),.int .u64 (L 3 (X % md k))])∧Below w.heap.size w w':=by
 have nm:=md_num k
 have hpos:=md_pos hk
 have near:X-gs k (L 4 X) (L 3 X)*md k<md k∧0≤X-gs k (L 4 X) (L 3 X)*md k+4*md k :=
  gs_near hk h0 h1 (by obtain ⟨m1,m2⟩:=nm;unfold M at m2;unfold L B;omega) (by unfold L B;omega)
 have hd:=gs_lo hk (L_lo 3 X) (L_lo 4 X)
 have hd2:=gs_hi hk (x3:=L 4 X) (L_hi 3 X)
 have HGC:Hid (∀ w,Calls Tryd.prog 91 #[.agg #[.int .u64 (L 0 (md k)),.int .u64 (L 1 (md k)),.int .u64 (L 2 (md k)),.int .u64 (L 3 (md k))],.agg #[.int .u64 (L 1 X),.int .u64 (L 2 X),.int .u64 (L 3 X),.int .u64 (L 4 X)]] w fun e w'=>e=.returned (.int .u64 (gs k (L 4 X) (L 3 X)))∧Below w.heap.size w w'):=fun w=>guess_any hk _ _ _ _ (L_lo 3 X) (L_hi 3 X) (L_lo 4 X) w
 have HN:Hid (X-gs k (L 4 X) (L 3 X)*md k<md k∧0≤X-gs k (L 4 X) (L 3 X)*md k+4*md k∧0<md k):=⟨near.1,near.2,hpos⟩
 clear near h0 h1 hk hpos
 generalize gs k (L 4 X) (L 3 X)=d at *
 generalize md k=m at *
 have x1:IntKind.u64.wrap (mHi d (L 0 m)+u1 d (L 0 m) (A d m 0))=A d m 1:=above_eq m 0 hd hd2
 have x2:IntKind.u64.wrap (mHi d (L 1 m)+u1 d (L 1 m) (A d m 1))=A d m 2:=above_eq m 1 hd hd2
 have x3:IntKind.u64.wrap (mHi d (L 2 m)+u1 d (L 2 m) (A d m 2))=A d m 3:=above_eq m 2 hd hd2
 have x4:IntKind.u64.wrap (mHi d (L 3 m)+u1 d (L 3 m) (A d m 3))=A d m 4:=above_eq m 3 hd hd2
 have xt:=top_eq (X:=X) hd hd2 nm
 go_enter Tryd.func85,Tryd.ntmps85
 go_wp2_with fail
 with_reducible refine Calls.mono (HGC.out _) ?_
 rintro e w1 ⟨rfl,hb1⟩
 have A1:=(((Arr.new w (w.heap.size) rfl 67 (L 0 m) (L 1 m) (L 2 m) (L 3 m)).alloc _).alloc _).keep hb1
 have X1:=((Arr.new _ (w.heap.size+1) (by simp) 33 (L 1 X) (L 2 X) (L 3 X) (L 4 X)).alloc _).keep hb1
 have R1:=(ArrW.new _ (w.heap.size+1+1) (by simp) 33 0 0 0 0).keep hb1
 have hw1:Below w.heap.size w w1:=K.call (K.alloc (K.alloc (K.alloc (Below.refl _ w) _) _) _) hb1
 clear hb1 HGC
 have ⟨ka,ka0,ka1,ka2,ka3⟩:=A1
 have ⟨kx,kx0,kx1,kx2,kx3⟩:=X1
 go_wp2_with fail
 have hS:Hid (∀ w',Below w1.heap.size w1 w'→(Below w1.heap.size w1 w'∧w'.cell? ⟨w.heap.size+1,0,none⟩=some (.int .u64 (L 1 X))∧w'.cell? ⟨w.heap.size+1,1,none⟩=some (.int .u64 (L 2 X))∧w'.cell? ⟨w.heap.size+1,2,none⟩=some (.int .u64 (L 3 X))∧w'.cell? ⟨w.heap.size+1,3,none⟩=some (.int .u64 (L 4 X)))):=fun w' hB=>⟨hB,later hB kx0,later hB kx1,later hB kx2,later hB kx3⟩
 go_region_held3 (fun w'=>Below w1.heap.size w1 w'∧w'.cell? ⟨w.heap.size+1,0,none⟩=some (.int .u64 (L 1 X))∧w'.cell? ⟨w.heap.size+1,1,none⟩=some (.int .u64 (L 2 X))∧w'.cell? ⟨w.heap.size+1,2,none⟩=some (.int .u64 (L 3 X))∧w'.cell? ⟨w.heap.size+1,3,none⟩=some (.int .u64 (L 4 X)))
  ((refine hS.out _ ?_;first | (with_reducible exact K.drew (Below.refl _ _)) | (with_reducible exact K.drew (K.alloc (Below.refl _ _) _)) | (with_reducible exact Below.refl _ _) | (with_reducible exact K.call (by go_split_ands;assumption) hk) | (with_reducible exact K.alloc (by go_split_ands;assumption) _) | (with_reducible exact K.again (by go_split_ands;assumption) (by omega) _) | (with_reducible exact K.set (by go_split_ands;assumption) (by first | omega | (simp;done) | (simp;omega)) _) | (with_reducible exact K.set (K.set (K.set (K.set (by go_split_ands;assumption) (by first | omega | (simp;done) | (simp;omega)) _) (by first | omega | (simp;done) | (simp;omega)) _) (by first | omega | (simp;done) | (simp;omega)) _) (by first | omega | (simp;done) | (simp;omega)) _)))
  (fail)
 go_wp2_with fail
 clear hS
 refine wp_loop_rounds 5 ?_
 rw [rounds_succ]
 go_wp2_with (first | (go_at_call 82;with_reducible refine Calls.mono (mul64_told d (L 0 m) hd hd2 (L_lo _ _) (L_hi _ _) _) ?_;rintro e w' ⟨rfl,rfl⟩) | simp only [add64_A0 m hd] | simp only [sub64_0 X (d*m)])
 rw [rounds_succ]
 go_wp2_with (first | (go_at_call 82;with_reducible refine Calls.mono (mul64_told d (L 1 m) hd hd2 (L_lo _ _) (L_hi _ _) _) ?_;rintro e w' ⟨rfl,rfl⟩) | simp only [add64_A m 1 hd] | simp only [sub64_1 X (d*m)])
 rw [rounds_succ]
 go_wp2_with (first | (go_at_call 82;with_reducible refine Calls.mono (mul64_told d (L 2 m) hd hd2 (L_lo _ _) (L_hi _ _) _) ?_;rintro e w' ⟨rfl,rfl⟩) | simp only [add64_A m 2 hd] | simp only [sub64_2 X (d*m)])
 rw [rounds_succ]
 go_wp2_with (first | (go_at_call 82;with_reducible refine Calls.mono (mul64_told d (L 3 m) hd hd2 (L_lo _ _) (L_hi _ _) _) ?_;rintro e w' ⟨rfl,rfl⟩) | simp only [add64_A m 3 hd] | simp only [sub64_3 X (d*m)])
 rw [rounds_succ]
 go_wp2_with fail
 have hn:w.heap.size+1+1<w1.heap.size:=R1.lt
 have hS1:TakeS w (w1.alloc (.cells #[.int .u64 (L 0 (X-d*m)),.int .u64 (L 1 (X-d*m)),.int .u64 (L 2 (X-d*m)),.int .u64 (L 3 (X-d*m))] 33)).drew w1.heap.size (X-d*m) m :=
  ⟨K.drew (K.alloc hw1 _),(A1.alloc _).keep (Below.refl _ _).drew,(R1.alloc _).keep (Below.refl _ _).drew,(ArrW.new w1 w1.heap.size rfl 33 _ _ _ _).keep (Below.refl _ _).drew⟩
 clear A1 X1 R1 hw1 ka ka0 ka1 ka2 ka3 kx kx0 kx1 kx2 kx3 x1 x2 x3 x4 xt
 go_loopg [9] (m-(X-d*m)).toNat (fun g s9 wr=>∃ T:Int,g=(m-T).toNat∧s9=.int .u64 (L 4 T)∧T<m∧0≤T+4*m∧T % m=X % m∧TakeS w wr w1.heap.size T m)
 case atStart=>exact ⟨_,rfl,rfl,HN.out.1,HN.out.2.1,Int.sub_mul_emod_self_right _ _ _,hS1⟩
 case round =>
  obtain ⟨T,hg,rfl,hT1,hT4,hTm,hS⟩:=hrel
  have HT:Hid (gk=(m-T).toNat∧T<m∧0≤T+4*m∧T % m=X % m):=⟨hg,hT1,hT4,hTm⟩
  clear hg hTm hS1
  have hS0:=hS
  obtain ⟨hbw,⟨ml,m0,m1,m2,m3⟩,⟨rl,r0,r1,r2,r3,rf0,rf1,rf2,rf3⟩,⟨xl,x0,x1,x2,x3,xf0,xf1,xf2,xf3⟩⟩:=hS0
  by_cases hneg:T<0
  ·have hz:=top_not nm hneg hT4
   clear hT1 hT4
   have hC:C T m 4=0∨C T m 4=1:=by have:=C_lo T m 4;have:=C_hi T m 4;omega
   rcases hC with hC | hC
   ·have ht:=top_stay nm hC
    have HTS:Hid (L 4 T=L 4 (T+m)):=ht
    have hCb:(C T m 4 == 1)=false:=by rw [hC];rfl
    clear hC ht
    go_wp2_with fail
    with_reducible refine Calls.mono (add_walk T m _) ?_
    rw [hCb]
    clear hbw ml m0 m1 m2 m3 rl r0 r1 r2 r3 rf0 rf1 rf2 rf3 xl x0 x1 x2 x3 xf0 xf1 xf2 xf3
    rintro e w2 ⟨rfl,hb2⟩
    have hS2:TakeS w w2 w1.heap.size T m:=⟨K.call hS.below hb2,hS.M0.keep hb2,hS.R.keep hb2,hS.X.keep hb2⟩
    clear hS hb2
    have hS0:=hS2
    obtain ⟨hbw,⟨ml,m0,m1,m2,m3⟩,⟨rl,r0,r1,r2,r3,rf0,rf1,rf2,rf3⟩,⟨xl,x0,x1,x2,x3,xf0,xf1,xf2,xf3⟩⟩:=hS0
    go_wp2_with fail
    go_roundg (m-(T+m)).toNat
    case measure=>have f:=HT.out;have:=HN.out;rw [f.1];omega
    case rel =>
     have f:=HT.out
     exact ⟨T+m,rfl,congrArg _ HTS.out,by omega,by have:=HN.out;omega,by rw [Int.add_emod_right];exact f.2.2.2,⟨K.set4 hS2.below (by omega) _ _ _ _,hS2.M0.set4 (by omega) _ _ _ _,hS2.R.set4 (by omega) _ _ _ _,hS2.X.stored _ _ _ _⟩⟩
   ·have ht:=top_over nm hC
    have hCb:(C T m 4 == 1)=true:=by rw [hC];rfl
    clear hC
    go_wp2_with fail
    with_reducible refine Calls.mono (add_walk T m _) ?_
    rw [hCb]
    clear hbw ml m0 m1 m2 m3 rl r0 r1 r2 r3 rf0 rf1 rf2 rf3 xl x0 x1 x2 x3 xf0 xf1 xf2 xf3
    rintro e w2 ⟨rfl,hb2⟩
    have hS2:TakeS w w2 w1.heap.size T m:=⟨K.call hS.below hb2,hS.M0.keep hb2,hS.R.keep hb2,hS.X.keep hb2⟩
    clear hS hb2
    have hS0:=hS2
    obtain ⟨hbw,⟨ml,m0,m1,m2,m3⟩,⟨rl,r0,r1,r2,r3,rf0,rf1,rf2,rf3⟩,⟨xl,x0,x1,x2,x3,xf0,xf1,xf2,xf3⟩⟩:=hS0
    go_wp2_with fail
    go_roundg (m-(T+m)).toNat
    case measure=>have f:=HT.out;have:=HN.out;rw [f.1];omega
    case rel =>
     have f:=HT.out
     exact ⟨T+m,rfl,rfl,by omega,by have:=HN.out;omega,by rw [Int.add_emod_right];exact f.2.2.2,⟨K.set4 hS2.below (by omega) _ _ _ _,hS2.M0.set4 (by omega) _ _ _ _,hS2.R.set4 (by omega) _ _ _ _,hS2.X.stored _ _ _ _⟩⟩
  ·have hz:=top_zero nm (by omega) hT1
   clear hT1 hT4
   go_wp2_with fail
   refine bodyPost_ret (v:=.agg #[.int .u64 (L 0 T),.int .u64 (L 1 T),.int .u64 (L 2 T),.int .u64 (L 3 T)]) (by simp [results,Tryd.results85,go_sem,r0,r1,r2,r3]) rfl ⟨?_,K.set4 hS.below (by omega) _ _ _ _⟩
   have f:=HT.out
   rw [← f.2.2.2,Int.emod_eq_of_lt (by omega) f.2.1]
end Go.Proofs.YtjaahnlpnkcimaaDoor
