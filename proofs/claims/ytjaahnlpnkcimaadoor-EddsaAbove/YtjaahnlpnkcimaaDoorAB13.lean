/- What the program's reduce answers: what is left of a number of eight words. -/
import Derived.Test.YtjaahnlpnkcimaaDoorAB11
import Derived.Test.YtjaahnlpnkcimaaDoorAB12
import Derived.Deep.DeepCutAuto
import Derived.Deep.CutBlock
set_option maxHeartbeats 8000000
namespace Go.Proofs.YtjaahnlpnkcimaaDoor
set_option maxRecDepth 100000
open Go.RowKit
attribute [local go_sem ↓] Go.wp_at_zero Go.wp_at_succ
attribute [local go_sem] eq4m
structure Wide (x:Int):Prop where
 lo:0≤x
 hi:x<13407807929942597099574024998205846127479365820592393377723561443721764030073546976801874298166903427690031858186486050853753882811946569946433649006084096
theorem L_up (y n:Int) (hn:0≤n) (hn2:n<18446744073709551616) (i:Nat):L (i+1) (y*18446744073709551616+n)=L i y:=by
 unfold L
 rw [Int.pow_succ,Int.mul_comm (B ^ i) B,← Int.ediv_ediv_of_nonneg (by unfold B;omega),show (y*18446744073709551616+n) / B=y by unfold B;omega]
theorem L_down (y n:Int) (hn:0≤n) (hn2:n<18446744073709551616):L 0 (y*18446744073709551616+n)=n:=by
 unfold L B;omega
theorem take_told {k y n:Int} (hk:0≤k∧k≤3) (h0:0≤y) (h1:y<md k) (hn:0≤n) (hn2:n<18446744073709551616) (w:World) :
  Calls Tryd.prog 85 #[.agg #[.int .u64 (L 0 (md k)),.int .u64 (L 1 (md k)),.int .u64 (L 2 (md k)),.int .u64 (L 3 (md k))],.agg #[.int .u64 (L 0 y),.int .u64 (L 1 y),.int .u64 (L 2 y),.int .u64 (L 3 y)],.int .u64 n] w fun e w'=>e=.returned (.agg #[.int .u64 (L 0 ((y*18446744073709551616+n) % md k)),.int .u64 (L 1 ((y*18446744073709551616+n) % md k)),.int .u64 (L 2 ((y*18446744073709551616+n) % md k)),.int .u64 (L 3 ((y*18446744073709551616+n) % md k))])∧Below w.heap.size w w':=by
 have h:=take_any hk (X:=y*18446744073709551616+n) (by omega) (by omega) w
 rw [L_down y n hn hn2,L_up y n hn hn2 0,L_up y n hn hn2 1,L_up y n hn hn2 2,L_up y n hn hn2 3] at h
 exact h
theorem step_val (x m:Int) (i:Nat):(x / B ^ (i+1) % m*18446744073709551616+L i x) % m=x / B ^ i % m:=by
 have e:x / B ^ i=x / B ^ (i+1)*18446744073709551616+L i x:=by
  have:=Int.mul_ediv_add_emod (x / B ^ i) B
  unfold L
  rw [Int.pow_succ,← Int.ediv_ediv_of_nonneg (Int.le_of_lt (Bk_pos i))]
  rw [show (18446744073709551616:Int)=B from rfl,Int.mul_comm]
  omega
 rw [e,Int.add_emod,Int.mul_emod,Int.emod_emod,← Int.mul_emod,← Int.add_emod]
theorem take_step {k:Int} (hk:0≤k∧k≤3) (x:Int) (i:Nat) (w:World) :
  Calls Tryd.prog 85 #[.agg #[.int .u64 (L 0 (md k)),.int .u64 (L 1 (md k)),.int .u64 (L 2 (md k)),.int .u64 (L 3 (md k))],.agg #[.int .u64 (L 0 (x / B ^ (i+1) % md k)),.int .u64 (L 1 (x / B ^ (i+1) % md k)),.int .u64 (L 2 (x / B ^ (i+1) % md k)),.int .u64 (L 3 (x / B ^ (i+1) % md k))],.int .u64 (L i x)] w fun e w'=>e=.returned (.agg #[.int .u64 (L 0 (x / B ^ i % md k)),.int .u64 (L 1 (x / B ^ i % md k)),.int .u64 (L 2 (x / B ^ i % md k)),.int .u64 (L 3 (x / B ^ i % md k))])∧Below w.heap.size w w':=by
 have hp:=md_pos hk
 have h:=take_told hk (Int.emod_nonneg (x / B ^ (i+1)) (by omega)) (Int.emod_lt_of_pos (x / B ^ (i+1)) hp) (L_lo i x) (L_hi i x) w
 rw [step_val] at h
 exact h
theorem top_three {k x:Int} (hk:0≤k∧k≤3) (hx:Wide x):L 5 x=L 0 (x / B ^ 5 % md k)∧L 6 x=L 1 (x / B ^ 5 % md k)∧L 7 x=L 2 (x / B ^ 5 % md k)∧0=L 3 (x / B ^ 5 % md k):=by
 obtain ⟨h0,h1⟩:=hx
 have hm:6277101735386680763835789423207666416102355444464034512896<md k:=by rcases md_cases hk with rfl | rfl | rfl | rfl <;> decide
 rw [Int.emod_eq_of_lt (by unfold B;omega) (by unfold B;omega)]
 unfold L B
 exact ⟨by omega,by omega,by omega,by omega⟩
theorem ArrW.drew {W:World} {b:Nat} {x0 x1 x2 x3:Int} (h:ArrW W b x0 x1 x2 x3):ArrW W.drew b x0 x1 x2 x3:=h.keep (Below.refl _ _).drew
structure RedS (w wr:World) (m x y:Int):Prop where
 below:Below w.heap.size w wr
 M0:Arr wr w.heap.size (L 0 m) (L 1 m) (L 2 m) (L 3 m)
 X:Arr8 wr (w.heap.size+1) x
 R:ArrW wr (w.heap.size+1+1) 0 0 0 0
 Y:ArrW wr (w.heap.size+1+1+1) (L 0 y) (L 1 y) (L 2 y) (L 3 y)
theorem RedS.step {w wr w1:World} {m x y:Int} (h:RedS w wr m x y) (hk:Below wr.heap.size wr w1) (z:Int) :
  RedS w ((((w1.setCell ⟨w.heap.size+1+1+1,0,none⟩ (.int .u64 (L 0 z))).setCell ⟨w.heap.size+1+1+1,1,none⟩ (.int .u64 (L 1 z))).setCell ⟨w.heap.size+1+1+1,2,none⟩ (.int .u64 (L 2 z))).setCell ⟨w.heap.size+1+1+1,3,none⟩ (.int .u64 (L 3 z))) m x z :=
 ⟨K.set4 (K.call h.below hk) (by omega) _ _ _ _,(h.M0.keep hk).set4 (by omega) _ _ _ _,(h.X.keep hk).set4 (by omega) _ _ _ _,(h.R.keep hk).set4 (by omega) _ _ _ _,(h.Y.keep hk).stored _ _ _ _⟩
theorem RedS.drew {w wr:World} {m x y:Int} (h:RedS w wr m x y):RedS w wr.drew m x y :=
 ⟨K.drew h.below,h.M0.keep (Below.refl _ _).drew,h.X.keep (Below.refl _ _).drew,h.R.keep (Below.refl _ _).drew,h.Y.keep (Below.refl _ _).drew⟩
theorem red_any {k x:Int} (hk:0≤k∧k≤3) (hx:Wide x) (w:World) :
  Calls Tryd.prog 74 #[.agg #[.int .u64 (L 0 (md k)),.int .u64 (L 1 (md k)),.int .u64 (L 2 (md k)),.int .u64 (L 3 (md k))],.agg #[.int .u64 (L 0 x),.int .u64 (L 1 x),.int .u64 (L 2 x),.int .u64 (L 3 x),.int .u64 (L 4 x),.int .u64 (L 5 x),.int .u64 (L 6 x),.int .u64 (L 7 x)]] w fun e w'=>e=.returned (.agg #[.int .u64 (L 0 (x % md k)),.int .u64 (L 1 (x % md k)),.int .u64 (L 2 (x % md k)),.int .u64 (L 3 (x % md k))])∧Below w.heap.size w w':=by
 have hl:=md_odd hk
 obtain ⟨q5,q6,q7,q8⟩:=top_three hk hx
 have H5:Hid (L 5 x=L 0 (x / B ^ 5 % md k)∧L 6 x=L 1 (x / B ^ 5 % md k)∧L 7 x=L 2 (x / B ^ 5 % md k)∧0=L 3 (x / B ^ 5 % md k)):=⟨q5,q6,q7,q8⟩
 have HC:Hid (∀ (i:Nat) (w:World),Calls Tryd.prog 85 #[.agg #[.int .u64 (L 0 (md k)),.int .u64 (L 1 (md k)),.int .u64 (L 2 (md k)),.int .u64 (L 3 (md k))],.agg #[.int .u64 (L 0 (x / B ^ (i+1) % md k)),.int .u64 (L 1 (x / B ^ (i+1) % md k)),.int .u64 (L 2 (x / B ^ (i+1) % md k)),.int .u64 (L 3 (x / B ^ (i+1) % md k))],.int .u64 (L i x)] w fun e w'=>e=.returned (.agg #[.int .u64 (L 0 (x / B ^ i % md k)),.int .u64 (L 1 (x / B ^ i % md k)),.int .u64 (L 2 (x / B ^ i % md k)),.int .u64 (L 3 (x / B ^ i % md k))])∧Below w.heap.size w w'):=fun i w=>take_step hk x i w
 clear q5 q6 q7 q8 hx hk
 generalize md k=m at *
 go_enter Tryd.func74,Tryd.ntmps74
 go_wp2_with fail
 have hS1:RedS w ((((w.alloc (.cells #[.int .u64 (L 0 m),.int .u64 (L 1 m),.int .u64 (L 2 m),.int .u64 (L 3 m)] 67)).alloc (.cells #[.int .u64 (L 0 x),.int .u64 (L 1 x),.int .u64 (L 2 x),.int .u64 (L 3 x),.int .u64 (L 4 x),.int .u64 (L 5 x),.int .u64 (L 6 x),.int .u64 (L 7 x)] 63)).alloc (.cells #[.int .u64 0,.int .u64 0,.int .u64 0,.int .u64 0] 33)).alloc (.cells #[.int .u64 (L 5 x),.int .u64 (L 6 x),.int .u64 (L 7 x),.int .u64 0] 33)) m x (x / B ^ 5 % m):=by
  have f:=H5.out
  rw [f.1,f.2.1,f.2.2.1]
  refine ⟨K.alloc (K.alloc (K.alloc (K.alloc (Below.refl _ w) _) _) _) _,?_,?_,?_,?_⟩
  ·exact (((Arr.new w (w.heap.size) rfl 67 _ _ _ _).alloc _).alloc _).alloc _
  ·have g:=((Arr8.new (w.alloc (.cells #[.int .u64 (L 0 m),.int .u64 (L 1 m),.int .u64 (L 2 m),.int .u64 (L 3 m)] 67)) (w.heap.size+1) (by simp) 63 x).alloc (.cells #[.int .u64 0,.int .u64 0,.int .u64 0,.int .u64 0] 33)).alloc (.cells #[.int .u64 (L 0 (x / B ^ 5 % m)),.int .u64 (L 1 (x / B ^ 5 % m)),.int .u64 (L 2 (x / B ^ 5 % m)),.int .u64 0] 33)
   rw [f.1,f.2.1,f.2.2.1] at g
   exact g
  ·exact (ArrW.new _ (w.heap.size+1+1) (by simp) 33 0 0 0 0).alloc _
  have g:=ArrW.new ((((w.alloc (.cells #[.int .u64 (L 0 m),.int .u64 (L 1 m),.int .u64 (L 2 m),.int .u64 (L 3 m)] 67)).alloc (.cells #[.int .u64 (L 0 x),.int .u64 (L 1 x),.int .u64 (L 2 x),.int .u64 (L 3 x),.int .u64 (L 4 x),.int .u64 (L 0 (x / B ^ 5 % m)),.int .u64 (L 1 (x / B ^ 5 % m)),.int .u64 (L 2 (x / B ^ 5 % m))] 63)).alloc (.cells #[.int .u64 0,.int .u64 0,.int .u64 0,.int .u64 0] 33))) (w.heap.size+1+1+1) (by simp) 33 (L 0 (x / B ^ 5 % m)) (L 1 (x / B ^ 5 % m)) (L 2 (x / B ^ 5 % m)) 0
  rw [show ArrW _ _ _ _ _ 0=ArrW _ _ _ _ _ (L 3 (x / B ^ 5 % m)) from congrArg _ f.2.2.2] at g
  exact g
 clear H5
 go_loopg [6] 5 (fun g s6 wr=>(g=5∧s6=.int .i64 4∧RedS w wr m x (x / B ^ 5 % m))∨(g=4∧s6=.int .i64 3∧RedS w wr m x (x / B ^ 4 % m))∨(g=3∧s6=.int .i64 2∧RedS w wr m x (x / B ^ 3 % m))∨(g=2∧s6=.int .i64 1∧RedS w wr m x (x / B ^ 2 % m))∨(g=1∧s6=.int .i64 0∧RedS w wr m x (x / B ^ 1 % m))∨(g=0∧s6=.int .i64 (-1)∧RedS w wr m x (x % m)))
 case atStart=>exact Or.inl ⟨rfl,rfl,hS1⟩
 case round =>
  clear hS1
  rcases hrel with ⟨rfl,rfl,hS⟩ | ⟨rfl,rfl,hS⟩ | ⟨rfl,rfl,hS⟩ | ⟨rfl,rfl,hS⟩ | ⟨rfl,rfl,hS⟩ | ⟨rfl,rfl,hS⟩
  ·go_upto_block 1 with fail
   go_cut [] (fun wc=>RedS w wc m x (x / B ^ 4 % m))
   case first =>
    have hS':=hS
    have hY:=hS.Y
    obtain ⟨_,⟨ml,m0,m1,m2,m3⟩,hX,_,⟨yl,y0,y1,y2,y3,yf0,yf1,yf2,yf3⟩⟩:=hS
    have x4:=hX.c4
    clear hX
    go_wp2_with fail
    go_region_with (go_at_call 85;with_reducible refine Calls.mono (HC.out 4 _) ?_;rintro e w1 ⟨rfl,hk⟩;obtain ⟨kl,k0,k1,k2,k3,kf0,kf1,kf2,kf3⟩:=hY.drew.keep hk)
    all_goals (go_wp2_with fail;go_meet;exact hS'.drew.step hk _)
   case rest =>
    go_wp2_with fail
    go_roundg 4
    case measure=>omega
    case rel=>exact Or.inr (Or.inl ⟨rfl,rfl,hcut⟩)
  ·go_upto_block 1 with fail
   go_cut [] (fun wc=>RedS w wc m x (x / B ^ 3 % m))
   case first =>
    have hS':=hS
    have hY:=hS.Y
    obtain ⟨_,⟨ml,m0,m1,m2,m3⟩,hX,_,⟨yl,y0,y1,y2,y3,yf0,yf1,yf2,yf3⟩⟩:=hS
    have x3:=hX.c3
    clear hX
    go_wp2_with fail
    go_region_with (go_at_call 85;with_reducible refine Calls.mono (HC.out 3 _) ?_;rintro e w1 ⟨rfl,hk⟩;obtain ⟨kl,k0,k1,k2,k3,kf0,kf1,kf2,kf3⟩:=hY.drew.keep hk)
    all_goals (go_wp2_with fail;go_meet;exact hS'.drew.step hk _)
   case rest =>
    go_wp2_with fail
    go_roundg 3
    case measure=>omega
    case rel=>exact Or.inr (Or.inr (Or.inl ⟨rfl,rfl,hcut⟩))
  ·go_upto_block 1 with fail
   go_cut [] (fun wc=>RedS w wc m x (x / B ^ 2 % m))
   case first =>
    have hS':=hS
    have hY:=hS.Y
    obtain ⟨_,⟨ml,m0,m1,m2,m3⟩,hX,_,⟨yl,y0,y1,y2,y3,yf0,yf1,yf2,yf3⟩⟩:=hS
    have x2:=hX.c2
    clear hX
    go_wp2_with fail
    go_region_with (go_at_call 85;with_reducible refine Calls.mono (HC.out 2 _) ?_;rintro e w1 ⟨rfl,hk⟩;obtain ⟨kl,k0,k1,k2,k3,kf0,kf1,kf2,kf3⟩:=hY.drew.keep hk)
    all_goals (go_wp2_with fail;go_meet;exact hS'.drew.step hk _)
   case rest =>
    go_wp2_with fail
    go_roundg 2
    case measure=>omega
    case rel=>exact Or.inr (Or.inr (Or.inr (Or.inl ⟨rfl,rfl,hcut⟩)))
  ·go_upto_block 1 with fail
   go_cut [] (fun wc=>RedS w wc m x (x / B ^ 1 % m))
   case first =>
    have hS':=hS
    have hY:=hS.Y
    obtain ⟨_,⟨ml,m0,m1,m2,m3⟩,hX,_,⟨yl,y0,y1,y2,y3,yf0,yf1,yf2,yf3⟩⟩:=hS
    have x1:=hX.c1
    clear hX
    go_wp2_with fail
    go_region_with (go_at_call 85;with_reducible refine Calls.mono (HC.out 1 _) ?_;rintro e w1 ⟨rfl,hk⟩;obtain ⟨kl,k0,k1,k2,k3,kf0,kf1,kf2,kf3⟩:=hY.drew.keep hk)
    all_goals (go_wp2_with fail;go_meet;exact hS'.drew.step hk _)
   case rest =>
    go_wp2_with fail
    go_roundg 1
    case measure=>omega
    case rel=>exact Or.inr (Or.inr (Or.inr (Or.inr (Or.inl ⟨rfl,rfl,hcut⟩))))
  ·go_upto_block 1 with fail
   go_cut [] (fun wc=>RedS w wc m x (x % m))
   case first =>
    have hS':=hS
    have hY:=hS.Y
    obtain ⟨_,⟨ml,m0,m1,m2,m3⟩,hX,_,⟨yl,y0,y1,y2,y3,yf0,yf1,yf2,yf3⟩⟩:=hS
    have x0:=hX.c0
    clear hX
    go_wp2_with fail
    go_region_with (go_at_call 85;with_reducible refine Calls.mono (HC.out 0 _) ?_;rintro e w1 ⟨rfl,hk⟩;obtain ⟨kl,k0,k1,k2,k3,kf0,kf1,kf2,kf3⟩:=hY.drew.keep hk)
    all_goals (go_wp2_with fail;go_meet;exact hS'.drew.step hk _)
   case rest =>
    go_wp2_with fail
    go_roundg 0
    case measure=>omega
    case rel=>exact Or.inr (Or.inr (Or.inr (Or.inr (Or.inr (⟨rfl,rfl,hcut⟩)))))
  ·obtain ⟨hbw,⟨ml,m0,m1,m2,m3⟩,hX,⟨rl,r0,r1,r2,r3,rf0,rf1,rf2,rf3⟩,⟨yl,y0,y1,y2,y3,yf0,yf1,yf2,yf3⟩⟩:=hS
   go_wp2_with fail
   exact bodyPost_ret (v:=.agg #[.int .u64 (L 0 (x % m)),.int .u64 (L 1 (x % m)),.int .u64 (L 2 (x % m)),.int .u64 (L 3 (x % m))]) (by simp [results,Tryd.results74,go_sem,r0,r1,r2,r3]) rfl ⟨rfl,K.set4 hbw (by omega) _ _ _ _⟩
end Go.Proofs.YtjaahnlpnkcimaaDoor
