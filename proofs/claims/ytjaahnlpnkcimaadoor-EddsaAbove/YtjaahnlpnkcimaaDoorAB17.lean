/- The program's table of moduli, and what the functions on a modulus answer. -/
import Derived.Test.YtjaahnlpnkcimaaDoorAB13
import Derived.Test.YtjaahnlpnkcimaaDoorAB16
set_option maxHeartbeats 2000000
namespace Go.Proofs.YtjaahnlpnkcimaaDoor
set_option maxRecDepth 100000
open Go.RowKit
attribute [local go_sem ↓] Go.wp_at_zero Go.wp_at_succ
attribute [local go_sem] eq4m
structure Tab (w:World):Prop where
 c00:w.cell? ⟨1,0,none⟩=some (.int .u64 18446744073709551615)
 c01:w.cell? ⟨1,1,none⟩=some (.int .u64 4294967295)
 c02:w.cell? ⟨1,2,none⟩=some (.int .u64 0)
 c03:w.cell? ⟨1,3,none⟩=some (.int .u64 18446744069414584321)
 c10:w.cell? ⟨1,4,none⟩=some (.int .u64 17562291160714782033)
 c11:w.cell? ⟨1,5,none⟩=some (.int .u64 13611842547513532036)
 c12:w.cell? ⟨1,6,none⟩=some (.int .u64 18446744073709551615)
 c13:w.cell? ⟨1,7,none⟩=some (.int .u64 18446744069414584320)
 c20:w.cell? ⟨1,8,none⟩=some (.int .u64 18446744073709551597)
 c21:w.cell? ⟨1,9,none⟩=some (.int .u64 18446744073709551615)
 c22:w.cell? ⟨1,10,none⟩=some (.int .u64 18446744073709551615)
 c23:w.cell? ⟨1,11,none⟩=some (.int .u64 9223372036854775807)
 c30:w.cell? ⟨1,12,none⟩=some (.int .u64 6346243789798364141)
 c31:w.cell? ⟨1,13,none⟩=some (.int .u64 1503914060200516822)
 c32:w.cell? ⟨1,14,none⟩=some (.int .u64 0)
 c33:w.cell? ⟨1,15,none⟩=some (.int .u64 1152921504606846976)
 ccurveD0:w.cell? ⟨4,0,none⟩=some (.int .u64 8496970652267935907)
 ccurveD1:w.cell? ⟨4,1,none⟩=some (.int .u64 31536524315187371)
 ccurveD2:w.cell? ⟨4,2,none⟩=some (.int .u64 10144147576115030168)
 ccurveD3:w.cell? ⟨4,3,none⟩=some (.int .u64 5909686906226998899)
theorem Tab.keep {W w1:World} (h:Tab W) (hb:Below W.heap.size W w1):Tab w1 :=
 ⟨later hb h.c00,later hb h.c01,later hb h.c02,later hb h.c03,later hb h.c10,later hb h.c11,later hb h.c12,later hb h.c13,later hb h.c20,later hb h.c21,later hb h.c22,later hb h.c23,later hb h.c30,later hb h.c31,later hb h.c32,later hb h.c33,later hb h.ccurveD0,later hb h.ccurveD1,later hb h.ccurveD2,later hb h.ccurveD3⟩
structure TabX (w:World):Prop where
 crootPower0:w.cell? ⟨2,0,none⟩=some (.int .u64 18446744073709551614)
 crootPower1:w.cell? ⟨2,1,none⟩=some (.int .u64 18446744073709551615)
 crootPower2:w.cell? ⟨2,2,none⟩=some (.int .u64 18446744073709551615)
 crootPower3:w.cell? ⟨2,3,none⟩=some (.int .u64 1152921504606846975)
 cturn0:w.cell? ⟨3,0,none⟩=some (.int .u64 14190309331451158704)
 cturn1:w.cell? ⟨3,1,none⟩=some (.int .u64 3405592160176694392)
 cturn2:w.cell? ⟨3,2,none⟩=some (.int .u64 3120150775007532967)
 cturn3:w.cell? ⟨3,3,none⟩=some (.int .u64 3135389899092516619)
theorem TabX.keep {W w1:World} (h:TabX W) (hb:Below W.heap.size W w1):TabX w1 :=
 ⟨later hb h.crootPower0,later hb h.crootPower1,later hb h.crootPower2,later hb h.crootPower3,later hb h.cturn0,later hb h.cturn1,later hb h.cturn2,later hb h.cturn3⟩
theorem modOf_0 (w:World) (hT:Tab w):Calls Tryd.prog 45 #[.int .i64 0] w fun e w'=>e=.returned (.agg #[.int .u64 (L 0 (md 0)),.int .u64 (L 1 (md 0)),.int .u64 (L 2 (md 0)),.int .u64 (L 3 (md 0))])∧Below w.heap.size w w':=by
 obtain ⟨c00,c01,c02,c03,c10,c11,c12,c13,c20,c21,c22,c23,c30,c31,c32,c33,_,_,_,_⟩:=hT.keep ((Below.refl _ _).alloc (Nat.le_refl _) (.cells #[.int .u64 0,.int .u64 0,.int .u64 0,.int .u64 0] 67))
 rw [md_0_0,md_0_1,md_0_2,md_0_3]
 go_enter Tryd.func45,Tryd.ntmps45
 go_wp2
 go_returns
 refine ⟨rfl,?_⟩
 go_grown
theorem modOf_1 (w:World) (hT:Tab w):Calls Tryd.prog 45 #[.int .i64 1] w fun e w'=>e=.returned (.agg #[.int .u64 (L 0 (md 1)),.int .u64 (L 1 (md 1)),.int .u64 (L 2 (md 1)),.int .u64 (L 3 (md 1))])∧Below w.heap.size w w':=by
 obtain ⟨c00,c01,c02,c03,c10,c11,c12,c13,c20,c21,c22,c23,c30,c31,c32,c33,_,_,_,_⟩:=hT.keep ((Below.refl _ _).alloc (Nat.le_refl _) (.cells #[.int .u64 0,.int .u64 0,.int .u64 0,.int .u64 0] 67))
 rw [md_1_0,md_1_1,md_1_2,md_1_3]
 go_enter Tryd.func45,Tryd.ntmps45
 go_wp2
 go_returns
 refine ⟨rfl,?_⟩
 go_grown
theorem modOf_2 (w:World) (hT:Tab w):Calls Tryd.prog 45 #[.int .i64 2] w fun e w'=>e=.returned (.agg #[.int .u64 (L 0 (md 2)),.int .u64 (L 1 (md 2)),.int .u64 (L 2 (md 2)),.int .u64 (L 3 (md 2))])∧Below w.heap.size w w':=by
 obtain ⟨c00,c01,c02,c03,c10,c11,c12,c13,c20,c21,c22,c23,c30,c31,c32,c33,_,_,_,_⟩:=hT.keep ((Below.refl _ _).alloc (Nat.le_refl _) (.cells #[.int .u64 0,.int .u64 0,.int .u64 0,.int .u64 0] 67))
 rw [md_2_0,md_2_1,md_2_2,md_2_3]
 go_enter Tryd.func45,Tryd.ntmps45
 go_wp2
 go_returns
 refine ⟨rfl,?_⟩
 go_grown
theorem modOf_3 (w:World) (hT:Tab w):Calls Tryd.prog 45 #[.int .i64 3] w fun e w'=>e=.returned (.agg #[.int .u64 (L 0 (md 3)),.int .u64 (L 1 (md 3)),.int .u64 (L 2 (md 3)),.int .u64 (L 3 (md 3))])∧Below w.heap.size w w':=by
 obtain ⟨c00,c01,c02,c03,c10,c11,c12,c13,c20,c21,c22,c23,c30,c31,c32,c33,_,_,_,_⟩:=hT.keep ((Below.refl _ _).alloc (Nat.le_refl _) (.cells #[.int .u64 0,.int .u64 0,.int .u64 0,.int .u64 0] 67))
 rw [md_3_0,md_3_1,md_3_2,md_3_3]
 go_enter Tryd.func45,Tryd.ntmps45
 go_wp2
 go_returns
 refine ⟨rfl,?_⟩
 go_grown
theorem modOf_none {k:Int} (h:k<0∨3<k) (w:World):Calls Tryd.prog 45 #[.int .i64 k] w fun e w'=>e=.returned (.agg #[.int .u64 (L 0 (md k)),.int .u64 (L 1 (md k)),.int .u64 (L 2 (md k)),.int .u64 (L 3 (md k))])∧Below w.heap.size w w':=by
 rw [md_none h,L_zero,L_zero,L_zero,L_zero]
 rcases h with h | h
 ·go_enter Tryd.func45,Tryd.ntmps45
  go_wp2
  go_returns
  refine ⟨rfl,?_⟩
  go_grown
 ·have h2:¬ k<0:=by omega
  have h3:4≤k:=by omega
  clear h
  go_enter Tryd.func45,Tryd.ntmps45
  go_wp2
  go_returns
  refine ⟨rfl,?_⟩
  go_grown
theorem modOf_any (k:Int) {w:World} (hT:Tab w):Calls Tryd.prog 45 #[.int .i64 k] w fun e w'=>e=.returned (.agg #[.int .u64 (L 0 (md k)),.int .u64 (L 1 (md k)),.int .u64 (L 2 (md k)),.int .u64 (L 3 (md k))])∧Below w.heap.size w w':=by
 have hk:k=0∨k=1∨k=2∨k=3∨(k<0∨3<k):=by omega
 rcases hk with rfl | rfl | rfl | rfl | hk
 ·exact modOf_0 w hT
 ·exact modOf_1 w hT
 ·exact modOf_2 w hT
 ·exact modOf_3 w hT
 ·exact modOf_none hk w
theorem Num.wide {a:Int} (h:Num a):Wide a:=⟨h.lo,by have:=h.hi;unfold M at this;omega⟩
theorem mul_wide {a b:Int} (ha:Num a) (hb:Num b):Wide (a*b):=by
 obtain ⟨a0,a1⟩:=ha
 obtain ⟨b0,b1⟩:=hb
 refine ⟨Int.mul_nonneg a0 b0,?_⟩
 unfold M at *
 calc a*b≤115792089237316195423570985008687907853269984665640564039457584007913129639935*115792089237316195423570985008687907853269984665640564039457584007913129639935:=Int.mul_le_mul (by omega) (by omega) b0 (by omega)
  _<13407807929942597099574024998205846127479365820592393377723561443721764030073546976801874298166903427690031858186486050853753882811946569946433649006084096:=by decide
theorem num_mod {a m:Int} (hm:Num m) (hp:0<m):Num (a % m) :=
 ⟨Int.emod_nonneg _ (by omega),by have:=Int.emod_lt_of_pos a hp;have:=hm.hi;omega⟩
theorem red_nat {k a:Int} (hk:0≤k∧k≤3) (ha:Num a) (w:World) :
  Calls Tryd.prog 74 #[.agg #[.int .u64 (L 0 (md k)),.int .u64 (L 1 (md k)),.int .u64 (L 2 (md k)),.int .u64 (L 3 (md k))],.agg #[.int .u64 (L 0 a),.int .u64 (L 1 a),.int .u64 (L 2 a),.int .u64 (L 3 a),.int .u64 0,.int .u64 0,.int .u64 0,.int .u64 0]] w fun e w'=>e=.returned (.agg #[.int .u64 (L 0 (a % md k)),.int .u64 (L 1 (a % md k)),.int .u64 (L 2 (a % md k)),.int .u64 (L 3 (a % md k))])∧Below w.heap.size w w':=by
 have h:=red_any hk ha.wide w
 obtain ⟨a0,a1⟩:=ha
 unfold M at a1
 have e4:L 4 a=0:=by rw [L4];omega
 have e5:L 5 a=0:=by rw [L5];omega
 have e6:L 6 a=0:=by rw [L6];omega
 have e7:L 7 a=0:=by rw [L7];omega
 rw [e4,e5,e6,e7] at h
 exact h
theorem prod_any {k a b:Int} (hkk:0≤k∧k≤3) (ha:Num a) (hb:Num b) (w:World) :
  Calls Tryd.prog 50 #[.agg #[.int .u64 (L 0 (md k)),.int .u64 (L 1 (md k)),.int .u64 (L 2 (md k)),.int .u64 (L 3 (md k))],.agg #[.int .u64 (L 0 a),.int .u64 (L 1 a),.int .u64 (L 2 a),.int .u64 (L 3 a)],.agg #[.int .u64 (L 0 b),.int .u64 (L 1 b),.int .u64 (L 2 b),.int .u64 (L 3 b)]] w fun e w'=>e=.returned (.agg #[.int .u64 (L 0 ((a*b) % md k)),.int .u64 (L 1 ((a*b) % md k)),.int .u64 (L 2 ((a*b) % md k)),.int .u64 (L 3 ((a*b) % md k))])∧Below w.heap.size w w':=by
 go_enter Tryd.func50,Tryd.ntmps50
 go_wp2
 have hR:=(ArrW.new (((w.alloc (.cells #[.int .u64 (L 0 (md k)),.int .u64 (L 1 (md k)),.int .u64 (L 2 (md k)),.int .u64 (L 3 (md k))] 67)).alloc (.cells #[.int .u64 (L 0 a),.int .u64 (L 1 a),.int .u64 (L 2 a),.int .u64 (L 3 a)] 33)).alloc (.cells #[.int .u64 (L 0 b),.int .u64 (L 1 b),.int .u64 (L 2 b),.int .u64 (L 3 b)] 33)) (w.heap.size+1+1+1) (by simp) 33 0 0 0 0).keep (Below.refl _ _).drew
 go_region_held3 (fun w'=>Below w.heap.size w w'∧w'.cell? ⟨w.heap.size,0,none⟩=some (.int .u64 (L 0 (md k)))∧w'.cell? ⟨w.heap.size,1,none⟩=some (.int .u64 (L 1 (md k)))∧w'.cell? ⟨w.heap.size,2,none⟩=some (.int .u64 (L 2 (md k)))∧w'.cell? ⟨w.heap.size,3,none⟩=some (.int .u64 (L 3 (md k)))∧w'.cell? ⟨w.heap.size+1,0,none⟩=some (.int .u64 (L 0 a))∧w'.cell? ⟨w.heap.size+1,1,none⟩=some (.int .u64 (L 1 a))∧w'.cell? ⟨w.heap.size+1,2,none⟩=some (.int .u64 (L 2 a))∧w'.cell? ⟨w.heap.size+1,3,none⟩=some (.int .u64 (L 3 a))∧w'.cell? ⟨w.heap.size+1+1,0,none⟩=some (.int .u64 (L 0 b))∧w'.cell? ⟨w.heap.size+1+1,1,none⟩=some (.int .u64 (L 1 b))∧w'.cell? ⟨w.heap.size+1+1,2,none⟩=some (.int .u64 (L 2 b))∧w'.cell? ⟨w.heap.size+1+1,3,none⟩=some (.int .u64 (L 3 b)))
  ((go_split_ands;(repeat' apply And.intro) <;> first | (with_reducible assumption) | (with_reducible exact later hk (by assumption)) | (with_reducible exact K.call (by assumption) hk) | (with_reducible exact later_a (by assumption)) | (with_reducible exact later_ad (by assumption)) | (with_reducible exact set4_other (by omega) _ _ _ _ (by assumption)) | (with_reducible exact K.set4 (by assumption) (by omega) _ _ _ _) | (simp [go_sem];done) | (repeat' (first | (with_reducible assumption) | (with_reducible exact Below.refl _ _) | (with_reducible refine K.drewN ?_ _) | (with_reducible refine K.drew ?_) | (with_reducible refine K.alloc ?_ _)))))
  (first
   | (go_at_call 77;with_reducible refine Calls.mono (mul_any ha hb _) ?_;rintro e w' ⟨rfl,hk⟩;have hR:=hR.keep hk;have ⟨kr,kr0,kr1,kr2,kr3,kf0,kf1,kf2,kf3⟩:=hR)
   | (go_at_call 74;with_reducible refine Calls.mono (red_any hkk (mul_wide ha hb) _) ?_;rintro e w' ⟨rfl,hk⟩;have hR:=hR.keep hk;have ⟨kr,kr0,kr1,kr2,kr3,kf0,kf1,kf2,kf3⟩:=hR))
 have hH:=‹Below _ _ _∧_›
 go_wp2
 exact bodyPost_ret (v:=.agg #[.int .u64 (L 0 ((a*b) % md k)),.int .u64 (L 1 ((a*b) % md k)),.int .u64 (L 2 ((a*b) % md k)),.int .u64 (L 3 ((a*b) % md k))]) (by simp [results,Tryd.results50,go_sem,kr0,kr1,kr2,kr3]) rfl ⟨rfl,hH.1⟩
theorem cmp_low {a m:Int} (h:a<m):cmp a m=-1:=cmp_lt h
theorem cmp_up {a m:Int} (h:m≤a):0≤cmp a m:=by unfold cmp;(repeat' split) <;> omega
theorem fold_any {k a:Int} (hk:0≤k∧k≤3) (ha:Num a) (w:World) :
  Calls Tryd.prog 47 #[.agg #[.int .u64 (L 0 (md k)),.int .u64 (L 1 (md k)),.int .u64 (L 2 (md k)),.int .u64 (L 3 (md k))],.agg #[.int .u64 (L 0 a),.int .u64 (L 1 a),.int .u64 (L 2 a),.int .u64 (L 3 a)]] w fun e w'=>e=.returned (.agg #[.int .u64 (L 0 (a % md k)),.int .u64 (L 1 (a % md k)),.int .u64 (L 2 (a % md k)),.int .u64 (L 3 (a % md k))])∧Below w.heap.size w w':=by
 have nm:=md_num k
 by_cases h:a<md k
 ·rw [Int.emod_eq_of_lt ha.lo h]
  have hc:=cmp_low h
  clear h
  go_enter Tryd.func47,Tryd.ntmps47
  go_wp2_with fail
  with_reducible refine Calls.mono (cmp_any ha nm _) ?_
  rw [hc]
  rintro e w1 ⟨rfl,hb1⟩
  have A1:=((Arr.new _ (w.heap.size+1) (by simp) 33 (L 0 a) (L 1 a) (L 2 a) (L 3 a)).alloc _).keep hb1
  have R1:=(ArrW.new _ (w.heap.size+1+1) (by simp) 33 0 0 0 0).keep hb1
  have hw1:Below w.heap.size w w1:=K.call (K.alloc (K.alloc (K.alloc (Below.refl _ w) _) _) _) hb1
  clear hb1
  have ⟨ka,ka0,ka1,ka2,ka3⟩:=A1
  have ⟨kr,kr0,kr1,kr2,kr3,kf0,kf1,kf2,kf3⟩:=R1
  go_wp2_with fail
  exact bodyPost_ret (v:=.agg #[.int .u64 (L 0 a),.int .u64 (L 1 a),.int .u64 (L 2 a),.int .u64 (L 3 a)]) (by simp [results,Tryd.results47,go_sem,kr0,kr1,kr2,kr3]) rfl ⟨rfl,K.set4 hw1 (by omega) _ _ _ _⟩
 ·have hc:=cmp_up (Int.not_lt.1 h)
  clear h
  generalize hcc:cmp a (md k)=c at *
  have HR:Hid (∀ w,Calls Tryd.prog 74 #[.agg #[.int .u64 (L 0 (md k)),.int .u64 (L 1 (md k)),.int .u64 (L 2 (md k)),.int .u64 (L 3 (md k))],.agg #[.int .u64 (L 0 a),.int .u64 (L 1 a),.int .u64 (L 2 a),.int .u64 (L 3 a),.int .u64 0,.int .u64 0,.int .u64 0,.int .u64 0]] w fun e w'=>e=.returned (.agg #[.int .u64 (L 0 (a % md k)),.int .u64 (L 1 (a % md k)),.int .u64 (L 2 (a % md k)),.int .u64 (L 3 (a % md k))])∧Below w.heap.size w w'):=fun w=>red_nat hk ha w
  go_enter Tryd.func47,Tryd.ntmps47
  go_wp2_with fail
  with_reducible refine Calls.mono (cmp_any ha nm _) ?_
  rw [hcc]
  clear hcc
  rintro e w1 ⟨rfl,hb1⟩
  have M1:=(((Arr.new w (w.heap.size) rfl 67 (L 0 (md k)) (L 1 (md k)) (L 2 (md k)) (L 3 (md k))).alloc _).alloc _).keep hb1
  have A1:=((Arr.new _ (w.heap.size+1) (by simp) 33 (L 0 a) (L 1 a) (L 2 a) (L 3 a)).alloc _).keep hb1
  have R1:=(ArrW.new _ (w.heap.size+1+1) (by simp) 33 0 0 0 0).keep hb1
  have hw1:Below w.heap.size w w1:=K.call (K.alloc (K.alloc (K.alloc (Below.refl _ w) _) _) _) hb1
  clear hb1
  have ⟨km,km0,km1,km2,km3⟩:=M1
  have ⟨ka,ka0,ka1,ka2,ka3⟩:=A1
  have ⟨kr,kr0,kr1,kr2,kr3,kf0,kf1,kf2,kf3⟩:=R1
  go_wp2_with fail
  with_reducible refine Calls.mono (HR.out _) ?_
  clear km km0 km1 km2 km3 ka ka0 ka1 ka2 ka3 kr kr0 kr1 kr2 kr3 kf0 kf1 kf2 kf3
  rintro e w2 ⟨rfl,hb2⟩
  have ⟨kr,kr0,kr1,kr2,kr3,kf0,kf1,kf2,kf3⟩:=R1.keep hb2
  have hw2:Below w.heap.size w w2:=K.call hw1 hb2
  go_wp2_with fail
  exact bodyPost_ret (v:=.agg #[.int .u64 (L 0 (a % md k)),.int .u64 (L 1 (a % md k)),.int .u64 (L 2 (a % md k)),.int .u64 (L 3 (a % md k))]) (by simp [results,Tryd.results47,go_sem,kr0,kr1,kr2,kr3]) rfl ⟨rfl,K.set4 hw2 (by omega) _ _ _ _⟩
end Go.Proofs.YtjaahnlpnkcimaaDoor
