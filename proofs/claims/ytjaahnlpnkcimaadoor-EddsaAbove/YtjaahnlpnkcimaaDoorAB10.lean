/- What the program's guess answers, and how near it comes. What limb.Add and limb.Sub answer, for all numbers: the sum and the difference, word by word, and whether it goes over or under. What math/bits.Mul64 and limb.mulAdd answer: the two words of the product, and of the product and two words more. -/
import Derived.Test.YtjaahnlpnkcimaaDoorAB06
import Derived.Test.YtjaahnlpnkcimaaDoorAB07
import Derived.Test.YtjaahnlpnkcimaaDoorAB08
import Derived.Test.YtjaahnlpnkcimaaDoorAB09
import Derived.Test.YtjaahnlpnkcimaaDoorAB02
import Derived.WalkSmall
import Derived.Laws.MathBits
import Derived.Laws.BitsAllLaws
set_option maxHeartbeats 2000000
namespace Go.Proofs.YtjaahnlpnkcimaaDoor
set_option maxRecDepth 100000
open Go.RowKit
attribute [local go_sem ↓] Go.wp_at_zero Go.wp_at_succ
def gs (k x3 x2:Int):Int:=if L 3 (md k)≤x3 then 18446744073709551615 else (x3*18446744073709551616+x2) / L 3 (md k)
theorem div_0_none (lo:Int) (l0:0≤lo) (l1:lo<18446744073709551616) (w:World) :
  Calls Tryd.prog 93 #[.int .u64 0,.int .u64 lo,.int .u64 18446744069414584321] w fun e w'=>∃ r,e=.returned (.tuple #[.int .u64 ((0*18446744073709551616+lo) / 18446744069414584321),.int .u64 r])∧Below w.heap.size w w':=by
 rw [show 0*18446744073709551616+lo=lo by omega]
 go_enter Tryd.func93,Tryd.ntmps93
 go_wp2
 go_quiet (fail)
 go_wp2
 go_ret2
 exact ⟨_,rfl,by repeat' (first | exact Below.refl _ _ | refine K.drewN ?_ _ | refine Below.drew ?_)⟩
theorem div_0 (hi lo:Int) (h0:0≤hi) (h1:hi<18446744069414584321) (l0:0≤lo) (l1:lo<18446744073709551616) (w:World) :
  Calls Tryd.prog 93 #[.int .u64 hi,.int .u64 lo,.int .u64 18446744069414584321] w fun e w'=>∃ r,e=.returned (.tuple #[.int .u64 ((hi*18446744073709551616+lo) / 18446744069414584321),.int .u64 r])∧Below w.heap.size w w':=by
 by_cases h:hi=0
 ·subst h;exact div_0_none lo l0 l1 w
 ·refine (div_0_main hi lo (by omega) h1 l0 l1 w).mono ?_
  rintro e w' ⟨r,rfl,rfl⟩
  exact ⟨r,rfl,Below.refl _ _⟩
theorem guess_0 (x0 x1 x2 x3:Int) (a0:0≤x2) (a1:x2<18446744073709551616) (b0:0≤x3) (w:World) :
  Calls Tryd.prog 91 #[.agg #[.int .u64 (L 0 (md 0)),.int .u64 (L 1 (md 0)),.int .u64 (L 2 (md 0)),.int .u64 (L 3 (md 0))],.agg #[.int .u64 x0,.int .u64 x1,.int .u64 x2,.int .u64 x3]] w fun e w'=>e=.returned (.int .u64 (gs 0 x3 x2))∧Below w.heap.size w w':=by
 unfold gs
 rw [md_0_3]
 by_cases h:18446744069414584321≤x3
 ·rw [if_pos h]
  go_enter Tryd.func91,Tryd.ntmps91
  go_wp2
  go_ret
  refine ⟨rfl,?_⟩
  go_grown
 ·rw [if_neg h]
  go_enter Tryd.func91,Tryd.ntmps91
  go_wp2_with (go_at_call 93;with_reducible refine Calls.mono (div_0 x3 x2 b0 (by omega) a0 a1 _) ?_;rintro e w' ⟨r,rfl,hk⟩)
  go_ret
  exact ⟨rfl,K.call (K.alloc (K.alloc (Below.refl _ _) _) _) hk⟩
theorem div_1_none (lo:Int) (l0:0≤lo) (l1:lo<18446744073709551616) (w:World) :
  Calls Tryd.prog 93 #[.int .u64 0,.int .u64 lo,.int .u64 18446744069414584320] w fun e w'=>∃ r,e=.returned (.tuple #[.int .u64 ((0*18446744073709551616+lo) / 18446744069414584320),.int .u64 r])∧Below w.heap.size w w':=by
 rw [show 0*18446744073709551616+lo=lo by omega]
 go_enter Tryd.func93,Tryd.ntmps93
 go_wp2
 go_quiet (fail)
 go_wp2
 go_ret2
 exact ⟨_,rfl,by repeat' (first | exact Below.refl _ _ | refine K.drewN ?_ _ | refine Below.drew ?_)⟩
theorem div_1 (hi lo:Int) (h0:0≤hi) (h1:hi<18446744069414584320) (l0:0≤lo) (l1:lo<18446744073709551616) (w:World) :
  Calls Tryd.prog 93 #[.int .u64 hi,.int .u64 lo,.int .u64 18446744069414584320] w fun e w'=>∃ r,e=.returned (.tuple #[.int .u64 ((hi*18446744073709551616+lo) / 18446744069414584320),.int .u64 r])∧Below w.heap.size w w':=by
 by_cases h:hi=0
 ·subst h;exact div_1_none lo l0 l1 w
 ·refine (div_1_main hi lo (by omega) h1 l0 l1 w).mono ?_
  rintro e w' ⟨r,rfl,rfl⟩
  exact ⟨r,rfl,Below.refl _ _⟩
theorem guess_1 (x0 x1 x2 x3:Int) (a0:0≤x2) (a1:x2<18446744073709551616) (b0:0≤x3) (w:World) :
  Calls Tryd.prog 91 #[.agg #[.int .u64 (L 0 (md 1)),.int .u64 (L 1 (md 1)),.int .u64 (L 2 (md 1)),.int .u64 (L 3 (md 1))],.agg #[.int .u64 x0,.int .u64 x1,.int .u64 x2,.int .u64 x3]] w fun e w'=>e=.returned (.int .u64 (gs 1 x3 x2))∧Below w.heap.size w w':=by
 unfold gs
 rw [md_1_3]
 by_cases h:18446744069414584320≤x3
 ·rw [if_pos h]
  go_enter Tryd.func91,Tryd.ntmps91
  go_wp2
  go_ret
  refine ⟨rfl,?_⟩
  go_grown
 ·rw [if_neg h]
  go_enter Tryd.func91,Tryd.ntmps91
  go_wp2_with (go_at_call 93;with_reducible refine Calls.mono (div_1 x3 x2 b0 (by omega) a0 a1 _) ?_;rintro e w' ⟨r,rfl,hk⟩)
  go_ret
  exact ⟨rfl,K.call (K.alloc (K.alloc (Below.refl _ _) _) _) hk⟩
theorem div_2_none (lo:Int) (l0:0≤lo) (l1:lo<18446744073709551616) (w:World) :
  Calls Tryd.prog 93 #[.int .u64 0,.int .u64 lo,.int .u64 9223372036854775807] w fun e w'=>∃ r,e=.returned (.tuple #[.int .u64 ((0*18446744073709551616+lo) / 9223372036854775807),.int .u64 r])∧Below w.heap.size w w':=by
 rw [show 0*18446744073709551616+lo=lo by omega]
 go_enter Tryd.func93,Tryd.ntmps93
 go_wp2
 go_quiet (fail)
 go_wp2
 go_ret2
 exact ⟨_,rfl,by repeat' (first | exact Below.refl _ _ | refine K.drewN ?_ _ | refine Below.drew ?_)⟩
theorem div_2 (hi lo:Int) (h0:0≤hi) (h1:hi<9223372036854775807) (l0:0≤lo) (l1:lo<18446744073709551616) (w:World) :
  Calls Tryd.prog 93 #[.int .u64 hi,.int .u64 lo,.int .u64 9223372036854775807] w fun e w'=>∃ r,e=.returned (.tuple #[.int .u64 ((hi*18446744073709551616+lo) / 9223372036854775807),.int .u64 r])∧Below w.heap.size w w':=by
 by_cases h:hi=0
 ·subst h;exact div_2_none lo l0 l1 w
 ·refine (div_2_main hi lo (by omega) h1 l0 l1 w).mono ?_
  rintro e w' ⟨r,rfl,rfl⟩
  exact ⟨r,rfl,Below.refl _ _⟩
theorem guess_2 (x0 x1 x2 x3:Int) (a0:0≤x2) (a1:x2<18446744073709551616) (b0:0≤x3) (w:World) :
  Calls Tryd.prog 91 #[.agg #[.int .u64 (L 0 (md 2)),.int .u64 (L 1 (md 2)),.int .u64 (L 2 (md 2)),.int .u64 (L 3 (md 2))],.agg #[.int .u64 x0,.int .u64 x1,.int .u64 x2,.int .u64 x3]] w fun e w'=>e=.returned (.int .u64 (gs 2 x3 x2))∧Below w.heap.size w w':=by
 unfold gs
 rw [md_2_3]
 by_cases h:9223372036854775807≤x3
 ·rw [if_pos h]
  go_enter Tryd.func91,Tryd.ntmps91
  go_wp2
  go_ret
  refine ⟨rfl,?_⟩
  go_grown
 ·rw [if_neg h]
  go_enter Tryd.func91,Tryd.ntmps91
  go_wp2_with (go_at_call 93;with_reducible refine Calls.mono (div_2 x3 x2 b0 (by omega) a0 a1 _) ?_;rintro e w' ⟨r,rfl,hk⟩)
  go_ret
  exact ⟨rfl,K.call (K.alloc (K.alloc (Below.refl _ _) _) _) hk⟩
theorem div_3_none (lo:Int) (l0:0≤lo) (l1:lo<18446744073709551616) (w:World) :
  Calls Tryd.prog 93 #[.int .u64 0,.int .u64 lo,.int .u64 1152921504606846976] w fun e w'=>∃ r,e=.returned (.tuple #[.int .u64 ((0*18446744073709551616+lo) / 1152921504606846976),.int .u64 r])∧Below w.heap.size w w':=by
 rw [show 0*18446744073709551616+lo=lo by omega]
 go_enter Tryd.func93,Tryd.ntmps93
 go_wp2
 go_quiet (fail)
 go_wp2
 go_ret2
 exact ⟨_,rfl,by repeat' (first | exact Below.refl _ _ | refine K.drewN ?_ _ | refine Below.drew ?_)⟩
theorem div_3 (hi lo:Int) (h0:0≤hi) (h1:hi<1152921504606846976) (l0:0≤lo) (l1:lo<18446744073709551616) (w:World) :
  Calls Tryd.prog 93 #[.int .u64 hi,.int .u64 lo,.int .u64 1152921504606846976] w fun e w'=>∃ r,e=.returned (.tuple #[.int .u64 ((hi*18446744073709551616+lo) / 1152921504606846976),.int .u64 r])∧Below w.heap.size w w':=by
 by_cases h:hi=0
 ·subst h;exact div_3_none lo l0 l1 w
 ·refine (div_3_main hi lo (by omega) h1 l0 l1 w).mono ?_
  rintro e w' ⟨r,rfl,rfl⟩
  exact ⟨r,rfl,Below.refl _ _⟩
theorem guess_3 (x0 x1 x2 x3:Int) (a0:0≤x2) (a1:x2<18446744073709551616) (b0:0≤x3) (w:World) :
  Calls Tryd.prog 91 #[.agg #[.int .u64 (L 0 (md 3)),.int .u64 (L 1 (md 3)),.int .u64 (L 2 (md 3)),.int .u64 (L 3 (md 3))],.agg #[.int .u64 x0,.int .u64 x1,.int .u64 x2,.int .u64 x3]] w fun e w'=>e=.returned (.int .u64 (gs 3 x3 x2))∧Below w.heap.size w w':=by
 unfold gs
 rw [md_3_3]
 by_cases h:1152921504606846976≤x3
 ·rw [if_pos h]
  go_enter Tryd.func91,Tryd.ntmps91
  go_wp2
  go_ret
  refine ⟨rfl,?_⟩
  go_grown
 ·rw [if_neg h]
  go_enter Tryd.func91,Tryd.ntmps91
  go_wp2_with (go_at_call 93;with_reducible refine Calls.mono (div_3 x3 x2 b0 (by omega) a0 a1 _) ?_;rintro e w' ⟨r,rfl,hk⟩)
  go_ret
  exact ⟨rfl,K.call (K.alloc (K.alloc (Below.refl _ _) _) _) hk⟩
theorem guess_any {k:Int} (hk:0≤k∧k≤3) (x0 x1 x2 x3:Int) (a0:0≤x2) (a1:x2<18446744073709551616) (b0:0≤x3) (w:World) :
  Calls Tryd.prog 91 #[.agg #[.int .u64 (L 0 (md k)),.int .u64 (L 1 (md k)),.int .u64 (L 2 (md k)),.int .u64 (L 3 (md k))],.agg #[.int .u64 x0,.int .u64 x1,.int .u64 x2,.int .u64 x3]] w fun e w'=>e=.returned (.int .u64 (gs k x3 x2))∧Below w.heap.size w w':=by
 rcases md_cases hk with rfl | rfl | rfl | rfl
 ·exact guess_0 x0 x1 x2 x3 a0 a1 b0 w
 ·exact guess_1 x0 x1 x2 x3 a0 a1 b0 w
 ·exact guess_2 x0 x1 x2 x3 a0 a1 b0 w
 ·exact guess_3 x0 x1 x2 x3 a0 a1 b0 w
theorem gs_lo {k:Int} (hk:0≤k∧k≤3) {x3 x2:Int} (a0:0≤x2) (b0:0≤x3):0≤gs k x3 x2:=by
 unfold gs
 rcases md_cases hk with rfl | rfl | rfl | rfl
 ·rw [md_0_3];split <;> omega
 ·rw [md_1_3];split <;> omega
 ·rw [md_2_3];split <;> omega
 ·rw [md_3_3];split <;> omega
theorem gs_hi {k:Int} (hk:0≤k∧k≤3) {x3 x2:Int} (a1:x2<18446744073709551616):gs k x3 x2<18446744073709551616:=by
 unfold gs
 rcases md_cases hk with rfl | rfl | rfl | rfl
 ·rw [md_0_3];split <;> omega
 ·rw [md_1_3];split <;> omega
 ·rw [md_2_3];split <;> omega
 ·rw [md_3_3];split <;> omega
theorem md0:md 0=115792089210356248762697446949407573530086143415290314195533631308867097853951:=by decide
theorem md1:md 1=115792089210356248762697446949407573529996955224135760342422259061068512044369:=by decide
theorem md2:md 2=57896044618658097711785492504343953926634992332820282019728792003956564819949:=by decide
theorem md3:md 3=7237005577332262213973186563042994240857116359379907606001950938285454250989:=by decide
theorem gs_near {k X x3 x2:Int} (hk:0≤k∧k≤3) (h0:0≤X) (h1:X<md k*18446744073709551616) (e3:x3=X / 115792089237316195423570985008687907853269984665640564039457584007913129639936) (e2:x2=X / 6277101735386680763835789423207666416102355444464034512896 % 18446744073709551616) :
  X-gs k x3 x2*md k<md k∧0≤X-gs k x3 x2*md k+4*md k:=by
 unfold gs
 subst e3 e2
 rcases md_cases hk with rfl | rfl | rfl | rfl
 ·rw [md_0_3];rw [md0] at *;split <;> constructor <;> omega
 ·rw [md_1_3];rw [md1] at *;split <;> constructor <;> omega
 ·rw [md_2_3];rw [md2] at *;split <;> constructor <;> omega
 ·rw [md_3_3];rw [md3] at *;split <;> constructor <;> omega
end Go.Proofs.YtjaahnlpnkcimaaDoor
namespace Go.Proofs.YtjaahnlpnkcimaaDoor
set_option maxRecDepth 100000
open Go.RowKit
attribute [local go_sem ↓] Go.wp_at_zero Go.wp_at_succ
theorem add64 (x y c:Int) (hx:0≤x) (hy:0≤y) (hc0:0≤c) (hc:c≤1) (w:World):(callFunc 75 #[.int .u64 x,.int .u64 y,.int .u64 c]).run Tryd.prog w =
  .ok (.value (.tuple #[.int .u64 ((x+y+c) % 18446744073709551616),.int .u64 ((x+y+c) / 18446744073709551616)])) w:=by
 rw [run_callFunc_extern Tryd.func75 (by kernel_rfl) (by kernel_rfl) (by kernel_rfl) (e:=add64Entry) (by kernel_rfl),run_add64 x y c hx hy hc0 hc]
 rfl
theorem add64_k (a b:Int) (k:Nat) (w:World):(callFunc 75 #[.int .u64 (L k a),.int .u64 (L k b),.int .u64 (C a b k)]).run Tryd.prog w =
  .ok (.value (.tuple #[.int .u64 (L k (a+b)),.int .u64 (C a b (k+1))])) w:=by
 rw [add64 _ _ _ (L_lo _ _) (L_lo _ _) (C_lo _ _ _) (C_hi _ _ _),add_word,add_carry]
theorem add64_0 (a b:Int) (w:World):(callFunc 75 #[.int .u64 (L 0 a),.int .u64 (L 0 b),.int .u64 0]).run Tryd.prog w =
  .ok (.value (.tuple #[.int .u64 (L 0 (a+b)),.int .u64 (C a b 1)])) w:=by
 have:=add64_k a b 0 w;rwa [C_zero] at this
theorem add64_1 (a b:Int) (w:World):(callFunc 75 #[.int .u64 (L 1 a),.int .u64 (L 1 b),.int .u64 (C a b 1)]).run Tryd.prog w =
  .ok (.value (.tuple #[.int .u64 (L 1 (a+b)),.int .u64 (C a b 2)])) w:=add64_k a b 1 w
theorem add64_2 (a b:Int) (w:World):(callFunc 75 #[.int .u64 (L 2 a),.int .u64 (L 2 b),.int .u64 (C a b 2)]).run Tryd.prog w =
  .ok (.value (.tuple #[.int .u64 (L 2 (a+b)),.int .u64 (C a b 3)])) w:=add64_k a b 2 w
theorem add64_3 (a b:Int) (w:World):(callFunc 75 #[.int .u64 (L 3 a),.int .u64 (L 3 b),.int .u64 (C a b 3)]).run Tryd.prog w =
  .ok (.value (.tuple #[.int .u64 (L 3 (a+b)),.int .u64 (C a b 4)])) w:=add64_k a b 3 w
theorem add_walk (a b:Int) (w:World) :
  Calls Tryd.prog 46 #[.agg #[.int .u64 (L 0 a),.int .u64 (L 1 a),.int .u64 (L 2 a),.int .u64 (L 3 a)],.agg #[.int .u64 (L 0 b),.int .u64 (L 1 b),.int .u64 (L 2 b),.int .u64 (L 3 b)]] w fun e w' =>
   e=.returned (.tuple #[.agg #[.int .u64 (L 0 (a+b)),.int .u64 (L 1 (a+b)),.int .u64 (L 2 (a+b)),.int .u64 (L 3 (a+b))],.bool (C a b 4 == 1)])∧Below w.heap.size w w':=by
 go_enter Tryd.func46,Tryd.ntmps46
 go_wp2
 refine wp_loop_rounds 5 ?_
 rw [rounds_succ]
 go_wp2
 go_region_held3 (fun w'=>w'.cell? ⟨w.heap.size,0,none⟩=some (.int .u64 (L 0 a))∧w'.cell? ⟨w.heap.size+1,0,none⟩=some (.int .u64 (L 0 b))) (simp [go_sem,World.cell?_alloc_past])
  (simp only [add64_0 a b])
 go_wp2
 rw [rounds_succ]
 go_wp2
 go_region_held3 (fun w'=>w'.cell? ⟨w.heap.size,1,none⟩=some (.int .u64 (L 1 a))∧w'.cell? ⟨w.heap.size+1,1,none⟩=some (.int .u64 (L 1 b))) (simp [go_sem,World.cell?_alloc_past])
  (simp only [add64_1 a b])
 go_wp2
 rw [rounds_succ]
 go_wp2
 go_region_held3 (fun w'=>w'.cell? ⟨w.heap.size,2,none⟩=some (.int .u64 (L 2 a))∧w'.cell? ⟨w.heap.size+1,2,none⟩=some (.int .u64 (L 2 b))) (simp [go_sem,World.cell?_alloc_past])
  (simp only [add64_2 a b])
 go_wp2
 rw [rounds_succ]
 go_wp2
 go_region_held3 (fun w'=>w'.cell? ⟨w.heap.size,3,none⟩=some (.int .u64 (L 3 a))∧w'.cell? ⟨w.heap.size+1,3,none⟩=some (.int .u64 (L 3 b))) (simp [go_sem,World.cell?_alloc_past])
  (simp only [add64_3 a b])
 go_wp2
 rw [rounds_succ]
 go_wp2
 go_returns
 refine ⟨rfl,?_⟩
 go_grown
theorem add_any {a b:Int} (ha:Num a) (hb:Num b) (w:World) :
  Calls Tryd.prog 46 #[.agg #[.int .u64 (L 0 a),.int .u64 (L 1 a),.int .u64 (L 2 a),.int .u64 (L 3 a)],.agg #[.int .u64 (L 0 b),.int .u64 (L 1 b),.int .u64 (L 2 b),.int .u64 (L 3 b)]] w fun e w' =>
   e=.returned (.tuple #[.agg #[.int .u64 (L 0 (a+b)),.int .u64 (L 1 (a+b)),.int .u64 (L 2 (a+b)),.int .u64 (L 3 (a+b))],.bool (over a b)])∧Below w.heap.size w w':=by
 rw [← C_four ha hb];exact add_walk a b w
theorem sub64 (x y b:Int) (hx:0≤x) (hy:0≤y) (hy2:y<18446744073709551616) (hb0:0≤b) (hb:b≤1) (w:World):(callFunc 76 #[.int .u64 x,.int .u64 y,.int .u64 b]).run Tryd.prog w =
  .ok (.value (.tuple #[.int .u64 ((x-y-b) % 18446744073709551616),.int .u64 (if x<y+b then 1 else 0)])) w:=by
 obtain ⟨x,rfl⟩:=Int.eq_ofNat_of_zero_le hx
 obtain ⟨y,rfl⟩:=Int.eq_ofNat_of_zero_le hy
 obtain ⟨b,rfl⟩:=Int.eq_ofNat_of_zero_le hb0
 have e1:(((x+18446744073709551616-y-b) % 18446744073709551616:Nat):Int)=((x:Int)-y-b) % 18446744073709551616:=by omega
 have e2:((if x<y+b then 1 else 0:Nat):Int)=if (x:Int)<y+b then 1 else 0:=by split <;> split <;> omega
 rw [← e1,← e2,run_callFunc_extern Tryd.func76 (by kernel_rfl) (by kernel_rfl) (by kernel_rfl) (e:=(Extern.MathBitsCarry.rows[1]'(by decide)).2) (by kernel_rfl)]
 have:b=0∨b=1:=by omega
 rcases this with rfl | rfl <;> rfl
theorem sub64_k (a b:Int) (k:Nat) (w:World):(callFunc 76 #[.int .u64 (L k a),.int .u64 (L k b),.int .u64 (D a b k)]).run Tryd.prog w =
  .ok (.value (.tuple #[.int .u64 (L k (a-b)),.int .u64 (D a b (k+1))])) w:=by
 rw [sub64 _ _ _ (L_lo _ _) (L_lo _ _) (L_hi _ _) (D_lo _ _ _) (D_hi _ _ _),sub_word,sub_carry]
theorem sub64_0 (a b:Int) (w:World):(callFunc 76 #[.int .u64 (L 0 a),.int .u64 (L 0 b),.int .u64 0]).run Tryd.prog w =
  .ok (.value (.tuple #[.int .u64 (L 0 (a-b)),.int .u64 (D a b 1)])) w:=by
 have:=sub64_k a b 0 w;rwa [D_zero] at this
theorem sub64_1 (a b:Int) (w:World):(callFunc 76 #[.int .u64 (L 1 a),.int .u64 (L 1 b),.int .u64 (D a b 1)]).run Tryd.prog w =
  .ok (.value (.tuple #[.int .u64 (L 1 (a-b)),.int .u64 (D a b 2)])) w:=sub64_k a b 1 w
theorem sub64_2 (a b:Int) (w:World):(callFunc 76 #[.int .u64 (L 2 a),.int .u64 (L 2 b),.int .u64 (D a b 2)]).run Tryd.prog w =
  .ok (.value (.tuple #[.int .u64 (L 2 (a-b)),.int .u64 (D a b 3)])) w:=sub64_k a b 2 w
theorem sub64_3 (a b:Int) (w:World):(callFunc 76 #[.int .u64 (L 3 a),.int .u64 (L 3 b),.int .u64 (D a b 3)]).run Tryd.prog w =
  .ok (.value (.tuple #[.int .u64 (L 3 (a-b)),.int .u64 (D a b 4)])) w:=sub64_k a b 3 w
theorem sub_walk (a b:Int) (w:World) :
  Calls Tryd.prog 48 #[.agg #[.int .u64 (L 0 a),.int .u64 (L 1 a),.int .u64 (L 2 a),.int .u64 (L 3 a)],.agg #[.int .u64 (L 0 b),.int .u64 (L 1 b),.int .u64 (L 2 b),.int .u64 (L 3 b)]] w fun e w' =>
   e=.returned (.tuple #[.agg #[.int .u64 (L 0 (a-b)),.int .u64 (L 1 (a-b)),.int .u64 (L 2 (a-b)),.int .u64 (L 3 (a-b))],.bool (D a b 4 == 1)])∧Below w.heap.size w w':=by
 go_enter Tryd.func48,Tryd.ntmps48
 go_wp2
 refine wp_loop_rounds 5 ?_
 rw [rounds_succ]
 go_wp2
 go_region_held3 (fun w'=>w'.cell? ⟨w.heap.size,0,none⟩=some (.int .u64 (L 0 a))∧w'.cell? ⟨w.heap.size+1,0,none⟩=some (.int .u64 (L 0 b))) (simp [go_sem,World.cell?_alloc_past])
  (simp only [sub64_0 a b])
 go_wp2
 rw [rounds_succ]
 go_wp2
 go_region_held3 (fun w'=>w'.cell? ⟨w.heap.size,1,none⟩=some (.int .u64 (L 1 a))∧w'.cell? ⟨w.heap.size+1,1,none⟩=some (.int .u64 (L 1 b))) (simp [go_sem,World.cell?_alloc_past])
  (simp only [sub64_1 a b])
 go_wp2
 rw [rounds_succ]
 go_wp2
 go_region_held3 (fun w'=>w'.cell? ⟨w.heap.size,2,none⟩=some (.int .u64 (L 2 a))∧w'.cell? ⟨w.heap.size+1,2,none⟩=some (.int .u64 (L 2 b))) (simp [go_sem,World.cell?_alloc_past])
  (simp only [sub64_2 a b])
 go_wp2
 rw [rounds_succ]
 go_wp2
 go_region_held3 (fun w'=>w'.cell? ⟨w.heap.size,3,none⟩=some (.int .u64 (L 3 a))∧w'.cell? ⟨w.heap.size+1,3,none⟩=some (.int .u64 (L 3 b))) (simp [go_sem,World.cell?_alloc_past])
  (simp only [sub64_3 a b])
 go_wp2
 rw [rounds_succ]
 go_wp2
 go_returns
 refine ⟨rfl,?_⟩
 go_grown
theorem sub_any {a b:Int} (ha:Num a) (hb:Num b) (w:World) :
  Calls Tryd.prog 48 #[.agg #[.int .u64 (L 0 a),.int .u64 (L 1 a),.int .u64 (L 2 a),.int .u64 (L 3 a)],.agg #[.int .u64 (L 0 b),.int .u64 (L 1 b),.int .u64 (L 2 b),.int .u64 (L 3 b)]] w fun e w' =>
   e=.returned (.tuple #[.agg #[.int .u64 (L 0 (a-b)),.int .u64 (L 1 (a-b)),.int .u64 (L 2 (a-b)),.int .u64 (L 3 (a-b))],.bool (under a b)])∧Below w.heap.size w w':=by
 rw [← D_four ha hb];exact sub_walk a b w
end Go.Proofs.YtjaahnlpnkcimaaDoor
namespace Go.Proofs.YtjaahnlpnkcimaaDoor
set_option maxRecDepth 100000
open Go.RowKit
attribute [local go_sem ↓] Go.wp_at_zero Go.wp_at_succ
theorem mul64_any (x y:Int) (hx:0≤x) (hx2:x<18446744073709551616) (hy:0≤y) (hy2:y<18446744073709551616) (w:World) :
  Calls Tryd.prog 82 #[.int .u64 x,.int .u64 y] w fun e w'=>e=.returned (.tuple #[.int .u64 (x*y / 18446744073709551616),.int .u64 (x*y % 18446744073709551616)])∧w'=w:=by
 go_enter Tryd.func82,Tryd.ntmps82
 go_wp2
 go_ret2
 refine ⟨?_,rfl⟩
 rw [and_low32 x hx hx2,and_low32 y hy hy2]
 simp only [IntKind.wrap_u64]
 rw [and_low32 _ (Int.emod_nonneg _ (by omega)) (Int.emod_lt_of_pos _ (by omega)),mul64_arith x y hx hx2 hy hy2]
 rfl
theorem prod_le (x y:Int) (hx:0≤x) (hx2:x<18446744073709551616) (hy:0≤y) (hy2:y<18446744073709551616):0≤x*y∧x*y≤340282366920938463426481119284349108225:=by
 refine ⟨Int.mul_nonneg hx hy,?_⟩
 have h:=Int.mul_le_mul (show x≤18446744073709551615 by omega) (show y≤18446744073709551615 by omega) hy (by omega)
 omega
theorem add64_z (x y:Int) (hx:0≤x) (hy:0≤y) (w:World):(callFunc 75 #[.int .u64 x,.int .u64 y,.int .u64 0]).run Tryd.prog w =
  .ok (.value (.tuple #[.int .u64 ((x+y) % 18446744073709551616),.int .u64 ((x+y) / 18446744073709551616)])) w:=by
 have:=add64 x y 0 hx hy (by omega) (by omega) w
 rwa [Int.add_zero] at this
def hiW (x y c d:Int):Int:=(x*y+c+d) / 18446744073709551616
def loW (x y c d:Int):Int:=(x*y+c+d) % 18446744073709551616
def mHi (x y:Int):Int:=x*y / 18446744073709551616
def mLo (x y:Int):Int:=x*y % 18446744073709551616
def t1 (x y c:Int):Int:=(mLo x y+c) % 18446744073709551616
def u1 (x y c:Int):Int:=(mLo x y+c) / 18446744073709551616
def u2 (x y c d:Int):Int:=(t1 x y c+d) / 18446744073709551616
theorem t2_eq (x y c d:Int):(t1 x y c+d) % 18446744073709551616=loW x y c d:=by
 unfold t1 mLo loW
 generalize x*y=p
 omega
theorem hi_eq (x y c d:Int) (hx:0≤x) (hx2:x<18446744073709551616) (hy:0≤y) (hy2:y<18446744073709551616) (hc:0≤c) (hc2:c<18446744073709551616) (hd:0≤d) (hd2:d<18446744073709551616) :
  IntKind.u64.wrap (IntKind.u64.wrap (mHi x y+u1 x y c)+u2 x y c d)=hiW x y c d:=by
 obtain ⟨p1,p2⟩:=prod_le x y hx hx2 hy hy2
 unfold hiW u2 u1 t1 mHi mLo
 simp only [IntKind.wrap_u64]
 generalize x*y=p at *
 omega
theorem mul64_told (x y:Int) (hx:0≤x) (hx2:x<18446744073709551616) (hy:0≤y) (hy2:y<18446744073709551616) (w:World) :
  Calls Tryd.prog 82 #[.int .u64 x,.int .u64 y] w fun e w'=>e=.returned (.tuple #[.int .u64 (mHi x y),.int .u64 (mLo x y)])∧w'=w:=mul64_any x y hx hx2 hy hy2 w
theorem add64_t1 (x y c:Int) (hc:0≤c) (w:World):(callFunc 75 #[.int .u64 (mLo x y),.int .u64 c,.int .u64 0]).run Tryd.prog w =
  .ok (.value (.tuple #[.int .u64 (t1 x y c),.int .u64 (u1 x y c)])) w:=add64_z _ _ (by unfold mLo;omega) hc w
theorem add64_t2 (x y c d:Int) (hd:0≤d) (w:World):(callFunc 75 #[.int .u64 (t1 x y c),.int .u64 d,.int .u64 0]).run Tryd.prog w =
  .ok (.value (.tuple #[.int .u64 (loW x y c d),.int .u64 (u2 x y c d)])) w:=by
 rw [← t2_eq];exact add64_z _ _ (by unfold t1;omega) hd w
theorem hiW_lo (x y c d:Int) (hx:0≤x) (hy:0≤y) (hc:0≤c) (hd:0≤d):0≤hiW x y c d:=by
 have:=Int.mul_nonneg hx hy
 unfold hiW
 generalize x*y=p at *
 omega
theorem hiW_hi (x y c d:Int) (hx:0≤x) (hx2:x<18446744073709551616) (hy:0≤y) (hy2:y<18446744073709551616) (hc2:c<18446744073709551616) (hd2:d<18446744073709551616):hiW x y c d<18446744073709551616:=by
 obtain ⟨p1,p2⟩:=prod_le x y hx hx2 hy hy2
 unfold hiW
 generalize x*y=p at *
 omega
theorem loW_lo (x y c d:Int):0≤loW x y c d:=by unfold loW;omega
theorem loW_hi (x y c d:Int):loW x y c d<18446744073709551616:=by unfold loW;omega
theorem hilo (x y c d:Int):hiW x y c d*18446744073709551616+loW x y c d=x*y+c+d:=by unfold hiW loW;omega
theorem mulAdd_any (x y c d:Int) (hx:0≤x) (hx2:x<18446744073709551616) (hy:0≤y) (hy2:y<18446744073709551616) (hc:0≤c) (hc2:c<18446744073709551616) (hd:0≤d) (hd2:d<18446744073709551616) (w:World) :
  Calls Tryd.prog 86 #[.int .u64 x,.int .u64 y,.int .u64 c,.int .u64 d] w fun e w'=>e=.returned (.tuple #[.int .u64 (hiW x y c d),.int .u64 (loW x y c d)])∧w'=w:=by
 have F1:=hi_eq x y c d hx hx2 hy hy2 hc hc2 hd hd2
 go_enter Tryd.func86,Tryd.ntmps86
 go_wp2_with (first | (go_at_call 82;with_reducible refine Calls.mono (mul64_told x y hx hx2 hy hy2 _) ?_;rintro e w' ⟨rfl,rfl⟩) | simp only [add64_t1 x y c hc] | simp only [add64_t2 x y c d hd])
 go_ret2
 exact ⟨rfl,rfl⟩
end Go.Proofs.YtjaahnlpnkcimaaDoor
