/- The statements' own question whether the program does anything is answered with yes; the functions at numbers that are written out. What limb.Half and limb.Bit answer, for all numbers: half of it, rounded down, and the bit that stands for 2^i. What field.Pow answers: the power, bit by bit from the lowest on. What field.Modulus answers. What field.Inv answers: the number that makes 1 with the given one, by Fermat. Numbers modulo the modulus 2 as they lie in memory, and what the program's own sums and products do with them. What the document's own Less answers, for all numbers. What codec.Below and the document's own answer. The types of layer 9, and what the small functions of the document answer. Multiples on the second curve, as the document reckons them; its sum and its multiple are the curve's. Points of the second curve held against each other, and what else the document's own answers. Square roots modulo the second prime, and the points of the second curve by their bytes. The bytes of the number that a point's bytes are. Numbers and their bytes, there and back. -/
import Derived.Test.YtjaahnlpnkcimaaDoorKY20
import Derived.Test.YtjaahnlpnkcimaaDoorKY10
import Derived.Test.YtjaahnlpnkcimaaDoorKY17
import Derived.Test.YtjaahnlpnkcimaaDoorKY19
import Derived.Test.YtjaahnlpnkcimaaDoorKY18
import Derived.Test.YtjaahnlpnkcimaaDoorKY02
import Derived.Test.YtjaahnlpnkcimaaDoorKY16
import Derived.Test.YtjaahnlpnkcimaaDoorKY04
import Derived.WalkSmall
import Derived.Laws.BitsAllLaws
import Derived.Deep.LoopGhost
import Derived.Deep.DeepCutAuto
import Derived.Deep.RegionHeld3
set_option maxRecDepth 100000
set_option maxHeartbeats 8000000
namespace Go.Proofs.YtjaahnlpnkcimaaDoor
set_option maxRecDepth 100000
open Go.RowKit
attribute [local go_sem ↓] Go.wp_at_zero Go.wp_at_succ
attribute [local go_sem] eq4
theorem mul_mod_l (x b m:Int):(x % m*b) % m=(x*b) % m:=by rw [Int.mul_emod,Int.emod_emod,← Int.mul_emod]
theorem mul_mod_r (x b m:Int):(x*(b % m)) % m=(x*b) % m:=by rw [Int.mul_emod,Int.emod_emod,← Int.mul_emod]
theorem num_f {k a:Int} (hkk:0≤k∧k≤3):Num (a % md k):=num_mod (md_num k) (md_pos hkk)
end Go.Proofs.YtjaahnlpnkcimaaDoor
namespace Go.Proofs.YtjaahnlpnkcimaaDoor
set_option maxRecDepth 100000
open Go.RowKit
attribute [local go_sem ↓] Go.wp_at_zero Go.wp_at_succ
theorem or_top (x d:Int) (hx:0≤x) (hx2:x<18446744073709551616) (hd:0≤d) (hd2:d≤1):bits .or .u64 (x / 2) (IntKind.u64.wrap (d*9223372036854775808))=x / 2+d*9223372036854775808:=by
 rw [IntWalk.u64_in _ (by omega),u64_or _ _ (by omega) (by omega) (by omega) (by omega)]
 obtain ⟨n,hn⟩:=Int.eq_ofNat_of_zero_le (show 0≤x / 2 by omega)
 obtain ⟨m,rfl⟩:=Int.eq_ofNat_of_zero_le hd
 rw [hn]
 have hlt:n<2 ^ 63:=by omega
 have e1:((m:Int)*9223372036854775808).toNat=2 ^ 63*m:=by omega
 rw [e1,Int.toNat_natCast,Nat.or_comm,← Nat.two_pow_add_eq_or_of_lt hlt]
 omega
theorem or_zero (x:Int) (hx:0≤x) (hx2:x<18446744073709551616):bits .or .u64 (x / 2) 0=x / 2:=by
 have h:=or_top x 0 hx hx2 (by omega) (by omega)
 rw [Int.zero_mul,IntWalk.u64_in _ (by omega)] at h
 omega
theorem half3 {a:Int} (h:Num a):bits .or .u64 (L 3 a / 2) 0=L 3 (a / 2):=by
 rw [or_zero _ (L_lo _ _) (L_hi _ _),L3,L3]
 obtain ⟨h1,h2⟩:=h
 unfold M at h2
 omega
theorem half2 (a:Int):bits .or .u64 (L 2 a / 2) (IntKind.u64.wrap (bits .and .u64 (L 3 a) 1*9223372036854775808))=L 2 (a / 2):=by
 have h1:=L_lo 3 a
 have h2:=L_hi 3 a
 rw [and_one_u64 _ h1 (by omega),or_top _ _ (L_lo _ _) (L_hi _ _) (by omega) (by omega),L3,L2,L2]
 omega
theorem half1 (a:Int):bits .or .u64 (L 1 a / 2) (IntKind.u64.wrap (bits .and .u64 (L 2 a) 1*9223372036854775808))=L 1 (a / 2):=by
 have h1:=L_lo 2 a
 have h2:=L_hi 2 a
 rw [and_one_u64 _ h1 (by omega),or_top _ _ (L_lo _ _) (L_hi _ _) (by omega) (by omega),L2,L1,L1]
 omega
theorem half0 (a:Int):bits .or .u64 (L 0 a / 2) (IntKind.u64.wrap (bits .and .u64 (L 1 a) 1*9223372036854775808))=L 0 (a / 2):=by
 have h1:=L_lo 1 a
 have h2:=L_hi 1 a
 rw [and_one_u64 _ h1 (by omega),or_top _ _ (L_lo _ _) (L_hi _ _) (by omega) (by omega),L1,L0,L0]
 omega
theorem half_any {a:Int} (h:Num a) (w:World) :
  Calls Tryd.prog 68 #[.agg #[.int .u64 (L 0 a),.int .u64 (L 1 a),.int .u64 (L 2 a),.int .u64 (L 3 a)]] w fun e w' =>
   e=.returned (.agg #[.int .u64 (L 0 (a / 2)),.int .u64 (L 1 (a / 2)),.int .u64 (L 2 (a / 2)),.int .u64 (L 3 (a / 2))])∧Below w.heap.size w w':=by
 have a0:=L_lo 0 a
 have b0:=L_hi 0 a
 have a1:=L_lo 1 a
 have b1:=L_hi 1 a
 have a2:=L_lo 2 a
 have b2:=L_hi 2 a
 have a3:=L_lo 3 a
 have b3:=L_hi 3 a
 go_enter Tryd.func68,Tryd.ntmps68
 go_wp2
 refine wp_loop_rounds 5 ?_
 rw [rounds_succ]
 go_wp2
 rw [half3 h,rounds_succ]
 go_wp2
 rw [half2,rounds_succ]
 go_wp2
 rw [half1,rounds_succ]
 go_wp2
 rw [half0,rounds_succ]
 go_wp2
 go_returns
 refine ⟨rfl,?_⟩
 go_grown
def bt (a i:Int):Int:=if 0≤i∧i<256 then a / 2 ^ i.toNat % 2 else 0
theorem bt_in (a i:Int) (h0:0≤i) (h1:i<256):bt a i=a / 2 ^ i.toNat % 2:=by unfold bt;rw [if_pos ⟨h0,h1⟩]
theorem bt_low (a i:Int) (h:i<0):bt a i=0:=by unfold bt;rw [if_neg (by omega)]
theorem bt_high (a i:Int) (h:256≤i):bt a i=0:=by unfold bt;rw [if_neg (by omega)]
theorem div_pow_mod (x:Int) (r s:Nat):x % 2 ^ (r+s+1) / 2 ^ r % 2=x / 2 ^ r % 2:=by
 have hp:(0:Int)<2 ^ r:=Int.pow_pos (by omega)
 have e:x % 2 ^ (r+s+1)=x-2 ^ r*(2*(2 ^ s*(x / 2 ^ (r+s+1)))):=by
  rw [Int.emod_def,Int.pow_succ,Int.pow_add]
  generalize x / ((2:Int) ^ r*2 ^ s*2)=q
  congr 1
  rw [Int.mul_assoc,Int.mul_assoc,Int.mul_left_comm ((2:Int) ^ s) 2 q]
 rw [e,show x-2 ^ r*(2*(2 ^ s*(x / 2 ^ (r+s+1))))=x+2 ^ r*(-(2*(2 ^ s*(x / 2 ^ (r+s+1))))) by rw [Int.mul_neg];omega,Int.add_mul_ediv_left _ _ (by omega)]
 generalize (2:Int) ^ s*(x / 2 ^ (r+s+1))=z
 omega
theorem word_bit (a:Int) (k r:Nat) (hr:r<64):L k a / 2 ^ r % 2=a / 2 ^ (64*k+r) % 2:=by
 obtain ⟨s,hs⟩:∃ s,64=r+s+1:=⟨63-r,by omega⟩
 have eB:B=2 ^ (r+s+1):=by rw [← hs];rfl
 have eK:B ^ k=2 ^ (64*k):=by rw [Int.pow_mul];rfl
 unfold L
 rw [eK,eB,div_pow_mod,Int.ediv_ediv_of_nonneg (Int.le_of_lt (Int.pow_pos (by omega))),← Int.pow_add]
theorem bit_word (a i:Int) (k:Nat) (h0:0≤i) (h1:i<256) (hq:i / 64=k):wrap64 (bits BinOp.and IntKind.u64 (L k a / 2 ^ (i % 64).toNat) 1)=bt a i:=by
 have hp:(0:Int)<2 ^ (i % 64).toNat:=Int.pow_pos (by omega)
 have l1:=L_lo k a
 have l2:=L_hi k a
 have d1:0≤L k a / 2 ^ (i % 64).toNat:=Int.ediv_nonneg l1 (Int.le_of_lt hp)
 have d2:L k a / 2 ^ (i % 64).toNat≤L k a:=Int.ediv_le_self _ l1
 rw [and_one_u64 _ d1 (by omega),IntWalk.wrap64_in _ (by omega),word_bit _ _ _ (by omega),bt_in _ _ h0 h1]
 rw [show 64*k+(i % 64).toNat=i.toNat by omega]
theorem bit_in0 (a i:Int) (h0:0≤i) (h1:i<256) (hq:i / 64=0) (w:World) :
  Calls Tryd.prog 53 #[.agg #[.int .u64 (L 0 a),.int .u64 (L 1 a),.int .u64 (L 2 a),.int .u64 (L 3 a)],.int .i64 i] w fun e w' =>
   e=.returned (.int .i64 (bt a i))∧Below w.heap.size w w':=by
 have l1:=L_lo 0 a
 have l2:=L_hi 0 a
 go_enter Tryd.func53,Tryd.ntmps53
 go_wp2
 go_ret
 refine ⟨congrArg (fun x=>Ending.returned (.int .i64 x)) (bit_word a i 0 h0 h1 hq),?_⟩
 go_grown
theorem bit_in1 (a i:Int) (h0:0≤i) (h1:i<256) (hq:i / 64=1) (w:World) :
  Calls Tryd.prog 53 #[.agg #[.int .u64 (L 0 a),.int .u64 (L 1 a),.int .u64 (L 2 a),.int .u64 (L 3 a)],.int .i64 i] w fun e w' =>
   e=.returned (.int .i64 (bt a i))∧Below w.heap.size w w':=by
 have l1:=L_lo 1 a
 have l2:=L_hi 1 a
 go_enter Tryd.func53,Tryd.ntmps53
 go_wp2
 go_ret
 refine ⟨congrArg (fun x=>Ending.returned (.int .i64 x)) (bit_word a i 1 h0 h1 hq),?_⟩
 go_grown
theorem bit_in2 (a i:Int) (h0:0≤i) (h1:i<256) (hq:i / 64=2) (w:World) :
  Calls Tryd.prog 53 #[.agg #[.int .u64 (L 0 a),.int .u64 (L 1 a),.int .u64 (L 2 a),.int .u64 (L 3 a)],.int .i64 i] w fun e w' =>
   e=.returned (.int .i64 (bt a i))∧Below w.heap.size w w':=by
 have l1:=L_lo 2 a
 have l2:=L_hi 2 a
 go_enter Tryd.func53,Tryd.ntmps53
 go_wp2
 go_ret
 refine ⟨congrArg (fun x=>Ending.returned (.int .i64 x)) (bit_word a i 2 h0 h1 hq),?_⟩
 go_grown
theorem bit_in3 (a i:Int) (h0:0≤i) (h1:i<256) (hq:i / 64=3) (w:World) :
  Calls Tryd.prog 53 #[.agg #[.int .u64 (L 0 a),.int .u64 (L 1 a),.int .u64 (L 2 a),.int .u64 (L 3 a)],.int .i64 i] w fun e w' =>
   e=.returned (.int .i64 (bt a i))∧Below w.heap.size w w':=by
 have l1:=L_lo 3 a
 have l2:=L_hi 3 a
 go_enter Tryd.func53,Tryd.ntmps53
 go_wp2
 go_ret
 refine ⟨congrArg (fun x=>Ending.returned (.int .i64 x)) (bit_word a i 3 h0 h1 hq),?_⟩
 go_grown
theorem bit_below (a i:Int) (h0:i<0) (w:World) :
  Calls Tryd.prog 53 #[.agg #[.int .u64 (L 0 a),.int .u64 (L 1 a),.int .u64 (L 2 a),.int .u64 (L 3 a)],.int .i64 i] w fun e w' =>
   e=.returned (.int .i64 0)∧Below w.heap.size w w':=by
 go_enter Tryd.func53,Tryd.ntmps53
 go_wp2
 go_ret
 refine ⟨rfl,?_⟩
 go_grown
theorem bit_above (a i:Int) (h0:256≤i) (w:World) :
  Calls Tryd.prog 53 #[.agg #[.int .u64 (L 0 a),.int .u64 (L 1 a),.int .u64 (L 2 a),.int .u64 (L 3 a)],.int .i64 i] w fun e w' =>
   e=.returned (.int .i64 0)∧Below w.heap.size w w':=by
 go_enter Tryd.func53,Tryd.ntmps53
 go_wp2
 go_ret
 refine ⟨rfl,?_⟩
 go_grown
theorem bit_any (a i:Int) (w:World) :
  Calls Tryd.prog 53 #[.agg #[.int .u64 (L 0 a),.int .u64 (L 1 a),.int .u64 (L 2 a),.int .u64 (L 3 a)],.int .i64 i] w fun e w' =>
   e=.returned (.int .i64 (bt a i))∧Below w.heap.size w w':=by
 by_cases h0:i<0
 ·rw [bt_low a i h0];exact bit_below a i h0 w
 by_cases h1:256≤i
 ·rw [bt_high a i h1];exact bit_above a i h1 w
 have hq:i / 64=0∨i / 64=1∨i / 64=2∨i / 64=3:=by omega
 rcases hq with hq | hq | hq | hq
 ·exact bit_in0 a i (by omega) (by omega) hq w
 ·exact bit_in1 a i (by omega) (by omega) hq w
 ·exact bit_in2 a i (by omega) (by omega) hq w
 ·exact bit_in3 a i (by omega) (by omega) hq w
end Go.Proofs.YtjaahnlpnkcimaaDoor
namespace Go.Proofs.YtjaahnlpnkcimaaDoor
set_option maxRecDepth 100000
open Go.RowKit
attribute [local go_sem ↓] Go.wp_at_zero Go.wp_at_succ
def pw (x e:Int):Int:=x ^ e.toNat
theorem pw_zero (x:Int):pw x 0=1:=by simp [pw]
theorem pow_mod_any (x m:Int):∀ k:Nat,(x % m) ^ k % m=x ^ k % m
 | 0=>by simp
 | k+1=>by rw [Int.pow_succ,Int.pow_succ,mul_mod_r,Int.mul_emod,pow_mod_any x m k,← Int.mul_emod]
theorem pw_mod (x e m:Int):pw (x % m) e % m=pw x e % m:=pow_mod_any x m e.toNat
theorem pw_even {x e m:Int} (h:e % 2=0):pw x e % m=pw (x*x % m) (e / 2) % m:=by
 rw [pw_mod]
 unfold pw
 have e1:e.toNat=2*(e / 2).toNat:=by omega
 rw [e1,Int.pow_mul,Int.pow_succ,Int.pow_succ,Int.pow_zero,Int.one_mul]
theorem pw_odd {x e m:Int} (h0:0<e) (h:e % 2=1):pw x e % m=x*pw (x*x % m) (e / 2) % m:=by
 rw [← mul_mod_r,pw_mod,mul_mod_r]
 unfold pw
 have e1:e.toNat=2*(e / 2).toNat+1:=by omega
 rw [e1,Int.pow_succ,Int.pow_mul,Int.pow_succ,Int.pow_succ,Int.pow_zero,Int.one_mul,Int.mul_comm]
theorem inv_even {x y e m:Int} (h:e % 2=0):y*pw (x*x % m) (e / 2) % m=y*pw x e % m:=by
 rw [← mul_mod_r y (pw x e),pw_even h,mul_mod_r]
theorem inv_odd {x y e m:Int} (h0:0<e) (h:e % 2=1):(y*x % m)*pw (x*x % m) (e / 2) % m=y*pw x e % m:=by
 rw [mul_mod_l,← mul_mod_r y (pw x e),pw_odd h0 h,mul_mod_r,Int.mul_assoc]
theorem bt_0 (f:Int):bt f 0=f % 2:=by unfold bt;simp
theorem words_not {f:Int} (h:Num f) (hf:f≠0):(L 0 f == 0 && (L 1 f == 0 && (L 2 f == 0 && (L 3 f == 0 && true))))=false:=by
 cases hb:(L 0 f == 0 && (L 1 f == 0 && (L 2 f == 0 && (L 3 f == 0 && true)))) with
 | false=>rfl
 | true =>
  simp only [Bool.and_eq_true,beq_iff_eq,and_true] at hb
  have:=num_val h
  omega
structure PowS (w wr:World) (n:Nat) (x f y:Int):Prop where
 below:Below w.heap.size w wr
 X:ArrW wr w.heap.size (L 0 x) (L 1 x) (L 2 x) (L 3 x)
 E:ArrW wr (w.heap.size+1) (L 0 f) (L 1 f) (L 2 f) (L 3 f)
 R:ArrW wr (w.heap.size+1+1) 0 0 0 0
 P:ArrW wr n (L 0 y) (L 1 y) (L 2 y) (L 3 y)
theorem PowS.call {w wr w1:World} {n:Nat} {x f y:Int} (h:PowS w wr n x f y) (hk:Below wr.heap.size wr w1):PowS w w1 n x f y :=
 ⟨K.call h.below hk,h.X.keep hk,h.E.keep hk,h.R.keep hk,h.P.keep hk⟩
theorem PowS.storeP {w wr:World} {n:Nat} {x f y:Int} (h:PowS w wr n x f y) (hn:w.heap.size+1+1<n) (z:Int):PowS w ((((wr.setCell ⟨n,0,none⟩ (.int .u64 (L 0 z))).setCell ⟨n,1,none⟩ (.int .u64 (L 1 z))).setCell ⟨n,2,none⟩ (.int .u64 (L 2 z))).setCell ⟨n,3,none⟩ (.int .u64 (L 3 z))) n x f z :=
 ⟨K.set4 h.below (by omega) _ _ _ _,h.X.set4 (by omega) _ _ _ _,h.E.set4 (by omega) _ _ _ _,h.R.set4 (by omega) _ _ _ _,h.P.stored _ _ _ _⟩
theorem PowS.storeA {w wr:World} {n:Nat} {x f y:Int} (h:PowS w wr n x f y) (hn:w.heap.size+1+1<n) (z:Int):PowS w ((((wr.setCell ⟨w.heap.size,0,none⟩ (.int .u64 (L 0 z))).setCell ⟨w.heap.size,1,none⟩ (.int .u64 (L 1 z))).setCell ⟨w.heap.size,2,none⟩ (.int .u64 (L 2 z))).setCell ⟨w.heap.size,3,none⟩ (.int .u64 (L 3 z))) n z f y :=
 ⟨K.set4 h.below (by omega) _ _ _ _,h.X.stored _ _ _ _,h.E.set4 (by omega) _ _ _ _,h.R.set4 (by omega) _ _ _ _,h.P.set4 (by omega) _ _ _ _⟩
theorem PowS.storeE {w wr:World} {n:Nat} {x f y:Int} (h:PowS w wr n x f y) (hn:w.heap.size+1+1<n) (z:Int):PowS w ((((wr.setCell ⟨(w.heap.size+1),0,none⟩ (.int .u64 (L 0 z))).setCell ⟨(w.heap.size+1),1,none⟩ (.int .u64 (L 1 z))).setCell ⟨(w.heap.size+1),2,none⟩ (.int .u64 (L 2 z))).setCell ⟨(w.heap.size+1),3,none⟩ (.int .u64 (L 3 z))) n x z y :=
 ⟨K.set4 h.below (by omega) _ _ _ _,h.X.set4 (by omega) _ _ _ _,h.E.stored _ _ _ _,h.R.set4 (by omega) _ _ _ _,h.P.set4 (by omega) _ _ _ _⟩
theorem f_pow {k a ex:Int} (hkk:0≤k∧k≤3) (ha:Num a) (he:Num ex) {w:World} (hT:Tab w) :
  Calls Tryd.prog 37 #[.int .i64 k,.agg #[.int .u64 (L 0 a),.int .u64 (L 1 a),.int .u64 (L 2 a),.int .u64 (L 3 a)],.agg #[.int .u64 (L 0 ex),.int .u64 (L 1 ex),.int .u64 (L 2 ex),.int .u64 (L 3 ex)]] w fun e w'=>e=.returned (.agg #[.int .u64 (L 0 (pw a ex % md k)),.int .u64 (L 1 (pw a ex % md k)),.int .u64 (L 2 (pw a ex % md k)),.int .u64 (L 3 (pw a ex % md k))])∧Below w.heap.size w w':=by
 have nm:=md_num k
 have hp:=md_pos hkk
 have HF:Hid (∀ w,Calls Tryd.prog 47 #[.agg #[.int .u64 (L 0 (md k)),.int .u64 (L 1 (md k)),.int .u64 (L 2 (md k)),.int .u64 (L 3 (md k))],.agg #[.int .u64 1,.int .u64 0,.int .u64 0,.int .u64 0]] w fun e w'=>e=.returned (.agg #[.int .u64 (L 0 (1 % md k)),.int .u64 (L 1 (1 % md k)),.int .u64 (L 2 (1 % md k)),.int .u64 (L 3 (1 % md k))])∧Below w.heap.size w w'):=by
  intro w
  have h:=fold_any (a:=1) hkk ⟨by decide,by decide⟩ w
  have b0:L 0 1=1:=by decide
  have b1:L 1 1=0:=by decide
  have b2:L 2 1=0:=by decide
  have b3:L 3 1=0:=by decide
  rw [b0,b1,b2,b3] at h
  exact h
 have HPR:Hid (∀ a b w,Num a→Num b→Calls Tryd.prog 50 #[.agg #[.int .u64 (L 0 (md k)),.int .u64 (L 1 (md k)),.int .u64 (L 2 (md k)),.int .u64 (L 3 (md k))],.agg #[.int .u64 (L 0 a),.int .u64 (L 1 a),.int .u64 (L 2 a),.int .u64 (L 3 a)],.agg #[.int .u64 (L 0 b),.int .u64 (L 1 b),.int .u64 (L 2 b),.int .u64 (L 3 b)]] w fun e w'=>e=.returned (.agg #[.int .u64 (L 0 (a*b % md k)),.int .u64 (L 1 (a*b % md k)),.int .u64 (L 2 (a*b % md k)),.int .u64 (L 3 (a*b % md k))])∧Below w.heap.size w w'):=fun a b w ha hb=>prod_any hkk ha hb w
 have HMO:Hid (∀ w,Tab w→Calls Tryd.prog 45 #[.int .i64 k] w fun e w'=>e=.returned (.agg #[.int .u64 (L 0 (md k)),.int .u64 (L 1 (md k)),.int .u64 (L 2 (md k)),.int .u64 (L 3 (md k))])∧Below w.heap.size w w'):=fun w hT=>modOf_any k hT
 have H0:Hid (Num a∧Num ex∧0≤1 % md k∧1 % md k<md k∧Num (1 % md k)):=⟨ha,he,Int.emod_nonneg _ (by omega),Int.emod_lt_of_pos _ hp,num_f hkk⟩
 have HNM:Hid (Num (md k)∧0<md k):=⟨nm,hp⟩
 clear ha he hp nm hkk
 generalize md k=m at *
 go_enter Tryd.func37,Tryd.ntmps37
 go_wp2_with fail
 with_reducible refine Calls.mono (HMO.out _ (hT.keep (K.alloc (K.alloc (K.alloc (Below.refl _ _) _) _) _))) ?_
 rintro e w1 ⟨rfl,hb1⟩
 clear HMO
 have X1:=(((ArrW.new w w.heap.size rfl 33 (L 0 a) (L 1 a) (L 2 a) (L 3 a)).alloc _).alloc _).keep hb1 |>.alloc (.cells #[.int .u64 (L 0 m),.int .u64 (L 1 m),.int .u64 (L 2 m),.int .u64 (L 3 m)] 67)
 have E1:=((ArrW.new _ (w.heap.size+1) (by simp) 33 (L 0 ex) (L 1 ex) (L 2 ex) (L 3 ex)).alloc _).keep hb1 |>.alloc (.cells #[.int .u64 (L 0 m),.int .u64 (L 1 m),.int .u64 (L 2 m),.int .u64 (L 3 m)] 67)
 have R1:=(ArrW.new _ (w.heap.size+1+1) (by simp) 33 0 0 0 0).keep hb1 |>.alloc (.cells #[.int .u64 (L 0 m),.int .u64 (L 1 m),.int .u64 (L 2 m),.int .u64 (L 3 m)] 67)
 have M1:=Arr.new w1 w1.heap.size rfl 67 (L 0 m) (L 1 m) (L 2 m) (L 3 m)
 have hw1:Below w.heap.size w (w1.alloc (.cells #[.int .u64 (L 0 m),.int .u64 (L 1 m),.int .u64 (L 2 m),.int .u64 (L 3 m)] 67)):=K.alloc (K.call (K.alloc (K.alloc (K.alloc (Below.refl _ w) _) _) _) hb1) _
 clear hb1 hT
 go_wp2_with fail
 with_reducible refine Calls.mono (HF.out _) ?_
 rintro e w2 ⟨rfl,hb2⟩
 generalize h1m:1 % m=y0 at *
 have HY:Hid (1 % m=y0):=h1m
 clear h1m
 have hS1:PowS w (w2.alloc (.cells #[.int .u64 (L 0 y0),.int .u64 (L 1 y0),.int .u64 (L 2 y0),.int .u64 (L 3 y0)] 33)) w2.heap.size a ex y0 :=
  ⟨K.alloc (K.call hw1 hb2) _,(X1.keep hb2).alloc _,(E1.keep hb2).alloc _,(R1.keep hb2).alloc _,ArrW.new w2 w2.heap.size rfl 33 _ _ _ _⟩
 have hn:w.heap.size+1+1<w2.heap.size:=by have:=R1.lt;have:=hb2.size;omega
 clear hb2 X1 E1 R1 M1 hw1 HF
 go_wp2_with fail
 go_loopg [] ex.toNat (fun g wr=>∃ x y f:Int,g=f.toNat∧Num f∧Num x∧Num y∧(0≤y∧y<m)∧y*pw x f % m=pw a ex % m∧PowS w wr w2.heap.size x f y)
 case atStart =>
  have h:=H0.out
  exact ⟨a,y0,ex,rfl,h.2.1,h.1,h.2.2.2.2,⟨h.2.2.1,h.2.2.2.1⟩,by rw [← HY.out,mul_mod_l,Int.one_mul],hS1⟩
 case round =>
  clear hS1
  obtain ⟨x,y,f,hg,nf,nx,ny,hy,hinv,hS⟩:=hrel
  have hS0:=hS
  obtain ⟨hbw,⟨al,a0,a1,a2,a3,af0,af1,af2,af3⟩,⟨el,e0,e1,e2,e3,ef0,ef1,ef2,ef3⟩,⟨rl,r0,r1,r2,r3,rf0,rf1,rf2,rf3⟩,⟨pl,p0,p1,p2,p3,pf0,pf1,pf2,pf3⟩⟩:=hS0
  by_cases hf:f=0
  ·have HV:Hid (y=pw a ex % m):=by rw [← hinv,hf,pw_zero,Int.mul_one];exact (Int.emod_eq_of_lt hy.1 hy.2).symm
   have HE:∀ w,(Op.equalIn 10000 33 (.agg #[.int .u64 (L 0 f),.int .u64 (L 1 f),.int .u64 (L 2 f),.int .u64 (L 3 f)]) (.agg #[.int .u64 0,.int .u64 0,.int .u64 0,.int .u64 0])).run Tryd.prog w=.ok true w:=by
    intro w;rw [eq4,hf,L_zero,L_zero,L_zero,L_zero];rfl
   clear hg hinv hy nf nx ny hf
   go_wp2_with fail
   refine bodyPost_ret (v:=.agg #[.int .u64 (L 0 y),.int .u64 (L 1 y),.int .u64 (L 2 y),.int .u64 (L 3 y)]) (by simp [results,Tryd.results37,go_sem,r0,r1,r2,r3]) rfl ⟨by rw [← HV.out],K.set4 hS.below (by omega) _ _ _ _⟩
  ·have HE:∀ w,(Op.equalIn 10000 33 (.agg #[.int .u64 (L 0 f),.int .u64 (L 1 f),.int .u64 (L 2 f),.int .u64 (L 3 f)]) (.agg #[.int .u64 0,.int .u64 0,.int .u64 0,.int .u64 0])).run Tryd.prog w=.ok false w:=by
    intro w;rw [eq4,words_not nf hf]
   have hm:=HNM.out
   have HH:Hid (∀ w,Calls Tryd.prog 68 #[.agg #[.int .u64 (L 0 f),.int .u64 (L 1 f),.int .u64 (L 2 f),.int .u64 (L 3 f)]] w fun e w'=>e=.returned (.agg #[.int .u64 (L 0 (f / 2)),.int .u64 (L 1 (f / 2)),.int .u64 (L 2 (f / 2)),.int .u64 (L 3 (f / 2))])∧Below w.heap.size w w'):=fun w=>half_any nf w
   have HP2:Hid (∀ w,Calls Tryd.prog 50 #[.agg #[.int .u64 (L 0 m),.int .u64 (L 1 m),.int .u64 (L 2 m),.int .u64 (L 3 m)],.agg #[.int .u64 (L 0 x),.int .u64 (L 1 x),.int .u64 (L 2 x),.int .u64 (L 3 x)],.agg #[.int .u64 (L 0 x),.int .u64 (L 1 x),.int .u64 (L 2 x),.int .u64 (L 3 x)]] w fun e w'=>e=.returned (.agg #[.int .u64 (L 0 (x*x % m)),.int .u64 (L 1 (x*x % m)),.int .u64 (L 2 (x*x % m)),.int .u64 (L 3 (x*x % m))])∧Below w.heap.size w w'):=fun w=>HPR.out x x w nx nx
   have fl:=nf.lo
   have fh:=nf.hi
   have nx':Num (x*x % m):=num_mod hm.1 hm.2
   have nf':Num (f / 2):=⟨by omega,by omega⟩
   by_cases ho:f % 2=1
   ·have HB:∀ w,Calls Tryd.prog 53 #[.agg #[.int .u64 (L 0 f),.int .u64 (L 1 f),.int .u64 (L 2 f),.int .u64 (L 3 f)],.int .i64 0] w fun e w'=>e=.returned (.int .i64 1)∧Below w.heap.size w w':=by
     intro w;have h:=bit_any f 0 w;rwa [bt_0,ho] at h
    have HP1:Hid (∀ w,Calls Tryd.prog 50 #[.agg #[.int .u64 (L 0 m),.int .u64 (L 1 m),.int .u64 (L 2 m),.int .u64 (L 3 m)],.agg #[.int .u64 (L 0 y),.int .u64 (L 1 y),.int .u64 (L 2 y),.int .u64 (L 3 y)],.agg #[.int .u64 (L 0 x),.int .u64 (L 1 x),.int .u64 (L 2 x),.int .u64 (L 3 x)]] w fun e w'=>e=.returned (.agg #[.int .u64 (L 0 (y*x % m)),.int .u64 (L 1 (y*x % m)),.int .u64 (L 2 (y*x % m)),.int .u64 (L 3 (y*x % m))])∧Below w.heap.size w w'):=fun w=>HPR.out y x w ny nx
    have HI:Hid (Num (f / 2)∧Num (x*x % m)∧Num (y*x % m)∧(0≤y*x % m∧y*x % m<m)∧(y*x % m)*pw (x*x % m) (f / 2) % m=pw a ex % m∧0<f∧gk=f.toNat) :=
     ⟨nf',nx',num_mod hm.1 hm.2,⟨Int.emod_nonneg _ (by omega),Int.emod_lt_of_pos _ hm.2⟩,by rw [inv_odd (by omega) ho,hinv],by omega,hg⟩
    clear hg hinv hy nf nx ny hf nx' nf' ho fl fh hm
    generalize x*x % m=x' at *
    generalize y*x % m=y' at *
    go_wp2_with fail
    with_reducible refine Calls.mono (HB _) ?_
    clear hbw al a0 a1 a2 a3 af0 af1 af2 af3 el e0 e1 e2 e3 ef0 ef1 ef2 ef3 rl r0 r1 r2 r3 rf0 rf1 rf2 rf3 pl p0 p1 p2 p3 pf0 pf1 pf2 pf3
    rintro e w3 ⟨rfl,hb⟩
    have hS3:=hS.call hb
    clear hb hS
    have hS0:=hS3
    obtain ⟨hbw,⟨al,a0,a1,a2,a3,af0,af1,af2,af3⟩,⟨el,e0,e1,e2,e3,ef0,ef1,ef2,ef3⟩,⟨rl,r0,r1,r2,r3,rf0,rf1,rf2,rf3⟩,⟨pl,p0,p1,p2,p3,pf0,pf1,pf2,pf3⟩⟩:=hS0
    go_wp2_with fail
    with_reducible refine Calls.mono (HP1.out _) ?_
    clear hbw al a0 a1 a2 a3 af0 af1 af2 af3 el e0 e1 e2 e3 ef0 ef1 ef2 ef3 rl r0 r1 r2 r3 rf0 rf1 rf2 rf3 pl p0 p1 p2 p3 pf0 pf1 pf2 pf3
    rintro e w4 ⟨rfl,hb⟩
    have hS4:=hS3.call hb
    clear hb hS3
    have hS0:=hS4
    obtain ⟨hbw,⟨al,a0,a1,a2,a3,af0,af1,af2,af3⟩,⟨el,e0,e1,e2,e3,ef0,ef1,ef2,ef3⟩,⟨rl,r0,r1,r2,r3,rf0,rf1,rf2,rf3⟩,⟨pl,p0,p1,p2,p3,pf0,pf1,pf2,pf3⟩⟩:=hS0
    go_upto_region 7 with fail
    refine wp_world (fun W=>PowS w W w2.heap.size x f y') (hS4.storeP hn y') ?_
    clear hbw al a0 a1 a2 a3 af0 af1 af2 af3 el e0 e1 e2 e3 ef0 ef1 ef2 ef3 rl r0 r1 r2 r3 rf0 rf1 rf2 rf3 pl p0 p1 p2 p3 pf0 pf1 pf2 pf3 hS4
    intro w5 hS5
    have hS0:=hS5
    obtain ⟨hbw,⟨al,a0,a1,a2,a3,af0,af1,af2,af3⟩,⟨el,e0,e1,e2,e3,ef0,ef1,ef2,ef3⟩,⟨rl,r0,r1,r2,r3,rf0,rf1,rf2,rf3⟩,⟨pl,p0,p1,p2,p3,pf0,pf1,pf2,pf3⟩⟩:=hS0
    go_wp2_with fail
    with_reducible refine Calls.mono (HP2.out _) ?_
    clear hbw al a0 a1 a2 a3 af0 af1 af2 af3 el e0 e1 e2 e3 ef0 ef1 ef2 ef3 rl r0 r1 r2 r3 rf0 rf1 rf2 rf3 pl p0 p1 p2 p3 pf0 pf1 pf2 pf3
    rintro e w6 ⟨rfl,hb⟩
    have hS6:=hS5.call hb
    clear hb hS5
    have hS0:=hS6
    obtain ⟨hbw,⟨al,a0,a1,a2,a3,af0,af1,af2,af3⟩,⟨el,e0,e1,e2,e3,ef0,ef1,ef2,ef3⟩,⟨rl,r0,r1,r2,r3,rf0,rf1,rf2,rf3⟩,⟨pl,p0,p1,p2,p3,pf0,pf1,pf2,pf3⟩⟩:=hS0
    go_upto_region 8 with fail
    refine wp_world (fun W=>PowS w W w2.heap.size x' f y') (hS6.storeA hn x') ?_
    clear hbw al a0 a1 a2 a3 af0 af1 af2 af3 el e0 e1 e2 e3 ef0 ef1 ef2 ef3 rl r0 r1 r2 r3 rf0 rf1 rf2 rf3 pl p0 p1 p2 p3 pf0 pf1 pf2 pf3 hS6
    intro w7 hS7
    have hS0:=hS7
    obtain ⟨hbw,⟨al,a0,a1,a2,a3,af0,af1,af2,af3⟩,⟨el,e0,e1,e2,e3,ef0,ef1,ef2,ef3⟩,⟨rl,r0,r1,r2,r3,rf0,rf1,rf2,rf3⟩,⟨pl,p0,p1,p2,p3,pf0,pf1,pf2,pf3⟩⟩:=hS0
    go_wp2_with fail
    with_reducible refine Calls.mono (HH.out _) ?_
    clear hbw al a0 a1 a2 a3 af0 af1 af2 af3 el e0 e1 e2 e3 ef0 ef1 ef2 ef3 rl r0 r1 r2 r3 rf0 rf1 rf2 rf3 pl p0 p1 p2 p3 pf0 pf1 pf2 pf3
    rintro e w8 ⟨rfl,hb⟩
    have hS8:=hS7.call hb
    clear hb hS7
    have hS0:=hS8
    obtain ⟨hbw,⟨al,a0,a1,a2,a3,af0,af1,af2,af3⟩,⟨el,e0,e1,e2,e3,ef0,ef1,ef2,ef3⟩,⟨rl,r0,r1,r2,r3,rf0,rf1,rf2,rf3⟩,⟨pl,p0,p1,p2,p3,pf0,pf1,pf2,pf3⟩⟩:=hS0
    go_wp2_with fail
    go_roundg (f / 2).toNat
    case measure=>have:=HI.out;omega
    case rel=>exact ⟨x',y',f / 2,rfl,HI.out.1,HI.out.2.1,HI.out.2.2.1,HI.out.2.2.2.1,HI.out.2.2.2.2.1,hS8.storeE hn (f / 2)⟩
   ·have hz:f % 2=0:=by omega
    have HB:∀ w,Calls Tryd.prog 53 #[.agg #[.int .u64 (L 0 f),.int .u64 (L 1 f),.int .u64 (L 2 f),.int .u64 (L 3 f)],.int .i64 0] w fun e w'=>e=.returned (.int .i64 0)∧Below w.heap.size w w':=by
     intro w;have h:=bit_any f 0 w;rwa [bt_0,hz] at h
    have HI:Hid (Num (f / 2)∧Num (x*x % m)∧Num y∧(0≤y∧y<m)∧y*pw (x*x % m) (f / 2) % m=pw a ex % m∧0<f∧gk=f.toNat) :=
     ⟨nf',nx',ny,hy,by rw [inv_even hz,hinv],by omega,hg⟩
    clear hg hinv hy nf nx ny hf nx' nf' ho hz fl fh hm
    generalize x*x % m=x' at *
    go_wp2_with fail
    with_reducible refine Calls.mono (HB _) ?_
    clear hbw al a0 a1 a2 a3 af0 af1 af2 af3 el e0 e1 e2 e3 ef0 ef1 ef2 ef3 rl r0 r1 r2 r3 rf0 rf1 rf2 rf3 pl p0 p1 p2 p3 pf0 pf1 pf2 pf3
    rintro e w3 ⟨rfl,hb⟩
    have hS3:=hS.call hb
    clear hb hS
    have hS0:=hS3
    obtain ⟨hbw,⟨al,a0,a1,a2,a3,af0,af1,af2,af3⟩,⟨el,e0,e1,e2,e3,ef0,ef1,ef2,ef3⟩,⟨rl,r0,r1,r2,r3,rf0,rf1,rf2,rf3⟩,⟨pl,p0,p1,p2,p3,pf0,pf1,pf2,pf3⟩⟩:=hS0
    go_wp2_with fail
    with_reducible refine Calls.mono (HP2.out _) ?_
    clear hbw al a0 a1 a2 a3 af0 af1 af2 af3 el e0 e1 e2 e3 ef0 ef1 ef2 ef3 rl r0 r1 r2 r3 rf0 rf1 rf2 rf3 pl p0 p1 p2 p3 pf0 pf1 pf2 pf3
    rintro e w6 ⟨rfl,hb⟩
    have hS6:=hS3.call hb
    clear hb hS3
    have hS0:=hS6
    obtain ⟨hbw,⟨al,a0,a1,a2,a3,af0,af1,af2,af3⟩,⟨el,e0,e1,e2,e3,ef0,ef1,ef2,ef3⟩,⟨rl,r0,r1,r2,r3,rf0,rf1,rf2,rf3⟩,⟨pl,p0,p1,p2,p3,pf0,pf1,pf2,pf3⟩⟩:=hS0
    go_upto_region 8 with fail
    refine wp_world (fun W=>PowS w W w2.heap.size x' f y) (hS6.storeA hn x') ?_
    clear hbw al a0 a1 a2 a3 af0 af1 af2 af3 el e0 e1 e2 e3 ef0 ef1 ef2 ef3 rl r0 r1 r2 r3 rf0 rf1 rf2 rf3 pl p0 p1 p2 p3 pf0 pf1 pf2 pf3 hS6
    intro w7 hS7
    have hS0:=hS7
    obtain ⟨hbw,⟨al,a0,a1,a2,a3,af0,af1,af2,af3⟩,⟨el,e0,e1,e2,e3,ef0,ef1,ef2,ef3⟩,⟨rl,r0,r1,r2,r3,rf0,rf1,rf2,rf3⟩,⟨pl,p0,p1,p2,p3,pf0,pf1,pf2,pf3⟩⟩:=hS0
    go_wp2_with fail
    with_reducible refine Calls.mono (HH.out _) ?_
    clear hbw al a0 a1 a2 a3 af0 af1 af2 af3 el e0 e1 e2 e3 ef0 ef1 ef2 ef3 rl r0 r1 r2 r3 rf0 rf1 rf2 rf3 pl p0 p1 p2 p3 pf0 pf1 pf2 pf3
    rintro e w8 ⟨rfl,hb⟩
    have hS8:=hS7.call hb
    clear hb hS7
    have hS0:=hS8
    obtain ⟨hbw,⟨al,a0,a1,a2,a3,af0,af1,af2,af3⟩,⟨el,e0,e1,e2,e3,ef0,ef1,ef2,ef3⟩,⟨rl,r0,r1,r2,r3,rf0,rf1,rf2,rf3⟩,⟨pl,p0,p1,p2,p3,pf0,pf1,pf2,pf3⟩⟩:=hS0
    go_wp2_with fail
    go_roundg (f / 2).toNat
    case measure=>have:=HI.out;omega
    case rel=>exact ⟨x',y,f / 2,rfl,HI.out.1,HI.out.2.1,HI.out.2.2.1,HI.out.2.2.2.1,HI.out.2.2.2.2.1,hS8.storeE hn (f / 2)⟩
end Go.Proofs.YtjaahnlpnkcimaaDoor
namespace Go.Proofs.YtjaahnlpnkcimaaDoor
set_option maxRecDepth 100000
open Go.RowKit
attribute [local go_sem ↓] Go.wp_at_zero Go.wp_at_succ
theorem f_mod (k:Int) {w:World} (hT:Tab w):Calls Tryd.prog 61 #[.int .i64 k] w fun e w'=>e=.returned (.agg #[.int .u64 (L 0 (md k)),.int .u64 (L 1 (md k)),.int .u64 (L 2 (md k)),.int .u64 (L 3 (md k))])∧Below w.heap.size w w':=by
 go_enter Tryd.func61,Tryd.ntmps61
 go_wp2_with fail
 with_reducible refine Calls.mono (modOf_any k (hT.keep (K.alloc (Below.refl _ _) _))) ?_
 rintro e w1 ⟨rfl,hb1⟩
 have ⟨kr,kr0,kr1,kr2,kr3,kf0,kf1,kf2,kf3⟩:=(ArrW.new w w.heap.size rfl 33 0 0 0 0).keep hb1
 have hw1:Below w.heap.size w w1:=K.call (K.alloc (Below.refl _ w) _) hb1
 go_wp2_with fail
 exact bodyPost_ret (v:=.agg #[.int .u64 (L 0 (md k)),.int .u64 (L 1 (md k)),.int .u64 (L 2 (md k)),.int .u64 (L 3 (md k))]) (by simp [results,Tryd.results61,go_sem,kr0,kr1,kr2,kr3]) rfl ⟨rfl,K.set4 hw1 (by omega) _ _ _ _⟩
end Go.Proofs.YtjaahnlpnkcimaaDoor
namespace Go.Proofs.YtjaahnlpnkcimaaDoor
set_option maxRecDepth 100000
open Go.RowKit
attribute [local go_sem ↓] Go.wp_at_zero Go.wp_at_succ
theorem md_big {k:Int} (hk:0≤k∧k≤3):4<md k:=by
 rcases md_cases hk with rfl | rfl | rfl | rfl <;> decide
theorem f_inv {k a:Int} (hkk:0≤k∧k≤3) (ha:Num a) {w:World} (hT:Tab w):Calls Tryd.prog 34 #[.int .i64 k,.agg #[.int .u64 (L 0 a),.int .u64 (L 1 a),.int .u64 (L 2 a),.int .u64 (L 3 a)]] w fun e w'=>e=.returned (.agg #[.int .u64 (L 0 (pw a (md k-2) % md k)),.int .u64 (L 1 (pw a (md k-2) % md k)),.int .u64 (L 2 (pw a (md k-2) % md k)),.int .u64 (L 3 (pw a (md k-2) % md k))])∧Below w.heap.size w w':=by
 have hb:=md_big hkk
 have nm:=md_num k
 have ne:Num (md k-2):=⟨by omega,by have:=nm.hi;omega⟩
 have HS:Hid (∀ w,Calls Tryd.prog 48 #[.agg #[.int .u64 (L 0 (md k)),.int .u64 (L 1 (md k)),.int .u64 (L 2 (md k)),.int .u64 (L 3 (md k))],.agg #[.int .u64 2,.int .u64 0,.int .u64 0,.int .u64 0]] w fun e w'=>e=.returned (.tuple #[.agg #[.int .u64 (L 0 (md k-2)),.int .u64 (L 1 (md k-2)),.int .u64 (L 2 (md k-2)),.int .u64 (L 3 (md k-2))],.bool (D (md k) 2 4 == 1)])∧Below w.heap.size w w'):=by
  intro w
  have h:=sub_walk (md k) 2 w
  have b0:L 0 2=2:=by decide
  have b1:L 1 2=0:=by decide
  have b2:L 2 2=0:=by decide
  have b3:L 3 2=0:=by decide
  rw [b0,b1,b2,b3] at h
  exact h
 have HP:Hid (∀ w,Tab w→Calls Tryd.prog 37 #[.int .i64 k,.agg #[.int .u64 (L 0 a),.int .u64 (L 1 a),.int .u64 (L 2 a),.int .u64 (L 3 a)],.agg #[.int .u64 (L 0 (md k-2)),.int .u64 (L 1 (md k-2)),.int .u64 (L 2 (md k-2)),.int .u64 (L 3 (md k-2))]] w fun e w'=>e=.returned (.agg #[.int .u64 (L 0 (pw a (md k-2) % md k)),.int .u64 (L 1 (pw a (md k-2) % md k)),.int .u64 (L 2 (pw a (md k-2) % md k)),.int .u64 (L 3 (pw a (md k-2) % md k))])∧Below w.heap.size w w'):=fun w hT=>f_pow hkk ha ne hT
 have HM:Hid (∀ w,Tab w→Calls Tryd.prog 61 #[.int .i64 k] w fun e w'=>e=.returned (.agg #[.int .u64 (L 0 (md k)),.int .u64 (L 1 (md k)),.int .u64 (L 2 (md k)),.int .u64 (L 3 (md k))])∧Below w.heap.size w w'):=fun w hT=>f_mod k hT
 clear hkk ha ne nm hb
 generalize pw a (md k-2) % md k=i at *
 generalize md k-2=ex at *
 generalize md k=m at *
 generalize (D m 2 4 == 1)=u at *
 go_enter Tryd.func34,Tryd.ntmps34
 go_wp2_with fail
 with_reducible refine Calls.mono (HM.out _ (hT.keep (K.alloc (K.alloc (Below.refl _ _) _) _))) ?_
 rintro e w1 ⟨rfl,hb1⟩
 have A1:=((Arr.new w w.heap.size rfl 33 (L 0 a) (L 1 a) (L 2 a) (L 3 a)).alloc _).keep hb1
 have R1:=(ArrW.new _ (w.heap.size+1) (by simp) 33 0 0 0 0).keep hb1
 have hw1:Below w.heap.size w w1:=K.call (K.alloc (K.alloc (Below.refl _ w) _) _) hb1
 clear hb1
 go_wp2_with fail
 with_reducible refine Calls.mono (HS.out _) ?_
 rintro e w2 ⟨rfl,hb2⟩
 have A2:=(A1.keep hb2).alloc (.cells #[.int .u64 (L 0 ex),.int .u64 (L 1 ex),.int .u64 (L 2 ex),.int .u64 (L 3 ex)] 33)
 have R2:=(R1.keep hb2).alloc (.cells #[.int .u64 (L 0 ex),.int .u64 (L 1 ex),.int .u64 (L 2 ex),.int .u64 (L 3 ex)] 33)
 have E2:=Arr.new w2 w2.heap.size rfl 33 (L 0 ex) (L 1 ex) (L 2 ex) (L 3 ex)
 have hw2:Below w.heap.size w (w2.alloc (.cells #[.int .u64 (L 0 ex),.int .u64 (L 1 ex),.int .u64 (L 2 ex),.int .u64 (L 3 ex)] 33)):=K.alloc (K.call hw1 hb2) _
 have hT2:=hT.keep hw2
 clear hb2 A1 R1 hw1 hT
 have ⟨ka,ka0,ka1,ka2,ka3⟩:=A2
 have ⟨ke,ke0,ke1,ke2,ke3⟩:=E2
 go_wp2_with fail
 with_reducible refine Calls.mono (HP.out _ hT2) ?_
 clear ka ka0 ka1 ka2 ka3 ke ke0 ke1 ke2 ke3
 rintro e w3 ⟨rfl,hb3⟩
 have ⟨kr,kr0,kr1,kr2,kr3,kf0,kf1,kf2,kf3⟩:=R2.keep hb3
 have hw3:Below w.heap.size w w3:=K.call hw2 hb3
 go_wp2_with fail
 exact bodyPost_ret (v:=.agg #[.int .u64 (L 0 i),.int .u64 (L 1 i),.int .u64 (L 2 i),.int .u64 (L 3 i)]) (by simp [results,Tryd.results34,go_sem,kr0,kr1,kr2,kr3]) rfl ⟨rfl,K.set4 hw3 (by omega) _ _ _ _⟩
end Go.Proofs.YtjaahnlpnkcimaaDoor
namespace Go.Proofs.YtjaahnlpnkcimaaDoor
set_option maxRecDepth 100000
open Go.RowKit
def gc (x:Fin m2):List Value:=nc (x.val:Int)
theorem nz_gc:nz=gc 0:=by kernel_rfl
theorem md_m2:md 2=(m2:Int):=by kernel_rfl
theorem gin_num (x:Fin m2):Num (x.val:Int):=⟨by omega,by have:=x.isLt;unfold m2 q2 at this;unfold M;omega⟩
theorem gc_mul (x y:Fin m2):gc (x*y)=nc ((x.val:Int)*y.val % md 2):=by
 rw [gc,Fin.val_mul,Int.natCast_emod,Int.natCast_mul,md_m2]
theorem gc_add (x y:Fin m2):gc (x+y)=nc (((x.val:Int)+y.val) % md 2):=by
 rw [gc,Fin.val_add,Int.natCast_emod,Int.natCast_add,md_m2]
theorem gc_sub (x y:Fin m2):gc (x-y)=nc (((x.val:Int)-y.val) % md 2):=by
 rw [gc,md_m2]
 congr 1
 have h:=kc_sub (p:=m2) (x.val:Int) (y.val:Int)
 rw [kc_self,kc_self] at h
 rw [← h,kc_val]
theorem gc_inv (x:Fin m2):gc (fiv x)=nc (pw (x.val:Int) (md 2-2) % md 2):=by
 rw [gc,fiv,kc_val,md_m2]
 unfold pw
 rw [show ((m2:Int)-2).toNat=m2-2 by unfold m2 q2;omega]
theorem d_add {w:World} (hT:Tab w) (x y:Fin m2):Calls Tryd.prog 20 [.int .i64 2,.agg (gc x).toArray,.agg (gc y).toArray].toArray w fun e w'=>e=.returned (.agg (gc (x+y)).toArray)∧Below w.heap.size w w':=by
 rw [gc_add]
 exact f_add (k:=2) ⟨by decide,by decide⟩ (gin_num x) (gin_num y) hT
theorem d_sub {w:World} (hT:Tab w) (x y:Fin m2):Calls Tryd.prog 66 [.int .i64 2,.agg (gc x).toArray,.agg (gc y).toArray].toArray w fun e w'=>e=.returned (.agg (gc (x-y)).toArray)∧Below w.heap.size w w':=by
 rw [gc_sub]
 exact f_sub (k:=2) ⟨by decide,by decide⟩ (gin_num x) (gin_num y) hT
theorem d_mul {w:World} (hT:Tab w) (x y:Fin m2):Calls Tryd.prog 21 [.int .i64 2,.agg (gc x).toArray,.agg (gc y).toArray].toArray w fun e w'=>e=.returned (.agg (gc (x*y)).toArray)∧Below w.heap.size w w':=by
 rw [gc_mul]
 exact f_mul (k:=2) ⟨by decide,by decide⟩ (gin_num x) (gin_num y) hT
theorem d_inv {w:World} (hT:Tab w) (x:Fin m2):Calls Tryd.prog 34 [.int .i64 2,.agg (gc x).toArray].toArray w fun e w'=>e=.returned (.agg (gc (fiv x)).toArray)∧Below w.heap.size w w':=by
 rw [gc_inv]
 exact f_inv (k:=2) ⟨by decide,by decide⟩ (gin_num x) hT
theorem eq_gc (x y:Fin m2) (w:World):(Op.equalIn 10000 33 (.agg (gc x).toArray) (.agg (gc y).toArray)).run Tryd.prog w=.ok (decide (x=y)) w:=by
 rw [gc,gc,eq_nc (gin_num x) (gin_num y)]
 have:((x.val:Int)=(y.val:Int))=(x=y):=by
  apply propext
  constructor
  ·intro h;exact Fin.ext (by omega)
  ·intro h;rw [h]
 simp only [this]
end Go.Proofs.YtjaahnlpnkcimaaDoor
namespace Go.Proofs.YtjaahnlpnkcimaaDoor
set_option maxRecDepth 100000
open Go.RowKit
attribute [local go_sem ↓] Go.wp_at_zero Go.wp_at_succ
def lessW (x0 x1 x2 x3 y0 y1 y2 y3:Int):Bool :=
 if x3=y3 then if x2=y2 then if x1=y1 then if x0=y0 then false else decide (x0<y0) else decide (x1<y1) else decide (x2<y2) else decide (x3<y3)
theorem less_walk (x0 x1 x2 x3 y0 y1 y2 y3:Int) (w:World) :
  Calls Tryd.prog 40 #[.agg #[.int .u64 x0,.int .u64 x1,.int .u64 x2,.int .u64 x3],.agg #[.int .u64 y0,.int .u64 y1,.int .u64 y2,.int .u64 y3]] w fun e w'=>e=.returned (.bool (lessW x0 x1 x2 x3 y0 y1 y2 y3))∧Below w.heap.size w w':=by
 go_enter Tryd.func40,Tryd.ntmps40
 go_wp2
 refine wp_loop_rounds 5 ?_
 by_cases g3:x3=y3
 case neg =>
  have b3:(x3 == y3)=false:=by simpa using g3
  have n3:(x3 != y3)=true:=by simpa using g3
  rw [rounds_succ]
  go_wp2
  go_quiet (fail)
  go_wp2
  go_quiet (fail)
  go_wp2
  go_ret
  refine ⟨ret_bool (by unfold lessW;simp [*]),?_⟩
  repeat' (first | (with_reducible exact Below.refl _ _) | (with_reducible refine K.drewN ?_ _) | (with_reducible refine K.drew ?_) | (with_reducible refine K.alloc ?_ _) | (with_reducible refine K.set ?_ ?_ _) | (simp;done) | (simp;omega))
 subst g3
 rw [rounds_succ]
 go_wp2
 go_quiet (fail)
 go_wp2
 by_cases g2:x2=y2
 case neg =>
  have b2:(x2 == y2)=false:=by simpa using g2
  have n2:(x2 != y2)=true:=by simpa using g2
  rw [rounds_succ]
  go_wp2
  go_quiet (fail)
  go_wp2
  go_quiet (fail)
  go_wp2
  go_ret
  refine ⟨ret_bool (by unfold lessW;simp [*]),?_⟩
  repeat' (first | (with_reducible exact Below.refl _ _) | (with_reducible refine K.drewN ?_ _) | (with_reducible refine K.drew ?_) | (with_reducible refine K.alloc ?_ _) | (with_reducible refine K.set ?_ ?_ _) | (simp;done) | (simp;omega))
 subst g2
 rw [rounds_succ]
 go_wp2
 go_quiet (fail)
 go_wp2
 by_cases g1:x1=y1
 case neg =>
  have b1:(x1 == y1)=false:=by simpa using g1
  have n1:(x1 != y1)=true:=by simpa using g1
  rw [rounds_succ]
  go_wp2
  go_quiet (fail)
  go_wp2
  go_quiet (fail)
  go_wp2
  go_ret
  refine ⟨ret_bool (by unfold lessW;simp [*]),?_⟩
  repeat' (first | (with_reducible exact Below.refl _ _) | (with_reducible refine K.drewN ?_ _) | (with_reducible refine K.drew ?_) | (with_reducible refine K.alloc ?_ _) | (with_reducible refine K.set ?_ ?_ _) | (simp;done) | (simp;omega))
 subst g1
 rw [rounds_succ]
 go_wp2
 go_quiet (fail)
 go_wp2
 by_cases g0:x0=y0
 case neg =>
  have b0:(x0 == y0)=false:=by simpa using g0
  have n0:(x0 != y0)=true:=by simpa using g0
  rw [rounds_succ]
  go_wp2
  go_quiet (fail)
  go_wp2
  go_quiet (fail)
  go_wp2
  go_ret
  refine ⟨ret_bool (by unfold lessW;simp [*]),?_⟩
  repeat' (first | (with_reducible exact Below.refl _ _) | (with_reducible refine K.drewN ?_ _) | (with_reducible refine K.drew ?_) | (with_reducible refine K.alloc ?_ _) | (with_reducible refine K.set ?_ ?_ _) | (simp;done) | (simp;omega))
 subst g0
 rw [rounds_succ]
 go_wp2
 go_quiet (fail)
 go_wp2
 rw [rounds_succ]
 go_wp2
 go_ret
 refine ⟨ret_bool (by unfold lessW;simp),?_⟩
 repeat' (first | (with_reducible exact Below.refl _ _) | (with_reducible refine K.drewN ?_ _) | (with_reducible refine K.drew ?_) | (with_reducible refine K.alloc ?_ _) | (with_reducible refine K.set ?_ ?_ _) | (simp;done) | (simp;omega))
theorem lessW_eq {a b:Int} (ha:Num a) (hb:Num b):lessW (L 0 a) (L 1 a) (L 2 a) (L 3 a) (L 0 b) (L 1 b) (L 2 b) (L 3 b)=decide (a<b):=by
 obtain ⟨a1,a2⟩:=ha
 obtain ⟨b1,b2⟩:=hb
 rw [L0,L1,L2,L3,L0,L1,L2,L3]
 unfold lessW
 unfold M at *
 (repeat' split) <;> (first | (symm;rw [decide_eq_false_iff_not];omega) | (rw [decide_eq_decide];omega))
theorem less_any {a b:Int} (ha:Num a) (hb:Num b) (w:World) :
  Calls Tryd.prog 40 #[.agg #[.int .u64 (L 0 a),.int .u64 (L 1 a),.int .u64 (L 2 a),.int .u64 (L 3 a)],.agg #[.int .u64 (L 0 b),.int .u64 (L 1 b),.int .u64 (L 2 b),.int .u64 (L 3 b)]] w fun e w'=>e=.returned (.bool (decide (a<b)))∧Below w.heap.size w w':=by
 rw [← lessW_eq ha hb];exact less_walk _ _ _ _ _ _ _ _ w
end Go.Proofs.YtjaahnlpnkcimaaDoor
namespace Go.Proofs.YtjaahnlpnkcimaaDoor
set_option maxRecDepth 100000
open Go.RowKit
attribute [local go_sem ↓] Go.wp_at_zero Go.wp_at_succ
theorem ref_mod_0 (w:World):Calls Tryd.prog 12 #[.int .i64 0] w fun e w'=>e=.returned (.agg #[.int .u64 (L 0 (md 0)),.int .u64 (L 1 (md 0)),.int .u64 (L 2 (md 0)),.int .u64 (L 3 (md 0))])∧Below w.heap.size w w':=by
 have e0:L 0 (md 0)=18446744073709551615:=by decide
 have e1:L 1 (md 0)=4294967295:=by decide
 have e2:L 2 (md 0)=0:=by decide
 have e3:L 3 (md 0)=18446744069414584321:=by decide
 rw [e0,e1,e2,e3]
 go_enter Tryd.func12,Tryd.ntmps12
 go_wp2
 go_returns
 refine ⟨rfl,?_⟩
 go_grown
theorem ref_mod_1 (w:World):Calls Tryd.prog 12 #[.int .i64 1] w fun e w'=>e=.returned (.agg #[.int .u64 (L 0 (md 1)),.int .u64 (L 1 (md 1)),.int .u64 (L 2 (md 1)),.int .u64 (L 3 (md 1))])∧Below w.heap.size w w':=by
 have e0:L 0 (md 1)=17562291160714782033:=by decide
 have e1:L 1 (md 1)=13611842547513532036:=by decide
 have e2:L 2 (md 1)=18446744073709551615:=by decide
 have e3:L 3 (md 1)=18446744069414584320:=by decide
 rw [e0,e1,e2,e3]
 go_enter Tryd.func12,Tryd.ntmps12
 go_wp2
 go_returns
 refine ⟨rfl,?_⟩
 go_grown
theorem ref_mod_2 (w:World):Calls Tryd.prog 12 #[.int .i64 2] w fun e w'=>e=.returned (.agg #[.int .u64 (L 0 (md 2)),.int .u64 (L 1 (md 2)),.int .u64 (L 2 (md 2)),.int .u64 (L 3 (md 2))])∧Below w.heap.size w w':=by
 have e0:L 0 (md 2)=18446744073709551597:=by decide
 have e1:L 1 (md 2)=18446744073709551615:=by decide
 have e2:L 2 (md 2)=18446744073709551615:=by decide
 have e3:L 3 (md 2)=9223372036854775807:=by decide
 rw [e0,e1,e2,e3]
 go_enter Tryd.func12,Tryd.ntmps12
 go_wp2
 go_returns
 refine ⟨rfl,?_⟩
 go_grown
theorem ref_mod_3 (w:World):Calls Tryd.prog 12 #[.int .i64 3] w fun e w'=>e=.returned (.agg #[.int .u64 (L 0 (md 3)),.int .u64 (L 1 (md 3)),.int .u64 (L 2 (md 3)),.int .u64 (L 3 (md 3))])∧Below w.heap.size w w':=by
 have e0:L 0 (md 3)=6346243789798364141:=by decide
 have e1:L 1 (md 3)=1503914060200516822:=by decide
 have e2:L 2 (md 3)=0:=by decide
 have e3:L 3 (md 3)=1152921504606846976:=by decide
 rw [e0,e1,e2,e3]
 go_enter Tryd.func12,Tryd.ntmps12
 go_wp2
 go_returns
 refine ⟨rfl,?_⟩
 go_grown
theorem ref_mod_none (k:Int) (h:k<0∨3<k) (w:World):Calls Tryd.prog 12 #[.int .i64 k] w fun e w'=>e=.returned (.agg #[.int .u64 (L 0 (md k)),.int .u64 (L 1 (md k)),.int .u64 (L 2 (md k)),.int .u64 (L 3 (md k))])∧Below w.heap.size w w':=by
 have e:md k=0:=by unfold md;(repeat' split) <;> omega
 have z0:L 0 0=0:=by decide
 have z1:L 1 0=0:=by decide
 have z2:L 2 0=0:=by decide
 have z3:L 3 0=0:=by decide
 rw [e,z0,z1,z2,z3]
 have b0:(k == 0)=false:=beq_eq_false_iff_ne.2 (by omega)
 have b1:(k == 1)=false:=beq_eq_false_iff_ne.2 (by omega)
 have b2:(k == 2)=false:=beq_eq_false_iff_ne.2 (by omega)
 have b3:(k == 3)=false:=beq_eq_false_iff_ne.2 (by omega)
 clear h e z0 z1 z2 z3
 go_enter Tryd.func12,Tryd.ntmps12
 go_wp2
 go_returns
 refine ⟨rfl,?_⟩
 go_grown
theorem ref_mod_any (k:Int) (w:World):Calls Tryd.prog 12 #[.int .i64 k] w fun e w'=>e=.returned (.agg #[.int .u64 (L 0 (md k)),.int .u64 (L 1 (md k)),.int .u64 (L 2 (md k)),.int .u64 (L 3 (md k))])∧Below w.heap.size w w':=by
 have hk:k=0∨k=1∨k=2∨k=3∨(k<0∨3<k):=by omega
 rcases hk with rfl | rfl | rfl | rfl | hk
 ·exact ref_mod_0 w
 ·exact ref_mod_1 w
 ·exact ref_mod_2 w
 ·exact ref_mod_3 w
 ·exact ref_mod_none k hk w
theorem below_walk {k a m:Int} {c:Int} {w:World}
  (H1:Hid (∀ w1,Below w.heap.size w w1→Calls Tryd.prog 61 #[.int .i64 k] w1 fun e w'=>e=.returned (.agg #[.int .u64 (L 0 m),.int .u64 (L 1 m),.int .u64 (L 2 m),.int .u64 (L 3 m)])∧Below w1.heap.size w1 w'))
  (H2:Hid (∀ w,Calls Tryd.prog 60 #[.agg #[.int .u64 (L 0 a),.int .u64 (L 1 a),.int .u64 (L 2 a),.int .u64 (L 3 a)],.agg #[.int .u64 (L 0 m),.int .u64 (L 1 m),.int .u64 (L 2 m),.int .u64 (L 3 m)]] w fun e w'=>e=.returned (.int .i64 c)∧Below w.heap.size w w')) :
  Calls Tryd.prog 25 #[.int .i64 k,.agg #[.int .u64 (L 0 a),.int .u64 (L 1 a),.int .u64 (L 2 a),.int .u64 (L 3 a)]] w fun e w'=>e=.returned (.bool (decide (c<0)))∧Below w.heap.size w w':=by
 have A1:=Arr.new w w.heap.size rfl 33 (L 0 a) (L 1 a) (L 2 a) (L 3 a)
 have hw:Below w.heap.size w (w.alloc (.cells #[.int .u64 (L 0 a),.int .u64 (L 1 a),.int .u64 (L 2 a),.int .u64 (L 3 a)] 33)):=K.alloc (Below.refl _ _) _
 go_enter Tryd.func25,Tryd.ntmps25
 go_wp2_with fail
 generalize w.alloc (.cells #[.int .u64 (L 0 a),.int .u64 (L 1 a),.int .u64 (L 2 a),.int .u64 (L 3 a)] 33)=W0 at *
 have ⟨ka,ka0,ka1,ka2,ka3⟩:=A1
 have hS:Hid (∀ w',Below W0.heap.size W0 w'→(Below W0.heap.size W0 w'∧w'.cell? ⟨w.heap.size,0,none⟩=some (.int .u64 (L 0 a))∧w'.cell? ⟨w.heap.size,1,none⟩=some (.int .u64 (L 1 a))∧w'.cell? ⟨w.heap.size,2,none⟩=some (.int .u64 (L 2 a))∧w'.cell? ⟨w.heap.size,3,none⟩=some (.int .u64 (L 3 a)))):=fun w' hB=>⟨hB,later hB ka0,later hB ka1,later hB ka2,later hB ka3⟩
 clear ka ka0 ka1 ka2 ka3
 go_region_held3 (fun w'=>Below W0.heap.size W0 w'∧w'.cell? ⟨w.heap.size,0,none⟩=some (.int .u64 (L 0 a))∧w'.cell? ⟨w.heap.size,1,none⟩=some (.int .u64 (L 1 a))∧w'.cell? ⟨w.heap.size,2,none⟩=some (.int .u64 (L 2 a))∧w'.cell? ⟨w.heap.size,3,none⟩=some (.int .u64 (L 3 a)))
  ((refine hS.out _ ?_;first | (with_reducible exact K.drew (Below.refl _ _)) | (with_reducible exact K.drew (K.alloc (Below.refl _ _) _)) | (with_reducible exact Below.refl _ _) | (with_reducible exact K.call (by go_split_ands;assumption) hk) | (with_reducible exact K.alloc (by go_split_ands;assumption) _) | (with_reducible exact K.again (by go_split_ands;assumption) (by omega) _) | (with_reducible exact K.set (by go_split_ands;assumption) (by first | omega | (simp;done) | (simp;omega)) _) | (with_reducible exact K.set (K.set (K.set (K.set (by go_split_ands;assumption) (by first | omega | (simp;done) | (simp;omega)) _) (by first | omega | (simp;done) | (simp;omega)) _) (by first | omega | (simp;done) | (simp;omega)) _) (by first | omega | (simp;done) | (simp;omega)) _)))
  (first
   | (go_at_call 61;with_reducible refine Calls.mono (H1.out _ (K.call hw (by go_split_ands;with_reducible assumption))) ?_;rintro e w' ⟨rfl,hk⟩)
   | (go_at_call 60;with_reducible refine Calls.mono (H2.out _) ?_;rintro e w' ⟨rfl,hk⟩))
 all_goals
  have hH:=‹Below _ _ _∧_›
  go_wp2_with fail
  go_ret
  exact ⟨ret_bool (by simp),K.call hw hH.1⟩
theorem refBelow_walk {k a m:Int} {c:Bool} {w:World}
  (H1:Hid (∀ w1,Below w.heap.size w w1→Calls Tryd.prog 12 #[.int .i64 k] w1 fun e w'=>e=.returned (.agg #[.int .u64 (L 0 m),.int .u64 (L 1 m),.int .u64 (L 2 m),.int .u64 (L 3 m)])∧Below w1.heap.size w1 w'))
  (H2:Hid (∀ w,Calls Tryd.prog 40 #[.agg #[.int .u64 (L 0 a),.int .u64 (L 1 a),.int .u64 (L 2 a),.int .u64 (L 3 a)],.agg #[.int .u64 (L 0 m),.int .u64 (L 1 m),.int .u64 (L 2 m),.int .u64 (L 3 m)]] w fun e w'=>e=.returned (.bool c)∧Below w.heap.size w w')) :
  Calls Tryd.prog 15 #[.int .i64 k,.agg #[.int .u64 (L 0 a),.int .u64 (L 1 a),.int .u64 (L 2 a),.int .u64 (L 3 a)]] w fun e w'=>e=.returned (.bool c)∧Below w.heap.size w w':=by
 have A1:=Arr.new w w.heap.size rfl 33 (L 0 a) (L 1 a) (L 2 a) (L 3 a)
 have hw:Below w.heap.size w (w.alloc (.cells #[.int .u64 (L 0 a),.int .u64 (L 1 a),.int .u64 (L 2 a),.int .u64 (L 3 a)] 33)):=K.alloc (Below.refl _ _) _
 go_enter Tryd.func15,Tryd.ntmps15
 go_wp2_with fail
 generalize w.alloc (.cells #[.int .u64 (L 0 a),.int .u64 (L 1 a),.int .u64 (L 2 a),.int .u64 (L 3 a)] 33)=W0 at *
 have ⟨ka,ka0,ka1,ka2,ka3⟩:=A1
 have hS:Hid (∀ w',Below W0.heap.size W0 w'→(Below W0.heap.size W0 w'∧w'.cell? ⟨w.heap.size,0,none⟩=some (.int .u64 (L 0 a))∧w'.cell? ⟨w.heap.size,1,none⟩=some (.int .u64 (L 1 a))∧w'.cell? ⟨w.heap.size,2,none⟩=some (.int .u64 (L 2 a))∧w'.cell? ⟨w.heap.size,3,none⟩=some (.int .u64 (L 3 a)))):=fun w' hB=>⟨hB,later hB ka0,later hB ka1,later hB ka2,later hB ka3⟩
 clear ka ka0 ka1 ka2 ka3
 go_region_held3 (fun w'=>Below W0.heap.size W0 w'∧w'.cell? ⟨w.heap.size,0,none⟩=some (.int .u64 (L 0 a))∧w'.cell? ⟨w.heap.size,1,none⟩=some (.int .u64 (L 1 a))∧w'.cell? ⟨w.heap.size,2,none⟩=some (.int .u64 (L 2 a))∧w'.cell? ⟨w.heap.size,3,none⟩=some (.int .u64 (L 3 a)))
  ((refine hS.out _ ?_;first | (with_reducible exact K.drew (Below.refl _ _)) | (with_reducible exact K.drew (K.alloc (Below.refl _ _) _)) | (with_reducible exact Below.refl _ _) | (with_reducible exact K.call (by go_split_ands;assumption) hk) | (with_reducible exact K.alloc (by go_split_ands;assumption) _) | (with_reducible exact K.again (by go_split_ands;assumption) (by omega) _) | (with_reducible exact K.set (by go_split_ands;assumption) (by first | omega | (simp;done) | (simp;omega)) _) | (with_reducible exact K.set (K.set (K.set (K.set (by go_split_ands;assumption) (by first | omega | (simp;done) | (simp;omega)) _) (by first | omega | (simp;done) | (simp;omega)) _) (by first | omega | (simp;done) | (simp;omega)) _) (by first | omega | (simp;done) | (simp;omega)) _)))
  (first
   | (go_at_call 12;with_reducible refine Calls.mono (H1.out _ (K.call hw (by go_split_ands;with_reducible assumption))) ?_;rintro e w' ⟨rfl,hk⟩)
   | (go_at_call 40;with_reducible refine Calls.mono (H2.out _) ?_;rintro e w' ⟨rfl,hk⟩))
 all_goals
  have hH:=‹Below _ _ _∧_›
  go_wp2_with fail
  go_ret
  exact ⟨rfl,K.call hw hH.1⟩
theorem cmp_neg (a m:Int):decide (cmp a m<0)=decide (a<m):=by
 unfold cmp
 by_cases h:a<m
 ·rw [if_pos h];simp [h]
 ·rw [if_neg h];split <;> simp [h]
theorem below_any {k a:Int} (ha:Num a) {w:World} (hT:Tab w) :
  Calls Tryd.prog 25 #[.int .i64 k,.agg #[.int .u64 (L 0 a),.int .u64 (L 1 a),.int .u64 (L 2 a),.int .u64 (L 3 a)]] w fun e w'=>e=.returned (.bool (decide (a<md k)))∧Below w.heap.size w w':=by
 have h:=below_walk (k:=k) (a:=a) (m:=md k) (c:=cmp a (md k)) (w:=w) (fun w1 hb=>f_mod k (hT.keep hb)) (fun w=>cmp_any ha (md_num k) w)
 rw [cmp_neg] at h
 exact h
theorem refBelow_any {k a:Int} (ha:Num a) (w:World) :
  Calls Tryd.prog 15 #[.int .i64 k,.agg #[.int .u64 (L 0 a),.int .u64 (L 1 a),.int .u64 (L 2 a),.int .u64 (L 3 a)]] w fun e w'=>e=.returned (.bool (decide (a<md k)))∧Below w.heap.size w w' :=
 refBelow_walk (fun w1 _=>ref_mod_any k w1) (fun w=>less_any ha (md_num k) w)
end Go.Proofs.YtjaahnlpnkcimaaDoor
namespace Go.Proofs.YtjaahnlpnkcimaaDoor
set_option maxRecDepth 100000
open Go.RowKit
theorem i33:(Tryd.prog.info? 33).map (·.size)=some 4:=by kernel_rfl
theorem i40:(Tryd.prog.info? 40).map (·.size)=some 9:=by kernel_rfl
theorem hm:Tryd.prog.follows .mixedOrders=true:=by kernel_rfl
theorem g_bN0:Tryd.prog.built 33 []=some nz.toArray:=by kernel_rfl
theorem g_bN4 (a b c d:Int):Tryd.prog.built 33 [(0,.int .u64 a),(1,.int .u64 b),(2,.int .u64 c),(3,.int .u64 d)]=some ([Value.int .u64 a]++[Value.int .u64 b]++[Value.int .u64 c]++[Value.int .u64 d]).toArray:=by kernel_rfl
theorem g_bP (x y:Fin m2):Tryd.prog.built 40 [(0,.agg (gc x).toArray),(1,.agg (gc y).toArray)]=some (gc x++gc y++[Value.bool false]).toArray:=by kernel_rfl
theorem g_bY (y:Fin m2):Tryd.prog.built 40 [(1,.agg (gc y).toArray)]=some (nz++gc y++[Value.bool false]).toArray:=by kernel_rfl
theorem g_bPc (a b c d e f g h:Int):Tryd.prog.built 40 [(0,.agg ([Value.int .u64 a]++[Value.int .u64 b]++[Value.int .u64 c]++[Value.int .u64 d]).toArray),(1,.agg ([Value.int .u64 e]++[Value.int .u64 f]++[Value.int .u64 g]++[Value.int .u64 h]).toArray)]=some ([Value.int .u64 a]++[Value.int .u64 b]++[Value.int .u64 c]++[Value.int .u64 d]++[Value.int .u64 e]++[Value.int .u64 f]++[Value.int .u64 g]++[Value.int .u64 h]++[Value.bool false]).toArray:=by kernel_rfl
def pcE (a:Ep m2):List Value:=gc a.x++gc a.y++[Value.bool false]
theorem cE20 (vs:List Value):∀ w,(callFunc 20 vs.toArray).run Tryd.prog w=.ok (.enter 20 vs.toArray) w:=callFunc_enter Tryd.func20 (by kernel_rfl) (by kernel_rfl) _
theorem cE66 (vs:List Value):∀ w,(callFunc 66 vs.toArray).run Tryd.prog w=.ok (.enter 66 vs.toArray) w:=callFunc_enter Tryd.func66 (by kernel_rfl) (by kernel_rfl) _
theorem cE21 (vs:List Value):∀ w,(callFunc 21 vs.toArray).run Tryd.prog w=.ok (.enter 21 vs.toArray) w:=callFunc_enter Tryd.func21 (by kernel_rfl) (by kernel_rfl) _
theorem cE34 (vs:List Value):∀ w,(callFunc 34 vs.toArray).run Tryd.prog w=.ok (.enter 34 vs.toArray) w:=callFunc_enter Tryd.func34 (by kernel_rfl) (by kernel_rfl) _
theorem cE67 (vs:List Value):∀ w,(callFunc 67 vs.toArray).run Tryd.prog w=.ok (.enter 67 vs.toArray) w:=callFunc_enter Tryd.func67 (by kernel_rfl) (by kernel_rfl) _
theorem cE15 (vs:List Value):∀ w,(callFunc 15 vs.toArray).run Tryd.prog w=.ok (.enter 15 vs.toArray) w:=callFunc_enter Tryd.func15 (by kernel_rfl) (by kernel_rfl) _
theorem cE35 (vs:List Value):∀ w,(callFunc 35 vs.toArray).run Tryd.prog w=.ok (.enter 35 vs.toArray) w:=callFunc_enter Tryd.func35 (by kernel_rfl) (by kernel_rfl) _
theorem cE32 (vs:List Value):∀ w,(callFunc 32 vs.toArray).run Tryd.prog w=.ok (.enter 32 vs.toArray) w:=callFunc_enter Tryd.func32 (by kernel_rfl) (by kernel_rfl) _
theorem cE31 (vs:List Value):∀ w,(callFunc 31 vs.toArray).run Tryd.prog w=.ok (.enter 31 vs.toArray) w:=callFunc_enter Tryd.func31 (by kernel_rfl) (by kernel_rfl) _
theorem cE33 (vs:List Value):∀ w,(callFunc 33 vs.toArray).run Tryd.prog w=.ok (.enter 33 vs.toArray) w:=callFunc_enter Tryd.func33 (by kernel_rfl) (by kernel_rfl) _
theorem cE36 (vs:List Value):∀ w,(callFunc 36 vs.toArray).run Tryd.prog w=.ok (.enter 36 vs.toArray) w:=callFunc_enter Tryd.func36 (by kernel_rfl) (by kernel_rfl) _
theorem cE30 (vs:List Value):∀ w,(callFunc 30 vs.toArray).run Tryd.prog w=.ok (.enter 30 vs.toArray) w:=callFunc_enter Tryd.func30 (by kernel_rfl) (by kernel_rfl) _
theorem cE16 (vs:List Value):∀ w,(callFunc 16 vs.toArray).run Tryd.prog w=.ok (.enter 16 vs.toArray) w:=callFunc_enter Tryd.func16 (by kernel_rfl) (by kernel_rfl) _
theorem s_add {w:World} (hT:Tab w) (x y:Fin m2):Calls Tryd.prog 35 [.agg (gc (x)).toArray,.agg (gc (y)).toArray].toArray w fun e w'=>e=.returned (.agg (gc (x+y)).toArray)∧Below w.heap.size w w':=by
 refine enter (args:=[.agg (gc (x)).toArray,.agg (gc (y)).toArray]) Tryd.func35 rfl 8 rfl (lk rfl) (fun a h=>?_)
 refine aX h [] [eN 2 _,eN 3 _,eN 4 _] ⟨rfl,rfl,rfl,T0⟩ [(2,.ptr 2 0),(3,.ptr 3 0),(4,.ptr 4 0)] [(2,gc (x)),(3,gc (y)),(4,nz)] (fun a w h=>?_)
 refine aX h [2] [eS 5 _,eS 6 _,eS 7 _,eM 4 _] ⟨rfl,rfl,fun L u=>u_call u (gd0 rfl) _ rfl _ _ _ rfl [_,_,_] rfl (cE20 _) _ (fun w hb=>d_add (hT.keep (Bs.kp_of hb)) _ _),rfl,T0⟩ [(4,_)] [(4,gc ((x)+(y)))] (fun a w h=>?_)
 refine wp_ret ?_
 refine ret_row h 4 33 rfl (lk rfl) 4 rfl (gc ((x)+(y))) rfl _ Tryd.underlying33 rfl i33 ?_
 exact ⟨rfl,h.grows⟩
theorem s_sub {w:World} (hT:Tab w) (x y:Fin m2):Calls Tryd.prog 32 [.agg (gc (x)).toArray,.agg (gc (y)).toArray].toArray w fun e w'=>e=.returned (.agg (gc (x-y)).toArray)∧Below w.heap.size w w':=by
 refine enter (args:=[.agg (gc (x)).toArray,.agg (gc (y)).toArray]) Tryd.func32 rfl 8 rfl (lk rfl) (fun a h=>?_)
 refine aX h [] [eN 2 _,eN 3 _,eN 4 _] ⟨rfl,rfl,rfl,T0⟩ [(2,.ptr 2 0),(3,.ptr 3 0),(4,.ptr 4 0)] [(2,gc (x)),(3,gc (y)),(4,nz)] (fun a w h=>?_)
 refine aX h [2] [eS 5 _,eS 6 _,eS 7 _,eM 4 _] ⟨rfl,rfl,fun L u=>u_call u (gd0 rfl) _ rfl _ _ _ rfl [_,_,_] rfl (cE66 _) _ (fun w hb=>d_sub (hT.keep (Bs.kp_of hb)) _ _),rfl,T0⟩ [(4,_)] [(4,gc ((x)-(y)))] (fun a w h=>?_)
 refine wp_ret ?_
 refine ret_row h 4 33 rfl (lk rfl) 4 rfl (gc ((x)-(y))) rfl _ Tryd.underlying33 rfl i33 ?_
 exact ⟨rfl,h.grows⟩
theorem s_mul {w:World} (hT:Tab w) (x y:Fin m2):Calls Tryd.prog 31 [.agg (gc (x)).toArray,.agg (gc (y)).toArray].toArray w fun e w'=>e=.returned (.agg (gc (x*y)).toArray)∧Below w.heap.size w w':=by
 refine enter (args:=[.agg (gc (x)).toArray,.agg (gc (y)).toArray]) Tryd.func31 rfl 8 rfl (lk rfl) (fun a h=>?_)
 refine aX h [] [eN 2 _,eN 3 _,eN 4 _] ⟨rfl,rfl,rfl,T0⟩ [(2,.ptr 2 0),(3,.ptr 3 0),(4,.ptr 4 0)] [(2,gc (x)),(3,gc (y)),(4,nz)] (fun a w h=>?_)
 refine aX h [2] [eS 5 _,eS 6 _,eS 7 _,eM 4 _] ⟨rfl,rfl,fun L u=>u_call u (gd0 rfl) _ rfl _ _ _ rfl [_,_,_] rfl (cE21 _) _ (fun w hb=>d_mul (hT.keep (Bs.kp_of hb)) _ _),rfl,T0⟩ [(4,_)] [(4,gc ((x)*(y)))] (fun a w h=>?_)
 refine wp_ret ?_
 refine ret_row h 4 33 rfl (lk rfl) 4 rfl (gc ((x)*(y))) rfl _ Tryd.underlying33 rfl i33 ?_
 exact ⟨rfl,h.grows⟩
theorem gc_one:gc 1=[Value.int .u64 1]++[Value.int .u64 0]++[Value.int .u64 0]++[Value.int .u64 0]:=by kernel_rfl
theorem s_small1 {w:World} :Calls Tryd.prog 67 [Value.int .u64 1].toArray w fun e w'=>e=.returned (.agg (gc 1).toArray)∧Below w.heap.size w w':=by
 refine enter (args:=[Value.int .u64 1]) Tryd.func67 rfl 5 rfl (lk rfl) (fun a h=>?_)
 refine aX h [] [eN 2 _] ⟨rfl,T0⟩ [(0,.val (Value.int .u64 1)),(2,.ptr 2 0)] [(2,nz)] (fun a w h=>?_)
 refine aX h [1] [eS 3 _,eS 4 (.val (.agg ([Value.int .u64 1]++[(Value.int IntKind.u64 0)]++[(Value.int IntKind.u64 0)]++[(Value.int IntKind.u64 0)]).toArray)),eM 2 _] ⟨rfl,fun L u=>u_build u (gd0 rfl) 4 rfl 33 #[(0,(.tmp 3)),(1,(.const (.int .u64 0))),(2,(.const (.int .u64 0))),(3,(.const (.int .u64 0)))] rfl [(0,Value.int .u64 1),(1,(Value.int IntKind.u64 0)),(2,(Value.int IntKind.u64 0)),(3,(Value.int IntKind.u64 0))] rfl ([Value.int .u64 1]++[(Value.int IntKind.u64 0)]++[(Value.int IntKind.u64 0)]++[(Value.int IntKind.u64 0)]) (g_bN4 _ _ _ _),rfl,T0⟩ [(2,_)] [(2,[Value.int .u64 1]++[(Value.int IntKind.u64 0)]++[(Value.int IntKind.u64 0)]++[(Value.int IntKind.u64 0)])] (fun a w h=>?_)
 refine wp_ret ?_
 refine ret_row h 2 33 rfl (lk rfl) 2 rfl ([Value.int .u64 1]++[(Value.int IntKind.u64 0)]++[(Value.int IntKind.u64 0)]++[(Value.int IntKind.u64 0)]) rfl _ Tryd.underlying33 rfl i33 ?_
 exact ⟨by rw [gc_one],h.grows⟩
theorem s_One {w:World} :Calls Tryd.prog 33 [].toArray w fun e w'=>e=.returned (.agg (gc 1).toArray)∧Below w.heap.size w w':=by
 refine enter (args:=[]) Tryd.func33 rfl 2 rfl (lk rfl) (fun a h=>?_)
 refine aX h [] [eN 0 _] ⟨rfl,T0⟩ [(0,.ptr 0 0)] [(0,nz)] (fun a w h=>?_)
 refine aX h [0] [eS 1 _,eM 0 _] ⟨fun L u=>u_call u (gd0 rfl) _ rfl _ _ _ rfl [_] rfl (cE67 _) _ (fun w hb=>s_small1),rfl,T0⟩ [(0,_)] [(0,gc (1))] (fun a w h=>?_)
 refine wp_ret ?_
 refine ret_row h 0 33 rfl (lk rfl) 0 rfl (gc (1)) rfl _ Tryd.underlying33 rfl i33 ?_
 exact ⟨rfl,h.grows⟩
theorem gc_ed:gc ed=[Value.int .u64 8496970652267935907]++[Value.int .u64 31536524315187371]++[Value.int .u64 10144147576115030168]++[Value.int .u64 5909686906226998899]:=by kernel_rfl
theorem s_D {w:World} :Calls Tryd.prog 36 [].toArray w fun e w'=>e=.returned (.agg (gc ed).toArray)∧Below w.heap.size w w':=by
 refine enter (args:=[]) Tryd.func36 rfl 2 rfl (lk rfl) (fun a h=>?_)
 refine aX h [] [eN 0 _] ⟨rfl,T0⟩ [(0,.ptr 0 0)] [(0,nz)] (fun a w h=>?_)
 refine aX h [0] [eS 1 (.val (.agg ([(Value.int IntKind.u64 8496970652267935907)]++[(Value.int IntKind.u64 31536524315187371)]++[(Value.int IntKind.u64 10144147576115030168)]++[(Value.int IntKind.u64 5909686906226998899)]).toArray)),eM 0 _] ⟨fun L u=>u_build u (gd0 rfl) 1 rfl 33 #[(0,(.const (.int .u64 8496970652267935907))),(1,(.const (.int .u64 31536524315187371))),(2,(.const (.int .u64 10144147576115030168))),(3,(.const (.int .u64 5909686906226998899)))] rfl [(0,(Value.int IntKind.u64 8496970652267935907)),(1,(Value.int IntKind.u64 31536524315187371)),(2,(Value.int IntKind.u64 10144147576115030168)),(3,(Value.int IntKind.u64 5909686906226998899))] rfl ([(Value.int IntKind.u64 8496970652267935907)]++[(Value.int IntKind.u64 31536524315187371)]++[(Value.int IntKind.u64 10144147576115030168)]++[(Value.int IntKind.u64 5909686906226998899)]) (g_bN4 _ _ _ _),rfl,T0⟩ [(0,_)] [(0,[(Value.int IntKind.u64 8496970652267935907)]++[(Value.int IntKind.u64 31536524315187371)]++[(Value.int IntKind.u64 10144147576115030168)]++[(Value.int IntKind.u64 5909686906226998899)])] (fun a w h=>?_)
 refine wp_ret ?_
 refine ret_row h 0 33 rfl (lk rfl) 0 rfl ([(Value.int IntKind.u64 8496970652267935907)]++[(Value.int IntKind.u64 31536524315187371)]++[(Value.int IntKind.u64 10144147576115030168)]++[(Value.int IntKind.u64 5909686906226998899)]) rfl _ Tryd.underlying33 rfl i33 ?_
 exact ⟨by rw [gc_ed],h.grows⟩
theorem s_None {w:World} :Calls Tryd.prog 30 [].toArray w fun e w'=>e=.returned (.agg (pcE (Ep.o m2)).toArray)∧Below w.heap.size w w':=by
 refine enter (args:=[]) Tryd.func30 rfl 3 rfl (lk rfl) (fun a h=>?_)
 refine aX h [] [eN 0 _] ⟨rfl,T0⟩ [(0,.ptr 0 0)] [(0,nz++nz++[Value.bool false])] (fun a w h=>?_)
 refine aX h [0,1] [eS 1 _,eS 2 (.val (.agg (nz++gc (1)++[Value.bool false]).toArray)),eM 0 _] ⟨fun L u=>u_call u (gd0 rfl) _ rfl _ _ _ rfl [] rfl (cE33 _) _ (fun w hb=>s_One),fun L u=>u_build u (gd0 rfl) 2 rfl 40 #[(1,(.tmp 1))] rfl [(1,.agg (gc (1)).toArray)] rfl (nz++gc (1)++[Value.bool false]) (g_bY _),rfl,T0⟩ [(0,_)] [(0,nz++gc (1)++[Value.bool false])] (fun a w h=>?_)
 refine wp_ret ?_
 refine ret_row h 0 40 rfl (lk rfl) 0 rfl (nz++gc (1)++[Value.bool false]) rfl _ Tryd.underlying40 rfl i40 ?_
 exact ⟨by rw [nz_gc];rfl,h.grows⟩
theorem s_below {a:Int} (ha:Num a) {t:Bool} (ht:decide (a<md 2)=t) {w:World}:Calls Tryd.prog 15 [.int .i64 2,.agg (nc a).toArray].toArray w fun e w'=>e=.returned (.bool t)∧Below w.heap.size w w':=by
 rw [← ht]
 exact refBelow_any ha w
theorem gin_lt (x:Fin m2):decide ((x.val:Int)<md 2)=true:=by
 rw [md_m2]
 have:=x.isLt
 exact decide_eq_true (by omega)
theorem s_formed_y {w:World} {X Y:Int} (hX:Num X) (bX:decide (X<md 2)=true) (hY:Num Y) (bY:decide (Y<md 2)=false):Calls Tryd.prog 16 [.agg (nc (X)++nc (Y)++[Value.bool false]).toArray].toArray w fun e w'=>e=.returned (.bool false)∧Below w.heap.size w w':=by
 refine enter (args:=[.agg (nc (X)++nc (Y)++[Value.bool false]).toArray]) Tryd.func16 rfl 40 rfl (lk rfl) (fun a h=>?_)
 refine aX h [] [eN 1 _,eS 2 _] ⟨rfl,rfl,T0⟩ [(1,.ptr 1 0)] [(1,nc (X)++nc (Y)++[Value.bool false])] (fun a w h=>?_)
 refine wp_seq ?_
 refine aX h [5,11] [eS 5 _,eS 6 _,eS 7 _,eS 8 _,eS 9 _,eS 10 _,eS 11 _,eS 12 _,eS 13 _,eS 14 _,eS 15 _,eS 16 _,eS 17 _,eS 18 _] ⟨rfl,rfl,rfl,rfl,rfl,fun L u=>u_call u (gd1 u 2 false rfl 7 rfl (lk rfl) rfl) _ rfl _ _ _ rfl [_,_] rfl (cE15 _) _ (fun w hb=>s_below hX bX),rfl,rfl,rfl,rfl,rfl,fun L u=>u_call u (gd1 u 8 false rfl 13 rfl (lk rfl) rfl) _ rfl _ _ _ rfl [_,_] rfl (cE15 _) _ (fun w hb=>s_below hY bY),rfl,rfl,T0⟩ [(1,_),(18,.val (Value.bool true))] [(1,_)] (fun a w h=>?_)
 refine go_cond h true rfl (fun ht=>?_) (fun hf=>?_)
 case refine_2=>cases hf
 refine aX h [] [eS 2 _] ⟨rfl,T0⟩ [(2,.val (Value.bool false))] [] (fun a w h=>?_)
 refine wp_ret ?_
 refine then_ret ?_
 refine ret_slot h 2 rfl (lk rfl) (Value.bool false) rfl ?_
 exact ⟨rfl,h.grows⟩
theorem s_formed_at {w:World} (hT:Tab w) (x y:Fin m2):Calls Tryd.prog 16 [.agg (gc (x)++gc (y)++[Value.bool false]).toArray].toArray w fun e w'=>e=.returned (.bool (decide (y*y-x*x=1+ed*(x*x*(y*y)))))∧Below w.heap.size w w':=by
 refine enter (args:=[.agg (gc (x)++gc (y)++[Value.bool false]).toArray]) Tryd.func16 rfl 40 rfl (lk rfl) (fun a h=>?_)
 refine aX h [] [eN 1 _,eS 2 _] ⟨rfl,rfl,T0⟩ [(1,.ptr 1 0)] [(1,gc (x)++gc (y)++[Value.bool false])] (fun a w h=>?_)
 refine wp_seq ?_
 refine aX h [5,11] [eS 5 _,eS 6 _,eS 7 _,eS 8 _,eS 9 _,eS 10 _,eS 11 _,eS 12 _,eS 13 _,eS 14 _,eS 15 _,eS 16 _,eS 17 _,eS 18 _] ⟨rfl,rfl,rfl,rfl,rfl,fun L u=>u_call u (gd1 u 2 false rfl 7 rfl (lk rfl) rfl) _ rfl _ _ _ rfl [_,_] rfl (cE15 _) _ (fun w hb=>s_below (gin_num _) (gin_lt _)),rfl,rfl,rfl,rfl,rfl,fun L u=>u_call u (gd1 u 8 false rfl 13 rfl (lk rfl) rfl) _ rfl _ _ _ rfl [_,_] rfl (cE15 _) _ (fun w hb=>s_below (gin_num _) (gin_lt _)),rfl,rfl,T0⟩ [(1,_),(18,.val (Value.bool false))] [(1,_)] (fun a w h=>?_)
 refine go_cond h false rfl (fun ht=>?_) (fun hf=>?_)
 case refine_1=>cases ht
 refine wp_skip ?_
 refine then_norm ?_
 refine aX h [4,9] [eS 19 _,eS 20 _,eS 21 _,eS 22 _,eS 23 _,eS 24 _,eS 25 _,eS 26 _,eS 27 _,eS 28 _,eN 3 _,eN 4 _,eM 3 _,eM 4 _] ⟨rfl,rfl,rfl,rfl,fun L u=>u_call u (gd0 rfl) _ rfl _ _ _ rfl [_,_] rfl (cE31 _) _ (fun w hb=>s_mul (hT.keep (Bs.kp_of hb)) _ _),rfl,rfl,rfl,rfl,fun L u=>u_call u (gd0 rfl) _ rfl _ _ _ rfl [_,_] rfl (cE31 _) _ (fun w hb=>s_mul (hT.keep (Bs.kp_of hb)) _ _),rfl,rfl,rfl,rfl,T0⟩ [(3,.ptr 3 0),(4,.ptr 4 0)] [(3,gc ((x)*(x))),(4,gc ((y)*(y)))] (fun a w h=>?_)
 refine aX h [2,3,4,7,8,9,10] [eS 29 _,eS 30 _,eS 31 _,eS 32 _,eS 33 _,eS 34 _,eS 35 _,eS 36 _,eS 37 _,eS 38 _,eS 39 (.val (Value.bool (decide (((y)*(y))-((x)*(x))=(1)+((ed)*(((x)*(x))*((y)*(y)))))))),eS 2 _] ⟨rfl,rfl,fun L u=>u_call u (gd0 rfl) _ rfl _ _ _ rfl [_,_] rfl (cE32 _) _ (fun w hb=>s_sub (hT.keep (Bs.kp_of hb)) _ _),fun L u=>u_call u (gd0 rfl) _ rfl _ _ _ rfl [] rfl (cE33 _) _ (fun w hb=>s_One),fun L u=>u_call u (gd0 rfl) _ rfl _ _ _ rfl [] rfl (cE36 _) _ (fun w hb=>s_D),rfl,rfl,fun L u=>u_call u (gd0 rfl) _ rfl _ _ _ rfl [_,_] rfl (cE31 _) _ (fun w hb=>s_mul (hT.keep (Bs.kp_of hb)) _ _),fun L u=>u_call u (gd0 rfl) _ rfl _ _ _ rfl [_,_] rfl (cE31 _) _ (fun w hb=>s_mul (hT.keep (Bs.kp_of hb)) _ _),fun L u=>u_call u (gd0 rfl) _ rfl _ _ _ rfl [_,_] rfl (cE35 _) _ (fun w hb=>s_add (hT.keep (Bs.kp_of hb)) _ _),fun L u=>u_eql u (gd0 rfl) 39 rfl 33 33 (.tmp 31) (.tmp 38) rfl rfl rfl Tryd.eqGuardType33 (decide (((y)*(y))-((x)*(x))=(1)+((ed)*(((x)*(x))*((y)*(y)))))) (fun w=>eq_gc _ _ w),rfl,T0⟩ [(2,.val (Value.bool (decide (((y)*(y))-((x)*(x))=(1)+((ed)*(((x)*(x))*((y)*(y))))))))] [] (fun a w h=>?_)
 refine wp_ret ?_
 refine ret_slot h 2 rfl (lk rfl) (Value.bool (decide (((y)*(y))-((x)*(x))=(1)+((ed)*(((x)*(x))*((y)*(y))))))) rfl ?_
 exact ⟨rfl,h.grows⟩
end Go.Proofs.YtjaahnlpnkcimaaDoor
namespace Go.Proofs.YtjaahnlpnkcimaaDoor
set_option maxRecDepth 100000
open Go.RowKit
def rpE (X Y:Int) (t:Bool):Ep m2:=if t=false∧X<md 2∧Y<md 2∧(kc Y:Fin m2)*kc Y-kc X*kc X=1+ed*(kc X*kc X*(kc Y*kc Y)) then ⟨kc X,kc Y⟩ else Ep.o m2
theorem rpE_on (X Y:Int) (t:Bool):(rpE X Y t).on ed:=by
 unfold rpE
 split
 ·rename_i h;exact h.2.2.2
 ·exact Ep.o_on ed
theorem nc_gc {X:Int} (h0:0≤X) (h:X<md 2):nc X=gc (kc X):=by
 rw [gc,kc_val,← md_m2,Int.emod_eq_of_lt h0 h]
def rc (X Y:Int) (t:Bool):List Value:=nc X++nc Y++[Value.bool t]
theorem pcE_G:pcE eG=[Value.int .u64 14507833142362363162]++[Value.int .u64 7578651490590762930]++[Value.int .u64 13881468655802702940]++[Value.int .u64 2407515759118799870]++[Value.int .u64 7378697629483820632]++[Value.int .u64 7378697629483820646]++[Value.int .u64 7378697629483820646]++[Value.int .u64 7378697629483820646]++[Value.bool false]:=by kernel_rfl
end Go.Proofs.YtjaahnlpnkcimaaDoor
namespace Go.Proofs.YtjaahnlpnkcimaaDoor
set_option maxRecDepth 100000
open Go.RowKit
def fmdE (X Y:Int) (t:Bool):Bool:=decide (t=false∧X<md 2∧Y<md 2∧(kc Y:Fin m2)*kc Y-kc X*kc X=1+ed*(kc X*kc X*(kc Y*kc Y)))
theorem rpE_pc {a:Ep m2} (h:a.on ed):rpE (a.x.val:Int) (a.y.val:Int) false=a:=by
 obtain ⟨x,y⟩:=a
 have hc:y*y-x*x=1+ed*(x*x*(y*y)):=h
 have e:rpE (x.val:Int) (y.val:Int) false=⟨kc (x.val:Int),kc (y.val:Int)⟩:=if_pos ⟨rfl,of_decide_eq_true (gin_lt x),of_decide_eq_true (gin_lt y),by rw [kc_self,kc_self];exact hc⟩
 rw [kc_self,kc_self] at e
 exact e
theorem fmdE_rp {X Y:Int} {t:Bool} (h:fmdE X Y t=false):rpE X Y t=Ep.o m2:=if_neg (of_decide_eq_false h)
end Go.Proofs.YtjaahnlpnkcimaaDoor
namespace Go.Proofs.YtjaahnlpnkcimaaDoor
set_option maxRecDepth 100000
def imN:Nat:=19681161376707505956807079304988542015446066515923890162744021073123829784752
def im:Fin m2:=kc (imN:Int)
theorem im_sq:im*im=- 1:=by
 rw [im,← kc_mul]
 exact neg_kc (by decide +kernel) rfl
def xx2 (y:Fin m2):Fin m2:=(y*y-1)*fiv (ed*(y*y)+1)
def ex8:Nat:=7237005577332262213973186563042994240829374041602535252466099000494570602494
theorem ex8_4:2*(2*ex8)=(m2-1) / 2+2:=by decide +kernel
theorem ex8_pos:ex8=7237005577332262213973186563042994240829374041602535252466099000494570602493+1:=by decide +kernel
def rt (y:Fin m2):Fin m2:=xx2 y ^ ex8
theorem nil_den {p:Nat} [NeZero p] (d:Fin p) (h:d*(0*0)+1=0):(1:Fin p)=0:=by grobner
theorem den_ne (y:Fin m2):ed*(y*y)+1≠0:=by
 intro h
 by_cases hy:y=0
 ·have h1:=fld2.one
  subst hy
  exact h1 (nil_den ed h)
 ·refine ns_frac ek2 (u:=im) (v:=y) hy ?_
  have:=im_sq
  clear hy
  grobner
theorem on_xx {a:Ep m2} (h:a.on ed):a.x*a.x=xx2 a.y:=by
 have h1:=fld2.inv _ (den_ne a.y)
 unfold Ep.on at h
 unfold xx2
 generalize fiv (ed*(a.y*a.y)+1)=v at *
 generalize a.x=x at *
 generalize a.y=y at *
 generalize ed=d at *
 grobner
theorem sq_two {x y:Fin m2} (h:x*x=y*y):y=x∨y=- x:=by
 have e:(y-x)*(y+x)=0:=by grobner
 rcases fld2.dom e with e | e
 ·exact Or.inl (by clear h;grobner)
 ·exact Or.inr (by clear h;grobner)
theorem pow_nil {n:Nat}:(0:Fin m2) ^ (n+1)=0:=by
 have:(0:Fin m2) ^ (n+1)=0 ^ n*0:=by grobner
 rw [this]
 generalize (0:Fin m2) ^ n=z
 grobner
theorem pow_two_more (x:Fin m2) (n:Nat):x ^ (n+2)=x ^ n*(x*x):=by grobner
theorem pow_mul_self (x:Fin m2) (n:Nat):x ^ n*x ^ n=x ^ (2*n):=by
 rw [← pow_sq]
 have h:∀ n:Nat,x ^ n*x ^ n=(x*x) ^ n:=fun n=>by
  induction n with
  | zero=>grobner
  | succ n ih =>
   have a1:x ^ (n+1)*x ^ (n+1)=x ^ n*x ^ n*(x*x):=by clear ih;grobner
   have a2:(x*x) ^ (n+1)=(x*x) ^ n*(x*x):=by clear ih a1;grobner
   rw [a1,a2,ih]
 exact h n
theorem rt_sq (x:Fin m2):(x*x) ^ ex8*(x*x) ^ ex8=x*x∨(x*x) ^ ex8*(x*x) ^ ex8=- (x*x):=by
 by_cases hx:x=0
 ·subst hx
  left
  rw [show (0:Fin m2)*0=0 from nil_sq,ex8_pos,pow_nil]
  exact nil_sq
 ·have h1:(x*x) ^ ex8*(x*x) ^ ex8=x ^ ((m2-1) / 2)*(x*x):=by
   rw [pow_sq,pow_mul_self,ex8_4,pow_two_more]
  have h2:x ^ ((m2-1) / 2)*x ^ ((m2-1) / 2)=1:=by
   rw [pow_mul_self,show 2*((m2-1) / 2)=m2-1 by unfold m2 q2;omega]
   exact fermat_fin m2_full hx
  rw [h1]
  clear h1
  generalize x ^ ((m2-1) / 2)=u at *
  rcases sq_two (x:=1) (y:=u) (by grobner) with rfl | rfl
  ·left;grobner
  ·right;grobner
theorem rt_ok {a:Ep m2} (h:a.on ed):(rt a.y*rt a.y=xx2 a.y∧(a.x=rt a.y∨a.x=- rt a.y))∨(rt a.y*rt a.y=- xx2 a.y∧(a.x=rt a.y*im∨a.x=- (rt a.y*im))):=by
 have e:=on_xx h
 have r:=rt_sq a.x
 rw [e] at r
 rcases r with r | r
 ·exact Or.inl ⟨r,sq_two (show rt a.y*rt a.y=a.x*a.x by rw [e];exact r)⟩
 ·refine Or.inr ⟨r,sq_two ?_⟩
  rw [e]
  have r2:rt a.y*rt a.y=- xx2 a.y:=r
  have i2:=im_sq
  clear r e h
  generalize rt a.y=x at *
  generalize xx2 a.y=z at *
  grobner
theorem neg_val {x:Fin m2} (h:x≠0):(- x).val=m2-x.val:=by
 have h0:x.val≠0:=fun e=>h (Fin.ext (by rw [e];rfl))
 have h1:=x.isLt
 rw [Fin.val_neg,if_neg h]
theorem par_neg {x:Fin m2} (h:x≠0):(- x).val % 2≠x.val % 2:=by
 rw [neg_val h]
 have h1:=x.isLt
 unfold m2 q2 at *
 omega
theorem par_one {x y:Fin m2} (h:y=x∨y=- x) (e:y.val % 2=x.val % 2):y=x:=by
 rcases h with h | h
 ·exact h
 ·by_cases h0:x=0
  ·rw [h,h0];decide +kernel
  ·exact absurd (h ▸ e) (par_neg h0)
def code (a:Ep m2):Nat:=a.y.val+2 ^ 255*(a.x.val % 2)
theorem y_lt (a:Ep m2):a.y.val<2 ^ 255:=by
 have:=a.y.isLt
 unfold m2 q2 at this
 omega
theorem code_mod (a:Ep m2):code a % 2 ^ 255=a.y.val:=by
 have:=y_lt a
 unfold code
 rw [Nat.add_mul_mod_self_left,Nat.mod_eq_of_lt this]
theorem code_div (a:Ep m2):code a / 2 ^ 255=a.x.val % 2:=by
 have:=y_lt a
 unfold code
 rw [Nat.add_mul_div_left _ _ (by decide),Nat.div_eq_of_lt this,Nat.zero_add]
theorem code_lt (a:Ep m2):code a<2 ^ 256:=by
 have:=y_lt a
 have:a.x.val % 2<2:=Nat.mod_lt _ (by decide)
 unfold code
 omega
theorem code_inj {a b:Ep m2} (ha:a.on ed) (hb:b.on ed) (h:code a=code b):a=b:=by
 have e1:a.y=b.y:=Fin.ext (by rw [← code_mod,← code_mod,h])
 have e2:a.x.val % 2=b.x.val % 2:=by rw [← code_div,← code_div,h]
 have e3:a.x=b.x:=par_one (sq_two (by rw [on_xx ha,on_xx hb,e1])) e2
 cases a;cases b;cases e1;cases e3;rfl
def tr (y:Fin m2):Nat→Fin m2
 | 0=>rt y
 | 1=>rt y*im
 | 2=>0-rt y
 | _+3=>0-rt y*im
def goodB (U:Nat) (y:Fin m2) (i:Nat):Bool:=decide (y*y-tr y i*tr y i=1+ed*(tr y i*tr y i*(y*y))) && decide (code ⟨tr y i,y⟩=U)
theorem goodB_iff {U:Nat} {y:Fin m2} {i:Nat}:goodB U y i=true ↔ (⟨tr y i,y⟩:Ep m2).on ed∧code ⟨tr y i,y⟩=U:=by
 unfold goodB Ep.on
 rw [Bool.and_eq_true,decide_eq_true_eq,decide_eq_true_eq]
def dec (U:Nat):Option (Ep m2):=if U % 2 ^ 255<m2 then ((List.range 4).find? (goodB U (kc ((U % 2 ^ 255:Nat):Int)))).map fun i=>⟨tr (kc ((U % 2 ^ 255:Nat):Int)) i,kc ((U % 2 ^ 255:Nat):Int)⟩ else none
theorem dec_is {U:Nat} {a:Ep m2} (h:dec U=some a):a.on ed∧code a=U:=by
 unfold dec at h
 split at h
 ·rw [Option.map_eq_some_iff] at h
  obtain ⟨i,hi,rfl⟩:=h
  exact goodB_iff.1 (List.find?_some hi)
 ·cases h
theorem tr_ok {a:Ep m2} (h:a.on ed):∃ i,i<4∧tr a.y i=a.x:=by
 rcases rt_ok h with ⟨_,e | e⟩ | ⟨_,e | e⟩
 ·exact ⟨0,by decide,e.symm⟩
 ·exact ⟨2,by decide,by rw [e];show 0-rt a.y=_;generalize rt a.y=x;grobner⟩
 ·exact ⟨1,by decide,e.symm⟩
 ·exact ⟨3,by decide,by rw [e];show 0-rt a.y*im=_;generalize rt a.y*im=x;grobner⟩
theorem y_of_code {U:Nat} {a:Ep m2} (h:code a=U):U % 2 ^ 255<m2∧(kc ((U % 2 ^ 255:Nat):Int):Fin m2)=a.y:=by
 rw [← h,code_mod]
 exact ⟨a.y.isLt,kc_self _⟩
theorem dec_of {U:Nat} {a:Ep m2} (ha:a.on ed) (hc:code a=U):dec U=some a:=by
 obtain ⟨hy,e⟩:=y_of_code hc
 obtain ⟨i,hi,et⟩:=tr_ok ha
 have hg:goodB U a.y i=true:=goodB_iff.2 (by rw [et];exact ⟨ha,hc⟩)
 cases hd:dec U with
 | some b=>rw [code_inj (dec_is hd).1 ha ((dec_is hd).2.trans hc.symm)]
 | none =>
  unfold dec at hd
  rw [if_pos hy,e,Option.map_eq_none_iff,List.find?_eq_none] at hd
  exact absurd hg (hd i (List.mem_range.2 hi))
theorem dec_none {U:Nat} (h:∀ a:Ep m2,a.on ed→code a≠U):dec U=none:=by
 cases hd:dec U with
 | none=>rfl
 | some b=>exact absurd (dec_is hd).2 (h b (dec_is hd).1)
theorem dec_code {a:Ep m2} (h:a.on ed):dec (code a)=some a:=dec_of h rfl
def dpt (U:Nat):Ep m2:=(dec U).getD (Ep.o m2)
def dok (U:Nat):Bool:=(dec U).isSome
theorem dpt_some {U:Nat} {a:Ep m2} (h:dec U=some a):dpt U=a∧dok U=true:=by unfold dpt dok;rw [h];exact ⟨rfl,rfl⟩
theorem dpt_none {U:Nat} (h:dec U=none):dpt U=Ep.o m2∧dok U=false:=by unfold dpt dok;rw [h];exact ⟨rfl,rfl⟩
end Go.Proofs.YtjaahnlpnkcimaaDoor
namespace Go.Proofs.YtjaahnlpnkcimaaDoor
set_option maxRecDepth 100000
open Go.RowKit
theorem Y_add (y t:Int) (i:Nat):Y i (y+256 ^ (i+1)*t)=Y i y:=by
 unfold Y
 rw [Int.pow_succ,Int.mul_assoc,Int.add_mul_ediv_left _ _ (Int.ne_of_gt (Int.pow_pos (by omega))),Int.add_mul_emod_self_left]
theorem top_pow {i:Nat} (hi:i<31):(2:Int) ^ 255=256 ^ (i+1)*2 ^ (255-8*(i+1)):=by
 rw [show (256:Int)=2 ^ 8 from rfl,← Int.pow_mul,← Int.pow_add,show 8*(i+1)+(255-8*(i+1))=255 by omega]
theorem Y_low (y s:Int) {i:Nat} (hi:i<31):Y i (y+2 ^ 255*s)=Y i y:=by
 rw [top_pow hi,Int.mul_assoc,Y_add]
theorem Y_top {y:Int} (h0:0≤y) (h:y<2 ^ 255):0≤Y 31 y∧Y 31 y<128∧Y 31 y=y / 256 ^ 31:=by
 unfold Y
 have e:(2:Int) ^ 255=256 ^ 31*128:=by decide +kernel
 have h1:0≤y / 256 ^ 31:=Int.ediv_nonneg h0 (by decide +kernel)
 have h2:y / 256 ^ 31<128:=Int.ediv_lt_of_lt_mul (by decide +kernel) (by rw [Int.mul_comm,← e];exact h)
 omega
theorem Y_high {y s:Int} (h0:0≤y) (h:y<2 ^ 255) (hs:s=0∨s=1):Y 31 (y+2 ^ 255*s)=Y 31 y+128*s:=by
 obtain ⟨a,b,c⟩:=Y_top h0 h
 rw [c] at a b
 rw [c]
 unfold Y
 rw [show (2:Int) ^ 255=256 ^ 31*128 by decide +kernel,Int.mul_assoc,Int.add_mul_ediv_left _ _ (by decide +kernel)]
 omega
theorem lw_lo (i:Nat) (x:Int):0≤lw i x:=L_lo i x
theorem L0_odd (x:Int):lw 0 x % 2=x % 2:=by
 show L 0 x % 2=x % 2
 rw [L0]
 omega
theorem code_int (a:Ep m2):((code a:Nat):Int)=(a.y.val:Int)+2 ^ 255*((a.x.val % 2:Nat):Int):=by
 unfold code
 rw [Int.natCast_add,Int.natCast_mul,Int.natCast_pow]
 rfl
theorem y_int (a:Ep m2):(a.y.val:Int)<2 ^ 255:=by
 have:=y_lt a
 rw [show (2:Int) ^ 255=((2 ^ 255:Nat):Int) from rfl]
 omega
theorem code_even {a:Ep m2} (h:a.x.val % 2=0):code a=a.y.val:=by unfold code;rw [h];rfl
theorem code_o:code (Ep.o m2)=1:=by decide +kernel
theorem e_on {a:Ep m2} (i:Nat) (hi:i<31):Y i ((code a:Nat):Int)=Y i (a.y.val:Int):=by rw [code_int,Y_low _ _ hi]
theorem code_top {a:Ep m2} (h:a.x.val % 2=1):Y 31 ((code a:Nat):Int)=Y 31 (a.y.val:Int)+128:=by
 rw [code_int,Y_high (by omega) (y_int a) (Or.inr (by rw [h];rfl)),h]
 rfl
end Go.Proofs.YtjaahnlpnkcimaaDoor
namespace Go.Proofs.YtjaahnlpnkcimaaDoor
set_option maxRecDepth 100000
open Go.RowKit
theorem E_words (a:Int):E (fun i=>Y i a) 0 8=L 0 a∧E (fun i=>Y i a) 8 8=L 1 a∧E (fun i=>Y i a) 16 8=L 2 a∧E (fun i=>Y i a) 24 8=L 3 a :=
 ⟨E_word a 0,E_word a 1,E_word a 2,E_word a 3⟩
end Go.Proofs.YtjaahnlpnkcimaaDoor
