/- The statements' own question whether the program does anything is answered with yes; the functions at numbers that are written out. What limb.Half and limb.Bit answer, for all numbers: half of it, rounded down, and the bit that stands for 2^i. What field.Pow answers: the power, bit by bit from the lowest on. What field.Modulus answers. What field.Inv answers: the number that makes 1 with the given one, by Fermat. Numbers modulo the first modulus as they lie in memory, and what the program's own sums and products do with them. Points of three numbers, X / (Z Z) and Y / (Z Z Z), as the document reckons with them: they are the points of the first curve. The types of layer 8, and what the small functions of the document answer. -/
import Derived.Test.YtmigakanbeckpaaGreatDoorRm19
import Derived.Test.YtmigakanbeckpaaGreatDoorRm10
import Derived.Test.YtmigakanbeckpaaGreatDoorRm17
import Derived.Test.YtmigakanbeckpaaGreatDoorRm05
import Derived.Test.YtmigakanbeckpaaGreatDoorRm04
import Derived.WalkSmall
import Derived.Laws.BitsAllLaws
import Derived.Deep.LoopGhost
import Derived.Deep.DeepCutAuto
set_option maxRecDepth 100000
set_option maxHeartbeats 8000000
namespace Go.Proofs.YtmigakanbeckpaaGreatDoor
set_option maxRecDepth 100000
open Go.RowKit
attribute [local go_sem ↓] Go.wp_at_zero Go.wp_at_succ
attribute [local go_sem] eq4
theorem mul_mod_l (x b m:Int):(x % m*b) % m=(x*b) % m:=by rw [Int.mul_emod,Int.emod_emod,← Int.mul_emod]
theorem mul_mod_r (x b m:Int):(x*(b % m)) % m=(x*b) % m:=by rw [Int.mul_emod,Int.emod_emod,← Int.mul_emod]
theorem num_f {k a:Int} (hkk:0≤k∧k≤3):Num (a % md k):=num_mod (md_num k) (md_pos hkk)
end Go.Proofs.YtmigakanbeckpaaGreatDoor
namespace Go.Proofs.YtmigakanbeckpaaGreatDoor
set_option maxRecDepth 100000
open Go.RowKit
attribute [local go_sem ↓] Go.wp_at_zero Go.wp_at_succ
theorem or_top (x d:Int) (hx:0≤x) (hx2:x<18446744073709551616) (hd:0≤d) (hd2:d≤1):bits .or .u64 (x / 2) (IntKind.u64.wrap (d*9223372036854775808))=x / 2+d*9223372036854775808:=by
 rw [IntWalk.u64_in _ (by omega),u64_or _ _ (by omega) (by omega) (by omega) (by omega)]
 obtain ⟨n,hn⟩:=Int.eq_ofNat_of_zero_le (show 0≤x / 2 by omega)
 obtain ⟨m,rfl⟩:=Int.eq_ofNat_of_zero_le hd
 rw [hn]
 have hlt:n<2 ^ 63:=by omega
 have e1:((m:Int)*9223372036854775808).toNat=2 ^ 63*m:=by omega
 rw [e1,Int.toNat_natCast,Nat.or_comm,← Nat.two_pow_add_eq_or_of_lt hlt]
 omega
theorem or_zero (x:Int) (hx:0≤x) (hx2:x<18446744073709551616):bits .or .u64 (x / 2) 0=x / 2:=by
 have h:=or_top x 0 hx hx2 (by omega) (by omega)
 rw [Int.zero_mul,IntWalk.u64_in _ (by omega)] at h
 omega
theorem half3 {a:Int} (h:Num a):bits .or .u64 (L 3 a / 2) 0=L 3 (a / 2):=by
 rw [or_zero _ (L_lo _ _) (L_hi _ _),L3,L3]
 obtain ⟨h1,h2⟩:=h
 unfold M at h2
 omega
theorem half2 (a:Int):bits .or .u64 (L 2 a / 2) (IntKind.u64.wrap (bits .and .u64 (L 3 a) 1*9223372036854775808))=L 2 (a / 2):=by
 have h1:=L_lo 3 a
 have h2:=L_hi 3 a
 rw [and_one_u64 _ h1 (by omega),or_top _ _ (L_lo _ _) (L_hi _ _) (by omega) (by omega),L3,L2,L2]
 omega
theorem half1 (a:Int):bits .or .u64 (L 1 a / 2) (IntKind.u64.wrap (bits .and .u64 (L 2 a) 1*9223372036854775808))=L 1 (a / 2):=by
 have h1:=L_lo 2 a
 have h2:=L_hi 2 a
 rw [and_one_u64 _ h1 (by omega),or_top _ _ (L_lo _ _) (L_hi _ _) (by omega) (by omega),L2,L1,L1]
 omega
theorem half0 (a:Int):bits .or .u64 (L 0 a / 2) (IntKind.u64.wrap (bits .and .u64 (L 1 a) 1*9223372036854775808))=L 0 (a / 2):=by
 have h1:=L_lo 1 a
 have h2:=L_hi 1 a
 rw [and_one_u64 _ h1 (by omega),or_top _ _ (L_lo _ _) (L_hi _ _) (by omega) (by omega),L1,L0,L0]
 omega
theorem half_any {a:Int} (h:Num a) (w:World) :
  Calls Tryz.prog 141 #[.agg #[.int .u64 (L 0 a),.int .u64 (L 1 a),.int .u64 (L 2 a),.int .u64 (L 3 a)]] w fun e w' =>
   e=.returned (.agg #[.int .u64 (L 0 (a / 2)),.int .u64 (L 1 (a / 2)),.int .u64 (L 2 (a / 2)),.int .u64 (L 3 (a / 2))])∧Below w.heap.size w w':=by
 have a0:=L_lo 0 a
 have b0:=L_hi 0 a
 have a1:=L_lo 1 a
 have b1:=L_hi 1 a
 have a2:=L_lo 2 a
 have b2:=L_hi 2 a
 have a3:=L_lo 3 a
 have b3:=L_hi 3 a
 go_enter Tryz.func141,Tryz.ntmps141
 go_wp2
 refine wp_loop_rounds 5 ?_
 rw [rounds_succ]
 go_wp2
 rw [half3 h,rounds_succ]
 go_wp2
 rw [half2,rounds_succ]
 go_wp2
 rw [half1,rounds_succ]
 go_wp2
 rw [half0,rounds_succ]
 go_wp2
 go_returns
 refine ⟨rfl,?_⟩
 go_grown
def bt (a i:Int):Int:=if 0≤i∧i<256 then a / 2 ^ i.toNat % 2 else 0
theorem bt_in (a i:Int) (h0:0≤i) (h1:i<256):bt a i=a / 2 ^ i.toNat % 2:=by unfold bt;rw [if_pos ⟨h0,h1⟩]
theorem bt_low (a i:Int) (h:i<0):bt a i=0:=by unfold bt;rw [if_neg (by omega)]
theorem bt_high (a i:Int) (h:256≤i):bt a i=0:=by unfold bt;rw [if_neg (by omega)]
theorem div_pow_mod (x:Int) (r s:Nat):x % 2 ^ (r+s+1) / 2 ^ r % 2=x / 2 ^ r % 2:=by
 have hp:(0:Int)<2 ^ r:=Int.pow_pos (by omega)
 have e:x % 2 ^ (r+s+1)=x-2 ^ r*(2*(2 ^ s*(x / 2 ^ (r+s+1)))):=by
  rw [Int.emod_def,Int.pow_succ,Int.pow_add]
  generalize x / ((2:Int) ^ r*2 ^ s*2)=q
  congr 1
  rw [Int.mul_assoc,Int.mul_assoc,Int.mul_left_comm ((2:Int) ^ s) 2 q]
 rw [e,show x-2 ^ r*(2*(2 ^ s*(x / 2 ^ (r+s+1))))=x+2 ^ r*(-(2*(2 ^ s*(x / 2 ^ (r+s+1))))) by rw [Int.mul_neg];omega,Int.add_mul_ediv_left _ _ (by omega)]
 generalize (2:Int) ^ s*(x / 2 ^ (r+s+1))=z
 omega
theorem word_bit (a:Int) (k r:Nat) (hr:r<64):L k a / 2 ^ r % 2=a / 2 ^ (64*k+r) % 2:=by
 obtain ⟨s,hs⟩:∃ s,64=r+s+1:=⟨63-r,by omega⟩
 have eB:B=2 ^ (r+s+1):=by rw [← hs];rfl
 have eK:B ^ k=2 ^ (64*k):=by rw [Int.pow_mul];rfl
 unfold L
 rw [eK,eB,div_pow_mod,Int.ediv_ediv_of_nonneg (Int.le_of_lt (Int.pow_pos (by omega))),← Int.pow_add]
theorem bit_word (a i:Int) (k:Nat) (h0:0≤i) (h1:i<256) (hq:i / 64=k):wrap64 (bits BinOp.and IntKind.u64 (L k a / 2 ^ (i % 64).toNat) 1)=bt a i:=by
 have hp:(0:Int)<2 ^ (i % 64).toNat:=Int.pow_pos (by omega)
 have l1:=L_lo k a
 have l2:=L_hi k a
 have d1:0≤L k a / 2 ^ (i % 64).toNat:=Int.ediv_nonneg l1 (Int.le_of_lt hp)
 have d2:L k a / 2 ^ (i % 64).toNat≤L k a:=Int.ediv_le_self _ l1
 rw [and_one_u64 _ d1 (by omega),IntWalk.wrap64_in _ (by omega),word_bit _ _ _ (by omega),bt_in _ _ h0 h1]
 rw [show 64*k+(i % 64).toNat=i.toNat by omega]
theorem bit_in0 (a i:Int) (h0:0≤i) (h1:i<256) (hq:i / 64=0) (w:World) :
  Calls Tryz.prog 126 #[.agg #[.int .u64 (L 0 a),.int .u64 (L 1 a),.int .u64 (L 2 a),.int .u64 (L 3 a)],.int .i64 i] w fun e w' =>
   e=.returned (.int .i64 (bt a i))∧Below w.heap.size w w':=by
 have l1:=L_lo 0 a
 have l2:=L_hi 0 a
 go_enter Tryz.func126,Tryz.ntmps126
 go_wp2
 go_ret
 refine ⟨congrArg (fun x=>Ending.returned (.int .i64 x)) (bit_word a i 0 h0 h1 hq),?_⟩
 go_grown
theorem bit_in1 (a i:Int) (h0:0≤i) (h1:i<256) (hq:i / 64=1) (w:World) :
  Calls Tryz.prog 126 #[.agg #[.int .u64 (L 0 a),.int .u64 (L 1 a),.int .u64 (L 2 a),.int .u64 (L 3 a)],.int .i64 i] w fun e w' =>
   e=.returned (.int .i64 (bt a i))∧Below w.heap.size w w':=by
 have l1:=L_lo 1 a
 have l2:=L_hi 1 a
 go_enter Tryz.func126,Tryz.ntmps126
 go_wp2
 go_ret
 refine ⟨congrArg (fun x=>Ending.returned (.int .i64 x)) (bit_word a i 1 h0 h1 hq),?_⟩
 go_grown
theorem bit_in2 (a i:Int) (h0:0≤i) (h1:i<256) (hq:i / 64=2) (w:World) :
  Calls Tryz.prog 126 #[.agg #[.int .u64 (L 0 a),.int .u64 (L 1 a),.int .u64 (L 2 a),.int .u64 (L 3 a)],.int .i64 i] w fun e w' =>
   e=.returned (.int .i64 (bt a i))∧Below w.heap.size w w':=by
 have l1:=L_lo 2 a
 have l2:=L_hi 2 a
 go_enter Tryz.func126,Tryz.ntmps126
 go_wp2
 go_ret
 refine ⟨congrArg (fun x=>Ending.returned (.int .i64 x)) (bit_word a i 2 h0 h1 hq),?_⟩
 go_grown
theorem bit_in3 (a i:Int) (h0:0≤i) (h1:i<256) (hq:i / 64=3) (w:World) :
  Calls Tryz.prog 126 #[.agg #[.int .u64 (L 0 a),.int .u64 (L 1 a),.int .u64 (L 2 a),.int .u64 (L 3 a)],.int .i64 i] w fun e w' =>
   e=.returned (.int .i64 (bt a i))∧Below w.heap.size w w':=by
 have l1:=L_lo 3 a
 have l2:=L_hi 3 a
 go_enter Tryz.func126,Tryz.ntmps126
 go_wp2
 go_ret
 refine ⟨congrArg (fun x=>Ending.returned (.int .i64 x)) (bit_word a i 3 h0 h1 hq),?_⟩
 go_grown
theorem bit_below (a i:Int) (h0:i<0) (w:World) :
  Calls Tryz.prog 126 #[.agg #[.int .u64 (L 0 a),.int .u64 (L 1 a),.int .u64 (L 2 a),.int .u64 (L 3 a)],.int .i64 i] w fun e w' =>
   e=.returned (.int .i64 0)∧Below w.heap.size w w':=by
 go_enter Tryz.func126,Tryz.ntmps126
 go_wp2
 go_ret
 refine ⟨rfl,?_⟩
 go_grown
theorem bit_above (a i:Int) (h0:256≤i) (w:World) :
  Calls Tryz.prog 126 #[.agg #[.int .u64 (L 0 a),.int .u64 (L 1 a),.int .u64 (L 2 a),.int .u64 (L 3 a)],.int .i64 i] w fun e w' =>
   e=.returned (.int .i64 0)∧Below w.heap.size w w':=by
 go_enter Tryz.func126,Tryz.ntmps126
 go_wp2
 go_ret
 refine ⟨rfl,?_⟩
 go_grown
theorem bit_any (a i:Int) (w:World) :
  Calls Tryz.prog 126 #[.agg #[.int .u64 (L 0 a),.int .u64 (L 1 a),.int .u64 (L 2 a),.int .u64 (L 3 a)],.int .i64 i] w fun e w' =>
   e=.returned (.int .i64 (bt a i))∧Below w.heap.size w w':=by
 by_cases h0:i<0
 ·rw [bt_low a i h0];exact bit_below a i h0 w
 by_cases h1:256≤i
 ·rw [bt_high a i h1];exact bit_above a i h1 w
 have hq:i / 64=0∨i / 64=1∨i / 64=2∨i / 64=3:=by omega
 rcases hq with hq | hq | hq | hq
 ·exact bit_in0 a i (by omega) (by omega) hq w
 ·exact bit_in1 a i (by omega) (by omega) hq w
 ·exact bit_in2 a i (by omega) (by omega) hq w
 ·exact bit_in3 a i (by omega) (by omega) hq w
end Go.Proofs.YtmigakanbeckpaaGreatDoor
namespace Go.Proofs.YtmigakanbeckpaaGreatDoor
set_option maxRecDepth 100000
open Go.RowKit
attribute [local go_sem ↓] Go.wp_at_zero Go.wp_at_succ
def pw (x e:Int):Int:=x ^ e.toNat
theorem pw_zero (x:Int):pw x 0=1:=by simp [pw]
theorem pow_mod_any (x m:Int):∀ k:Nat,(x % m) ^ k % m=x ^ k % m
 | 0=>by simp
 | k+1=>by rw [Int.pow_succ,Int.pow_succ,mul_mod_r,Int.mul_emod,pow_mod_any x m k,← Int.mul_emod]
theorem pw_mod (x e m:Int):pw (x % m) e % m=pw x e % m:=pow_mod_any x m e.toNat
theorem pw_even {x e m:Int} (h:e % 2=0):pw x e % m=pw (x*x % m) (e / 2) % m:=by
 rw [pw_mod]
 unfold pw
 have e1:e.toNat=2*(e / 2).toNat:=by omega
 rw [e1,Int.pow_mul,Int.pow_succ,Int.pow_succ,Int.pow_zero,Int.one_mul]
theorem pw_odd {x e m:Int} (h0:0<e) (h:e % 2=1):pw x e % m=x*pw (x*x % m) (e / 2) % m:=by
 rw [← mul_mod_r,pw_mod,mul_mod_r]
 unfold pw
 have e1:e.toNat=2*(e / 2).toNat+1:=by omega
 rw [e1,Int.pow_succ,Int.pow_mul,Int.pow_succ,Int.pow_succ,Int.pow_zero,Int.one_mul,Int.mul_comm]
theorem inv_even {x y e m:Int} (h:e % 2=0):y*pw (x*x % m) (e / 2) % m=y*pw x e % m:=by
 rw [← mul_mod_r y (pw x e),pw_even h,mul_mod_r]
theorem inv_odd {x y e m:Int} (h0:0<e) (h:e % 2=1):(y*x % m)*pw (x*x % m) (e / 2) % m=y*pw x e % m:=by
 rw [mul_mod_l,← mul_mod_r y (pw x e),pw_odd h0 h,mul_mod_r,Int.mul_assoc]
theorem bt_0 (f:Int):bt f 0=f % 2:=by unfold bt;simp
theorem words_not {f:Int} (h:Num f) (hf:f≠0):(L 0 f == 0 && (L 1 f == 0 && (L 2 f == 0 && (L 3 f == 0 && true))))=false:=by
 cases hb:(L 0 f == 0 && (L 1 f == 0 && (L 2 f == 0 && (L 3 f == 0 && true)))) with
 | false=>rfl
 | true =>
  simp only [Bool.and_eq_true,beq_iff_eq,and_true] at hb
  have:=num_val h
  omega
structure PowS (w wr:World) (n:Nat) (x f y:Int):Prop where
 below:Below w.heap.size w wr
 X:ArrW wr w.heap.size (L 0 x) (L 1 x) (L 2 x) (L 3 x)
 E:ArrW wr (w.heap.size+1) (L 0 f) (L 1 f) (L 2 f) (L 3 f)
 R:ArrW wr (w.heap.size+1+1) 0 0 0 0
 P:ArrW wr n (L 0 y) (L 1 y) (L 2 y) (L 3 y)
theorem PowS.call {w wr w1:World} {n:Nat} {x f y:Int} (h:PowS w wr n x f y) (hk:Below wr.heap.size wr w1):PowS w w1 n x f y :=
 ⟨K.call h.below hk,h.X.keep hk,h.E.keep hk,h.R.keep hk,h.P.keep hk⟩
theorem PowS.storeP {w wr:World} {n:Nat} {x f y:Int} (h:PowS w wr n x f y) (hn:w.heap.size+1+1<n) (z:Int):PowS w ((((wr.setCell ⟨n,0,none⟩ (.int .u64 (L 0 z))).setCell ⟨n,1,none⟩ (.int .u64 (L 1 z))).setCell ⟨n,2,none⟩ (.int .u64 (L 2 z))).setCell ⟨n,3,none⟩ (.int .u64 (L 3 z))) n x f z :=
 ⟨K.set4 h.below (by omega) _ _ _ _,h.X.set4 (by omega) _ _ _ _,h.E.set4 (by omega) _ _ _ _,h.R.set4 (by omega) _ _ _ _,h.P.stored _ _ _ _⟩
theorem PowS.storeA {w wr:World} {n:Nat} {x f y:Int} (h:PowS w wr n x f y) (hn:w.heap.size+1+1<n) (z:Int):PowS w ((((wr.setCell ⟨w.heap.size,0,none⟩ (.int .u64 (L 0 z))).setCell ⟨w.heap.size,1,none⟩ (.int .u64 (L 1 z))).setCell ⟨w.heap.size,2,none⟩ (.int .u64 (L 2 z))).setCell ⟨w.heap.size,3,none⟩ (.int .u64 (L 3 z))) n z f y :=
 ⟨K.set4 h.below (by omega) _ _ _ _,h.X.stored _ _ _ _,h.E.set4 (by omega) _ _ _ _,h.R.set4 (by omega) _ _ _ _,h.P.set4 (by omega) _ _ _ _⟩
theorem PowS.storeE {w wr:World} {n:Nat} {x f y:Int} (h:PowS w wr n x f y) (hn:w.heap.size+1+1<n) (z:Int):PowS w ((((wr.setCell ⟨(w.heap.size+1),0,none⟩ (.int .u64 (L 0 z))).setCell ⟨(w.heap.size+1),1,none⟩ (.int .u64 (L 1 z))).setCell ⟨(w.heap.size+1),2,none⟩ (.int .u64 (L 2 z))).setCell ⟨(w.heap.size+1),3,none⟩ (.int .u64 (L 3 z))) n x z y :=
 ⟨K.set4 h.below (by omega) _ _ _ _,h.X.set4 (by omega) _ _ _ _,h.E.stored _ _ _ _,h.R.set4 (by omega) _ _ _ _,h.P.set4 (by omega) _ _ _ _⟩
theorem f_pow {k a ex:Int} (hkk:0≤k∧k≤3) (ha:Num a) (he:Num ex) {w:World} (hT:Tab w) :
  Calls Tryz.prog 116 #[.int .i64 k,.agg #[.int .u64 (L 0 a),.int .u64 (L 1 a),.int .u64 (L 2 a),.int .u64 (L 3 a)],.agg #[.int .u64 (L 0 ex),.int .u64 (L 1 ex),.int .u64 (L 2 ex),.int .u64 (L 3 ex)]] w fun e w'=>e=.returned (.agg #[.int .u64 (L 0 (pw a ex % md k)),.int .u64 (L 1 (pw a ex % md k)),.int .u64 (L 2 (pw a ex % md k)),.int .u64 (L 3 (pw a ex % md k))])∧Below w.heap.size w w':=by
 have nm:=md_num k
 have hp:=md_pos hkk
 have HF:Hid (∀ w,Calls Tryz.prog 102 #[.agg #[.int .u64 (L 0 (md k)),.int .u64 (L 1 (md k)),.int .u64 (L 2 (md k)),.int .u64 (L 3 (md k))],.agg #[.int .u64 1,.int .u64 0,.int .u64 0,.int .u64 0]] w fun e w'=>e=.returned (.agg #[.int .u64 (L 0 (1 % md k)),.int .u64 (L 1 (1 % md k)),.int .u64 (L 2 (1 % md k)),.int .u64 (L 3 (1 % md k))])∧Below w.heap.size w w'):=by
  intro w
  have h:=fold_any (a:=1) hkk ⟨by decide,by decide⟩ w
  have b0:L 0 1=1:=by decide
  have b1:L 1 1=0:=by decide
  have b2:L 2 1=0:=by decide
  have b3:L 3 1=0:=by decide
  rw [b0,b1,b2,b3] at h
  exact h
 have HPR:Hid (∀ a b w,Num a→Num b→Calls Tryz.prog 117 #[.agg #[.int .u64 (L 0 (md k)),.int .u64 (L 1 (md k)),.int .u64 (L 2 (md k)),.int .u64 (L 3 (md k))],.agg #[.int .u64 (L 0 a),.int .u64 (L 1 a),.int .u64 (L 2 a),.int .u64 (L 3 a)],.agg #[.int .u64 (L 0 b),.int .u64 (L 1 b),.int .u64 (L 2 b),.int .u64 (L 3 b)]] w fun e w'=>e=.returned (.agg #[.int .u64 (L 0 (a*b % md k)),.int .u64 (L 1 (a*b % md k)),.int .u64 (L 2 (a*b % md k)),.int .u64 (L 3 (a*b % md k))])∧Below w.heap.size w w'):=fun a b w ha hb=>prod_any hkk ha hb w
 have HMO:Hid (∀ w,Tab w→Calls Tryz.prog 101 #[.int .i64 k] w fun e w'=>e=.returned (.agg #[.int .u64 (L 0 (md k)),.int .u64 (L 1 (md k)),.int .u64 (L 2 (md k)),.int .u64 (L 3 (md k))])∧Below w.heap.size w w'):=fun w hT=>modOf_any k hT
 have H0:Hid (Num a∧Num ex∧0≤1 % md k∧1 % md k<md k∧Num (1 % md k)):=⟨ha,he,Int.emod_nonneg _ (by omega),Int.emod_lt_of_pos _ hp,num_f hkk⟩
 have HNM:Hid (Num (md k)∧0<md k):=⟨nm,hp⟩
 clear ha he hp nm hkk
 generalize md k=m at *
 go_enter Tryz.func116,Tryz.ntmps116
 go_wp2_with fail
 with_reducible refine Calls.mono (HMO.out _ (hT.keep (K.alloc (K.alloc (K.alloc (Below.refl _ _) _) _) _))) ?_
 rintro e w1 ⟨rfl,hb1⟩
 clear HMO
 have X1:=(((ArrW.new w w.heap.size rfl 24 (L 0 a) (L 1 a) (L 2 a) (L 3 a)).alloc _).alloc _).keep hb1 |>.alloc (.cells #[.int .u64 (L 0 m),.int .u64 (L 1 m),.int .u64 (L 2 m),.int .u64 (L 3 m)] 107)
 have E1:=((ArrW.new _ (w.heap.size+1) (by simp) 24 (L 0 ex) (L 1 ex) (L 2 ex) (L 3 ex)).alloc _).keep hb1 |>.alloc (.cells #[.int .u64 (L 0 m),.int .u64 (L 1 m),.int .u64 (L 2 m),.int .u64 (L 3 m)] 107)
 have R1:=(ArrW.new _ (w.heap.size+1+1) (by simp) 24 0 0 0 0).keep hb1 |>.alloc (.cells #[.int .u64 (L 0 m),.int .u64 (L 1 m),.int .u64 (L 2 m),.int .u64 (L 3 m)] 107)
 have M1:=Arr.new w1 w1.heap.size rfl 107 (L 0 m) (L 1 m) (L 2 m) (L 3 m)
 have hw1:Below w.heap.size w (w1.alloc (.cells #[.int .u64 (L 0 m),.int .u64 (L 1 m),.int .u64 (L 2 m),.int .u64 (L 3 m)] 107)):=K.alloc (K.call (K.alloc (K.alloc (K.alloc (Below.refl _ w) _) _) _) hb1) _
 clear hb1 hT
 go_wp2_with fail
 with_reducible refine Calls.mono (HF.out _) ?_
 rintro e w2 ⟨rfl,hb2⟩
 generalize h1m:1 % m=y0 at *
 have HY:Hid (1 % m=y0):=h1m
 clear h1m
 have hS1:PowS w (w2.alloc (.cells #[.int .u64 (L 0 y0),.int .u64 (L 1 y0),.int .u64 (L 2 y0),.int .u64 (L 3 y0)] 24)) w2.heap.size a ex y0 :=
  ⟨K.alloc (K.call hw1 hb2) _,(X1.keep hb2).alloc _,(E1.keep hb2).alloc _,(R1.keep hb2).alloc _,ArrW.new w2 w2.heap.size rfl 24 _ _ _ _⟩
 have hn:w.heap.size+1+1<w2.heap.size:=by have:=R1.lt;have:=hb2.size;omega
 clear hb2 X1 E1 R1 M1 hw1 HF
 go_wp2_with fail
 go_loopg [] ex.toNat (fun g wr=>∃ x y f:Int,g=f.toNat∧Num f∧Num x∧Num y∧(0≤y∧y<m)∧y*pw x f % m=pw a ex % m∧PowS w wr w2.heap.size x f y)
 case atStart =>
  have h:=H0.out
  exact ⟨a,y0,ex,rfl,h.2.1,h.1,h.2.2.2.2,⟨h.2.2.1,h.2.2.2.1⟩,by rw [← HY.out,mul_mod_l,Int.one_mul],hS1⟩
 case round =>
  clear hS1
  obtain ⟨x,y,f,hg,nf,nx,ny,hy,hinv,hS⟩:=hrel
  have hS0:=hS
  obtain ⟨hbw,⟨al,a0,a1,a2,a3,af0,af1,af2,af3⟩,⟨el,e0,e1,e2,e3,ef0,ef1,ef2,ef3⟩,⟨rl,r0,r1,r2,r3,rf0,rf1,rf2,rf3⟩,⟨pl,p0,p1,p2,p3,pf0,pf1,pf2,pf3⟩⟩:=hS0
  by_cases hf:f=0
  ·have HV:Hid (y=pw a ex % m):=by rw [← hinv,hf,pw_zero,Int.mul_one];exact (Int.emod_eq_of_lt hy.1 hy.2).symm
   have HE:∀ w,(Op.equalIn 10000 24 (.agg #[.int .u64 (L 0 f),.int .u64 (L 1 f),.int .u64 (L 2 f),.int .u64 (L 3 f)]) (.agg #[.int .u64 0,.int .u64 0,.int .u64 0,.int .u64 0])).run Tryz.prog w=.ok true w:=by
    intro w;rw [eq4,hf,L_zero,L_zero,L_zero,L_zero];rfl
   clear hg hinv hy nf nx ny hf
   go_wp2_with fail
   refine bodyPost_ret (v:=.agg #[.int .u64 (L 0 y),.int .u64 (L 1 y),.int .u64 (L 2 y),.int .u64 (L 3 y)]) (by simp [results,Tryz.results116,go_sem,r0,r1,r2,r3]) rfl ⟨by rw [← HV.out],K.set4 hS.below (by omega) _ _ _ _⟩
  ·have HE:∀ w,(Op.equalIn 10000 24 (.agg #[.int .u64 (L 0 f),.int .u64 (L 1 f),.int .u64 (L 2 f),.int .u64 (L 3 f)]) (.agg #[.int .u64 0,.int .u64 0,.int .u64 0,.int .u64 0])).run Tryz.prog w=.ok false w:=by
    intro w;rw [eq4,words_not nf hf]
   have hm:=HNM.out
   have HH:Hid (∀ w,Calls Tryz.prog 141 #[.agg #[.int .u64 (L 0 f),.int .u64 (L 1 f),.int .u64 (L 2 f),.int .u64 (L 3 f)]] w fun e w'=>e=.returned (.agg #[.int .u64 (L 0 (f / 2)),.int .u64 (L 1 (f / 2)),.int .u64 (L 2 (f / 2)),.int .u64 (L 3 (f / 2))])∧Below w.heap.size w w'):=fun w=>half_any nf w
   have HP2:Hid (∀ w,Calls Tryz.prog 117 #[.agg #[.int .u64 (L 0 m),.int .u64 (L 1 m),.int .u64 (L 2 m),.int .u64 (L 3 m)],.agg #[.int .u64 (L 0 x),.int .u64 (L 1 x),.int .u64 (L 2 x),.int .u64 (L 3 x)],.agg #[.int .u64 (L 0 x),.int .u64 (L 1 x),.int .u64 (L 2 x),.int .u64 (L 3 x)]] w fun e w'=>e=.returned (.agg #[.int .u64 (L 0 (x*x % m)),.int .u64 (L 1 (x*x % m)),.int .u64 (L 2 (x*x % m)),.int .u64 (L 3 (x*x % m))])∧Below w.heap.size w w'):=fun w=>HPR.out x x w nx nx
   have fl:=nf.lo
   have fh:=nf.hi
   have nx':Num (x*x % m):=num_mod hm.1 hm.2
   have nf':Num (f / 2):=⟨by omega,by omega⟩
   by_cases ho:f % 2=1
   ·have HB:∀ w,Calls Tryz.prog 126 #[.agg #[.int .u64 (L 0 f),.int .u64 (L 1 f),.int .u64 (L 2 f),.int .u64 (L 3 f)],.int .i64 0] w fun e w'=>e=.returned (.int .i64 1)∧Below w.heap.size w w':=by
     intro w;have h:=bit_any f 0 w;rwa [bt_0,ho] at h
    have HP1:Hid (∀ w,Calls Tryz.prog 117 #[.agg #[.int .u64 (L 0 m),.int .u64 (L 1 m),.int .u64 (L 2 m),.int .u64 (L 3 m)],.agg #[.int .u64 (L 0 y),.int .u64 (L 1 y),.int .u64 (L 2 y),.int .u64 (L 3 y)],.agg #[.int .u64 (L 0 x),.int .u64 (L 1 x),.int .u64 (L 2 x),.int .u64 (L 3 x)]] w fun e w'=>e=.returned (.agg #[.int .u64 (L 0 (y*x % m)),.int .u64 (L 1 (y*x % m)),.int .u64 (L 2 (y*x % m)),.int .u64 (L 3 (y*x % m))])∧Below w.heap.size w w'):=fun w=>HPR.out y x w ny nx
    have HI:Hid (Num (f / 2)∧Num (x*x % m)∧Num (y*x % m)∧(0≤y*x % m∧y*x % m<m)∧(y*x % m)*pw (x*x % m) (f / 2) % m=pw a ex % m∧0<f∧gk=f.toNat) :=
     ⟨nf',nx',num_mod hm.1 hm.2,⟨Int.emod_nonneg _ (by omega),Int.emod_lt_of_pos _ hm.2⟩,by rw [inv_odd (by omega) ho,hinv],by omega,hg⟩
    clear hg hinv hy nf nx ny hf nx' nf' ho fl fh hm
    generalize x*x % m=x' at *
    generalize y*x % m=y' at *
    go_wp2_with fail
    with_reducible refine Calls.mono (HB _) ?_
    clear hbw al a0 a1 a2 a3 af0 af1 af2 af3 el e0 e1 e2 e3 ef0 ef1 ef2 ef3 rl r0 r1 r2 r3 rf0 rf1 rf2 rf3 pl p0 p1 p2 p3 pf0 pf1 pf2 pf3
    rintro e w3 ⟨rfl,hb⟩
    have hS3:=hS.call hb
    clear hb hS
    have hS0:=hS3
    obtain ⟨hbw,⟨al,a0,a1,a2,a3,af0,af1,af2,af3⟩,⟨el,e0,e1,e2,e3,ef0,ef1,ef2,ef3⟩,⟨rl,r0,r1,r2,r3,rf0,rf1,rf2,rf3⟩,⟨pl,p0,p1,p2,p3,pf0,pf1,pf2,pf3⟩⟩:=hS0
    go_wp2_with fail
    with_reducible refine Calls.mono (HP1.out _) ?_
    clear hbw al a0 a1 a2 a3 af0 af1 af2 af3 el e0 e1 e2 e3 ef0 ef1 ef2 ef3 rl r0 r1 r2 r3 rf0 rf1 rf2 rf3 pl p0 p1 p2 p3 pf0 pf1 pf2 pf3
    rintro e w4 ⟨rfl,hb⟩
    have hS4:=hS3.call hb
    clear hb hS3
    have hS0:=hS4
    obtain ⟨hbw,⟨al,a0,a1,a2,a3,af0,af1,af2,af3⟩,⟨el,e0,e1,e2,e3,ef0,ef1,ef2,ef3⟩,⟨rl,r0,r1,r2,r3,rf0,rf1,rf2,rf3⟩,⟨pl,p0,p1,p2,p3,pf0,pf1,pf2,pf3⟩⟩:=hS0
    go_upto_region 7 with fail
    refine wp_world (fun W=>PowS w W w2.heap.size x f y') (hS4.storeP hn y') ?_
    clear hbw al a0 a1 a2 a3 af0 af1 af2 af3 el e0 e1 e2 e3 ef0 ef1 ef2 ef3 rl r0 r1 r2 r3 rf0 rf1 rf2 rf3 pl p0 p1 p2 p3 pf0 pf1 pf2 pf3 hS4
    intro w5 hS5
    have hS0:=hS5
    obtain ⟨hbw,⟨al,a0,a1,a2,a3,af0,af1,af2,af3⟩,⟨el,e0,e1,e2,e3,ef0,ef1,ef2,ef3⟩,⟨rl,r0,r1,r2,r3,rf0,rf1,rf2,rf3⟩,⟨pl,p0,p1,p2,p3,pf0,pf1,pf2,pf3⟩⟩:=hS0
    go_wp2_with fail
    with_reducible refine Calls.mono (HP2.out _) ?_
    clear hbw al a0 a1 a2 a3 af0 af1 af2 af3 el e0 e1 e2 e3 ef0 ef1 ef2 ef3 rl r0 r1 r2 r3 rf0 rf1 rf2 rf3 pl p0 p1 p2 p3 pf0 pf1 pf2 pf3
    rintro e w6 ⟨rfl,hb⟩
    have hS6:=hS5.call hb
    clear hb hS5
    have hS0:=hS6
    obtain ⟨hbw,⟨al,a0,a1,a2,a3,af0,af1,af2,af3⟩,⟨el,e0,e1,e2,e3,ef0,ef1,ef2,ef3⟩,⟨rl,r0,r1,r2,r3,rf0,rf1,rf2,rf3⟩,⟨pl,p0,p1,p2,p3,pf0,pf1,pf2,pf3⟩⟩:=hS0
    go_upto_region 8 with fail
    refine wp_world (fun W=>PowS w W w2.heap.size x' f y') (hS6.storeA hn x') ?_
    clear hbw al a0 a1 a2 a3 af0 af1 af2 af3 el e0 e1 e2 e3 ef0 ef1 ef2 ef3 rl r0 r1 r2 r3 rf0 rf1 rf2 rf3 pl p0 p1 p2 p3 pf0 pf1 pf2 pf3 hS6
    intro w7 hS7
    have hS0:=hS7
    obtain ⟨hbw,⟨al,a0,a1,a2,a3,af0,af1,af2,af3⟩,⟨el,e0,e1,e2,e3,ef0,ef1,ef2,ef3⟩,⟨rl,r0,r1,r2,r3,rf0,rf1,rf2,rf3⟩,⟨pl,p0,p1,p2,p3,pf0,pf1,pf2,pf3⟩⟩:=hS0
    go_wp2_with fail
    with_reducible refine Calls.mono (HH.out _) ?_
    clear hbw al a0 a1 a2 a3 af0 af1 af2 af3 el e0 e1 e2 e3 ef0 ef1 ef2 ef3 rl r0 r1 r2 r3 rf0 rf1 rf2 rf3 pl p0 p1 p2 p3 pf0 pf1 pf2 pf3
    rintro e w8 ⟨rfl,hb⟩
    have hS8:=hS7.call hb
    clear hb hS7
    have hS0:=hS8
    obtain ⟨hbw,⟨al,a0,a1,a2,a3,af0,af1,af2,af3⟩,⟨el,e0,e1,e2,e3,ef0,ef1,ef2,ef3⟩,⟨rl,r0,r1,r2,r3,rf0,rf1,rf2,rf3⟩,⟨pl,p0,p1,p2,p3,pf0,pf1,pf2,pf3⟩⟩:=hS0
    go_wp2_with fail
    go_roundg (f / 2).toNat
    case measure=>have:=HI.out;omega
    case rel=>exact ⟨x',y',f / 2,rfl,HI.out.1,HI.out.2.1,HI.out.2.2.1,HI.out.2.2.2.1,HI.out.2.2.2.2.1,hS8.storeE hn (f / 2)⟩
   ·have hz:f % 2=0:=by omega
    have HB:∀ w,Calls Tryz.prog 126 #[.agg #[.int .u64 (L 0 f),.int .u64 (L 1 f),.int .u64 (L 2 f),.int .u64 (L 3 f)],.int .i64 0] w fun e w'=>e=.returned (.int .i64 0)∧Below w.heap.size w w':=by
     intro w;have h:=bit_any f 0 w;rwa [bt_0,hz] at h
    have HI:Hid (Num (f / 2)∧Num (x*x % m)∧Num y∧(0≤y∧y<m)∧y*pw (x*x % m) (f / 2) % m=pw a ex % m∧0<f∧gk=f.toNat) :=
     ⟨nf',nx',ny,hy,by rw [inv_even hz,hinv],by omega,hg⟩
    clear hg hinv hy nf nx ny hf nx' nf' ho hz fl fh hm
    generalize x*x % m=x' at *
    go_wp2_with fail
    with_reducible refine Calls.mono (HB _) ?_
    clear hbw al a0 a1 a2 a3 af0 af1 af2 af3 el e0 e1 e2 e3 ef0 ef1 ef2 ef3 rl r0 r1 r2 r3 rf0 rf1 rf2 rf3 pl p0 p1 p2 p3 pf0 pf1 pf2 pf3
    rintro e w3 ⟨rfl,hb⟩
    have hS3:=hS.call hb
    clear hb hS
    have hS0:=hS3
    obtain ⟨hbw,⟨al,a0,a1,a2,a3,af0,af1,af2,af3⟩,⟨el,e0,e1,e2,e3,ef0,ef1,ef2,ef3⟩,⟨rl,r0,r1,r2,r3,rf0,rf1,rf2,rf3⟩,⟨pl,p0,p1,p2,p3,pf0,pf1,pf2,pf3⟩⟩:=hS0
    go_wp2_with fail
    with_reducible refine Calls.mono (HP2.out _) ?_
    clear hbw al a0 a1 a2 a3 af0 af1 af2 af3 el e0 e1 e2 e3 ef0 ef1 ef2 ef3 rl r0 r1 r2 r3 rf0 rf1 rf2 rf3 pl p0 p1 p2 p3 pf0 pf1 pf2 pf3
    rintro e w6 ⟨rfl,hb⟩
    have hS6:=hS3.call hb
    clear hb hS3
    have hS0:=hS6
    obtain ⟨hbw,⟨al,a0,a1,a2,a3,af0,af1,af2,af3⟩,⟨el,e0,e1,e2,e3,ef0,ef1,ef2,ef3⟩,⟨rl,r0,r1,r2,r3,rf0,rf1,rf2,rf3⟩,⟨pl,p0,p1,p2,p3,pf0,pf1,pf2,pf3⟩⟩:=hS0
    go_upto_region 8 with fail
    refine wp_world (fun W=>PowS w W w2.heap.size x' f y) (hS6.storeA hn x') ?_
    clear hbw al a0 a1 a2 a3 af0 af1 af2 af3 el e0 e1 e2 e3 ef0 ef1 ef2 ef3 rl r0 r1 r2 r3 rf0 rf1 rf2 rf3 pl p0 p1 p2 p3 pf0 pf1 pf2 pf3 hS6
    intro w7 hS7
    have hS0:=hS7
    obtain ⟨hbw,⟨al,a0,a1,a2,a3,af0,af1,af2,af3⟩,⟨el,e0,e1,e2,e3,ef0,ef1,ef2,ef3⟩,⟨rl,r0,r1,r2,r3,rf0,rf1,rf2,rf3⟩,⟨pl,p0,p1,p2,p3,pf0,pf1,pf2,pf3⟩⟩:=hS0
    go_wp2_with fail
    with_reducible refine Calls.mono (HH.out _) ?_
    clear hbw al a0 a1 a2 a3 af0 af1 af2 af3 el e0 e1 e2 e3 ef0 ef1 ef2 ef3 rl r0 r1 r2 r3 rf0 rf1 rf2 rf3 pl p0 p1 p2 p3 pf0 pf1 pf2 pf3
    rintro e w8 ⟨rfl,hb⟩
    have hS8:=hS7.call hb
    clear hb hS7
    have hS0:=hS8
    obtain ⟨hbw,⟨al,a0,a1,a2,a3,af0,af1,af2,af3⟩,⟨el,e0,e1,e2,e3,ef0,ef1,ef2,ef3⟩,⟨rl,r0,r1,r2,r3,rf0,rf1,rf2,rf3⟩,⟨pl,p0,p1,p2,p3,pf0,pf1,pf2,pf3⟩⟩:=hS0
    go_wp2_with fail
    go_roundg (f / 2).toNat
    case measure=>have:=HI.out;omega
    case rel=>exact ⟨x',y,f / 2,rfl,HI.out.1,HI.out.2.1,HI.out.2.2.1,HI.out.2.2.2.1,HI.out.2.2.2.2.1,hS8.storeE hn (f / 2)⟩
end Go.Proofs.YtmigakanbeckpaaGreatDoor
namespace Go.Proofs.YtmigakanbeckpaaGreatDoor
set_option maxRecDepth 100000
open Go.RowKit
attribute [local go_sem ↓] Go.wp_at_zero Go.wp_at_succ
theorem f_mod (k:Int) {w:World} (hT:Tab w):Calls Tryz.prog 89 #[.int .i64 k] w fun e w'=>e=.returned (.agg #[.int .u64 (L 0 (md k)),.int .u64 (L 1 (md k)),.int .u64 (L 2 (md k)),.int .u64 (L 3 (md k))])∧Below w.heap.size w w':=by
 go_enter Tryz.func89,Tryz.ntmps89
 go_wp2_with fail
 with_reducible refine Calls.mono (modOf_any k (hT.keep (K.alloc (Below.refl _ _) _))) ?_
 rintro e w1 ⟨rfl,hb1⟩
 have ⟨kr,kr0,kr1,kr2,kr3,kf0,kf1,kf2,kf3⟩:=(ArrW.new w w.heap.size rfl 24 0 0 0 0).keep hb1
 have hw1:Below w.heap.size w w1:=K.call (K.alloc (Below.refl _ w) _) hb1
 go_wp2_with fail
 exact bodyPost_ret (v:=.agg #[.int .u64 (L 0 (md k)),.int .u64 (L 1 (md k)),.int .u64 (L 2 (md k)),.int .u64 (L 3 (md k))]) (by simp [results,Tryz.results89,go_sem,kr0,kr1,kr2,kr3]) rfl ⟨rfl,K.set4 hw1 (by omega) _ _ _ _⟩
end Go.Proofs.YtmigakanbeckpaaGreatDoor
namespace Go.Proofs.YtmigakanbeckpaaGreatDoor
set_option maxRecDepth 100000
open Go.RowKit
attribute [local go_sem ↓] Go.wp_at_zero Go.wp_at_succ
theorem md_big {k:Int} (hk:0≤k∧k≤3):4<md k:=by
 rcases md_cases hk with rfl | rfl | rfl | rfl <;> decide
theorem f_inv {k a:Int} (hkk:0≤k∧k≤3) (ha:Num a) {w:World} (hT:Tab w):Calls Tryz.prog 76 #[.int .i64 k,.agg #[.int .u64 (L 0 a),.int .u64 (L 1 a),.int .u64 (L 2 a),.int .u64 (L 3 a)]] w fun e w'=>e=.returned (.agg #[.int .u64 (L 0 (pw a (md k-2) % md k)),.int .u64 (L 1 (pw a (md k-2) % md k)),.int .u64 (L 2 (pw a (md k-2) % md k)),.int .u64 (L 3 (pw a (md k-2) % md k))])∧Below w.heap.size w w':=by
 have hb:=md_big hkk
 have nm:=md_num k
 have ne:Num (md k-2):=⟨by omega,by have:=nm.hi;omega⟩
 have HS:Hid (∀ w,Calls Tryz.prog 115 #[.agg #[.int .u64 (L 0 (md k)),.int .u64 (L 1 (md k)),.int .u64 (L 2 (md k)),.int .u64 (L 3 (md k))],.agg #[.int .u64 2,.int .u64 0,.int .u64 0,.int .u64 0]] w fun e w'=>e=.returned (.tuple #[.agg #[.int .u64 (L 0 (md k-2)),.int .u64 (L 1 (md k-2)),.int .u64 (L 2 (md k-2)),.int .u64 (L 3 (md k-2))],.bool (D (md k) 2 4 == 1)])∧Below w.heap.size w w'):=by
  intro w
  have h:=sub_walk (md k) 2 w
  have b0:L 0 2=2:=by decide
  have b1:L 1 2=0:=by decide
  have b2:L 2 2=0:=by decide
  have b3:L 3 2=0:=by decide
  rw [b0,b1,b2,b3] at h
  exact h
 have HP:Hid (∀ w,Tab w→Calls Tryz.prog 116 #[.int .i64 k,.agg #[.int .u64 (L 0 a),.int .u64 (L 1 a),.int .u64 (L 2 a),.int .u64 (L 3 a)],.agg #[.int .u64 (L 0 (md k-2)),.int .u64 (L 1 (md k-2)),.int .u64 (L 2 (md k-2)),.int .u64 (L 3 (md k-2))]] w fun e w'=>e=.returned (.agg #[.int .u64 (L 0 (pw a (md k-2) % md k)),.int .u64 (L 1 (pw a (md k-2) % md k)),.int .u64 (L 2 (pw a (md k-2) % md k)),.int .u64 (L 3 (pw a (md k-2) % md k))])∧Below w.heap.size w w'):=fun w hT=>f_pow hkk ha ne hT
 have HM:Hid (∀ w,Tab w→Calls Tryz.prog 89 #[.int .i64 k] w fun e w'=>e=.returned (.agg #[.int .u64 (L 0 (md k)),.int .u64 (L 1 (md k)),.int .u64 (L 2 (md k)),.int .u64 (L 3 (md k))])∧Below w.heap.size w w'):=fun w hT=>f_mod k hT
 clear hkk ha ne nm hb
 generalize pw a (md k-2) % md k=i at *
 generalize md k-2=ex at *
 generalize md k=m at *
 generalize (D m 2 4 == 1)=u at *
 go_enter Tryz.func76,Tryz.ntmps76
 go_wp2_with fail
 with_reducible refine Calls.mono (HM.out _ (hT.keep (K.alloc (K.alloc (Below.refl _ _) _) _))) ?_
 rintro e w1 ⟨rfl,hb1⟩
 have A1:=((Arr.new w w.heap.size rfl 24 (L 0 a) (L 1 a) (L 2 a) (L 3 a)).alloc _).keep hb1
 have R1:=(ArrW.new _ (w.heap.size+1) (by simp) 24 0 0 0 0).keep hb1
 have hw1:Below w.heap.size w w1:=K.call (K.alloc (K.alloc (Below.refl _ w) _) _) hb1
 clear hb1
 go_wp2_with fail
 with_reducible refine Calls.mono (HS.out _) ?_
 rintro e w2 ⟨rfl,hb2⟩
 have A2:=(A1.keep hb2).alloc (.cells #[.int .u64 (L 0 ex),.int .u64 (L 1 ex),.int .u64 (L 2 ex),.int .u64 (L 3 ex)] 24)
 have R2:=(R1.keep hb2).alloc (.cells #[.int .u64 (L 0 ex),.int .u64 (L 1 ex),.int .u64 (L 2 ex),.int .u64 (L 3 ex)] 24)
 have E2:=Arr.new w2 w2.heap.size rfl 24 (L 0 ex) (L 1 ex) (L 2 ex) (L 3 ex)
 have hw2:Below w.heap.size w (w2.alloc (.cells #[.int .u64 (L 0 ex),.int .u64 (L 1 ex),.int .u64 (L 2 ex),.int .u64 (L 3 ex)] 24)):=K.alloc (K.call hw1 hb2) _
 have hT2:=hT.keep hw2
 clear hb2 A1 R1 hw1 hT
 have ⟨ka,ka0,ka1,ka2,ka3⟩:=A2
 have ⟨ke,ke0,ke1,ke2,ke3⟩:=E2
 go_wp2_with fail
 with_reducible refine Calls.mono (HP.out _ hT2) ?_
 clear ka ka0 ka1 ka2 ka3 ke ke0 ke1 ke2 ke3
 rintro e w3 ⟨rfl,hb3⟩
 have ⟨kr,kr0,kr1,kr2,kr3,kf0,kf1,kf2,kf3⟩:=R2.keep hb3
 have hw3:Below w.heap.size w w3:=K.call hw2 hb3
 go_wp2_with fail
 exact bodyPost_ret (v:=.agg #[.int .u64 (L 0 i),.int .u64 (L 1 i),.int .u64 (L 2 i),.int .u64 (L 3 i)]) (by simp [results,Tryz.results76,go_sem,kr0,kr1,kr2,kr3]) rfl ⟨rfl,K.set4 hw3 (by omega) _ _ _ _⟩
end Go.Proofs.YtmigakanbeckpaaGreatDoor
namespace Go.Proofs.YtmigakanbeckpaaGreatDoor
set_option maxRecDepth 100000
open Go.RowKit
def fc (x:Fin m0):List Value:=nc (x.val:Int)
theorem nz_fc:nz=fc 0:=by kernel_rfl
theorem md_m0:md 0=(m0:Int):=by kernel_rfl
theorem fin_num (x:Fin m0):Num (x.val:Int):=⟨by omega,by have:=x.isLt;unfold m0 q0 at this;unfold M;omega⟩
theorem fc_mul (x y:Fin m0):fc (x*y)=nc ((x.val:Int)*y.val % md 0):=by
 rw [fc,Fin.val_mul,Int.natCast_emod,Int.natCast_mul,md_m0]
theorem fc_add (x y:Fin m0):fc (x+y)=nc (((x.val:Int)+y.val) % md 0):=by
 rw [fc,Fin.val_add,Int.natCast_emod,Int.natCast_add,md_m0]
theorem fc_sub (x y:Fin m0):fc (x-y)=nc (((x.val:Int)-y.val) % md 0):=by
 rw [fc,md_m0]
 congr 1
 have h:=kc_sub (p:=m0) (x.val:Int) (y.val:Int)
 rw [kc_self,kc_self] at h
 rw [← h,kc_val]
theorem fc_inv (x:Fin m0):fc (fiv x)=nc (pw (x.val:Int) (md 0-2) % md 0):=by
 rw [fc,fiv,kc_val,md_m0]
 unfold pw
 rw [show ((m0:Int)-2).toNat=m0-2 by unfold m0 q0;omega]
theorem c_add {w:World} (hT:Tab w) (x y:Fin m0):Calls Tryz.prog 79 [.int .i64 0,.agg (fc x).toArray,.agg (fc y).toArray].toArray w fun e w'=>e=.returned (.agg (fc (x+y)).toArray)∧Below w.heap.size w w':=by
 rw [fc_add]
 exact f_add (k:=0) ⟨by decide,by decide⟩ (fin_num x) (fin_num y) hT
theorem c_sub {w:World} (hT:Tab w) (x y:Fin m0):Calls Tryz.prog 122 [.int .i64 0,.agg (fc x).toArray,.agg (fc y).toArray].toArray w fun e w'=>e=.returned (.agg (fc (x-y)).toArray)∧Below w.heap.size w w':=by
 rw [fc_sub]
 exact f_sub (k:=0) ⟨by decide,by decide⟩ (fin_num x) (fin_num y) hT
theorem c_mul {w:World} (hT:Tab w) (x y:Fin m0):Calls Tryz.prog 78 [.int .i64 0,.agg (fc x).toArray,.agg (fc y).toArray].toArray w fun e w'=>e=.returned (.agg (fc (x*y)).toArray)∧Below w.heap.size w w':=by
 rw [fc_mul]
 exact f_mul (k:=0) ⟨by decide,by decide⟩ (fin_num x) (fin_num y) hT
theorem c_inv {w:World} (hT:Tab w) (x:Fin m0):Calls Tryz.prog 76 [.int .i64 0,.agg (fc x).toArray].toArray w fun e w'=>e=.returned (.agg (fc (fiv x)).toArray)∧Below w.heap.size w w':=by
 rw [fc_inv]
 exact f_inv (k:=0) ⟨by decide,by decide⟩ (fin_num x) hT
theorem eq_fc (x y:Fin m0) (w:World):(Op.equalIn 10000 24 (.agg (fc x).toArray) (.agg (fc y).toArray)).run Tryz.prog w=.ok (decide (x=y)) w:=by
 rw [fc,fc,eq_nc (fin_num x) (fin_num y)]
 have:((x.val:Int)=(y.val:Int))=(x=y):=by
  apply propext
  constructor
  ·intro h;exact Fin.ext (by omega)
  ·intro h;rw [h]
 simp only [this]
theorem eq_t {x y:Fin m0} (h:x=y) (w:World):(Op.equalIn 10000 24 (.agg (fc x).toArray) (.agg (fc y).toArray)).run Tryz.prog w=.ok true w:=by rw [eq_fc,decide_eq_true h]
theorem eq_f {x y:Fin m0} (h:¬ x=y) (w:World):(Op.equalIn 10000 24 (.agg (fc x).toArray) (.agg (fc y).toArray)).run Tryz.prog w=.ok false w:=by rw [eq_fc,decide_eq_false h]
theorem eqz_t {x:Fin m0} (h:x=0) (w:World):(Op.equalIn 10000 24 (.agg (fc x).toArray) (.agg nz.toArray)).run Tryz.prog w=.ok true w:=by rw [nz_fc];exact eq_t h w
theorem eqz_f {x:Fin m0} (h:¬ x=0) (w:World):(Op.equalIn 10000 24 (.agg (fc x).toArray) (.agg nz.toArray)).run Tryz.prog w=.ok false w:=by rw [nz_fc];exact eq_f h w
end Go.Proofs.YtmigakanbeckpaaGreatDoor
namespace Go.Proofs.YtmigakanbeckpaaGreatDoor
set_option maxRecDepth 100000
def tmN (x:Fin m0):Nat→Fin m0
 | 0=>0
 | k+1=>tmN x k+x
theorem tm2 (x:Fin m0):tmN x 2=x+x:=by
 show 0+x+x=x+x
 rw [show (0:Fin m0)+x=x by grobner]
theorem tm3 (x:Fin m0):tmN x 3=x+x+x:=by
 show tmN x 2+x=x+x+x
 rw [tm2]
end Go.Proofs.YtmigakanbeckpaaGreatDoor
namespace Go.Proofs.YtmigakanbeckpaaGreatDoor
set_option maxRecDepth 100000
open Go.RowKit
theorem i24:(Tryz.prog.info? 24).map (·.size)=some 4:=by kernel_rfl
theorem i44:(Tryz.prog.info? 44).map (·.size)=some 9:=by kernel_rfl
theorem hm:Tryz.prog.follows .mixedOrders=true:=by kernel_rfl
theorem bN0:Tryz.prog.built 24 []=some nz.toArray:=by kernel_rfl
theorem bN4 (a b c d:Int):Tryz.prog.built 24 [(0,.int .u64 a),(1,.int .u64 b),(2,.int .u64 c),(3,.int .u64 d)]=some ([Value.int .u64 a]++[Value.int .u64 b]++[Value.int .u64 c]++[Value.int .u64 d]).toArray:=by kernel_rfl
theorem bP (x y:Fin m0):Tryz.prog.built 44 [(0,.agg (fc x).toArray),(1,.agg (fc y).toArray)]=some (fc x++fc y++[Value.bool false]).toArray:=by kernel_rfl
theorem bP1:Tryz.prog.built 44 [(2,.bool true)]=some (nz++nz++[Value.bool true]).toArray:=by kernel_rfl
def jc (p:P3 (Fin m0)):List Value:=fc p.x++fc p.y++fc p.z
theorem cE79 (vs:List Value):∀ w,(callFunc 79 vs.toArray).run Tryz.prog w=.ok (.enter 79 vs.toArray) w:=callFunc_enter Tryz.func79 (by kernel_rfl) (by kernel_rfl) _
theorem cE122 (vs:List Value):∀ w,(callFunc 122 vs.toArray).run Tryz.prog w=.ok (.enter 122 vs.toArray) w:=callFunc_enter Tryz.func122 (by kernel_rfl) (by kernel_rfl) _
theorem cE78 (vs:List Value):∀ w,(callFunc 78 vs.toArray).run Tryz.prog w=.ok (.enter 78 vs.toArray) w:=callFunc_enter Tryz.func78 (by kernel_rfl) (by kernel_rfl) _
theorem cE76 (vs:List Value):∀ w,(callFunc 76 vs.toArray).run Tryz.prog w=.ok (.enter 76 vs.toArray) w:=callFunc_enter Tryz.func76 (by kernel_rfl) (by kernel_rfl) _
theorem cE82 (vs:List Value):∀ w,(callFunc 82 vs.toArray).run Tryz.prog w=.ok (.enter 82 vs.toArray) w:=callFunc_enter Tryz.func82 (by kernel_rfl) (by kernel_rfl) _
theorem cE83 (vs:List Value):∀ w,(callFunc 83 vs.toArray).run Tryz.prog w=.ok (.enter 83 vs.toArray) w:=callFunc_enter Tryz.func83 (by kernel_rfl) (by kernel_rfl) _
theorem cE84 (vs:List Value):∀ w,(callFunc 84 vs.toArray).run Tryz.prog w=.ok (.enter 84 vs.toArray) w:=callFunc_enter Tryz.func84 (by kernel_rfl) (by kernel_rfl) _
theorem cE85 (vs:List Value):∀ w,(callFunc 85 vs.toArray).run Tryz.prog w=.ok (.enter 85 vs.toArray) w:=callFunc_enter Tryz.func85 (by kernel_rfl) (by kernel_rfl) _
theorem cE47 (vs:List Value):∀ w,(callFunc 47 vs.toArray).run Tryz.prog w=.ok (.enter 47 vs.toArray) w:=callFunc_enter Tryz.func47 (by kernel_rfl) (by kernel_rfl) _
theorem cE86 (vs:List Value):∀ w,(callFunc 86 vs.toArray).run Tryz.prog w=.ok (.enter 86 vs.toArray) w:=callFunc_enter Tryz.func86 (by kernel_rfl) (by kernel_rfl) _
theorem cE55 (vs:List Value):∀ w,(callFunc 55 vs.toArray).run Tryz.prog w=.ok (.enter 55 vs.toArray) w:=callFunc_enter Tryz.func55 (by kernel_rfl) (by kernel_rfl) _
theorem r_add {w:World} (hT:Tab w) (x y:Fin m0):Calls Tryz.prog 82 [.agg (fc (x)).toArray,.agg (fc (y)).toArray].toArray w fun e w'=>e=.returned (.agg (fc (x+y)).toArray)∧Below w.heap.size w w':=by
 refine enter (args:=[.agg (fc (x)).toArray,.agg (fc (y)).toArray]) Tryz.func82 rfl 8 rfl (lk rfl) (fun a h=>?_)
 refine aX h [] [eN 2 _,eN 3 _,eN 4 _] ⟨rfl,rfl,rfl,T0⟩ [(2,.ptr 2 0),(3,.ptr 3 0),(4,.ptr 4 0)] [(2,fc (x)),(3,fc (y)),(4,nz)] (fun a w h=>?_)
 refine aX h [2] [eS 5 _,eS 6 _,eS 7 _,eM 4 _] ⟨rfl,rfl,fun L u=>u_call u (gd0 rfl) _ rfl _ _ _ rfl [_,_,_] rfl (cE79 _) _ (fun w hb=>c_add (hT.keep (Bs.kp_of hb)) _ _),rfl,T0⟩ [(4,_)] [(4,fc ((x)+(y)))] (fun a w h=>?_)
 refine wp_ret ?_
 refine ret_row h 4 24 rfl (lk rfl) 4 rfl (fc ((x)+(y))) rfl _ Tryz.underlying24 rfl i24 ?_
 exact ⟨rfl,h.grows⟩
theorem r_sub {w:World} (hT:Tab w) (x y:Fin m0):Calls Tryz.prog 83 [.agg (fc (x)).toArray,.agg (fc (y)).toArray].toArray w fun e w'=>e=.returned (.agg (fc (x-y)).toArray)∧Below w.heap.size w w':=by
 refine enter (args:=[.agg (fc (x)).toArray,.agg (fc (y)).toArray]) Tryz.func83 rfl 8 rfl (lk rfl) (fun a h=>?_)
 refine aX h [] [eN 2 _,eN 3 _,eN 4 _] ⟨rfl,rfl,rfl,T0⟩ [(2,.ptr 2 0),(3,.ptr 3 0),(4,.ptr 4 0)] [(2,fc (x)),(3,fc (y)),(4,nz)] (fun a w h=>?_)
 refine aX h [2] [eS 5 _,eS 6 _,eS 7 _,eM 4 _] ⟨rfl,rfl,fun L u=>u_call u (gd0 rfl) _ rfl _ _ _ rfl [_,_,_] rfl (cE122 _) _ (fun w hb=>c_sub (hT.keep (Bs.kp_of hb)) _ _),rfl,T0⟩ [(4,_)] [(4,fc ((x)-(y)))] (fun a w h=>?_)
 refine wp_ret ?_
 refine ret_row h 4 24 rfl (lk rfl) 4 rfl (fc ((x)-(y))) rfl _ Tryz.underlying24 rfl i24 ?_
 exact ⟨rfl,h.grows⟩
theorem r_mul {w:World} (hT:Tab w) (x y:Fin m0):Calls Tryz.prog 84 [.agg (fc (x)).toArray,.agg (fc (y)).toArray].toArray w fun e w'=>e=.returned (.agg (fc (x*y)).toArray)∧Below w.heap.size w w':=by
 refine enter (args:=[.agg (fc (x)).toArray,.agg (fc (y)).toArray]) Tryz.func84 rfl 8 rfl (lk rfl) (fun a h=>?_)
 refine aX h [] [eN 2 _,eN 3 _,eN 4 _] ⟨rfl,rfl,rfl,T0⟩ [(2,.ptr 2 0),(3,.ptr 3 0),(4,.ptr 4 0)] [(2,fc (x)),(3,fc (y)),(4,nz)] (fun a w h=>?_)
 refine aX h [2] [eS 5 _,eS 6 _,eS 7 _,eM 4 _] ⟨rfl,rfl,fun L u=>u_call u (gd0 rfl) _ rfl _ _ _ rfl [_,_,_] rfl (cE78 _) _ (fun w hb=>c_mul (hT.keep (Bs.kp_of hb)) _ _),rfl,T0⟩ [(4,_)] [(4,fc ((x)*(y)))] (fun a w h=>?_)
 refine wp_ret ?_
 refine ret_row h 4 24 rfl (lk rfl) 4 rfl (fc ((x)*(y))) rfl _ Tryz.underlying24 rfl i24 ?_
 exact ⟨rfl,h.grows⟩
theorem r_times {w:World} (hT:Tab w) (x:Fin m0) (k:Nat) (hk:k<1000):Calls Tryz.prog 85 [Value.int .i64 (k:Int),.agg (fc (x)).toArray].toArray w fun e w'=>e=.returned (.agg (fc (tmN x k)).toArray)∧Below w.heap.size w w':=by
 refine enter (args:=[Value.int .i64 (k:Int),.agg (fc (x)).toArray]) Tryz.func85 rfl 16 rfl (lk rfl) (fun a h=>?_)
 refine aX h [] [eN 3 _,eN 4 _] ⟨rfl,rfl,T0⟩ [(0,.val (Value.int .i64 (k:Int))),(3,.ptr 3 0),(4,.ptr 4 0)] [(3,fc (x)),(4,nz)] (fun a w h=>?_)
 refine aX h [] [eN 5 _] ⟨rfl,T0⟩ [(0,_),(3,_),(4,_),(5,.ptr 5 0)] [(3,_),(4,_),(5,nz)] (fun a w h=>?_)
 refine wp_seq ?_
 refine aX h [] [eS 6 _] ⟨rfl,T0⟩ [(0,_),(3,_),(4,_),(5,_),(6,.val ((Value.int IntKind.i64 0)))] [(3,_),(4,_),(5,_)] (fun a w h=>?_)
 refine wp_block ?_
 refine go_loop (fun (j:Nat)=>SS.mk' [(0,.val (Value.int .i64 (k:Int))),(3,.ptr 3 0),(4,.ptr 4 0),(5,.ptr 5 0),(6,.val (Value.int .i64 ((j:Nat):Int)))] [(3,fc (x)),(4,nz),(5,fc (tmN x (j)))]) (fun j=>j≤k) (fun j=>k-j) (i:=0) (h.keep [(0,.val (Value.int .i64 (k:Int))),(3,.ptr 3 0),(4,.ptr 4 0),(5,.ptr 5 0),(6,.val (Value.int .i64 ((0:Nat):Int)))] [(3,fc (x)),(4,nz),(5,fc (tmN x (0)))] ⟨rfl,rfl,rfl,rfl,rfl,T0⟩ ⟨rfl,rfl,(congrArg some nz_fc),T0⟩ rfl) (Nat.zero_le _) (fun j a w hG h=>?_)
 by_cases hs:j<k
 ·have hs2:=hs
  refine wp_seq ?_
  refine aX h [2] [eS 7 _,eS 8 _,eS 9 (.val (Value.bool true))] ⟨rfl,rfl,fun L u=>u_bin u (gd0 rfl) _ rfl _ _ _ _ _ rfl rfl rfl (eqg_int _ _ _ _ _ _ _ _) _ (yes_of (fun w=>i_lss _ _ _ _ w) (by omega)),T0⟩ [(0,_),(3,_),(4,_),(5,_),(6,_),(9,.val (Value.bool true))] [(3,_),(4,_),(5,_)] (fun a w h=>?_)
  refine go_cond h true rfl (fun ht=>?_) (fun hf=>?_)
  case refine_2=>cases hf
  refine wp_skip ?_
  refine then_norm ?_
  refine wp_seq ?_
  refine wp_block ?_
  refine aE h [2] [eS 12 _,eS 13 _,eS 14 _,eM 5 _] ⟨rfl,rfl,fun L u=>u_call u (gd0 rfl) _ rfl _ _ _ rfl [_,_] rfl (cE82 _) _ (fun w hb=>r_add (hT.keep (Bs.kp_of hb)) _ _),rfl,T0⟩ [(0,_),(3,_),(4,_),(5,_),(6,_)] [(3,_),(4,_),(5,fc ((tmN x (j))+(x)))] (fun a w h=>?_)
  refine blk_norm ?_
  refine then_norm ?_
  refine aE h [1] [eS 10 _,eS 11 (.val (Value.int .i64 ((j+1:Nat):Int))),eS 6 _] ⟨rfl,fun L u=>u_bin u (gd0 rfl) _ rfl _ _ _ _ _ rfl rfl rfl (eqg_int _ _ _ _ _ _ _ _) _ (fun w=>i_add _ _ _ _ (by omega) (by omega) w),rfl,T0⟩ [(0,_),(3,_),(4,_),(5,_),(6,.val (Value.int .i64 ((j+1:Nat):Int)))] [(3,_),(4,_),(5,_)] (fun a w h=>?_)
  refine then_norm ?_
  exact ⟨j+1,(by omega),(by omega),h.keep [(0,.val (Value.int .i64 (k:Int))),(3,.ptr 3 0),(4,.ptr 4 0),(5,.ptr 5 0),(6,.val (Value.int .i64 ((j+1:Nat):Int)))] [(3,fc (x)),(4,nz),(5,fc (tmN x (j+1)))] ⟨rfl,rfl,rfl,rfl,rfl,trivial⟩ ⟨rfl,rfl,rfl,trivial⟩ rfl⟩
 ·have hs2:=hs
  refine wp_seq ?_
  refine aX h [2] [eS 7 _,eS 8 _,eS 9 (.val (Value.bool false))] ⟨rfl,rfl,fun L u=>u_bin u (gd0 rfl) _ rfl _ _ _ _ _ rfl rfl rfl (eqg_int _ _ _ _ _ _ _ _) _ (no_of (fun w=>i_lss _ _ _ _ w) (by omega)),T0⟩ [(0,_),(3,_),(4,_),(5,_),(6,_),(9,.val (Value.bool false))] [(3,_),(4,_),(5,_)] (fun a w h=>?_)
  refine go_cond h false rfl (fun ht=>?_) (fun hf=>?_)
  case refine_1=>cases ht
  refine wp_exit ?_
  refine then_exit ?_
  refine then_exit ?_
  refine blk_exit ?_
  refine then_norm ?_
  refine aX h [] [eS 15 _,eM 4 _] ⟨rfl,rfl,T0⟩ [(4,_)] [(4,fc (tmN x (j)))] (fun a w h=>?_)
  refine wp_ret ?_
  refine ret_row h 4 24 rfl (lk rfl) 4 rfl (fc (tmN x (j))) rfl _ Tryz.underlying24 rfl i24 ?_
  exact ⟨by rw [show j=k by omega],h.grows⟩
theorem r_None {w:World} :Calls Tryz.prog 47 [].toArray w fun e w'=>e=.returned (.agg (nz++nz++[Value.bool true]).toArray)∧Below w.heap.size w w':=by
 refine enter (args:=[]) Tryz.func47 rfl 2 rfl (lk rfl) (fun a h=>?_)
 refine aX h [] [eN 0 _] ⟨rfl,T0⟩ [(0,.ptr 0 0)] [(0,nz++nz++[Value.bool false])] (fun a w h=>?_)
 refine aX h [0] [eS 1 (.val (.agg (nz++nz++[Value.bool true]).toArray)),eM 0 _] ⟨fun L u=>u_build u (gd0 rfl) 1 rfl 44 #[(2,(.const (.bool true)))] rfl [(2,Value.bool true)] rfl (nz++nz++[Value.bool true]) (bP1),rfl,T0⟩ [(0,_)] [(0,nz++nz++[Value.bool true])] (fun a w h=>?_)
 refine wp_ret ?_
 refine ret_row h 0 44 rfl (lk rfl) 0 rfl (nz++nz++[Value.bool true]) rfl _ Tryz.underlying44 rfl i44 ?_
 exact ⟨rfl,h.grows⟩
theorem fc_wb:fc wb=[Value.int .u64 4309448131093880907]++[Value.int .u64 7285987128567378166]++[Value.int .u64 12964664127075681980]++[Value.int .u64 6540974713487397863]:=by kernel_rfl
theorem r_B {w:World} :Calls Tryz.prog 86 [].toArray w fun e w'=>e=.returned (.agg (fc wb).toArray)∧Below w.heap.size w w':=by
 refine enter (args:=[]) Tryz.func86 rfl 2 rfl (lk rfl) (fun a h=>?_)
 refine aX h [] [eN 0 _] ⟨rfl,T0⟩ [(0,.ptr 0 0)] [(0,nz)] (fun a w h=>?_)
 refine aX h [0] [eS 1 (.val (.agg ([(Value.int IntKind.u64 4309448131093880907)]++[(Value.int IntKind.u64 7285987128567378166)]++[(Value.int IntKind.u64 12964664127075681980)]++[(Value.int IntKind.u64 6540974713487397863)]).toArray)),eM 0 _] ⟨fun L u=>u_build u (gd0 rfl) 1 rfl 24 #[(0,(.const (.int .u64 4309448131093880907))),(1,(.const (.int .u64 7285987128567378166))),(2,(.const (.int .u64 12964664127075681980))),(3,(.const (.int .u64 6540974713487397863)))] rfl [(0,(Value.int IntKind.u64 4309448131093880907)),(1,(Value.int IntKind.u64 7285987128567378166)),(2,(Value.int IntKind.u64 12964664127075681980)),(3,(Value.int IntKind.u64 6540974713487397863))] rfl ([(Value.int IntKind.u64 4309448131093880907)]++[(Value.int IntKind.u64 7285987128567378166)]++[(Value.int IntKind.u64 12964664127075681980)]++[(Value.int IntKind.u64 6540974713487397863)]) (bN4 _ _ _ _),rfl,T0⟩ [(0,_)] [(0,[(Value.int IntKind.u64 4309448131093880907)]++[(Value.int IntKind.u64 7285987128567378166)]++[(Value.int IntKind.u64 12964664127075681980)]++[(Value.int IntKind.u64 6540974713487397863)])] (fun a w h=>?_)
 refine wp_ret ?_
 refine ret_row h 0 24 rfl (lk rfl) 0 rfl ([(Value.int IntKind.u64 4309448131093880907)]++[(Value.int IntKind.u64 7285987128567378166)]++[(Value.int IntKind.u64 12964664127075681980)]++[(Value.int IntKind.u64 6540974713487397863)]) rfl _ Tryz.underlying24 rfl i24 ?_
 exact ⟨by rw [fc_wb],h.grows⟩
end Go.Proofs.YtmigakanbeckpaaGreatDoor
