/- The statements' own question whether the program does anything is answered with yes; the functions at numbers that are written out. What limb.Half and limb.Bit answer, for all numbers: half of it, rounded down, and the bit that stands for 2^i. What field.Pow answers: the power, bit by bit from the lowest on. What field.Modulus answers. What field.Inv answers: the number that makes 1 with the given one, by Fermat. Numbers modulo the modulus 2 as they lie in memory, and what the program's own sums and products do with them. What the document's own Bit answers, for all numbers: the same as limb's. What the document's own Less answers, for all numbers. What codec.Below and the document's own answer. The types of layer 9, and what the small functions of the document answer. -/
import Derived.Test.YtjaahnlpnkcimaaGreatDoorVR21
import Derived.Test.YtjaahnlpnkcimaaGreatDoorVR11
import Derived.Test.YtjaahnlpnkcimaaGreatDoorVR18
import Derived.Test.YtjaahnlpnkcimaaGreatDoorVR20
import Derived.Test.YtjaahnlpnkcimaaGreatDoorVR19
import Derived.Test.YtjaahnlpnkcimaaGreatDoorVR02
import Derived.Test.YtjaahnlpnkcimaaGreatDoorVR17
import Derived.WalkSmall
import Derived.Laws.BitsAllLaws
import Derived.Deep.LoopGhost
import Derived.Deep.DeepCutAuto
import Derived.Deep.RegionHeld3
set_option maxRecDepth 100000
set_option maxHeartbeats 8000000
namespace Go.Proofs.YtjaahnlpnkcimaaGreatDoor
set_option maxRecDepth 100000
open Go.RowKit
attribute [local go_sem ↓] Go.wp_at_zero Go.wp_at_succ
attribute [local go_sem] eq4
theorem mul_mod_l (x b m:Int):(x % m*b) % m=(x*b) % m:=by rw [Int.mul_emod,Int.emod_emod,← Int.mul_emod]
theorem mul_mod_r (x b m:Int):(x*(b % m)) % m=(x*b) % m:=by rw [Int.mul_emod,Int.emod_emod,← Int.mul_emod]
theorem num_f {k a:Int} (hkk:0≤k∧k≤3):Num (a % md k):=num_mod (md_num k) (md_pos hkk)
end Go.Proofs.YtjaahnlpnkcimaaGreatDoor
namespace Go.Proofs.YtjaahnlpnkcimaaGreatDoor
set_option maxRecDepth 100000
open Go.RowKit
attribute [local go_sem ↓] Go.wp_at_zero Go.wp_at_succ
theorem or_top (x d:Int) (hx:0≤x) (hx2:x<18446744073709551616) (hd:0≤d) (hd2:d≤1):bits .or .u64 (x / 2) (IntKind.u64.wrap (d*9223372036854775808))=x / 2+d*9223372036854775808:=by
 rw [IntWalk.u64_in _ (by omega),u64_or _ _ (by omega) (by omega) (by omega) (by omega)]
 obtain ⟨n,hn⟩:=Int.eq_ofNat_of_zero_le (show 0≤x / 2 by omega)
 obtain ⟨m,rfl⟩:=Int.eq_ofNat_of_zero_le hd
 rw [hn]
 have hlt:n<2 ^ 63:=by omega
 have e1:((m:Int)*9223372036854775808).toNat=2 ^ 63*m:=by omega
 rw [e1,Int.toNat_natCast,Nat.or_comm,← Nat.two_pow_add_eq_or_of_lt hlt]
 omega
theorem or_zero (x:Int) (hx:0≤x) (hx2:x<18446744073709551616):bits .or .u64 (x / 2) 0=x / 2:=by
 have h:=or_top x 0 hx hx2 (by omega) (by omega)
 rw [Int.zero_mul,IntWalk.u64_in _ (by omega)] at h
 omega
theorem half3 {a:Int} (h:Num a):bits .or .u64 (L 3 a / 2) 0=L 3 (a / 2):=by
 rw [or_zero _ (L_lo _ _) (L_hi _ _),L3,L3]
 obtain ⟨h1,h2⟩:=h
 unfold M at h2
 omega
theorem half2 (a:Int):bits .or .u64 (L 2 a / 2) (IntKind.u64.wrap (bits .and .u64 (L 3 a) 1*9223372036854775808))=L 2 (a / 2):=by
 have h1:=L_lo 3 a
 have h2:=L_hi 3 a
 rw [and_one_u64 _ h1 (by omega),or_top _ _ (L_lo _ _) (L_hi _ _) (by omega) (by omega),L3,L2,L2]
 omega
theorem half1 (a:Int):bits .or .u64 (L 1 a / 2) (IntKind.u64.wrap (bits .and .u64 (L 2 a) 1*9223372036854775808))=L 1 (a / 2):=by
 have h1:=L_lo 2 a
 have h2:=L_hi 2 a
 rw [and_one_u64 _ h1 (by omega),or_top _ _ (L_lo _ _) (L_hi _ _) (by omega) (by omega),L2,L1,L1]
 omega
theorem half0 (a:Int):bits .or .u64 (L 0 a / 2) (IntKind.u64.wrap (bits .and .u64 (L 1 a) 1*9223372036854775808))=L 0 (a / 2):=by
 have h1:=L_lo 1 a
 have h2:=L_hi 1 a
 rw [and_one_u64 _ h1 (by omega),or_top _ _ (L_lo _ _) (L_hi _ _) (by omega) (by omega),L1,L0,L0]
 omega
theorem half_any {a:Int} (h:Num a) (w:World) :
  Calls Tryz.prog 95 #[.agg #[.int .u64 (L 0 a),.int .u64 (L 1 a),.int .u64 (L 2 a),.int .u64 (L 3 a)]] w fun e w' =>
   e=.returned (.agg #[.int .u64 (L 0 (a / 2)),.int .u64 (L 1 (a / 2)),.int .u64 (L 2 (a / 2)),.int .u64 (L 3 (a / 2))])∧Below w.heap.size w w':=by
 have a0:=L_lo 0 a
 have b0:=L_hi 0 a
 have a1:=L_lo 1 a
 have b1:=L_hi 1 a
 have a2:=L_lo 2 a
 have b2:=L_hi 2 a
 have a3:=L_lo 3 a
 have b3:=L_hi 3 a
 go_enter Tryz.func95,Tryz.ntmps95
 go_wp2
 refine wp_loop_rounds 5 ?_
 rw [rounds_succ]
 go_wp2
 rw [half3 h,rounds_succ]
 go_wp2
 rw [half2,rounds_succ]
 go_wp2
 rw [half1,rounds_succ]
 go_wp2
 rw [half0,rounds_succ]
 go_wp2
 go_returns
 refine ⟨rfl,?_⟩
 go_grown
def bt (a i:Int):Int:=if 0≤i∧i<256 then a / 2 ^ i.toNat % 2 else 0
theorem bt_in (a i:Int) (h0:0≤i) (h1:i<256):bt a i=a / 2 ^ i.toNat % 2:=by unfold bt;rw [if_pos ⟨h0,h1⟩]
theorem bt_low (a i:Int) (h:i<0):bt a i=0:=by unfold bt;rw [if_neg (by omega)]
theorem bt_high (a i:Int) (h:256≤i):bt a i=0:=by unfold bt;rw [if_neg (by omega)]
theorem div_pow_mod (x:Int) (r s:Nat):x % 2 ^ (r+s+1) / 2 ^ r % 2=x / 2 ^ r % 2:=by
 have hp:(0:Int)<2 ^ r:=Int.pow_pos (by omega)
 have e:x % 2 ^ (r+s+1)=x-2 ^ r*(2*(2 ^ s*(x / 2 ^ (r+s+1)))):=by
  rw [Int.emod_def,Int.pow_succ,Int.pow_add]
  generalize x / ((2:Int) ^ r*2 ^ s*2)=q
  congr 1
  rw [Int.mul_assoc,Int.mul_assoc,Int.mul_left_comm ((2:Int) ^ s) 2 q]
 rw [e,show x-2 ^ r*(2*(2 ^ s*(x / 2 ^ (r+s+1))))=x+2 ^ r*(-(2*(2 ^ s*(x / 2 ^ (r+s+1))))) by rw [Int.mul_neg];omega,Int.add_mul_ediv_left _ _ (by omega)]
 generalize (2:Int) ^ s*(x / 2 ^ (r+s+1))=z
 omega
theorem word_bit (a:Int) (k r:Nat) (hr:r<64):L k a / 2 ^ r % 2=a / 2 ^ (64*k+r) % 2:=by
 obtain ⟨s,hs⟩:∃ s,64=r+s+1:=⟨63-r,by omega⟩
 have eB:B=2 ^ (r+s+1):=by rw [← hs];rfl
 have eK:B ^ k=2 ^ (64*k):=by rw [Int.pow_mul];rfl
 unfold L
 rw [eK,eB,div_pow_mod,Int.ediv_ediv_of_nonneg (Int.le_of_lt (Int.pow_pos (by omega))),← Int.pow_add]
theorem bit_word (a i:Int) (k:Nat) (h0:0≤i) (h1:i<256) (hq:i / 64=k):wrap64 (bits BinOp.and IntKind.u64 (L k a / 2 ^ (i % 64).toNat) 1)=bt a i:=by
 have hp:(0:Int)<2 ^ (i % 64).toNat:=Int.pow_pos (by omega)
 have l1:=L_lo k a
 have l2:=L_hi k a
 have d1:0≤L k a / 2 ^ (i % 64).toNat:=Int.ediv_nonneg l1 (Int.le_of_lt hp)
 have d2:L k a / 2 ^ (i % 64).toNat≤L k a:=Int.ediv_le_self _ l1
 rw [and_one_u64 _ d1 (by omega),IntWalk.wrap64_in _ (by omega),word_bit _ _ _ (by omega),bt_in _ _ h0 h1]
 rw [show 64*k+(i % 64).toNat=i.toNat by omega]
theorem bit_in0 (a i:Int) (h0:0≤i) (h1:i<256) (hq:i / 64=0) (w:World) :
  Calls Tryz.prog 54 #[.agg #[.int .u64 (L 0 a),.int .u64 (L 1 a),.int .u64 (L 2 a),.int .u64 (L 3 a)],.int .i64 i] w fun e w' =>
   e=.returned (.int .i64 (bt a i))∧Below w.heap.size w w':=by
 have l1:=L_lo 0 a
 have l2:=L_hi 0 a
 go_enter Tryz.func54,Tryz.ntmps54
 go_wp2
 go_ret
 refine ⟨congrArg (fun x=>Ending.returned (.int .i64 x)) (bit_word a i 0 h0 h1 hq),?_⟩
 go_grown
theorem bit_in1 (a i:Int) (h0:0≤i) (h1:i<256) (hq:i / 64=1) (w:World) :
  Calls Tryz.prog 54 #[.agg #[.int .u64 (L 0 a),.int .u64 (L 1 a),.int .u64 (L 2 a),.int .u64 (L 3 a)],.int .i64 i] w fun e w' =>
   e=.returned (.int .i64 (bt a i))∧Below w.heap.size w w':=by
 have l1:=L_lo 1 a
 have l2:=L_hi 1 a
 go_enter Tryz.func54,Tryz.ntmps54
 go_wp2
 go_ret
 refine ⟨congrArg (fun x=>Ending.returned (.int .i64 x)) (bit_word a i 1 h0 h1 hq),?_⟩
 go_grown
theorem bit_in2 (a i:Int) (h0:0≤i) (h1:i<256) (hq:i / 64=2) (w:World) :
  Calls Tryz.prog 54 #[.agg #[.int .u64 (L 0 a),.int .u64 (L 1 a),.int .u64 (L 2 a),.int .u64 (L 3 a)],.int .i64 i] w fun e w' =>
   e=.returned (.int .i64 (bt a i))∧Below w.heap.size w w':=by
 have l1:=L_lo 2 a
 have l2:=L_hi 2 a
 go_enter Tryz.func54,Tryz.ntmps54
 go_wp2
 go_ret
 refine ⟨congrArg (fun x=>Ending.returned (.int .i64 x)) (bit_word a i 2 h0 h1 hq),?_⟩
 go_grown
theorem bit_in3 (a i:Int) (h0:0≤i) (h1:i<256) (hq:i / 64=3) (w:World) :
  Calls Tryz.prog 54 #[.agg #[.int .u64 (L 0 a),.int .u64 (L 1 a),.int .u64 (L 2 a),.int .u64 (L 3 a)],.int .i64 i] w fun e w' =>
   e=.returned (.int .i64 (bt a i))∧Below w.heap.size w w':=by
 have l1:=L_lo 3 a
 have l2:=L_hi 3 a
 go_enter Tryz.func54,Tryz.ntmps54
 go_wp2
 go_ret
 refine ⟨congrArg (fun x=>Ending.returned (.int .i64 x)) (bit_word a i 3 h0 h1 hq),?_⟩
 go_grown
theorem bit_below (a i:Int) (h0:i<0) (w:World) :
  Calls Tryz.prog 54 #[.agg #[.int .u64 (L 0 a),.int .u64 (L 1 a),.int .u64 (L 2 a),.int .u64 (L 3 a)],.int .i64 i] w fun e w' =>
   e=.returned (.int .i64 0)∧Below w.heap.size w w':=by
 go_enter Tryz.func54,Tryz.ntmps54
 go_wp2
 go_ret
 refine ⟨rfl,?_⟩
 go_grown
theorem bit_above (a i:Int) (h0:256≤i) (w:World) :
  Calls Tryz.prog 54 #[.agg #[.int .u64 (L 0 a),.int .u64 (L 1 a),.int .u64 (L 2 a),.int .u64 (L 3 a)],.int .i64 i] w fun e w' =>
   e=.returned (.int .i64 0)∧Below w.heap.size w w':=by
 go_enter Tryz.func54,Tryz.ntmps54
 go_wp2
 go_ret
 refine ⟨rfl,?_⟩
 go_grown
theorem bit_any (a i:Int) (w:World) :
  Calls Tryz.prog 54 #[.agg #[.int .u64 (L 0 a),.int .u64 (L 1 a),.int .u64 (L 2 a),.int .u64 (L 3 a)],.int .i64 i] w fun e w' =>
   e=.returned (.int .i64 (bt a i))∧Below w.heap.size w w':=by
 by_cases h0:i<0
 ·rw [bt_low a i h0];exact bit_below a i h0 w
 by_cases h1:256≤i
 ·rw [bt_high a i h1];exact bit_above a i h1 w
 have hq:i / 64=0∨i / 64=1∨i / 64=2∨i / 64=3:=by omega
 rcases hq with hq | hq | hq | hq
 ·exact bit_in0 a i (by omega) (by omega) hq w
 ·exact bit_in1 a i (by omega) (by omega) hq w
 ·exact bit_in2 a i (by omega) (by omega) hq w
 ·exact bit_in3 a i (by omega) (by omega) hq w
end Go.Proofs.YtjaahnlpnkcimaaGreatDoor
namespace Go.Proofs.YtjaahnlpnkcimaaGreatDoor
set_option maxRecDepth 100000
open Go.RowKit
attribute [local go_sem ↓] Go.wp_at_zero Go.wp_at_succ
def pw (x e:Int):Int:=x ^ e.toNat
theorem pw_zero (x:Int):pw x 0=1:=by simp [pw]
theorem pow_mod_any (x m:Int):∀ k:Nat,(x % m) ^ k % m=x ^ k % m
 | 0=>by simp
 | k+1=>by rw [Int.pow_succ,Int.pow_succ,mul_mod_r,Int.mul_emod,pow_mod_any x m k,← Int.mul_emod]
theorem pw_mod (x e m:Int):pw (x % m) e % m=pw x e % m:=pow_mod_any x m e.toNat
theorem pw_even {x e m:Int} (h:e % 2=0):pw x e % m=pw (x*x % m) (e / 2) % m:=by
 rw [pw_mod]
 unfold pw
 have e1:e.toNat=2*(e / 2).toNat:=by omega
 rw [e1,Int.pow_mul,Int.pow_succ,Int.pow_succ,Int.pow_zero,Int.one_mul]
theorem pw_odd {x e m:Int} (h0:0<e) (h:e % 2=1):pw x e % m=x*pw (x*x % m) (e / 2) % m:=by
 rw [← mul_mod_r,pw_mod,mul_mod_r]
 unfold pw
 have e1:e.toNat=2*(e / 2).toNat+1:=by omega
 rw [e1,Int.pow_succ,Int.pow_mul,Int.pow_succ,Int.pow_succ,Int.pow_zero,Int.one_mul,Int.mul_comm]
theorem inv_even {x y e m:Int} (h:e % 2=0):y*pw (x*x % m) (e / 2) % m=y*pw x e % m:=by
 rw [← mul_mod_r y (pw x e),pw_even h,mul_mod_r]
theorem inv_odd {x y e m:Int} (h0:0<e) (h:e % 2=1):(y*x % m)*pw (x*x % m) (e / 2) % m=y*pw x e % m:=by
 rw [mul_mod_l,← mul_mod_r y (pw x e),pw_odd h0 h,mul_mod_r,Int.mul_assoc]
theorem bt_0 (f:Int):bt f 0=f % 2:=by unfold bt;simp
theorem words_not {f:Int} (h:Num f) (hf:f≠0):(L 0 f == 0 && (L 1 f == 0 && (L 2 f == 0 && (L 3 f == 0 && true))))=false:=by
 cases hb:(L 0 f == 0 && (L 1 f == 0 && (L 2 f == 0 && (L 3 f == 0 && true)))) with
 | false=>rfl
 | true =>
  simp only [Bool.and_eq_true,beq_iff_eq,and_true] at hb
  have:=num_val h
  omega
structure PowS (w wr:World) (n:Nat) (x f y:Int):Prop where
 below:Below w.heap.size w wr
 X:ArrW wr w.heap.size (L 0 x) (L 1 x) (L 2 x) (L 3 x)
 E:ArrW wr (w.heap.size+1) (L 0 f) (L 1 f) (L 2 f) (L 3 f)
 R:ArrW wr (w.heap.size+1+1) 0 0 0 0
 P:ArrW wr n (L 0 y) (L 1 y) (L 2 y) (L 3 y)
theorem PowS.call {w wr w1:World} {n:Nat} {x f y:Int} (h:PowS w wr n x f y) (hk:Below wr.heap.size wr w1):PowS w w1 n x f y :=
 ⟨K.call h.below hk,h.X.keep hk,h.E.keep hk,h.R.keep hk,h.P.keep hk⟩
theorem PowS.storeP {w wr:World} {n:Nat} {x f y:Int} (h:PowS w wr n x f y) (hn:w.heap.size+1+1<n) (z:Int):PowS w ((((wr.setCell ⟨n,0,none⟩ (.int .u64 (L 0 z))).setCell ⟨n,1,none⟩ (.int .u64 (L 1 z))).setCell ⟨n,2,none⟩ (.int .u64 (L 2 z))).setCell ⟨n,3,none⟩ (.int .u64 (L 3 z))) n x f z :=
 ⟨K.set4 h.below (by omega) _ _ _ _,h.X.set4 (by omega) _ _ _ _,h.E.set4 (by omega) _ _ _ _,h.R.set4 (by omega) _ _ _ _,h.P.stored _ _ _ _⟩
theorem PowS.storeA {w wr:World} {n:Nat} {x f y:Int} (h:PowS w wr n x f y) (hn:w.heap.size+1+1<n) (z:Int):PowS w ((((wr.setCell ⟨w.heap.size,0,none⟩ (.int .u64 (L 0 z))).setCell ⟨w.heap.size,1,none⟩ (.int .u64 (L 1 z))).setCell ⟨w.heap.size,2,none⟩ (.int .u64 (L 2 z))).setCell ⟨w.heap.size,3,none⟩ (.int .u64 (L 3 z))) n z f y :=
 ⟨K.set4 h.below (by omega) _ _ _ _,h.X.stored _ _ _ _,h.E.set4 (by omega) _ _ _ _,h.R.set4 (by omega) _ _ _ _,h.P.set4 (by omega) _ _ _ _⟩
theorem PowS.storeE {w wr:World} {n:Nat} {x f y:Int} (h:PowS w wr n x f y) (hn:w.heap.size+1+1<n) (z:Int):PowS w ((((wr.setCell ⟨(w.heap.size+1),0,none⟩ (.int .u64 (L 0 z))).setCell ⟨(w.heap.size+1),1,none⟩ (.int .u64 (L 1 z))).setCell ⟨(w.heap.size+1),2,none⟩ (.int .u64 (L 2 z))).setCell ⟨(w.heap.size+1),3,none⟩ (.int .u64 (L 3 z))) n x z y :=
 ⟨K.set4 h.below (by omega) _ _ _ _,h.X.set4 (by omega) _ _ _ _,h.E.stored _ _ _ _,h.R.set4 (by omega) _ _ _ _,h.P.set4 (by omega) _ _ _ _⟩
theorem f_pow {k a ex:Int} (hkk:0≤k∧k≤3) (ha:Num a) (he:Num ex) {w:World} (hT:Tab w) :
  Calls Tryz.prog 73 #[.int .i64 k,.agg #[.int .u64 (L 0 a),.int .u64 (L 1 a),.int .u64 (L 2 a),.int .u64 (L 3 a)],.agg #[.int .u64 (L 0 ex),.int .u64 (L 1 ex),.int .u64 (L 2 ex),.int .u64 (L 3 ex)]] w fun e w'=>e=.returned (.agg #[.int .u64 (L 0 (pw a ex % md k)),.int .u64 (L 1 (pw a ex % md k)),.int .u64 (L 2 (pw a ex % md k)),.int .u64 (L 3 (pw a ex % md k))])∧Below w.heap.size w w':=by
 have nm:=md_num k
 have hp:=md_pos hkk
 have HF:Hid (∀ w,Calls Tryz.prog 47 #[.agg #[.int .u64 (L 0 (md k)),.int .u64 (L 1 (md k)),.int .u64 (L 2 (md k)),.int .u64 (L 3 (md k))],.agg #[.int .u64 1,.int .u64 0,.int .u64 0,.int .u64 0]] w fun e w'=>e=.returned (.agg #[.int .u64 (L 0 (1 % md k)),.int .u64 (L 1 (1 % md k)),.int .u64 (L 2 (1 % md k)),.int .u64 (L 3 (1 % md k))])∧Below w.heap.size w w'):=by
  intro w
  have h:=fold_any (a:=1) hkk ⟨by decide,by decide⟩ w
  have b0:L 0 1=1:=by decide
  have b1:L 1 1=0:=by decide
  have b2:L 2 1=0:=by decide
  have b3:L 3 1=0:=by decide
  rw [b0,b1,b2,b3] at h
  exact h
 have HPR:Hid (∀ a b w,Num a→Num b→Calls Tryz.prog 50 #[.agg #[.int .u64 (L 0 (md k)),.int .u64 (L 1 (md k)),.int .u64 (L 2 (md k)),.int .u64 (L 3 (md k))],.agg #[.int .u64 (L 0 a),.int .u64 (L 1 a),.int .u64 (L 2 a),.int .u64 (L 3 a)],.agg #[.int .u64 (L 0 b),.int .u64 (L 1 b),.int .u64 (L 2 b),.int .u64 (L 3 b)]] w fun e w'=>e=.returned (.agg #[.int .u64 (L 0 (a*b % md k)),.int .u64 (L 1 (a*b % md k)),.int .u64 (L 2 (a*b % md k)),.int .u64 (L 3 (a*b % md k))])∧Below w.heap.size w w'):=fun a b w ha hb=>prod_any hkk ha hb w
 have HMO:Hid (∀ w,Tab w→Calls Tryz.prog 45 #[.int .i64 k] w fun e w'=>e=.returned (.agg #[.int .u64 (L 0 (md k)),.int .u64 (L 1 (md k)),.int .u64 (L 2 (md k)),.int .u64 (L 3 (md k))])∧Below w.heap.size w w'):=fun w hT=>modOf_any k hT
 have H0:Hid (Num a∧Num ex∧0≤1 % md k∧1 % md k<md k∧Num (1 % md k)):=⟨ha,he,Int.emod_nonneg _ (by omega),Int.emod_lt_of_pos _ hp,num_f hkk⟩
 have HNM:Hid (Num (md k)∧0<md k):=⟨nm,hp⟩
 clear ha he hp nm hkk
 generalize md k=m at *
 go_enter Tryz.func73,Tryz.ntmps73
 go_wp2_with fail
 with_reducible refine Calls.mono (HMO.out _ (hT.keep (K.alloc (K.alloc (K.alloc (Below.refl _ _) _) _) _))) ?_
 rintro e w1 ⟨rfl,hb1⟩
 clear HMO
 have X1:=(((ArrW.new w w.heap.size rfl 34 (L 0 a) (L 1 a) (L 2 a) (L 3 a)).alloc _).alloc _).keep hb1 |>.alloc (.cells #[.int .u64 (L 0 m),.int .u64 (L 1 m),.int .u64 (L 2 m),.int .u64 (L 3 m)] 67)
 have E1:=((ArrW.new _ (w.heap.size+1) (by simp) 34 (L 0 ex) (L 1 ex) (L 2 ex) (L 3 ex)).alloc _).keep hb1 |>.alloc (.cells #[.int .u64 (L 0 m),.int .u64 (L 1 m),.int .u64 (L 2 m),.int .u64 (L 3 m)] 67)
 have R1:=(ArrW.new _ (w.heap.size+1+1) (by simp) 34 0 0 0 0).keep hb1 |>.alloc (.cells #[.int .u64 (L 0 m),.int .u64 (L 1 m),.int .u64 (L 2 m),.int .u64 (L 3 m)] 67)
 have M1:=Arr.new w1 w1.heap.size rfl 67 (L 0 m) (L 1 m) (L 2 m) (L 3 m)
 have hw1:Below w.heap.size w (w1.alloc (.cells #[.int .u64 (L 0 m),.int .u64 (L 1 m),.int .u64 (L 2 m),.int .u64 (L 3 m)] 67)):=K.alloc (K.call (K.alloc (K.alloc (K.alloc (Below.refl _ w) _) _) _) hb1) _
 clear hb1 hT
 go_wp2_with fail
 with_reducible refine Calls.mono (HF.out _) ?_
 rintro e w2 ⟨rfl,hb2⟩
 generalize h1m:1 % m=y0 at *
 have HY:Hid (1 % m=y0):=h1m
 clear h1m
 have hS1:PowS w (w2.alloc (.cells #[.int .u64 (L 0 y0),.int .u64 (L 1 y0),.int .u64 (L 2 y0),.int .u64 (L 3 y0)] 34)) w2.heap.size a ex y0 :=
  ⟨K.alloc (K.call hw1 hb2) _,(X1.keep hb2).alloc _,(E1.keep hb2).alloc _,(R1.keep hb2).alloc _,ArrW.new w2 w2.heap.size rfl 34 _ _ _ _⟩
 have hn:w.heap.size+1+1<w2.heap.size:=by have:=R1.lt;have:=hb2.size;omega
 clear hb2 X1 E1 R1 M1 hw1 HF
 go_wp2_with fail
 go_loopg [] ex.toNat (fun g wr=>∃ x y f:Int,g=f.toNat∧Num f∧Num x∧Num y∧(0≤y∧y<m)∧y*pw x f % m=pw a ex % m∧PowS w wr w2.heap.size x f y)
 case atStart =>
  have h:=H0.out
  exact ⟨a,y0,ex,rfl,h.2.1,h.1,h.2.2.2.2,⟨h.2.2.1,h.2.2.2.1⟩,by rw [← HY.out,mul_mod_l,Int.one_mul],hS1⟩
 case round =>
  clear hS1
  obtain ⟨x,y,f,hg,nf,nx,ny,hy,hinv,hS⟩:=hrel
  have hS0:=hS
  obtain ⟨hbw,⟨al,a0,a1,a2,a3,af0,af1,af2,af3⟩,⟨el,e0,e1,e2,e3,ef0,ef1,ef2,ef3⟩,⟨rl,r0,r1,r2,r3,rf0,rf1,rf2,rf3⟩,⟨pl,p0,p1,p2,p3,pf0,pf1,pf2,pf3⟩⟩:=hS0
  by_cases hf:f=0
  ·have HV:Hid (y=pw a ex % m):=by rw [← hinv,hf,pw_zero,Int.mul_one];exact (Int.emod_eq_of_lt hy.1 hy.2).symm
   have HE:∀ w,(Op.equalIn 10000 34 (.agg #[.int .u64 (L 0 f),.int .u64 (L 1 f),.int .u64 (L 2 f),.int .u64 (L 3 f)]) (.agg #[.int .u64 0,.int .u64 0,.int .u64 0,.int .u64 0])).run Tryz.prog w=.ok true w:=by
    intro w;rw [eq4,hf,L_zero,L_zero,L_zero,L_zero];rfl
   clear hg hinv hy nf nx ny hf
   go_wp2_with fail
   refine bodyPost_ret (v:=.agg #[.int .u64 (L 0 y),.int .u64 (L 1 y),.int .u64 (L 2 y),.int .u64 (L 3 y)]) (by simp [results,Tryz.results73,go_sem,r0,r1,r2,r3]) rfl ⟨by rw [← HV.out],K.set4 hS.below (by omega) _ _ _ _⟩
  ·have HE:∀ w,(Op.equalIn 10000 34 (.agg #[.int .u64 (L 0 f),.int .u64 (L 1 f),.int .u64 (L 2 f),.int .u64 (L 3 f)]) (.agg #[.int .u64 0,.int .u64 0,.int .u64 0,.int .u64 0])).run Tryz.prog w=.ok false w:=by
    intro w;rw [eq4,words_not nf hf]
   have hm:=HNM.out
   have HH:Hid (∀ w,Calls Tryz.prog 95 #[.agg #[.int .u64 (L 0 f),.int .u64 (L 1 f),.int .u64 (L 2 f),.int .u64 (L 3 f)]] w fun e w'=>e=.returned (.agg #[.int .u64 (L 0 (f / 2)),.int .u64 (L 1 (f / 2)),.int .u64 (L 2 (f / 2)),.int .u64 (L 3 (f / 2))])∧Below w.heap.size w w'):=fun w=>half_any nf w
   have HP2:Hid (∀ w,Calls Tryz.prog 50 #[.agg #[.int .u64 (L 0 m),.int .u64 (L 1 m),.int .u64 (L 2 m),.int .u64 (L 3 m)],.agg #[.int .u64 (L 0 x),.int .u64 (L 1 x),.int .u64 (L 2 x),.int .u64 (L 3 x)],.agg #[.int .u64 (L 0 x),.int .u64 (L 1 x),.int .u64 (L 2 x),.int .u64 (L 3 x)]] w fun e w'=>e=.returned (.agg #[.int .u64 (L 0 (x*x % m)),.int .u64 (L 1 (x*x % m)),.int .u64 (L 2 (x*x % m)),.int .u64 (L 3 (x*x % m))])∧Below w.heap.size w w'):=fun w=>HPR.out x x w nx nx
   have fl:=nf.lo
   have fh:=nf.hi
   have nx':Num (x*x % m):=num_mod hm.1 hm.2
   have nf':Num (f / 2):=⟨by omega,by omega⟩
   by_cases ho:f % 2=1
   ·have HB:∀ w,Calls Tryz.prog 54 #[.agg #[.int .u64 (L 0 f),.int .u64 (L 1 f),.int .u64 (L 2 f),.int .u64 (L 3 f)],.int .i64 0] w fun e w'=>e=.returned (.int .i64 1)∧Below w.heap.size w w':=by
     intro w;have h:=bit_any f 0 w;rwa [bt_0,ho] at h
    have HP1:Hid (∀ w,Calls Tryz.prog 50 #[.agg #[.int .u64 (L 0 m),.int .u64 (L 1 m),.int .u64 (L 2 m),.int .u64 (L 3 m)],.agg #[.int .u64 (L 0 y),.int .u64 (L 1 y),.int .u64 (L 2 y),.int .u64 (L 3 y)],.agg #[.int .u64 (L 0 x),.int .u64 (L 1 x),.int .u64 (L 2 x),.int .u64 (L 3 x)]] w fun e w'=>e=.returned (.agg #[.int .u64 (L 0 (y*x % m)),.int .u64 (L 1 (y*x % m)),.int .u64 (L 2 (y*x % m)),.int .u64 (L 3 (y*x % m))])∧Below w.heap.size w w'):=fun w=>HPR.out y x w ny nx
    have HI:Hid (Num (f / 2)∧Num (x*x % m)∧Num (y*x % m)∧(0≤y*x % m∧y*x % m<m)∧(y*x % m)*pw (x*x % m) (f / 2) % m=pw a ex % m∧0<f∧gk=f.toNat) :=
     ⟨nf',nx',num_mod hm.1 hm.2,⟨Int.emod_nonneg _ (by omega),Int.emod_lt_of_pos _ hm.2⟩,by rw [inv_odd (by omega) ho,hinv],by omega,hg⟩
    clear hg hinv hy nf nx ny hf nx' nf' ho fl fh hm
    generalize x*x % m=x' at *
    generalize y*x % m=y' at *
    go_wp2_with fail
    with_reducible refine Calls.mono (HB _) ?_
    clear hbw al a0 a1 a2 a3 af0 af1 af2 af3 el e0 e1 e2 e3 ef0 ef1 ef2 ef3 rl r0 r1 r2 r3 rf0 rf1 rf2 rf3 pl p0 p1 p2 p3 pf0 pf1 pf2 pf3
    rintro e w3 ⟨rfl,hb⟩
    have hS3:=hS.call hb
    clear hb hS
    have hS0:=hS3
    obtain ⟨hbw,⟨al,a0,a1,a2,a3,af0,af1,af2,af3⟩,⟨el,e0,e1,e2,e3,ef0,ef1,ef2,ef3⟩,⟨rl,r0,r1,r2,r3,rf0,rf1,rf2,rf3⟩,⟨pl,p0,p1,p2,p3,pf0,pf1,pf2,pf3⟩⟩:=hS0
    go_wp2_with fail
    with_reducible refine Calls.mono (HP1.out _) ?_
    clear hbw al a0 a1 a2 a3 af0 af1 af2 af3 el e0 e1 e2 e3 ef0 ef1 ef2 ef3 rl r0 r1 r2 r3 rf0 rf1 rf2 rf3 pl p0 p1 p2 p3 pf0 pf1 pf2 pf3
    rintro e w4 ⟨rfl,hb⟩
    have hS4:=hS3.call hb
    clear hb hS3
    have hS0:=hS4
    obtain ⟨hbw,⟨al,a0,a1,a2,a3,af0,af1,af2,af3⟩,⟨el,e0,e1,e2,e3,ef0,ef1,ef2,ef3⟩,⟨rl,r0,r1,r2,r3,rf0,rf1,rf2,rf3⟩,⟨pl,p0,p1,p2,p3,pf0,pf1,pf2,pf3⟩⟩:=hS0
    go_upto_region 7 with fail
    refine wp_world (fun W=>PowS w W w2.heap.size x f y') (hS4.storeP hn y') ?_
    clear hbw al a0 a1 a2 a3 af0 af1 af2 af3 el e0 e1 e2 e3 ef0 ef1 ef2 ef3 rl r0 r1 r2 r3 rf0 rf1 rf2 rf3 pl p0 p1 p2 p3 pf0 pf1 pf2 pf3 hS4
    intro w5 hS5
    have hS0:=hS5
    obtain ⟨hbw,⟨al,a0,a1,a2,a3,af0,af1,af2,af3⟩,⟨el,e0,e1,e2,e3,ef0,ef1,ef2,ef3⟩,⟨rl,r0,r1,r2,r3,rf0,rf1,rf2,rf3⟩,⟨pl,p0,p1,p2,p3,pf0,pf1,pf2,pf3⟩⟩:=hS0
    go_wp2_with fail
    with_reducible refine Calls.mono (HP2.out _) ?_
    clear hbw al a0 a1 a2 a3 af0 af1 af2 af3 el e0 e1 e2 e3 ef0 ef1 ef2 ef3 rl r0 r1 r2 r3 rf0 rf1 rf2 rf3 pl p0 p1 p2 p3 pf0 pf1 pf2 pf3
    rintro e w6 ⟨rfl,hb⟩
    have hS6:=hS5.call hb
    clear hb hS5
    have hS0:=hS6
    obtain ⟨hbw,⟨al,a0,a1,a2,a3,af0,af1,af2,af3⟩,⟨el,e0,e1,e2,e3,ef0,ef1,ef2,ef3⟩,⟨rl,r0,r1,r2,r3,rf0,rf1,rf2,rf3⟩,⟨pl,p0,p1,p2,p3,pf0,pf1,pf2,pf3⟩⟩:=hS0
    go_upto_region 8 with fail
    refine wp_world (fun W=>PowS w W w2.heap.size x' f y') (hS6.storeA hn x') ?_
    clear hbw al a0 a1 a2 a3 af0 af1 af2 af3 el e0 e1 e2 e3 ef0 ef1 ef2 ef3 rl r0 r1 r2 r3 rf0 rf1 rf2 rf3 pl p0 p1 p2 p3 pf0 pf1 pf2 pf3 hS6
    intro w7 hS7
    have hS0:=hS7
    obtain ⟨hbw,⟨al,a0,a1,a2,a3,af0,af1,af2,af3⟩,⟨el,e0,e1,e2,e3,ef0,ef1,ef2,ef3⟩,⟨rl,r0,r1,r2,r3,rf0,rf1,rf2,rf3⟩,⟨pl,p0,p1,p2,p3,pf0,pf1,pf2,pf3⟩⟩:=hS0
    go_wp2_with fail
    with_reducible refine Calls.mono (HH.out _) ?_
    clear hbw al a0 a1 a2 a3 af0 af1 af2 af3 el e0 e1 e2 e3 ef0 ef1 ef2 ef3 rl r0 r1 r2 r3 rf0 rf1 rf2 rf3 pl p0 p1 p2 p3 pf0 pf1 pf2 pf3
    rintro e w8 ⟨rfl,hb⟩
    have hS8:=hS7.call hb
    clear hb hS7
    have hS0:=hS8
    obtain ⟨hbw,⟨al,a0,a1,a2,a3,af0,af1,af2,af3⟩,⟨el,e0,e1,e2,e3,ef0,ef1,ef2,ef3⟩,⟨rl,r0,r1,r2,r3,rf0,rf1,rf2,rf3⟩,⟨pl,p0,p1,p2,p3,pf0,pf1,pf2,pf3⟩⟩:=hS0
    go_wp2_with fail
    go_roundg (f / 2).toNat
    case measure=>have:=HI.out;omega
    case rel=>exact ⟨x',y',f / 2,rfl,HI.out.1,HI.out.2.1,HI.out.2.2.1,HI.out.2.2.2.1,HI.out.2.2.2.2.1,hS8.storeE hn (f / 2)⟩
   ·have hz:f % 2=0:=by omega
    have HB:∀ w,Calls Tryz.prog 54 #[.agg #[.int .u64 (L 0 f),.int .u64 (L 1 f),.int .u64 (L 2 f),.int .u64 (L 3 f)],.int .i64 0] w fun e w'=>e=.returned (.int .i64 0)∧Below w.heap.size w w':=by
     intro w;have h:=bit_any f 0 w;rwa [bt_0,hz] at h
    have HI:Hid (Num (f / 2)∧Num (x*x % m)∧Num y∧(0≤y∧y<m)∧y*pw (x*x % m) (f / 2) % m=pw a ex % m∧0<f∧gk=f.toNat) :=
     ⟨nf',nx',ny,hy,by rw [inv_even hz,hinv],by omega,hg⟩
    clear hg hinv hy nf nx ny hf nx' nf' ho hz fl fh hm
    generalize x*x % m=x' at *
    go_wp2_with fail
    with_reducible refine Calls.mono (HB _) ?_
    clear hbw al a0 a1 a2 a3 af0 af1 af2 af3 el e0 e1 e2 e3 ef0 ef1 ef2 ef3 rl r0 r1 r2 r3 rf0 rf1 rf2 rf3 pl p0 p1 p2 p3 pf0 pf1 pf2 pf3
    rintro e w3 ⟨rfl,hb⟩
    have hS3:=hS.call hb
    clear hb hS
    have hS0:=hS3
    obtain ⟨hbw,⟨al,a0,a1,a2,a3,af0,af1,af2,af3⟩,⟨el,e0,e1,e2,e3,ef0,ef1,ef2,ef3⟩,⟨rl,r0,r1,r2,r3,rf0,rf1,rf2,rf3⟩,⟨pl,p0,p1,p2,p3,pf0,pf1,pf2,pf3⟩⟩:=hS0
    go_wp2_with fail
    with_reducible refine Calls.mono (HP2.out _) ?_
    clear hbw al a0 a1 a2 a3 af0 af1 af2 af3 el e0 e1 e2 e3 ef0 ef1 ef2 ef3 rl r0 r1 r2 r3 rf0 rf1 rf2 rf3 pl p0 p1 p2 p3 pf0 pf1 pf2 pf3
    rintro e w6 ⟨rfl,hb⟩
    have hS6:=hS3.call hb
    clear hb hS3
    have hS0:=hS6
    obtain ⟨hbw,⟨al,a0,a1,a2,a3,af0,af1,af2,af3⟩,⟨el,e0,e1,e2,e3,ef0,ef1,ef2,ef3⟩,⟨rl,r0,r1,r2,r3,rf0,rf1,rf2,rf3⟩,⟨pl,p0,p1,p2,p3,pf0,pf1,pf2,pf3⟩⟩:=hS0
    go_upto_region 8 with fail
    refine wp_world (fun W=>PowS w W w2.heap.size x' f y) (hS6.storeA hn x') ?_
    clear hbw al a0 a1 a2 a3 af0 af1 af2 af3 el e0 e1 e2 e3 ef0 ef1 ef2 ef3 rl r0 r1 r2 r3 rf0 rf1 rf2 rf3 pl p0 p1 p2 p3 pf0 pf1 pf2 pf3 hS6
    intro w7 hS7
    have hS0:=hS7
    obtain ⟨hbw,⟨al,a0,a1,a2,a3,af0,af1,af2,af3⟩,⟨el,e0,e1,e2,e3,ef0,ef1,ef2,ef3⟩,⟨rl,r0,r1,r2,r3,rf0,rf1,rf2,rf3⟩,⟨pl,p0,p1,p2,p3,pf0,pf1,pf2,pf3⟩⟩:=hS0
    go_wp2_with fail
    with_reducible refine Calls.mono (HH.out _) ?_
    clear hbw al a0 a1 a2 a3 af0 af1 af2 af3 el e0 e1 e2 e3 ef0 ef1 ef2 ef3 rl r0 r1 r2 r3 rf0 rf1 rf2 rf3 pl p0 p1 p2 p3 pf0 pf1 pf2 pf3
    rintro e w8 ⟨rfl,hb⟩
    have hS8:=hS7.call hb
    clear hb hS7
    have hS0:=hS8
    obtain ⟨hbw,⟨al,a0,a1,a2,a3,af0,af1,af2,af3⟩,⟨el,e0,e1,e2,e3,ef0,ef1,ef2,ef3⟩,⟨rl,r0,r1,r2,r3,rf0,rf1,rf2,rf3⟩,⟨pl,p0,p1,p2,p3,pf0,pf1,pf2,pf3⟩⟩:=hS0
    go_wp2_with fail
    go_roundg (f / 2).toNat
    case measure=>have:=HI.out;omega
    case rel=>exact ⟨x',y,f / 2,rfl,HI.out.1,HI.out.2.1,HI.out.2.2.1,HI.out.2.2.2.1,HI.out.2.2.2.2.1,hS8.storeE hn (f / 2)⟩
end Go.Proofs.YtjaahnlpnkcimaaGreatDoor
namespace Go.Proofs.YtjaahnlpnkcimaaGreatDoor
set_option maxRecDepth 100000
open Go.RowKit
attribute [local go_sem ↓] Go.wp_at_zero Go.wp_at_succ
theorem f_mod (k:Int) {w:World} (hT:Tab w):Calls Tryz.prog 62 #[.int .i64 k] w fun e w'=>e=.returned (.agg #[.int .u64 (L 0 (md k)),.int .u64 (L 1 (md k)),.int .u64 (L 2 (md k)),.int .u64 (L 3 (md k))])∧Below w.heap.size w w':=by
 go_enter Tryz.func62,Tryz.ntmps62
 go_wp2_with fail
 with_reducible refine Calls.mono (modOf_any k (hT.keep (K.alloc (Below.refl _ _) _))) ?_
 rintro e w1 ⟨rfl,hb1⟩
 have ⟨kr,kr0,kr1,kr2,kr3,kf0,kf1,kf2,kf3⟩:=(ArrW.new w w.heap.size rfl 34 0 0 0 0).keep hb1
 have hw1:Below w.heap.size w w1:=K.call (K.alloc (Below.refl _ w) _) hb1
 go_wp2_with fail
 exact bodyPost_ret (v:=.agg #[.int .u64 (L 0 (md k)),.int .u64 (L 1 (md k)),.int .u64 (L 2 (md k)),.int .u64 (L 3 (md k))]) (by simp [results,Tryz.results62,go_sem,kr0,kr1,kr2,kr3]) rfl ⟨rfl,K.set4 hw1 (by omega) _ _ _ _⟩
end Go.Proofs.YtjaahnlpnkcimaaGreatDoor
namespace Go.Proofs.YtjaahnlpnkcimaaGreatDoor
set_option maxRecDepth 100000
open Go.RowKit
attribute [local go_sem ↓] Go.wp_at_zero Go.wp_at_succ
theorem md_big {k:Int} (hk:0≤k∧k≤3):4<md k:=by
 rcases md_cases hk with rfl | rfl | rfl | rfl <;> decide
theorem f_inv {k a:Int} (hkk:0≤k∧k≤3) (ha:Num a) {w:World} (hT:Tab w):Calls Tryz.prog 70 #[.int .i64 k,.agg #[.int .u64 (L 0 a),.int .u64 (L 1 a),.int .u64 (L 2 a),.int .u64 (L 3 a)]] w fun e w'=>e=.returned (.agg #[.int .u64 (L 0 (pw a (md k-2) % md k)),.int .u64 (L 1 (pw a (md k-2) % md k)),.int .u64 (L 2 (pw a (md k-2) % md k)),.int .u64 (L 3 (pw a (md k-2) % md k))])∧Below w.heap.size w w':=by
 have hb:=md_big hkk
 have nm:=md_num k
 have ne:Num (md k-2):=⟨by omega,by have:=nm.hi;omega⟩
 have HS:Hid (∀ w,Calls Tryz.prog 48 #[.agg #[.int .u64 (L 0 (md k)),.int .u64 (L 1 (md k)),.int .u64 (L 2 (md k)),.int .u64 (L 3 (md k))],.agg #[.int .u64 2,.int .u64 0,.int .u64 0,.int .u64 0]] w fun e w'=>e=.returned (.tuple #[.agg #[.int .u64 (L 0 (md k-2)),.int .u64 (L 1 (md k-2)),.int .u64 (L 2 (md k-2)),.int .u64 (L 3 (md k-2))],.bool (D (md k) 2 4 == 1)])∧Below w.heap.size w w'):=by
  intro w
  have h:=sub_walk (md k) 2 w
  have b0:L 0 2=2:=by decide
  have b1:L 1 2=0:=by decide
  have b2:L 2 2=0:=by decide
  have b3:L 3 2=0:=by decide
  rw [b0,b1,b2,b3] at h
  exact h
 have HP:Hid (∀ w,Tab w→Calls Tryz.prog 73 #[.int .i64 k,.agg #[.int .u64 (L 0 a),.int .u64 (L 1 a),.int .u64 (L 2 a),.int .u64 (L 3 a)],.agg #[.int .u64 (L 0 (md k-2)),.int .u64 (L 1 (md k-2)),.int .u64 (L 2 (md k-2)),.int .u64 (L 3 (md k-2))]] w fun e w'=>e=.returned (.agg #[.int .u64 (L 0 (pw a (md k-2) % md k)),.int .u64 (L 1 (pw a (md k-2) % md k)),.int .u64 (L 2 (pw a (md k-2) % md k)),.int .u64 (L 3 (pw a (md k-2) % md k))])∧Below w.heap.size w w'):=fun w hT=>f_pow hkk ha ne hT
 have HM:Hid (∀ w,Tab w→Calls Tryz.prog 62 #[.int .i64 k] w fun e w'=>e=.returned (.agg #[.int .u64 (L 0 (md k)),.int .u64 (L 1 (md k)),.int .u64 (L 2 (md k)),.int .u64 (L 3 (md k))])∧Below w.heap.size w w'):=fun w hT=>f_mod k hT
 clear hkk ha ne nm hb
 generalize pw a (md k-2) % md k=i at *
 generalize md k-2=ex at *
 generalize md k=m at *
 generalize (D m 2 4 == 1)=u at *
 go_enter Tryz.func70,Tryz.ntmps70
 go_wp2_with fail
 with_reducible refine Calls.mono (HM.out _ (hT.keep (K.alloc (K.alloc (Below.refl _ _) _) _))) ?_
 rintro e w1 ⟨rfl,hb1⟩
 have A1:=((Arr.new w w.heap.size rfl 34 (L 0 a) (L 1 a) (L 2 a) (L 3 a)).alloc _).keep hb1
 have R1:=(ArrW.new _ (w.heap.size+1) (by simp) 34 0 0 0 0).keep hb1
 have hw1:Below w.heap.size w w1:=K.call (K.alloc (K.alloc (Below.refl _ w) _) _) hb1
 clear hb1
 go_wp2_with fail
 with_reducible refine Calls.mono (HS.out _) ?_
 rintro e w2 ⟨rfl,hb2⟩
 have A2:=(A1.keep hb2).alloc (.cells #[.int .u64 (L 0 ex),.int .u64 (L 1 ex),.int .u64 (L 2 ex),.int .u64 (L 3 ex)] 34)
 have R2:=(R1.keep hb2).alloc (.cells #[.int .u64 (L 0 ex),.int .u64 (L 1 ex),.int .u64 (L 2 ex),.int .u64 (L 3 ex)] 34)
 have E2:=Arr.new w2 w2.heap.size rfl 34 (L 0 ex) (L 1 ex) (L 2 ex) (L 3 ex)
 have hw2:Below w.heap.size w (w2.alloc (.cells #[.int .u64 (L 0 ex),.int .u64 (L 1 ex),.int .u64 (L 2 ex),.int .u64 (L 3 ex)] 34)):=K.alloc (K.call hw1 hb2) _
 have hT2:=hT.keep hw2
 clear hb2 A1 R1 hw1 hT
 have ⟨ka,ka0,ka1,ka2,ka3⟩:=A2
 have ⟨ke,ke0,ke1,ke2,ke3⟩:=E2
 go_wp2_with fail
 with_reducible refine Calls.mono (HP.out _ hT2) ?_
 clear ka ka0 ka1 ka2 ka3 ke ke0 ke1 ke2 ke3
 rintro e w3 ⟨rfl,hb3⟩
 have ⟨kr,kr0,kr1,kr2,kr3,kf0,kf1,kf2,kf3⟩:=R2.keep hb3
 have hw3:Below w.heap.size w w3:=K.call hw2 hb3
 go_wp2_with fail
 exact bodyPost_ret (v:=.agg #[.int .u64 (L 0 i),.int .u64 (L 1 i),.int .u64 (L 2 i),.int .u64 (L 3 i)]) (by simp [results,Tryz.results70,go_sem,kr0,kr1,kr2,kr3]) rfl ⟨rfl,K.set4 hw3 (by omega) _ _ _ _⟩
end Go.Proofs.YtjaahnlpnkcimaaGreatDoor
namespace Go.Proofs.YtjaahnlpnkcimaaGreatDoor
set_option maxRecDepth 100000
open Go.RowKit
def gc (x:Fin m2):List Value:=nc (x.val:Int)
theorem nz_gc:nz=gc 0:=by kernel_rfl
theorem md_m2:md 2=(m2:Int):=by kernel_rfl
theorem gin_num (x:Fin m2):Num (x.val:Int):=⟨by omega,by have:=x.isLt;unfold m2 q2 at this;unfold M;omega⟩
theorem gc_mul (x y:Fin m2):gc (x*y)=nc ((x.val:Int)*y.val % md 2):=by
 rw [gc,Fin.val_mul,Int.natCast_emod,Int.natCast_mul,md_m2]
theorem gc_add (x y:Fin m2):gc (x+y)=nc (((x.val:Int)+y.val) % md 2):=by
 rw [gc,Fin.val_add,Int.natCast_emod,Int.natCast_add,md_m2]
theorem gc_sub (x y:Fin m2):gc (x-y)=nc (((x.val:Int)-y.val) % md 2):=by
 rw [gc,md_m2]
 congr 1
 have h:=kc_sub (p:=m2) (x.val:Int) (y.val:Int)
 rw [kc_self,kc_self] at h
 rw [← h,kc_val]
theorem gc_inv (x:Fin m2):gc (fiv x)=nc (pw (x.val:Int) (md 2-2) % md 2):=by
 rw [gc,fiv,kc_val,md_m2]
 unfold pw
 rw [show ((m2:Int)-2).toNat=m2-2 by unfold m2 q2;omega]
theorem d_add {w:World} (hT:Tab w) (x y:Fin m2):Calls Tryz.prog 20 [.int .i64 2,.agg (gc x).toArray,.agg (gc y).toArray].toArray w fun e w'=>e=.returned (.agg (gc (x+y)).toArray)∧Below w.heap.size w w':=by
 rw [gc_add]
 exact f_add (k:=2) ⟨by decide,by decide⟩ (gin_num x) (gin_num y) hT
theorem d_sub {w:World} (hT:Tab w) (x y:Fin m2):Calls Tryz.prog 93 [.int .i64 2,.agg (gc x).toArray,.agg (gc y).toArray].toArray w fun e w'=>e=.returned (.agg (gc (x-y)).toArray)∧Below w.heap.size w w':=by
 rw [gc_sub]
 exact f_sub (k:=2) ⟨by decide,by decide⟩ (gin_num x) (gin_num y) hT
theorem d_mul {w:World} (hT:Tab w) (x y:Fin m2):Calls Tryz.prog 21 [.int .i64 2,.agg (gc x).toArray,.agg (gc y).toArray].toArray w fun e w'=>e=.returned (.agg (gc (x*y)).toArray)∧Below w.heap.size w w':=by
 rw [gc_mul]
 exact f_mul (k:=2) ⟨by decide,by decide⟩ (gin_num x) (gin_num y) hT
theorem d_inv {w:World} (hT:Tab w) (x:Fin m2):Calls Tryz.prog 70 [.int .i64 2,.agg (gc x).toArray].toArray w fun e w'=>e=.returned (.agg (gc (fiv x)).toArray)∧Below w.heap.size w w':=by
 rw [gc_inv]
 exact f_inv (k:=2) ⟨by decide,by decide⟩ (gin_num x) hT
theorem eq_gc (x y:Fin m2) (w:World):(Op.equalIn 10000 34 (.agg (gc x).toArray) (.agg (gc y).toArray)).run Tryz.prog w=.ok (decide (x=y)) w:=by
 rw [gc,gc,eq_nc (gin_num x) (gin_num y)]
 have:((x.val:Int)=(y.val:Int))=(x=y):=by
  apply propext
  constructor
  ·intro h;exact Fin.ext (by omega)
  ·intro h;rw [h]
 simp only [this]
theorem eqg_t {x y:Fin m2} (h:x=y) (w:World):(Op.equalIn 10000 34 (.agg (gc x).toArray) (.agg (gc y).toArray)).run Tryz.prog w=.ok true w:=by rw [eq_gc,decide_eq_true h]
theorem eqg_f {x y:Fin m2} (h:¬ x=y) (w:World):(Op.equalIn 10000 34 (.agg (gc x).toArray) (.agg (gc y).toArray)).run Tryz.prog w=.ok false w:=by rw [eq_gc,decide_eq_false h]
end Go.Proofs.YtjaahnlpnkcimaaGreatDoor
namespace Go.Proofs.YtjaahnlpnkcimaaGreatDoor
set_option maxRecDepth 100000
open Go.RowKit
attribute [local go_sem ↓] Go.wp_at_zero Go.wp_at_succ
theorem half_pow (x:Int) (n:Nat):x / 2 ^ n / 2=x / 2 ^ (n+1):=by
 rw [Int.pow_succ,Int.ediv_ediv_of_nonneg (Int.le_of_lt (Int.pow_pos (by omega)))]
theorem ref_bit_word (a i:Int) (k:Nat) (h0:0≤i) (h1:i<256) (hq:i / 64=k):L k a / 2 ^ (i % 64).toNat % 2=bt a i:=by
 rw [word_bit _ _ _ (by omega),bt_in _ _ h0 h1,show 64*k+(i % 64).toNat=i.toNat by omega]
theorem ref_bit_in0 (a i:Int) (h0:0≤i) (h1:i<256) (hq:i / 64=0) (w:World) :
  Calls Tryz.prog 85 #[.agg #[.int .u64 (L 0 a),.int .u64 (L 1 a),.int .u64 (L 2 a),.int .u64 (L 3 a)],.int .i64 i] w fun e w'=>e=.returned (.int .i64 (bt a i))∧Below w.heap.size w w':=by
 have fin:Hid (L 0 a / 2 ^ (i % 64).toNat % 2=bt a i):=ref_bit_word a i 0 h0 h1 hq
 go_enter Tryz.func85,Tryz.ntmps85
 go_wp2
 go_loop [5,6] (fun x k=>∃ n:Nat,n≤(i % 64).toNat∧k=.int .i64 n∧x=.int .u64 (L 0 a / 2 ^ n)) (fun _ k=>64-(intOf k).toNat)
 case atStart=>exact ⟨0,Nat.zero_le _,rfl,by simp⟩
 case round =>
  obtain ⟨n,hn,rfl,rfl⟩:=hrel
  have d0:0≤L 0 a / 2 ^ n:=Int.ediv_nonneg (L_lo _ _) (Int.le_of_lt (Int.pow_pos (by omega)))
  have d1:L 0 a / 2 ^ n<18446744073709551616:=Int.lt_of_le_of_lt (Int.ediv_le_self _ (L_lo _ _)) (L_hi _ _)
  by_cases hlt:(n:Int)<i % 64
  ·go_wp2
   go_round
   case rel=>exact ⟨n+1,by omega,by go_num,by rw [← half_pow]⟩
   case measure=>simp [intOf];omega
  ·have e:n=(i % 64).toNat:=by omega
   have F:Hid (L 0 a / 2 ^ n % 2=bt a i):=by rw [e];exact fin
   clear e fin
   go_wp2
   go_ret
   refine ⟨congrArg (fun x=>Ending.returned (.int .i64 x)) F.out,?_⟩
   go_grown
theorem ref_bit_in1 (a i:Int) (h0:0≤i) (h1:i<256) (hq:i / 64=1) (w:World) :
  Calls Tryz.prog 85 #[.agg #[.int .u64 (L 0 a),.int .u64 (L 1 a),.int .u64 (L 2 a),.int .u64 (L 3 a)],.int .i64 i] w fun e w'=>e=.returned (.int .i64 (bt a i))∧Below w.heap.size w w':=by
 have fin:Hid (L 1 a / 2 ^ (i % 64).toNat % 2=bt a i):=ref_bit_word a i 1 h0 h1 hq
 go_enter Tryz.func85,Tryz.ntmps85
 go_wp2
 go_loop [5,6] (fun x k=>∃ n:Nat,n≤(i % 64).toNat∧k=.int .i64 n∧x=.int .u64 (L 1 a / 2 ^ n)) (fun _ k=>64-(intOf k).toNat)
 case atStart=>exact ⟨0,Nat.zero_le _,rfl,by simp⟩
 case round =>
  obtain ⟨n,hn,rfl,rfl⟩:=hrel
  have d0:0≤L 1 a / 2 ^ n:=Int.ediv_nonneg (L_lo _ _) (Int.le_of_lt (Int.pow_pos (by omega)))
  have d1:L 1 a / 2 ^ n<18446744073709551616:=Int.lt_of_le_of_lt (Int.ediv_le_self _ (L_lo _ _)) (L_hi _ _)
  by_cases hlt:(n:Int)<i % 64
  ·go_wp2
   go_round
   case rel=>exact ⟨n+1,by omega,by go_num,by rw [← half_pow]⟩
   case measure=>simp [intOf];omega
  ·have e:n=(i % 64).toNat:=by omega
   have F:Hid (L 1 a / 2 ^ n % 2=bt a i):=by rw [e];exact fin
   clear e fin
   go_wp2
   go_ret
   refine ⟨congrArg (fun x=>Ending.returned (.int .i64 x)) F.out,?_⟩
   go_grown
theorem ref_bit_in2 (a i:Int) (h0:0≤i) (h1:i<256) (hq:i / 64=2) (w:World) :
  Calls Tryz.prog 85 #[.agg #[.int .u64 (L 0 a),.int .u64 (L 1 a),.int .u64 (L 2 a),.int .u64 (L 3 a)],.int .i64 i] w fun e w'=>e=.returned (.int .i64 (bt a i))∧Below w.heap.size w w':=by
 have fin:Hid (L 2 a / 2 ^ (i % 64).toNat % 2=bt a i):=ref_bit_word a i 2 h0 h1 hq
 go_enter Tryz.func85,Tryz.ntmps85
 go_wp2
 go_loop [5,6] (fun x k=>∃ n:Nat,n≤(i % 64).toNat∧k=.int .i64 n∧x=.int .u64 (L 2 a / 2 ^ n)) (fun _ k=>64-(intOf k).toNat)
 case atStart=>exact ⟨0,Nat.zero_le _,rfl,by simp⟩
 case round =>
  obtain ⟨n,hn,rfl,rfl⟩:=hrel
  have d0:0≤L 2 a / 2 ^ n:=Int.ediv_nonneg (L_lo _ _) (Int.le_of_lt (Int.pow_pos (by omega)))
  have d1:L 2 a / 2 ^ n<18446744073709551616:=Int.lt_of_le_of_lt (Int.ediv_le_self _ (L_lo _ _)) (L_hi _ _)
  by_cases hlt:(n:Int)<i % 64
  ·go_wp2
   go_round
   case rel=>exact ⟨n+1,by omega,by go_num,by rw [← half_pow]⟩
   case measure=>simp [intOf];omega
  ·have e:n=(i % 64).toNat:=by omega
   have F:Hid (L 2 a / 2 ^ n % 2=bt a i):=by rw [e];exact fin
   clear e fin
   go_wp2
   go_ret
   refine ⟨congrArg (fun x=>Ending.returned (.int .i64 x)) F.out,?_⟩
   go_grown
theorem ref_bit_in3 (a i:Int) (h0:0≤i) (h1:i<256) (hq:i / 64=3) (w:World) :
  Calls Tryz.prog 85 #[.agg #[.int .u64 (L 0 a),.int .u64 (L 1 a),.int .u64 (L 2 a),.int .u64 (L 3 a)],.int .i64 i] w fun e w'=>e=.returned (.int .i64 (bt a i))∧Below w.heap.size w w':=by
 have fin:Hid (L 3 a / 2 ^ (i % 64).toNat % 2=bt a i):=ref_bit_word a i 3 h0 h1 hq
 go_enter Tryz.func85,Tryz.ntmps85
 go_wp2
 go_loop [5,6] (fun x k=>∃ n:Nat,n≤(i % 64).toNat∧k=.int .i64 n∧x=.int .u64 (L 3 a / 2 ^ n)) (fun _ k=>64-(intOf k).toNat)
 case atStart=>exact ⟨0,Nat.zero_le _,rfl,by simp⟩
 case round =>
  obtain ⟨n,hn,rfl,rfl⟩:=hrel
  have d0:0≤L 3 a / 2 ^ n:=Int.ediv_nonneg (L_lo _ _) (Int.le_of_lt (Int.pow_pos (by omega)))
  have d1:L 3 a / 2 ^ n<18446744073709551616:=Int.lt_of_le_of_lt (Int.ediv_le_self _ (L_lo _ _)) (L_hi _ _)
  by_cases hlt:(n:Int)<i % 64
  ·go_wp2
   go_round
   case rel=>exact ⟨n+1,by omega,by go_num,by rw [← half_pow]⟩
   case measure=>simp [intOf];omega
  ·have e:n=(i % 64).toNat:=by omega
   have F:Hid (L 3 a / 2 ^ n % 2=bt a i):=by rw [e];exact fin
   clear e fin
   go_wp2
   go_ret
   refine ⟨congrArg (fun x=>Ending.returned (.int .i64 x)) F.out,?_⟩
   go_grown
theorem ref_bit_below (a i:Int) (h0:i<0) (w:World) :
  Calls Tryz.prog 85 #[.agg #[.int .u64 (L 0 a),.int .u64 (L 1 a),.int .u64 (L 2 a),.int .u64 (L 3 a)],.int .i64 i] w fun e w'=>e=.returned (.int .i64 0)∧Below w.heap.size w w':=by
 go_enter Tryz.func85,Tryz.ntmps85
 go_wp2
 go_ret
 refine ⟨rfl,?_⟩
 go_grown
theorem ref_bit_above (a i:Int) (h0:256≤i) (w:World) :
  Calls Tryz.prog 85 #[.agg #[.int .u64 (L 0 a),.int .u64 (L 1 a),.int .u64 (L 2 a),.int .u64 (L 3 a)],.int .i64 i] w fun e w'=>e=.returned (.int .i64 0)∧Below w.heap.size w w':=by
 have h1:255<i:=by omega
 go_enter Tryz.func85,Tryz.ntmps85
 go_wp2
 go_ret
 refine ⟨rfl,?_⟩
 go_grown
theorem ref_bit_any (a i:Int) (w:World) :
  Calls Tryz.prog 85 #[.agg #[.int .u64 (L 0 a),.int .u64 (L 1 a),.int .u64 (L 2 a),.int .u64 (L 3 a)],.int .i64 i] w fun e w'=>e=.returned (.int .i64 (bt a i))∧Below w.heap.size w w':=by
 by_cases h0:i<0
 ·rw [bt_low a i h0];exact ref_bit_below a i h0 w
 by_cases h1:256≤i
 ·rw [bt_high a i h1];exact ref_bit_above a i h1 w
 have hq:i / 64=0∨i / 64=1∨i / 64=2∨i / 64=3:=by omega
 rcases hq with hq | hq | hq | hq
 ·exact ref_bit_in0 a i (by omega) (by omega) hq w
 ·exact ref_bit_in1 a i (by omega) (by omega) hq w
 ·exact ref_bit_in2 a i (by omega) (by omega) hq w
 ·exact ref_bit_in3 a i (by omega) (by omega) hq w
end Go.Proofs.YtjaahnlpnkcimaaGreatDoor
namespace Go.Proofs.YtjaahnlpnkcimaaGreatDoor
set_option maxRecDepth 100000
open Go.RowKit
attribute [local go_sem ↓] Go.wp_at_zero Go.wp_at_succ
def lessW (x0 x1 x2 x3 y0 y1 y2 y3:Int):Bool :=
 if x3=y3 then if x2=y2 then if x1=y1 then if x0=y0 then false else decide (x0<y0) else decide (x1<y1) else decide (x2<y2) else decide (x3<y3)
theorem less_walk (x0 x1 x2 x3 y0 y1 y2 y3:Int) (w:World) :
  Calls Tryz.prog 76 #[.agg #[.int .u64 x0,.int .u64 x1,.int .u64 x2,.int .u64 x3],.agg #[.int .u64 y0,.int .u64 y1,.int .u64 y2,.int .u64 y3]] w fun e w'=>e=.returned (.bool (lessW x0 x1 x2 x3 y0 y1 y2 y3))∧Below w.heap.size w w':=by
 go_enter Tryz.func76,Tryz.ntmps76
 go_wp2
 refine wp_loop_rounds 5 ?_
 by_cases g3:x3=y3
 case neg =>
  have b3:(x3 == y3)=false:=by simpa using g3
  have n3:(x3 != y3)=true:=by simpa using g3
  rw [rounds_succ]
  go_wp2
  go_quiet (fail)
  go_wp2
  go_quiet (fail)
  go_wp2
  go_ret
  refine ⟨ret_bool (by unfold lessW;simp [*]),?_⟩
  repeat' (first | (with_reducible exact Below.refl _ _) | (with_reducible refine K.drewN ?_ _) | (with_reducible refine K.drew ?_) | (with_reducible refine K.alloc ?_ _) | (with_reducible refine K.set ?_ ?_ _) | (simp;done) | (simp;omega))
 subst g3
 rw [rounds_succ]
 go_wp2
 go_quiet (fail)
 go_wp2
 by_cases g2:x2=y2
 case neg =>
  have b2:(x2 == y2)=false:=by simpa using g2
  have n2:(x2 != y2)=true:=by simpa using g2
  rw [rounds_succ]
  go_wp2
  go_quiet (fail)
  go_wp2
  go_quiet (fail)
  go_wp2
  go_ret
  refine ⟨ret_bool (by unfold lessW;simp [*]),?_⟩
  repeat' (first | (with_reducible exact Below.refl _ _) | (with_reducible refine K.drewN ?_ _) | (with_reducible refine K.drew ?_) | (with_reducible refine K.alloc ?_ _) | (with_reducible refine K.set ?_ ?_ _) | (simp;done) | (simp;omega))
 subst g2
 rw [rounds_succ]
 go_wp2
 go_quiet (fail)
 go_wp2
 by_cases g1:x1=y1
 case neg =>
  have b1:(x1 == y1)=false:=by simpa using g1
  have n1:(x1 != y1)=true:=by simpa using g1
  rw [rounds_succ]
  go_wp2
  go_quiet (fail)
  go_wp2
  go_quiet (fail)
  go_wp2
  go_ret
  refine ⟨ret_bool (by unfold lessW;simp [*]),?_⟩
  repeat' (first | (with_reducible exact Below.refl _ _) | (with_reducible refine K.drewN ?_ _) | (with_reducible refine K.drew ?_) | (with_reducible refine K.alloc ?_ _) | (with_reducible refine K.set ?_ ?_ _) | (simp;done) | (simp;omega))
 subst g1
 rw [rounds_succ]
 go_wp2
 go_quiet (fail)
 go_wp2
 by_cases g0:x0=y0
 case neg =>
  have b0:(x0 == y0)=false:=by simpa using g0
  have n0:(x0 != y0)=true:=by simpa using g0
  rw [rounds_succ]
  go_wp2
  go_quiet (fail)
  go_wp2
  go_quiet (fail)
  go_wp2
  go_ret
  refine ⟨ret_bool (by unfold lessW;simp [*]),?_⟩
  repeat' (first | (with_reducible exact Below.refl _ _) | (with_reducible refine K.drewN ?_ _) | (with_reducible refine K.drew ?_) | (with_reducible refine K.alloc ?_ _) | (with_reducible refine K.set ?_ ?_ _) | (simp;done) | (simp;omega))
 subst g0
 rw [rounds_succ]
 go_wp2
 go_quiet (fail)
 go_wp2
 rw [rounds_succ]
 go_wp2
 go_ret
 refine ⟨ret_bool (by unfold lessW;simp),?_⟩
 repeat' (first | (with_reducible exact Below.refl _ _) | (with_reducible refine K.drewN ?_ _) | (with_reducible refine K.drew ?_) | (with_reducible refine K.alloc ?_ _) | (with_reducible refine K.set ?_ ?_ _) | (simp;done) | (simp;omega))
theorem lessW_eq {a b:Int} (ha:Num a) (hb:Num b):lessW (L 0 a) (L 1 a) (L 2 a) (L 3 a) (L 0 b) (L 1 b) (L 2 b) (L 3 b)=decide (a<b):=by
 obtain ⟨a1,a2⟩:=ha
 obtain ⟨b1,b2⟩:=hb
 rw [L0,L1,L2,L3,L0,L1,L2,L3]
 unfold lessW
 unfold M at *
 (repeat' split) <;> (first | (symm;rw [decide_eq_false_iff_not];omega) | (rw [decide_eq_decide];omega))
theorem less_any {a b:Int} (ha:Num a) (hb:Num b) (w:World) :
  Calls Tryz.prog 76 #[.agg #[.int .u64 (L 0 a),.int .u64 (L 1 a),.int .u64 (L 2 a),.int .u64 (L 3 a)],.agg #[.int .u64 (L 0 b),.int .u64 (L 1 b),.int .u64 (L 2 b),.int .u64 (L 3 b)]] w fun e w'=>e=.returned (.bool (decide (a<b)))∧Below w.heap.size w w':=by
 rw [← lessW_eq ha hb];exact less_walk _ _ _ _ _ _ _ _ w
end Go.Proofs.YtjaahnlpnkcimaaGreatDoor
namespace Go.Proofs.YtjaahnlpnkcimaaGreatDoor
set_option maxRecDepth 100000
open Go.RowKit
attribute [local go_sem ↓] Go.wp_at_zero Go.wp_at_succ
theorem ref_mod_0 (w:World):Calls Tryz.prog 77 #[.int .i64 0] w fun e w'=>e=.returned (.agg #[.int .u64 (L 0 (md 0)),.int .u64 (L 1 (md 0)),.int .u64 (L 2 (md 0)),.int .u64 (L 3 (md 0))])∧Below w.heap.size w w':=by
 have e0:L 0 (md 0)=18446744073709551615:=by decide
 have e1:L 1 (md 0)=4294967295:=by decide
 have e2:L 2 (md 0)=0:=by decide
 have e3:L 3 (md 0)=18446744069414584321:=by decide
 rw [e0,e1,e2,e3]
 go_enter Tryz.func77,Tryz.ntmps77
 go_wp2
 go_returns
 refine ⟨rfl,?_⟩
 go_grown
theorem ref_mod_1 (w:World):Calls Tryz.prog 77 #[.int .i64 1] w fun e w'=>e=.returned (.agg #[.int .u64 (L 0 (md 1)),.int .u64 (L 1 (md 1)),.int .u64 (L 2 (md 1)),.int .u64 (L 3 (md 1))])∧Below w.heap.size w w':=by
 have e0:L 0 (md 1)=17562291160714782033:=by decide
 have e1:L 1 (md 1)=13611842547513532036:=by decide
 have e2:L 2 (md 1)=18446744073709551615:=by decide
 have e3:L 3 (md 1)=18446744069414584320:=by decide
 rw [e0,e1,e2,e3]
 go_enter Tryz.func77,Tryz.ntmps77
 go_wp2
 go_returns
 refine ⟨rfl,?_⟩
 go_grown
theorem ref_mod_2 (w:World):Calls Tryz.prog 77 #[.int .i64 2] w fun e w'=>e=.returned (.agg #[.int .u64 (L 0 (md 2)),.int .u64 (L 1 (md 2)),.int .u64 (L 2 (md 2)),.int .u64 (L 3 (md 2))])∧Below w.heap.size w w':=by
 have e0:L 0 (md 2)=18446744073709551597:=by decide
 have e1:L 1 (md 2)=18446744073709551615:=by decide
 have e2:L 2 (md 2)=18446744073709551615:=by decide
 have e3:L 3 (md 2)=9223372036854775807:=by decide
 rw [e0,e1,e2,e3]
 go_enter Tryz.func77,Tryz.ntmps77
 go_wp2
 go_returns
 refine ⟨rfl,?_⟩
 go_grown
theorem ref_mod_3 (w:World):Calls Tryz.prog 77 #[.int .i64 3] w fun e w'=>e=.returned (.agg #[.int .u64 (L 0 (md 3)),.int .u64 (L 1 (md 3)),.int .u64 (L 2 (md 3)),.int .u64 (L 3 (md 3))])∧Below w.heap.size w w':=by
 have e0:L 0 (md 3)=6346243789798364141:=by decide
 have e1:L 1 (md 3)=1503914060200516822:=by decide
 have e2:L 2 (md 3)=0:=by decide
 have e3:L 3 (md 3)=1152921504606846976:=by decide
 rw [e0,e1,e2,e3]
 go_enter Tryz.func77,Tryz.ntmps77
 go_wp2
 go_returns
 refine ⟨rfl,?_⟩
 go_grown
theorem ref_mod_none (k:Int) (h:k<0∨3<k) (w:World):Calls Tryz.prog 77 #[.int .i64 k] w fun e w'=>e=.returned (.agg #[.int .u64 (L 0 (md k)),.int .u64 (L 1 (md k)),.int .u64 (L 2 (md k)),.int .u64 (L 3 (md k))])∧Below w.heap.size w w':=by
 have e:md k=0:=by unfold md;(repeat' split) <;> omega
 have z0:L 0 0=0:=by decide
 have z1:L 1 0=0:=by decide
 have z2:L 2 0=0:=by decide
 have z3:L 3 0=0:=by decide
 rw [e,z0,z1,z2,z3]
 have b0:(k == 0)=false:=beq_eq_false_iff_ne.2 (by omega)
 have b1:(k == 1)=false:=beq_eq_false_iff_ne.2 (by omega)
 have b2:(k == 2)=false:=beq_eq_false_iff_ne.2 (by omega)
 have b3:(k == 3)=false:=beq_eq_false_iff_ne.2 (by omega)
 clear h e z0 z1 z2 z3
 go_enter Tryz.func77,Tryz.ntmps77
 go_wp2
 go_returns
 refine ⟨rfl,?_⟩
 go_grown
theorem ref_mod_any (k:Int) (w:World):Calls Tryz.prog 77 #[.int .i64 k] w fun e w'=>e=.returned (.agg #[.int .u64 (L 0 (md k)),.int .u64 (L 1 (md k)),.int .u64 (L 2 (md k)),.int .u64 (L 3 (md k))])∧Below w.heap.size w w':=by
 have hk:k=0∨k=1∨k=2∨k=3∨(k<0∨3<k):=by omega
 rcases hk with rfl | rfl | rfl | rfl | hk
 ·exact ref_mod_0 w
 ·exact ref_mod_1 w
 ·exact ref_mod_2 w
 ·exact ref_mod_3 w
 ·exact ref_mod_none k hk w
theorem below_walk {k a m:Int} {c:Int} {w:World}
  (H1:Hid (∀ w1,Below w.heap.size w w1→Calls Tryz.prog 62 #[.int .i64 k] w1 fun e w'=>e=.returned (.agg #[.int .u64 (L 0 m),.int .u64 (L 1 m),.int .u64 (L 2 m),.int .u64 (L 3 m)])∧Below w1.heap.size w1 w'))
  (H2:Hid (∀ w,Calls Tryz.prog 61 #[.agg #[.int .u64 (L 0 a),.int .u64 (L 1 a),.int .u64 (L 2 a),.int .u64 (L 3 a)],.agg #[.int .u64 (L 0 m),.int .u64 (L 1 m),.int .u64 (L 2 m),.int .u64 (L 3 m)]] w fun e w'=>e=.returned (.int .i64 c)∧Below w.heap.size w w')) :
  Calls Tryz.prog 27 #[.int .i64 k,.agg #[.int .u64 (L 0 a),.int .u64 (L 1 a),.int .u64 (L 2 a),.int .u64 (L 3 a)]] w fun e w'=>e=.returned (.bool (decide (c<0)))∧Below w.heap.size w w':=by
 have A1:=Arr.new w w.heap.size rfl 34 (L 0 a) (L 1 a) (L 2 a) (L 3 a)
 have hw:Below w.heap.size w (w.alloc (.cells #[.int .u64 (L 0 a),.int .u64 (L 1 a),.int .u64 (L 2 a),.int .u64 (L 3 a)] 34)):=K.alloc (Below.refl _ _) _
 go_enter Tryz.func27,Tryz.ntmps27
 go_wp2_with fail
 generalize w.alloc (.cells #[.int .u64 (L 0 a),.int .u64 (L 1 a),.int .u64 (L 2 a),.int .u64 (L 3 a)] 34)=W0 at *
 have ⟨ka,ka0,ka1,ka2,ka3⟩:=A1
 have hS:Hid (∀ w',Below W0.heap.size W0 w'→(Below W0.heap.size W0 w'∧w'.cell? ⟨w.heap.size,0,none⟩=some (.int .u64 (L 0 a))∧w'.cell? ⟨w.heap.size,1,none⟩=some (.int .u64 (L 1 a))∧w'.cell? ⟨w.heap.size,2,none⟩=some (.int .u64 (L 2 a))∧w'.cell? ⟨w.heap.size,3,none⟩=some (.int .u64 (L 3 a)))):=fun w' hB=>⟨hB,later hB ka0,later hB ka1,later hB ka2,later hB ka3⟩
 clear ka ka0 ka1 ka2 ka3
 go_region_held3 (fun w'=>Below W0.heap.size W0 w'∧w'.cell? ⟨w.heap.size,0,none⟩=some (.int .u64 (L 0 a))∧w'.cell? ⟨w.heap.size,1,none⟩=some (.int .u64 (L 1 a))∧w'.cell? ⟨w.heap.size,2,none⟩=some (.int .u64 (L 2 a))∧w'.cell? ⟨w.heap.size,3,none⟩=some (.int .u64 (L 3 a)))
  ((refine hS.out _ ?_;first | (with_reducible exact K.drew (Below.refl _ _)) | (with_reducible exact K.drew (K.alloc (Below.refl _ _) _)) | (with_reducible exact Below.refl _ _) | (with_reducible exact K.call (by go_split_ands;assumption) hk) | (with_reducible exact K.alloc (by go_split_ands;assumption) _) | (with_reducible exact K.again (by go_split_ands;assumption) (by omega) _) | (with_reducible exact K.set (by go_split_ands;assumption) (by first | omega | (simp;done) | (simp;omega)) _) | (with_reducible exact K.set (K.set (K.set (K.set (by go_split_ands;assumption) (by first | omega | (simp;done) | (simp;omega)) _) (by first | omega | (simp;done) | (simp;omega)) _) (by first | omega | (simp;done) | (simp;omega)) _) (by first | omega | (simp;done) | (simp;omega)) _)))
  (first
   | (go_at_call 62;with_reducible refine Calls.mono (H1.out _ (K.call hw (by go_split_ands;with_reducible assumption))) ?_;rintro e w' ⟨rfl,hk⟩)
   | (go_at_call 61;with_reducible refine Calls.mono (H2.out _) ?_;rintro e w' ⟨rfl,hk⟩))
 all_goals
  have hH:=‹Below _ _ _∧_›
  go_wp2_with fail
  go_ret
  exact ⟨ret_bool (by simp),K.call hw hH.1⟩
theorem refBelow_walk {k a m:Int} {c:Bool} {w:World}
  (H1:Hid (∀ w1,Below w.heap.size w w1→Calls Tryz.prog 77 #[.int .i64 k] w1 fun e w'=>e=.returned (.agg #[.int .u64 (L 0 m),.int .u64 (L 1 m),.int .u64 (L 2 m),.int .u64 (L 3 m)])∧Below w1.heap.size w1 w'))
  (H2:Hid (∀ w,Calls Tryz.prog 76 #[.agg #[.int .u64 (L 0 a),.int .u64 (L 1 a),.int .u64 (L 2 a),.int .u64 (L 3 a)],.agg #[.int .u64 (L 0 m),.int .u64 (L 1 m),.int .u64 (L 2 m),.int .u64 (L 3 m)]] w fun e w'=>e=.returned (.bool c)∧Below w.heap.size w w')) :
  Calls Tryz.prog 33 #[.int .i64 k,.agg #[.int .u64 (L 0 a),.int .u64 (L 1 a),.int .u64 (L 2 a),.int .u64 (L 3 a)]] w fun e w'=>e=.returned (.bool c)∧Below w.heap.size w w':=by
 have A1:=Arr.new w w.heap.size rfl 34 (L 0 a) (L 1 a) (L 2 a) (L 3 a)
 have hw:Below w.heap.size w (w.alloc (.cells #[.int .u64 (L 0 a),.int .u64 (L 1 a),.int .u64 (L 2 a),.int .u64 (L 3 a)] 34)):=K.alloc (Below.refl _ _) _
 go_enter Tryz.func33,Tryz.ntmps33
 go_wp2_with fail
 generalize w.alloc (.cells #[.int .u64 (L 0 a),.int .u64 (L 1 a),.int .u64 (L 2 a),.int .u64 (L 3 a)] 34)=W0 at *
 have ⟨ka,ka0,ka1,ka2,ka3⟩:=A1
 have hS:Hid (∀ w',Below W0.heap.size W0 w'→(Below W0.heap.size W0 w'∧w'.cell? ⟨w.heap.size,0,none⟩=some (.int .u64 (L 0 a))∧w'.cell? ⟨w.heap.size,1,none⟩=some (.int .u64 (L 1 a))∧w'.cell? ⟨w.heap.size,2,none⟩=some (.int .u64 (L 2 a))∧w'.cell? ⟨w.heap.size,3,none⟩=some (.int .u64 (L 3 a)))):=fun w' hB=>⟨hB,later hB ka0,later hB ka1,later hB ka2,later hB ka3⟩
 clear ka ka0 ka1 ka2 ka3
 go_region_held3 (fun w'=>Below W0.heap.size W0 w'∧w'.cell? ⟨w.heap.size,0,none⟩=some (.int .u64 (L 0 a))∧w'.cell? ⟨w.heap.size,1,none⟩=some (.int .u64 (L 1 a))∧w'.cell? ⟨w.heap.size,2,none⟩=some (.int .u64 (L 2 a))∧w'.cell? ⟨w.heap.size,3,none⟩=some (.int .u64 (L 3 a)))
  ((refine hS.out _ ?_;first | (with_reducible exact K.drew (Below.refl _ _)) | (with_reducible exact K.drew (K.alloc (Below.refl _ _) _)) | (with_reducible exact Below.refl _ _) | (with_reducible exact K.call (by go_split_ands;assumption) hk) | (with_reducible exact K.alloc (by go_split_ands;assumption) _) | (with_reducible exact K.again (by go_split_ands;assumption) (by omega) _) | (with_reducible exact K.set (by go_split_ands;assumption) (by first | omega | (simp;done) | (simp;omega)) _) | (with_reducible exact K.set (K.set (K.set (K.set (by go_split_ands;assumption) (by first | omega | (simp;done) | (simp;omega)) _) (by first | omega | (simp;done) | (simp;omega)) _) (by first | omega | (simp;done) | (simp;omega)) _) (by first | omega | (simp;done) | (simp;omega)) _)))
  (first
   | (go_at_call 77;with_reducible refine Calls.mono (H1.out _ (K.call hw (by go_split_ands;with_reducible assumption))) ?_;rintro e w' ⟨rfl,hk⟩)
   | (go_at_call 76;with_reducible refine Calls.mono (H2.out _) ?_;rintro e w' ⟨rfl,hk⟩))
 all_goals
  have hH:=‹Below _ _ _∧_›
  go_wp2_with fail
  go_ret
  exact ⟨rfl,K.call hw hH.1⟩
theorem cmp_neg (a m:Int):decide (cmp a m<0)=decide (a<m):=by
 unfold cmp
 by_cases h:a<m
 ·rw [if_pos h];simp [h]
 ·rw [if_neg h];split <;> simp [h]
theorem below_any {k a:Int} (ha:Num a) {w:World} (hT:Tab w) :
  Calls Tryz.prog 27 #[.int .i64 k,.agg #[.int .u64 (L 0 a),.int .u64 (L 1 a),.int .u64 (L 2 a),.int .u64 (L 3 a)]] w fun e w'=>e=.returned (.bool (decide (a<md k)))∧Below w.heap.size w w':=by
 have h:=below_walk (k:=k) (a:=a) (m:=md k) (c:=cmp a (md k)) (w:=w) (fun w1 hb=>f_mod k (hT.keep hb)) (fun w=>cmp_any ha (md_num k) w)
 rw [cmp_neg] at h
 exact h
theorem refBelow_any {k a:Int} (ha:Num a) (w:World) :
  Calls Tryz.prog 33 #[.int .i64 k,.agg #[.int .u64 (L 0 a),.int .u64 (L 1 a),.int .u64 (L 2 a),.int .u64 (L 3 a)]] w fun e w'=>e=.returned (.bool (decide (a<md k)))∧Below w.heap.size w w' :=
 refBelow_walk (fun w1 _=>ref_mod_any k w1) (fun w=>less_any ha (md_num k) w)
end Go.Proofs.YtjaahnlpnkcimaaGreatDoor
namespace Go.Proofs.YtjaahnlpnkcimaaGreatDoor
set_option maxRecDepth 100000
open Go.RowKit
theorem i34:(Tryz.prog.info? 34).map (·.size)=some 4:=by kernel_rfl
theorem i58:(Tryz.prog.info? 58).map (·.size)=some 12:=by kernel_rfl
theorem i40:(Tryz.prog.info? 40).map (·.size)=some 9:=by kernel_rfl
theorem hm:Tryz.prog.follows .mixedOrders=true:=by kernel_rfl
theorem g_bN0:Tryz.prog.built 34 []=some nz.toArray:=by kernel_rfl
theorem g_bN4 (a b c d:Int):Tryz.prog.built 34 [(0,.int .u64 a),(1,.int .u64 b),(2,.int .u64 c),(3,.int .u64 d)]=some ([Value.int .u64 a]++[Value.int .u64 b]++[Value.int .u64 c]++[Value.int .u64 d]).toArray:=by kernel_rfl
theorem g_bF (x y z:Fin m2):Tryz.prog.built 58 [(0,.agg (gc x).toArray),(1,.agg (gc y).toArray),(2,.agg (gc z).toArray)]=some (gc x++gc y++gc z).toArray:=by kernel_rfl
theorem g_bP (x y:Fin m2):Tryz.prog.built 40 [(0,.agg (gc x).toArray),(1,.agg (gc y).toArray)]=some (gc x++gc y++[Value.bool false]).toArray:=by kernel_rfl
theorem g_bY (y:Fin m2):Tryz.prog.built 40 [(1,.agg (gc y).toArray)]=some (nz++gc y++[Value.bool false]).toArray:=by kernel_rfl
theorem g_bPc (a b c d e f g h:Int):Tryz.prog.built 40 [(0,.agg ([Value.int .u64 a]++[Value.int .u64 b]++[Value.int .u64 c]++[Value.int .u64 d]).toArray),(1,.agg ([Value.int .u64 e]++[Value.int .u64 f]++[Value.int .u64 g]++[Value.int .u64 h]).toArray)]=some ([Value.int .u64 a]++[Value.int .u64 b]++[Value.int .u64 c]++[Value.int .u64 d]++[Value.int .u64 e]++[Value.int .u64 f]++[Value.int .u64 g]++[Value.int .u64 h]++[Value.bool false]).toArray:=by kernel_rfl
def fjc (p:P3 (Fin m2)):List Value:=gc p.x++gc p.y++gc p.z
def pcE (a:Ep m2):List Value:=gc a.x++gc a.y++[Value.bool false]
theorem cE20 (vs:List Value):∀ w,(callFunc 20 vs.toArray).run Tryz.prog w=.ok (.enter 20 vs.toArray) w:=callFunc_enter Tryz.func20 (by kernel_rfl) (by kernel_rfl) _
theorem cE93 (vs:List Value):∀ w,(callFunc 93 vs.toArray).run Tryz.prog w=.ok (.enter 93 vs.toArray) w:=callFunc_enter Tryz.func93 (by kernel_rfl) (by kernel_rfl) _
theorem cE21 (vs:List Value):∀ w,(callFunc 21 vs.toArray).run Tryz.prog w=.ok (.enter 21 vs.toArray) w:=callFunc_enter Tryz.func21 (by kernel_rfl) (by kernel_rfl) _
theorem cE70 (vs:List Value):∀ w,(callFunc 70 vs.toArray).run Tryz.prog w=.ok (.enter 70 vs.toArray) w:=callFunc_enter Tryz.func70 (by kernel_rfl) (by kernel_rfl) _
theorem cE85 (vs:List Value):∀ w,(callFunc 85 vs.toArray).run Tryz.prog w=.ok (.enter 85 vs.toArray) w:=callFunc_enter Tryz.func85 (by kernel_rfl) (by kernel_rfl) _
theorem cE94 (vs:List Value):∀ w,(callFunc 94 vs.toArray).run Tryz.prog w=.ok (.enter 94 vs.toArray) w:=callFunc_enter Tryz.func94 (by kernel_rfl) (by kernel_rfl) _
theorem cE33 (vs:List Value):∀ w,(callFunc 33 vs.toArray).run Tryz.prog w=.ok (.enter 33 vs.toArray) w:=callFunc_enter Tryz.func33 (by kernel_rfl) (by kernel_rfl) _
theorem cE71 (vs:List Value):∀ w,(callFunc 71 vs.toArray).run Tryz.prog w=.ok (.enter 71 vs.toArray) w:=callFunc_enter Tryz.func71 (by kernel_rfl) (by kernel_rfl) _
theorem cE68 (vs:List Value):∀ w,(callFunc 68 vs.toArray).run Tryz.prog w=.ok (.enter 68 vs.toArray) w:=callFunc_enter Tryz.func68 (by kernel_rfl) (by kernel_rfl) _
theorem cE67 (vs:List Value):∀ w,(callFunc 67 vs.toArray).run Tryz.prog w=.ok (.enter 67 vs.toArray) w:=callFunc_enter Tryz.func67 (by kernel_rfl) (by kernel_rfl) _
theorem cE69 (vs:List Value):∀ w,(callFunc 69 vs.toArray).run Tryz.prog w=.ok (.enter 69 vs.toArray) w:=callFunc_enter Tryz.func69 (by kernel_rfl) (by kernel_rfl) _
theorem cE72 (vs:List Value):∀ w,(callFunc 72 vs.toArray).run Tryz.prog w=.ok (.enter 72 vs.toArray) w:=callFunc_enter Tryz.func72 (by kernel_rfl) (by kernel_rfl) _
theorem cE39 (vs:List Value):∀ w,(callFunc 39 vs.toArray).run Tryz.prog w=.ok (.enter 39 vs.toArray) w:=callFunc_enter Tryz.func39 (by kernel_rfl) (by kernel_rfl) _
theorem cE38 (vs:List Value):∀ w,(callFunc 38 vs.toArray).run Tryz.prog w=.ok (.enter 38 vs.toArray) w:=callFunc_enter Tryz.func38 (by kernel_rfl) (by kernel_rfl) _
theorem cE42 (vs:List Value):∀ w,(callFunc 42 vs.toArray).run Tryz.prog w=.ok (.enter 42 vs.toArray) w:=callFunc_enter Tryz.func42 (by kernel_rfl) (by kernel_rfl) _
theorem cE40 (vs:List Value):∀ w,(callFunc 40 vs.toArray).run Tryz.prog w=.ok (.enter 40 vs.toArray) w:=callFunc_enter Tryz.func40 (by kernel_rfl) (by kernel_rfl) _
theorem cE78 (vs:List Value):∀ w,(callFunc 78 vs.toArray).run Tryz.prog w=.ok (.enter 78 vs.toArray) w:=callFunc_enter Tryz.func78 (by kernel_rfl) (by kernel_rfl) _
theorem cE41 (vs:List Value):∀ w,(callFunc 41 vs.toArray).run Tryz.prog w=.ok (.enter 41 vs.toArray) w:=callFunc_enter Tryz.func41 (by kernel_rfl) (by kernel_rfl) _
theorem s_add {w:World} (hT:Tab w) (x y:Fin m2):Calls Tryz.prog 71 [.agg (gc (x)).toArray,.agg (gc (y)).toArray].toArray w fun e w'=>e=.returned (.agg (gc (x+y)).toArray)∧Below w.heap.size w w':=by
 refine enter (args:=[.agg (gc (x)).toArray,.agg (gc (y)).toArray]) Tryz.func71 rfl 8 rfl (lk rfl) (fun a h=>?_)
 refine aX h [] [eN 2 _,eN 3 _,eN 4 _] ⟨rfl,rfl,rfl,T0⟩ [(2,.ptr 2 0),(3,.ptr 3 0),(4,.ptr 4 0)] [(2,gc (x)),(3,gc (y)),(4,nz)] (fun a w h=>?_)
 refine aX h [2] [eS 5 _,eS 6 _,eS 7 _,eM 4 _] ⟨rfl,rfl,fun L u=>u_call u (gd0 rfl) _ rfl _ _ _ rfl [_,_,_] rfl (cE20 _) _ (fun w hb=>d_add (hT.keep (Bs.kp_of hb)) _ _),rfl,T0⟩ [(4,_)] [(4,gc ((x)+(y)))] (fun a w h=>?_)
 refine wp_ret ?_
 refine ret_row h 4 34 rfl (lk rfl) 4 rfl (gc ((x)+(y))) rfl _ Tryz.underlying34 rfl i34 ?_
 exact ⟨rfl,h.grows⟩
theorem s_sub {w:World} (hT:Tab w) (x y:Fin m2):Calls Tryz.prog 68 [.agg (gc (x)).toArray,.agg (gc (y)).toArray].toArray w fun e w'=>e=.returned (.agg (gc (x-y)).toArray)∧Below w.heap.size w w':=by
 refine enter (args:=[.agg (gc (x)).toArray,.agg (gc (y)).toArray]) Tryz.func68 rfl 8 rfl (lk rfl) (fun a h=>?_)
 refine aX h [] [eN 2 _,eN 3 _,eN 4 _] ⟨rfl,rfl,rfl,T0⟩ [(2,.ptr 2 0),(3,.ptr 3 0),(4,.ptr 4 0)] [(2,gc (x)),(3,gc (y)),(4,nz)] (fun a w h=>?_)
 refine aX h [2] [eS 5 _,eS 6 _,eS 7 _,eM 4 _] ⟨rfl,rfl,fun L u=>u_call u (gd0 rfl) _ rfl _ _ _ rfl [_,_,_] rfl (cE93 _) _ (fun w hb=>d_sub (hT.keep (Bs.kp_of hb)) _ _),rfl,T0⟩ [(4,_)] [(4,gc ((x)-(y)))] (fun a w h=>?_)
 refine wp_ret ?_
 refine ret_row h 4 34 rfl (lk rfl) 4 rfl (gc ((x)-(y))) rfl _ Tryz.underlying34 rfl i34 ?_
 exact ⟨rfl,h.grows⟩
theorem s_mul {w:World} (hT:Tab w) (x y:Fin m2):Calls Tryz.prog 67 [.agg (gc (x)).toArray,.agg (gc (y)).toArray].toArray w fun e w'=>e=.returned (.agg (gc (x*y)).toArray)∧Below w.heap.size w w':=by
 refine enter (args:=[.agg (gc (x)).toArray,.agg (gc (y)).toArray]) Tryz.func67 rfl 8 rfl (lk rfl) (fun a h=>?_)
 refine aX h [] [eN 2 _,eN 3 _,eN 4 _] ⟨rfl,rfl,rfl,T0⟩ [(2,.ptr 2 0),(3,.ptr 3 0),(4,.ptr 4 0)] [(2,gc (x)),(3,gc (y)),(4,nz)] (fun a w h=>?_)
 refine aX h [2] [eS 5 _,eS 6 _,eS 7 _,eM 4 _] ⟨rfl,rfl,fun L u=>u_call u (gd0 rfl) _ rfl _ _ _ rfl [_,_,_] rfl (cE21 _) _ (fun w hb=>d_mul (hT.keep (Bs.kp_of hb)) _ _),rfl,T0⟩ [(4,_)] [(4,gc ((x)*(y)))] (fun a w h=>?_)
 refine wp_ret ?_
 refine ret_row h 4 34 rfl (lk rfl) 4 rfl (gc ((x)*(y))) rfl _ Tryz.underlying34 rfl i34 ?_
 exact ⟨rfl,h.grows⟩
theorem gc_one:gc 1=[Value.int .u64 1]++[Value.int .u64 0]++[Value.int .u64 0]++[Value.int .u64 0]:=by kernel_rfl
theorem s_small1 {w:World} :Calls Tryz.prog 94 [Value.int .u64 1].toArray w fun e w'=>e=.returned (.agg (gc 1).toArray)∧Below w.heap.size w w':=by
 refine enter (args:=[Value.int .u64 1]) Tryz.func94 rfl 5 rfl (lk rfl) (fun a h=>?_)
 refine aX h [] [eN 2 _] ⟨rfl,T0⟩ [(0,.val (Value.int .u64 1)),(2,.ptr 2 0)] [(2,nz)] (fun a w h=>?_)
 refine aX h [1] [eS 3 _,eS 4 (.val (.agg ([Value.int .u64 1]++[(Value.int IntKind.u64 0)]++[(Value.int IntKind.u64 0)]++[(Value.int IntKind.u64 0)]).toArray)),eM 2 _] ⟨rfl,fun L u=>u_build u (gd0 rfl) 4 rfl 34 #[(0,(.tmp 3)),(1,(.const (.int .u64 0))),(2,(.const (.int .u64 0))),(3,(.const (.int .u64 0)))] rfl [(0,Value.int .u64 1),(1,(Value.int IntKind.u64 0)),(2,(Value.int IntKind.u64 0)),(3,(Value.int IntKind.u64 0))] rfl ([Value.int .u64 1]++[(Value.int IntKind.u64 0)]++[(Value.int IntKind.u64 0)]++[(Value.int IntKind.u64 0)]) (g_bN4 _ _ _ _),rfl,T0⟩ [(2,_)] [(2,[Value.int .u64 1]++[(Value.int IntKind.u64 0)]++[(Value.int IntKind.u64 0)]++[(Value.int IntKind.u64 0)])] (fun a w h=>?_)
 refine wp_ret ?_
 refine ret_row h 2 34 rfl (lk rfl) 2 rfl ([Value.int .u64 1]++[(Value.int IntKind.u64 0)]++[(Value.int IntKind.u64 0)]++[(Value.int IntKind.u64 0)]) rfl _ Tryz.underlying34 rfl i34 ?_
 exact ⟨by rw [gc_one],h.grows⟩
theorem s_One {w:World} :Calls Tryz.prog 69 [].toArray w fun e w'=>e=.returned (.agg (gc 1).toArray)∧Below w.heap.size w w':=by
 refine enter (args:=[]) Tryz.func69 rfl 2 rfl (lk rfl) (fun a h=>?_)
 refine aX h [] [eN 0 _] ⟨rfl,T0⟩ [(0,.ptr 0 0)] [(0,nz)] (fun a w h=>?_)
 refine aX h [0] [eS 1 _,eM 0 _] ⟨fun L u=>u_call u (gd0 rfl) _ rfl _ _ _ rfl [_] rfl (cE94 _) _ (fun w hb=>s_small1),rfl,T0⟩ [(0,_)] [(0,gc (1))] (fun a w h=>?_)
 refine wp_ret ?_
 refine ret_row h 0 34 rfl (lk rfl) 0 rfl (gc (1)) rfl _ Tryz.underlying34 rfl i34 ?_
 exact ⟨rfl,h.grows⟩
theorem gc_ed:gc ed=[Value.int .u64 8496970652267935907]++[Value.int .u64 31536524315187371]++[Value.int .u64 10144147576115030168]++[Value.int .u64 5909686906226998899]:=by kernel_rfl
theorem s_D {w:World} :Calls Tryz.prog 72 [].toArray w fun e w'=>e=.returned (.agg (gc ed).toArray)∧Below w.heap.size w w':=by
 refine enter (args:=[]) Tryz.func72 rfl 2 rfl (lk rfl) (fun a h=>?_)
 refine aX h [] [eN 0 _] ⟨rfl,T0⟩ [(0,.ptr 0 0)] [(0,nz)] (fun a w h=>?_)
 refine aX h [0] [eS 1 (.val (.agg ([(Value.int IntKind.u64 8496970652267935907)]++[(Value.int IntKind.u64 31536524315187371)]++[(Value.int IntKind.u64 10144147576115030168)]++[(Value.int IntKind.u64 5909686906226998899)]).toArray)),eM 0 _] ⟨fun L u=>u_build u (gd0 rfl) 1 rfl 34 #[(0,(.const (.int .u64 8496970652267935907))),(1,(.const (.int .u64 31536524315187371))),(2,(.const (.int .u64 10144147576115030168))),(3,(.const (.int .u64 5909686906226998899)))] rfl [(0,(Value.int IntKind.u64 8496970652267935907)),(1,(Value.int IntKind.u64 31536524315187371)),(2,(Value.int IntKind.u64 10144147576115030168)),(3,(Value.int IntKind.u64 5909686906226998899))] rfl ([(Value.int IntKind.u64 8496970652267935907)]++[(Value.int IntKind.u64 31536524315187371)]++[(Value.int IntKind.u64 10144147576115030168)]++[(Value.int IntKind.u64 5909686906226998899)]) (g_bN4 _ _ _ _),rfl,T0⟩ [(0,_)] [(0,[(Value.int IntKind.u64 8496970652267935907)]++[(Value.int IntKind.u64 31536524315187371)]++[(Value.int IntKind.u64 10144147576115030168)]++[(Value.int IntKind.u64 5909686906226998899)])] (fun a w h=>?_)
 refine wp_ret ?_
 refine ret_row h 0 34 rfl (lk rfl) 0 rfl ([(Value.int IntKind.u64 8496970652267935907)]++[(Value.int IntKind.u64 31536524315187371)]++[(Value.int IntKind.u64 10144147576115030168)]++[(Value.int IntKind.u64 5909686906226998899)]) rfl _ Tryz.underlying34 rfl i34 ?_
 exact ⟨by rw [gc_ed],h.grows⟩
theorem s_None {w:World} :Calls Tryz.prog 39 [].toArray w fun e w'=>e=.returned (.agg (pcE (Ep.o m2)).toArray)∧Below w.heap.size w w':=by
 refine enter (args:=[]) Tryz.func39 rfl 3 rfl (lk rfl) (fun a h=>?_)
 refine aX h [] [eN 0 _] ⟨rfl,T0⟩ [(0,.ptr 0 0)] [(0,nz++nz++[Value.bool false])] (fun a w h=>?_)
 refine aX h [0,1] [eS 1 _,eS 2 (.val (.agg (nz++gc (1)++[Value.bool false]).toArray)),eM 0 _] ⟨fun L u=>u_call u (gd0 rfl) _ rfl _ _ _ rfl [] rfl (cE69 _) _ (fun w hb=>s_One),fun L u=>u_build u (gd0 rfl) 2 rfl 40 #[(1,(.tmp 1))] rfl [(1,.agg (gc (1)).toArray)] rfl (nz++gc (1)++[Value.bool false]) (g_bY _),rfl,T0⟩ [(0,_)] [(0,nz++gc (1)++[Value.bool false])] (fun a w h=>?_)
 refine wp_ret ?_
 refine ret_row h 0 40 rfl (lk rfl) 0 rfl (nz++gc (1)++[Value.bool false]) rfl _ Tryz.underlying40 rfl i40 ?_
 exact ⟨by rw [nz_gc];rfl,h.grows⟩
theorem s_plus {w:World} (hT:Tab w) (x1 y1 z1 x2 y2 z2:Fin m2):Calls Tryz.prog 78 [.agg (gc (x1)++gc (y1)++gc (z1)).toArray,.agg (gc (x2)++gc (y2)++gc (z2)).toArray].toArray w fun e w'=>e=.returned (.agg (fjc (fadd ⟨x1,y1,z1⟩ ⟨x2,y2,z2⟩)).toArray)∧Below w.heap.size w w':=by
 refine enter (args:=[.agg (gc (x1)++gc (y1)++gc (z1)).toArray,.agg (gc (x2)++gc (y2)++gc (z2)).toArray]) Tryz.func78 rfl 69 rfl (lk rfl) (fun a h=>?_)
 refine aX h [] [eN 2 _,eN 3 _,eN 4 _] ⟨rfl,rfl,rfl,T0⟩ [(2,.ptr 2 0),(3,.ptr 3 0),(4,.ptr 4 0)] [(2,gc (x1)++gc (y1)++gc (z1)),(3,gc (x2)++gc (y2)++gc (z2)),(4,nz++nz++nz)] (fun a w h=>?_)
 refine aX h [4] [eS 13 _,eS 14 _,eS 15 _,eS 16 _,eS 17 _,eN 5 _,eM 5 _] ⟨rfl,rfl,rfl,rfl,fun L u=>u_call u (gd0 rfl) _ rfl _ _ _ rfl [_,_] rfl (cE67 _) _ (fun w hb=>s_mul (hT.keep (Bs.kp_of hb)) _ _),rfl,rfl,T0⟩ [(2,_),(3,_),(4,_),(5,.ptr 5 0)] [(2,_),(3,_),(4,_),(5,gc ((z1)*(z2)))] (fun a w h=>?_)
 refine aX h [2] [eS 18 _,eS 19 _,eS 20 _,eN 6 _,eM 6 _] ⟨rfl,rfl,fun L u=>u_call u (gd0 rfl) _ rfl _ _ _ rfl [_,_] rfl (cE67 _) _ (fun w hb=>s_mul (hT.keep (Bs.kp_of hb)) _ _),rfl,rfl,T0⟩ [(2,_),(3,_),(4,_),(5,_),(6,.ptr 6 0)] [(2,_),(3,_),(4,_),(5,_),(6,gc (((z1)*(z2))*((z1)*(z2))))] (fun a w h=>?_)
 refine aX h [4,9] [eS 21 _,eS 22 _,eS 23 _,eS 24 _,eS 25 _,eS 26 _,eS 27 _,eS 28 _,eS 29 _,eS 30 _,eN 7 _,eN 8 _,eM 7 _,eM 8 _] ⟨rfl,rfl,rfl,rfl,fun L u=>u_call u (gd0 rfl) _ rfl _ _ _ rfl [_,_] rfl (cE67 _) _ (fun w hb=>s_mul (hT.keep (Bs.kp_of hb)) _ _),rfl,rfl,rfl,rfl,fun L u=>u_call u (gd0 rfl) _ rfl _ _ _ rfl [_,_] rfl (cE67 _) _ (fun w hb=>s_mul (hT.keep (Bs.kp_of hb)) _ _),rfl,rfl,rfl,rfl,T0⟩ [(2,_),(3,_),(4,_),(5,_),(6,_),(7,.ptr 7 0),(8,.ptr 8 0)] [(2,_),(3,_),(4,_),(5,_),(6,_),(7,gc ((x1)*(x2))),(8,gc ((y1)*(y2)))] (fun a w h=>?_)
 refine aX h [0,3,4] [eS 31 _,eS 32 _,eS 33 _,eS 34 _,eS 35 _,eN 9 _,eM 9 _] ⟨fun L u=>u_call u (gd0 rfl) _ rfl _ _ _ rfl [] rfl (cE72 _) _ (fun w hb=>s_D),rfl,rfl,fun L u=>u_call u (gd0 rfl) _ rfl _ _ _ rfl [_,_] rfl (cE67 _) _ (fun w hb=>s_mul (hT.keep (Bs.kp_of hb)) _ _),fun L u=>u_call u (gd0 rfl) _ rfl _ _ _ rfl [_,_] rfl (cE67 _) _ (fun w hb=>s_mul (hT.keep (Bs.kp_of hb)) _ _),rfl,rfl,T0⟩ [(2,_),(3,_),(4,_),(5,_),(6,_),(7,_),(8,_),(9,.ptr 9 0)] [(2,_),(3,_),(4,_),(5,_),(6,_),(7,_),(8,_),(9,gc ((ed)*(((x1)*(x2))*((y1)*(y2)))))] (fun a w h=>?_)
 refine aX h [4,9,10] [eS 36 _,eS 37 _,eS 38 _,eS 39 _,eS 40 _,eS 41 _,eS 42 _,eS 43 _,eS 44 _,eS 45 _,eS 46 _,eN 10 _,eM 10 _] ⟨rfl,rfl,rfl,rfl,fun L u=>u_call u (gd0 rfl) _ rfl _ _ _ rfl [_,_] rfl (cE67 _) _ (fun w hb=>s_mul (hT.keep (Bs.kp_of hb)) _ _),rfl,rfl,rfl,rfl,fun L u=>u_call u (gd0 rfl) _ rfl _ _ _ rfl [_,_] rfl (cE67 _) _ (fun w hb=>s_mul (hT.keep (Bs.kp_of hb)) _ _),fun L u=>u_call u (gd0 rfl) _ rfl _ _ _ rfl [_,_] rfl (cE71 _) _ (fun w hb=>s_add (hT.keep (Bs.kp_of hb)) _ _),rfl,rfl,T0⟩ [(4,_),(5,_),(6,_),(7,_),(8,_),(9,_),(10,.ptr 10 0)] [(4,_),(5,_),(6,_),(7,_),(8,_),(9,_),(10,gc (((x1)*(y2))+((x2)*(y1))))] (fun a w h=>?_)
 refine aX h [2,5] [eS 47 _,eS 48 _,eS 49 _,eS 50 _,eS 51 _,eS 52 _,eN 11 _,eN 12 _,eM 11 _,eM 12 _] ⟨rfl,rfl,fun L u=>u_call u (gd0 rfl) _ rfl _ _ _ rfl [_,_] rfl (cE68 _) _ (fun w hb=>s_sub (hT.keep (Bs.kp_of hb)) _ _),rfl,rfl,fun L u=>u_call u (gd0 rfl) _ rfl _ _ _ rfl [_,_] rfl (cE71 _) _ (fun w hb=>s_add (hT.keep (Bs.kp_of hb)) _ _),rfl,rfl,rfl,rfl,T0⟩ [(4,_),(5,_),(7,_),(8,_),(10,_),(11,.ptr 11 0),(12,.ptr 12 0)] [(4,_),(5,_),(7,_),(8,_),(10,_),(11,gc ((((z1)*(z2))*((z1)*(z2)))-((ed)*(((x1)*(x2))*((y1)*(y2)))))),(12,gc ((((z1)*(z2))*((z1)*(z2)))+((ed)*(((x1)*(x2))*((y1)*(y2))))))] (fun a w h=>?_)
 refine aX h [2,4,8,9,11,14,15] [eS 53 _,eS 54 _,eS 55 _,eS 56 _,eS 57 _,eS 58 _,eS 59 _,eS 60 _,eS 61 _,eS 62 _,eS 63 _,eS 64 _,eS 65 _,eS 66 _,eS 67 _,eS 68 (.val (.agg (gc ((((z1)*(z2))*(((x1)*(y2))+((x2)*(y1))))*((((z1)*(z2))*((z1)*(z2)))-((ed)*(((x1)*(x2))*((y1)*(y2))))))++gc ((((z1)*(z2))*(((y1)*(y2))+((x1)*(x2))))*((((z1)*(z2))*((z1)*(z2)))+((ed)*(((x1)*(x2))*((y1)*(y2))))))++gc (((((z1)*(z2))*((z1)*(z2)))-((ed)*(((x1)*(x2))*((y1)*(y2)))))*((((z1)*(z2))*((z1)*(z2)))+((ed)*(((x1)*(x2))*((y1)*(y2))))))).toArray)),eM 4 _] ⟨rfl,rfl,fun L u=>u_call u (gd0 rfl) _ rfl _ _ _ rfl [_,_] rfl (cE67 _) _ (fun w hb=>s_mul (hT.keep (Bs.kp_of hb)) _ _),rfl,fun L u=>u_call u (gd0 rfl) _ rfl _ _ _ rfl [_,_] rfl (cE67 _) _ (fun w hb=>s_mul (hT.keep (Bs.kp_of hb)) _ _),rfl,rfl,rfl,fun L u=>u_call u (gd0 rfl) _ rfl _ _ _ rfl [_,_] rfl (cE71 _) _ (fun w hb=>s_add (hT.keep (Bs.kp_of hb)) _ _),fun L u=>u_call u (gd0 rfl) _ rfl _ _ _ rfl [_,_] rfl (cE67 _) _ (fun w hb=>s_mul (hT.keep (Bs.kp_of hb)) _ _),rfl,fun L u=>u_call u (gd0 rfl) _ rfl _ _ _ rfl [_,_] rfl (cE67 _) _ (fun w hb=>s_mul (hT.keep (Bs.kp_of hb)) _ _),rfl,rfl,fun L u=>u_call u (gd0 rfl) _ rfl _ _ _ rfl [_,_] rfl (cE67 _) _ (fun w hb=>s_mul (hT.keep (Bs.kp_of hb)) _ _),fun L u=>u_build u (gd0 rfl) 68 rfl 58 #[(0,(.tmp 57)),(1,(.tmp 64)),(2,(.tmp 67))] rfl [(0,.agg (gc ((((z1)*(z2))*(((x1)*(y2))+((x2)*(y1))))*((((z1)*(z2))*((z1)*(z2)))-((ed)*(((x1)*(x2))*((y1)*(y2))))))).toArray),(1,.agg (gc ((((z1)*(z2))*(((y1)*(y2))+((x1)*(x2))))*((((z1)*(z2))*((z1)*(z2)))+((ed)*(((x1)*(x2))*((y1)*(y2))))))).toArray),(2,.agg (gc (((((z1)*(z2))*((z1)*(z2)))-((ed)*(((x1)*(x2))*((y1)*(y2)))))*((((z1)*(z2))*((z1)*(z2)))+((ed)*(((x1)*(x2))*((y1)*(y2))))))).toArray)] rfl (gc ((((z1)*(z2))*(((x1)*(y2))+((x2)*(y1))))*((((z1)*(z2))*((z1)*(z2)))-((ed)*(((x1)*(x2))*((y1)*(y2))))))++gc ((((z1)*(z2))*(((y1)*(y2))+((x1)*(x2))))*((((z1)*(z2))*((z1)*(z2)))+((ed)*(((x1)*(x2))*((y1)*(y2))))))++gc (((((z1)*(z2))*((z1)*(z2)))-((ed)*(((x1)*(x2))*((y1)*(y2)))))*((((z1)*(z2))*((z1)*(z2)))+((ed)*(((x1)*(x2))*((y1)*(y2))))))) (g_bF _ _ _),rfl,T0⟩ [(4,_)] [(4,gc ((((z1)*(z2))*(((x1)*(y2))+((x2)*(y1))))*((((z1)*(z2))*((z1)*(z2)))-((ed)*(((x1)*(x2))*((y1)*(y2))))))++gc ((((z1)*(z2))*(((y1)*(y2))+((x1)*(x2))))*((((z1)*(z2))*((z1)*(z2)))+((ed)*(((x1)*(x2))*((y1)*(y2))))))++gc (((((z1)*(z2))*((z1)*(z2)))-((ed)*(((x1)*(x2))*((y1)*(y2)))))*((((z1)*(z2))*((z1)*(z2)))+((ed)*(((x1)*(x2))*((y1)*(y2)))))))] (fun a w h=>?_)
 refine wp_ret ?_
 refine ret_row h 4 58 rfl (lk rfl) 4 rfl (gc ((((z1)*(z2))*(((x1)*(y2))+((x2)*(y1))))*((((z1)*(z2))*((z1)*(z2)))-((ed)*(((x1)*(x2))*((y1)*(y2))))))++gc ((((z1)*(z2))*(((y1)*(y2))+((x1)*(x2))))*((((z1)*(z2))*((z1)*(z2)))+((ed)*(((x1)*(x2))*((y1)*(y2))))))++gc (((((z1)*(z2))*((z1)*(z2)))-((ed)*(((x1)*(x2))*((y1)*(y2)))))*((((z1)*(z2))*((z1)*(z2)))+((ed)*(((x1)*(x2))*((y1)*(y2))))))) rfl _ Tryz.underlying58 rfl i58 ?_
 exact ⟨rfl,h.grows⟩
theorem s_drop {w:World} (hT:Tab w) (x y z:Fin m2):Calls Tryz.prog 40 [.agg (gc (x)++gc (y)++gc (z)).toArray].toArray w fun e w'=>e=.returned (.agg (pcE (fdrop ⟨x,y,z⟩)).toArray)∧Below w.heap.size w w':=by
 refine enter (args:=[.agg (gc (x)++gc (y)++gc (z)).toArray]) Tryz.func40 rfl 16 rfl (lk rfl) (fun a h=>?_)
 refine aX h [] [eN 1 _,eN 2 _] ⟨rfl,rfl,T0⟩ [(1,.ptr 1 0),(2,.ptr 2 0)] [(1,gc (x)++gc (y)++gc (z)),(2,nz++nz++[Value.bool false])] (fun a w h=>?_)
 refine aX h [2] [eS 4 _,eS 5 _,eS 6 _,eN 3 _,eM 3 _] ⟨rfl,rfl,fun L u=>u_call u (gd0 rfl) _ rfl _ _ _ rfl [_,_] rfl (cE70 _) _ (fun w hb=>d_inv (hT.keep (Bs.kp_of hb)) _),rfl,rfl,T0⟩ [(1,_),(2,_),(3,.ptr 3 0)] [(1,_),(2,_),(3,gc (fiv (z)))] (fun a w h=>?_)
 refine aX h [3,7,8] [eS 7 _,eS 8 _,eS 9 _,eS 10 _,eS 11 _,eS 12 _,eS 13 _,eS 14 _,eS 15 (.val (.agg (gc ((x)*(fiv (z)))++gc ((y)*(fiv (z)))++[Value.bool false]).toArray)),eM 2 _] ⟨rfl,rfl,rfl,fun L u=>u_call u (gd0 rfl) _ rfl _ _ _ rfl [_,_] rfl (cE67 _) _ (fun w hb=>s_mul (hT.keep (Bs.kp_of hb)) _ _),rfl,rfl,rfl,fun L u=>u_call u (gd0 rfl) _ rfl _ _ _ rfl [_,_] rfl (cE67 _) _ (fun w hb=>s_mul (hT.keep (Bs.kp_of hb)) _ _),fun L u=>u_build u (gd0 rfl) 15 rfl 40 #[(0,(.tmp 10)),(1,(.tmp 14))] rfl [(0,.agg (gc ((x)*(fiv (z)))).toArray),(1,.agg (gc ((y)*(fiv (z)))).toArray)] rfl (gc ((x)*(fiv (z)))++gc ((y)*(fiv (z)))++[Value.bool false]) (g_bP _ _),rfl,T0⟩ [(2,_)] [(2,gc ((x)*(fiv (z)))++gc ((y)*(fiv (z)))++[Value.bool false])] (fun a w h=>?_)
 refine wp_ret ?_
 refine ret_row h 2 40 rfl (lk rfl) 2 rfl (gc ((x)*(fiv (z)))++gc ((y)*(fiv (z)))++[Value.bool false]) rfl _ Tryz.underlying40 rfl i40 ?_
 exact ⟨rfl,h.grows⟩
theorem s_below {a:Int} (ha:Num a) {t:Bool} (ht:decide (a<md 2)=t) {w:World}:Calls Tryz.prog 33 [.int .i64 2,.agg (nc a).toArray].toArray w fun e w'=>e=.returned (.bool t)∧Below w.heap.size w w':=by
 rw [← ht]
 exact refBelow_any ha w
theorem gin_lt (x:Fin m2):decide ((x.val:Int)<md 2)=true:=by
 rw [md_m2]
 have:=x.isLt
 exact decide_eq_true (by omega)
theorem s_formed_none {w:World} {X Y:Int}:Calls Tryz.prog 38 [.agg (nc (X)++nc (Y)++[Value.bool true]).toArray].toArray w fun e w'=>e=.returned (.bool false)∧Below w.heap.size w w':=by
 refine enter (args:=[.agg (nc (X)++nc (Y)++[Value.bool true]).toArray]) Tryz.func38 rfl 40 rfl (lk rfl) (fun a h=>?_)
 refine aX h [] [eN 1 _,eS 2 _] ⟨rfl,rfl,T0⟩ [(1,.ptr 1 0)] [(1,nc (X)++nc (Y)++[Value.bool true])] (fun a w h=>?_)
 refine wp_seq ?_
 refine aX h [] [eS 5 _,eS 6 _,eS 7 _,eS 8 _,eS 9 _,eS 10 _,eS 11 _,eS 12 _,eS 13 _,eS 14 _,eS 15 _,eS 16 _,eS 17 _,eS 18 _] ⟨rfl,rfl,rfl,rfl,rfl,rfl,rfl,rfl,rfl,rfl,rfl,rfl,rfl,rfl,T0⟩ [(1,_),(18,.val (Value.bool true))] [(1,_)] (fun a w h=>?_)
 refine go_cond h true rfl (fun ht=>?_) (fun hf=>?_)
 case refine_2=>cases hf
 refine aX h [] [eS 2 _] ⟨rfl,T0⟩ [(2,.val (Value.bool false))] [] (fun a w h=>?_)
 refine wp_ret ?_
 refine then_ret ?_
 refine ret_slot h 2 rfl (lk rfl) (Value.bool false) rfl ?_
 exact ⟨rfl,h.grows⟩
theorem s_formed_x {w:World} {X Y:Int} (hX:Num X) (bX:decide (X<md 2)=false):Calls Tryz.prog 38 [.agg (nc (X)++nc (Y)++[Value.bool false]).toArray].toArray w fun e w'=>e=.returned (.bool false)∧Below w.heap.size w w':=by
 refine enter (args:=[.agg (nc (X)++nc (Y)++[Value.bool false]).toArray]) Tryz.func38 rfl 40 rfl (lk rfl) (fun a h=>?_)
 refine aX h [] [eN 1 _,eS 2 _] ⟨rfl,rfl,T0⟩ [(1,.ptr 1 0)] [(1,nc (X)++nc (Y)++[Value.bool false])] (fun a w h=>?_)
 refine wp_seq ?_
 refine aX h [5] [eS 5 _,eS 6 _,eS 7 _,eS 8 _,eS 9 _,eS 10 _,eS 11 _,eS 12 _,eS 13 _,eS 14 _,eS 15 _,eS 16 _,eS 17 _,eS 18 _] ⟨rfl,rfl,rfl,rfl,rfl,fun L u=>u_call u (gd1 u 2 false rfl 7 rfl (lk rfl) rfl) _ rfl _ _ _ rfl [_,_] rfl (cE33 _) _ (fun w hb=>s_below hX bX),rfl,rfl,rfl,rfl,rfl,rfl,rfl,rfl,T0⟩ [(1,_),(18,.val (Value.bool true))] [(1,_)] (fun a w h=>?_)
 refine go_cond h true rfl (fun ht=>?_) (fun hf=>?_)
 case refine_2=>cases hf
 refine aX h [] [eS 2 _] ⟨rfl,T0⟩ [(2,.val (Value.bool false))] [] (fun a w h=>?_)
 refine wp_ret ?_
 refine then_ret ?_
 refine ret_slot h 2 rfl (lk rfl) (Value.bool false) rfl ?_
 exact ⟨rfl,h.grows⟩
theorem s_formed_y {w:World} {X Y:Int} (hX:Num X) (bX:decide (X<md 2)=true) (hY:Num Y) (bY:decide (Y<md 2)=false):Calls Tryz.prog 38 [.agg (nc (X)++nc (Y)++[Value.bool false]).toArray].toArray w fun e w'=>e=.returned (.bool false)∧Below w.heap.size w w':=by
 refine enter (args:=[.agg (nc (X)++nc (Y)++[Value.bool false]).toArray]) Tryz.func38 rfl 40 rfl (lk rfl) (fun a h=>?_)
 refine aX h [] [eN 1 _,eS 2 _] ⟨rfl,rfl,T0⟩ [(1,.ptr 1 0)] [(1,nc (X)++nc (Y)++[Value.bool false])] (fun a w h=>?_)
 refine wp_seq ?_
 refine aX h [5,11] [eS 5 _,eS 6 _,eS 7 _,eS 8 _,eS 9 _,eS 10 _,eS 11 _,eS 12 _,eS 13 _,eS 14 _,eS 15 _,eS 16 _,eS 17 _,eS 18 _] ⟨rfl,rfl,rfl,rfl,rfl,fun L u=>u_call u (gd1 u 2 false rfl 7 rfl (lk rfl) rfl) _ rfl _ _ _ rfl [_,_] rfl (cE33 _) _ (fun w hb=>s_below hX bX),rfl,rfl,rfl,rfl,rfl,fun L u=>u_call u (gd1 u 8 false rfl 13 rfl (lk rfl) rfl) _ rfl _ _ _ rfl [_,_] rfl (cE33 _) _ (fun w hb=>s_below hY bY),rfl,rfl,T0⟩ [(1,_),(18,.val (Value.bool true))] [(1,_)] (fun a w h=>?_)
 refine go_cond h true rfl (fun ht=>?_) (fun hf=>?_)
 case refine_2=>cases hf
 refine aX h [] [eS 2 _] ⟨rfl,T0⟩ [(2,.val (Value.bool false))] [] (fun a w h=>?_)
 refine wp_ret ?_
 refine then_ret ?_
 refine ret_slot h 2 rfl (lk rfl) (Value.bool false) rfl ?_
 exact ⟨rfl,h.grows⟩
theorem s_formed_at {w:World} (hT:Tab w) (x y:Fin m2):Calls Tryz.prog 38 [.agg (gc (x)++gc (y)++[Value.bool false]).toArray].toArray w fun e w'=>e=.returned (.bool (decide (y*y-x*x=1+ed*(x*x*(y*y)))))∧Below w.heap.size w w':=by
 refine enter (args:=[.agg (gc (x)++gc (y)++[Value.bool false]).toArray]) Tryz.func38 rfl 40 rfl (lk rfl) (fun a h=>?_)
 refine aX h [] [eN 1 _,eS 2 _] ⟨rfl,rfl,T0⟩ [(1,.ptr 1 0)] [(1,gc (x)++gc (y)++[Value.bool false])] (fun a w h=>?_)
 refine wp_seq ?_
 refine aX h [5,11] [eS 5 _,eS 6 _,eS 7 _,eS 8 _,eS 9 _,eS 10 _,eS 11 _,eS 12 _,eS 13 _,eS 14 _,eS 15 _,eS 16 _,eS 17 _,eS 18 _] ⟨rfl,rfl,rfl,rfl,rfl,fun L u=>u_call u (gd1 u 2 false rfl 7 rfl (lk rfl) rfl) _ rfl _ _ _ rfl [_,_] rfl (cE33 _) _ (fun w hb=>s_below (gin_num _) (gin_lt _)),rfl,rfl,rfl,rfl,rfl,fun L u=>u_call u (gd1 u 8 false rfl 13 rfl (lk rfl) rfl) _ rfl _ _ _ rfl [_,_] rfl (cE33 _) _ (fun w hb=>s_below (gin_num _) (gin_lt _)),rfl,rfl,T0⟩ [(1,_),(18,.val (Value.bool false))] [(1,_)] (fun a w h=>?_)
 refine go_cond h false rfl (fun ht=>?_) (fun hf=>?_)
 case refine_1=>cases ht
 refine wp_skip ?_
 refine then_norm ?_
 refine aX h [4,9] [eS 19 _,eS 20 _,eS 21 _,eS 22 _,eS 23 _,eS 24 _,eS 25 _,eS 26 _,eS 27 _,eS 28 _,eN 3 _,eN 4 _,eM 3 _,eM 4 _] ⟨rfl,rfl,rfl,rfl,fun L u=>u_call u (gd0 rfl) _ rfl _ _ _ rfl [_,_] rfl (cE67 _) _ (fun w hb=>s_mul (hT.keep (Bs.kp_of hb)) _ _),rfl,rfl,rfl,rfl,fun L u=>u_call u (gd0 rfl) _ rfl _ _ _ rfl [_,_] rfl (cE67 _) _ (fun w hb=>s_mul (hT.keep (Bs.kp_of hb)) _ _),rfl,rfl,rfl,rfl,T0⟩ [(3,.ptr 3 0),(4,.ptr 4 0)] [(3,gc ((x)*(x))),(4,gc ((y)*(y)))] (fun a w h=>?_)
 refine aX h [2,3,4,7,8,9,10] [eS 29 _,eS 30 _,eS 31 _,eS 32 _,eS 33 _,eS 34 _,eS 35 _,eS 36 _,eS 37 _,eS 38 _,eS 39 (.val (Value.bool (decide (((y)*(y))-((x)*(x))=(1)+((ed)*(((x)*(x))*((y)*(y)))))))),eS 2 _] ⟨rfl,rfl,fun L u=>u_call u (gd0 rfl) _ rfl _ _ _ rfl [_,_] rfl (cE68 _) _ (fun w hb=>s_sub (hT.keep (Bs.kp_of hb)) _ _),fun L u=>u_call u (gd0 rfl) _ rfl _ _ _ rfl [] rfl (cE69 _) _ (fun w hb=>s_One),fun L u=>u_call u (gd0 rfl) _ rfl _ _ _ rfl [] rfl (cE72 _) _ (fun w hb=>s_D),rfl,rfl,fun L u=>u_call u (gd0 rfl) _ rfl _ _ _ rfl [_,_] rfl (cE67 _) _ (fun w hb=>s_mul (hT.keep (Bs.kp_of hb)) _ _),fun L u=>u_call u (gd0 rfl) _ rfl _ _ _ rfl [_,_] rfl (cE67 _) _ (fun w hb=>s_mul (hT.keep (Bs.kp_of hb)) _ _),fun L u=>u_call u (gd0 rfl) _ rfl _ _ _ rfl [_,_] rfl (cE71 _) _ (fun w hb=>s_add (hT.keep (Bs.kp_of hb)) _ _),fun L u=>u_eql u (gd0 rfl) 39 rfl 34 34 (.tmp 31) (.tmp 38) rfl rfl rfl Tryz.eqGuardType34 (decide (((y)*(y))-((x)*(x))=(1)+((ed)*(((x)*(x))*((y)*(y)))))) (fun w=>eq_gc _ _ w),rfl,T0⟩ [(2,.val (Value.bool (decide (((y)*(y))-((x)*(x))=(1)+((ed)*(((x)*(x))*((y)*(y))))))))] [] (fun a w h=>?_)
 refine wp_ret ?_
 refine ret_slot h 2 rfl (lk rfl) (Value.bool (decide (((y)*(y))-((x)*(x))=(1)+((ed)*(((x)*(x))*((y)*(y))))))) rfl ?_
 exact ⟨rfl,h.grows⟩
theorem s_lift_none {w:World} {X Y:Int}:Calls Tryz.prog 42 [.agg (nc (X)++nc (Y)++[Value.bool true]).toArray].toArray w fun e w'=>e=.returned (.agg (fjc (flift (Ep.o m2))).toArray)∧Below w.heap.size w w':=by
 refine enter (args:=[.agg (nc (X)++nc (Y)++[Value.bool true]).toArray]) Tryz.func42 rfl 13 rfl (lk rfl) (fun a h=>?_)
 refine aX h [] [eN 1 _,eN 2 _] ⟨rfl,rfl,T0⟩ [(1,.ptr 1 0),(2,.ptr 2 0)] [(1,nc (X)++nc (Y)++[Value.bool true]),(2,nz++nz++nz)] (fun a w h=>?_)
 refine wp_seq ?_
 refine aX h [1] [eS 3 _,eS 4 _,eS 5 _] ⟨rfl,fun L u=>u_call u (gd0 rfl) _ rfl _ _ _ rfl [_] rfl (cE38 _) _ (fun w hb=>s_formed_none),rfl,T0⟩ [(1,_),(2,_),(5,.val (Value.bool true))] [(1,_),(2,_)] (fun a w h=>?_)
 refine go_cond h true rfl (fun ht=>?_) (fun hf=>?_)
 case refine_2=>cases hf
 refine aE h [0] [eS 6 _,eM 1 _] ⟨fun L u=>u_call u (gd0 rfl) _ rfl _ _ _ rfl [] rfl (cE39 _) _ (fun w hb=>s_None),rfl,T0⟩ [(1,_),(2,_)] [(1,gc ((Ep.o m2).x)++gc ((Ep.o m2).y)++[Value.bool false]),(2,_)] (fun a w h=>?_)
 refine then_norm ?_
 refine aX h [4,5] [eS 7 _,eS 8 _,eS 9 _,eS 10 _,eS 11 _,eS 12 (.val (.agg (gc ((Ep.o m2).x)++gc ((Ep.o m2).y)++gc (1)).toArray)),eM 2 _] ⟨rfl,rfl,rfl,rfl,fun L u=>u_call u (gd0 rfl) _ rfl _ _ _ rfl [] rfl (cE69 _) _ (fun w hb=>s_One),fun L u=>u_build u (gd0 rfl) 12 rfl 58 #[(0,(.tmp 8)),(1,(.tmp 10)),(2,(.tmp 11))] rfl [(0,.agg (gc ((Ep.o m2).x)).toArray),(1,.agg (gc ((Ep.o m2).y)).toArray),(2,.agg (gc (1)).toArray)] rfl (gc ((Ep.o m2).x)++gc ((Ep.o m2).y)++gc (1)) (g_bF _ _ _),rfl,T0⟩ [(2,_)] [(2,gc ((Ep.o m2).x)++gc ((Ep.o m2).y)++gc (1))] (fun a w h=>?_)
 refine wp_ret ?_
 refine ret_row h 2 58 rfl (lk rfl) 2 rfl (gc ((Ep.o m2).x)++gc ((Ep.o m2).y)++gc (1)) rfl _ Tryz.underlying58 rfl i58 ?_
 exact ⟨rfl,h.grows⟩
theorem s_lift_x {w:World} {X Y:Int} (hX:Num X) (bX:decide (X<md 2)=false):Calls Tryz.prog 42 [.agg (nc (X)++nc (Y)++[Value.bool false]).toArray].toArray w fun e w'=>e=.returned (.agg (fjc (flift (Ep.o m2))).toArray)∧Below w.heap.size w w':=by
 refine enter (args:=[.agg (nc (X)++nc (Y)++[Value.bool false]).toArray]) Tryz.func42 rfl 13 rfl (lk rfl) (fun a h=>?_)
 refine aX h [] [eN 1 _,eN 2 _] ⟨rfl,rfl,T0⟩ [(1,.ptr 1 0),(2,.ptr 2 0)] [(1,nc (X)++nc (Y)++[Value.bool false]),(2,nz++nz++nz)] (fun a w h=>?_)
 refine wp_seq ?_
 refine aX h [1] [eS 3 _,eS 4 _,eS 5 _] ⟨rfl,fun L u=>u_call u (gd0 rfl) _ rfl _ _ _ rfl [_] rfl (cE38 _) _ (fun w hb=>s_formed_x hX bX),rfl,T0⟩ [(1,_),(2,_),(5,.val (Value.bool true))] [(1,_),(2,_)] (fun a w h=>?_)
 refine go_cond h true rfl (fun ht=>?_) (fun hf=>?_)
 case refine_2=>cases hf
 refine aE h [0] [eS 6 _,eM 1 _] ⟨fun L u=>u_call u (gd0 rfl) _ rfl _ _ _ rfl [] rfl (cE39 _) _ (fun w hb=>s_None),rfl,T0⟩ [(1,_),(2,_)] [(1,gc ((Ep.o m2).x)++gc ((Ep.o m2).y)++[Value.bool false]),(2,_)] (fun a w h=>?_)
 refine then_norm ?_
 refine aX h [4,5] [eS 7 _,eS 8 _,eS 9 _,eS 10 _,eS 11 _,eS 12 (.val (.agg (gc ((Ep.o m2).x)++gc ((Ep.o m2).y)++gc (1)).toArray)),eM 2 _] ⟨rfl,rfl,rfl,rfl,fun L u=>u_call u (gd0 rfl) _ rfl _ _ _ rfl [] rfl (cE69 _) _ (fun w hb=>s_One),fun L u=>u_build u (gd0 rfl) 12 rfl 58 #[(0,(.tmp 8)),(1,(.tmp 10)),(2,(.tmp 11))] rfl [(0,.agg (gc ((Ep.o m2).x)).toArray),(1,.agg (gc ((Ep.o m2).y)).toArray),(2,.agg (gc (1)).toArray)] rfl (gc ((Ep.o m2).x)++gc ((Ep.o m2).y)++gc (1)) (g_bF _ _ _),rfl,T0⟩ [(2,_)] [(2,gc ((Ep.o m2).x)++gc ((Ep.o m2).y)++gc (1))] (fun a w h=>?_)
 refine wp_ret ?_
 refine ret_row h 2 58 rfl (lk rfl) 2 rfl (gc ((Ep.o m2).x)++gc ((Ep.o m2).y)++gc (1)) rfl _ Tryz.underlying58 rfl i58 ?_
 exact ⟨rfl,h.grows⟩
theorem s_lift_y {w:World} {X Y:Int} (hX:Num X) (bX:decide (X<md 2)=true) (hY:Num Y) (bY:decide (Y<md 2)=false):Calls Tryz.prog 42 [.agg (nc (X)++nc (Y)++[Value.bool false]).toArray].toArray w fun e w'=>e=.returned (.agg (fjc (flift (Ep.o m2))).toArray)∧Below w.heap.size w w':=by
 refine enter (args:=[.agg (nc (X)++nc (Y)++[Value.bool false]).toArray]) Tryz.func42 rfl 13 rfl (lk rfl) (fun a h=>?_)
 refine aX h [] [eN 1 _,eN 2 _] ⟨rfl,rfl,T0⟩ [(1,.ptr 1 0),(2,.ptr 2 0)] [(1,nc (X)++nc (Y)++[Value.bool false]),(2,nz++nz++nz)] (fun a w h=>?_)
 refine wp_seq ?_
 refine aX h [1] [eS 3 _,eS 4 _,eS 5 _] ⟨rfl,fun L u=>u_call u (gd0 rfl) _ rfl _ _ _ rfl [_] rfl (cE38 _) _ (fun w hb=>s_formed_y hX bX hY bY),rfl,T0⟩ [(1,_),(2,_),(5,.val (Value.bool true))] [(1,_),(2,_)] (fun a w h=>?_)
 refine go_cond h true rfl (fun ht=>?_) (fun hf=>?_)
 case refine_2=>cases hf
 refine aE h [0] [eS 6 _,eM 1 _] ⟨fun L u=>u_call u (gd0 rfl) _ rfl _ _ _ rfl [] rfl (cE39 _) _ (fun w hb=>s_None),rfl,T0⟩ [(1,_),(2,_)] [(1,gc ((Ep.o m2).x)++gc ((Ep.o m2).y)++[Value.bool false]),(2,_)] (fun a w h=>?_)
 refine then_norm ?_
 refine aX h [4,5] [eS 7 _,eS 8 _,eS 9 _,eS 10 _,eS 11 _,eS 12 (.val (.agg (gc ((Ep.o m2).x)++gc ((Ep.o m2).y)++gc (1)).toArray)),eM 2 _] ⟨rfl,rfl,rfl,rfl,fun L u=>u_call u (gd0 rfl) _ rfl _ _ _ rfl [] rfl (cE69 _) _ (fun w hb=>s_One),fun L u=>u_build u (gd0 rfl) 12 rfl 58 #[(0,(.tmp 8)),(1,(.tmp 10)),(2,(.tmp 11))] rfl [(0,.agg (gc ((Ep.o m2).x)).toArray),(1,.agg (gc ((Ep.o m2).y)).toArray),(2,.agg (gc (1)).toArray)] rfl (gc ((Ep.o m2).x)++gc ((Ep.o m2).y)++gc (1)) (g_bF _ _ _),rfl,T0⟩ [(2,_)] [(2,gc ((Ep.o m2).x)++gc ((Ep.o m2).y)++gc (1))] (fun a w h=>?_)
 refine wp_ret ?_
 refine ret_row h 2 58 rfl (lk rfl) 2 rfl (gc ((Ep.o m2).x)++gc ((Ep.o m2).y)++gc (1)) rfl _ Tryz.underlying58 rfl i58 ?_
 exact ⟨rfl,h.grows⟩
theorem s_lift_off {w:World} (hT:Tab w) {x y:Fin m2} (hq:¬ y*y-x*x=1+ed*(x*x*(y*y))):Calls Tryz.prog 42 [.agg (gc (x)++gc (y)++[Value.bool false]).toArray].toArray w fun e w'=>e=.returned (.agg (fjc (flift (Ep.o m2))).toArray)∧Below w.heap.size w w':=by
 refine enter (args:=[.agg (gc (x)++gc (y)++[Value.bool false]).toArray]) Tryz.func42 rfl 13 rfl (lk rfl) (fun a h=>?_)
 refine aX h [] [eN 1 _,eN 2 _] ⟨rfl,rfl,T0⟩ [(1,.ptr 1 0),(2,.ptr 2 0)] [(1,gc (x)++gc (y)++[Value.bool false]),(2,nz++nz++nz)] (fun a w h=>?_)
 refine wp_seq ?_
 refine aX h [1] [eS 3 _,eS 4 (.val (Value.bool false)),eS 5 _] ⟨rfl,fun L u=>u_call u (gd0 rfl) _ rfl _ _ _ rfl [_] rfl (cE38 _) (Value.bool false) (fun w hb=>by have f:=s_formed_at (hT.keep (Bs.kp_of hb)) x y;rw [decide_eq_false hq] at f;exact f),rfl,T0⟩ [(1,_),(2,_),(5,.val (Value.bool true))] [(1,_),(2,_)] (fun a w h=>?_)
 refine go_cond h true rfl (fun ht=>?_) (fun hf=>?_)
 case refine_2=>cases hf
 refine aE h [0] [eS 6 _,eM 1 _] ⟨fun L u=>u_call u (gd0 rfl) _ rfl _ _ _ rfl [] rfl (cE39 _) _ (fun w hb=>s_None),rfl,T0⟩ [(1,_),(2,_)] [(1,gc ((Ep.o m2).x)++gc ((Ep.o m2).y)++[Value.bool false]),(2,_)] (fun a w h=>?_)
 refine then_norm ?_
 refine aX h [4,5] [eS 7 _,eS 8 _,eS 9 _,eS 10 _,eS 11 _,eS 12 (.val (.agg (gc ((Ep.o m2).x)++gc ((Ep.o m2).y)++gc (1)).toArray)),eM 2 _] ⟨rfl,rfl,rfl,rfl,fun L u=>u_call u (gd0 rfl) _ rfl _ _ _ rfl [] rfl (cE69 _) _ (fun w hb=>s_One),fun L u=>u_build u (gd0 rfl) 12 rfl 58 #[(0,(.tmp 8)),(1,(.tmp 10)),(2,(.tmp 11))] rfl [(0,.agg (gc ((Ep.o m2).x)).toArray),(1,.agg (gc ((Ep.o m2).y)).toArray),(2,.agg (gc (1)).toArray)] rfl (gc ((Ep.o m2).x)++gc ((Ep.o m2).y)++gc (1)) (g_bF _ _ _),rfl,T0⟩ [(2,_)] [(2,gc ((Ep.o m2).x)++gc ((Ep.o m2).y)++gc (1))] (fun a w h=>?_)
 refine wp_ret ?_
 refine ret_row h 2 58 rfl (lk rfl) 2 rfl (gc ((Ep.o m2).x)++gc ((Ep.o m2).y)++gc (1)) rfl _ Tryz.underlying58 rfl i58 ?_
 exact ⟨rfl,h.grows⟩
theorem s_lift_on {w:World} (hT:Tab w) {x y:Fin m2} (hq:y*y-x*x=1+ed*(x*x*(y*y))):Calls Tryz.prog 42 [.agg (gc (x)++gc (y)++[Value.bool false]).toArray].toArray w fun e w'=>e=.returned (.agg (fjc (flift ⟨x,y⟩)).toArray)∧Below w.heap.size w w':=by
 refine enter (args:=[.agg (gc (x)++gc (y)++[Value.bool false]).toArray]) Tryz.func42 rfl 13 rfl (lk rfl) (fun a h=>?_)
 refine aX h [] [eN 1 _,eN 2 _] ⟨rfl,rfl,T0⟩ [(1,.ptr 1 0),(2,.ptr 2 0)] [(1,gc (x)++gc (y)++[Value.bool false]),(2,nz++nz++nz)] (fun a w h=>?_)
 refine wp_seq ?_
 refine aX h [1] [eS 3 _,eS 4 (.val (Value.bool true)),eS 5 _] ⟨rfl,fun L u=>u_call u (gd0 rfl) _ rfl _ _ _ rfl [_] rfl (cE38 _) (Value.bool true) (fun w hb=>by have f:=s_formed_at (hT.keep (Bs.kp_of hb)) x y;rw [decide_eq_true hq] at f;exact f),rfl,T0⟩ [(1,_),(2,_),(5,.val (Value.bool false))] [(1,_),(2,_)] (fun a w h=>?_)
 refine go_cond h false rfl (fun ht=>?_) (fun hf=>?_)
 case refine_1=>cases ht
 refine wp_skip ?_
 refine then_norm ?_
 refine aX h [4,5] [eS 7 _,eS 8 _,eS 9 _,eS 10 _,eS 11 _,eS 12 (.val (.agg (gc (x)++gc (y)++gc (1)).toArray)),eM 2 _] ⟨rfl,rfl,rfl,rfl,fun L u=>u_call u (gd0 rfl) _ rfl _ _ _ rfl [] rfl (cE69 _) _ (fun w hb=>s_One),fun L u=>u_build u (gd0 rfl) 12 rfl 58 #[(0,(.tmp 8)),(1,(.tmp 10)),(2,(.tmp 11))] rfl [(0,.agg (gc (x)).toArray),(1,.agg (gc (y)).toArray),(2,.agg (gc (1)).toArray)] rfl (gc (x)++gc (y)++gc (1)) (g_bF _ _ _),rfl,T0⟩ [(2,_)] [(2,gc (x)++gc (y)++gc (1))] (fun a w h=>?_)
 refine wp_ret ?_
 refine ret_row h 2 58 rfl (lk rfl) 2 rfl (gc (x)++gc (y)++gc (1)) rfl _ Tryz.underlying58 rfl i58 ?_
 exact ⟨rfl,h.grows⟩
end Go.Proofs.YtjaahnlpnkcimaaGreatDoor
