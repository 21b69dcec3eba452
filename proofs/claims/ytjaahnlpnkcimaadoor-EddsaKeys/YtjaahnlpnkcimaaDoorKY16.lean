/- What limb.Mul answers, told of numbers; two arrays of eight words are compared word by word. What limb.Pick and limb.Cmp answer, for all numbers. What limb.Cmp answers, told of numbers. -/
import Derived.Test.YtjaahnlpnkcimaaDoorKY15
import Derived.Test.YtjaahnlpnkcimaaDoorKY10
import Derived.BigQuiet
import Derived.Deep.QuietTactic
set_option maxHeartbeats 2000000
namespace Go.Proofs.YtjaahnlpnkcimaaDoor
set_option maxRecDepth 100000
open Go.RowKit
theorem L4 (a:Int):L 4 a=a / 115792089237316195423570985008687907853269984665640564039457584007913129639936 % 18446744073709551616:=by simp [L,B]
theorem L5 (a:Int):L 5 a=a / 2135987035920910082395021706169552114602704522356652769947041607822219725780640550022962086936576 % 18446744073709551616:=by simp [L,B]
theorem L6 (a:Int):L 6 a=a / 39402006196394479212279040100143613805079739270465446667948293404245721771497210611414266254884915640806627990306816 % 18446744073709551616:=by simp [L,B]
theorem L7 (a:Int):L 7 a=a / 726838724295606890549323807888004534353641360687318060281490199180639288113397923326191050713763565560762521606266177933534601628614656 % 18446744073709551616:=by simp [L,B]
theorem wide_words {x p0 p1 p2 p3 p4 p5 p6 p7:Int} (w0:Word p0) (w1:Word p1) (w2:Word p2) (w3:Word p3) (w4:Word p4) (w5:Word p5) (w6:Word p6) (w7:Word p7) (h:p0+18446744073709551616*p1+340282366920938463463374607431768211456*p2+6277101735386680763835789423207666416102355444464034512896*p3+115792089237316195423570985008687907853269984665640564039457584007913129639936*p4+2135987035920910082395021706169552114602704522356652769947041607822219725780640550022962086936576*p5+39402006196394479212279040100143613805079739270465446667948293404245721771497210611414266254884915640806627990306816*p6+726838724295606890549323807888004534353641360687318060281490199180639288113397923326191050713763565560762521606266177933534601628614656*p7=x):p0=L 0 x∧p1=L 1 x∧p2=L 2 x∧p3=L 3 x∧p4=L 4 x∧p5=L 5 x∧p6=L 6 x∧p7=L 7 x:=by
 obtain ⟨lo0,hi0⟩:=w0
 obtain ⟨lo1,hi1⟩:=w1
 obtain ⟨lo2,hi2⟩:=w2
 obtain ⟨lo3,hi3⟩:=w3
 obtain ⟨lo4,hi4⟩:=w4
 obtain ⟨lo5,hi5⟩:=w5
 obtain ⟨lo6,hi6⟩:=w6
 obtain ⟨lo7,hi7⟩:=w7
 refine ⟨?_,?_,?_,?_,?_,?_,?_,?_⟩
 ·rw [L0];omega
 ·rw [L1];omega
 ·rw [L2];omega
 ·rw [L3];omega
 ·rw [L4];omega
 ·rw [L5];omega
 ·rw [L6];omega
 ·rw [L7];omega
theorem num_val {a:Int} (h:Num a):L 0 a+18446744073709551616*L 1 a+340282366920938463463374607431768211456*L 2 a+6277101735386680763835789423207666416102355444464034512896*L 3 a=a:=by
 obtain ⟨h1,h2⟩:=h
 unfold M at h2
 rw [L0,L1,L2,L3]
 omega
theorem word_L (k:Nat) (a:Int):Word (L k a):=⟨L_lo k a,L_hi k a⟩
theorem mul_any {a b:Int} (ha:Num a) (hb:Num b) (w:World) :
  Calls Tryd.prog 77 #[.agg #[.int .u64 (L 0 a),.int .u64 (L 1 a),.int .u64 (L 2 a),.int .u64 (L 3 a)],.agg #[.int .u64 (L 0 b),.int .u64 (L 1 b),.int .u64 (L 2 b),.int .u64 (L 3 b)]] w fun e w'=>e=.returned (.agg #[.int .u64 (L 0 (a*b)),.int .u64 (L 1 (a*b)),.int .u64 (L 2 (a*b)),.int .u64 (L 3 (a*b)),.int .u64 (L 4 (a*b)),.int .u64 (L 5 (a*b)),.int .u64 (L 6 (a*b)),.int .u64 (L 7 (a*b))])∧Below w.heap.size w w':=by
 refine (mul_walk (L 0 a) (L 1 a) (L 2 a) (L 3 a) (L 0 b) (L 1 b) (L 2 b) (L 3 b) (word_L _ _) (word_L _ _) (word_L _ _) (word_L _ _) (word_L _ _) (word_L _ _) (word_L _ _) (word_L _ _) w).mono ?_
 rintro e w' ⟨p0,p1,p2,p3,p4,p5,p6,p7,w0,w1,w2,w3,w4,w5,w6,w7,h,rfl,hk⟩
 rw [num_val ha,num_val hb] at h
 obtain ⟨rfl,rfl,rfl,rfl,rfl,rfl,rfl,rfl⟩:=wide_words w0 w1 w2 w3 w4 w5 w6 w7 h
 exact ⟨rfl,hk⟩
end Go.Proofs.YtjaahnlpnkcimaaDoor
namespace Go.Proofs.YtjaahnlpnkcimaaDoor
set_option maxRecDepth 100000
open Go.RowKit
attribute [local go_sem ↓] Go.wp_at_zero Go.wp_at_succ
theorem pick_true (x0 x1 x2 x3 y0 y1 y2 y3:Int) (w:World) :
  Calls Tryd.prog 49 #[.bool true,.agg #[.int .u64 x0,.int .u64 x1,.int .u64 x2,.int .u64 x3],.agg #[.int .u64 y0,.int .u64 y1,.int .u64 y2,.int .u64 y3]] w fun e w' =>
   e=.returned (.agg #[.int .u64 x0,.int .u64 x1,.int .u64 x2,.int .u64 x3])∧Below w.heap.size w w':=by
 go_enter Tryd.func49,Tryd.ntmps49
 go_wp2
 go_returns
 refine ⟨rfl,?_⟩
 go_grown
theorem pick_false (x0 x1 x2 x3 y0 y1 y2 y3:Int) (w:World) :
  Calls Tryd.prog 49 #[.bool false,.agg #[.int .u64 x0,.int .u64 x1,.int .u64 x2,.int .u64 x3],.agg #[.int .u64 y0,.int .u64 y1,.int .u64 y2,.int .u64 y3]] w fun e w' =>
   e=.returned (.agg #[.int .u64 y0,.int .u64 y1,.int .u64 y2,.int .u64 y3])∧Below w.heap.size w w':=by
 go_enter Tryd.func49,Tryd.ntmps49
 go_wp2
 go_returns
 refine ⟨rfl,?_⟩
 go_grown
def cmpW (x0 x1 x2 x3 y0 y1 y2 y3:Int):Int :=
 if x3<y3 then -1 else if y3<x3 then 1 else if x2<y2 then -1 else if y2<x2 then 1 else if x1<y1 then -1 else if y1<x1 then 1 else if x0<y0 then -1 else if y0<x0 then 1 else 0
theorem cmp_walk (x0 x1 x2 x3 y0 y1 y2 y3:Int) (w:World) :
  Calls Tryd.prog 60 #[.agg #[.int .u64 x0,.int .u64 x1,.int .u64 x2,.int .u64 x3],.agg #[.int .u64 y0,.int .u64 y1,.int .u64 y2,.int .u64 y3]] w fun e w' =>
   e=.returned (.int .i64 (cmpW x0 x1 x2 x3 y0 y1 y2 y3))∧Below w.heap.size w w':=by
 go_enter Tryd.func60,Tryd.ntmps60
 go_wp2
 refine wp_loop_rounds 5 ?_
 rw [rounds_succ]
 go_wp2
 go_quiet (fail)
 go_wp2
 ·go_ret
  exact ⟨ret_int (by unfold cmpW;(repeat' split) <;> omega),by repeat' (first | exact Below.refl _ _ | refine K.drewN ?_ _ | refine Below.drew ?_ | refine K.alloc ?_ _)⟩
 go_quiet (fail)
 go_wp2
 ·go_ret
  exact ⟨ret_int (by unfold cmpW;(repeat' split) <;> omega),by repeat' (first | exact Below.refl _ _ | refine K.drewN ?_ _ | refine Below.drew ?_ | refine K.alloc ?_ _)⟩
 rw [rounds_succ]
 go_wp2
 go_quiet (fail)
 go_wp2
 ·go_ret
  exact ⟨ret_int (by unfold cmpW;(repeat' split) <;> omega),by repeat' (first | exact Below.refl _ _ | refine K.drewN ?_ _ | refine Below.drew ?_ | refine K.alloc ?_ _)⟩
 go_quiet (fail)
 go_wp2
 ·go_ret
  exact ⟨ret_int (by unfold cmpW;(repeat' split) <;> omega),by repeat' (first | exact Below.refl _ _ | refine K.drewN ?_ _ | refine Below.drew ?_ | refine K.alloc ?_ _)⟩
 rw [rounds_succ]
 go_wp2
 go_quiet (fail)
 go_wp2
 ·go_ret
  exact ⟨ret_int (by unfold cmpW;(repeat' split) <;> omega),by repeat' (first | exact Below.refl _ _ | refine K.drewN ?_ _ | refine Below.drew ?_ | refine K.alloc ?_ _)⟩
 go_quiet (fail)
 go_wp2
 ·go_ret
  exact ⟨ret_int (by unfold cmpW;(repeat' split) <;> omega),by repeat' (first | exact Below.refl _ _ | refine K.drewN ?_ _ | refine Below.drew ?_ | refine K.alloc ?_ _)⟩
 rw [rounds_succ]
 go_wp2
 go_quiet (fail)
 go_wp2
 ·go_ret
  exact ⟨ret_int (by unfold cmpW;(repeat' split) <;> omega),by repeat' (first | exact Below.refl _ _ | refine K.drewN ?_ _ | refine Below.drew ?_ | refine K.alloc ?_ _)⟩
 go_quiet (fail)
 go_wp2
 ·go_ret
  exact ⟨ret_int (by unfold cmpW;(repeat' split) <;> omega),by repeat' (first | exact Below.refl _ _ | refine K.drewN ?_ _ | refine Below.drew ?_ | refine K.alloc ?_ _)⟩
 rw [rounds_succ]
 go_wp2
 go_ret
 exact ⟨ret_int (by unfold cmpW;(repeat' split) <;> omega),by repeat' (first | exact Below.refl _ _ | refine K.drewN ?_ _ | refine Below.drew ?_ | refine K.alloc ?_ _)⟩
end Go.Proofs.YtjaahnlpnkcimaaDoor
namespace Go.Proofs.YtjaahnlpnkcimaaDoor
set_option maxRecDepth 100000
open Go.RowKit
def cmp (a b:Int):Int:=if a<b then -1 else if b<a then 1 else 0
theorem cmpW_eq {a b:Int} (ha:Num a) (hb:Num b):cmpW (L 0 a) (L 1 a) (L 2 a) (L 3 a) (L 0 b) (L 1 b) (L 2 b) (L 3 b)=cmp a b:=by
 obtain ⟨a1,a2⟩:=ha
 obtain ⟨b1,b2⟩:=hb
 rw [L0,L1,L2,L3,L0,L1,L2,L3]
 unfold cmpW cmp
 unfold M at *
 (repeat' split) <;> omega
theorem cmp_any {a b:Int} (ha:Num a) (hb:Num b) (w:World) :
  Calls Tryd.prog 60 #[.agg #[.int .u64 (L 0 a),.int .u64 (L 1 a),.int .u64 (L 2 a),.int .u64 (L 3 a)],.agg #[.int .u64 (L 0 b),.int .u64 (L 1 b),.int .u64 (L 2 b),.int .u64 (L 3 b)]] w fun e w' =>
   e=.returned (.int .i64 (cmp a b))∧Below w.heap.size w w':=by
 rw [← cmpW_eq ha hb];exact cmp_walk _ _ _ _ _ _ _ _ w
theorem cmp_lt {a b:Int} (h:a<b):cmp a b=-1:=by unfold cmp;rw [if_pos h]
end Go.Proofs.YtjaahnlpnkcimaaDoor
