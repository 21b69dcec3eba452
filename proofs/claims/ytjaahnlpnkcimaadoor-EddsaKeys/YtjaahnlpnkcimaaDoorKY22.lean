/- What the document's own Encode of layer 9 answers. What the document's own Half answers. Two lists of bytes are the same. What the document's own Same answers, of all lists of bytes. What the document's own Add answers, for all numbers: the same as limb.Add. What the document's own Decode of layer 9 answers. What the document's own Decode of layer 9 answers: the point whose bytes these are, if there is one. Bytes as lists: their number, their hash, and parts of texts in memory. Walks by states: bits of bytes and words. Bits that are set and taken by masks; a number's bytes, three bits taken and one set. -/
import Derived.Test.YtjaahnlpnkcimaaDoorKY21
import Derived.Test.YtjaahnlpnkcimaaDoorKY05
import Derived.Test.YtjaahnlpnkcimaaDoorKY02
import Derived.Test.YtjaahnlpnkcimaaDoorKY04
import Derived.Test.YtjaahnlpnkcimaaDoorKY18
import Derived.Deep.LoopGhost
import Derived.Deep.DeepCutAuto
set_option maxRecDepth 100000
set_option maxHeartbeats 8000000
namespace Go.Proofs.YtjaahnlpnkcimaaDoor
set_option maxRecDepth 100000
open Go.RowKit
theorem i5:(Tryd.prog.info? 5).map (·.size)=some 1:=by kernel_rfl
theorem cE13 (vs:List Value):∀ w,(callFunc 13 vs.toArray).run Tryd.prog w=.ok (.enter 13 vs.toArray) w:=callFunc_enter Tryd.func13 (by kernel_rfl) (by kernel_rfl) _
theorem cE39 (vs:List Value):∀ w,(callFunc 39 vs.toArray).run Tryd.prog w=.ok (.enter 39 vs.toArray) w:=callFunc_enter Tryd.func39 (by kernel_rfl) (by kernel_rfl) _
theorem cE38 (vs:List Value):∀ w,(callFunc 38 vs.toArray).run Tryd.prog w=.ok (.enter 38 vs.toArray) w:=callFunc_enter Tryd.func38 (by kernel_rfl) (by kernel_rfl) _
theorem cE69 (vs:List Value):∀ w,(callFunc 69 vs.toArray).run Tryd.prog w=.ok (.enter 69 vs.toArray) w:=callFunc_enter Tryd.func69 (by kernel_rfl) (by kernel_rfl) _
theorem cE70 (vs:List Value):∀ w,(callFunc 70 vs.toArray).run Tryd.prog w=.ok (.enter 70 vs.toArray) w:=callFunc_enter Tryd.func70 (by kernel_rfl) (by kernel_rfl) _
theorem cE61 (vs:List Value):∀ w,(callFunc 61 vs.toArray).run Tryd.prog w=.ok (.enter 61 vs.toArray) w:=callFunc_enter Tryd.func61 (by kernel_rfl) (by kernel_rfl) _
theorem cE37 (vs:List Value):∀ w,(callFunc 37 vs.toArray).run Tryd.prog w=.ok (.enter 37 vs.toArray) w:=callFunc_enter Tryd.func37 (by kernel_rfl) (by kernel_rfl) _
theorem s_enc_even {w:World} (hT:Tab w) {x y:Fin m2} (hq:y*y-x*x=1+ed*(x*x*(y*y))) (hp:lw 0 ((x.val:Nat):Int) % 2=0) (h2:x.val % 2=0):Calls Tryd.prog 39 [.agg (gc (x)++gc (y)++[Value.bool false]).toArray].toArray w fun e w'=>New32 (fun i=>Y i (((code ⟨x,y⟩:Nat)):Int)) w e w':=by
 refine enter (args:=[.agg (gc (x)++gc (y)++[Value.bool false]).toArray]) Tryd.func39 rfl 22 rfl (lk rfl) (fun a h=>?_)
 refine aX h [] [eN 1 _,eS 2 _] ⟨rfl,rfl,T0⟩ [(1,.ptr 1 0)] [(1,gc (x)++gc (y)++[Value.bool false])] (fun a w h=>?_)
 refine wp_seq ?_
 refine aX h [1] [eS 4 _,eS 5 (.val (Value.bool true)),eS 6 _] ⟨rfl,fun L u=>u_call u (gd0 rfl) _ rfl _ _ _ rfl [_] rfl (cE16 _) (Value.bool true) (fun w hb=>by have f:=s_formed_at (hT.keep (Bs.kp_of hb)) x y;rw [decide_eq_true hq] at f;exact f),rfl,T0⟩ [(1,_),(6,.val (Value.bool false))] [(1,_)] (fun a w h=>?_)
 refine go_cond h false rfl (fun ht=>?_) (fun hf=>?_)
 case refine_1=>cases ht
 refine wp_skip ?_
 refine then_norm ?_
 refine wp_seq ?_
 refine sq_begin [0,1,2,3] rfl ?_
 refine sq_step h (i:=0) rfl (u_field (xs:=[]) (up_seq (i:=0) (by kernel_rfl) rfl) (gd0 rfl) 8 rfl 40 (.tmp 1) 1 rfl rfl rfl Tryd.underlying40 rfl i33 _ rfl) (fun a w h=>?_)
 refine sq_step h (i:=1) rfl (u_load (xs:=[]) (up_seq (i:=1) (by kernel_rfl) rfl) (gd0 rfl) 9 rfl 33 (.tmp 8) rfl rfl rfl Tryd.underlying33 rfl i33 (lk rfl) _ rfl) (fun a w h=>?_)
 refine sq_callN h (i:=2) rfl (gq0 rfl) 10 rfl rfl 13 #[(.tmp 9)] #[33] rfl [.agg (gc (y)).toArray] rfl (cE13 _) 32 (by32 (fun i=>Y i ((((y).val:Nat):Int)))) (fun hb=>refPutLittle_any ((((y).val:Nat):Int)) w) (fun c10 a w hc10 h=>?_)
 replace h:=h.keep [(1,.ptr 1 0),(6,.val (Value.bool false)),(8,.ptr 1 4),(9,.val (.agg (gc (y)).toArray)),(10,.sli 10 0 32 c10)] [(1,gc (x)++gc (y)++[Value.bool false]),(10,by32 (fun i=>Y i ((((y).val:Nat):Int))))] ⟨rfl,rfl,rfl,rfl,rfl,trivial⟩ ⟨rfl,rfl,trivial⟩ rfl
 refine sq_step h (i:=3) rfl (u_copy (xs:=[]) (up_seq (i:=3) (by kernel_rfl) rfl) (gd0 rfl) 3 rfl (.tmp 10) (Or.inr rfl) rfl (fun x c hp=>by cases hp;exact ⟨_,rfl⟩)) (fun a w h=>?_)
 replace h:=h.keep [(1,.ptr 1 0),(3,.sli 10 0 32 c10)] [(1,gc (x)++gc (y)++[Value.bool false]),(10,by32 (fun i=>Y i ((((y).val:Nat):Int))))] ⟨rfl,rfl,trivial⟩ ⟨rfl,rfl,trivial⟩ rfl
 refine sq_end ?_
 refine then_norm ?_
 refine wp_seq ?_
 refine aX h [3,4] [eS 11 _,eS 12 _,eS 13 _,eS 14 (.val (Value.int .u64 ((lw 0 (((x).val:Nat):Int)) % 2))),eS 15 (.val (Value.bool false))] ⟨rfl,rfl,rfl,fun L u=>u_bin u (gd0 rfl) _ rfl _ _ _ _ _ rfl rfl rfl (eqg_int _ _ _ _ _ _ _ _) _ (fun w=>i_rem _ _ _ _ _ (lw_lo _ _) (by decide) rfl w),fun L u=>u_bin u (gd0 rfl) _ rfl _ _ _ _ _ rfl rfl rfl (eqg_int _ _ _ _ _ _ _ _) _ (no_of (fun w=>i_eql _ _ _ _ w) (by rw [hp];decide)),T0⟩ [(3,_),(15,.val (Value.bool false))] [(10,_)] (fun a w h=>?_)
 refine go_cond h false rfl (fun ht=>?_) (fun hf=>?_)
 case refine_1=>cases ht
 refine wp_skip ?_
 refine then_norm ?_
 refine aX h [] [eS 21 _,eS 2 _] ⟨rfl,rfl,T0⟩ [(2,.sli 10 0 32 c10)] [(10,_)] (fun a w h=>?_)
 refine wp_ret ?_
 refine ret_new32 (cs:=by32 (fun i=>Y i ((((y).val:Nat):Int)))) h 2 rfl (lk rfl) 10 c10 rfl hc10 rfl ?_
 refine by32_ext ?_;intro i hi;show Y i _=Y i _;rw [code_even (a:=⟨x,y⟩) h2]
theorem s_enc_odd {w:World} (hT:Tab w) {x y:Fin m2} (hq:y*y-x*x=1+ed*(x*x*(y*y))) (hp:lw 0 ((x.val:Nat):Int) % 2=1) (h2:x.val % 2=1) (hbd:0≤Y 31 ((y.val:Nat):Int)+128∧Y 31 ((y.val:Nat):Int)+128<256):Calls Tryd.prog 39 [.agg (gc (x)++gc (y)++[Value.bool false]).toArray].toArray w fun e w'=>New32 (fun i=>Y i (((code ⟨x,y⟩:Nat)):Int)) w e w':=by
 refine enter (args:=[.agg (gc (x)++gc (y)++[Value.bool false]).toArray]) Tryd.func39 rfl 22 rfl (lk rfl) (fun a h=>?_)
 refine aX h [] [eN 1 _,eS 2 _] ⟨rfl,rfl,T0⟩ [(1,.ptr 1 0)] [(1,gc (x)++gc (y)++[Value.bool false])] (fun a w h=>?_)
 refine wp_seq ?_
 refine aX h [1] [eS 4 _,eS 5 (.val (Value.bool true)),eS 6 _] ⟨rfl,fun L u=>u_call u (gd0 rfl) _ rfl _ _ _ rfl [_] rfl (cE16 _) (Value.bool true) (fun w hb=>by have f:=s_formed_at (hT.keep (Bs.kp_of hb)) x y;rw [decide_eq_true hq] at f;exact f),rfl,T0⟩ [(1,_),(6,.val (Value.bool false))] [(1,_)] (fun a w h=>?_)
 refine go_cond h false rfl (fun ht=>?_) (fun hf=>?_)
 case refine_1=>cases ht
 refine wp_skip ?_
 refine then_norm ?_
 refine wp_seq ?_
 refine sq_begin [0,1,2,3] rfl ?_
 refine sq_step h (i:=0) rfl (u_field (xs:=[]) (up_seq (i:=0) (by kernel_rfl) rfl) (gd0 rfl) 8 rfl 40 (.tmp 1) 1 rfl rfl rfl Tryd.underlying40 rfl i33 _ rfl) (fun a w h=>?_)
 refine sq_step h (i:=1) rfl (u_load (xs:=[]) (up_seq (i:=1) (by kernel_rfl) rfl) (gd0 rfl) 9 rfl 33 (.tmp 8) rfl rfl rfl Tryd.underlying33 rfl i33 (lk rfl) _ rfl) (fun a w h=>?_)
 refine sq_callN h (i:=2) rfl (gq0 rfl) 10 rfl rfl 13 #[(.tmp 9)] #[33] rfl [.agg (gc (y)).toArray] rfl (cE13 _) 32 (by32 (fun i=>Y i ((((y).val:Nat):Int)))) (fun hb=>refPutLittle_any ((((y).val:Nat):Int)) w) (fun c10 a w hc10 h=>?_)
 replace h:=h.keep [(1,.ptr 1 0),(6,.val (Value.bool false)),(8,.ptr 1 4),(9,.val (.agg (gc (y)).toArray)),(10,.sli 10 0 32 c10)] [(1,gc (x)++gc (y)++[Value.bool false]),(10,by32 (fun i=>Y i ((((y).val:Nat):Int))))] ⟨rfl,rfl,rfl,rfl,rfl,trivial⟩ ⟨rfl,rfl,trivial⟩ rfl
 refine sq_step h (i:=3) rfl (u_copy (xs:=[]) (up_seq (i:=3) (by kernel_rfl) rfl) (gd0 rfl) 3 rfl (.tmp 10) (Or.inr rfl) rfl (fun x c hp=>by cases hp;exact ⟨_,rfl⟩)) (fun a w h=>?_)
 replace h:=h.keep [(1,.ptr 1 0),(3,.sli 10 0 32 c10)] [(1,gc (x)++gc (y)++[Value.bool false]),(10,by32 (fun i=>Y i ((((y).val:Nat):Int))))] ⟨rfl,rfl,trivial⟩ ⟨rfl,rfl,trivial⟩ rfl
 refine sq_end ?_
 refine then_norm ?_
 refine wp_seq ?_
 refine aX h [3,4] [eS 11 _,eS 12 _,eS 13 _,eS 14 (.val (Value.int .u64 ((lw 0 (((x).val:Nat):Int)) % 2))),eS 15 (.val (Value.bool true))] ⟨rfl,rfl,rfl,fun L u=>u_bin u (gd0 rfl) _ rfl _ _ _ _ _ rfl rfl rfl (eqg_int _ _ _ _ _ _ _ _) _ (fun w=>i_rem _ _ _ _ _ (lw_lo _ _) (by decide) rfl w),fun L u=>u_bin u (gd0 rfl) _ rfl _ _ _ _ _ rfl rfl rfl (eqg_int _ _ _ _ _ _ _ _) _ (yes_of (fun w=>i_eql _ _ _ _ w) hp),T0⟩ [(3,_),(15,.val (Value.bool true))] [(10,_)] (fun a w h=>?_)
 refine go_cond h true rfl (fun ht=>?_) (fun hf=>?_)
 case refine_2=>cases hf
 refine aE h [1,3,4] [eS 16 _,eS 17 (.ptr 10 31),eS 18 _,eS 19 (.val (Value.int .u8 (((fun i=>Y i ((((y).val:Nat):Int))) 31)+128))),eS 20 (.ptr 10 31),eM 10 _] ⟨rfl,fun L u=>u_atS u (gd0 rfl) 17 rfl 24 (.tmp 16) (.const (.int .i64 31)) rfl rfl rfl (k:=31) rfl Tryd.underlying24 i5 (by decide) 31 rfl,rfl,fun L u=>u_bin u (gd0 rfl) _ rfl _ _ _ _ _ rfl rfl rfl (eqg_int _ _ _ _ _ _ _ _) _ (fun w=>i_addB _ _ _ _ rfl hbd w),fun L u=>u_atS u (gd0 rfl) 20 rfl 24 (.tmp 16) (.const (.int .i64 31)) rfl rfl rfl (k:=31) rfl Tryd.underlying24 i5 (by decide) 31 rfl,rfl,T0⟩ [(3,_)] [(10,by31 (fun i=>Y i ((((y).val:Nat):Int))) ((((fun i=>Y i ((((y).val:Nat):Int))) 31)+128)))] (fun a w h=>?_)
 refine then_norm ?_
 refine aX h [] [eS 21 _,eS 2 _] ⟨rfl,rfl,T0⟩ [(2,.sli 10 0 32 c10)] [(10,_)] (fun a w h=>?_)
 refine wp_ret ?_
 refine ret_new32 (cs:=by31 (fun i=>Y i ((((y).val:Nat):Int))) ((((fun i=>Y i ((((y).val:Nat):Int))) 31)+128))) h 2 rfl (lk rfl) 10 c10 rfl hc10 rfl ?_
 refine by31_ext ?_ ?_;(intro i hi;show Y i _=Y i _;rw [code_int,Y_low _ _ hi]);(show Y 31 _+128=Y 31 _;rw [code_int,Y_high (by omega) (y_int ⟨x,y⟩) (Or.inr (by rw [h2];rfl)),h2];rfl)
theorem s_enc_on {w:World} (hT:Tab w) {x y:Fin m2} (hq:y*y-x*x=1+ed*(x*x*(y*y))):Calls Tryd.prog 39 [.agg (gc (x)++gc (y)++[Value.bool false]).toArray].toArray w fun e w'=>New32 (fun i=>Go.Proofs.YtjaahnlpnkcimaaDoor.Y i (((code ⟨x,y⟩:Nat)):Int)) w e w':=by
 have hp:=L0_odd ((x.val:Nat):Int)
 obtain ⟨a,b,_⟩:=Y_top (y:=((y.val:Nat):Int)) (by omega) (y_int ⟨x,y⟩)
 by_cases h2:x.val % 2=0
 ·exact s_enc_even hT hq (by rw [hp];omega) h2
 ·exact s_enc_odd hT hq (by rw [hp];omega) (by omega) (by omega)
end Go.Proofs.YtjaahnlpnkcimaaDoor
namespace Go.Proofs.YtjaahnlpnkcimaaDoor
set_option maxRecDepth 100000
open Go.RowKit
attribute [local go_sem ↓] Go.wp_at_zero Go.wp_at_succ
theorem ref_half0_0 (a:Int) (h:L 1 a % 2=0):L 0 a / 2=L 0 (a / 2):=by
 rw [L1] at h
 rw [L0,L0]
 omega
theorem ref_half0_1 (a:Int) (h:L 1 a % 2=1):IntKind.u64.wrap (L 0 a / 2+9223372036854775808)=L 0 (a / 2):=by
 rw [L1] at h
 rw [IntKind.wrap_u64,L0,L0]
 omega
theorem ref_half1_0 (a:Int) (h:L 2 a % 2=0):L 1 a / 2=L 1 (a / 2):=by
 rw [L2] at h
 rw [L1,L1]
 omega
theorem ref_half1_1 (a:Int) (h:L 2 a % 2=1):IntKind.u64.wrap (L 1 a / 2+9223372036854775808)=L 1 (a / 2):=by
 rw [L2] at h
 rw [IntKind.wrap_u64,L1,L1]
 omega
theorem ref_half2_0 (a:Int) (h:L 3 a % 2=0):L 2 a / 2=L 2 (a / 2):=by
 rw [L3] at h
 rw [L2,L2]
 omega
theorem ref_half2_1 (a:Int) (h:L 3 a % 2=1):IntKind.u64.wrap (L 2 a / 2+9223372036854775808)=L 2 (a / 2):=by
 rw [L3] at h
 rw [IntKind.wrap_u64,L2,L2]
 omega
theorem ref_half3 {a:Int} (h:Num a):L 3 a / 2=L 3 (a / 2):=by
 obtain ⟨h1,h2⟩:=h
 unfold M at h2
 rw [L3,L3]
 omega
theorem ref_half_any {a:Int} (h:Num a) (w:World) :
  Calls Tryd.prog 70 #[.agg #[.int .u64 (L 0 a),.int .u64 (L 1 a),.int .u64 (L 2 a),.int .u64 (L 3 a)]] w fun e w'=>e=.returned (.agg #[.int .u64 (L 0 (a / 2)),.int .u64 (L 1 (a / 2)),.int .u64 (L 2 (a / 2)),.int .u64 (L 3 (a / 2))])∧Below w.heap.size w w':=by
 have l0:=L_lo 0 a
 have l1:=L_lo 1 a
 have l2:=L_lo 2 a
 have l3:=L_lo 3 a
 have m0:=L_hi 0 a
 have m1:=L_hi 1 a
 have m2:=L_hi 2 a
 have m3:=L_hi 3 a
 have q3:=ref_half3 h
 have p1:L 1 a % 2=0∨L 1 a % 2=1:=by omega
 have p2:L 2 a % 2=0∨L 2 a % 2=1:=by omega
 have p3:L 3 a % 2=0∨L 3 a % 2=1:=by omega
 rcases p1 with p1 | p1
 ·have q0:=ref_half0_0 a p1
  rcases p2 with p2 | p2
  ·have q1:=ref_half1_0 a p2
   rcases p3 with p3 | p3
   ·have q2:=ref_half2_0 a p3
    go_enter Tryd.func70,Tryd.ntmps70
    go_wp2
    refine wp_loop_rounds 5 ?_
    rw [rounds_succ]
    go_wp2
    rw [rounds_succ]
    go_wp2
    rw [rounds_succ]
    go_wp2
    rw [rounds_succ]
    go_wp2
    rw [rounds_succ]
    go_wp2
    go_returns
    refine ⟨rfl,?_⟩
    repeat' (first | (with_reducible exact Below.refl _ _) | (with_reducible refine K.drewN ?_ _) | (with_reducible refine K.drew ?_) | (with_reducible refine K.alloc ?_ _) | (with_reducible refine K.set ?_ ?_ _) | (simp;done) | (simp;omega))
   ·have q2:=ref_half2_1 a p3
    go_enter Tryd.func70,Tryd.ntmps70
    go_wp2
    refine wp_loop_rounds 5 ?_
    rw [rounds_succ]
    go_wp2
    rw [rounds_succ]
    go_wp2
    rw [rounds_succ]
    go_wp2
    rw [rounds_succ]
    go_wp2
    rw [rounds_succ]
    go_wp2
    go_returns
    refine ⟨rfl,?_⟩
    repeat' (first | (with_reducible exact Below.refl _ _) | (with_reducible refine K.drewN ?_ _) | (with_reducible refine K.drew ?_) | (with_reducible refine K.alloc ?_ _) | (with_reducible refine K.set ?_ ?_ _) | (simp;done) | (simp;omega))
  ·have q1:=ref_half1_1 a p2
   rcases p3 with p3 | p3
   ·have q2:=ref_half2_0 a p3
    go_enter Tryd.func70,Tryd.ntmps70
    go_wp2
    refine wp_loop_rounds 5 ?_
    rw [rounds_succ]
    go_wp2
    rw [rounds_succ]
    go_wp2
    rw [rounds_succ]
    go_wp2
    rw [rounds_succ]
    go_wp2
    rw [rounds_succ]
    go_wp2
    go_returns
    refine ⟨rfl,?_⟩
    repeat' (first | (with_reducible exact Below.refl _ _) | (with_reducible refine K.drewN ?_ _) | (with_reducible refine K.drew ?_) | (with_reducible refine K.alloc ?_ _) | (with_reducible refine K.set ?_ ?_ _) | (simp;done) | (simp;omega))
   ·have q2:=ref_half2_1 a p3
    go_enter Tryd.func70,Tryd.ntmps70
    go_wp2
    refine wp_loop_rounds 5 ?_
    rw [rounds_succ]
    go_wp2
    rw [rounds_succ]
    go_wp2
    rw [rounds_succ]
    go_wp2
    rw [rounds_succ]
    go_wp2
    rw [rounds_succ]
    go_wp2
    go_returns
    refine ⟨rfl,?_⟩
    repeat' (first | (with_reducible exact Below.refl _ _) | (with_reducible refine K.drewN ?_ _) | (with_reducible refine K.drew ?_) | (with_reducible refine K.alloc ?_ _) | (with_reducible refine K.set ?_ ?_ _) | (simp;done) | (simp;omega))
 ·have q0:=ref_half0_1 a p1
  rcases p2 with p2 | p2
  ·have q1:=ref_half1_0 a p2
   rcases p3 with p3 | p3
   ·have q2:=ref_half2_0 a p3
    go_enter Tryd.func70,Tryd.ntmps70
    go_wp2
    refine wp_loop_rounds 5 ?_
    rw [rounds_succ]
    go_wp2
    rw [rounds_succ]
    go_wp2
    rw [rounds_succ]
    go_wp2
    rw [rounds_succ]
    go_wp2
    rw [rounds_succ]
    go_wp2
    go_returns
    refine ⟨rfl,?_⟩
    repeat' (first | (with_reducible exact Below.refl _ _) | (with_reducible refine K.drewN ?_ _) | (with_reducible refine K.drew ?_) | (with_reducible refine K.alloc ?_ _) | (with_reducible refine K.set ?_ ?_ _) | (simp;done) | (simp;omega))
   ·have q2:=ref_half2_1 a p3
    go_enter Tryd.func70,Tryd.ntmps70
    go_wp2
    refine wp_loop_rounds 5 ?_
    rw [rounds_succ]
    go_wp2
    rw [rounds_succ]
    go_wp2
    rw [rounds_succ]
    go_wp2
    rw [rounds_succ]
    go_wp2
    rw [rounds_succ]
    go_wp2
    go_returns
    refine ⟨rfl,?_⟩
    repeat' (first | (with_reducible exact Below.refl _ _) | (with_reducible refine K.drewN ?_ _) | (with_reducible refine K.drew ?_) | (with_reducible refine K.alloc ?_ _) | (with_reducible refine K.set ?_ ?_ _) | (simp;done) | (simp;omega))
  ·have q1:=ref_half1_1 a p2
   rcases p3 with p3 | p3
   ·have q2:=ref_half2_0 a p3
    go_enter Tryd.func70,Tryd.ntmps70
    go_wp2
    refine wp_loop_rounds 5 ?_
    rw [rounds_succ]
    go_wp2
    rw [rounds_succ]
    go_wp2
    rw [rounds_succ]
    go_wp2
    rw [rounds_succ]
    go_wp2
    rw [rounds_succ]
    go_wp2
    go_returns
    refine ⟨rfl,?_⟩
    repeat' (first | (with_reducible exact Below.refl _ _) | (with_reducible refine K.drewN ?_ _) | (with_reducible refine K.drew ?_) | (with_reducible refine K.alloc ?_ _) | (with_reducible refine K.set ?_ ?_ _) | (simp;done) | (simp;omega))
   ·have q2:=ref_half2_1 a p3
    go_enter Tryd.func70,Tryd.ntmps70
    go_wp2
    refine wp_loop_rounds 5 ?_
    rw [rounds_succ]
    go_wp2
    rw [rounds_succ]
    go_wp2
    rw [rounds_succ]
    go_wp2
    rw [rounds_succ]
    go_wp2
    rw [rounds_succ]
    go_wp2
    go_returns
    refine ⟨rfl,?_⟩
    repeat' (first | (with_reducible exact Below.refl _ _) | (with_reducible refine K.drewN ?_ _) | (with_reducible refine K.drew ?_) | (with_reducible refine K.alloc ?_ _) | (with_reducible refine K.set ?_ ?_ _) | (simp;done) | (simp;omega))
end Go.Proofs.YtjaahnlpnkcimaaDoor
namespace Go.Proofs.YtjaahnlpnkcimaaDoor
set_option maxRecDepth 100000
def sameB (f g:Nat→Int) (n:Nat):Bool:=decide (∀ i,i<n→f i=g i)
theorem same_no {f g:Nat→Int} {n k:Nat} (h:k<n) (hne:f k≠g k):sameB f g n=false:=by
 unfold sameB
 rw [decide_eq_false_iff_not]
 exact fun hh=>hne (hh k h)
theorem same_yes {f g:Nat→Int} {n:Nat} (h:∀ i,i<n→f i=g i):sameB f g n=true:=decide_eq_true h
end Go.Proofs.YtjaahnlpnkcimaaDoor
namespace Go.Proofs.YtjaahnlpnkcimaaDoor
set_option maxRecDepth 100000
open Go.RowKit
attribute [local go_sem ↓] Go.wp_at_zero Go.wp_at_succ
theorem same_any {b o c b2 o2 c2 n:Nat} {f g:Nat→Int} (hn:n≤1000000) {w:World} (h1:Rd w b o n f) (h2:Rd w b2 o2 n g) :
  Calls Tryd.prog 10 #[.slice (some ⟨b,o,none⟩) n c,.slice (some ⟨b2,o2,none⟩) n c2] w fun e w'=>e=.returned (.bool (sameB f g n))∧Below w.heap.size w w':=by
 have H1:Hid (Rd w b o n f):=h1
 have H2:Hid (Rd w b2 o2 n g):=h2
 clear h1 h2
 go_enter Tryd.func10,Tryd.ntmps10
 go_wp2_with fail
 go_loopg [5] n (fun gh s wr=>∃ k:Nat,gh=n-k∧k≤n∧s=.int .i64 k∧(∀ i,i<k→f i=g i)∧Below w.heap.size w wr)
 case atStart=>exact ⟨0,rfl,by omega,rfl,fun i h=>by omega,Below.refl _ _⟩
 case round =>
  obtain ⟨k,rfl,hk,rfl,hall,hB⟩:=hrel
  have HA:Hid (∀ i,i<k→f i=g i):=hall
  have HB:Hid (Below w.heap.size w wr):=hB
  by_cases hlt:k<n
  ·have hc1:=(H1.out.keep hB).c k hlt
   have hc2:=(H2.out.keep hB).c k hlt
   clear hB hall
   by_cases he:f k=g k
   ·have HS:Hid (∀ i,i<k+1→f i=g i):=fun i hi=>by
     by_cases e:i=k
     ·rw [e];exact he
     ·exact HA.out i (by omega)
    rw [← he] at hc2
    clear he
    go_upto_region 6 with fail
    go_quiet (fail)
    go_wp2_with fail
    go_roundg (n-(k+1))
    case measure=>omega
    case rel=>exact ⟨k+1,rfl,by omega,by go_num,HS.out,K.drewN HB.out _⟩
   ·have hb:(f k == g k)=false:=beq_eq_false_iff_ne.2 he
    have HS:Hid (sameB f g n=false):=same_no hlt he
    clear he
    go_upto_region 6 with fail
    go_quiet (fail)
    go_wp2_with fail
    go_ret
    exact ⟨ret_bool HS.out.symm,K.drewN HB.out _⟩
  ·obtain rfl:k=n:=by omega
   clear hall hB
   go_wp2_with fail
   go_ret
   exact ⟨ret_bool (same_yes HA.out).symm,HB.out⟩
end Go.Proofs.YtjaahnlpnkcimaaDoor
namespace Go.Proofs.YtjaahnlpnkcimaaDoor
set_option maxRecDepth 100000
open Go.RowKit
attribute [local go_sem ↓] Go.wp_at_zero Go.wp_at_succ
def cb (a b:Int) (k:Nat):Bool:=C a b k == 1
theorem cb_zero (a b:Int):cb a b 0=false:=by unfold cb;rw [C_zero];rfl
theorem ref_add_0 (a b:Int) (k:Nat) (h:cb a b k=false):IntKind.u64.wrap (L k a+L k b)=L k (a+b):=by
 have c1:=C_lo a b k
 have c2:=C_hi a b k
 have hc:C a b k=0:=by unfold cb at h;simp at h;omega
 have e:=add_word a b k
 rw [hc,Int.add_zero] at e
 rw [IntKind.wrap_u64,e]
theorem ref_add_1 (a b:Int) (k:Nat) (h:cb a b k=true):IntKind.u64.wrap (IntKind.u64.wrap (L k a+L k b)+1)=L k (a+b):=by
 have hc:C a b k=1:=by unfold cb at h;simpa using h
 have e:=add_word a b k
 rw [hc] at e
 rw [IntKind.wrap_u64,IntKind.wrap_u64,← e]
 omega
theorem ref_add_o0 (a b:Int) (k:Nat) (h:cb a b k=false):decide (L k (a+b)<L k a)=cb a b (k+1):=by
 have c1:=C_lo a b k
 have c2:=C_hi a b k
 have hc:C a b k=0:=by unfold cb at h;simp at h;omega
 have e:=add_word a b k
 have f:=add_carry a b k
 have a1:=L_lo k a
 have a2:=L_hi k a
 have b1:=L_lo k b
 have b2:=L_hi k b
 rw [hc] at e f
 unfold cb
 rw [← f,← e,Bool.eq_iff_iff]
 simp only [decide_eq_true_eq,beq_iff_eq]
 omega
theorem ref_add_o1 (a b:Int) (k:Nat) (h:cb a b k=true):(decide (IntKind.u64.wrap (L k a+L k b)<L k a) || (L k (a+b) == 0))=cb a b (k+1):=by
 have hc:C a b k=1:=by unfold cb at h;simpa using h
 have e:=add_word a b k
 have f:=add_carry a b k
 have a1:=L_lo k a
 have a2:=L_hi k a
 have b1:=L_lo k b
 have b2:=L_hi k b
 rw [hc] at e f
 unfold cb
 rw [← f,← e,IntKind.wrap_u64,Bool.eq_iff_iff]
 simp only [decide_eq_true_eq,beq_iff_eq,Bool.or_eq_true]
 omega
theorem ref_add_walk (a b:Int) (w:World) :
  Calls Tryd.prog 69 #[.agg #[.int .u64 (L 0 a),.int .u64 (L 1 a),.int .u64 (L 2 a),.int .u64 (L 3 a)],.agg #[.int .u64 (L 0 b),.int .u64 (L 1 b),.int .u64 (L 2 b),.int .u64 (L 3 b)]] w fun e w' =>
   e=.returned (.tuple #[.agg #[.int .u64 (L 0 (a+b)),.int .u64 (L 1 (a+b)),.int .u64 (L 2 (a+b)),.int .u64 (L 3 (a+b))],.bool (cb a b 4)])∧Below w.heap.size w w':=by
 go_enter Tryd.func69,Tryd.ntmps69
 go_wp2
 go_loopw [7,8] (fun s7 s8 w'=>(s8=.int .i64 0∧s7=.bool false∧∃ n,w'=((((w.alloc (.cells #[.int .u64 (L 0 a),.int .u64 (L 1 a),.int .u64 (L 2 a),.int .u64 (L 3 a)] 33)).alloc (.cells #[.int .u64 (L 0 b),.int .u64 (L 1 b),.int .u64 (L 2 b),.int .u64 (L 3 b)] 33)).alloc (.cells #[.int .u64 0,.int .u64 0,.int .u64 0,.int .u64 0] 33)).alloc (.cells #[.int .u64 0,.int .u64 0,.int .u64 0,.int .u64 0] 33)).drewN n)∨(s8=.int .i64 1∧s7=.bool (cb a b 1)∧∃ n,w'=((((w.alloc (.cells #[.int .u64 (L 0 a),.int .u64 (L 1 a),.int .u64 (L 2 a),.int .u64 (L 3 a)] 33)).alloc (.cells #[.int .u64 (L 0 b),.int .u64 (L 1 b),.int .u64 (L 2 b),.int .u64 (L 3 b)] 33)).alloc (.cells #[.int .u64 0,.int .u64 0,.int .u64 0,.int .u64 0] 33)).alloc (.cells #[.int .u64 (L 0 (a+b)),.int .u64 0,.int .u64 0,.int .u64 0] 33)).drewN n)∨(s8=.int .i64 2∧s7=.bool (cb a b 2)∧∃ n,w'=((((w.alloc (.cells #[.int .u64 (L 0 a),.int .u64 (L 1 a),.int .u64 (L 2 a),.int .u64 (L 3 a)] 33)).alloc (.cells #[.int .u64 (L 0 b),.int .u64 (L 1 b),.int .u64 (L 2 b),.int .u64 (L 3 b)] 33)).alloc (.cells #[.int .u64 0,.int .u64 0,.int .u64 0,.int .u64 0] 33)).alloc (.cells #[.int .u64 (L 0 (a+b)),.int .u64 (L 1 (a+b)),.int .u64 0,.int .u64 0] 33)).drewN n)∨(s8=.int .i64 3∧s7=.bool (cb a b 3)∧∃ n,w'=((((w.alloc (.cells #[.int .u64 (L 0 a),.int .u64 (L 1 a),.int .u64 (L 2 a),.int .u64 (L 3 a)] 33)).alloc (.cells #[.int .u64 (L 0 b),.int .u64 (L 1 b),.int .u64 (L 2 b),.int .u64 (L 3 b)] 33)).alloc (.cells #[.int .u64 0,.int .u64 0,.int .u64 0,.int .u64 0] 33)).alloc (.cells #[.int .u64 (L 0 (a+b)),.int .u64 (L 1 (a+b)),.int .u64 (L 2 (a+b)),.int .u64 0] 33)).drewN n)∨(s8=.int .i64 4∧s7=.bool (cb a b 4)∧∃ n,w'=((((w.alloc (.cells #[.int .u64 (L 0 a),.int .u64 (L 1 a),.int .u64 (L 2 a),.int .u64 (L 3 a)] 33)).alloc (.cells #[.int .u64 (L 0 b),.int .u64 (L 1 b),.int .u64 (L 2 b),.int .u64 (L 3 b)] 33)).alloc (.cells #[.int .u64 0,.int .u64 0,.int .u64 0,.int .u64 0] 33)).alloc (.cells #[.int .u64 (L 0 (a+b)),.int .u64 (L 1 (a+b)),.int .u64 (L 2 (a+b)),.int .u64 (L 3 (a+b))] 33)).drewN n)) (fun _ s8 _=>4-(intOf s8).toNat)
 case atStart=>exact Or.inl ⟨rfl,rfl,0,rfl⟩
 case round =>
  rcases hrel with ⟨rfl,rfl,n,rfl⟩ | ⟨rfl,rfl,n,rfl⟩ | ⟨rfl,rfl,n,rfl⟩ | ⟨rfl,rfl,n,rfl⟩ | ⟨rfl,rfl,n,rfl⟩
  ·have q1:=ref_add_0 a b 0 (cb_zero a b)
   have q2:decide (L 0 (a+b)<L 0 a)=cb a b 1:=ref_add_o0 a b 0 (cb_zero a b)
   go_wp2
   go_quiet (fail)
   go_wp2
   exact ⟨Or.inr (Or.inl ⟨rfl,(by first | rfl | exact congrArg Value.bool q3.symm),n+nq,set_out (by simp) _ _ _ _ _⟩),by simp [intOf]⟩
  ·cases hcb:cb a b 1
   ·have q1:=ref_add_0 a b 1 hcb
    have q2:decide (L 1 (a+b)<L 1 a)=cb a b 2:=ref_add_o0 a b 1 hcb
    go_wp2
    go_quiet (fail)
    go_wp2
    exact ⟨Or.inr (Or.inr (Or.inl ⟨rfl,(by first | rfl | exact congrArg Value.bool q3.symm),n+nq,set_out (by simp) _ _ _ _ _⟩)),by simp [intOf]⟩
   ·have q1:=ref_add_1 a b 1 hcb
    have q2:=ref_add_o1 a b 1 hcb
    by_cases o:IntKind.u64.wrap (L 1 a+L 1 b)<L 1 a
    ·have q3:cb a b 2=true:=by rw [← q2];simp [o]
     clear q2
     go_wp2
     go_quiet (fail)
     go_wp2
     exact ⟨Or.inr (Or.inr (Or.inl ⟨rfl,(by first | rfl | exact congrArg Value.bool q3.symm),n+nq,set_out (by simp) _ _ _ _ _⟩)),by simp [intOf]⟩
    ·have o2:decide (IntKind.u64.wrap (L 1 a+L 1 b)<L 1 a)=false:=by simpa using o
     have q3:(L 1 (a+b) == 0)=cb a b 2:=by rw [o2,Bool.false_or] at q2;exact q2
     clear q2
     go_wp2
     go_quiet (fail)
     go_wp2
     exact ⟨Or.inr (Or.inr (Or.inl ⟨rfl,(by first | rfl | exact congrArg Value.bool q3.symm),n+nq,set_out (by simp) _ _ _ _ _⟩)),by simp [intOf]⟩
  ·cases hcb:cb a b 2
   ·have q1:=ref_add_0 a b 2 hcb
    have q2:decide (L 2 (a+b)<L 2 a)=cb a b 3:=ref_add_o0 a b 2 hcb
    go_wp2
    go_quiet (fail)
    go_wp2
    exact ⟨Or.inr (Or.inr (Or.inr (Or.inl ⟨rfl,(by first | rfl | exact congrArg Value.bool q3.symm),n+nq,set_out (by simp) _ _ _ _ _⟩))),by simp [intOf]⟩
   ·have q1:=ref_add_1 a b 2 hcb
    have q2:=ref_add_o1 a b 2 hcb
    by_cases o:IntKind.u64.wrap (L 2 a+L 2 b)<L 2 a
    ·have q3:cb a b 3=true:=by rw [← q2];simp [o]
     clear q2
     go_wp2
     go_quiet (fail)
     go_wp2
     exact ⟨Or.inr (Or.inr (Or.inr (Or.inl ⟨rfl,(by first | rfl | exact congrArg Value.bool q3.symm),n+nq,set_out (by simp) _ _ _ _ _⟩))),by simp [intOf]⟩
    ·have o2:decide (IntKind.u64.wrap (L 2 a+L 2 b)<L 2 a)=false:=by simpa using o
     have q3:(L 2 (a+b) == 0)=cb a b 3:=by rw [o2,Bool.false_or] at q2;exact q2
     clear q2
     go_wp2
     go_quiet (fail)
     go_wp2
     exact ⟨Or.inr (Or.inr (Or.inr (Or.inl ⟨rfl,(by first | rfl | exact congrArg Value.bool q3.symm),n+nq,set_out (by simp) _ _ _ _ _⟩))),by simp [intOf]⟩
  ·cases hcb:cb a b 3
   ·have q1:=ref_add_0 a b 3 hcb
    have q2:decide (L 3 (a+b)<L 3 a)=cb a b 4:=ref_add_o0 a b 3 hcb
    go_wp2
    go_quiet (fail)
    go_wp2
    exact ⟨Or.inr (Or.inr (Or.inr (Or.inr (⟨rfl,(by first | rfl | exact congrArg Value.bool q3.symm),n+nq,set_out (by simp) _ _ _ _ _⟩)))),by simp [intOf]⟩
   ·have q1:=ref_add_1 a b 3 hcb
    have q2:=ref_add_o1 a b 3 hcb
    by_cases o:IntKind.u64.wrap (L 3 a+L 3 b)<L 3 a
    ·have q3:cb a b 4=true:=by rw [← q2];simp [o]
     clear q2
     go_wp2
     go_quiet (fail)
     go_wp2
     exact ⟨Or.inr (Or.inr (Or.inr (Or.inr (⟨rfl,(by first | rfl | exact congrArg Value.bool q3.symm),n+nq,set_out (by simp) _ _ _ _ _⟩)))),by simp [intOf]⟩
    ·have o2:decide (IntKind.u64.wrap (L 3 a+L 3 b)<L 3 a)=false:=by simpa using o
     have q3:(L 3 (a+b) == 0)=cb a b 4:=by rw [o2,Bool.false_or] at q2;exact q2
     clear q2
     go_wp2
     go_quiet (fail)
     go_wp2
     exact ⟨Or.inr (Or.inr (Or.inr (Or.inr (⟨rfl,(by first | rfl | exact congrArg Value.bool q3.symm),n+nq,set_out (by simp) _ _ _ _ _⟩)))),by simp [intOf]⟩
  ·go_wp2
   go_returns
   refine ⟨rfl,?_⟩
   repeat' (first | (with_reducible exact Below.refl _ _) | (with_reducible refine K.drewN ?_ _) | (with_reducible refine K.drew ?_) | (with_reducible refine K.alloc ?_ _) | (with_reducible refine K.set ?_ ?_ _) | (simp;done) | (simp;omega))
end Go.Proofs.YtjaahnlpnkcimaaDoor
namespace Go.Proofs.YtjaahnlpnkcimaaDoor
set_option maxRecDepth 100000
open Go.RowKit
theorem bT4 (a b c d:Fin m2):Tryd.prog.built 56 [(0,.agg (gc a).toArray),(1,.agg (gc b).toArray),(2,.agg (gc c).toArray),(3,.agg (gc d).toArray)]=some (gc a++gc b++gc c++gc d).toArray:=by kernel_rfl
theorem bPgn (a:Fin m2) (b:Int):Tryd.prog.built 40 [(0,.agg (gc a).toArray),(1,.agg (nc b).toArray)]=some (gc a++nc b++[Value.bool false]).toArray:=by kernel_rfl
theorem gc_im:gc im=[Value.int .u64 14190309331451158704]++[Value.int .u64 3405592160176694392]++[Value.int .u64 3120150775007532967]++[Value.int .u64 3135389899092516619]:=by kernel_rfl
theorem bIm:Tryd.prog.built 33 [(0,.int .u64 14190309331451158704),(1,.int .u64 3405592160176694392),(2,.int .u64 3120150775007532967),(3,.int .u64 3135389899092516619)]=some (gc im).toArray:=by rw [gc_im];kernel_rfl
theorem nc_three:nc 3=[Value.int .u64 3]++[Value.int .u64 0]++[Value.int .u64 0]++[Value.int .u64 0]:=by kernel_rfl
theorem ex8_num:Num ((ex8:Nat):Int):=⟨by decide +kernel,by decide +kernel⟩
theorem ex8_is:(md 2+3) / 2 / 2 / 2=((ex8:Nat):Int):=by decide +kernel
theorem gc_pow (x:Fin m2) (k:Nat):gc (x ^ k)=nc (pw (x.val:Int) (k:Int) % md 2):=by
 have h:x ^ k=kc ((x.val:Int) ^ k):=by rw [kc_pow,kc_self]
 rw [gc,h,kc_val,md_m2]
 unfold pw
 rw [Int.toNat_natCast]
theorem d_pow {w:World} (hT:Tab w) (x:Fin m2) {k:Nat} (hk:Num (k:Int)):Calls Tryd.prog 37 [.int .i64 2,.agg (gc x).toArray,.agg (nc (k:Int)).toArray].toArray w fun e w'=>e=.returned (.agg (gc (x ^ k)).toArray)∧Below w.heap.size w w':=by
 rw [gc_pow]
 exact f_pow (k:=2) ⟨by decide,by decide⟩ (gin_num x) hk hT
theorem gc_mulR {V:Int} (y:Fin m2) (hy:y=kc V):gc (y*y)=nc (V*V % md 2):=by
 rw [hy,← kc_mul,gc,kc_val,md_m2]
theorem s_mulF {w:World} (hT:Tab w) {V:Int} (hV:Num V) {y:Fin m2} (hy:y=kc V):Calls Tryd.prog 21 [.int .i64 2,.agg (nc V).toArray,.agg (nc V).toArray].toArray w fun e w'=>e=.returned (.agg (gc (y*y)).toArray)∧Below w.heap.size w w':=by
 rw [gc_mulR y hy]
 exact f_mul (k:=2) ⟨by decide,by decide⟩ hV hV hT
theorem t_Little {w:World} {b c:Nat} {V:Int} (hc:32≤c) {cs:List Value} (hr:w.rangeAt b 0 cs) (hcs:cs=by32 (fun i=>Y i V)):Calls Tryd.prog 11 [.slice (some ⟨b,0,none⟩) 32 c].toArray w fun e w'=>e=.returned (.tuple [.agg (nc V).toArray,.bool true].toArray)∧Below w.heap.size w w':=by
 subst hcs
 have h:=refLittle_any hc (fun i=>⟨Y_lo i V,Y_hi i V⟩) (rd_by hr)
 have w4:=E_words V
 rw [w4.1,w4.2.1,w4.2.2.1,w4.2.2.2] at h
 exact h
theorem t_Same {w:World} {b c b2 o2 c2:Nat} {f g:Nat→Int} (h1:w.rangeAt b 0 (by32 f)) (h2:Rd w b2 o2 32 g) {t:Bool} (ht:sameB f g 32=t):Calls Tryd.prog 10 [.slice (some ⟨b,0,none⟩) 32 c,.slice (some ⟨b2,o2,none⟩) 32 c2].toArray w fun e w'=>e=.returned (.bool t)∧Below w.heap.size w w':=by
 rw [← ht]
 exact same_any (by omega) (rd_by h1) h2
theorem by32_cells (f:Nat→Nat):by32 (fun i=>((f i:Nat):Int))=cells8 (fl f 32):=rfl
theorem tries_at (y:Fin m2) {j:Nat} (hj:j<4):gc (tr y j)=((gc (rt y)++gc (rt y*im)++gc (0-rt y)++gc (0-rt y*im)).drop (j*4)).take 4:=by
 match j,hj with
 | 0,_=>rfl
 | 1,_=>rfl
 | 2,_=>rfl
 | 3,_=>rfl
theorem s_small3 {w:World} :Calls Tryd.prog 67 [Value.int .u64 3].toArray w fun e w'=>e=.returned (.agg (nc 3).toArray)∧Below w.heap.size w w':=by
 refine enter (args:=[Value.int .u64 3]) Tryd.func67 rfl 5 rfl (lk rfl) (fun a h=>?_)
 refine aX h [] [eN 2 _] ⟨rfl,T0⟩ [(0,.val (Value.int .u64 3)),(2,.ptr 2 0)] [(2,nz)] (fun a w h=>?_)
 refine aX h [1] [eS 3 _,eS 4 (.val (.agg ([Value.int .u64 3]++[(Value.int IntKind.u64 0)]++[(Value.int IntKind.u64 0)]++[(Value.int IntKind.u64 0)]).toArray)),eM 2 _] ⟨rfl,fun L u=>u_build u (gd0 rfl) 4 rfl 33 #[(0,(.tmp 3)),(1,(.const (.int .u64 0))),(2,(.const (.int .u64 0))),(3,(.const (.int .u64 0)))] rfl [(0,Value.int .u64 3),(1,(Value.int IntKind.u64 0)),(2,(Value.int IntKind.u64 0)),(3,(Value.int IntKind.u64 0))] rfl ([Value.int .u64 3]++[(Value.int IntKind.u64 0)]++[(Value.int IntKind.u64 0)]++[(Value.int IntKind.u64 0)]) (g_bN4 _ _ _ _),rfl,T0⟩ [(2,_)] [(2,[Value.int .u64 3]++[(Value.int IntKind.u64 0)]++[(Value.int IntKind.u64 0)]++[(Value.int IntKind.u64 0)])] (fun a w h=>?_)
 refine wp_ret ?_
 refine ret_row h 2 33 rfl (lk rfl) 2 rfl ([Value.int .u64 3]++[(Value.int IntKind.u64 0)]++[(Value.int IntKind.u64 0)]++[(Value.int IntKind.u64 0)]) rfl _ Tryd.underlying33 rfl i33 ?_
 exact ⟨by rw [nc_three],h.grows⟩
theorem s_eighth {w:World} (hT:Tab w) :Calls Tryd.prog 38 [].toArray w fun e w'=>e=.returned (.agg (nc ((ex8:Nat):Int)).toArray)∧Below w.heap.size w w':=by
 obtain ⟨q3,hq3⟩:∃ z:Int,z=3:=⟨_,rfl⟩
 obtain ⟨q0,hq0⟩:∃ z:Int,z=md 2:=⟨_,rfl⟩
 obtain ⟨q1,hq1⟩:∃ z:Int,z=q0+q3:=⟨_,rfl⟩
 obtain ⟨q4,hq4⟩:∃ z:Int,z=q1 / 2:=⟨_,rfl⟩
 obtain ⟨q5,hq5⟩:∃ z:Int,z=q4 / 2:=⟨_,rfl⟩
 obtain ⟨q6,hq6⟩:∃ z:Int,z=q5 / 2:=⟨_,rfl⟩
 have nq1:Num q1:=by rw [hq1,hq0,hq3];exact ⟨by decide +kernel,by decide +kernel⟩
 have nq4:Num q4:=⟨by have:=nq1.lo;omega,by have:=nq1.lo;have:=nq1.hi;omega⟩
 have nq5:Num q5:=⟨by have:=nq4.lo;omega,by have:=nq4.lo;have:=nq4.hi;omega⟩
 refine enter (args:=[]) Tryd.func38 rfl 17 rfl (lk rfl) (fun a h=>?_)
 refine aX h [] [eN 0 _] ⟨rfl,T0⟩ [(0,.ptr 0 0)] [(0,nz)] (fun a w h=>?_)
 refine aX h [0,1,2] [eS 5 (.val (.agg (nc (q0)).toArray)),eS 6 (.val (.agg (nc (q3)).toArray)),eS 7 (.val (.tuple [Value.agg (nc (q1)).toArray,Value.bool (cb q0 q3 4)].toArray)),eS 4 _,eS 8 _,eS 9 _,eN 1 _,eM 1 _,eS 2 _] ⟨fun L u=>u_call u (gd0 rfl) _ rfl _ _ _ rfl [_] rfl (cE61 _) (.agg (nc (q0)).toArray) (fun w hb=>by have g:=f_mod 2 (hT.keep (Bs.kp_of hb));rw [← hq0] at g;exact g),fun L u=>u_call u (gd0 rfl) _ rfl _ _ _ rfl [_] rfl (cE67 _) (.agg (nc (q3)).toArray) (fun w hb=>by rw [hq3];exact s_small3),fun L u=>u_call u (gd0 rfl) _ rfl _ _ _ rfl [_,_] rfl (cE69 _) (.tuple [.agg (nc (q1)).toArray,Value.bool (cb q0 q3 4)].toArray) (fun w hb=>by have g:=ref_add_walk q0 q3 w;rw [← hq1] at g;exact g),rfl,rfl,rfl,rfl,rfl,rfl,T0⟩ [(0,_),(1,.ptr 1 0)] [(0,_),(1,nc (q1))] (fun a w h=>?_)
 refine wp_seq ?_
 refine aX h [] [eS 3 _] ⟨rfl,T0⟩ [(0,_),(1,_),(3,.val ((Value.int IntKind.i64 0)))] [(0,_),(1,_)] (fun a w h=>?_)
 refine wp_block ?_
 refine wp_loop_rounds 4 ?_
 rw [rounds_succ]
 refine wp_seq ?_
 refine aX h [1] [eS 10 _,eS 11 (.val (Value.bool true))] ⟨rfl,fun L u=>u_bin u (gd0 rfl) _ rfl _ _ _ _ _ rfl rfl rfl (eqg_int _ _ _ _ _ _ _ _) _ (yes_of (fun w=>i_lss _ _ _ _ w) (by decide)),T0⟩ [(0,_),(1,_),(3,_),(11,.val (Value.bool true))] [(0,_),(1,_)] (fun a w h=>?_)
 refine go_cond h true rfl (fun ht=>?_) (fun hf=>?_)
 case refine_2=>cases hf
 refine wp_skip ?_
 refine then_norm ?_
 refine wp_seq ?_
 refine wp_block ?_
 refine aE h [1] [eS 14 _,eS 15 (.val (.agg (nc (q4)).toArray)),eM 1 _] ⟨rfl,fun L u=>u_call u (gd0 rfl) _ rfl _ _ _ rfl [_] rfl (cE70 _) (.agg (nc (q4)).toArray) (fun w hb=>by have g:=ref_half_any nq1 w;rw [← hq4] at g;exact g),rfl,T0⟩ [(0,_),(1,_),(3,_)] [(0,_),(1,nc (q4))] (fun a w h=>?_)
 refine blk_norm ?_
 refine then_norm ?_
 refine aE h [1] [eS 12 _,eS 13 (.val (Value.int .i64 1)),eS 3 _] ⟨rfl,fun L u=>u_bin u (gd0 rfl) _ rfl _ _ _ _ _ rfl rfl rfl (eqg_int _ _ _ _ _ _ _ _) _ (fun w=>i_add _ _ _ _ (by decide) (by decide) w),rfl,T0⟩ [(0,_),(1,_),(3,.val (Value.int .i64 1))] [(0,_),(1,_)] (fun a w h=>?_)
 refine then_norm ?_
 rw [rounds_succ]
 refine wp_seq ?_
 refine aX h [1] [eS 10 _,eS 11 (.val (Value.bool true))] ⟨rfl,fun L u=>u_bin u (gd0 rfl) _ rfl _ _ _ _ _ rfl rfl rfl (eqg_int _ _ _ _ _ _ _ _) _ (yes_of (fun w=>i_lss _ _ _ _ w) (by decide)),T0⟩ [(0,_),(1,_),(3,_),(11,.val (Value.bool true))] [(0,_),(1,_)] (fun a w h=>?_)
 refine go_cond h true rfl (fun ht=>?_) (fun hf=>?_)
 case refine_2=>cases hf
 refine wp_skip ?_
 refine then_norm ?_
 refine wp_seq ?_
 refine wp_block ?_
 refine aE h [1] [eS 14 _,eS 15 (.val (.agg (nc (q5)).toArray)),eM 1 _] ⟨rfl,fun L u=>u_call u (gd0 rfl) _ rfl _ _ _ rfl [_] rfl (cE70 _) (.agg (nc (q5)).toArray) (fun w hb=>by have g:=ref_half_any nq4 w;rw [← hq5] at g;exact g),rfl,T0⟩ [(0,_),(1,_),(3,_)] [(0,_),(1,nc (q5))] (fun a w h=>?_)
 refine blk_norm ?_
 refine then_norm ?_
 refine aE h [1] [eS 12 _,eS 13 (.val (Value.int .i64 2)),eS 3 _] ⟨rfl,fun L u=>u_bin u (gd0 rfl) _ rfl _ _ _ _ _ rfl rfl rfl (eqg_int _ _ _ _ _ _ _ _) _ (fun w=>i_add _ _ _ _ (by decide) (by decide) w),rfl,T0⟩ [(0,_),(1,_),(3,.val (Value.int .i64 2))] [(0,_),(1,_)] (fun a w h=>?_)
 refine then_norm ?_
 rw [rounds_succ]
 refine wp_seq ?_
 refine aX h [1] [eS 10 _,eS 11 (.val (Value.bool true))] ⟨rfl,fun L u=>u_bin u (gd0 rfl) _ rfl _ _ _ _ _ rfl rfl rfl (eqg_int _ _ _ _ _ _ _ _) _ (yes_of (fun w=>i_lss _ _ _ _ w) (by decide)),T0⟩ [(0,_),(1,_),(3,_),(11,.val (Value.bool true))] [(0,_),(1,_)] (fun a w h=>?_)
 refine go_cond h true rfl (fun ht=>?_) (fun hf=>?_)
 case refine_2=>cases hf
 refine wp_skip ?_
 refine then_norm ?_
 refine wp_seq ?_
 refine wp_block ?_
 refine aE h [1] [eS 14 _,eS 15 (.val (.agg (nc (q6)).toArray)),eM 1 _] ⟨rfl,fun L u=>u_call u (gd0 rfl) _ rfl _ _ _ rfl [_] rfl (cE70 _) (.agg (nc (q6)).toArray) (fun w hb=>by have g:=ref_half_any nq5 w;rw [← hq6] at g;exact g),rfl,T0⟩ [(0,_),(1,_),(3,_)] [(0,_),(1,nc (q6))] (fun a w h=>?_)
 refine blk_norm ?_
 refine then_norm ?_
 refine aE h [1] [eS 12 _,eS 13 (.val (Value.int .i64 3)),eS 3 _] ⟨rfl,fun L u=>u_bin u (gd0 rfl) _ rfl _ _ _ _ _ rfl rfl rfl (eqg_int _ _ _ _ _ _ _ _) _ (fun w=>i_add _ _ _ _ (by decide) (by decide) w),rfl,T0⟩ [(0,_),(1,_),(3,.val (Value.int .i64 3))] [(0,_),(1,_)] (fun a w h=>?_)
 refine then_norm ?_
 rw [rounds_succ]
 refine wp_seq ?_
 refine aX h [1] [eS 10 _,eS 11 (.val (Value.bool false))] ⟨rfl,fun L u=>u_bin u (gd0 rfl) _ rfl _ _ _ _ _ rfl rfl rfl (eqg_int _ _ _ _ _ _ _ _) _ (no_of (fun w=>i_lss _ _ _ _ w) (by decide)),T0⟩ [(0,_),(1,_),(3,_),(11,.val (Value.bool false))] [(0,_),(1,_)] (fun a w h=>?_)
 refine go_cond h false rfl (fun ht=>?_) (fun hf=>?_)
 case refine_1=>cases ht
 refine wp_exit ?_
 refine then_exit ?_
 refine then_exit ?_
 refine blk_exit ?_
 refine then_norm ?_
 refine aX h [] [eS 16 _,eM 0 _] ⟨rfl,rfl,T0⟩ [(0,_)] [(0,nc (q6))] (fun a w h=>?_)
 refine wp_ret ?_
 refine ret_row h 0 33 rfl (lk rfl) 0 rfl (nc (q6)) rfl _ Tryd.underlying33 rfl i33 ?_
 exact ⟨by rw [← ex8_is,← hq0,← hq3,← hq1,← hq4,← hq5,← hq6],h.grows⟩
theorem s_mul9 {w:World} (hT:Tab w) {V:Int} (hVn:Num V) {y:Fin m2} (hy:y=kc V):Calls Tryd.prog 31 [.agg (nc V).toArray,.agg (nc V).toArray].toArray w fun e w'=>e=.returned (.agg (gc (y*y)).toArray)∧Below w.heap.size w w':=by
 refine enter (args:=[.agg (nc (V)).toArray,.agg (nc (V)).toArray]) Tryd.func31 rfl 8 rfl (lk rfl) (fun a h=>?_)
 refine aX h [] [eN 2 _,eN 3 _,eN 4 _] ⟨rfl,rfl,rfl,T0⟩ [(2,.ptr 2 0),(3,.ptr 3 0),(4,.ptr 4 0)] [(2,nc (V)),(3,nc (V)),(4,nz)] (fun a w h=>?_)
 refine aX h [2] [eS 5 _,eS 6 _,eS 7 _,eM 4 _] ⟨rfl,rfl,fun L u=>u_call u (gd0 rfl) _ rfl _ _ _ rfl [_,_,_] rfl (cE21 _) _ (fun w hb=>s_mulF (hT.keep (Bs.kp_of hb)) hVn hy),rfl,T0⟩ [(4,_)] [(4,gc (y*y))] (fun a w h=>?_)
 refine wp_ret ?_
 refine ret_row h 4 33 rfl (lk rfl) 4 rfl (gc (y*y)) rfl _ Tryd.underlying33 rfl i33 ?_
 exact ⟨rfl,h.grows⟩
theorem s_dec32 {w:World} (hT:Tab w) {b o c:Nat} {f:Nat→Nat} (hba:BA w (some ⟨b,o,none⟩) 32 f) (hrd:Rd w b o 32 (fun i=>((f i:Nat):Int))) {V:Int} (hVn:Num V) (hV:by31 (fun i=>((f i:Nat):Int)) ((fun i=>((f i:Nat):Int)) 31 % 128)=by32 (fun i=>Y i V)) {y:Fin m2} (hy:y=kc V) (Fo:Nat→Bool) (En:Nat→Nat→Int)
  (hform:∀ j,j<4→∀ {w:World},Tab w→Calls Tryd.prog 16 [.agg (gc (tr y j)++nc V++[Value.bool false]).toArray].toArray w fun e w'=>e=.returned (.bool (Fo j))∧Below w.heap.size w w')
  (henc:∀ j,j<4→Fo j=true→∀ {w:World},Tab w→Calls Tryd.prog 39 [.agg (gc (tr y j)++nc V++[Value.bool false]).toArray].toArray w fun e w'=>New32 (En j) w e w')
  (R:List Value→Bool→Prop) (hyes:∀ j,j<4→Fo j=true→sameB (En j) (fun i=>((f i:Nat):Int)) 32=true→R (gc (tr y j)++nc V++[Value.bool false]) true) (hno:(∀ j,j<4→¬ (Fo j=true∧sameB (En j) (fun i=>((f i:Nat):Int)) 32=true))→R (pcE (Ep.o m2)) false) :
  Calls Tryd.prog 14 [Value.slice (some ⟨b,o,none⟩) (32) (c)].toArray w fun e w'=>∃ cs t,e=.returned (.tuple [.agg cs.toArray,.bool t].toArray)∧R cs t∧Below w.heap.size w w':=by
 refine enter (args:=[Value.slice (some ⟨b,o,none⟩) (32) (c)]) Tryd.func14 rfl 79 rfl (lk rfl) (fun a h=>?_)
 refine aX h [] [eN 2 _,eS 3 _] ⟨rfl,rfl,T0⟩ [(0,.val (Value.slice (some ⟨b,o,none⟩) (32) (c))),(2,.ptr 2 0)] [(2,nz++nz++[Value.bool false])] (fun a w h=>?_)
 refine wp_seq ?_
 refine aX h [1,2] [eS 14 _,eS 15 (.val (Value.int .i64 ((32:Nat):Int))),eS 16 (.val (Value.bool false))] ⟨rfl,fun L u=>u_lenV u (gd0 rfl) 15 rfl (.tmp 14) 24 rfl rfl Tryd.underlying24,fun L u=>u_bin u (gd0 rfl) _ rfl _ _ _ _ _ rfl rfl rfl (eqg_int _ _ _ _ _ _ _ _) _ (no_of (fun w=>i_neq _ _ _ _ w) (by decide)),T0⟩ [(0,_),(2,_),(16,.val (Value.bool false))] [(2,_)] (fun a w h=>?_)
 refine go_cond h false rfl (fun ht=>?_) (fun hf=>?_)
 case refine_1=>cases ht
 refine wp_skip ?_
 refine then_norm ?_
 refine aX h [] [eS 4 _] ⟨rfl,T0⟩ [(0,_),(2,_),(4,.val ((Value.slice none 0 0)))] [(2,_)] (fun a w h=>?_)
 refine wp_seq ?_
 refine sq_begin [0,1,2,3] rfl ?_
 refine sq_step h (i:=0) rfl (u_move (xs:=[]) (up_seq (i:=0) (by kernel_rfl) rfl) (gd0 rfl) 18 rfl (.tmp 4) (Or.inl rfl) rfl) (fun a w h=>?_)
 refine sq_step h (i:=1) rfl (u_move (xs:=[]) (up_seq (i:=1) (by kernel_rfl) rfl) (gd0 rfl) 19 rfl (.tmp 0) (Or.inl rfl) rfl) (fun a w h=>?_)
 refine sq_app0 h (i:=2) rfl (gq0 rfl) 20 rfl rfl (.tmp 18) (.tmp 19) rfl rfl rfl (fun hb=>hba.keep (Bs.kp_of hb)) (by omega) (by omega) (by32 (fun i=>((f i:Nat):Int))) (by32_cells f) (fun c20 a w hc20 h=>?_)
 replace h:=h.keep [(0,.val (Value.slice (some ⟨b,o,none⟩) (32) (c))),(2,.ptr 2 0),(4,.val ((Value.slice none 0 0))),(18,.val ((Value.slice none 0 0))),(19,.val (Value.slice (some ⟨b,o,none⟩) (32) (c))),(20,.sli 20 0 32 c20)] [(2,nz++nz++[Value.bool false]),(20,by32 (fun i=>((f i:Nat):Int)))] ⟨rfl,rfl,rfl,rfl,rfl,rfl,trivial⟩ ⟨rfl,rfl,trivial⟩ rfl
 refine sq_step h (i:=3) rfl (u_copy (xs:=[]) (up_seq (i:=3) (by kernel_rfl) rfl) (gd0 rfl) 4 rfl (.tmp 20) (Or.inr rfl) rfl (fun x c hp=>by cases hp;exact ⟨_,rfl⟩)) (fun a w h=>?_)
 replace h:=h.keep [(0,.val (Value.slice (some ⟨b,o,none⟩) (32) (c))),(2,.ptr 2 0),(4,.sli 20 0 32 c20)] [(2,nz++nz++[Value.bool false]),(20,by32 (fun i=>((f i:Nat):Int)))] ⟨rfl,rfl,rfl,trivial⟩ ⟨rfl,rfl,trivial⟩ rfl
 refine sq_end ?_
 refine then_norm ?_
 refine aX h [2,4,5] [eS 21 _,eS 22 _,eS 23 (.ptr 20 31),eS 24 _,eS 25 (.val (Value.int .u8 (((fun i=>((f i:Nat):Int)) 31) % 128))),eS 26 (.ptr 20 31),eM 20 _] ⟨rfl,rfl,fun L u=>u_atS u (gd0 rfl) 23 rfl 24 (.tmp 22) (.const (.int .i64 31)) rfl rfl rfl (k:=31) rfl Tryd.underlying24 i5 (by decide) 31 rfl,rfl,fun L u=>u_bin u (gd0 rfl) _ rfl _ _ _ _ _ rfl rfl rfl (eqg_int _ _ _ _ _ _ _ _) _ (fun w=>i_rem _ _ _ _ _ (by show 0≤((f 31:Nat):Int);omega) (by decide) rfl w),fun L u=>u_atS u (gd0 rfl) 26 rfl 24 (.tmp 21) (.const (.int .i64 31)) rfl rfl rfl (k:=31) rfl Tryd.underlying24 i5 (by decide) 31 rfl,rfl,T0⟩ [(0,_),(2,_),(4,_)] [(2,_),(20,by31 (fun i=>((f i:Nat):Int)) ((((fun i=>((f i:Nat):Int)) 31) % 128)))] (fun a w h=>?_)
 refine aX h [1] [eS 28 _,eS 29 (.val (.tuple [Value.agg (nc (V)).toArray,Value.bool true].toArray)),eS 27 _,eS 30 _,eS 31 _,eN 5 _,eM 5 _,eS 6 _] ⟨rfl,fun L u=>u_callR u (gd0 rfl) 29 rfl 11 #[(.tmp 28)] #[24] rfl [.sli 20 0 32 c20] rfl (fun vs w=>callFunc_enter Tryd.func11 (by kernel_rfl) (by kernel_rfl) vs w) (.tuple [.agg (nc (V)).toArray,Value.bool true].toArray) (fun β a w hr=>t_Little hc20 (hr.va 20 (by31 (fun i=>((f i:Nat):Int)) ((((fun i=>((f i:Nat):Int)) 31) % 128))) (u.m rfl)).2.2.1 hV),rfl,rfl,rfl,rfl,rfl,rfl,T0⟩ [(0,_),(2,_),(5,.ptr 5 0)] [(2,_),(5,nc (V))] (fun a w h=>?_)
 refine aX h [2] [eS 32 _,eS 33 _,eS 34 _,eN 7 _,eM 7 _] ⟨rfl,rfl,fun L u=>u_call u (gd0 rfl) _ rfl _ _ _ rfl [_,_] rfl (cE31 _) _ (fun w hb=>s_mul9 (hT.keep (Bs.kp_of hb)) hVn hy),rfl,rfl,T0⟩ [(0,_),(2,_),(5,_),(7,.ptr 7 0)] [(2,_),(5,_),(7,gc (y*y))] (fun a w h=>?_)
 refine aX h [1,2,3,5,6,7,8,9] [eS 35 _,eS 36 _,eS 37 _,eS 38 _,eS 39 _,eS 40 _,eS 41 _,eS 42 _,eS 43 _,eS 44 (.val (.agg (gc (xx2 y)).toArray)),eN 8 _,eM 8 _] ⟨rfl,fun L u=>u_call u (gd0 rfl) _ rfl _ _ _ rfl [] rfl (cE33 _) _ (fun w hb=>s_One),fun L u=>u_call u (gd0 rfl) _ rfl _ _ _ rfl [_,_] rfl (cE32 _) _ (fun w hb=>s_sub (hT.keep (Bs.kp_of hb)) _ _),fun L u=>u_call u (gd0 rfl) _ rfl _ _ _ rfl [] rfl (cE36 _) _ (fun w hb=>s_D),rfl,fun L u=>u_call u (gd0 rfl) _ rfl _ _ _ rfl [_,_] rfl (cE31 _) _ (fun w hb=>s_mul (hT.keep (Bs.kp_of hb)) _ _),fun L u=>u_call u (gd0 rfl) _ rfl _ _ _ rfl [] rfl (cE33 _) _ (fun w hb=>s_One),fun L u=>u_call u (gd0 rfl) _ rfl _ _ _ rfl [_,_] rfl (cE35 _) _ (fun w hb=>s_add (hT.keep (Bs.kp_of hb)) _ _),fun L u=>u_call u (gd0 rfl) _ rfl _ _ _ rfl [_,_] rfl (cE34 _) _ (fun w hb=>d_inv (hT.keep (Bs.kp_of hb)) _),fun L u=>u_call u (gd0 rfl) _ rfl _ _ _ rfl [_,_] rfl (cE31 _) (.agg (gc (xx2 y)).toArray) (fun w hb=>by have g:=s_mul (hT.keep (Bs.kp_of hb)) ((y*y)-(1)) (fiv ((ed*(y*y))+(1)));exact g),rfl,rfl,T0⟩ [(0,_),(2,_),(5,_),(8,.ptr 8 0)] [(2,_),(5,_),(8,gc (xx2 y))] (fun a w h=>?_)
 refine aX h [1,2] [eS 45 _,eS 46 _,eS 47 (.val (.agg (gc (rt y)).toArray)),eN 9 _,eM 9 _] ⟨rfl,fun L u=>u_call u (gd0 rfl) _ rfl _ _ _ rfl [] rfl (cE38 _) _ (fun w hb=>s_eighth (hT.keep (Bs.kp_of hb))),fun L u=>u_call u (gd0 rfl) _ rfl _ _ _ rfl [_,_,_] rfl (cE37 _) (.agg (gc (rt y)).toArray) (fun w hb=>by have g:=d_pow (hT.keep (Bs.kp_of hb)) (xx2 y) ex8_num;exact g),rfl,rfl,T0⟩ [(0,_),(2,_),(5,_),(9,.ptr 9 0)] [(2,_),(5,_),(9,gc (rt y))] (fun a w h=>?_)
 refine aX h [1,2] [eS 48 _,eS 49 (.val (.agg (gc (im)).toArray)),eS 50 _,eN 10 _,eM 10 _] ⟨rfl,fun L u=>u_build u (gd0 rfl) 49 rfl 33 #[(0,(.const (.int .u64 14190309331451158704))),(1,(.const (.int .u64 3405592160176694392))),(2,(.const (.int .u64 3120150775007532967))),(3,(.const (.int .u64 3135389899092516619)))] rfl [(0,(Value.int IntKind.u64 14190309331451158704)),(1,(Value.int IntKind.u64 3405592160176694392)),(2,(Value.int IntKind.u64 3120150775007532967)),(3,(Value.int IntKind.u64 3135389899092516619))] rfl (gc (im)) (bIm),fun L u=>u_call u (gd0 rfl) _ rfl _ _ _ rfl [_,_] rfl (cE31 _) _ (fun w hb=>s_mul (hT.keep (Bs.kp_of hb)) _ _),rfl,rfl,T0⟩ [(0,_),(2,_),(5,_),(9,_),(10,.ptr 10 0)] [(2,_),(5,_),(9,_),(10,gc (rt y*im))] (fun a w h=>?_)
 refine aX h [2,4,5,7,8] [eS 51 _,eS 52 _,eS 53 (.val (.agg (nz).toArray)),eS 54 _,eS 55 (.val (.agg (gc (0-rt y)).toArray)),eS 56 (.val (.agg (nz).toArray)),eS 57 _,eS 58 (.val (.agg (gc (0-rt y*im)).toArray)),eS 59 (.val (.agg (gc (rt y)++gc (rt y*im)++gc (0-rt y)++gc (0-rt y*im)).toArray)),eN 11 _,eM 11 _] ⟨rfl,rfl,fun L u=>u_build u (gd0 rfl) 53 rfl 33 #[] rfl [] rfl (nz) (g_bN0),rfl,fun L u=>u_call u (gd0 rfl) _ rfl _ _ _ rfl [_,_] rfl (cE32 _) (.agg (gc (0-rt y)).toArray) (fun w hb=>by have g:=s_sub (hT.keep (Bs.kp_of hb)) 0 (rt y);rw [← nz_gc] at g;exact g),fun L u=>u_build u (gd0 rfl) 56 rfl 33 #[] rfl [] rfl (nz) (g_bN0),rfl,fun L u=>u_call u (gd0 rfl) _ rfl _ _ _ rfl [_,_] rfl (cE32 _) (.agg (gc (0-rt y*im)).toArray) (fun w hb=>by have g:=s_sub (hT.keep (Bs.kp_of hb)) 0 (rt y*im);rw [← nz_gc] at g;exact g),fun L u=>u_build u (gd0 rfl) 59 rfl 56 #[(0,(.tmp 51)),(1,(.tmp 52)),(2,(.tmp 55)),(3,(.tmp 58))] rfl [(0,.agg (gc (rt y)).toArray),(1,.agg (gc (rt y*im)).toArray),(2,.agg (gc (0-rt y)).toArray),(3,.agg (gc (0-rt y*im)).toArray)] rfl (gc (rt y)++gc (rt y*im)++gc (0-rt y)++gc (0-rt y*im)) (bT4 _ _ _ _),rfl,rfl,T0⟩ [(0,_),(2,_),(5,_),(11,.ptr 11 0)] [(2,_),(5,_),(11,gc (rt y)++gc (rt y*im)++gc (0-rt y)++gc (0-rt y*im))] (fun a w h=>?_)
 refine wp_seq ?_
 refine aX h [] [eS 12 _] ⟨rfl,T0⟩ [(0,_),(2,_),(5,_),(11,_),(12,.val ((Value.int IntKind.i64 0)))] [(2,_),(5,_),(11,_)] (fun a w h=>?_)
 refine wp_block ?_
 refine go_loop (fun (j:Nat)=>SS.mk' [(0,.val (Value.slice (some ⟨b,o,none⟩) (32) (c))),(2,.ptr 2 0),(5,.ptr 5 0),(11,.ptr 11 0),(12,.val (Value.int .i64 ((j:Nat):Int)))] [(2,nz++nz++[Value.bool false]),(5,nc (V)),(11,gc (rt y)++gc (rt y*im)++gc (0-rt y)++gc (0-rt y*im))]) (fun j=>j≤4∧∀ i,i<j→¬ (Fo i=true∧sameB (En i) (fun i=>((f i:Nat):Int)) 32=true)) (fun j=>4-j) (i:=0) (h.keep [(0,.val (Value.slice (some ⟨b,o,none⟩) (32) (c))),(2,.ptr 2 0),(5,.ptr 5 0),(11,.ptr 11 0),(12,.val (Value.int .i64 ((0:Nat):Int)))] [(2,nz++nz++[Value.bool false]),(5,nc (V)),(11,gc (rt y)++gc (rt y*im)++gc (0-rt y)++gc (0-rt y*im))] ⟨rfl,rfl,rfl,rfl,rfl,T0⟩ ⟨rfl,rfl,rfl,T0⟩ rfl) ⟨by omega,fun i hi=>by omega⟩ (fun j a w hG h=>?_)
 by_cases hs:j<4
 ·skip
  by_cases hF:Fo j=true
  ·skip
   by_cases hS:sameB (En j) (fun i=>((f i:Nat):Int)) 32=true
   ·skip
    have hG1:=hG.1
    refine wp_seq ?_
    refine aX h [1] [eS 60 _,eS 61 (.val (Value.bool true))] ⟨rfl,fun L u=>u_bin u (gd0 rfl) _ rfl _ _ _ _ _ rfl rfl rfl (eqg_int _ _ _ _ _ _ _ _) _ (yes_of (fun w=>i_lss _ _ _ _ w) (by omega)),T0⟩ [(0,_),(2,_),(5,_),(11,_),(12,_),(61,.val (Value.bool true))] [(2,_),(5,_),(11,_)] (fun a w h=>?_)
    refine go_cond h true rfl (fun ht=>?_) (fun hf=>?_)
    case refine_2=>cases hf
    refine wp_skip ?_
    refine then_norm ?_
    refine wp_seq ?_
    refine wp_block ?_
    refine aX h [1,2,4] [eS 64 _,eS 65 (.ptr 11 (j*4)),eS 66 (.val (.agg (gc (tr y j)).toArray)),eS 67 _,eS 68 (.val (.agg (gc (tr y j)++nc (V)++[Value.bool false]).toArray)),eN 13 _,eM 13 _] ⟨rfl,fun L u=>u_at u (gd0 rfl) 65 rfl 56 (.tmp 11) (.tmp 64) rfl rfl rfl (k:=j) rfl Tryd.underlying56 i33 (by omega) (j*4) (by omega),fun L u=>u_load u (gd0 rfl) 66 rfl 33 (.tmp 65) rfl rfl rfl Tryd.underlying33 rfl i33 (by show j*4+4≤16;omega) (gc (tr y j)) (tries_at y hs),rfl,fun L u=>u_build u (gd0 rfl) 68 rfl 40 #[(0,(.tmp 66)),(1,(.tmp 67))] rfl [(0,.agg (gc (tr y j)).toArray),(1,.agg (nc (V)).toArray)] rfl (gc (tr y j)++nc (V)++[Value.bool false]) (bPgn _ _),rfl,rfl,T0⟩ [(0,_),(2,_),(5,_),(11,_),(12,_),(13,.ptr 13 0)] [(2,_),(5,_),(11,_),(13,gc (tr y j)++nc (V)++[Value.bool false])] (fun a w h=>?_)
    refine wp_seq ?_
    refine sq_begin [0,1,2,3,4,5,6,7] rfl ?_
    refine sq_step h (i:=0) rfl (u_load (xs:=[]) (up_seq (i:=0) (by kernel_rfl) rfl) (gd0 rfl) 69 rfl 40 (.tmp 13) rfl rfl rfl Tryd.underlying40 rfl i40 (lk rfl) _ rfl) (fun a w h=>?_)
    refine sq_step h (i:=1) rfl (u_call (xs:=[]) (up_seq (i:=1) (by kernel_rfl) rfl) (gd0 rfl) _ rfl _ _ _ rfl [_] rfl (cE16 _) (Value.bool true) (fun w hb=>by have q:=hform j hs (hT.keep (Bs.kp_of hb));rw [hF] at q;exact q)) (fun a w h=>?_)
    refine sq_step h (i:=2) rfl (u_move (xs:=[]) (up_seq (i:=2) (by kernel_rfl) rfl) (gd0 rfl) 71 rfl (.tmp 70) (Or.inl rfl) rfl) (fun a w h=>?_)
    refine sq_step h (i:=3) rfl (u_load (xs:=[]) (up_seq (i:=3) (by kernel_rfl) rfl) (gd1 (xs:=[]) (up_seq (i:=3) (by kernel_rfl) rfl) 2 true rfl 71 rfl (lk rfl) rfl) 72 rfl 40 (.tmp 13) rfl rfl rfl Tryd.underlying40 rfl i40 (lk rfl) _ rfl) (fun a w h=>?_)
    refine sq_callN h (i:=4) rfl (gq1 2 true rfl rfl) 73 rfl rfl 39 #[(.tmp 72)] #[40] rfl [.agg (gc (tr y j)++nc (V)++[Value.bool false]).toArray] rfl (cE39 _) 32 (by32 (En j)) (fun hb=>henc j hs hF (hT.keep (Bs.kp_of hb))) (fun c73 a w hc73 h=>?_)
    replace h:=h.keep [(0,.val (Value.slice (some ⟨b,o,none⟩) (32) (c))),(2,.ptr 2 0),(5,.ptr 5 0),(11,.ptr 11 0),(12,.val (Value.int .i64 ((j:Nat):Int))),(13,.ptr 13 0),(69,.val (.agg (gc (tr y j)++nc (V)++[Value.bool false]).toArray)),(70,.val (Value.bool true)),(71,.val (Value.bool true)),(72,.val (.agg (gc (tr y j)++nc (V)++[Value.bool false]).toArray)),(73,.sli 73 0 32 c73)] [(2,nz++nz++[Value.bool false]),(5,nc (V)),(11,gc (rt y)++gc (rt y*im)++gc (0-rt y)++gc (0-rt y*im)),(13,gc (tr y j)++nc (V)++[Value.bool false]),(73,by32 (En j))] ⟨rfl,rfl,rfl,rfl,rfl,rfl,rfl,rfl,rfl,rfl,rfl,trivial⟩ ⟨rfl,rfl,rfl,rfl,rfl,trivial⟩ rfl
    refine sq_step h (i:=5) rfl (u_move (xs:=[]) (up_seq (i:=5) (by kernel_rfl) rfl) (gd1 (xs:=[]) (up_seq (i:=5) (by kernel_rfl) rfl) 2 true rfl 71 rfl (lk rfl) rfl) 74 rfl (.tmp 0) (Or.inl rfl) rfl) (fun a w h=>?_)
    refine sq_step h (i:=6) rfl (u_callR (xs:=[]) (up_seq (i:=6) (by kernel_rfl) rfl) (gd1 (xs:=[]) (up_seq (i:=6) (by kernel_rfl) rfl) 2 true rfl 71 rfl (lk rfl) rfl) 75 rfl 10 #[(.tmp 73),(.tmp 74)] #[24,24] rfl [.sli 73 0 32 c73,.val (Value.slice (some ⟨b,o,none⟩) (32) (c))] rfl (fun vs w=>callFunc_enter Tryd.func10 (by kernel_rfl) (by kernel_rfl) vs w) (Value.bool true) (fun β a w hr=>t_Same (hr.va 73 (by32 (En j)) rfl).2.2.1 (hrd.keep (Bs.kp_of hr.bl)) hS)) (fun a w h=>?_)
    refine sq_step h (i:=7) rfl (u_pick (xs:=[]) (up_seq (i:=7) (by kernel_rfl) rfl) (gd0 rfl) 76 rfl (.tmp 71) (.tmp 75) (.const (.bool false)) rfl rfl rfl rfl _ rfl) (fun a w h=>?_)
    replace h:=h.keep [(0,.val (Value.slice (some ⟨b,o,none⟩) (32) (c))),(2,.ptr 2 0),(5,.ptr 5 0),(11,.ptr 11 0),(12,.val (Value.int .i64 ((j:Nat):Int))),(13,.ptr 13 0),(76,.val (Value.bool true))] [(2,nz++nz++[Value.bool false]),(5,nc (V)),(11,gc (rt y)++gc (rt y*im)++gc (0-rt y)++gc (0-rt y*im)),(13,gc (tr y j)++nc (V)++[Value.bool false])] ⟨rfl,rfl,rfl,rfl,rfl,rfl,rfl,trivial⟩ ⟨rfl,rfl,rfl,rfl,trivial⟩ rfl
    refine sq_end ?_
    refine then_norm ?_
    refine go_cond h true rfl (fun ht=>?_) (fun hf=>?_)
    case refine_2=>cases hf
    refine aX h [] [eS 77 _,eM 2 _,eS 3 _] ⟨rfl,rfl,rfl,T0⟩ [(2,_),(3,.val (Value.bool true))] [(2,gc (tr y j)++nc (V)++[Value.bool false])] (fun a w h=>?_)
    refine wp_ret ?_
    refine blk_ret ?_
    refine then_ret ?_
    refine then_ret ?_
    refine blk_ret ?_
    refine then_ret ?_
    refine ret_two h _ _ rfl (ans_row (cs:=gc (tr y j)++nc (V)++[Value.bool false]) 2 (lk rfl) 40 rfl rfl Tryd.underlying40 rfl i40) (ans_tmp (v:=Value.bool true) 3 (lk rfl) rfl) ?_
    first | exact ⟨_,_,rfl,hyes j hs hF hS,h.grows⟩ | exact ⟨_,_,rfl,hno (fun i hi hq=>hG.2 i (by omega) hq),h.grows⟩
   ·skip
    have hG1:=hG.1
    have hS2:=Bool.eq_false_iff.2 hS
    refine wp_seq ?_
    refine aX h [1] [eS 60 _,eS 61 (.val (Value.bool true))] ⟨rfl,fun L u=>u_bin u (gd0 rfl) _ rfl _ _ _ _ _ rfl rfl rfl (eqg_int _ _ _ _ _ _ _ _) _ (yes_of (fun w=>i_lss _ _ _ _ w) (by omega)),T0⟩ [(0,_),(2,_),(5,_),(11,_),(12,_),(61,.val (Value.bool true))] [(2,_),(5,_),(11,_)] (fun a w h=>?_)
    refine go_cond h true rfl (fun ht=>?_) (fun hf=>?_)
    case refine_2=>cases hf
    refine wp_skip ?_
    refine then_norm ?_
    refine wp_seq ?_
    refine wp_block ?_
    refine aX h [1,2,4] [eS 64 _,eS 65 (.ptr 11 (j*4)),eS 66 (.val (.agg (gc (tr y j)).toArray)),eS 67 _,eS 68 (.val (.agg (gc (tr y j)++nc (V)++[Value.bool false]).toArray)),eN 13 _,eM 13 _] ⟨rfl,fun L u=>u_at u (gd0 rfl) 65 rfl 56 (.tmp 11) (.tmp 64) rfl rfl rfl (k:=j) rfl Tryd.underlying56 i33 (by omega) (j*4) (by omega),fun L u=>u_load u (gd0 rfl) 66 rfl 33 (.tmp 65) rfl rfl rfl Tryd.underlying33 rfl i33 (by show j*4+4≤16;omega) (gc (tr y j)) (tries_at y hs),rfl,fun L u=>u_build u (gd0 rfl) 68 rfl 40 #[(0,(.tmp 66)),(1,(.tmp 67))] rfl [(0,.agg (gc (tr y j)).toArray),(1,.agg (nc (V)).toArray)] rfl (gc (tr y j)++nc (V)++[Value.bool false]) (bPgn _ _),rfl,rfl,T0⟩ [(0,_),(2,_),(5,_),(11,_),(12,_),(13,.ptr 13 0)] [(2,_),(5,_),(11,_),(13,gc (tr y j)++nc (V)++[Value.bool false])] (fun a w h=>?_)
    refine wp_seq ?_
    refine sq_begin [0,1,2,3,4,5,6,7] rfl ?_
    refine sq_step h (i:=0) rfl (u_load (xs:=[]) (up_seq (i:=0) (by kernel_rfl) rfl) (gd0 rfl) 69 rfl 40 (.tmp 13) rfl rfl rfl Tryd.underlying40 rfl i40 (lk rfl) _ rfl) (fun a w h=>?_)
    refine sq_step h (i:=1) rfl (u_call (xs:=[]) (up_seq (i:=1) (by kernel_rfl) rfl) (gd0 rfl) _ rfl _ _ _ rfl [_] rfl (cE16 _) (Value.bool true) (fun w hb=>by have q:=hform j hs (hT.keep (Bs.kp_of hb));rw [hF] at q;exact q)) (fun a w h=>?_)
    refine sq_step h (i:=2) rfl (u_move (xs:=[]) (up_seq (i:=2) (by kernel_rfl) rfl) (gd0 rfl) 71 rfl (.tmp 70) (Or.inl rfl) rfl) (fun a w h=>?_)
    refine sq_step h (i:=3) rfl (u_load (xs:=[]) (up_seq (i:=3) (by kernel_rfl) rfl) (gd1 (xs:=[]) (up_seq (i:=3) (by kernel_rfl) rfl) 2 true rfl 71 rfl (lk rfl) rfl) 72 rfl 40 (.tmp 13) rfl rfl rfl Tryd.underlying40 rfl i40 (lk rfl) _ rfl) (fun a w h=>?_)
    refine sq_callN h (i:=4) rfl (gq1 2 true rfl rfl) 73 rfl rfl 39 #[(.tmp 72)] #[40] rfl [.agg (gc (tr y j)++nc (V)++[Value.bool false]).toArray] rfl (cE39 _) 32 (by32 (En j)) (fun hb=>henc j hs hF (hT.keep (Bs.kp_of hb))) (fun c73 a w hc73 h=>?_)
    replace h:=h.keep [(0,.val (Value.slice (some ⟨b,o,none⟩) (32) (c))),(2,.ptr 2 0),(5,.ptr 5 0),(11,.ptr 11 0),(12,.val (Value.int .i64 ((j:Nat):Int))),(13,.ptr 13 0),(69,.val (.agg (gc (tr y j)++nc (V)++[Value.bool false]).toArray)),(70,.val (Value.bool true)),(71,.val (Value.bool true)),(72,.val (.agg (gc (tr y j)++nc (V)++[Value.bool false]).toArray)),(73,.sli 73 0 32 c73)] [(2,nz++nz++[Value.bool false]),(5,nc (V)),(11,gc (rt y)++gc (rt y*im)++gc (0-rt y)++gc (0-rt y*im)),(13,gc (tr y j)++nc (V)++[Value.bool false]),(73,by32 (En j))] ⟨rfl,rfl,rfl,rfl,rfl,rfl,rfl,rfl,rfl,rfl,rfl,trivial⟩ ⟨rfl,rfl,rfl,rfl,rfl,trivial⟩ rfl
    refine sq_step h (i:=5) rfl (u_move (xs:=[]) (up_seq (i:=5) (by kernel_rfl) rfl) (gd1 (xs:=[]) (up_seq (i:=5) (by kernel_rfl) rfl) 2 true rfl 71 rfl (lk rfl) rfl) 74 rfl (.tmp 0) (Or.inl rfl) rfl) (fun a w h=>?_)
    refine sq_step h (i:=6) rfl (u_callR (xs:=[]) (up_seq (i:=6) (by kernel_rfl) rfl) (gd1 (xs:=[]) (up_seq (i:=6) (by kernel_rfl) rfl) 2 true rfl 71 rfl (lk rfl) rfl) 75 rfl 10 #[(.tmp 73),(.tmp 74)] #[24,24] rfl [.sli 73 0 32 c73,.val (Value.slice (some ⟨b,o,none⟩) (32) (c))] rfl (fun vs w=>callFunc_enter Tryd.func10 (by kernel_rfl) (by kernel_rfl) vs w) (Value.bool false) (fun β a w hr=>t_Same (hr.va 73 (by32 (En j)) rfl).2.2.1 (hrd.keep (Bs.kp_of hr.bl)) hS2)) (fun a w h=>?_)
    refine sq_step h (i:=7) rfl (u_pick (xs:=[]) (up_seq (i:=7) (by kernel_rfl) rfl) (gd0 rfl) 76 rfl (.tmp 71) (.tmp 75) (.const (.bool false)) rfl rfl rfl rfl _ rfl) (fun a w h=>?_)
    replace h:=h.keep [(0,.val (Value.slice (some ⟨b,o,none⟩) (32) (c))),(2,.ptr 2 0),(5,.ptr 5 0),(11,.ptr 11 0),(12,.val (Value.int .i64 ((j:Nat):Int))),(13,.ptr 13 0),(76,.val (Value.bool false))] [(2,nz++nz++[Value.bool false]),(5,nc (V)),(11,gc (rt y)++gc (rt y*im)++gc (0-rt y)++gc (0-rt y*im)),(13,gc (tr y j)++nc (V)++[Value.bool false])] ⟨rfl,rfl,rfl,rfl,rfl,rfl,rfl,trivial⟩ ⟨rfl,rfl,rfl,rfl,trivial⟩ rfl
    refine sq_end ?_
    refine then_norm ?_
    refine go_cond h false rfl (fun ht=>?_) (fun hf=>?_)
    case refine_1=>cases ht
    refine wp_skip ?_
    refine blk_norm ?_
    refine then_norm ?_
    refine aE h [1] [eS 62 _,eS 63 (.val (Value.int .i64 ((j+1:Nat):Int))),eS 12 _] ⟨rfl,fun L u=>u_bin u (gd0 rfl) _ rfl _ _ _ _ _ rfl rfl rfl (eqg_int _ _ _ _ _ _ _ _) _ (fun w=>i_add _ _ _ _ (by omega) (by omega) w),rfl,T0⟩ [(0,_),(2,_),(5,_),(11,_),(12,.val (Value.int .i64 ((j+1:Nat):Int)))] [(2,_),(5,_),(11,_)] (fun a w h=>?_)
    refine then_norm ?_
    exact ⟨j+1,⟨by omega,fun i hi hq=>(Nat.lt_or_ge i j).elim (fun hl=>hG.2 i hl hq) (fun hl=>by (have ej:i=j:=(by omega));subst ej;first | exact absurd hq.1 hF | exact absurd hq.2 hS)⟩,(by omega),h.keep [(0,.val (Value.slice (some ⟨b,o,none⟩) (32) (c))),(2,.ptr 2 0),(5,.ptr 5 0),(11,.ptr 11 0),(12,.val (Value.int .i64 ((j+1:Nat):Int)))] [(2,nz++nz++[Value.bool false]),(5,nc (V)),(11,gc (rt y)++gc (rt y*im)++gc (0-rt y)++gc (0-rt y*im))] ⟨rfl,rfl,rfl,rfl,rfl,trivial⟩ ⟨rfl,rfl,rfl,trivial⟩ rfl⟩
  ·skip
   by_cases hS:sameB (En j) (fun i=>((f i:Nat):Int)) 32=true
   ·skip
    have hG1:=hG.1
    have hF2:=Bool.eq_false_iff.2 hF
    refine wp_seq ?_
    refine aX h [1] [eS 60 _,eS 61 (.val (Value.bool true))] ⟨rfl,fun L u=>u_bin u (gd0 rfl) _ rfl _ _ _ _ _ rfl rfl rfl (eqg_int _ _ _ _ _ _ _ _) _ (yes_of (fun w=>i_lss _ _ _ _ w) (by omega)),T0⟩ [(0,_),(2,_),(5,_),(11,_),(12,_),(61,.val (Value.bool true))] [(2,_),(5,_),(11,_)] (fun a w h=>?_)
    refine go_cond h true rfl (fun ht=>?_) (fun hf=>?_)
    case refine_2=>cases hf
    refine wp_skip ?_
    refine then_norm ?_
    refine wp_seq ?_
    refine wp_block ?_
    refine aX h [1,2,4] [eS 64 _,eS 65 (.ptr 11 (j*4)),eS 66 (.val (.agg (gc (tr y j)).toArray)),eS 67 _,eS 68 (.val (.agg (gc (tr y j)++nc (V)++[Value.bool false]).toArray)),eN 13 _,eM 13 _] ⟨rfl,fun L u=>u_at u (gd0 rfl) 65 rfl 56 (.tmp 11) (.tmp 64) rfl rfl rfl (k:=j) rfl Tryd.underlying56 i33 (by omega) (j*4) (by omega),fun L u=>u_load u (gd0 rfl) 66 rfl 33 (.tmp 65) rfl rfl rfl Tryd.underlying33 rfl i33 (by show j*4+4≤16;omega) (gc (tr y j)) (tries_at y hs),rfl,fun L u=>u_build u (gd0 rfl) 68 rfl 40 #[(0,(.tmp 66)),(1,(.tmp 67))] rfl [(0,.agg (gc (tr y j)).toArray),(1,.agg (nc (V)).toArray)] rfl (gc (tr y j)++nc (V)++[Value.bool false]) (bPgn _ _),rfl,rfl,T0⟩ [(0,_),(2,_),(5,_),(11,_),(12,_),(13,.ptr 13 0)] [(2,_),(5,_),(11,_),(13,gc (tr y j)++nc (V)++[Value.bool false])] (fun a w h=>?_)
    refine wp_seq ?_
    refine sq_begin [0,1,2,3,4,5,6,7] rfl ?_
    refine sq_step h (i:=0) rfl (u_load (xs:=[]) (up_seq (i:=0) (by kernel_rfl) rfl) (gd0 rfl) 69 rfl 40 (.tmp 13) rfl rfl rfl Tryd.underlying40 rfl i40 (lk rfl) _ rfl) (fun a w h=>?_)
    refine sq_step h (i:=1) rfl (u_call (xs:=[]) (up_seq (i:=1) (by kernel_rfl) rfl) (gd0 rfl) _ rfl _ _ _ rfl [_] rfl (cE16 _) (Value.bool false) (fun w hb=>by have q:=hform j hs (hT.keep (Bs.kp_of hb));rw [hF2] at q;exact q)) (fun a w h=>?_)
    refine sq_step h (i:=2) rfl (u_move (xs:=[]) (up_seq (i:=2) (by kernel_rfl) rfl) (gd0 rfl) 71 rfl (.tmp 70) (Or.inl rfl) rfl) (fun a w h=>?_)
    refine sq_step h (i:=3) rfl (u_no (xs:=[]) (up_seq (i:=3) (by kernel_rfl) rfl) 2 true rfl 71 rfl (lk rfl) rfl 72 rfl) (fun a w h=>?_)
    refine sq_step h (i:=4) rfl (u_no (xs:=[]) (up_seq (i:=4) (by kernel_rfl) rfl) 2 true rfl 71 rfl (lk rfl) rfl 73 rfl) (fun a w h=>?_)
    refine sq_step h (i:=5) rfl (u_no (xs:=[]) (up_seq (i:=5) (by kernel_rfl) rfl) 2 true rfl 71 rfl (lk rfl) rfl 74 rfl) (fun a w h=>?_)
    refine sq_step h (i:=6) rfl (u_no (xs:=[]) (up_seq (i:=6) (by kernel_rfl) rfl) 2 true rfl 71 rfl (lk rfl) rfl 75 rfl) (fun a w h=>?_)
    refine sq_step h (i:=7) rfl (u_pick (xs:=[]) (up_seq (i:=7) (by kernel_rfl) rfl) (gd0 rfl) 76 rfl (.tmp 71) (.tmp 75) (.const (.bool false)) rfl rfl rfl rfl _ rfl) (fun a w h=>?_)
    replace h:=h.keep [(0,.val (Value.slice (some ⟨b,o,none⟩) (32) (c))),(2,.ptr 2 0),(5,.ptr 5 0),(11,.ptr 11 0),(12,.val (Value.int .i64 ((j:Nat):Int))),(13,.ptr 13 0),(76,.val (Value.bool false))] [(2,nz++nz++[Value.bool false]),(5,nc (V)),(11,gc (rt y)++gc (rt y*im)++gc (0-rt y)++gc (0-rt y*im)),(13,gc (tr y j)++nc (V)++[Value.bool false])] ⟨rfl,rfl,rfl,rfl,rfl,rfl,rfl,trivial⟩ ⟨rfl,rfl,rfl,rfl,trivial⟩ rfl
    refine sq_end ?_
    refine then_norm ?_
    refine go_cond h false rfl (fun ht=>?_) (fun hf=>?_)
    case refine_1=>cases ht
    refine wp_skip ?_
    refine blk_norm ?_
    refine then_norm ?_
    refine aE h [1] [eS 62 _,eS 63 (.val (Value.int .i64 ((j+1:Nat):Int))),eS 12 _] ⟨rfl,fun L u=>u_bin u (gd0 rfl) _ rfl _ _ _ _ _ rfl rfl rfl (eqg_int _ _ _ _ _ _ _ _) _ (fun w=>i_add _ _ _ _ (by omega) (by omega) w),rfl,T0⟩ [(0,_),(2,_),(5,_),(11,_),(12,.val (Value.int .i64 ((j+1:Nat):Int)))] [(2,_),(5,_),(11,_)] (fun a w h=>?_)
    refine then_norm ?_
    exact ⟨j+1,⟨by omega,fun i hi hq=>(Nat.lt_or_ge i j).elim (fun hl=>hG.2 i hl hq) (fun hl=>by (have ej:i=j:=(by omega));subst ej;first | exact absurd hq.1 hF | exact absurd hq.2 hS)⟩,(by omega),h.keep [(0,.val (Value.slice (some ⟨b,o,none⟩) (32) (c))),(2,.ptr 2 0),(5,.ptr 5 0),(11,.ptr 11 0),(12,.val (Value.int .i64 ((j+1:Nat):Int)))] [(2,nz++nz++[Value.bool false]),(5,nc (V)),(11,gc (rt y)++gc (rt y*im)++gc (0-rt y)++gc (0-rt y*im))] ⟨rfl,rfl,rfl,rfl,rfl,trivial⟩ ⟨rfl,rfl,rfl,trivial⟩ rfl⟩
   ·skip
    have hG1:=hG.1
    have hF2:=Bool.eq_false_iff.2 hF
    have hS2:=Bool.eq_false_iff.2 hS
    refine wp_seq ?_
    refine aX h [1] [eS 60 _,eS 61 (.val (Value.bool true))] ⟨rfl,fun L u=>u_bin u (gd0 rfl) _ rfl _ _ _ _ _ rfl rfl rfl (eqg_int _ _ _ _ _ _ _ _) _ (yes_of (fun w=>i_lss _ _ _ _ w) (by omega)),T0⟩ [(0,_),(2,_),(5,_),(11,_),(12,_),(61,.val (Value.bool true))] [(2,_),(5,_),(11,_)] (fun a w h=>?_)
    refine go_cond h true rfl (fun ht=>?_) (fun hf=>?_)
    case refine_2=>cases hf
    refine wp_skip ?_
    refine then_norm ?_
    refine wp_seq ?_
    refine wp_block ?_
    refine aX h [1,2,4] [eS 64 _,eS 65 (.ptr 11 (j*4)),eS 66 (.val (.agg (gc (tr y j)).toArray)),eS 67 _,eS 68 (.val (.agg (gc (tr y j)++nc (V)++[Value.bool false]).toArray)),eN 13 _,eM 13 _] ⟨rfl,fun L u=>u_at u (gd0 rfl) 65 rfl 56 (.tmp 11) (.tmp 64) rfl rfl rfl (k:=j) rfl Tryd.underlying56 i33 (by omega) (j*4) (by omega),fun L u=>u_load u (gd0 rfl) 66 rfl 33 (.tmp 65) rfl rfl rfl Tryd.underlying33 rfl i33 (by show j*4+4≤16;omega) (gc (tr y j)) (tries_at y hs),rfl,fun L u=>u_build u (gd0 rfl) 68 rfl 40 #[(0,(.tmp 66)),(1,(.tmp 67))] rfl [(0,.agg (gc (tr y j)).toArray),(1,.agg (nc (V)).toArray)] rfl (gc (tr y j)++nc (V)++[Value.bool false]) (bPgn _ _),rfl,rfl,T0⟩ [(0,_),(2,_),(5,_),(11,_),(12,_),(13,.ptr 13 0)] [(2,_),(5,_),(11,_),(13,gc (tr y j)++nc (V)++[Value.bool false])] (fun a w h=>?_)
    refine wp_seq ?_
    refine sq_begin [0,1,2,3,4,5,6,7] rfl ?_
    refine sq_step h (i:=0) rfl (u_load (xs:=[]) (up_seq (i:=0) (by kernel_rfl) rfl) (gd0 rfl) 69 rfl 40 (.tmp 13) rfl rfl rfl Tryd.underlying40 rfl i40 (lk rfl) _ rfl) (fun a w h=>?_)
    refine sq_step h (i:=1) rfl (u_call (xs:=[]) (up_seq (i:=1) (by kernel_rfl) rfl) (gd0 rfl) _ rfl _ _ _ rfl [_] rfl (cE16 _) (Value.bool false) (fun w hb=>by have q:=hform j hs (hT.keep (Bs.kp_of hb));rw [hF2] at q;exact q)) (fun a w h=>?_)
    refine sq_step h (i:=2) rfl (u_move (xs:=[]) (up_seq (i:=2) (by kernel_rfl) rfl) (gd0 rfl) 71 rfl (.tmp 70) (Or.inl rfl) rfl) (fun a w h=>?_)
    refine sq_step h (i:=3) rfl (u_no (xs:=[]) (up_seq (i:=3) (by kernel_rfl) rfl) 2 true rfl 71 rfl (lk rfl) rfl 72 rfl) (fun a w h=>?_)
    refine sq_step h (i:=4) rfl (u_no (xs:=[]) (up_seq (i:=4) (by kernel_rfl) rfl) 2 true rfl 71 rfl (lk rfl) rfl 73 rfl) (fun a w h=>?_)
    refine sq_step h (i:=5) rfl (u_no (xs:=[]) (up_seq (i:=5) (by kernel_rfl) rfl) 2 true rfl 71 rfl (lk rfl) rfl 74 rfl) (fun a w h=>?_)
    refine sq_step h (i:=6) rfl (u_no (xs:=[]) (up_seq (i:=6) (by kernel_rfl) rfl) 2 true rfl 71 rfl (lk rfl) rfl 75 rfl) (fun a w h=>?_)
    refine sq_step h (i:=7) rfl (u_pick (xs:=[]) (up_seq (i:=7) (by kernel_rfl) rfl) (gd0 rfl) 76 rfl (.tmp 71) (.tmp 75) (.const (.bool false)) rfl rfl rfl rfl _ rfl) (fun a w h=>?_)
    replace h:=h.keep [(0,.val (Value.slice (some ⟨b,o,none⟩) (32) (c))),(2,.ptr 2 0),(5,.ptr 5 0),(11,.ptr 11 0),(12,.val (Value.int .i64 ((j:Nat):Int))),(13,.ptr 13 0),(76,.val (Value.bool false))] [(2,nz++nz++[Value.bool false]),(5,nc (V)),(11,gc (rt y)++gc (rt y*im)++gc (0-rt y)++gc (0-rt y*im)),(13,gc (tr y j)++nc (V)++[Value.bool false])] ⟨rfl,rfl,rfl,rfl,rfl,rfl,rfl,trivial⟩ ⟨rfl,rfl,rfl,rfl,trivial⟩ rfl
    refine sq_end ?_
    refine then_norm ?_
    refine go_cond h false rfl (fun ht=>?_) (fun hf=>?_)
    case refine_1=>cases ht
    refine wp_skip ?_
    refine blk_norm ?_
    refine then_norm ?_
    refine aE h [1] [eS 62 _,eS 63 (.val (Value.int .i64 ((j+1:Nat):Int))),eS 12 _] ⟨rfl,fun L u=>u_bin u (gd0 rfl) _ rfl _ _ _ _ _ rfl rfl rfl (eqg_int _ _ _ _ _ _ _ _) _ (fun w=>i_add _ _ _ _ (by omega) (by omega) w),rfl,T0⟩ [(0,_),(2,_),(5,_),(11,_),(12,.val (Value.int .i64 ((j+1:Nat):Int)))] [(2,_),(5,_),(11,_)] (fun a w h=>?_)
    refine then_norm ?_
    exact ⟨j+1,⟨by omega,fun i hi hq=>(Nat.lt_or_ge i j).elim (fun hl=>hG.2 i hl hq) (fun hl=>by (have ej:i=j:=(by omega));subst ej;first | exact absurd hq.1 hF | exact absurd hq.2 hS)⟩,(by omega),h.keep [(0,.val (Value.slice (some ⟨b,o,none⟩) (32) (c))),(2,.ptr 2 0),(5,.ptr 5 0),(11,.ptr 11 0),(12,.val (Value.int .i64 ((j+1:Nat):Int)))] [(2,nz++nz++[Value.bool false]),(5,nc (V)),(11,gc (rt y)++gc (rt y*im)++gc (0-rt y)++gc (0-rt y*im))] ⟨rfl,rfl,rfl,rfl,rfl,trivial⟩ ⟨rfl,rfl,rfl,trivial⟩ rfl⟩
 ·skip
  have hG1:=hG.1
  refine wp_seq ?_
  refine aX h [1] [eS 60 _,eS 61 (.val (Value.bool false))] ⟨rfl,fun L u=>u_bin u (gd0 rfl) _ rfl _ _ _ _ _ rfl rfl rfl (eqg_int _ _ _ _ _ _ _ _) _ (no_of (fun w=>i_lss _ _ _ _ w) (by omega)),T0⟩ [(0,_),(2,_),(5,_),(11,_),(12,_),(61,.val (Value.bool false))] [(2,_),(5,_),(11,_)] (fun a w h=>?_)
  refine go_cond h false rfl (fun ht=>?_) (fun hf=>?_)
  case refine_1=>cases ht
  refine wp_exit ?_
  refine then_exit ?_
  refine then_exit ?_
  refine blk_exit ?_
  refine then_norm ?_
  refine aX h [0] [eS 78 _,eM 2 _,eS 3 _] ⟨fun L u=>u_call u (gd0 rfl) _ rfl _ _ _ rfl [] rfl (cE30 _) _ (fun w hb=>s_None),rfl,rfl,T0⟩ [(2,_),(3,.val (Value.bool false))] [(2,gc ((Ep.o m2).x)++gc ((Ep.o m2).y)++[Value.bool false])] (fun a w h=>?_)
  refine wp_ret ?_
  refine ret_two h _ _ rfl (ans_row (cs:=gc ((Ep.o m2).x)++gc ((Ep.o m2).y)++[Value.bool false]) 2 (lk rfl) 40 rfl rfl Tryd.underlying40 rfl i40) (ans_tmp (v:=Value.bool false) 3 (lk rfl) rfl) ?_
  first | exact ⟨_,_,rfl,hyes j hs hF hS,h.grows⟩ | exact ⟨_,_,rfl,hno (fun i hi hq=>hG.2 i (by omega) hq),h.grows⟩
end Go.Proofs.YtjaahnlpnkcimaaDoor
namespace Go.Proofs.YtjaahnlpnkcimaaDoor
set_option maxRecDepth 100000
open Go.RowKit
theorem Y_all {u v:Int} (hu:Num u) (hv:Num v) (h:∀ i,i<32→Y i u=Y i v):u=v:=by
 have a:=E_words u
 have b:=E_words v
 have e:∀ o,o+8≤32→E (fun i=>Y i u) o 8=E (fun i=>Y i v) o 8:=fun o ho=>E_congr o 8 (fun i hi=>h _ (by omega))
 exact num_ext hu hv (by rw [← a.1,← b.1];exact e 0 (by omega)) (by rw [← a.2.1,← b.2.1];exact e 8 (by omega)) (by rw [← a.2.2.1,← b.2.2.1];exact e 16 (by omega)) (by rw [← a.2.2.2,← b.2.2.2];exact e 24 (by omega))
structure LN (f:Nat→Nat) (u:Nat):Prop where
 lt:u<2 ^ 256
 at_:∀ i,i<32→Y i (u:Int)=((f i:Nat):Int)
theorem num_nat {u:Nat} (h:u<2 ^ 256):Num (u:Int):=⟨by omega,by unfold M;omega⟩
theorem code_num (a:Ep m2):Num ((code a:Nat):Int):=num_nat (code_lt a)
theorem LN.same {f:Nat→Nat} {u:Nat} (h:LN f u) {a:Ep m2} (e:sameB (fun i=>Y i ((code a:Nat):Int)) (fun i=>((f i:Nat):Int)) 32=true):code a=u:=by
 have q:∀ i,i<32→Y i ((code a:Nat):Int)=((f i:Nat):Int):=of_decide_eq_true e
 have:=Y_all (code_num a) (num_nat h.lt) (fun i hi=>by rw [q i hi,h.at_ i hi])
 omega
theorem LN.back {f:Nat→Nat} {u:Nat} (h:LN f u) {a:Ep m2} (e:code a=u):∀ i,i<32→Y i ((code a:Nat):Int)=((f i:Nat):Int):=fun i hi=>by rw [e,h.at_ i hi]
theorem low_is {u:Nat} (h:u<2 ^ 256):((u:Nat):Int)=((u % 2 ^ 255:Nat):Int)+2 ^ 255*((u / 2 ^ 255:Nat):Int)∧(u / 2 ^ 255=0∨u / 2 ^ 255=1)∧u % 2 ^ 255<2 ^ 255:=by
 have h1:=Nat.mod_add_div u (2 ^ 255)
 have h2:u % 2 ^ 255<2 ^ 255:=Nat.mod_lt _ (by decide)
 refine ⟨?_,by omega,h2⟩
 rw [show (2:Int) ^ 255=((2 ^ 255:Nat):Int) from rfl]
 omega
theorem LN.low {f:Nat→Nat} {u:Nat} (h:LN f u):by31 (fun i=>((f i:Nat):Int)) ((fun i=>((f i:Nat):Int)) 31 % 128)=by32 (fun i=>Y i ((u % 2 ^ 255:Nat):Int)):=by
 obtain ⟨e,hs,hl⟩:=low_is h.lt
 have hl':((u % 2 ^ 255:Nat):Int)<2 ^ 255:=by
  rw [show (2:Int) ^ 255=((2 ^ 255:Nat):Int) from rfl]
  omega
 have h0:(0:Int)≤((u % 2 ^ 255:Nat):Int):=by omega
 refine by31_ext ?_ ?_
 ·intro i hi
  show ((f i:Nat):Int)=_
  rw [← h.at_ i (by omega),e,Y_low _ _ hi]
 ·show ((f 31:Nat):Int) % 128=_
  rw [← h.at_ 31 (by omega),e,Y_high h0 hl' (by omega)]
  obtain ⟨a,b,_⟩:=Y_top h0 hl'
  omega
theorem s_Dec {w:World} (hT:Tab w) {A:Option Addr} {c:Nat} {f:Nat→Nat} (hba:BA w A 32 f) {u:Nat} (hu:LN f u):Calls Tryd.prog 14 [.slice A 32 c].toArray w fun e w'=>e=.returned (.tuple [.agg (pcE (dpt u)).toArray,.bool (dok u)].toArray)∧Below w.heap.size w w':=by
 rcases hba.at_ with h0 | ⟨b,o,rfl,hr⟩
 ·omega
 obtain ⟨_,_,hl⟩:=low_is hu.lt
 have hVn:Num ((u % 2 ^ 255:Nat):Int):=num_nat (by omega)
 obtain ⟨y,hy⟩:∃ y:Fin m2,y=kc ((u % 2 ^ 255:Nat):Int):=⟨_,rfl⟩
 have fin:∀ cs t,(cs=pcE (dpt u)∧t=dok u)→∀ (e:Ending) (w':World),e=.returned (.tuple [.agg cs.toArray,.bool t].toArray)∧Below w.heap.size w w'→e=.returned (.tuple [.agg (pcE (dpt u)).toArray,.bool (dok u)].toArray)∧Below w.heap.size w w':=by
  rintro cs t ⟨rfl,rfl⟩ e w' h
  exact h
 have none1:(∀ a:Ep m2,a.on ed→code a≠u)→pcE (Ep.o m2)=pcE (dpt u)∧false=dok u:=fun h=>by
  obtain ⟨e1,e2⟩:=dpt_none (dec_none h)
  rw [e1,e2]
  exact ⟨rfl,rfl⟩
 by_cases hm:((u % 2 ^ 255:Nat):Int)<md 2
 ·have ey:nc ((u % 2 ^ 255:Nat):Int)=gc y:=by rw [hy];exact nc_gc (by omega) hm
  refine Calls.mono (s_dec32 hT hba hr hVn hu.low hy (fun j=>decide (y*y-tr y j*tr y j=1+ed*(tr y j*tr y j*(y*y)))) (fun j i=>Y i ((code ⟨tr y j,y⟩:Nat):Int)) (fun j _ w hT=>by rw [ey];exact s_formed_at hT _ _) (fun j _ hF w hT=>by rw [ey];exact s_enc_on hT (of_decide_eq_true hF)) (fun cs t=>cs=pcE (dpt u)∧t=dok u) ?_ ?_) (fun e w' ⟨cs,t,he,hR,hb⟩=>fin cs t hR e w' ⟨he,hb⟩)
  ·intro j _ hF hS
   have hon:y*y-tr y j*tr y j=1+ed*(tr y j*tr y j*(y*y)):=of_decide_eq_true hF
   obtain ⟨e1,e2⟩:=dpt_some (dec_of (show (⟨tr y j,y⟩:Ep m2).on ed from hon) (hu.same hS))
   rw [e1,e2,ey]
   exact ⟨rfl,rfl⟩
  ·intro hno
   refine none1 fun a ha hc=>?_
   obtain ⟨_,ea⟩:=y_of_code hc
   obtain ⟨i,hi,et⟩:=tr_ok ha
   rw [← hy] at ea
   rw [← ea] at et
   have eq:(⟨tr y i,y⟩:Ep m2)=a:=by rw [et,ea]
   refine hno i hi ⟨decide_eq_true ?_,?_⟩
   ·exact (show (⟨tr y i,y⟩:Ep m2).on ed by rw [eq];exact ha)
   ·rw [eq]
    exact decide_eq_true (hu.back hc)
 ·have hF:∀ j,j<4→∀ {w:World},Tab w→Calls Tryd.prog 16 [.agg (gc (tr y j)++nc ((u % 2 ^ 255:Nat):Int)++[Value.bool false]).toArray].toArray w fun e w'=>e=.returned (.bool false)∧Below w.heap.size w w' :=
   fun j _ w _=>s_formed_y (gin_num (tr y j)) (gin_lt _) hVn (decide_eq_false hm)
  refine Calls.mono (s_dec32 hT hba hr hVn hu.low hy (fun _=>false) (fun _ _=>0) hF (fun j _ h=>by cases h) (fun cs t=>cs=pcE (dpt u)∧t=dok u) (fun j _ h=>by cases h) ?_) (fun e w' ⟨cs,t,he,hR,hb⟩=>fin cs t hR e w' ⟨he,hb⟩)
  intro _
  refine none1 fun a ha hc=>?_
  obtain ⟨h1,_⟩:=y_of_code hc
  rw [md_m2] at hm
  omega
end Go.Proofs.YtjaahnlpnkcimaaDoor
namespace Go.Proofs.YtjaahnlpnkcimaaDoor
set_option maxRecDepth 100000
open Go.RowKit
def nle:List Nat→Nat
 | []=>0
 | x :: l=>x+256*nle l
theorem nle_lt:∀ {l:List Nat},(∀ x ∈ l,x<256)→nle l<256 ^ l.length
 | [],_=>by decide
 | x :: l,h=>by
  have h1:=h x (by simp)
  have h2:=nle_lt (l:=l) (fun y hy=>h y (by simp [hy]))
  rw [List.length_cons,Nat.pow_succ,nle]
  omega
theorem nle_at:∀ {l:List Nat},(∀ x ∈ l,x<256)→∀ i,nle l / 256 ^ i % 256=l.getD i 0
 | [],_,i=>by simp [nle]
 | x :: l,h,0=>by
  have h1:=h x (by simp)
  simp only [nle,Nat.pow_zero,Nat.div_one,List.getD_cons_zero]
  omega
 | x :: l,h,i+1=>by
  have h1:=h x (by simp)
  have h2:=nle_at (l:=l) (fun y hy=>h y (by simp [hy])) i
  rw [List.getD_cons_succ,← h2,nle,Nat.pow_succ,Nat.mul_comm (256 ^ i) 256,← Nat.div_div_eq_div_mul,show (x+256*nle l) / 256=nle l by omega]
theorem Y_nat (u i:Nat):Y i (u:Int)=((u / 256 ^ i % 256:Nat):Int):=by
 unfold Y
 push_cast
 rfl
theorem nle_Y {l:List Nat} (h:∀ x ∈ l,x<256) (i:Nat):Y i ((nle l:Nat):Int)=((l.getD i 0:Nat):Int):=by rw [Y_nat,nle_at h]
theorem nle_ln {l:List Nat} (h:∀ x ∈ l,x<256) (hl:l.length=32):LN (fun i=>l.getD i 0) (nle l):=⟨by have:=nle_lt h;rw [hl] at this;exact Nat.lt_of_lt_of_eq this (by decide),fun i _=>nle_Y h i⟩
theorem LN.one {f:Nat→Nat} {u v:Nat} (h1:LN f u) (h2:LN f v):u=v:=by
 have:=Y_all (num_nat h1.lt) (num_nat h2.lt) (fun i hi=>by rw [h1.at_ i hi,h2.at_ i hi])
 omega
theorem LN.of {f g:Nat→Nat} {u:Nat} (h:LN f u) (e:∀ i,i<32→f i=g i):LN g u:=⟨h.lt,fun i hi=>by rw [h.at_ i hi,e i hi]⟩
theorem getD_fl {f:Nat→Nat} {n i:Nat} (h:i<n):(fl f n).getD i 0=f i:=by rw [List.getD_eq_getElem?_getD,fl_at f h];rfl
theorem gD_lt {l:List Nat} (h:∀ x ∈ l,x<256) (i:Nat):l.getD i 0<256:=by
 rw [List.getD_eq_getElem?_getD]
 cases hi:l[i]? with
 | none=>decide
 | some x=>exact h x (List.mem_of_getElem? hi)
def by64 (f:Nat→Int):List Value:=by32 f++by32 (fun i=>f (32+i))
theorem by64_at (f:Nat→Int) (i:Nat) (h:i<64):(by64 f)[i]?=some (.int .u8 (f i)):=by
 unfold by64
 rw [List.getElem?_append]
 split
 ·rename_i hi
  exact by32_at f i (by rw [by32_len] at hi;exact hi)
 ·rename_i hi
  rw [by32_len] at hi ⊢
  rw [by32_at _ (i-32) (by omega),show 32+(i-32)=i by omega]
theorem rd_by64 {w:World} {b:Nat} {f:Nat→Int} (h:w.rangeAt b 0 (by64 f)):Rd w b 0 64 f:=⟨fun i hi=>h i _ (by64_at f i hi)⟩
def hsh (l:List Nat):List Nat:=fl (Sx.hByte (Sx.hashS (fun i=>l.getD i 0) l.length)) 64
theorem hb6_lt (s:Sx.St) (i:Nat):Sx.hByte s i<256:=Nat.mod_lt _ (by decide)
theorem hsh_len (l:List Nat):(hsh l).length=64:=fl_len _ _
theorem hsh_lt (l:List Nat):∀ x ∈ hsh l,x<256:=fl_lt (fun i=>hb6_lt _ i) 64
abbrev bz (l:List Nat) (i:Nat):Int:=((l.getD i 0:Nat):Int)
theorem bz_bd {l:List Nat} (h:∀ x ∈ l,x<256) (i:Nat):0≤bz l i∧bz l i<256:=⟨by unfold bz;omega,by have:=gD_lt h i;unfold bz;omega⟩
theorem ab_hsh (l:List Nat):Sx.ab (Sx.hByte (Sx.hashS (fun i=>l.getD i 0) l.length)) 64=by64 (bz (hsh l)):=by
 apply List.ext_getElem?
 intro i
 rcases Nat.lt_or_ge i 64 with hi | hi
 ·rw [by64_at _ i hi]
  unfold bz hsh
  rw [getD_fl hi]
  simp [Sx.ab,hi]
 ·rw [List.getElem?_eq_none (by simp [Sx.ab];exact hi),List.getElem?_eq_none (by show (by32 _++by32 _).length≤i;rw [List.length_append,by32_len,by32_len];exact hi)]
theorem ba_sx {w:World} {z:Option Addr} {n:Nat} {f:Nat→Nat} (h:BA w z n f):Sx.BA w z n f:=⟨h.lt,h.at_.imp id fun ⟨b,o,e,hr⟩=>⟨b,o,e,⟨hr.c⟩⟩⟩
theorem BA.of {w:World} {z:Option Addr} {n:Nat} {f g:Nat→Nat} (h:BA w z n f) (hg:∀ i,g i<256) (e:∀ i,i<n→f i=g i):BA w z n g :=
 ⟨hg,h.at_.imp id fun ⟨b,o,e1,hr⟩=>⟨b,o,e1,⟨fun i hi=>by rw [hr.c i hi,e i hi]⟩⟩⟩
def Pt (w:World) (v:Value) (l:List Nat):Prop:=∃ z c,v=.slice z l.length c∧l.length≤c∧c≤maxLen∧BA w z l.length (fun i=>l.getD i 0)
theorem Pt.keep {w w':World} {v:Value} {l:List Nat} (h:Pt w v l) (hb:Below w.heap.size w w'):Pt w' v l:=let ⟨z,c,h1,h2,h3,h4⟩:=h;⟨z,c,h1,h2,h3,h4.keep hb⟩
theorem pt_ba {w:World} {z:Option Addr} {n c:Nat} {f:Nat→Nat} (h:BA w z n f) (hc:n≤c) (hm:c≤maxLen):Pt w (.slice z n c) (fl f n) :=
 ⟨z,c,by rw [fl_len],by rw [fl_len];exact hc,hm,by rw [fl_len];exact h.of (gD_lt (fl_lt h.lt n)) (fun i hi=>(getD_fl hi).symm)⟩
theorem pt_rm {n:Nat} {l:List Nat} {v:Value} {F:Nat→Bool} {w:World} (h:(rmPd n l).p v F w):Pt w v l:=by
 obtain ⟨z,c,h1,h2,h3,h4,h5⟩:=rm_ba h
 subst h4
 exact ⟨z,c,h1,h2,h3,h5⟩
theorem pt_rd {w:World} {b o c:Nat} {l:List Nat} (h:Rd w b o l.length (bz l)) (hl:∀ x ∈ l,x<256) (hc:l.length≤c) (hm:c≤maxLen):Pt w (.slice (some ⟨b,o,none⟩) l.length c) l:=⟨_,c,rfl,hc,hm,gD_lt hl,Or.inr ⟨b,o,rfl,h⟩⟩
def Pts (w:World):List Value→List (List Nat)→Prop
 | [],[]=>True
 | v :: vs,l :: ls=>Pt w v l∧Pts w vs ls
 | _,_=>False
theorem Pts.keep {w w':World} (hb:Below w.heap.size w w'):∀ {vs:List Value} {ls:List (List Nat)},Pts w vs ls→Pts w' vs ls
 | [],[],_=>trivial
 | _ :: _,_ :: _,h=>⟨h.1.keep hb,Pts.keep hb h.2⟩
theorem Pts.len {w:World}:∀ {vs:List Value} {ls:List (List Nat)},Pts w vs ls→vs.length=ls.length
 | [],[],_=>rfl
 | _ :: _,_ :: _,h=>by rw [List.length_cons,List.length_cons,Pts.len h.2]
theorem Pts.at {w:World}:∀ {vs:List Value} {ls:List (List Nat)},Pts w vs ls→∀ i v,vs[i]?=some v→Pt w v (ls.getD i [])
 | v :: vs,l :: ls,h,0,u,e=>by
  cases e
  exact h.1
 | v :: vs,l :: ls,h,i+1,u,e=>by
  rw [List.getD_cons_succ]
  exact Pts.at h.2 i u e
def slA:Value→Option Addr
 | .slice z _ _=>z
 | _=>none
def slC:Value→Nat
 | .slice _ _ c=>c
 | _=>0
theorem cat6 {l1 l2:List Nat}:Sx.cat (fun i=>l1.getD i 0) l1.length (fun i=>l2.getD i 0)=fun i=>(l1++l2).getD i 0:=by
 funext i
 unfold Sx.cat
 show (if i<l1.length then l1.getD i 0 else l2.getD (i-l1.length) 0)=(l1++l2).getD i 0
 rw [List.getD_eq_getElem?_getD,List.getD_eq_getElem?_getD,List.getD_eq_getElem?_getD,List.getElem?_append]
 split <;> rfl
theorem cats (ls:List (List Nat)):∀ k,k≤ls.length→Sx.lenF (fun i=>(ls.getD i []).length) k=((ls.take k).flatten).length∧Sx.catF (fun i=>(ls.getD i []).length) (fun i j=>(ls.getD i []).getD j 0) k=fun j=>((ls.take k).flatten).getD j 0
 | 0,_=>⟨rfl,rfl⟩
 | k+1,h=>by
  obtain ⟨h1,h2⟩:=cats ls k (by omega)
  have e:ls.take (k+1)=ls.take k++[ls.getD k []]:=by
   rw [List.take_add_one,List.getElem?_eq_getElem (by omega),List.getD_eq_getElem?_getD,List.getElem?_eq_getElem (by omega)]
   rfl
  refine ⟨?_,?_⟩
  ·rw [e,List.flatten_append,List.length_append,Sx.lenF,h1]
   simp
  ·rw [e,List.flatten_append,Sx.catF,h1,h2,cat6]
   simp
theorem sumL {w:World} (hH:Sx.Tab w) {b c:Nat} {vs:List Value} {ls:List (List Nat)} (hp:Pts w vs ls) (hc:∀ i v,vs[i]?=some v→w.cell? ⟨b,i,none⟩=some v) (hk:vs.length≤1000) (hl:ls.flatten.length≤200000) {k:Nat} (hkk:vs.length=k) :
  Calls Tryd.prog 41 #[.slice (some ⟨b,0,none⟩) k c] w fun e w'=>e=.returned (.agg (by64 (bz (hsh ls.flatten))).toArray)∧Below w.heap.size w w':=by
 subst hkk
 obtain ⟨e1,e2⟩:=cats ls ls.length (Nat.le_refl _)
 rw [List.take_length,← hp.len] at e1 e2
 have hat:∀ i,i<vs.length→∃ v,vs[i]?=some v:=fun i hi=>⟨_,List.getElem?_eq_getElem hi⟩
 have q:=Sx.sum_any (c:=c) (x:=some ⟨b,0,none⟩) (k:=vs.length) (A:=fun i=>slA (vs.getD i undef)) (L:=fun i=>(ls.getD i []).length) (C:=fun i=>slC (vs.getD i undef)) (G:=fun i j=>(ls.getD i []).getD j 0) hH ⟨fun i hi=>?_,fun i hi=>?_,Or.inr ⟨b,0,rfl,fun i hi=>?_⟩⟩ (by omega) (by rw [e1];exact hl)
 ·rw [e1,e2,ab_hsh] at q
  exact q
 ·obtain ⟨v,hv⟩:=hat i hi
  obtain ⟨z,cc,h1,_,_,h4⟩:=hp.at i v hv
  have e:slA (vs.getD i undef)=z:=by rw [List.getD_eq_getElem?_getD,hv,Option.getD_some,h1];rfl
  rw [e]
  exact ba_sx h4
 ·obtain ⟨v,hv⟩:=hat i hi
  obtain ⟨z,cc,h1,h2,h3,_⟩:=hp.at i v hv
  have e:slC (vs.getD i undef)=cc:=by rw [List.getD_eq_getElem?_getD,hv,Option.getD_some,h1];rfl
  rw [e]
  exact ⟨h2,h3⟩
 ·obtain ⟨v,hv⟩:=hat i hi
  obtain ⟨z,cc,h1,_⟩:=hp.at i v hv
  have e:vs.getD i undef=v:=by rw [List.getD_eq_getElem?_getD,hv];rfl
  rw [Nat.zero_add,hc i v hv,e,h1]
  rfl
theorem lc_of {w:World} {ss:List SV} {β:Nat→Loc} {ls:List (List Nat)} {F:Nat} {r:Value} {k:Nat} (hp:Pts w (ss.map (SV.at β)) ls) (hk:ss.length=k)
  (hC:∀ {w1:World} {b:Nat},Below w.heap.size w w1→Pts w1 (ss.map (SV.at β)) ls→(∀ i v,(ss.map (SV.at β))[i]?=some v→w1.cell? ⟨b,i,none⟩=some v)→(ss.map (SV.at β)).length=k→Calls Tryd.prog F #[.slice (some ⟨b,0,none⟩) k k] w1 fun e w'=>e=.returned r∧Below w1.heap.size w1 w') :
  (∀ s ∈ ss,∃ z m c,s.at β=.slice z m c)∧Calls Tryd.prog F #[.slice (some ⟨w.heap.size,0,none⟩) k k] (w.alloc (.cells (ss.map (SV.at β)).toArray 24)) fun e w'=>e=.returned r∧Below (w.heap.size+1) (w.alloc (.cells (ss.map (SV.at β)).toArray 24)) w':=by
 refine ⟨fun s hs=>?_,?_⟩
 ·obtain ⟨i,hi,e⟩:=List.mem_iff_getElem.1 hs
  obtain ⟨z,c,h1,_⟩:=hp.at i (s.at β) (by rw [List.getElem?_map,List.getElem?_eq_getElem hi,e];rfl)
  exact ⟨z,_,c,h1⟩
 ·have hb:Below w.heap.size w (w.alloc (.cells (ss.map (SV.at β)).toArray 24)):=Below.alloc (Below.refl _ w) (Nat.le_refl _) _
  have q:=hC (b:=w.heap.size) hb (hp.keep hb) (fun i v hv=>by
   have:=cell_of_row (w.alloc (.cells (ss.map (SV.at β)).toArray 24)) w.heap.size i (ss.map (SV.at β)).toArray 24 (0,0) (heap_alloc_new w _)
   rw [this]
   simpa using hv) (by rw [List.length_map];exact hk)
  rw [show (w.alloc (.cells (ss.map (SV.at β)).toArray 24)).heap.size=w.heap.size+1 by simp] at q
  exact q
end Go.Proofs.YtjaahnlpnkcimaaDoor
namespace Go.Proofs.YtjaahnlpnkcimaaDoor
set_option maxRecDepth 100000
open Go.RowKit
theorem or_top8:∀ a:Fin 128,(BitVec.ofInt 8 (a.val:Int) ||| BitVec.ofInt 8 128).toNat=a.val+128:=by decide +kernel
theorem i_orB {P:Program} (ty:TypeId) (a c:Int) (h0:0≤a) (h1:a<128) (hc:c=a+128) (w:World):(binOp .or ty (.int .u8 a) (.int .u8 128)).run P w=.ok (.int .u8 c) w:=by
 have h:=or_top8 ⟨a.toNat,by omega⟩
 simp only [Int.toNat_of_nonneg h0] at h
 have e:(Op.intBits .or .u8 a 128).run P w=.ok (.int .u8 c) w:=by
  show Result.ok (Value.int .u8 (IntKind.u8.wrap ((BitVec.ofInt 8 a ||| BitVec.ofInt 8 128).toNat:Int))) w=_
  rw [h]
  have:((a.toNat+128:Nat):Int)=c:=by omega
  rw [this,wrapB (by omega)]
 simpa [binOp] using e
end Go.Proofs.YtjaahnlpnkcimaaDoor
namespace Go.Proofs.YtjaahnlpnkcimaaDoor
set_option maxRecDepth 100000
open Go.RowKit
theorem and_low (a:Nat) (h:a<2 ^ 64):a &&& ((2 ^ 61-1) <<< 3)=a / 8*8:=by
 have e:a / 8*8=(a >>> 3) <<< 3:=by rw [Nat.shiftRight_eq_div_pow,Nat.shiftLeft_eq]
 rw [e]
 apply Nat.eq_of_testBit_eq
 intro i
 rw [Nat.testBit_and,Nat.testBit_shiftLeft,Nat.testBit_shiftLeft,Nat.testBit_shiftRight,Nat.testBit_two_pow_sub_one]
 by_cases h3:i ≥ 3
 ·rw [show 3+(i-3)=i by omega]
  by_cases h6:i<64
  ·simp [h3,show i-3<61 by omega]
  ·rw [Nat.testBit_lt_two_pow (Nat.lt_of_lt_of_le h (Nat.pow_le_pow_right (by decide) (by omega)))]
   simp
 ·simp [h3]
theorem or_next (a:Nat) (h:a<2 ^ 63):a ||| 2 ^ 62=a % 2 ^ 62+2 ^ 62:=by
 have q:=Nat.two_pow_add_eq_or_of_lt (i:=62) (b:=a % 2 ^ 62) (Nat.mod_lt _ (by decide)) 1
 rw [Nat.mul_one] at q
 rw [Nat.add_comm,q]
 apply Nat.eq_of_testBit_eq
 intro i
 rw [Nat.testBit_or,Nat.testBit_or,Nat.testBit_mod_two_pow,Nat.testBit_two_pow]
 by_cases h1:i<62
 ·simp [h1,show ¬ 62=i by omega]
 ·by_cases h2:i=62
  ·subst h2;simp
  ·rw [Nat.testBit_lt_two_pow (Nat.lt_of_lt_of_le h (Nat.pow_le_pow_right (by decide) (by omega)))]
   simp [show ¬ 62=i by omega]
theorem ofI {a:Int} (h0:0≤a) (h1:a<18446744073709551616):(BitVec.ofInt 64 a).toNat=a.toNat:=by
 rw [BitVec.toNat_ofInt]
 congr 1
 rw [Int.emod_eq_of_lt h0 (by simpa using h1)]
theorem i_not7 {P:Program} (ty:TypeId) (a c:Int) (h0:0≤a) (h1:a<18446744073709551616) (hc:c=a / 8*8) (w:World):(binOp .andNot ty (.int .u64 a) (.int .u64 7)).run P w=.ok (.int .u64 c) w:=by
 have h:(BitVec.ofInt 64 a &&& ~~~ (BitVec.ofInt 64 7)).toNat=a.toNat / 8*8:=by
  rw [BitVec.toNat_and,ofI h0 h1,show (~~~ (BitVec.ofInt 64 7)).toNat=(2 ^ 61-1) <<< 3 by decide +kernel]
  exact and_low _ (by omega)
 have e:(Op.intBits .andNot .u64 a 7).run P w=.ok (.int .u64 c) w:=by
  show Result.ok (Value.int .u64 (IntKind.u64.wrap ((BitVec.ofInt 64 a &&& ~~~ (BitVec.ofInt 64 7)).toNat:Int))) w=_
  rw [h]
  have:((a.toNat / 8*8:Nat):Int)=c:=by omega
  rw [this,wrapW (by omega)]
 simpa [binOp] using e
theorem i_not63 {P:Program} (ty:TypeId) (a c:Int) (h0:0≤a) (h1:a<18446744073709551616) (hc:c=a % 9223372036854775808) (w:World):(binOp .andNot ty (.int .u64 a) (.int .u64 9223372036854775808)).run P w=.ok (.int .u64 c) w:=by
 have h:(BitVec.ofInt 64 a &&& ~~~ (BitVec.ofInt 64 9223372036854775808)).toNat=a.toNat % 9223372036854775808:=by
  rw [BitVec.toNat_and,ofI h0 h1,show (~~~ (BitVec.ofInt 64 9223372036854775808)).toNat=2 ^ 63-1 by decide +kernel,Nat.and_two_pow_sub_one_eq_mod]
 have e:(Op.intBits .andNot .u64 a 9223372036854775808).run P w=.ok (.int .u64 c) w:=by
  show Result.ok (Value.int .u64 (IntKind.u64.wrap ((BitVec.ofInt 64 a &&& ~~~ (BitVec.ofInt 64 9223372036854775808)).toNat:Int))) w=_
  rw [h]
  have:((a.toNat % 9223372036854775808:Nat):Int)=c:=by omega
  rw [this,wrapW (by omega)]
 simpa [binOp] using e
theorem i_or62 {P:Program} (ty:TypeId) (a c:Int) (h0:0≤a) (h1:a<9223372036854775808) (hc:c=a % 4611686018427387904+4611686018427387904) (w:World):(binOp .or ty (.int .u64 a) (.int .u64 4611686018427387904)).run P w=.ok (.int .u64 c) w:=by
 have h:(BitVec.ofInt 64 a ||| BitVec.ofInt 64 4611686018427387904).toNat=a.toNat % 4611686018427387904+4611686018427387904:=by
  rw [BitVec.toNat_or,ofI h0 (by omega),show (BitVec.ofInt 64 4611686018427387904).toNat=2 ^ 62 by decide +kernel]
  exact or_next _ (by omega)
 have e:(Op.intBits .or .u64 a 4611686018427387904).run P w=.ok (.int .u64 c) w:=by
  show Result.ok (Value.int .u64 (IntKind.u64.wrap ((BitVec.ofInt 64 a ||| BitVec.ofInt 64 4611686018427387904).toNat:Int))) w=_
  rw [h]
  have:((a.toNat % 4611686018427387904+4611686018427387904:Nat):Int)=c:=by omega
  rw [this,wrapW (by omega)]
 simpa [binOp] using e
def clm (l:List Nat):List Nat:=(l.set 0 (l.getD 0 0 / 8*8)).set 31 (l.getD 31 0 % 64+64)
theorem clm_len {l:List Nat} (h:l.length=32):(clm l).length=32:=by unfold clm;rw [List.length_set,List.length_set,h]
theorem clm_lt {l:List Nat} (h:∀ x ∈ l,x<256):∀ x ∈ clm l,x<256:=lt_set (lt_set h 0 (by have:=gD_lt h 0;omega)) 31 (by omega)
theorem getD_set (l:List Nat) (i j b:Nat) (hi:i<l.length):(l.set i b).getD j 0=if i=j then b else l.getD j 0:=by
 rw [List.getD_eq_getElem?_getD,List.getD_eq_getElem?_getD,List.getElem?_set]
 by_cases e:i=j
 ·subst e;simp [hi]
 ·simp [e]
theorem clm_at {l:List Nat} (h:l.length=32) (j:Nat):(clm l).getD j 0=if 31=j then l.getD 31 0 % 64+64 else if 0=j then l.getD 0 0 / 8*8 else l.getD j 0:=by
 unfold clm
 rw [getD_set _ 31 j _ (by rw [List.length_set,h];decide),getD_set _ 0 j _ (by rw [h];decide)]
theorem E8 (f:Nat→Int) (o:Nat):E f o 8=f o+256*f (o+1)+65536*f (o+2)+16777216*f (o+3)+4294967296*f (o+4)+1099511627776*f (o+5)+281474976710656*f (o+6)+72057594037927936*f (o+7):=by
 simp only [E,Nat.add_zero]
 omega
theorem LN.word {f:Nat→Nat} {u:Nat} (h:LN f u) {j:Nat} (hj:j<4):L j (u:Int)=E (fun i=>((f i:Nat):Int)) (8*j) 8:=by
 rw [← E_word]
 exact E_congr _ _ (fun i hi=>h.at_ _ (by omega))
theorem clm_nc {l:List Nat} (hl:l.length=32) (hlt:∀ x ∈ l,x<256) {U:Nat} (hU:LN (fun i=>l.getD i 0) U):[Value.int .u64 (lw 0 (U:Int) / 8*8)]++[Value.int .u64 (lw 1 (U:Int))]++[Value.int .u64 (lw 2 (U:Int))]++[Value.int .u64 (lw 3 (U:Int) % 9223372036854775808 % 4611686018427387904+4611686018427387904)]=nc ((nle (clm l):Nat):Int):=by
 have hA:=nle_ln (clm_lt hlt) (clm_len hl)
 have b:∀ i:Nat,l[i]?.getD 0<256:=fun i=>by rw [← List.getD_eq_getElem?_getD];exact gD_lt hlt i
 have w0:L 0 ((nle (clm l):Nat):Int)=lw 0 (U:Int) / 8*8:=by
  show _=L 0 (U:Int) / 8*8
  rw [hA.word (j:=0) (by decide),hU.word (j:=0) (by decide),E8,E8]
  simp only [clm_at hl]
  have:=b 0;have:=b 1;have:=b 2;have:=b 3;have:=b 4;have:=b 5;have:=b 6;have:=b 7
  simp
  omega
 have w1:L 1 ((nle (clm l):Nat):Int)=lw 1 (U:Int):=by
  show _=L 1 (U:Int)
  rw [hA.word (j:=1) (by decide),hU.word (j:=1) (by decide),E8,E8]
  simp only [clm_at hl]
  simp
 have w2:L 2 ((nle (clm l):Nat):Int)=lw 2 (U:Int):=by
  show _=L 2 (U:Int)
  rw [hA.word (j:=2) (by decide),hU.word (j:=2) (by decide),E8,E8]
  simp only [clm_at hl]
  simp
 have w3:L 3 ((nle (clm l):Nat):Int)=lw 3 (U:Int) % 9223372036854775808 % 4611686018427387904+4611686018427387904:=by
  show _=L 3 (U:Int) % 9223372036854775808 % 4611686018427387904+4611686018427387904
  rw [hA.word (j:=3) (by decide),hU.word (j:=3) (by decide),E8,E8]
  simp only [clm_at hl]
  have:=b 24;have:=b 25;have:=b 26;have:=b 27;have:=b 28;have:=b 29;have:=b 30;have:=b 31
  simp
  omega
 show _=[Value.int .u64 (L 0 _),Value.int .u64 (L 1 _),Value.int .u64 (L 2 _),Value.int .u64 (L 3 _)]
 rw [w0,w1,w2,w3]
 rfl
end Go.Proofs.YtjaahnlpnkcimaaDoor
