/- What the document's own Bit answers, for all numbers: the same as limb's. Multiples, as the document reckons them. What the document's own Less answers, for all numbers. What codec.Below and the document's own answer. What the document's own Formed, lift, Add, Mul and Both answer. Multiples by the one formula for all cases, bit by bit from the highest on. What the program's own functions of layer 8 answer. -/
import Derived.Test.YtmigakanbeckpaaGreatDoorRm20
import Derived.Test.YtmigakanbeckpaaGreatDoorRm21
import Derived.Test.YtmigakanbeckpaaGreatDoorRm02
import Derived.Test.YtmigakanbeckpaaGreatDoorRm16
import Derived.Test.YtmigakanbeckpaaGreatDoorRm05
import Derived.Deep.RegionHeld3
set_option maxRecDepth 100000
set_option maxHeartbeats 8000000
namespace Go.Proofs.YtmigakanbeckpaaGreatDoor
set_option maxRecDepth 100000
open Go.RowKit
attribute [local go_sem ↓] Go.wp_at_zero Go.wp_at_succ
end Go.Proofs.YtmigakanbeckpaaGreatDoor
namespace Go.Proofs.YtmigakanbeckpaaGreatDoor
set_option maxRecDepth 100000
open Go.RowKit
end Go.Proofs.YtmigakanbeckpaaGreatDoor
namespace Go.Proofs.YtmigakanbeckpaaGreatDoor
set_option maxRecDepth 100000
open Go.RowKit
attribute [local go_sem ↓] Go.wp_at_zero Go.wp_at_succ
def lessW (x0 x1 x2 x3 y0 y1 y2 y3:Int):Bool :=
 if x3=y3 then if x2=y2 then if x1=y1 then if x0=y0 then false else decide (x0<y0) else decide (x1<y1) else decide (x2<y2) else decide (x3<y3)
theorem less_walk (x0 x1 x2 x3 y0 y1 y2 y3:Int) (w:World) :
  Calls Tryz.prog 43 #[.agg #[.int .u64 x0,.int .u64 x1,.int .u64 x2,.int .u64 x3],.agg #[.int .u64 y0,.int .u64 y1,.int .u64 y2,.int .u64 y3]] w fun e w'=>e=.returned (.bool (lessW x0 x1 x2 x3 y0 y1 y2 y3))∧Below w.heap.size w w':=by
 go_enter Tryz.func43,Tryz.ntmps43
 go_wp2
 refine wp_loop_rounds 5 ?_
 by_cases g3:x3=y3
 case neg =>
  have b3:(x3 == y3)=false:=by simpa using g3
  have n3:(x3 != y3)=true:=by simpa using g3
  rw [rounds_succ]
  go_wp2
  go_quiet (fail)
  go_wp2
  go_quiet (fail)
  go_wp2
  go_ret
  refine ⟨ret_bool (by unfold lessW;simp [*]),?_⟩
  repeat' (first | (with_reducible exact Below.refl _ _) | (with_reducible refine K.drewN ?_ _) | (with_reducible refine K.drew ?_) | (with_reducible refine K.alloc ?_ _) | (with_reducible refine K.set ?_ ?_ _) | (simp;done) | (simp;omega))
 subst g3
 rw [rounds_succ]
 go_wp2
 go_quiet (fail)
 go_wp2
 by_cases g2:x2=y2
 case neg =>
  have b2:(x2 == y2)=false:=by simpa using g2
  have n2:(x2 != y2)=true:=by simpa using g2
  rw [rounds_succ]
  go_wp2
  go_quiet (fail)
  go_wp2
  go_quiet (fail)
  go_wp2
  go_ret
  refine ⟨ret_bool (by unfold lessW;simp [*]),?_⟩
  repeat' (first | (with_reducible exact Below.refl _ _) | (with_reducible refine K.drewN ?_ _) | (with_reducible refine K.drew ?_) | (with_reducible refine K.alloc ?_ _) | (with_reducible refine K.set ?_ ?_ _) | (simp;done) | (simp;omega))
 subst g2
 rw [rounds_succ]
 go_wp2
 go_quiet (fail)
 go_wp2
 by_cases g1:x1=y1
 case neg =>
  have b1:(x1 == y1)=false:=by simpa using g1
  have n1:(x1 != y1)=true:=by simpa using g1
  rw [rounds_succ]
  go_wp2
  go_quiet (fail)
  go_wp2
  go_quiet (fail)
  go_wp2
  go_ret
  refine ⟨ret_bool (by unfold lessW;simp [*]),?_⟩
  repeat' (first | (with_reducible exact Below.refl _ _) | (with_reducible refine K.drewN ?_ _) | (with_reducible refine K.drew ?_) | (with_reducible refine K.alloc ?_ _) | (with_reducible refine K.set ?_ ?_ _) | (simp;done) | (simp;omega))
 subst g1
 rw [rounds_succ]
 go_wp2
 go_quiet (fail)
 go_wp2
 by_cases g0:x0=y0
 case neg =>
  have b0:(x0 == y0)=false:=by simpa using g0
  have n0:(x0 != y0)=true:=by simpa using g0
  rw [rounds_succ]
  go_wp2
  go_quiet (fail)
  go_wp2
  go_quiet (fail)
  go_wp2
  go_ret
  refine ⟨ret_bool (by unfold lessW;simp [*]),?_⟩
  repeat' (first | (with_reducible exact Below.refl _ _) | (with_reducible refine K.drewN ?_ _) | (with_reducible refine K.drew ?_) | (with_reducible refine K.alloc ?_ _) | (with_reducible refine K.set ?_ ?_ _) | (simp;done) | (simp;omega))
 subst g0
 rw [rounds_succ]
 go_wp2
 go_quiet (fail)
 go_wp2
 rw [rounds_succ]
 go_wp2
 go_ret
 refine ⟨ret_bool (by unfold lessW;simp),?_⟩
 repeat' (first | (with_reducible exact Below.refl _ _) | (with_reducible refine K.drewN ?_ _) | (with_reducible refine K.drew ?_) | (with_reducible refine K.alloc ?_ _) | (with_reducible refine K.set ?_ ?_ _) | (simp;done) | (simp;omega))
theorem lessW_eq {a b:Int} (ha:Num a) (hb:Num b):lessW (L 0 a) (L 1 a) (L 2 a) (L 3 a) (L 0 b) (L 1 b) (L 2 b) (L 3 b)=decide (a<b):=by
 obtain ⟨a1,a2⟩:=ha
 obtain ⟨b1,b2⟩:=hb
 rw [L0,L1,L2,L3,L0,L1,L2,L3]
 unfold lessW
 unfold M at *
 (repeat' split) <;> (first | (symm;rw [decide_eq_false_iff_not];omega) | (rw [decide_eq_decide];omega))
theorem less_any {a b:Int} (ha:Num a) (hb:Num b) (w:World) :
  Calls Tryz.prog 43 #[.agg #[.int .u64 (L 0 a),.int .u64 (L 1 a),.int .u64 (L 2 a),.int .u64 (L 3 a)],.agg #[.int .u64 (L 0 b),.int .u64 (L 1 b),.int .u64 (L 2 b),.int .u64 (L 3 b)]] w fun e w'=>e=.returned (.bool (decide (a<b)))∧Below w.heap.size w w':=by
 rw [← lessW_eq ha hb];exact less_walk _ _ _ _ _ _ _ _ w
theorem less_true {a b:Int} (ha:Num a) (hb:Num b) (h:a<b) (w:World) :
  Calls Tryz.prog 43 #[.agg #[.int .u64 (L 0 a),.int .u64 (L 1 a),.int .u64 (L 2 a),.int .u64 (L 3 a)],.agg #[.int .u64 (L 0 b),.int .u64 (L 1 b),.int .u64 (L 2 b),.int .u64 (L 3 b)]] w fun e w'=>e=.returned (.bool true)∧Below w.heap.size w w':=by
 have g:=less_any ha hb w
 rw [decide_eq_true h] at g
 exact g
theorem less_false {a b:Int} (ha:Num a) (hb:Num b) (h:¬ a<b) (w:World) :
  Calls Tryz.prog 43 #[.agg #[.int .u64 (L 0 a),.int .u64 (L 1 a),.int .u64 (L 2 a),.int .u64 (L 3 a)],.agg #[.int .u64 (L 0 b),.int .u64 (L 1 b),.int .u64 (L 2 b),.int .u64 (L 3 b)]] w fun e w'=>e=.returned (.bool false)∧Below w.heap.size w w':=by
 have g:=less_any ha hb w
 rw [decide_eq_false h] at g
 exact g
end Go.Proofs.YtmigakanbeckpaaGreatDoor
namespace Go.Proofs.YtmigakanbeckpaaGreatDoor
set_option maxRecDepth 100000
open Go.RowKit
attribute [local go_sem ↓] Go.wp_at_zero Go.wp_at_succ
theorem ref_mod_0 (w:World):Calls Tryz.prog 20 #[.int .i64 0] w fun e w'=>e=.returned (.agg #[.int .u64 (L 0 (md 0)),.int .u64 (L 1 (md 0)),.int .u64 (L 2 (md 0)),.int .u64 (L 3 (md 0))])∧Below w.heap.size w w':=by
 have e0:L 0 (md 0)=18446744073709551615:=by decide
 have e1:L 1 (md 0)=4294967295:=by decide
 have e2:L 2 (md 0)=0:=by decide
 have e3:L 3 (md 0)=18446744069414584321:=by decide
 rw [e0,e1,e2,e3]
 go_enter Tryz.func20,Tryz.ntmps20
 go_wp2
 go_returns
 refine ⟨rfl,?_⟩
 go_grown
theorem ref_mod_1 (w:World):Calls Tryz.prog 20 #[.int .i64 1] w fun e w'=>e=.returned (.agg #[.int .u64 (L 0 (md 1)),.int .u64 (L 1 (md 1)),.int .u64 (L 2 (md 1)),.int .u64 (L 3 (md 1))])∧Below w.heap.size w w':=by
 have e0:L 0 (md 1)=17562291160714782033:=by decide
 have e1:L 1 (md 1)=13611842547513532036:=by decide
 have e2:L 2 (md 1)=18446744073709551615:=by decide
 have e3:L 3 (md 1)=18446744069414584320:=by decide
 rw [e0,e1,e2,e3]
 go_enter Tryz.func20,Tryz.ntmps20
 go_wp2
 go_returns
 refine ⟨rfl,?_⟩
 go_grown
theorem ref_mod_2 (w:World):Calls Tryz.prog 20 #[.int .i64 2] w fun e w'=>e=.returned (.agg #[.int .u64 (L 0 (md 2)),.int .u64 (L 1 (md 2)),.int .u64 (L 2 (md 2)),.int .u64 (L 3 (md 2))])∧Below w.heap.size w w':=by
 have e0:L 0 (md 2)=18446744073709551597:=by decide
 have e1:L 1 (md 2)=18446744073709551615:=by decide
 have e2:L 2 (md 2)=18446744073709551615:=by decide
 have e3:L 3 (md 2)=9223372036854775807:=by decide
 rw [e0,e1,e2,e3]
 go_enter Tryz.func20,Tryz.ntmps20
 go_wp2
 go_returns
 refine ⟨rfl,?_⟩
 go_grown
theorem ref_mod_3 (w:World):Calls Tryz.prog 20 #[.int .i64 3] w fun e w'=>e=.returned (.agg #[.int .u64 (L 0 (md 3)),.int .u64 (L 1 (md 3)),.int .u64 (L 2 (md 3)),.int .u64 (L 3 (md 3))])∧Below w.heap.size w w':=by
 have e0:L 0 (md 3)=6346243789798364141:=by decide
 have e1:L 1 (md 3)=1503914060200516822:=by decide
 have e2:L 2 (md 3)=0:=by decide
 have e3:L 3 (md 3)=1152921504606846976:=by decide
 rw [e0,e1,e2,e3]
 go_enter Tryz.func20,Tryz.ntmps20
 go_wp2
 go_returns
 refine ⟨rfl,?_⟩
 go_grown
theorem ref_mod_none (k:Int) (h:k<0∨3<k) (w:World):Calls Tryz.prog 20 #[.int .i64 k] w fun e w'=>e=.returned (.agg #[.int .u64 (L 0 (md k)),.int .u64 (L 1 (md k)),.int .u64 (L 2 (md k)),.int .u64 (L 3 (md k))])∧Below w.heap.size w w':=by
 have e:md k=0:=by unfold md;(repeat' split) <;> omega
 have z0:L 0 0=0:=by decide
 have z1:L 1 0=0:=by decide
 have z2:L 2 0=0:=by decide
 have z3:L 3 0=0:=by decide
 rw [e,z0,z1,z2,z3]
 have b0:(k == 0)=false:=beq_eq_false_iff_ne.2 (by omega)
 have b1:(k == 1)=false:=beq_eq_false_iff_ne.2 (by omega)
 have b2:(k == 2)=false:=beq_eq_false_iff_ne.2 (by omega)
 have b3:(k == 3)=false:=beq_eq_false_iff_ne.2 (by omega)
 clear h e z0 z1 z2 z3
 go_enter Tryz.func20,Tryz.ntmps20
 go_wp2
 go_returns
 refine ⟨rfl,?_⟩
 go_grown
theorem ref_mod_any (k:Int) (w:World):Calls Tryz.prog 20 #[.int .i64 k] w fun e w'=>e=.returned (.agg #[.int .u64 (L 0 (md k)),.int .u64 (L 1 (md k)),.int .u64 (L 2 (md k)),.int .u64 (L 3 (md k))])∧Below w.heap.size w w':=by
 have hk:k=0∨k=1∨k=2∨k=3∨(k<0∨3<k):=by omega
 rcases hk with rfl | rfl | rfl | rfl | hk
 ·exact ref_mod_0 w
 ·exact ref_mod_1 w
 ·exact ref_mod_2 w
 ·exact ref_mod_3 w
 ·exact ref_mod_none k hk w
theorem below_walk {k a m:Int} {c:Int} {w:World}
  (H1:Hid (∀ w1,Below w.heap.size w w1→Calls Tryz.prog 89 #[.int .i64 k] w1 fun e w'=>e=.returned (.agg #[.int .u64 (L 0 m),.int .u64 (L 1 m),.int .u64 (L 2 m),.int .u64 (L 3 m)])∧Below w1.heap.size w1 w'))
  (H2:Hid (∀ w,Calls Tryz.prog 88 #[.agg #[.int .u64 (L 0 a),.int .u64 (L 1 a),.int .u64 (L 2 a),.int .u64 (L 3 a)],.agg #[.int .u64 (L 0 m),.int .u64 (L 1 m),.int .u64 (L 2 m),.int .u64 (L 3 m)]] w fun e w'=>e=.returned (.int .i64 c)∧Below w.heap.size w w')) :
  Calls Tryz.prog 50 #[.int .i64 k,.agg #[.int .u64 (L 0 a),.int .u64 (L 1 a),.int .u64 (L 2 a),.int .u64 (L 3 a)]] w fun e w'=>e=.returned (.bool (decide (c<0)))∧Below w.heap.size w w':=by
 have A1:=Arr.new w w.heap.size rfl 24 (L 0 a) (L 1 a) (L 2 a) (L 3 a)
 have hw:Below w.heap.size w (w.alloc (.cells #[.int .u64 (L 0 a),.int .u64 (L 1 a),.int .u64 (L 2 a),.int .u64 (L 3 a)] 24)):=K.alloc (Below.refl _ _) _
 go_enter Tryz.func50,Tryz.ntmps50
 go_wp2_with fail
 generalize w.alloc (.cells #[.int .u64 (L 0 a),.int .u64 (L 1 a),.int .u64 (L 2 a),.int .u64 (L 3 a)] 24)=W0 at *
 have ⟨ka,ka0,ka1,ka2,ka3⟩:=A1
 have hS:Hid (∀ w',Below W0.heap.size W0 w'→(Below W0.heap.size W0 w'∧w'.cell? ⟨w.heap.size,0,none⟩=some (.int .u64 (L 0 a))∧w'.cell? ⟨w.heap.size,1,none⟩=some (.int .u64 (L 1 a))∧w'.cell? ⟨w.heap.size,2,none⟩=some (.int .u64 (L 2 a))∧w'.cell? ⟨w.heap.size,3,none⟩=some (.int .u64 (L 3 a)))):=fun w' hB=>⟨hB,later hB ka0,later hB ka1,later hB ka2,later hB ka3⟩
 clear ka ka0 ka1 ka2 ka3
 go_region_held3 (fun w'=>Below W0.heap.size W0 w'∧w'.cell? ⟨w.heap.size,0,none⟩=some (.int .u64 (L 0 a))∧w'.cell? ⟨w.heap.size,1,none⟩=some (.int .u64 (L 1 a))∧w'.cell? ⟨w.heap.size,2,none⟩=some (.int .u64 (L 2 a))∧w'.cell? ⟨w.heap.size,3,none⟩=some (.int .u64 (L 3 a)))
  ((refine hS.out _ ?_;first | (with_reducible exact K.drew (Below.refl _ _)) | (with_reducible exact K.drew (K.alloc (Below.refl _ _) _)) | (with_reducible exact Below.refl _ _) | (with_reducible exact K.call (by go_split_ands;assumption) hk) | (with_reducible exact K.alloc (by go_split_ands;assumption) _) | (with_reducible exact K.again (by go_split_ands;assumption) (by omega) _) | (with_reducible exact K.set (by go_split_ands;assumption) (by first | omega | (simp;done) | (simp;omega)) _) | (with_reducible exact K.set (K.set (K.set (K.set (by go_split_ands;assumption) (by first | omega | (simp;done) | (simp;omega)) _) (by first | omega | (simp;done) | (simp;omega)) _) (by first | omega | (simp;done) | (simp;omega)) _) (by first | omega | (simp;done) | (simp;omega)) _)))
  (first
   | (go_at_call 89;with_reducible refine Calls.mono (H1.out _ (K.call hw (by go_split_ands;with_reducible assumption))) ?_;rintro e w' ⟨rfl,hk⟩)
   | (go_at_call 88;with_reducible refine Calls.mono (H2.out _) ?_;rintro e w' ⟨rfl,hk⟩))
 all_goals
  have hH:=‹Below _ _ _∧_›
  go_wp2_with fail
  go_ret
  exact ⟨ret_bool (by simp),K.call hw hH.1⟩
theorem refBelow_walk {k a m:Int} {c:Bool} {w:World}
  (H1:Hid (∀ w1,Below w.heap.size w w1→Calls Tryz.prog 20 #[.int .i64 k] w1 fun e w'=>e=.returned (.agg #[.int .u64 (L 0 m),.int .u64 (L 1 m),.int .u64 (L 2 m),.int .u64 (L 3 m)])∧Below w1.heap.size w1 w'))
  (H2:Hid (∀ w,Calls Tryz.prog 43 #[.agg #[.int .u64 (L 0 a),.int .u64 (L 1 a),.int .u64 (L 2 a),.int .u64 (L 3 a)],.agg #[.int .u64 (L 0 m),.int .u64 (L 1 m),.int .u64 (L 2 m),.int .u64 (L 3 m)]] w fun e w'=>e=.returned (.bool c)∧Below w.heap.size w w')) :
  Calls Tryz.prog 55 #[.int .i64 k,.agg #[.int .u64 (L 0 a),.int .u64 (L 1 a),.int .u64 (L 2 a),.int .u64 (L 3 a)]] w fun e w'=>e=.returned (.bool c)∧Below w.heap.size w w':=by
 have A1:=Arr.new w w.heap.size rfl 24 (L 0 a) (L 1 a) (L 2 a) (L 3 a)
 have hw:Below w.heap.size w (w.alloc (.cells #[.int .u64 (L 0 a),.int .u64 (L 1 a),.int .u64 (L 2 a),.int .u64 (L 3 a)] 24)):=K.alloc (Below.refl _ _) _
 go_enter Tryz.func55,Tryz.ntmps55
 go_wp2_with fail
 generalize w.alloc (.cells #[.int .u64 (L 0 a),.int .u64 (L 1 a),.int .u64 (L 2 a),.int .u64 (L 3 a)] 24)=W0 at *
 have ⟨ka,ka0,ka1,ka2,ka3⟩:=A1
 have hS:Hid (∀ w',Below W0.heap.size W0 w'→(Below W0.heap.size W0 w'∧w'.cell? ⟨w.heap.size,0,none⟩=some (.int .u64 (L 0 a))∧w'.cell? ⟨w.heap.size,1,none⟩=some (.int .u64 (L 1 a))∧w'.cell? ⟨w.heap.size,2,none⟩=some (.int .u64 (L 2 a))∧w'.cell? ⟨w.heap.size,3,none⟩=some (.int .u64 (L 3 a)))):=fun w' hB=>⟨hB,later hB ka0,later hB ka1,later hB ka2,later hB ka3⟩
 clear ka ka0 ka1 ka2 ka3
 go_region_held3 (fun w'=>Below W0.heap.size W0 w'∧w'.cell? ⟨w.heap.size,0,none⟩=some (.int .u64 (L 0 a))∧w'.cell? ⟨w.heap.size,1,none⟩=some (.int .u64 (L 1 a))∧w'.cell? ⟨w.heap.size,2,none⟩=some (.int .u64 (L 2 a))∧w'.cell? ⟨w.heap.size,3,none⟩=some (.int .u64 (L 3 a)))
  ((refine hS.out _ ?_;first | (with_reducible exact K.drew (Below.refl _ _)) | (with_reducible exact K.drew (K.alloc (Below.refl _ _) _)) | (with_reducible exact Below.refl _ _) | (with_reducible exact K.call (by go_split_ands;assumption) hk) | (with_reducible exact K.alloc (by go_split_ands;assumption) _) | (with_reducible exact K.again (by go_split_ands;assumption) (by omega) _) | (with_reducible exact K.set (by go_split_ands;assumption) (by first | omega | (simp;done) | (simp;omega)) _) | (with_reducible exact K.set (K.set (K.set (K.set (by go_split_ands;assumption) (by first | omega | (simp;done) | (simp;omega)) _) (by first | omega | (simp;done) | (simp;omega)) _) (by first | omega | (simp;done) | (simp;omega)) _) (by first | omega | (simp;done) | (simp;omega)) _)))
  (first
   | (go_at_call 20;with_reducible refine Calls.mono (H1.out _ (K.call hw (by go_split_ands;with_reducible assumption))) ?_;rintro e w' ⟨rfl,hk⟩)
   | (go_at_call 43;with_reducible refine Calls.mono (H2.out _) ?_;rintro e w' ⟨rfl,hk⟩))
 all_goals
  have hH:=‹Below _ _ _∧_›
  go_wp2_with fail
  go_ret
  exact ⟨rfl,K.call hw hH.1⟩
theorem cmp_neg (a m:Int):decide (cmp a m<0)=decide (a<m):=by
 unfold cmp
 by_cases h:a<m
 ·rw [if_pos h];simp [h]
 ·rw [if_neg h];split <;> simp [h]
theorem below_any {k a:Int} (ha:Num a) {w:World} (hT:Tab w) :
  Calls Tryz.prog 50 #[.int .i64 k,.agg #[.int .u64 (L 0 a),.int .u64 (L 1 a),.int .u64 (L 2 a),.int .u64 (L 3 a)]] w fun e w'=>e=.returned (.bool (decide (a<md k)))∧Below w.heap.size w w':=by
 have h:=below_walk (k:=k) (a:=a) (m:=md k) (c:=cmp a (md k)) (w:=w) (fun w1 hb=>f_mod k (hT.keep hb)) (fun w=>cmp_any ha (md_num k) w)
 rw [cmp_neg] at h
 exact h
theorem refBelow_any {k a:Int} (ha:Num a) (w:World) :
  Calls Tryz.prog 55 #[.int .i64 k,.agg #[.int .u64 (L 0 a),.int .u64 (L 1 a),.int .u64 (L 2 a),.int .u64 (L 3 a)]] w fun e w'=>e=.returned (.bool (decide (a<md k)))∧Below w.heap.size w w' :=
 refBelow_walk (fun w1 _=>ref_mod_any k w1) (fun w=>less_any ha (md_num k) w)
end Go.Proofs.YtmigakanbeckpaaGreatDoor
namespace Go.Proofs.YtmigakanbeckpaaGreatDoor
set_option maxRecDepth 100000
open Go.RowKit
theorem r_below {a:Int} (ha:Num a) {t:Bool} (ht:decide (a<md 0)=t) {w:World}:Calls Tryz.prog 55 [.int .i64 0,.agg (nc a).toArray].toArray w fun e w'=>e=.returned (.bool t)∧Below w.heap.size w w':=by
 rw [← ht]
 exact refBelow_any ha w
theorem fin_lt (x:Fin m0):decide ((x.val:Int)<md 0)=true:=by
 rw [md_m0]
 have:=x.isLt
 exact decide_eq_true (by omega)
theorem fields44 : Tryz.prog.fieldsOf 44 = #[{ name := "X", type := 24, offset := 0, embedded := false, tag := "", pkgPath := "", byteOffset := 0 }, { name := "Y", type := 24, offset := 4, embedded := false, tag := "", pkgPath := "", byteOffset := 32 }, { name := "None", type := 4, offset := 8, embedded := false, tag := "", pkgPath := "", byteOffset := 64 }] := by kernel_rfl
theorem isAgg24 (w:World):(isAgg 24).run Tryz.prog w=.ok true w:=by
 unfold isAgg
 rw [Sem.run_bind,run_underlying Tryz.underlying24 w]
 rfl
theorem isAgg4 (w:World):(isAgg 4).run Tryz.prog w=.ok false w:=by
 unfold isAgg
 rw [Sem.run_bind,run_underlying Tryz.underlying4 w]
 rfl
theorem size24 (w:World):(sizeOf 24).run Tryz.prog w=.ok 4 w:=by
 have h:=i24
 cases hq:Tryz.prog.info? 24 with
 | none=>rw [hq] at h;cases h
 | some i =>
  rw [hq] at h
  simp at h
  simp [sizeOf,typeInfo,hq,h]
theorem its_cons (xs ys:Array Value) (j:Nat) (js:List Nat) (x y:Int) (r:Bool) (hx:xs[j]?=some (.int .u64 x)) (hy:ys[j]?=some (.int .u64 y)) (w:World)
  (h:(Op.eqItems 9998 22 1 xs ys js).run Tryz.prog w=.ok r w):(Op.eqItems 9998 22 1 xs ys (j :: js)).run Tryz.prog w=.ok (x == y && r) w:=by
 have he:Tryz.prog.plainKey 22=true:=by kernel_rfl
 simp only [Op.eqItems,Sem.run_bind,Nat.mul_one,run_part_plain w he hx,run_part_plain w he hy,Result.andThen_ok,run_equalIn_int w 9997 22 .u64 .u64 x y Tryz.underlying22]
 cases x == y <;> simp [h]
theorem eq_in {a b:Int} (ha:Num a) (hb:Num b) (w:World):(Op.equalIn 9999 24 (.agg (nc a).toArray) (.agg (nc b).toArray)).run Tryz.prog w=.ok (decide (a=b)) w:=by
 rw [← nc_eq ha hb]
 obtain ⟨i,hi⟩:=Option.isSome_iff_exists.1 (show (Tryz.prog.info? 22).isSome=true by kernel_rfl)
 rw [run_equalIn_array w 9998 _ _ Tryz.underlying24 hi]
 have hc:Tryz.prog.cellsOf 22=1:=by kernel_rfl
 have r4:List.range 4=[0,1,2,3]:=rfl
 rw [hc,r4]
 exact its_cons _ _ 0 _ _ _ _ rfl rfl w (its_cons _ _ 1 _ _ _ _ rfl rfl w (its_cons _ _ 2 _ _ _ _ rfl rfl w (its_cons _ _ 3 _ _ _ _ rfl rfl w rfl)))
theorem eqf_cons {dd : Nat} {xs ys : Array Value} {f : Field} {fs : List Field} {a b : Value} {r s : Bool} {w : World} (hn : f.name ≠ "_") (h1 : (part f.type xs f.offset).run Tryz.prog w = .ok a w) (h2 : (part f.type ys f.offset).run Tryz.prog w = .ok b w) (h3 : (Op.equalIn dd f.type a b).run Tryz.prog w = .ok r w) (h4 : (Op.eqFields dd xs ys fs).run Tryz.prog w = .ok s w) : (Op.eqFields dd xs ys (f :: fs)).run Tryz.prog w = .ok (r && s) w := by
 rw [Op.eqFields,if_pos hn]
 simp only [Sem.run_bind,h1,h2,h3,Result.andThen_ok]
 cases r
 ·rfl
 ·exact h4
theorem eq_pt {a b c d:Int} (ha:Num a) (hb:Num b) (hc:Num c) (hd:Num d) (s t:Bool) (w:World):(Op.equalIn 10000 44 (.agg (nc a++nc b++[Value.bool s]).toArray) (.agg (nc c++nc d++[Value.bool t]).toArray)).run Tryz.prog w=.ok (decide (a=c∧b=d∧s=t)) w:=by
 have e1:∀ w,(part 24 (nc a++nc b++[Value.bool s]).toArray 0).run Tryz.prog w=.ok (.agg (nc a).toArray) w:=fun w=>by unfold part;simp only [Sem.run_bind,isAgg24,Result.andThen_ok,if_true,size24,Sem.run_pure];rfl
 have e2:∀ w,(part 24 (nc c++nc d++[Value.bool t]).toArray 0).run Tryz.prog w=.ok (.agg (nc c).toArray) w:=fun w=>by unfold part;simp only [Sem.run_bind,isAgg24,Result.andThen_ok,if_true,size24,Sem.run_pure];rfl
 have e3:∀ w,(part 24 (nc a++nc b++[Value.bool s]).toArray 4).run Tryz.prog w=.ok (.agg (nc b).toArray) w:=fun w=>by unfold part;simp only [Sem.run_bind,isAgg24,Result.andThen_ok,if_true,size24,Sem.run_pure];rfl
 have e4:∀ w,(part 24 (nc c++nc d++[Value.bool t]).toArray 4).run Tryz.prog w=.ok (.agg (nc d).toArray) w:=fun w=>by unfold part;simp only [Sem.run_bind,isAgg24,Result.andThen_ok,if_true,size24,Sem.run_pure];rfl
 have e5:∀ w,(part 4 (nc a++nc b++[Value.bool s]).toArray 8).run Tryz.prog w=.ok (.bool s) w:=fun w=>by unfold part;simp only [Sem.run_bind,isAgg4,Result.andThen_ok,Bool.false_eq_true,if_false];rfl
 have e6:∀ w,(part 4 (nc c++nc d++[Value.bool t]).toArray 8).run Tryz.prog w=.ok (.bool t) w:=fun w=>by unfold part;simp only [Sem.run_bind,isAgg4,Result.andThen_ok,Bool.false_eq_true,if_false];rfl
 have hf:Tryz.prog.underlying 44=some (.struct (Tryz.prog.fieldsOf 44)):=by rw [fields44];exact Tryz.underlying44
 rw [run_equalIn_struct w 9999 44 _ _ hf Tryz.stoodInHeld44,fields44]
 have hb':=fun w=>run_equalIn_bool' (P:=Tryz.prog) w 9998 4 s t Tryz.underlying4
 refine Eq.trans (eqf_cons (by decide) (e1 w) (e2 w) (eq_in ha hc w) (eqf_cons (by decide) (e3 w) (e4 w) (eq_in hb hd w) (eqf_cons (by decide) (e5 w) (e6 w) (hb' w) rfl))) ?_
 congr 1
 by_cases h1:a=c
 ·by_cases h2:b=d
  ·subst h1 h2
   cases s <;> cases t <;> simp
  ·simp [h2]
 ·simp [h1]
theorem eq_none {a b:Int} (ha:Num a) (hb:Num b) (w:World):(Op.equalIn 10000 44 (.agg (nc a++nc b++[Value.bool true]).toArray) (.agg (nz++nz++[Value.bool true]).toArray)).run Tryz.prog w=.ok (decide (a=0∧b=0)) w:=by
 have h:=eq_pt ha hb (c:=0) (d:=0) ⟨by decide,by decide⟩ ⟨by decide,by decide⟩ true true w
 rw [← nz_nc] at h
 rw [h]
 simp
theorem r_formed_none {w:World} {X Y:Int} (hX:Num X) (hY:Num Y):Calls Tryz.prog 48 [.agg (nc (X)++nc (Y)++[Value.bool true]).toArray].toArray w fun e w'=>e=.returned (.bool (decide (X=0∧Y=0)))∧Below w.heap.size w w':=by
 refine enter (args:=[.agg (nc (X)++nc (Y)++[Value.bool true]).toArray]) Tryz.func48 rfl 40 rfl (lk rfl) (fun a h=>?_)
 refine aX h [] [eN 1 _,eS 2 _] ⟨rfl,rfl,T0⟩ [(1,.ptr 1 0)] [(1,nc (X)++nc (Y)++[Value.bool true])] (fun a w h=>?_)
 refine wp_seq ?_
 refine aX h [] [eS 4 _,eS 5 _] ⟨rfl,rfl,T0⟩ [(1,_),(5,.val (Value.bool true))] [(1,_)] (fun a w h=>?_)
 refine go_cond h true rfl (fun ht=>?_) (fun hf=>?_)
 case refine_2=>cases hf
 refine aX h [1,2] [eS 6 _,eS 7 _,eS 8 (.val (Value.bool (decide (X=0∧Y=0)))),eS 2 _] ⟨rfl,fun L u=>u_call u (gd0 rfl) _ rfl _ _ _ rfl [] rfl (cE47 _) _ (fun w hb=>r_None),fun L u=>u_eql u (gd0 rfl) 8 rfl 44 44 (.tmp 6) (.tmp 7) rfl rfl rfl Tryz.eqGuardType44 (decide (X=0∧Y=0)) (fun w=>eq_none hX hY w),rfl,T0⟩ [(2,.val (Value.bool (decide (X=0∧Y=0))))] [] (fun a w h=>?_)
 refine wp_ret ?_
 refine then_ret ?_
 refine ret_slot h 2 rfl (lk rfl) (Value.bool (decide (X=0∧Y=0))) rfl ?_
 exact ⟨rfl,h.grows⟩
theorem r_formed_x {w:World} {X Y:Int} (hX:Num X) (bX:decide (X<md 0)=false):Calls Tryz.prog 48 [.agg (nc (X)++nc (Y)++[Value.bool false]).toArray].toArray w fun e w'=>e=.returned (.bool false)∧Below w.heap.size w w':=by
 refine enter (args:=[.agg (nc (X)++nc (Y)++[Value.bool false]).toArray]) Tryz.func48 rfl 40 rfl (lk rfl) (fun a h=>?_)
 refine aX h [] [eN 1 _,eS 2 _] ⟨rfl,rfl,T0⟩ [(1,.ptr 1 0)] [(1,nc (X)++nc (Y)++[Value.bool false])] (fun a w h=>?_)
 refine wp_seq ?_
 refine aX h [] [eS 4 _,eS 5 _] ⟨rfl,rfl,T0⟩ [(1,_),(5,.val (Value.bool false))] [(1,_)] (fun a w h=>?_)
 refine go_cond h false rfl (fun ht=>?_) (fun hf=>?_)
 case refine_1=>cases ht
 refine wp_skip ?_
 refine then_norm ?_
 refine wp_seq ?_
 refine aX h [2] [eS 9 _,eS 10 _,eS 11 _,eS 12 _,eS 13 _,eS 14 _,eS 15 _,eS 16 _,eS 17 _,eS 18 _] ⟨rfl,rfl,fun L u=>u_call u (gd0 rfl) _ rfl _ _ _ rfl [_,_] rfl (cE55 _) _ (fun w hb=>r_below hX bX),rfl,rfl,rfl,rfl,rfl,rfl,rfl,T0⟩ [(1,_),(18,.val (Value.bool true))] [(1,_)] (fun a w h=>?_)
 refine go_cond h true rfl (fun ht=>?_) (fun hf=>?_)
 case refine_2=>cases hf
 refine aX h [] [eS 2 _] ⟨rfl,T0⟩ [(2,.val (Value.bool false))] [] (fun a w h=>?_)
 refine wp_ret ?_
 refine then_ret ?_
 refine ret_slot h 2 rfl (lk rfl) (Value.bool false) rfl ?_
 exact ⟨rfl,h.grows⟩
theorem r_formed_y {w:World} {X Y:Int} (hX:Num X) (bX:decide (X<md 0)=true) (hY:Num Y) (bY:decide (Y<md 0)=false):Calls Tryz.prog 48 [.agg (nc (X)++nc (Y)++[Value.bool false]).toArray].toArray w fun e w'=>e=.returned (.bool false)∧Below w.heap.size w w':=by
 refine enter (args:=[.agg (nc (X)++nc (Y)++[Value.bool false]).toArray]) Tryz.func48 rfl 40 rfl (lk rfl) (fun a h=>?_)
 refine aX h [] [eN 1 _,eS 2 _] ⟨rfl,rfl,T0⟩ [(1,.ptr 1 0)] [(1,nc (X)++nc (Y)++[Value.bool false])] (fun a w h=>?_)
 refine wp_seq ?_
 refine aX h [] [eS 4 _,eS 5 _] ⟨rfl,rfl,T0⟩ [(1,_),(5,.val (Value.bool false))] [(1,_)] (fun a w h=>?_)
 refine go_cond h false rfl (fun ht=>?_) (fun hf=>?_)
 case refine_1=>cases ht
 refine wp_skip ?_
 refine then_norm ?_
 refine wp_seq ?_
 refine aX h [2,7] [eS 9 _,eS 10 _,eS 11 _,eS 12 _,eS 13 _,eS 14 _,eS 15 _,eS 16 _,eS 17 _,eS 18 _] ⟨rfl,rfl,fun L u=>u_call u (gd0 rfl) _ rfl _ _ _ rfl [_,_] rfl (cE55 _) _ (fun w hb=>r_below hX bX),rfl,rfl,rfl,rfl,fun L u=>u_call u (gd1 u 4 false rfl 13 rfl (lk rfl) rfl) _ rfl _ _ _ rfl [_,_] rfl (cE55 _) _ (fun w hb=>r_below hY bY),rfl,rfl,T0⟩ [(1,_),(18,.val (Value.bool true))] [(1,_)] (fun a w h=>?_)
 refine go_cond h true rfl (fun ht=>?_) (fun hf=>?_)
 case refine_2=>cases hf
 refine aX h [] [eS 2 _] ⟨rfl,T0⟩ [(2,.val (Value.bool false))] [] (fun a w h=>?_)
 refine wp_ret ?_
 refine then_ret ?_
 refine ret_slot h 2 rfl (lk rfl) (Value.bool false) rfl ?_
 exact ⟨rfl,h.grows⟩
theorem r_formed_at {w:World} (hT:Tab w) (x y:Fin m0):Calls Tryz.prog 48 [.agg (fc (x)++fc (y)++[Value.bool false]).toArray].toArray w fun e w'=>e=.returned (.bool (decide (y*y=x*(x*x)-tmN x 3+wb)))∧Below w.heap.size w w':=by
 refine enter (args:=[.agg (fc (x)++fc (y)++[Value.bool false]).toArray]) Tryz.func48 rfl 40 rfl (lk rfl) (fun a h=>?_)
 refine aX h [] [eN 1 _,eS 2 _] ⟨rfl,rfl,T0⟩ [(1,.ptr 1 0)] [(1,fc (x)++fc (y)++[Value.bool false])] (fun a w h=>?_)
 refine wp_seq ?_
 refine aX h [] [eS 4 _,eS 5 _] ⟨rfl,rfl,T0⟩ [(1,_),(5,.val (Value.bool false))] [(1,_)] (fun a w h=>?_)
 refine go_cond h false rfl (fun ht=>?_) (fun hf=>?_)
 case refine_1=>cases ht
 refine wp_skip ?_
 refine then_norm ?_
 refine wp_seq ?_
 refine aX h [2,7] [eS 9 _,eS 10 _,eS 11 _,eS 12 _,eS 13 _,eS 14 _,eS 15 _,eS 16 _,eS 17 _,eS 18 _] ⟨rfl,rfl,fun L u=>u_call u (gd0 rfl) _ rfl _ _ _ rfl [_,_] rfl (cE55 _) _ (fun w hb=>r_below (fin_num _) (fin_lt _)),rfl,rfl,rfl,rfl,fun L u=>u_call u (gd1 u 4 false rfl 13 rfl (lk rfl) rfl) _ rfl _ _ _ rfl [_,_] rfl (cE55 _) _ (fun w hb=>r_below (fin_num _) (fin_lt _)),rfl,rfl,T0⟩ [(1,_),(18,.val (Value.bool false))] [(1,_)] (fun a w h=>?_)
 refine go_cond h false rfl (fun ht=>?_) (fun hf=>?_)
 case refine_1=>cases ht
 refine wp_skip ?_
 refine then_norm ?_
 refine aX h [6,7,10,11,12,13] [eS 19 _,eS 20 _,eS 21 _,eS 22 _,eS 23 _,eS 24 _,eS 25 _,eS 26 _,eS 27 _,eS 28 _,eS 29 _,eS 30 _,eS 31 _,eS 32 _,eN 3 _,eM 3 _] ⟨rfl,rfl,rfl,rfl,rfl,rfl,fun L u=>u_call u (gd0 rfl) _ rfl _ _ _ rfl [_,_] rfl (cE84 _) _ (fun w hb=>r_mul (hT.keep (Bs.kp_of hb)) _ _),fun L u=>u_call u (gd0 rfl) _ rfl _ _ _ rfl [_,_] rfl (cE84 _) _ (fun w hb=>r_mul (hT.keep (Bs.kp_of hb)) _ _),rfl,rfl,fun L u=>u_call u (gd0 rfl) _ rfl _ _ _ rfl [_,_] rfl (cE85 _) _ (fun w hb=>r_times (hT.keep (Bs.kp_of hb)) _ 3 (by decide)),fun L u=>u_call u (gd0 rfl) _ rfl _ _ _ rfl [_,_] rfl (cE83 _) _ (fun w hb=>r_sub (hT.keep (Bs.kp_of hb)) _ _),fun L u=>u_call u (gd0 rfl) _ rfl _ _ _ rfl [] rfl (cE86 _) _ (fun w hb=>r_B),fun L u=>u_call u (gd0 rfl) _ rfl _ _ _ rfl [_,_] rfl (cE82 _) _ (fun w hb=>r_add (hT.keep (Bs.kp_of hb)) _ _),rfl,rfl,T0⟩ [(1,_),(3,.ptr 3 0)] [(1,_),(3,fc ((((x)*((x)*(x)))-(tmN (x) 3))+(wb)))] (fun a w h=>?_)
 refine aX h [4,6] [eS 33 _,eS 34 _,eS 35 _,eS 36 _,eS 37 _,eS 38 _,eS 39 (.val (Value.bool (decide ((y)*(y)=(((x)*((x)*(x)))-(tmN (x) 3))+(wb))))),eS 2 _] ⟨rfl,rfl,rfl,rfl,fun L u=>u_call u (gd0 rfl) _ rfl _ _ _ rfl [_,_] rfl (cE84 _) _ (fun w hb=>r_mul (hT.keep (Bs.kp_of hb)) _ _),rfl,fun L u=>u_eql u (gd0 rfl) 39 rfl 24 24 (.tmp 37) (.tmp 38) rfl rfl rfl Tryz.eqGuardType24 (decide ((y)*(y)=(((x)*((x)*(x)))-(tmN (x) 3))+(wb))) (fun w=>eq_fc _ _ w),rfl,T0⟩ [(2,.val (Value.bool (decide ((y)*(y)=(((x)*((x)*(x)))-(tmN (x) 3))+(wb)))))] [] (fun a w h=>?_)
 refine wp_ret ?_
 refine ret_slot h 2 rfl (lk rfl) (Value.bool (decide ((y)*(y)=(((x)*((x)*(x)))-(tmN (x) 3))+(wb)))) rfl ?_
 exact ⟨rfl,h.grows⟩
theorem on_tm (x y:Fin m0):(y*y=x*(x*x)-tmN x 3+wb)=(y*y=x*x*x-3*x+wb):=by
 rw [tm3,show x*(x*x)-(x+x+x)+wb=x*x*x-3*x+wb by grobner]
def rp (X Y:Int) (t:Bool):Wp m0:=if t=false∧X<md 0∧Y<md 0∧kc Y*kc Y=kc X*kc X*kc X-3*kc X+wb then some (kc X,kc Y) else none
theorem rp_on (X Y:Int) (t:Bool):(rp X Y t).on wb:=by
 unfold rp
 split
 ·rename_i h;exact h.2.2.2
 ·trivial
theorem nc_kc {X:Int} (h0:0≤X) (h:X<md 0):nc X=fc (kc X):=by
 rw [fc,kc_val,← md_m0,Int.emod_eq_of_lt h0 h]
def rc (X Y:Int) (t:Bool):List Value:=nc X++nc Y++[Value.bool t]
def fmd (X Y:Int) (t:Bool):Bool:=if t=true then decide (X=0∧Y=0) else decide (X<md 0∧Y<md 0∧(kc Y:Fin m0)*kc Y=kc X*kc X*kc X-3*kc X+wb)
theorem r_Formed {w:World} (hT:Tab w) {X Y:Int} (hX:Num X) (hY:Num Y) (t:Bool):Calls Tryz.prog 48 [.agg (rc X Y t).toArray].toArray w fun e w'=>e=.returned (.bool (fmd X Y t))∧Below w.heap.size w w':=by
 cases t with
 | true=>exact r_formed_none hX hY
 | false =>
  rw [show fmd X Y false=decide (X<md 0∧Y<md 0∧(kc Y:Fin m0)*kc Y=kc X*kc X*kc X-3*kc X+wb) from rfl]
  by_cases h1:X<md 0
  ·by_cases h2:Y<md 0
   ·have e1:=nc_kc hX.lo h1
    have e2:=nc_kc hY.lo h2
    have h:=r_formed_at hT (kc X) (kc Y)
    rw [rc,e1,e2]
    have e3:decide (X<md 0∧Y<md 0∧(kc Y:Fin m0)*kc Y=kc X*kc X*kc X-3*kc X+wb)=decide ((kc Y:Fin m0)*kc Y=kc X*(kc X*kc X)-tmN (kc X) 3+wb):=by
     have:(X<md 0∧Y<md 0∧(kc Y:Fin m0)*kc Y=kc X*kc X*kc X-3*kc X+wb)=((kc Y:Fin m0)*kc Y=kc X*(kc X*kc X)-tmN (kc X) 3+wb):=by
      rw [on_tm]
      exact propext ⟨fun h=>h.2.2,fun h=>⟨h1,h2,h⟩⟩
     simp only [this]
    rw [e3]
    exact h
   ·rw [decide_eq_false (fun h=>h2 h.2.1)]
    exact r_formed_y hX (decide_eq_true h1) hY (decide_eq_false h2)
  ·rw [decide_eq_false (fun h=>h1 h.1)]
   exact r_formed_x hX (decide_eq_false h1)
theorem rp_pc {a:Wp m0} (h:a.on wb):rp ((px a).val:Int) ((py a).val:Int) a.isNone=a:=by
 cases a with
 | none=>exact if_neg (fun h=>by cases h.1)
 | some q =>
  obtain ⟨x,y⟩:=q
  have hc:y*y=x*x*x-3*x+wb:=h
  have e:rp (x.val:Int) (y.val:Int) false=some (kc (x.val:Int),kc (y.val:Int)):=if_pos ⟨rfl,of_decide_eq_true (fin_lt x),of_decide_eq_true (fin_lt y),by rw [kc_self,kc_self];exact hc⟩
  rw [kc_self,kc_self] at e
  exact e
theorem bPc (a b c d e f g h:Int):Tryz.prog.built 44 [(0,.agg ([Value.int .u64 a]++[Value.int .u64 b]++[Value.int .u64 c]++[Value.int .u64 d]).toArray),(1,.agg ([Value.int .u64 e]++[Value.int .u64 f]++[Value.int .u64 g]++[Value.int .u64 h]).toArray)]=some ([Value.int .u64 a]++[Value.int .u64 b]++[Value.int .u64 c]++[Value.int .u64 d]++[Value.int .u64 e]++[Value.int .u64 f]++[Value.int .u64 g]++[Value.int .u64 h]++[Value.bool false]).toArray:=by kernel_rfl
theorem pc_G:pc wG=[Value.int .u64 17627433388654248598]++[Value.int .u64 8575836109218198432]++[Value.int .u64 17923454489921339634]++[Value.int .u64 7716867327612699207]++[Value.int .u64 14678990851816772085]++[Value.int .u64 3156516839386865358]++[Value.int .u64 10297457778147434006]++[Value.int .u64 5756518291402817435]++[Value.bool false]:=by kernel_rfl
theorem r_Base {w:World} :Calls Tryz.prog 24 [].toArray w fun e w'=>e=.returned (.agg (pc wG).toArray)∧Below w.heap.size w w':=by
 refine enter (args:=[]) Tryz.func24 rfl 4 rfl (lk rfl) (fun a h=>?_)
 refine aX h [] [eN 0 _] ⟨rfl,T0⟩ [(0,.ptr 0 0)] [(0,nz++nz++[Value.bool false])] (fun a w h=>?_)
 refine aX h [0,1,2] [eS 1 (.val (.agg ([(Value.int IntKind.u64 17627433388654248598)]++[(Value.int IntKind.u64 8575836109218198432)]++[(Value.int IntKind.u64 17923454489921339634)]++[(Value.int IntKind.u64 7716867327612699207)]).toArray)),eS 2 (.val (.agg ([(Value.int IntKind.u64 14678990851816772085)]++[(Value.int IntKind.u64 3156516839386865358)]++[(Value.int IntKind.u64 10297457778147434006)]++[(Value.int IntKind.u64 5756518291402817435)]).toArray)),eS 3 (.val (.agg ([(Value.int IntKind.u64 17627433388654248598)]++[(Value.int IntKind.u64 8575836109218198432)]++[(Value.int IntKind.u64 17923454489921339634)]++[(Value.int IntKind.u64 7716867327612699207)]++[(Value.int IntKind.u64 14678990851816772085)]++[(Value.int IntKind.u64 3156516839386865358)]++[(Value.int IntKind.u64 10297457778147434006)]++[(Value.int IntKind.u64 5756518291402817435)]++[Value.bool false]).toArray)),eM 0 _] ⟨fun L u=>u_build u (gd0 rfl) 1 rfl 24 #[(0,(.const (.int .u64 17627433388654248598))),(1,(.const (.int .u64 8575836109218198432))),(2,(.const (.int .u64 17923454489921339634))),(3,(.const (.int .u64 7716867327612699207)))] rfl [(0,(Value.int IntKind.u64 17627433388654248598)),(1,(Value.int IntKind.u64 8575836109218198432)),(2,(Value.int IntKind.u64 17923454489921339634)),(3,(Value.int IntKind.u64 7716867327612699207))] rfl ([(Value.int IntKind.u64 17627433388654248598)]++[(Value.int IntKind.u64 8575836109218198432)]++[(Value.int IntKind.u64 17923454489921339634)]++[(Value.int IntKind.u64 7716867327612699207)]) (bN4 _ _ _ _),fun L u=>u_build u (gd0 rfl) 2 rfl 24 #[(0,(.const (.int .u64 14678990851816772085))),(1,(.const (.int .u64 3156516839386865358))),(2,(.const (.int .u64 10297457778147434006))),(3,(.const (.int .u64 5756518291402817435)))] rfl [(0,(Value.int IntKind.u64 14678990851816772085)),(1,(Value.int IntKind.u64 3156516839386865358)),(2,(Value.int IntKind.u64 10297457778147434006)),(3,(Value.int IntKind.u64 5756518291402817435))] rfl ([(Value.int IntKind.u64 14678990851816772085)]++[(Value.int IntKind.u64 3156516839386865358)]++[(Value.int IntKind.u64 10297457778147434006)]++[(Value.int IntKind.u64 5756518291402817435)]) (bN4 _ _ _ _),fun L u=>u_build u (gd0 rfl) 3 rfl 44 #[(0,(.tmp 1)),(1,(.tmp 2))] rfl [(0,.agg ([(Value.int IntKind.u64 17627433388654248598)]++[(Value.int IntKind.u64 8575836109218198432)]++[(Value.int IntKind.u64 17923454489921339634)]++[(Value.int IntKind.u64 7716867327612699207)]).toArray),(1,.agg ([(Value.int IntKind.u64 14678990851816772085)]++[(Value.int IntKind.u64 3156516839386865358)]++[(Value.int IntKind.u64 10297457778147434006)]++[(Value.int IntKind.u64 5756518291402817435)]).toArray)] rfl ([(Value.int IntKind.u64 17627433388654248598)]++[(Value.int IntKind.u64 8575836109218198432)]++[(Value.int IntKind.u64 17923454489921339634)]++[(Value.int IntKind.u64 7716867327612699207)]++[(Value.int IntKind.u64 14678990851816772085)]++[(Value.int IntKind.u64 3156516839386865358)]++[(Value.int IntKind.u64 10297457778147434006)]++[(Value.int IntKind.u64 5756518291402817435)]++[Value.bool false]) (bPc _ _ _ _ _ _ _ _),rfl,T0⟩ [(0,_)] [(0,[(Value.int IntKind.u64 17627433388654248598)]++[(Value.int IntKind.u64 8575836109218198432)]++[(Value.int IntKind.u64 17923454489921339634)]++[(Value.int IntKind.u64 7716867327612699207)]++[(Value.int IntKind.u64 14678990851816772085)]++[(Value.int IntKind.u64 3156516839386865358)]++[(Value.int IntKind.u64 10297457778147434006)]++[(Value.int IntKind.u64 5756518291402817435)]++[Value.bool false])] (fun a w h=>?_)
 refine wp_ret ?_
 refine ret_row h 0 44 rfl (lk rfl) 0 rfl ([(Value.int IntKind.u64 17627433388654248598)]++[(Value.int IntKind.u64 8575836109218198432)]++[(Value.int IntKind.u64 17923454489921339634)]++[(Value.int IntKind.u64 7716867327612699207)]++[(Value.int IntKind.u64 14678990851816772085)]++[(Value.int IntKind.u64 3156516839386865358)]++[(Value.int IntKind.u64 10297457778147434006)]++[(Value.int IntKind.u64 5756518291402817435)]++[Value.bool false]) rfl _ Tryz.underlying44 rfl i44 ?_
 exact ⟨by rw [pc_G],h.grows⟩
end Go.Proofs.YtmigakanbeckpaaGreatDoor
namespace Go.Proofs.YtmigakanbeckpaaGreatDoor
set_option maxRecDepth 100000
def wm (k:Nat) (P:P3 (Fin m0)):Nat→P3 (Fin m0)
 | 0=>⟨0,1,0⟩
 | n+1=>if k / 2 ^ (255-n) % 2=1 then wa wb (wa wb (wm k P n) (wm k P n)) P else wa wb (wm k P n) (wm k P n)
theorem o_on:On wb (⟨0,1,0⟩:P3 (Fin m0)):=on_lift wk0 (a:=Wp.o) trivial
theorem nm_o:nm fiv (⟨0,1,0⟩:P3 (Fin m0))=Wp.o:=nm_lift fld0 Wp.o
theorem wa_nm {P Q:P3 (Fin m0)} (hP:On wb P) (hQ:On wb Q):nm fiv (wa wb P Q)=wplus (nm fiv P) (nm fiv Q):=nm_wa wk0 hP hQ
theorem wm_on {k:Nat} {P:P3 (Fin m0)} (hP:On wb P):∀ n,On wb (wm k P n)
 | 0=>o_on
 | n+1=>by
  have ih:=wm_on (k:=k) hP n
  have hd:=on_wa wk0 ih ih
  by_cases hb:k / 2 ^ (255-n) % 2=1
  ·rw [show wm k P (n+1)=wa wb (wa wb (wm k P n) (wm k P n)) P from if_pos hb]
   exact on_wa wk0 hd hP
  ·rw [show wm k P (n+1)=wa wb (wm k P n) (wm k P n) from if_neg hb]
   exact hd
theorem wm_mt {k:Nat} {P:P3 (Fin m0)} (hP:On wb P):∀ n,n≤256→nm fiv (wm k P n)=mt wplus Wp.o (nm fiv P) (k / 2 ^ (256-n) % 2 ^ n)
 | 0,_=>by
  rw [show k / 2 ^ (256-0) % 2 ^ 0=0 by rw [Nat.pow_zero,Nat.mod_one]]
  exact nm_o
 | n+1,hn=>by
  have ih:=wm_mt (k:=k) hP n (by omega)
  have hon:=wm_on (k:=k) hP n
  have ho:=on_nm wk0 hP
  have e1:k / 2 ^ (256-(n+1)) % 2 ^ (n+1)=2*(k / 2 ^ (256-n) % 2 ^ n)+k / 2 ^ (255-n) % 2:=by
   rw [show 256-(n+1)=255-n by omega]
   have e2:k / 2 ^ (256-n)=k / 2 ^ (255-n) / 2:=by
    rw [Nat.div_div_eq_div_mul,← Nat.pow_succ]
    congr 2
    omega
   rw [e2]
   generalize k / 2 ^ (255-n)=m
   rw [Nat.pow_succ,Nat.mul_comm (2 ^ n) 2,Nat.mod_mul]
   omega
  have hd:=wa_nm hon hon
  rw [e1]
  by_cases hb:k / 2 ^ (255-n) % 2=1
  ·rw [show wm k P (n+1)=wa wb (wa wb (wm k P n) (wm k P n)) P from if_pos hb,wa_nm (on_wa wk0 hon hon) hP,hd,hb,ih]
   show _=wplus (mt wplus Wp.o (nm fiv P) (2*(k / 2 ^ (256-n) % 2 ^ n))) (nm fiv P)
   rw [mt_two wgr ho]
  ·rw [show wm k P (n+1)=wa wb (wm k P n) (wm k P n) from if_neg hb,hd,ih,show k / 2 ^ (255-n) % 2=0 by omega,Nat.add_zero,mt_two wgr ho]
theorem wm_all {k:Nat} (hk:k<2 ^ 256) {P:P3 (Fin m0)} (hP:On wb P):nm fiv (wm k P 256)=mt wplus Wp.o (nm fiv P) k:=by
 rw [wm_mt hP 256 (Nat.le_refl _),Nat.sub_self,Nat.pow_zero,Nat.div_one,Nat.mod_eq_of_lt hk]
end Go.Proofs.YtmigakanbeckpaaGreatDoor
namespace Go.Proofs.YtmigakanbeckpaaGreatDoor
set_option maxRecDepth 100000
open Go.RowKit
theorem i96:(Tryz.prog.info? 96).map (·.size)=some 12:=by kernel_rfl
theorem bN1:Tryz.prog.built 24 [(0,.int .u64 1)]=some (fc 1).toArray:=by kernel_rfl
theorem bN1x {one:Fin m0} (h:one=1):Tryz.prog.built 24 [(0,.int .u64 1)]=some (fc one).toArray:=by rw [h];exact bN1
theorem l_none:jc (Wp.lift (none:Wp m0))=fc 0++fc 1++fc 0:=rfl
theorem l_some (x y:Fin m0):jc (Wp.lift (some (x,y)))=fc x++fc y++fc 1:=rfl
theorem bQ1 (y:Fin m0):Tryz.prog.built 96 [(1,.agg (fc y).toArray)]=some (nz++fc y++nz).toArray:=by kernel_rfl
theorem bQ3 (x y z:Fin m0):Tryz.prog.built 96 [(0,.agg (fc x).toArray),(1,.agg (fc y).toArray),(2,.agg (fc z).toArray)]=some (fc x++fc y++fc z).toArray:=by kernel_rfl
theorem Tab.wb {w:World} (h:Tab w):w.rangeAt 0 0 (fc wb):=by
 rw [fc_wb]
 intro j v hj
 match j,hj with
 | 0,hj=>cases hj;exact h.cb0
 | 1,hj=>cases hj;exact h.cb1
 | 2,hj=>cases hj;exact h.cb2
 | 3,hj=>cases hj;exact h.cb3
 | j+4,hj=>cases hj
theorem cE123 (vs:List Value):∀ w,(callFunc 123 vs.toArray).run Tryz.prog w=.ok (.enter 123 vs.toArray) w:=callFunc_enter Tryz.func123 (by kernel_rfl) (by kernel_rfl) _
theorem cE124 (vs:List Value):∀ w,(callFunc 124 vs.toArray).run Tryz.prog w=.ok (.enter 124 vs.toArray) w:=callFunc_enter Tryz.func124 (by kernel_rfl) (by kernel_rfl) _
theorem cE90 (vs:List Value):∀ w,(callFunc 90 vs.toArray).run Tryz.prog w=.ok (.enter 90 vs.toArray) w:=callFunc_enter Tryz.func90 (by kernel_rfl) (by kernel_rfl) _
theorem cE125 (vs:List Value):∀ w,(callFunc 125 vs.toArray).run Tryz.prog w=.ok (.enter 125 vs.toArray) w:=callFunc_enter Tryz.func125 (by kernel_rfl) (by kernel_rfl) _
theorem cE139 (vs:List Value):∀ w,(callFunc 139 vs.toArray).run Tryz.prog w=.ok (.enter 139 vs.toArray) w:=callFunc_enter Tryz.func139 (by kernel_rfl) (by kernel_rfl) _
theorem cE91 (vs:List Value):∀ w,(callFunc 91 vs.toArray).run Tryz.prog w=.ok (.enter 91 vs.toArray) w:=callFunc_enter Tryz.func91 (by kernel_rfl) (by kernel_rfl) _
theorem cE69 (vs:List Value):∀ w,(callFunc 69 vs.toArray).run Tryz.prog w=.ok (.enter 69 vs.toArray) w:=callFunc_enter Tryz.func69 (by kernel_rfl) (by kernel_rfl) _
theorem cE95 (vs:List Value):∀ w,(callFunc 95 vs.toArray).run Tryz.prog w=.ok (.enter 95 vs.toArray) w:=callFunc_enter Tryz.func95 (by kernel_rfl) (by kernel_rfl) _
theorem cE93 (vs:List Value):∀ w,(callFunc 93 vs.toArray).run Tryz.prog w=.ok (.enter 93 vs.toArray) w:=callFunc_enter Tryz.func93 (by kernel_rfl) (by kernel_rfl) _
theorem cE114 (vs:List Value):∀ w,(callFunc 114 vs.toArray).run Tryz.prog w=.ok (.enter 114 vs.toArray) w:=callFunc_enter Tryz.func114 (by kernel_rfl) (by kernel_rfl) _
theorem cE94 (vs:List Value):∀ w,(callFunc 94 vs.toArray).run Tryz.prog w=.ok (.enter 94 vs.toArray) w:=callFunc_enter Tryz.func94 (by kernel_rfl) (by kernel_rfl) _
theorem cE51 (vs:List Value):∀ w,(callFunc 51 vs.toArray).run Tryz.prog w=.ok (.enter 51 vs.toArray) w:=callFunc_enter Tryz.func51 (by kernel_rfl) (by kernel_rfl) _
theorem cE50 (vs:List Value):∀ w,(callFunc 50 vs.toArray).run Tryz.prog w=.ok (.enter 50 vs.toArray) w:=callFunc_enter Tryz.func50 (by kernel_rfl) (by kernel_rfl) _
theorem cE126 (vs:List Value):∀ w,(callFunc 126 vs.toArray).run Tryz.prog w=.ok (.enter 126 vs.toArray) w:=callFunc_enter Tryz.func126 (by kernel_rfl) (by kernel_rfl) _
theorem q_add {w:World} (hT:Tab w) (x y:Fin m0):Calls Tryz.prog 123 [.agg (fc (x)).toArray,.agg (fc (y)).toArray].toArray w fun e w'=>e=.returned (.agg (fc (x+y)).toArray)∧Below w.heap.size w w':=by
 refine enter (args:=[.agg (fc (x)).toArray,.agg (fc (y)).toArray]) Tryz.func123 rfl 8 rfl (lk rfl) (fun a h=>?_)
 refine aX h [] [eN 2 _,eN 3 _,eN 4 _] ⟨rfl,rfl,rfl,T0⟩ [(2,.ptr 2 0),(3,.ptr 3 0),(4,.ptr 4 0)] [(2,fc (x)),(3,fc (y)),(4,nz)] (fun a w h=>?_)
 refine aX h [2] [eS 5 _,eS 6 _,eS 7 _,eM 4 _] ⟨rfl,rfl,fun L u=>u_call u (gd0 rfl) _ rfl _ _ _ rfl [_,_,_] rfl (cE79 _) _ (fun w hb=>c_add (hT.keep (Bs.kp_of hb)) _ _),rfl,T0⟩ [(4,_)] [(4,fc ((x)+(y)))] (fun a w h=>?_)
 refine wp_ret ?_
 refine ret_row h 4 24 rfl (lk rfl) 4 rfl (fc ((x)+(y))) rfl _ Tryz.underlying24 rfl i24 ?_
 exact ⟨rfl,h.grows⟩
theorem q_sub {w:World} (hT:Tab w) (x y:Fin m0):Calls Tryz.prog 124 [.agg (fc (x)).toArray,.agg (fc (y)).toArray].toArray w fun e w'=>e=.returned (.agg (fc (x-y)).toArray)∧Below w.heap.size w w':=by
 refine enter (args:=[.agg (fc (x)).toArray,.agg (fc (y)).toArray]) Tryz.func124 rfl 8 rfl (lk rfl) (fun a h=>?_)
 refine aX h [] [eN 2 _,eN 3 _,eN 4 _] ⟨rfl,rfl,rfl,T0⟩ [(2,.ptr 2 0),(3,.ptr 3 0),(4,.ptr 4 0)] [(2,fc (x)),(3,fc (y)),(4,nz)] (fun a w h=>?_)
 refine aX h [2] [eS 5 _,eS 6 _,eS 7 _,eM 4 _] ⟨rfl,rfl,fun L u=>u_call u (gd0 rfl) _ rfl _ _ _ rfl [_,_,_] rfl (cE122 _) _ (fun w hb=>c_sub (hT.keep (Bs.kp_of hb)) _ _),rfl,T0⟩ [(4,_)] [(4,fc ((x)-(y)))] (fun a w h=>?_)
 refine wp_ret ?_
 refine ret_row h 4 24 rfl (lk rfl) 4 rfl (fc ((x)-(y))) rfl _ Tryz.underlying24 rfl i24 ?_
 exact ⟨rfl,h.grows⟩
theorem q_mul {w:World} (hT:Tab w) (x y:Fin m0):Calls Tryz.prog 90 [.agg (fc (x)).toArray,.agg (fc (y)).toArray].toArray w fun e w'=>e=.returned (.agg (fc (x*y)).toArray)∧Below w.heap.size w w':=by
 refine enter (args:=[.agg (fc (x)).toArray,.agg (fc (y)).toArray]) Tryz.func90 rfl 8 rfl (lk rfl) (fun a h=>?_)
 refine aX h [] [eN 2 _,eN 3 _,eN 4 _] ⟨rfl,rfl,rfl,T0⟩ [(2,.ptr 2 0),(3,.ptr 3 0),(4,.ptr 4 0)] [(2,fc (x)),(3,fc (y)),(4,nz)] (fun a w h=>?_)
 refine aX h [2] [eS 5 _,eS 6 _,eS 7 _,eM 4 _] ⟨rfl,rfl,fun L u=>u_call u (gd0 rfl) _ rfl _ _ _ rfl [_,_,_] rfl (cE78 _) _ (fun w hb=>c_mul (hT.keep (Bs.kp_of hb)) _ _),rfl,T0⟩ [(4,_)] [(4,fc ((x)*(y)))] (fun a w h=>?_)
 refine wp_ret ?_
 refine ret_row h 4 24 rfl (lk rfl) 4 rfl (fc ((x)*(y))) rfl _ Tryz.underlying24 rfl i24 ?_
 exact ⟨rfl,h.grows⟩
theorem q_triple {w:World} (hT:Tab w) (x:Fin m0):Calls Tryz.prog 125 [.agg (fc (x)).toArray].toArray w fun e w'=>e=.returned (.agg (fc (x+x+x)).toArray)∧Below w.heap.size w w':=by
 obtain ⟨v1,ev1⟩:∃ z,z=x+x:=⟨_,rfl⟩
 obtain ⟨v2,ev2⟩:∃ z,z=v1+x:=⟨_,rfl⟩
 refine enter (args:=[.agg (fc (x)).toArray]) Tryz.func125 rfl 8 rfl (lk rfl) (fun a h=>?_)
 refine aX h [] [eN 1 _,eN 2 _] ⟨rfl,rfl,T0⟩ [(1,.ptr 1 0),(2,.ptr 2 0)] [(1,fc (x)),(2,nz)] (fun a w h=>?_)
 refine aX h [2,4] [eS 3 _,eS 4 _,eS 5 (.val (.agg (fc (v1)).toArray)),eS 6 _,eS 7 (.val (.agg (fc (v2)).toArray)),eM 2 _] ⟨rfl,rfl,fun L u=>u_call u (gd0 rfl) _ rfl _ _ _ rfl [_,_] rfl (cE123 _) (.agg (fc (v1)).toArray) (fun w hb=>by have g:=q_add (hT.keep (Bs.kp_of hb)) x x;rw [← ev1] at g;exact g),rfl,fun L u=>u_call u (gd0 rfl) _ rfl _ _ _ rfl [_,_] rfl (cE123 _) (.agg (fc (v2)).toArray) (fun w hb=>by have g:=q_add (hT.keep (Bs.kp_of hb)) v1 x;rw [← ev2] at g;exact g),rfl,T0⟩ [(2,_)] [(2,fc (v2))] (fun a w h=>?_)
 refine wp_ret ?_
 refine ret_row h 2 24 rfl (lk rfl) 2 rfl (fc (v2)) rfl _ Tryz.underlying24 rfl i24 ?_
 exact ⟨by rw [ev2,ev1],h.grows⟩
theorem q_cross {w:World} (hT:Tab w) (x1 x2 x3 x4:Fin m0):Calls Tryz.prog 139 [.agg (fc (x1)).toArray,.agg (fc (x2)).toArray,.agg (fc (x3)).toArray,.agg (fc (x4)).toArray].toArray w fun e w'=>e=.returned (.agg (fc (x1*x2+x3*x4)).toArray)∧Below w.heap.size w w':=by
 obtain ⟨v1,ev1⟩:∃ z,z=x1*x2:=⟨_,rfl⟩
 obtain ⟨v2,ev2⟩:∃ z,z=x3*x4:=⟨_,rfl⟩
 obtain ⟨v3,ev3⟩:∃ z,z=v1+v2:=⟨_,rfl⟩
 refine enter (args:=[.agg (fc (x1)).toArray,.agg (fc (x2)).toArray,.agg (fc (x3)).toArray,.agg (fc (x4)).toArray]) Tryz.func139 rfl 16 rfl (lk rfl) (fun a h=>?_)
 refine aX h [] [eN 4 _,eN 5 _,eN 6 _,eN 7 _,eN 8 _] ⟨rfl,rfl,rfl,rfl,rfl,T0⟩ [(4,.ptr 4 0),(5,.ptr 5 0),(6,.ptr 6 0),(7,.ptr 7 0),(8,.ptr 8 0)] [(4,fc (x1)),(5,fc (x2)),(6,fc (x3)),(7,fc (x4)),(8,nz)] (fun a w h=>?_)
 refine aX h [2,5,6] [eS 9 _,eS 10 _,eS 11 (.val (.agg (fc (v1)).toArray)),eS 12 _,eS 13 _,eS 14 (.val (.agg (fc (v2)).toArray)),eS 15 (.val (.agg (fc (v3)).toArray)),eM 8 _] ⟨rfl,rfl,fun L u=>u_call u (gd0 rfl) _ rfl _ _ _ rfl [_,_] rfl (cE90 _) (.agg (fc (v1)).toArray) (fun w hb=>by have g:=q_mul (hT.keep (Bs.kp_of hb)) x1 x2;rw [← ev1] at g;exact g),rfl,rfl,fun L u=>u_call u (gd0 rfl) _ rfl _ _ _ rfl [_,_] rfl (cE90 _) (.agg (fc (v2)).toArray) (fun w hb=>by have g:=q_mul (hT.keep (Bs.kp_of hb)) x3 x4;rw [← ev2] at g;exact g),fun L u=>u_call u (gd0 rfl) _ rfl _ _ _ rfl [_,_] rfl (cE123 _) (.agg (fc (v3)).toArray) (fun w hb=>by have g:=q_add (hT.keep (Bs.kp_of hb)) v1 v2;rw [← ev3] at g;exact g),rfl,T0⟩ [(8,_)] [(8,fc (v3))] (fun a w h=>?_)
 refine wp_ret ?_
 refine ret_row h 8 24 rfl (lk rfl) 8 rfl (fc (v3)) rfl _ Tryz.underlying24 rfl i24 ?_
 exact ⟨by rw [ev3,ev2,ev1],h.grows⟩
theorem q_right {w:World} (hT:Tab w) (x:Fin m0):Calls Tryz.prog 91 [.agg (fc (x)).toArray].toArray w fun e w'=>e=.returned (.agg (fc (x*x*x-(x+x+x)+wb)).toArray)∧Below w.heap.size w w':=by
 obtain ⟨v1,ev1⟩:∃ z,z=x*x:=⟨_,rfl⟩
 obtain ⟨v2,ev2⟩:∃ z,z=v1*x:=⟨_,rfl⟩
 obtain ⟨v3,ev3⟩:∃ z,z=x+x+x:=⟨_,rfl⟩
 obtain ⟨v4,ev4⟩:∃ z,z=v2-v3:=⟨_,rfl⟩
 obtain ⟨v5,ev5⟩:∃ z,z=v4+wb:=⟨_,rfl⟩
 refine enter (args:=[.agg (fc (x)).toArray]) Tryz.func91 rfl 13 rfl (lk rfl) (fun a h=>?_)
 refine aX h [] [eN 1 _,eN 2 _] ⟨rfl,rfl,T0⟩ [(1,.ptr 1 0),(2,.ptr 2 0)] [(1,fc (x)),(2,nz)] (fun a w h=>?_)
 refine aX h [2,4,6,7,8,9] [eS 3 _,eS 4 _,eS 5 (.val (.agg (fc (v1)).toArray)),eS 6 _,eS 7 (.val (.agg (fc (v2)).toArray)),eS 8 _,eS 9 (.val (.agg (fc (v3)).toArray)),eS 10 (.val (.agg (fc (v4)).toArray)),eS 11 (.val (.agg (fc (wb)).toArray)),eS 12 (.val (.agg (fc (v5)).toArray)),eM 2 _] ⟨rfl,rfl,fun L u=>u_call u (gd0 rfl) _ rfl _ _ _ rfl [_,_] rfl (cE90 _) (.agg (fc (v1)).toArray) (fun w hb=>by have g:=q_mul (hT.keep (Bs.kp_of hb)) x x;rw [← ev1] at g;exact g),rfl,fun L u=>u_call u (gd0 rfl) _ rfl _ _ _ rfl [_,_] rfl (cE90 _) (.agg (fc (v2)).toArray) (fun w hb=>by have g:=q_mul (hT.keep (Bs.kp_of hb)) v1 x;rw [← ev2] at g;exact g),rfl,fun L u=>u_call u (gd0 rfl) _ rfl _ _ _ rfl [_] rfl (cE125 _) (.agg (fc (v3)).toArray) (fun w hb=>by have g:=q_triple (hT.keep (Bs.kp_of hb)) x;rw [← ev3] at g;exact g),fun L u=>u_call u (gd0 rfl) _ rfl _ _ _ rfl [_,_] rfl (cE124 _) (.agg (fc (v4)).toArray) (fun w hb=>by have g:=q_sub (hT.keep (Bs.kp_of hb)) v2 v3;rw [← ev4] at g;exact g),fun L u=>u_loadXR u (gd0 rfl) 11 rfl 24 (.global 0) rfl rfl Tryz.underlying24 rfl (fc (wb)) i24 rfl (hT.wb) rfl,fun L u=>u_call u (gd0 rfl) _ rfl _ _ _ rfl [_,_] rfl (cE123 _) (.agg (fc (v5)).toArray) (fun w hb=>by have g:=q_add (hT.keep (Bs.kp_of hb)) v4 wb;rw [← ev5] at g;exact g),rfl,T0⟩ [(2,_)] [(2,fc (v5))] (fun a w h=>?_)
 refine wp_ret ?_
 refine ret_row h 2 24 rfl (lk rfl) 2 rfl (fc (v5)) rfl _ Tryz.underlying24 rfl i24 ?_
 exact ⟨by rw [ev5,ev4,ev3,ev2,ev1],h.grows⟩
theorem q_neutral {w:World} :Calls Tryz.prog 69 [].toArray w fun e w'=>e=.returned (.agg (nz++nz++[Value.bool true]).toArray)∧Below w.heap.size w w':=by
 refine enter (args:=[]) Tryz.func69 rfl 2 rfl (lk rfl) (fun a h=>?_)
 refine aX h [] [eN 0 _] ⟨rfl,T0⟩ [(0,.ptr 0 0)] [(0,nz++nz++[Value.bool false])] (fun a w h=>?_)
 refine aX h [0] [eS 1 (.val (.agg (nz++nz++[Value.bool true]).toArray)),eM 0 _] ⟨fun L u=>u_build u (gd0 rfl) 1 rfl 44 #[(2,(.const (.bool true)))] rfl [(2,Value.bool true)] rfl (nz++nz++[Value.bool true]) (bP1),rfl,T0⟩ [(0,_)] [(0,nz++nz++[Value.bool true])] (fun a w h=>?_)
 refine wp_ret ?_
 refine ret_row h 0 44 rfl (lk rfl) 0 rfl (nz++nz++[Value.bool true]) rfl _ Tryz.underlying44 rfl i44 ?_
 exact ⟨rfl,h.grows⟩
theorem plus_poly {p:Nat} [NeZero p] (b x1 y1 z1 x2 y2 z2:Fin p) {v1:Fin p} (ev1:v1=x1*x2) {v2:Fin p} (ev2:v2=y1*y2) {v3:Fin p} (ev3:v3=z1*z2) {v4:Fin p} (ev4:v4=x1*y2+x2*y1) {v5:Fin p} (ev5:v5=x1*z2+x2*z1) {v6:Fin p} (ev6:v6=y1*z2+y2*z1) {v7:Fin p} (ev7:v7=b*v3) {v8:Fin p} (ev8:v8=v5-v7) {v9:Fin p} (ev9:v9=v8+v8+v8) {v10:Fin p} (ev10:v10=v2+v9) {v11:Fin p} (ev11:v11=v2-v9) {v12:Fin p} (ev12:v12=v1-v3) {v13:Fin p} (ev13:v13=v12+v12+v12) {v14:Fin p} (ev14:v14=b*v5) {v15:Fin p} (ev15:v15=v3+v3+v3) {v16:Fin p} (ev16:v16=v14-v15) {v17:Fin p} (ev17:v17=v16-v1) {v18:Fin p} (ev18:v18=v17+v17+v17) {v19:Fin p} (ev19:v19=v4*v10) {v20:Fin p} (ev20:v20=v6*v18) {v21:Fin p} (ev21:v21=v19-v20) {v22:Fin p} (ev22:v22=v10*v11+v13*v18) {v23:Fin p} (ev23:v23=v6*v11+v4*v13):(⟨v21,v22,v23⟩:P3 (Fin p))=wa b ⟨x1,y1,z1⟩ ⟨x2,y2,z2⟩:=by
 subst ev1 ev2 ev3 ev4 ev5 ev6 ev7 ev8 ev9 ev10 ev11 ev12 ev13 ev14 ev15 ev16 ev17 ev18 ev19 ev20 ev21 ev22 ev23
 rw [wa_eq]
 congr 1 <;> grobner
theorem q_plus {w:World} (hT:Tab w) (x1 y1 z1 x2 y2 z2:Fin m0):Calls Tryz.prog 114 [.agg (fc x1++fc y1++fc z1).toArray,.agg (fc x2++fc y2++fc z2).toArray].toArray w fun e w'=>e=.returned (.agg (jc (wa wb ⟨x1,y1,z1⟩ ⟨x2,y2,z2⟩)).toArray)∧Below w.heap.size w w':=by
 obtain ⟨v1,ev1⟩:∃ z,z=x1*x2:=⟨_,rfl⟩
 obtain ⟨v2,ev2⟩:∃ z,z=y1*y2:=⟨_,rfl⟩
 obtain ⟨v3,ev3⟩:∃ z,z=z1*z2:=⟨_,rfl⟩
 obtain ⟨v4,ev4⟩:∃ z,z=x1*y2+x2*y1:=⟨_,rfl⟩
 obtain ⟨v5,ev5⟩:∃ z,z=x1*z2+x2*z1:=⟨_,rfl⟩
 obtain ⟨v6,ev6⟩:∃ z,z=y1*z2+y2*z1:=⟨_,rfl⟩
 obtain ⟨v7,ev7⟩:∃ z,z=wb*v3:=⟨_,rfl⟩
 obtain ⟨v8,ev8⟩:∃ z,z=v5-v7:=⟨_,rfl⟩
 obtain ⟨v9,ev9⟩:∃ z,z=v8+v8+v8:=⟨_,rfl⟩
 obtain ⟨v10,ev10⟩:∃ z,z=v2+v9:=⟨_,rfl⟩
 obtain ⟨v11,ev11⟩:∃ z,z=v2-v9:=⟨_,rfl⟩
 obtain ⟨v12,ev12⟩:∃ z,z=v1-v3:=⟨_,rfl⟩
 obtain ⟨v13,ev13⟩:∃ z,z=v12+v12+v12:=⟨_,rfl⟩
 obtain ⟨v14,ev14⟩:∃ z,z=wb*v5:=⟨_,rfl⟩
 obtain ⟨v15,ev15⟩:∃ z,z=v3+v3+v3:=⟨_,rfl⟩
 obtain ⟨v16,ev16⟩:∃ z,z=v14-v15:=⟨_,rfl⟩
 obtain ⟨v17,ev17⟩:∃ z,z=v16-v1:=⟨_,rfl⟩
 obtain ⟨v18,ev18⟩:∃ z,z=v17+v17+v17:=⟨_,rfl⟩
 obtain ⟨v19,ev19⟩:∃ z,z=v4*v10:=⟨_,rfl⟩
 obtain ⟨v20,ev20⟩:∃ z,z=v6*v18:=⟨_,rfl⟩
 obtain ⟨v21,ev21⟩:∃ z,z=v19-v20:=⟨_,rfl⟩
 obtain ⟨v22,ev22⟩:∃ z,z=v10*v11+v13*v18:=⟨_,rfl⟩
 obtain ⟨v23,ev23⟩:∃ z,z=v6*v11+v4*v13:=⟨_,rfl⟩
 have hpp:=plus_poly wb x1 y1 z1 x2 y2 z2 ev1 ev2 ev3 ev4 ev5 ev6 ev7 ev8 ev9 ev10 ev11 ev12 ev13 ev14 ev15 ev16 ev17 ev18 ev19 ev20 ev21 ev22 ev23
 refine enter (args:=[.agg (fc (x1)++fc (y1)++fc (z1)).toArray,.agg (fc (x2)++fc (y2)++fc (z2)).toArray]) Tryz.func114 rfl 101 rfl (lk rfl) (fun a h=>?_)
 refine aX h [] [eN 2 _,eN 3 _,eN 4 _] ⟨rfl,rfl,rfl,T0⟩ [(2,.ptr 2 0),(3,.ptr 3 0),(4,.ptr 4 0)] [(2,fc (x1)++fc (y1)++fc (z1)),(3,fc (x2)++fc (y2)++fc (z2)),(4,nz++nz++nz)] (fun a w h=>?_)
 refine aX h [4,9,14] [eS 16 _,eS 17 _,eS 18 _,eS 19 _,eS 20 (.val (.agg (fc (v1)).toArray)),eS 21 _,eS 22 _,eS 23 _,eS 24 _,eS 25 (.val (.agg (fc (v2)).toArray)),eS 26 _,eS 27 _,eS 28 _,eS 29 _,eS 30 (.val (.agg (fc (v3)).toArray)),eN 5 _,eN 6 _,eN 7 _,eM 5 _,eM 6 _,eM 7 _] ⟨rfl,rfl,rfl,rfl,fun L u=>u_call u (gd0 rfl) _ rfl _ _ _ rfl [_,_] rfl (cE90 _) (.agg (fc (v1)).toArray) (fun w hb=>by have g:=q_mul (hT.keep (Bs.kp_of hb)) x1 x2;rw [← ev1] at g;exact g),rfl,rfl,rfl,rfl,fun L u=>u_call u (gd0 rfl) _ rfl _ _ _ rfl [_,_] rfl (cE90 _) (.agg (fc (v2)).toArray) (fun w hb=>by have g:=q_mul (hT.keep (Bs.kp_of hb)) y1 y2;rw [← ev2] at g;exact g),rfl,rfl,rfl,rfl,fun L u=>u_call u (gd0 rfl) _ rfl _ _ _ rfl [_,_] rfl (cE90 _) (.agg (fc (v3)).toArray) (fun w hb=>by have g:=q_mul (hT.keep (Bs.kp_of hb)) z1 z2;rw [← ev3] at g;exact g),rfl,rfl,rfl,rfl,rfl,rfl,T0⟩ [(2,_),(3,_),(4,_),(5,.ptr 5 0),(6,.ptr 6 0),(7,.ptr 7 0)] [(2,_),(3,_),(4,_),(5,fc (v1)),(6,fc (v2)),(7,fc (v3))] (fun a w h=>?_)
 refine aX h [8] [eS 31 _,eS 32 _,eS 33 _,eS 34 _,eS 35 _,eS 36 _,eS 37 _,eS 38 _,eS 39 (.val (.agg (fc (v4)).toArray)),eN 8 _,eM 8 _] ⟨rfl,rfl,rfl,rfl,rfl,rfl,rfl,rfl,fun L u=>u_call u (gd0 rfl) _ rfl _ _ _ rfl [_,_,_,_] rfl (cE139 _) (.agg (fc (v4)).toArray) (fun w hb=>by have g:=q_cross (hT.keep (Bs.kp_of hb)) x1 y2 x2 y1;rw [← ev4] at g;exact g),rfl,rfl,T0⟩ [(2,_),(3,_),(4,_),(5,_),(6,_),(7,_),(8,.ptr 8 0)] [(2,_),(3,_),(4,_),(5,_),(6,_),(7,_),(8,fc (v4))] (fun a w h=>?_)
 refine aX h [8] [eS 40 _,eS 41 _,eS 42 _,eS 43 _,eS 44 _,eS 45 _,eS 46 _,eS 47 _,eS 48 (.val (.agg (fc (v5)).toArray)),eN 9 _,eM 9 _] ⟨rfl,rfl,rfl,rfl,rfl,rfl,rfl,rfl,fun L u=>u_call u (gd0 rfl) _ rfl _ _ _ rfl [_,_,_,_] rfl (cE139 _) (.agg (fc (v5)).toArray) (fun w hb=>by have g:=q_cross (hT.keep (Bs.kp_of hb)) x1 z2 x2 z1;rw [← ev5] at g;exact g),rfl,rfl,T0⟩ [(2,_),(3,_),(4,_),(5,_),(6,_),(7,_),(8,_),(9,.ptr 9 0)] [(2,_),(3,_),(4,_),(5,_),(6,_),(7,_),(8,_),(9,fc (v5))] (fun a w h=>?_)
 refine aX h [8] [eS 49 _,eS 50 _,eS 51 _,eS 52 _,eS 53 _,eS 54 _,eS 55 _,eS 56 _,eS 57 (.val (.agg (fc (v6)).toArray)),eN 10 _,eM 10 _] ⟨rfl,rfl,rfl,rfl,rfl,rfl,rfl,rfl,fun L u=>u_call u (gd0 rfl) _ rfl _ _ _ rfl [_,_,_,_] rfl (cE139 _) (.agg (fc (v6)).toArray) (fun w hb=>by have g:=q_cross (hT.keep (Bs.kp_of hb)) y1 z2 y2 z1;rw [← ev6] at g;exact g),rfl,rfl,T0⟩ [(4,_),(5,_),(6,_),(7,_),(8,_),(9,_),(10,.ptr 10 0)] [(4,_),(5,_),(6,_),(7,_),(8,_),(9,_),(10,fc (v6))] (fun a w h=>?_)
 refine aX h [1,3,4,5] [eS 58 _,eS 59 (.val (.agg (fc (wb)).toArray)),eS 60 _,eS 61 (.val (.agg (fc (v7)).toArray)),eS 62 (.val (.agg (fc (v8)).toArray)),eS 63 (.val (.agg (fc (v9)).toArray)),eN 11 _,eM 11 _] ⟨rfl,fun L u=>u_loadXR u (gd0 rfl) 59 rfl 24 (.global 0) rfl rfl Tryz.underlying24 rfl (fc (wb)) i24 rfl (hT.wb) rfl,rfl,fun L u=>u_call u (gd0 rfl) _ rfl _ _ _ rfl [_,_] rfl (cE90 _) (.agg (fc (v7)).toArray) (fun w hb=>by have g:=q_mul (hT.keep (Bs.kp_of hb)) wb v3;rw [← ev7] at g;exact g),fun L u=>u_call u (gd0 rfl) _ rfl _ _ _ rfl [_,_] rfl (cE124 _) (.agg (fc (v8)).toArray) (fun w hb=>by have g:=q_sub (hT.keep (Bs.kp_of hb)) v5 v7;rw [← ev8] at g;exact g),fun L u=>u_call u (gd0 rfl) _ rfl _ _ _ rfl [_] rfl (cE125 _) (.agg (fc (v9)).toArray) (fun w hb=>by have g:=q_triple (hT.keep (Bs.kp_of hb)) v8;rw [← ev9] at g;exact g),rfl,rfl,T0⟩ [(4,_),(5,_),(6,_),(7,_),(8,_),(9,_),(10,_),(11,.ptr 11 0)] [(4,_),(5,_),(6,_),(7,_),(8,_),(9,_),(10,_),(11,fc (v9))] (fun a w h=>?_)
 refine aX h [2,5] [eS 64 _,eS 65 _,eS 66 (.val (.agg (fc (v10)).toArray)),eS 67 _,eS 68 _,eS 69 (.val (.agg (fc (v11)).toArray)),eN 12 _,eN 13 _,eM 12 _,eM 13 _] ⟨rfl,rfl,fun L u=>u_call u (gd0 rfl) _ rfl _ _ _ rfl [_,_] rfl (cE123 _) (.agg (fc (v10)).toArray) (fun w hb=>by have g:=q_add (hT.keep (Bs.kp_of hb)) v2 v9;rw [← ev10] at g;exact g),rfl,rfl,fun L u=>u_call u (gd0 rfl) _ rfl _ _ _ rfl [_,_] rfl (cE124 _) (.agg (fc (v11)).toArray) (fun w hb=>by have g:=q_sub (hT.keep (Bs.kp_of hb)) v2 v9;rw [← ev11] at g;exact g),rfl,rfl,rfl,rfl,T0⟩ [(4,_),(5,_),(7,_),(8,_),(9,_),(10,_),(12,.ptr 12 0),(13,.ptr 13 0)] [(4,_),(5,_),(7,_),(8,_),(9,_),(10,_),(12,fc (v10)),(13,fc (v11))] (fun a w h=>?_)
 refine aX h [2,3] [eS 70 _,eS 71 _,eS 72 (.val (.agg (fc (v12)).toArray)),eS 73 (.val (.agg (fc (v13)).toArray)),eN 14 _,eM 14 _] ⟨rfl,rfl,fun L u=>u_call u (gd0 rfl) _ rfl _ _ _ rfl [_,_] rfl (cE124 _) (.agg (fc (v12)).toArray) (fun w hb=>by have g:=q_sub (hT.keep (Bs.kp_of hb)) v1 v3;rw [← ev12] at g;exact g),fun L u=>u_call u (gd0 rfl) _ rfl _ _ _ rfl [_] rfl (cE125 _) (.agg (fc (v13)).toArray) (fun w hb=>by have g:=q_triple (hT.keep (Bs.kp_of hb)) v12;rw [← ev13] at g;exact g),rfl,rfl,T0⟩ [(4,_),(5,_),(7,_),(8,_),(9,_),(10,_),(12,_),(13,_),(14,.ptr 14 0)] [(4,_),(5,_),(7,_),(8,_),(9,_),(10,_),(12,_),(13,_),(14,fc (v13))] (fun a w h=>?_)
 refine aX h [0,2,4,5,7,8] [eS 74 (.val (.agg (fc (wb)).toArray)),eS 75 _,eS 76 (.val (.agg (fc (v14)).toArray)),eS 77 _,eS 78 (.val (.agg (fc (v15)).toArray)),eS 79 (.val (.agg (fc (v16)).toArray)),eS 80 _,eS 81 (.val (.agg (fc (v17)).toArray)),eS 82 (.val (.agg (fc (v18)).toArray)),eN 15 _,eM 15 _] ⟨fun L u=>u_loadXR u (gd0 rfl) 74 rfl 24 (.global 0) rfl rfl Tryz.underlying24 rfl (fc (wb)) i24 rfl (hT.wb) rfl,rfl,fun L u=>u_call u (gd0 rfl) _ rfl _ _ _ rfl [_,_] rfl (cE90 _) (.agg (fc (v14)).toArray) (fun w hb=>by have g:=q_mul (hT.keep (Bs.kp_of hb)) wb v5;rw [← ev14] at g;exact g),rfl,fun L u=>u_call u (gd0 rfl) _ rfl _ _ _ rfl [_] rfl (cE125 _) (.agg (fc (v15)).toArray) (fun w hb=>by have g:=q_triple (hT.keep (Bs.kp_of hb)) v3;rw [← ev15] at g;exact g),fun L u=>u_call u (gd0 rfl) _ rfl _ _ _ rfl [_,_] rfl (cE124 _) (.agg (fc (v16)).toArray) (fun w hb=>by have g:=q_sub (hT.keep (Bs.kp_of hb)) v14 v15;rw [← ev16] at g;exact g),rfl,fun L u=>u_call u (gd0 rfl) _ rfl _ _ _ rfl [_,_] rfl (cE124 _) (.agg (fc (v17)).toArray) (fun w hb=>by have g:=q_sub (hT.keep (Bs.kp_of hb)) v16 v1;rw [← ev17] at g;exact g),fun L u=>u_call u (gd0 rfl) _ rfl _ _ _ rfl [_] rfl (cE125 _) (.agg (fc (v18)).toArray) (fun w hb=>by have g:=q_triple (hT.keep (Bs.kp_of hb)) v17;rw [← ev18] at g;exact g),rfl,rfl,T0⟩ [(4,_),(8,_),(10,_),(12,_),(13,_),(14,_),(15,.ptr 15 0)] [(4,_),(8,_),(10,_),(12,_),(13,_),(14,_),(15,fc (v18))] (fun a w h=>?_)
 refine aX h [2,5,6,11,16,17] [eS 83 _,eS 84 _,eS 85 (.val (.agg (fc (v19)).toArray)),eS 86 _,eS 87 _,eS 88 (.val (.agg (fc (v20)).toArray)),eS 89 (.val (.agg (fc (v21)).toArray)),eS 90 _,eS 91 _,eS 92 _,eS 93 _,eS 94 (.val (.agg (fc (v22)).toArray)),eS 95 _,eS 96 _,eS 97 _,eS 98 _,eS 99 (.val (.agg (fc (v23)).toArray)),eS 100 (.val (.agg (fc (v21)++fc (v22)++fc (v23)).toArray)),eM 4 _] ⟨rfl,rfl,fun L u=>u_call u (gd0 rfl) _ rfl _ _ _ rfl [_,_] rfl (cE90 _) (.agg (fc (v19)).toArray) (fun w hb=>by have g:=q_mul (hT.keep (Bs.kp_of hb)) v4 v10;rw [← ev19] at g;exact g),rfl,rfl,fun L u=>u_call u (gd0 rfl) _ rfl _ _ _ rfl [_,_] rfl (cE90 _) (.agg (fc (v20)).toArray) (fun w hb=>by have g:=q_mul (hT.keep (Bs.kp_of hb)) v6 v18;rw [← ev20] at g;exact g),fun L u=>u_call u (gd0 rfl) _ rfl _ _ _ rfl [_,_] rfl (cE124 _) (.agg (fc (v21)).toArray) (fun w hb=>by have g:=q_sub (hT.keep (Bs.kp_of hb)) v19 v20;rw [← ev21] at g;exact g),rfl,rfl,rfl,rfl,fun L u=>u_call u (gd0 rfl) _ rfl _ _ _ rfl [_,_,_,_] rfl (cE139 _) (.agg (fc (v22)).toArray) (fun w hb=>by have g:=q_cross (hT.keep (Bs.kp_of hb)) v10 v11 v13 v18;rw [← ev22] at g;exact g),rfl,rfl,rfl,rfl,fun L u=>u_call u (gd0 rfl) _ rfl _ _ _ rfl [_,_,_,_] rfl (cE139 _) (.agg (fc (v23)).toArray) (fun w hb=>by have g:=q_cross (hT.keep (Bs.kp_of hb)) v6 v11 v4 v13;rw [← ev23] at g;exact g),fun L u=>u_build u (gd0 rfl) 100 rfl 96 #[(0,(.tmp 89)),(1,(.tmp 94)),(2,(.tmp 99))] rfl [(0,.agg (fc (v21)).toArray),(1,.agg (fc (v22)).toArray),(2,.agg (fc (v23)).toArray)] rfl (fc (v21)++fc (v22)++fc (v23)) (bQ3 _ _ _),rfl,T0⟩ [(4,_)] [(4,fc (v21)++fc (v22)++fc (v23))] (fun a w h=>?_)
 refine wp_ret ?_
 refine ret_row h 4 96 rfl (lk rfl) 4 rfl (fc (v21)++fc (v22)++fc (v23)) rfl _ Tryz.underlying96 rfl i96 ?_
 exact ⟨by rw [← hpp];rfl,h.grows⟩
end Go.Proofs.YtmigakanbeckpaaGreatDoor
