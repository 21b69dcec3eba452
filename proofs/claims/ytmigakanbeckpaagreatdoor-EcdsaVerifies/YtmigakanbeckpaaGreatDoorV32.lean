/- What the document's own Numbers answers. A stream in memory: its key, its value, whether a number was asked for; the program's own Mac of parts that lie somewhere. What the program's own step does. Lists of parts that are appended to a list of one's own (no function of layer 7 is named). What the program's own renew does. What the program's own New and Next answer. The program's own New, of two parts that are handed in. Streams and hashes as things: the program's own New, Next; the document's own Numbers. What the document's own Signed of layer 11 answers. What the program's own smaller functions of layer 11 answer. -/
import Derived.Test.YtmigakanbeckpaaGreatDoorV31
import Derived.Test.YtmigakanbeckpaaGreatDoorV03
import Derived.Test.YtmigakanbeckpaaGreatDoorV29
import Derived.Test.YtmigakanbeckpaaGreatDoorV20
import Derived.Test.YtmigakanbeckpaaGreatDoorV30
import Derived.Test.YtmigakanbeckpaaGreatDoorV26
import Derived.Deep.WholeRow
set_option maxRecDepth 100000
set_option maxHeartbeats 4000000
namespace Go.Proofs.YtmigakanbeckpaaGreatDoor.Sh
set_option maxRecDepth 100000
open Go.RowKit
attribute [local go_sem ↓] Go.wp_at_zero Go.wp_at_succ
end Go.Proofs.YtmigakanbeckpaaGreatDoor.Sh
namespace Go.Proofs.YtmigakanbeckpaaGreatDoor.Sh
set_option maxRecDepth 100000
open Go.RowKit
def KV.ok (s:KV):Prop:=(∀ i,s.k i<256)∧(∀ i,s.v i<256)
def sc (s:KV) (t:Bool):List Value:=ab s.k 32++(ab s.v 32++[.bool t])
end Go.Proofs.YtmigakanbeckpaaGreatDoor.Sh
namespace Go.Proofs.YtmigakanbeckpaaGreatDoor.Sh
set_option maxRecDepth 100000
open Go.RowKit
attribute [local go_sem ↓] Go.wp_at_zero Go.wp_at_succ
end Go.Proofs.YtmigakanbeckpaaGreatDoor.Sh
namespace Go.Proofs.YtmigakanbeckpaaGreatDoor.Sh
set_option maxRecDepth 100000
open Go.RowKit
end Go.Proofs.YtmigakanbeckpaaGreatDoor.Sh
namespace Go.Proofs.YtmigakanbeckpaaGreatDoor.Sh
set_option maxRecDepth 100000
open Go.RowKit
attribute [local go_sem ↓] Go.wp_at_zero Go.wp_at_succ
end Go.Proofs.YtmigakanbeckpaaGreatDoor.Sh
namespace Go.Proofs.YtmigakanbeckpaaGreatDoor.Sh
set_option maxRecDepth 100000
open Go.RowKit
attribute [local go_sem ↓] Go.wp_at_zero Go.wp_at_succ
end Go.Proofs.YtmigakanbeckpaaGreatDoor.Sh
namespace Go.Proofs.YtmigakanbeckpaaGreatDoor.Sh
set_option maxRecDepth 100000
open Go.RowKit
end Go.Proofs.YtmigakanbeckpaaGreatDoor.Sh
namespace Go.Proofs.YtmigakanbeckpaaGreatDoor
set_option maxRecDepth 100000
open Go.RowKit
def ks (g:Nat→Nat) (i:Nat):Nat:=De.num (fl (Sh.kvAt g 64 (i+1)).v 32)
def kl (g:Nat→Nat):Nat→List Nat
 | 0=>[]
 | i+1=>if wi (ks g i)=true then kl g i++[ks g i] else kl g i
end Go.Proofs.YtmigakanbeckpaaGreatDoor
namespace Go.Proofs.YtmigakanbeckpaaGreatDoor
open Go.RowKit
theorem mul1 {w:World} (hT:Tab w) {a b c:Nat} (ha:a<2 ^ 256) (hb:b<2 ^ 256) (hc:((a:Int)*b) % md 1=(c:Int)):Calls Tryz.prog 78 [.int .i64 1,.agg (nc (a:Int)).toArray,.agg (nc (b:Int)).toArray].toArray w fun e w'=>e=.returned (.agg (nc (c:Int)).toArray)∧Below w.heap.size w w':=by
 have h:=f_mul (k:=1) ⟨by decide,by decide⟩ (num_natX ha) (num_natX hb) hT
 rw [hc] at h
 exact h
theorem inv1 {w:World} (hT:Tab w) {a c:Nat} (ha:a<2 ^ 256) (hc:pw (a:Int) (md 1-2) % md 1=(c:Int)):Calls Tryz.prog 76 [.int .i64 1,.agg (nc (a:Int)).toArray].toArray w fun e w'=>e=.returned (.agg (nc (c:Int)).toArray)∧Below w.heap.size w w':=by
 have h:=f_inv (k:=1) ⟨by decide,by decide⟩ (num_natX ha) hT
 rw [hc] at h
 exact h
theorem foldP {w:World} (hT:Tab w) {x:Fin m0} {b:Nat} (hb:(x.val:Int) % md 1=(b:Int)):Calls Tryz.prog 60 [.int .i64 1,.agg (fc x).toArray].toArray w fun e w'=>e=.returned (.agg (nc (b:Int)).toArray)∧Below w.heap.size w w':=by
 have h:=f_fold (k:=1) ⟨by decide,by decide⟩ (fin_num x) hT
 rw [hb] at h
 exact h
theorem cX78 (vs:List Value):∀ w,(callFunc 78 vs.toArray).run Tryz.prog w=.ok (.enter 78 vs.toArray) w:=callFunc_enter Tryz.func78 (by kernel_rfl) (by kernel_rfl) _
theorem cX76 (vs:List Value):∀ w,(callFunc 76 vs.toArray).run Tryz.prog w=.ok (.enter 76 vs.toArray) w:=callFunc_enter Tryz.func76 (by kernel_rfl) (by kernel_rfl) _
end Go.Proofs.YtmigakanbeckpaaGreatDoor
namespace Go.Proofs.YtmigakanbeckpaaGreatDoor
open Go.RowKit
theorem i24T:(Tryz.prog.info? 24).map (·.size)=some 4:=by kernel_rfl
theorem i44T:(Tryz.prog.info? 44).map (·.size)=some 9:=by kernel_rfl
theorem i5T:(Tryz.prog.info? 5).map (·.size)=some 1:=by kernel_rfl
theorem infoL1:(Tryz.prog.info? 25).map (fun i=>(i.zero,i.size))=some (some (.slice none 0 0),1):=by kernel_rfl
theorem cT50 (vs:List Value):∀ w,(callFunc 50 vs.toArray).run Tryz.prog w=.ok (.enter 50 vs.toArray) w:=callFunc_enter Tryz.func50 (by kernel_rfl) (by kernel_rfl) _
theorem cT53 (vs:List Value):∀ w,(callFunc 53 vs.toArray).run Tryz.prog w=.ok (.enter 53 vs.toArray) w:=callFunc_enter Tryz.func53 (by kernel_rfl) (by kernel_rfl) _
theorem cT54 (vs:List Value):∀ w,(callFunc 54 vs.toArray).run Tryz.prog w=.ok (.enter 54 vs.toArray) w:=callFunc_enter Tryz.func54 (by kernel_rfl) (by kernel_rfl) _
theorem cT60 (vs:List Value):∀ w,(callFunc 60 vs.toArray).run Tryz.prog w=.ok (.enter 60 vs.toArray) w:=callFunc_enter Tryz.func60 (by kernel_rfl) (by kernel_rfl) _
theorem cT78 (vs:List Value):∀ w,(callFunc 78 vs.toArray).run Tryz.prog w=.ok (.enter 78 vs.toArray) w:=callFunc_enter Tryz.func78 (by kernel_rfl) (by kernel_rfl) _
theorem cT76 (vs:List Value):∀ w,(callFunc 76 vs.toArray).run Tryz.prog w=.ok (.enter 76 vs.toArray) w:=callFunc_enter Tryz.func76 (by kernel_rfl) (by kernel_rfl) _
theorem cT25 (vs:List Value):∀ w,(callFunc 25 vs.toArray).run Tryz.prog w=.ok (.enter 25 vs.toArray) w:=callFunc_enter Tryz.func25 (by kernel_rfl) (by kernel_rfl) _
theorem cT27 (vs:List Value):∀ w,(callFunc 27 vs.toArray).run Tryz.prog w=.ok (.enter 27 vs.toArray) w:=callFunc_enter Tryz.func27 (by kernel_rfl) (by kernel_rfl) _
theorem cT75 (vs:List Value):∀ w,(callFunc 75 vs.toArray).run Tryz.prog w=.ok (.enter 75 vs.toArray) w:=callFunc_enter Tryz.func75 (by kernel_rfl) (by kernel_rfl) _
theorem cT74 (vs:List Value):∀ w,(callFunc 74 vs.toArray).run Tryz.prog w=.ok (.enter 74 vs.toArray) w:=callFunc_enter Tryz.func74 (by kernel_rfl) (by kernel_rfl) _
theorem cT61 (vs:List Value):∀ w,(callFunc 61 vs.toArray).run Tryz.prog w=.ok (.enter 61 vs.toArray) w:=callFunc_enter Tryz.func61 (by kernel_rfl) (by kernel_rfl) _
theorem cT31 (vs:List Value):∀ w,(callFunc 31 vs.toArray).run Tryz.prog w=.ok (.enter 31 vs.toArray) w:=callFunc_enter Tryz.func31 (by kernel_rfl) (by kernel_rfl) _
theorem qIn_0 {w:World} {A:Nat} (hA:A<2 ^ 256) (hz:A=0):Calls Tryz.prog 25 [.agg (nc (((A:Nat):Int))).toArray].toArray w fun e w'=>e=.returned (.bool false)∧Below w.heap.size w w':=by
 refine enter (args:=[.agg (nc (((A:Nat):Int))).toArray]) Tryz.func25 rfl 10 rfl (lk rfl) (fun a h=>?_)
 refine aX h [] [eN 1 _,eS 2 _] ⟨rfl,rfl,T0⟩ [(1,.ptr 1 0)] [(1,nc (((A:Nat):Int)))] (fun a w h=>?_)
 refine aX h [1,2] [eS 3 _,eS 4 (.val (.agg (nz).toArray)),eS 5 (.val (Value.bool false)),eS 6 _,eS 7 _,eS 8 _,eS 9 _,eS 2 _] ⟨rfl,fun L u=>u_build u (gd0 rfl) 4 rfl 24 #[] rfl [] rfl (nz) (nb0X),fun L u=>u_neq u (gd0 rfl) 5 rfl 24 24 (.tmp 3) (.tmp 4) rfl rfl rfl Tryz.eqGuardType24 (true) (fun w=>eq_z0 hA (by rw [decide_eq_true hz]) w),rfl,rfl,rfl,rfl,rfl,T0⟩ [(2,.val (Value.bool false))] [] (fun a w h=>?_)
 refine wp_ret ?_
 refine ret_slot h 2 rfl (lk rfl) (Value.bool false) rfl ?_
 exact ⟨rfl,h.grows⟩
theorem qIn_1 {w:World} (hT:Tab w) {A:Nat} (hA:A<2 ^ 256) (hz:¬ A=0):Calls Tryz.prog 25 [.agg (nc (((A:Nat):Int))).toArray].toArray w fun e w'=>e=.returned (.bool (decide ((A:Int)<md 1)))∧Below w.heap.size w w':=by
 refine enter (args:=[.agg (nc (((A:Nat):Int))).toArray]) Tryz.func25 rfl 10 rfl (lk rfl) (fun a h=>?_)
 refine aX h [] [eN 1 _,eS 2 _] ⟨rfl,rfl,T0⟩ [(1,.ptr 1 0)] [(1,nc (((A:Nat):Int)))] (fun a w h=>?_)
 refine aX h [1,2,5] [eS 3 _,eS 4 (.val (.agg (nz).toArray)),eS 5 (.val (Value.bool true)),eS 6 _,eS 7 _,eS 8 (.val (Value.bool (decide ((A:Int)<md 1)))),eS 9 _,eS 2 _] ⟨rfl,fun L u=>u_build u (gd0 rfl) 4 rfl 24 #[] rfl [] rfl (nz) (nb0X),fun L u=>u_neq u (gd0 rfl) 5 rfl 24 24 (.tmp 3) (.tmp 4) rfl rfl rfl Tryz.eqGuardType24 (false) (fun w=>eq_z0 hA (by rw [decide_eq_false hz]) w),rfl,rfl,fun L u=>u_call u (gd1 u 3 true rfl 6 rfl (lk rfl) rfl) _ rfl _ _ _ rfl [_,_] rfl (cT50 _) _ (fun w hb=>below_any (k:=1) (num_natX hA) (hT.keep (Bs.kp_of hb))),rfl,rfl,T0⟩ [(2,.val (Value.bool (decide ((A:Int)<md 1))))] [] (fun a w h=>?_)
 refine wp_ret ?_
 refine ret_slot h 2 rfl (lk rfl) (Value.bool (decide ((A:Int)<md 1))) rfl ?_
 exact ⟨rfl,h.grows⟩
theorem qIn {w:World} (hT:Tab w) {A:Nat} (hA:A<2 ^ 256):Calls Tryz.prog 25 [.agg (nc (((A:Nat):Int))).toArray].toArray w fun e w'=>e=.returned (.bool (wi A))∧Below w.heap.size w w':=by
 by_cases hz:A=0
 ·rw [show wi A=false from decide_eq_false (fun q=>q.1 hz)]
  exact qIn_0 hA hz
 ·rw [show wi A=decide ((A:Int)<md 1) by unfold wi;simp [hz]]
  exact qIn_1 hT hA hz
theorem qTB {w:World} (hT:Tab w) {A:Nat} (hA:A<2 ^ 256):Calls Tryz.prog 27 [.agg (nc (((A:Nat):Int))).toArray].toArray w fun e w'=>e=.returned (.agg (pc (mt wplus Wp.o wG A)).toArray)∧Below w.heap.size w w':=by
 refine enter (args:=[.agg (nc (((A:Nat):Int))).toArray]) Tryz.func27 rfl 6 rfl (lk rfl) (fun a h=>?_)
 refine aX h [] [eN 1 _,eN 2 _] ⟨rfl,rfl,T0⟩ [(1,.ptr 1 0),(2,.ptr 2 0)] [(1,nc (((A:Nat):Int))),(2,nz++nz++[Value.bool false])] (fun a w h=>?_)
 refine aX h [1,2] [eS 3 _,eS 4 (.val (.agg (pc (wG)).toArray)),eS 5 (.val (.agg (pc (mt wplus Wp.o wG A)).toArray)),eM 2 _] ⟨rfl,fun L u=>u_call u (gd0 rfl) _ rfl _ _ _ rfl [] rfl (cT54 _) _ (fun w hb=>q_Base),fun L u=>u_call u (gd0 rfl) _ rfl _ _ _ rfl [_,_] rfl (cT53 _) (.agg (pc (mt wplus Wp.o wG A)).toArray) (fun w hb=>by have q:=q_Mul (hT.keep (Bs.kp_of hb)) hA (fin_num (px wG)) (fin_num (py wG)) wG.isNone;rw [rp_pc wG_on] at q;exact q),rfl,T0⟩ [(2,_)] [(2,pc (mt wplus Wp.o wG A))] (fun a w h=>?_)
 refine wp_ret ?_
 refine ret_row h 2 44 rfl (lk rfl) 2 rfl (pc (mt wplus Wp.o wG A)) rfl _ Tryz.underlying44 rfl i44T ?_
 exact ⟨rfl,h.grows⟩
theorem qX_at {w:World} (hT:Tab w) {x y:Fin m0} {b:Bool} {r:Nat} (hr:(x.val:Int) % md 1=(r:Int)):Calls Tryz.prog 75 [.agg (fc (x)++fc (y)++[Value.bool b]).toArray].toArray w fun e w'=>e=.returned (.agg (nc ((r:Nat):Int)).toArray)∧Below w.heap.size w w':=by
 refine enter (args:=[.agg (fc (x)++fc (y)++[Value.bool b]).toArray]) Tryz.func75 rfl 6 rfl (lk rfl) (fun a h=>?_)
 refine aX h [] [eN 1 _,eN 2 _] ⟨rfl,rfl,T0⟩ [(1,.ptr 1 0),(2,.ptr 2 0)] [(1,fc (x)++fc (y)++[Value.bool b]),(2,nz)] (fun a w h=>?_)
 refine aX h [2] [eS 3 _,eS 4 _,eS 5 (.val (.agg (nc (((r:Nat):Int))).toArray)),eM 2 _] ⟨rfl,rfl,fun L u=>u_call u (gd0 rfl) _ rfl _ _ _ rfl [_,_] rfl (cT60 _) _ (fun w hb=>foldP (hT.keep (Bs.kp_of hb)) hr),rfl,T0⟩ [(2,_)] [(2,nc (((r:Nat):Int)))] (fun a w h=>?_)
 refine wp_ret ?_
 refine ret_row h 2 24 rfl (lk rfl) 2 rfl (nc (((r:Nat):Int))) rfl _ Tryz.underlying24 rfl i24T ?_
 exact ⟨rfl,h.grows⟩
theorem qQ_at {w:World} (hT:Tab w) {A B v c:Nat} (hA:A<2 ^ 256) (hB:B<2 ^ 256) (hv:pw (B:Int) (md 1-2) % md 1=(v:Int)) (hv2:v<2 ^ 256) (hc:((A:Int)*v) % md 1=(c:Int)):Calls Tryz.prog 74 [.agg (nc (((A:Nat):Int))).toArray,.agg (nc (((B:Nat):Int))).toArray].toArray w fun e w'=>e=.returned (.agg (nc ((c:Nat):Int)).toArray)∧Below w.heap.size w w':=by
 refine enter (args:=[.agg (nc (((A:Nat):Int))).toArray,.agg (nc (((B:Nat):Int))).toArray]) Tryz.func74 rfl 9 rfl (lk rfl) (fun a h=>?_)
 refine aX h [] [eN 2 _,eN 3 _,eN 4 _] ⟨rfl,rfl,rfl,T0⟩ [(2,.ptr 2 0),(3,.ptr 3 0),(4,.ptr 4 0)] [(2,nc (((A:Nat):Int))),(3,nc (((B:Nat):Int))),(4,nz)] (fun a w h=>?_)
 refine aX h [2,3] [eS 5 _,eS 6 _,eS 7 (.val (.agg (nc (((v:Nat):Int))).toArray)),eS 8 (.val (.agg (nc (((c:Nat):Int))).toArray)),eM 4 _] ⟨rfl,rfl,fun L u=>u_call u (gd0 rfl) _ rfl _ _ _ rfl [_,_] rfl (cT76 _) _ (fun w hb=>inv1 (hT.keep (Bs.kp_of hb)) hB hv),fun L u=>u_call u (gd0 rfl) _ rfl _ _ _ rfl [_,_,_] rfl (cT78 _) _ (fun w hb=>mul1 (hT.keep (Bs.kp_of hb)) hA hv2 hc),rfl,T0⟩ [(4,_)] [(4,nc (((c:Nat):Int)))] (fun a w h=>?_)
 refine wp_ret ?_
 refine ret_row h 4 24 rfl (lk rfl) 4 rfl (nc (((c:Nat):Int))) rfl _ Tryz.underlying24 rfl i24T ?_
 exact ⟨rfl,h.grows⟩
theorem qQ {w:World} (hT:Tab w) {A B:Nat} (hA:A<2 ^ 256) (hB:B<2 ^ 256):Calls Tryz.prog 74 [.agg (nc (((A:Nat):Int))).toArray,.agg (nc (((B:Nat):Int))).toArray].toArray w fun e w'=>e=.returned (.agg (nc ((u1O A B:Nat):Int)).toArray)∧Below w.heap.size w w':=qQ_at hT hA hB (mo_eq _) (mo_num _) (mo_eq _)
theorem qFH_at {w:World} {U:Nat} {F:Nat→Nat} {l:List Nat} (hl:cells8 l=by32 (fun i=>((F i:Nat):Int))) (hlen:l.length=32) (hlt:∀ x ∈ l,x<256) (hU:De.num l=U):Calls Tryz.prog 61 [.agg (by32 (fun i=>((F i:Nat):Int))).toArray].toArray w fun e w'=>e=.returned (.agg (nc ((U:Nat):Int)).toArray)∧Below w.heap.size w w':=by
 refine enter (args:=[.agg (by32 (fun i=>((F i:Nat):Int))).toArray]) Tryz.func61 rfl 11 rfl (lk rfl) (fun a h=>?_)
 refine aX h [] [eN 1 _,eN 2 _] ⟨rfl,rfl,T0⟩ [(1,.ptr 1 0),(2,.ptr 2 0)] [(1,by32 (fun i=>((F i:Nat):Int))),(2,nz)] (fun a w h=>?_)
 refine aX h [0,1] [eS 6 (.sli 1 0 32 32),eS 7 (.val (.tuple [Value.agg (nc (((U:Nat):Int))).toArray,Value.bool true].toArray)),eS 5 _,eS 8 _,eS 9 _,eN 3 _,eM 3 _,eS 4 _] ⟨fun L u=>u_slice u (gd0 rfl) 6 rfl 60 (.tmp 1) rfl rfl rfl Tryz.underlying60 i5T,fun L u=>u_callR u (gd0 rfl) 7 rfl 70 #[(.tmp 6)] #[25] rfl [.sli 1 0 32 32] rfl (fun vs w=>callFunc_enter Tryz.func70 (by kernel_rfl) (by kernel_rfl) vs w) (.tuple [.agg (nc (((U:Nat):Int))).toArray,Value.bool true].toArray) (fun β a w hr=>by obtain ⟨_,_,c3,_⟩:=hr.va 1 (by32 (fun i=>((F i:Nat):Int))) (u.m rfl);have q:=De.big_num (c:=32) (l:=l) hlen hlt (De.cells_ba hlt hlen (by rw [hl];exact c3));rw [hU] at q;exact q),rfl,rfl,rfl,rfl,rfl,rfl,T0⟩ [(2,_),(3,.ptr 3 0)] [(2,_),(3,nc (((U:Nat):Int)))] (fun a w h=>?_)
 refine aX h [] [eS 10 _,eM 2 _] ⟨rfl,rfl,T0⟩ [(2,_)] [(2,nc (((U:Nat):Int)))] (fun a w h=>?_)
 refine wp_ret ?_
 refine ret_row h 2 24 rfl (lk rfl) 2 rfl (nc (((U:Nat):Int))) rfl _ Tryz.underlying24 rfl i24T ?_
 exact ⟨rfl,h.grows⟩
theorem qFH {w:World} {F:Nat→Nat} (hF:∀ i,F i<256):Calls Tryz.prog 61 [.agg (by32 (fun i=>((F i:Nat):Int))).toArray].toArray w fun e w'=>e=.returned (.agg (nc ((De.num (fl F 32):Nat):Int)).toArray)∧Below w.heap.size w w':=qFH_at (l:=fl F 32) rfl (fl_len _ _) (fl_lt hF 32) rfl
theorem qSum {w:World} {n c:Nat} {z:Option Addr} {f:Nat→Nat} {v:Value} {F:Nat→Bool} (hH:Sh.Tab w) (hba:BA w z n f) (hc:n≤c) (hcm:c≤maxLen) (hn:n≤9223372036854775807) (h:(rowPd 25 1 1 [Value.slice z n c]).p v F w):Calls Tryz.prog 63 [v].toArray w fun e w'=>e=.returned (.agg (by32 (fun i=>((Sh.hByte (Sh.hashS f n) i:Nat):Int))).toArray)∧Below w.heap.size w w':=by
 obtain ⟨b,c2,rfl,hcell⟩:=row_src h (by decide)
 have hq:w.cell? ⟨b,0,none⟩=some (.slice z n c):=hcell 0 _ rfl
 have e1:Sh.lenF (fun _=>n) 1=n:=by simp only [Sh.lenF];omega
 have q:=Sh.sum_anyL (c:=c2) (x:=some ⟨b,0,none⟩) (k:=1) (A:=fun _=>z) (L:=fun _=>n) (C:=fun _=>c) (G:=fun _=>f) hH ⟨fun i _=>ba_sh hba,fun i _=>⟨hc,hcm⟩,Or.inr ⟨_,_,rfl,fun i hi=>by
  obtain rfl:i=0:=by omega
  exact hq⟩⟩ (by omega) (by rw [e1];exact hn)
 have e:Sh.hashS (Sh.catF (fun _=>n) (fun _=>f) 1) (Sh.lenF (fun _=>n) 1)=Sh.hashS f n:=by
  rw [e1]
  simp only [Sh.catF,Sh.lenF,Sh.cat_zero]
 rw [e] at q
 exact q
theorem qNum {w:World} {n c:Nat} {z:Option Addr} {f:Nat→Nat} (hH:Sh.Tab w) (hba:BA w z n f) (hc:n≤c) (hcm:c≤maxLen) (hn:n≤9223372036854775807):Calls Tryz.prog 31 [Value.slice (z) (n) (c)].toArray w fun e w'=>e=.returned (.agg (nc ((zN f n:Nat):Int)).toArray)∧Below w.heap.size w w':=by
 refine enter (args:=[Value.slice (z) (n) (c)]) Tryz.func31 rfl 7 rfl (lk rfl) (fun a h=>?_)
 refine aX h [] [eN 2 _] ⟨rfl,T0⟩ [(0,.val (Value.slice (z) (n) (c))),(2,.ptr 2 0)] [(2,nz)] (fun a w h=>?_)
 refine aX h [1,2,3] [eS 3 _,eQ 4 (rowPd 25 1 (1) ([Value.slice (z) (n) (c)])),eS 5 (.val (.agg (by32 (fun i=>((Sh.hByte (Sh.hashS f n) i:Nat):Int))).toArray)),eS 6 (.val (.agg (nc (((zN f n:Nat):Int))).toArray)),eM 2 _] ⟨rfl,fun L u=>u_lit1 u (gd0 rfl) 4 rfl rfl 103 (.tmp 3) rfl rfl Tryz.underlying103 infoL1 (by decide) (by decide) ([Value.slice (z) (n) (c)]) rfl (by kernel_rfl),fun L u=>u_callR u (gd0 rfl) 5 rfl 63 #[(.tmp 4)] #[103] rfl [.unk 4 id] rfl (fun vs w=>callFunc_enter Tryz.func63 (by kernel_rfl) (by kernel_rfl) vs w) (.agg (by32 (fun i=>((Sh.hByte (Sh.hashS f n) i:Nat):Int))).toArray) (fun β a w hr=>qSum (hH.keep (Bs.kp_of hr.bl)) (hba.keep (Bs.kp_of hr.bl)) hc hcm hn (hr.thing (x:=4) (u.q rfl))),fun L u=>u_call u (gd0 rfl) _ rfl _ _ _ rfl [_] rfl (cT61 _) _ (fun w hb=>qFH (fun i=>hb_lt _ i)),rfl,T0⟩ [(2,_)] [(2,nc (((zN f n:Nat):Int)))] (fun a w h=>?_)
 refine wp_ret ?_
 refine ret_row h 2 24 rfl (lk rfl) 2 rfl (nc (((zN f n:Nat):Int))) rfl _ Tryz.underlying24 rfl i24T ?_
 exact ⟨rfl,h.grows⟩
end Go.Proofs.YtmigakanbeckpaaGreatDoor
