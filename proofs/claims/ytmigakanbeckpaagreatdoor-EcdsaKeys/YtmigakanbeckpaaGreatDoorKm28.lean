/- What the program's own pair of layer 10 answers, and where it panics. What the document's own Decode of layer 10 answers. What the program's own Decode of layer 10 answers: where a reader panics it recovers. Walks by states, in the text's order: a call that answers a slice that it made, and bytes appended to none, with whatever room behind them. Walks by states: bytes in states, remainders, and answers that are slices. What the document's own Within and Z of layer 11 answer; bytes of one family are bytes of another. -/
import Derived.Test.YtmigakanbeckpaaGreatDoorKm27
import Derived.Test.YtmigakanbeckpaaGreatDoorKm26
import Derived.Test.YtmigakanbeckpaaGreatDoorKm03
import Derived.Test.YtmigakanbeckpaaGreatDoorKm02
import Derived.Test.YtmigakanbeckpaaGreatDoorKm24
import Derived.Test.YtmigakanbeckpaaGreatDoorKm23
import Derived.Test.YtmigakanbeckpaaGreatDoorKm22
set_option maxRecDepth 100000
set_option maxHeartbeats 4000000
namespace Go.Proofs.YtmigakanbeckpaaGreatDoor.De
set_option maxRecDepth 100000
open Go.RowKit
end Go.Proofs.YtmigakanbeckpaaGreatDoor.De
namespace Go.Proofs.YtmigakanbeckpaaGreatDoor.De
set_option maxRecDepth 100000
open Go.RowKit
end Go.Proofs.YtmigakanbeckpaaGreatDoor.De
namespace Go.Proofs.YtmigakanbeckpaaGreatDoor.De
set_option maxRecDepth 100000
open Go.RowKit
end Go.Proofs.YtmigakanbeckpaaGreatDoor.De
namespace Go.Proofs.YtmigakanbeckpaaGreatDoor
set_option maxRecDepth 100000
open Go.RowKit
section
variable {P:Program} {W:Bs} {n:Nat} {ops:Array Oper} {i:Nat} {o:Oper} {σ:SS} {Q:Exit→Act→World→Prop} {rest:List Nat} {a:Act} {w:World}
end
section
variable {W:Bs} {n:Nat} {ops:Array Oper} {i:Nat} {o:Oper} {σ:SS} {Q:Exit→Act→World→Prop} {rest:List Nat} {a:Act} {w:World}
end
end Go.Proofs.YtmigakanbeckpaaGreatDoor
namespace Go.Proofs.YtmigakanbeckpaaGreatDoor
set_option maxRecDepth 100000
open Go.RowKit
def by32 (f:Nat→Int):List Value:=[.int .u8 (f 0),.int .u8 (f 1),.int .u8 (f 2),.int .u8 (f 3),.int .u8 (f 4),.int .u8 (f 5),.int .u8 (f 6),.int .u8 (f 7),.int .u8 (f 8),.int .u8 (f 9),.int .u8 (f 10),.int .u8 (f 11),.int .u8 (f 12),.int .u8 (f 13),.int .u8 (f 14),.int .u8 (f 15),.int .u8 (f 16),.int .u8 (f 17),.int .u8 (f 18),.int .u8 (f 19),.int .u8 (f 20),.int .u8 (f 21),.int .u8 (f 22),.int .u8 (f 23),.int .u8 (f 24),.int .u8 (f 25),.int .u8 (f 26),.int .u8 (f 27),.int .u8 (f 28),.int .u8 (f 29),.int .u8 (f 30),.int .u8 (f 31)]
end Go.Proofs.YtmigakanbeckpaaGreatDoor
namespace Go.Proofs.YtmigakanbeckpaaGreatDoor
open Go.RowKit
theorem hmX:Tryz.prog.follows .mixedOrders=true:=by kernel_rfl
theorem nb0X:Tryz.prog.built 24 []=some nz.toArray:=by kernel_rfl
theorem ba_sh {w:World} {z:Option Addr} {n:Nat} {f:Nat→Nat} (h:BA w z n f):Sh.BA w z n f:=⟨h.lt,h.at_.imp id fun ⟨b,o,e,hr⟩=>⟨b,o,e,⟨hr.c⟩⟩⟩
theorem hb_lt (s:Sh.St) (i:Nat):Sh.hByte s i<256:=Nat.mod_lt _ (by decide)
def zN (f:Nat→Nat) (n:Nat):Nat:=De.num (fl (Sh.hByte (Sh.hashS f n)) 32)
theorem num_natX {a:Nat} (h:a<2 ^ 256):Num (a:Int):=⟨by omega,by unfold M;omega⟩
theorem zN_lt (f:Nat→Nat) (n:Nat):zN f n<2 ^ 256:=by
 have h:=De.num_lt (fl_lt (f:=Sh.hByte (Sh.hashS f n)) (fun i=>hb_lt _ i) 32)
 rw [fl_len] at h
 exact Nat.lt_of_lt_of_le h (by decide)
theorem i5X:(Tryz.prog.info? 5).map (·.size)=some 1:=by kernel_rfl
theorem eq_z0 {a:Nat} (h:a<2 ^ 256) {t:Bool} (ht:decide (a=0)=t) (w:World):(Op.equalIn 10000 24 (.agg (nc (a:Int)).toArray) (.agg nz.toArray)).run Tryz.prog w=.ok t w:=by
 rw [nz_nc,eq_nc (num_natX h) ⟨by decide,by decide⟩,← ht]
 congr 1
 by_cases e:a=0
 ·rw [decide_eq_true e,decide_eq_true (by omega)]
 ·rw [decide_eq_false e,decide_eq_false (by omega)]
theorem cX55 (vs:List Value):∀ w,(callFunc 55 vs.toArray).run Tryz.prog w=.ok (.enter 55 vs.toArray) w:=callFunc_enter Tryz.func55 (by kernel_rfl) (by kernel_rfl) _
theorem cX106 (vs:List Value):∀ w,(callFunc 106 vs.toArray).run Tryz.prog w=.ok (.enter 106 vs.toArray) w:=callFunc_enter Tryz.func106 (by kernel_rfl) (by kernel_rfl) _
theorem cX28 (vs:List Value):∀ w,(callFunc 28 vs.toArray).run Tryz.prog w=.ok (.enter 28 vs.toArray) w:=callFunc_enter Tryz.func28 (by kernel_rfl) (by kernel_rfl) _
theorem rWithin_0 {w:World} {A:Nat} (hA:A<2 ^ 256) (hz:A=0):Calls Tryz.prog 28 [.agg (nc (((A:Nat):Int))).toArray].toArray w fun e w'=>e=.returned (.bool false)∧Below w.heap.size w w':=by
 refine enter (args:=[.agg (nc (((A:Nat):Int))).toArray]) Tryz.func28 rfl 10 rfl (lk rfl) (fun a h=>?_)
 refine aX h [] [eN 1 _,eS 2 _] ⟨rfl,rfl,T0⟩ [(1,.ptr 1 0)] [(1,nc (((A:Nat):Int)))] (fun a w h=>?_)
 refine aX h [1,2] [eS 3 _,eS 4 (.val (.agg (nz).toArray)),eS 5 (.val (Value.bool false)),eS 6 _,eS 7 _,eS 8 _,eS 9 _,eS 2 _] ⟨rfl,fun L u=>u_build u (gd0 rfl) 4 rfl 24 #[] rfl [] rfl (nz) (nb0X),fun L u=>u_neq u (gd0 rfl) 5 rfl 24 24 (.tmp 3) (.tmp 4) rfl rfl rfl Tryz.eqGuardType24 (true) (fun w=>eq_z0 hA (by rw [decide_eq_true hz]) w),rfl,rfl,rfl,rfl,rfl,T0⟩ [(2,.val (Value.bool false))] [] (fun a w h=>?_)
 refine wp_ret ?_
 refine ret_slot h 2 rfl (lk rfl) (Value.bool false) rfl ?_
 exact ⟨rfl,h.grows⟩
theorem rWithin_1 {w:World} {A:Nat} (hA:A<2 ^ 256) (hz:¬ A=0):Calls Tryz.prog 28 [.agg (nc (((A:Nat):Int))).toArray].toArray w fun e w'=>e=.returned (.bool (decide ((A:Int)<md 1)))∧Below w.heap.size w w':=by
 refine enter (args:=[.agg (nc (((A:Nat):Int))).toArray]) Tryz.func28 rfl 10 rfl (lk rfl) (fun a h=>?_)
 refine aX h [] [eN 1 _,eS 2 _] ⟨rfl,rfl,T0⟩ [(1,.ptr 1 0)] [(1,nc (((A:Nat):Int)))] (fun a w h=>?_)
 refine aX h [1,2,5] [eS 3 _,eS 4 (.val (.agg (nz).toArray)),eS 5 (.val (Value.bool true)),eS 6 _,eS 7 _,eS 8 (.val (Value.bool (decide ((A:Int)<md 1)))),eS 9 _,eS 2 _] ⟨rfl,fun L u=>u_build u (gd0 rfl) 4 rfl 24 #[] rfl [] rfl (nz) (nb0X),fun L u=>u_neq u (gd0 rfl) 5 rfl 24 24 (.tmp 3) (.tmp 4) rfl rfl rfl Tryz.eqGuardType24 (false) (fun w=>eq_z0 hA (by rw [decide_eq_false hz]) w),rfl,rfl,fun L u=>u_call u (gd1 u 3 true rfl 6 rfl (lk rfl) rfl) _ rfl _ _ _ rfl [_,_] rfl (cX55 _) _ (fun w hb=>refBelow_any (k:=1) (num_natX hA) w),rfl,rfl,T0⟩ [(2,.val (Value.bool (decide ((A:Int)<md 1))))] [] (fun a w h=>?_)
 refine wp_ret ?_
 refine ret_slot h 2 rfl (lk rfl) (Value.bool (decide ((A:Int)<md 1))) rfl ?_
 exact ⟨rfl,h.grows⟩
def wi (A:Nat):Bool:=decide (A≠0∧(A:Int)<md 1)
theorem rWithin {w:World} {A:Nat} (hA:A<2 ^ 256):Calls Tryz.prog 28 [.agg (nc (((A:Nat):Int))).toArray].toArray w fun e w'=>e=.returned (.bool (wi A))∧Below w.heap.size w w':=by
 by_cases hz:A=0
 ·rw [show wi A=false from decide_eq_false (fun q=>q.1 hz)]
  exact rWithin_0 hA hz
 ·rw [show wi A=decide ((A:Int)<md 1) by unfold wi;simp [hz]]
  exact rWithin_1 hA hz
theorem rZ_at {w:World} {n c U:Nat} {z:Option Addr} {f F:Nat→Nat} {l:List Nat} (hba:BA w z n f) (hn:n≤100000) (hF:F=Sh.hByte (Sh.hashS f n)) (hl:cells8 l=by32 (fun i=>((F i:Nat):Int))) (hlen:l.length=32) (hlt:∀ x ∈ l,x<256) (hU:De.num l=U):Calls Tryz.prog 66 [Value.slice (z) (n) (c)].toArray w fun e w'=>e=.returned (.agg (nc ((U:Nat):Int)).toArray)∧Below w.heap.size w w':=by
 refine enter (args:=[Value.slice (z) (n) (c)]) Tryz.func66 rfl 14 rfl (lk rfl) (fun a h=>?_)
 refine aX h [] [eN 2 _] ⟨rfl,T0⟩ [(0,.val (Value.slice (z) (n) (c))),(2,.ptr 2 0)] [(2,nz)] (fun a w h=>?_)
 refine aX h [1] [eS 6 _,eS 7 (.val (.agg (by32 (fun i=>((F i:Nat):Int))).toArray)),eN 3 _,eM 3 _] ⟨rfl,fun L u=>u_call u (gd0 rfl) _ rfl _ _ _ rfl [_] rfl (cX106 _) (.agg (by32 (fun i=>((F i:Nat):Int))).toArray) (fun w hb=>by have q:=Sh.refSum_hA (c:=c) (ba_sh (hba.keep (Bs.kp_of hb))) (by omega);rw [show Sh.hA f n=(by32 (fun i=>((F i:Nat):Int))).toArray by rw [hF];rfl] at q;exact q),rfl,rfl,T0⟩ [(2,_),(3,.ptr 3 0)] [(2,_),(3,by32 (fun i=>((F i:Nat):Int)))] (fun a w h=>?_)
 refine aX h [0,1] [eS 9 (.sli 3 0 32 32),eS 10 (.val (.tuple [Value.agg (nc (((U:Nat):Int))).toArray,Value.bool true].toArray)),eS 8 _,eS 11 _,eS 12 _,eN 4 _,eM 4 _,eS 5 _] ⟨fun L u=>u_slice u (gd0 rfl) 9 rfl 60 (.tmp 3) rfl rfl rfl Tryz.underlying60 i5X,fun L u=>u_callR u (gd0 rfl) 10 rfl 34 #[(.tmp 9)] #[25] rfl [.sli 3 0 32 32] rfl (fun vs w=>callFunc_enter Tryz.func34 (by kernel_rfl) (by kernel_rfl) vs w) (.tuple [.agg (nc (((U:Nat):Int))).toArray,Value.bool true].toArray) (fun β a w hr=>by obtain ⟨_,_,c3,_⟩:=hr.va 3 (by32 (fun i=>((F i:Nat):Int))) (u.m rfl);have q:=De.refBig_num (c:=32) (l:=l) hlen hlt (De.cells_ba hlt hlen (by rw [hl];exact c3));rw [hU] at q;exact q),rfl,rfl,rfl,rfl,rfl,rfl,T0⟩ [(2,_),(4,.ptr 4 0)] [(2,_),(4,nc (((U:Nat):Int)))] (fun a w h=>?_)
 refine aX h [] [eS 13 _,eM 2 _] ⟨rfl,rfl,T0⟩ [(2,_)] [(2,nc (((U:Nat):Int)))] (fun a w h=>?_)
 refine wp_ret ?_
 refine ret_row h 2 24 rfl (lk rfl) 2 rfl (nc (((U:Nat):Int))) rfl _ Tryz.underlying24 rfl i24 ?_
 exact ⟨rfl,h.grows⟩
theorem rZ {w:World} {n c:Nat} {z:Option Addr} {f:Nat→Nat} (hba:BA w z n f) (hn:n≤100000):Calls Tryz.prog 66 [Value.slice (z) (n) (c)].toArray w fun e w'=>e=.returned (.agg (nc ((zN f n:Nat):Int)).toArray)∧Below w.heap.size w w' :=
 rZ_at (F:=Sh.hByte (Sh.hashS f n)) (l:=fl (Sh.hByte (Sh.hashS f n)) 32) hba hn rfl rfl (fl_len _ _) (fl_lt (fun i=>hb_lt _ i) 32) rfl
end Go.Proofs.YtmigakanbeckpaaGreatDoor
