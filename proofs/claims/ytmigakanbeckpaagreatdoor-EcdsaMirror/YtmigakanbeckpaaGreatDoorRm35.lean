/- A number's mirror, reckoned by the document's own layer 2. The mirror of a signature's second number. EcdsaMirror: the walk. How the parameters, and the listed variables, are read before the call. -/
import Derived.Test.YtmigakanbeckpaaGreatDoorRm32
import Derived.Test.YtmigakanbeckpaaGreatDoorRm34
import Derived.Test.YtmigakanbeckpaaGreatDoorRm22
import Derived.Test.YtmigakanbeckpaaGreatDoorRm29
import Derived.Test.YtmigakanbeckpaaGreatDoorRm33
import Derived.Test.YtmigakanbeckpaaGreatDoorRm02
import Derived.Test.YtmigakanbeckpaaGreatDoorRm28
import Derived.Test.YtmigakanbeckpaaGreatDoorTie
import Derived.Test.YtmigakanbeckpaaGreatDoorCards
import Derived.ProofKit
import Derived.LaidMore
import Derived.MakeChecks
import Derived.Lib.LaidTab
import Derived.Stop.LaidErr
import Derived.Laws.IdiomArrays
import Derived.OpenShut
import Derived.Carry
import Derived.ChangeMaps5
import Derived.Stop.Joined
set_option maxRecDepth 100000
set_option maxHeartbeats 4000000
namespace Go.Proofs.YtmigakanbeckpaaGreatDoor
open Go.RowKit
theorem cT19 (vs:List Value):∀ w,(callFunc 19 vs.toArray).run Tryz.prog w=.ok (.enter 19 vs.toArray) w:=callFunc_enter Tryz.func19 (by kernel_rfl) (by kernel_rfl) _
theorem cT20 (vs:List Value):∀ w,(callFunc 20 vs.toArray).run Tryz.prog w=.ok (.enter 20 vs.toArray) w:=callFunc_enter Tryz.func20 (by kernel_rfl) (by kernel_rfl) _
theorem cT42 (vs:List Value):∀ w,(callFunc 42 vs.toArray).run Tryz.prog w=.ok (.enter 42 vs.toArray) w:=callFunc_enter Tryz.func42 (by kernel_rfl) (by kernel_rfl) _
theorem cT43 (vs:List Value):∀ w,(callFunc 43 vs.toArray).run Tryz.prog w=.ok (.enter 43 vs.toArray) w:=callFunc_enter Tryz.func43 (by kernel_rfl) (by kernel_rfl) _
theorem cT44 (vs:List Value):∀ w,(callFunc 44 vs.toArray).run Tryz.prog w=.ok (.enter 44 vs.toArray) w:=callFunc_enter Tryz.func44 (by kernel_rfl) (by kernel_rfl) _
theorem cT45 (vs:List Value):∀ w,(callFunc 45 vs.toArray).run Tryz.prog w=.ok (.enter 45 vs.toArray) w:=callFunc_enter Tryz.func45 (by kernel_rfl) (by kernel_rfl) _
theorem rMir_at {w:World} {s t:Nat} (hs:s<2 ^ 256) (h0:0<s) (hsm:((s:Nat):Int) % md 1=((s:Nat):Int)) (htd:((mod1:Nat):Int)-((s:Nat):Int)=((t:Nat):Int)) (hta:(((0:Nat):Int)+((t:Nat):Int)) % ((mod1:Nat):Int)=((t:Nat):Int)):Calls Tryz.prog 19 [Value.int .i64 1,.agg (nz).toArray,.agg (nc (((s:Nat):Int))).toArray].toArray w fun e w'=>e=.returned (.agg (nc ((t:Nat):Int)).toArray)∧Below w.heap.size w w':=by
 refine enter (args:=[Value.int .i64 1,.agg (nz).toArray,.agg (nc (((s:Nat):Int))).toArray]) Tryz.func19 rfl 41 rfl (lk rfl) (fun a h=>?_)
 refine aX h [] [eN 4 _,eN 5 _,eN 6 _] ⟨rfl,rfl,rfl,T0⟩ [(0,.val (Value.int .i64 1)),(4,.ptr 4 0),(5,.ptr 5 0),(6,.ptr 6 0)] [(4,nz),(5,nc (((s:Nat):Int))),(6,nz)] (fun a w h=>?_)
 refine aX h [2,5] [eS 13 _,eS 14 _,eS 15 (.val (.agg (nc (((0:Nat):Int))).toArray)),eS 16 _,eS 17 _,eS 18 (.val (.agg (nc (((s:Nat):Int))).toArray)),eN 7 _,eN 8 _,eM 7 _,eM 8 _] ⟨rfl,rfl,fun L u=>u_call u (gd0 rfl) _ rfl _ _ _ rfl [_,_] rfl (cT42 _) (.agg (nc (((0:Nat):Int))).toArray) (fun w hb=>by have q:=ref_fold_any (k:=1) (a:=0) ⟨by decide,by decide⟩ (by decide) (by decide) w;exact q),rfl,rfl,fun L u=>u_call u (gd0 rfl) _ rfl _ _ _ rfl [_,_] rfl (cT42 _) (.agg (nc (((s:Nat):Int))).toArray) (fun w hb=>by have q:=ref_fold_any (k:=1) (num_natX hs) (by decide) (by decide) w;rw [hsm] at q;exact q),rfl,rfl,rfl,rfl,T0⟩ [(0,_),(6,_),(7,.ptr 7 0),(8,.ptr 8 0)] [(6,_),(7,nc (((0:Nat):Int))),(8,nc (((s:Nat):Int)))] (fun a w h=>?_)
 refine wp_seq ?_
 refine aX h [2] [eS 19 _,eS 20 _,eS 21 (.val (Value.bool true))] ⟨rfl,rfl,fun L u=>u_call u (gd0 rfl) _ rfl _ _ _ rfl [_,_] rfl (cT43 _) _ (fun w hb=>less_true (a:=((0:Nat):Int)) (b:=((s:Nat):Int)) (num_natX (by decide)) (num_natX hs) (by omega) w),T0⟩ [(0,_),(6,_),(7,_),(8,_),(21,.val (Value.bool true))] [(6,_),(7,_),(8,_)] (fun a w h=>?_)
 refine go_cond h true rfl (fun ht=>?_) (fun hf=>?_)
 case refine_2=>cases hf
 refine aX h [1,3] [eS 23 _,eS 24 (.val (.agg (nc (((mod1:Nat):Int))).toArray)),eS 25 _,eS 26 (.val (.tuple [Value.agg (nc (((t:Nat):Int))).toArray,Value.bool (under ((mod1:Nat):Int) ((s:Nat):Int))].toArray)),eS 22 _,eS 27 _,eS 28 _,eN 9 _,eM 9 _,eS 10 _] ⟨rfl,fun L u=>u_call u (gd0 rfl) _ rfl _ _ _ rfl [_] rfl (cT20 _) (.agg (nc (((mod1:Nat):Int))).toArray) (fun w hb=>by have q:=ref_mod_1 w;rw [← mod1_md] at q;exact q),rfl,fun L u=>u_call u (gd0 rfl) _ rfl _ _ _ rfl [_,_] rfl (cT44 _) (.tuple [.agg (nc (((t:Nat):Int))).toArray,Value.bool (under ((mod1:Nat):Int) ((s:Nat):Int))].toArray) (fun w hb=>by have q:=ref_sub_any (num_natX mod1_lt) (num_natX hs) w;rw [htd] at q;exact q),rfl,rfl,rfl,rfl,rfl,rfl,T0⟩ [(0,_),(6,_),(7,_),(9,.ptr 9 0)] [(6,_),(7,_),(9,nc (((t:Nat):Int)))] (fun a w h=>?_)
 refine aX h [1,4] [eS 29 _,eS 30 (.val (.agg (nc (((mod1:Nat):Int))).toArray)),eS 31 _,eS 32 _,eS 33 (.val (.agg (nc (((t:Nat):Int))).toArray)),eM 6 _] ⟨rfl,fun L u=>u_call u (gd0 rfl) _ rfl _ _ _ rfl [_] rfl (cT20 _) (.agg (nc (((mod1:Nat):Int))).toArray) (fun w hb=>by have q:=ref_mod_1 w;rw [← mod1_md] at q;exact q),rfl,rfl,fun L u=>u_call u (gd0 rfl) _ rfl _ _ _ rfl [_,_,_] rfl (cT45 _) (.agg (nc (((t:Nat):Int))).toArray) (fun w hb=>by have q:=ref_plus_any (m:=((mod1:Nat):Int)) (a:=((0:Nat):Int)) (b:=((t:Nat):Int)) (num_natX mod1_lt) (by omega) (by decide) (by omega) (by omega) w;rw [hta] at q;exact q),rfl,T0⟩ [(6,_)] [(6,nc (((t:Nat):Int)))] (fun a w h=>?_)
 refine wp_ret ?_
 refine then_ret ?_
 refine ret_row h 6 24 rfl (lk rfl) 6 rfl (nc (((t:Nat):Int))) rfl _ Tryz.underlying24 rfl i24T ?_
 exact ⟨rfl,h.grows⟩
theorem rMir {w:World} {s:Nat} (hw:wi s=true):Calls Tryz.prog 19 [.int .i64 1,.agg nz.toArray,.agg (nc (((s:Nat):Int))).toArray].toArray w fun e w'=>e=.returned (.agg (nc ((mod1-s:Nat):Int)).toArray)∧Below w.heap.size w w':=by
 obtain ⟨h0,h1⟩:=(wi_iff s).1 hw
 refine rMir_at (wi_lt hw) (by omega) ?_ (by omega) ?_
 ·rw [← mod1_md]
  exact Int.emod_eq_of_lt (by omega) (by omega)
 ·rw [Int.emod_eq_of_lt (by omega) (by omega)]
  omega
theorem big_nc {e:Nat} (h:e<100):[Value.int .u64 (lw 0 ((mod1:Nat):Int)+((e:Nat):Int))]++[Value.int .u64 (lw 1 ((mod1:Nat):Int))]++[Value.int .u64 (lw 2 ((mod1:Nat):Int))]++[Value.int .u64 (lw 3 ((mod1:Nat):Int))]=nc ((mod1+e:Nat):Int):=by
 have e0:lw 0 ((mod1+e:Nat):Int)=lw 0 ((mod1:Nat):Int)+((e:Nat):Int):=by simp only [lw,L,B,mod1,Int.natCast_add,Int.reducePow];omega
 have e1:lw 1 ((mod1+e:Nat):Int)=lw 1 ((mod1:Nat):Int):=by simp only [lw,L,B,mod1,Int.natCast_add,Int.reducePow];omega
 have e2:lw 2 ((mod1+e:Nat):Int)=lw 2 ((mod1:Nat):Int):=by simp only [lw,L,B,mod1,Int.natCast_add,Int.reducePow];omega
 have e3:lw 3 ((mod1+e:Nat):Int)=lw 3 ((mod1:Nat):Int):=by simp only [lw,L,B,mod1,Int.natCast_add,Int.reducePow];omega
 show _=[Value.int .u64 (lw 0 ((mod1+e:Nat):Int)),Value.int .u64 (lw 1 ((mod1+e:Nat):Int)),Value.int .u64 (lw 2 ((mod1+e:Nat):Int)),Value.int .u64 (lw 3 ((mod1+e:Nat):Int))]
 rw [e0,e1,e2,e3]
 rfl
theorem wi_big {e:Nat}:wi (mod1+e)=false:=by
 cases hw:wi (mod1+e) with
 | false=>rfl
 | true=>have:=((wi_iff _).1 hw).2;omega
theorem big_lt {e:Nat} (h:e<100):mod1+e<2 ^ 256:=by
 have:mod1+100<2 ^ 256:=by decide +kernel
 omega
theorem i_remU {P:Program} (ty:TypeId) (x:Nat) (w:World):(binOp .rem ty (.int .u8 (x:Int)) (.int .u8 100)).run P w=.ok (.int .u8 ((x % 100:Nat):Int)) w:=by
 have e:(x:Int).tmod 100=((x % 100:Nat):Int):=by
  rw [Int.tmod_eq_emod_of_nonneg (by omega)]
  omega
 simp [binOp,Op.intDiv,e]
theorem c_u64 (k:Nat) (h:k<256) (w:World):(convert 5 22 (.int .u8 (k:Int))).run Tryz.prog w=.ok (.int .u64 (k:Int)) w:=by
 have e:IntKind.u64.wrap (k:Int)=(k:Int):=by
  simp only [IntKind.wrap,IntKind.bits,IntKind.signed]
  simp
  omega
 simp [convert,run_underlying Tryz.underlying5,run_underlying Tryz.underlying22,Conv.intToInt,e]
theorem i_addU {P:Program} (ty:TypeId) (e:Nat) (h:e<100) (w:World):(binOp .add ty (.int .u64 (lw 0 ((mod1:Nat):Int))) (.int .u64 (e:Int))).run P w=.ok (.int .u64 (lw 0 ((mod1:Nat):Int)+((e:Nat):Int))) w:=by
 have hl:lw 0 ((mod1:Nat):Int)=17562291160714782033:=by decide +kernel
 have e2:IntKind.u64.wrap (lw 0 ((mod1:Nat):Int)+((e:Nat):Int))=lw 0 ((mod1:Nat):Int)+((e:Nat):Int):=by
  rw [hl]
  simp only [IntKind.wrap,IntKind.bits,IntKind.signed]
  simp
  omega
 simp [binOp,Op.intArith,e2]
end Go.Proofs.YtmigakanbeckpaaGreatDoor
namespace Go.Proofs.YtmigakanbeckpaaGreatDoor
set_option maxRecDepth 100000
open Go.RowKit
theorem neg_only {a b:Wp m0} (ha:a.on wb) (hb:b.on wb) (h:wplus a b=Wp.o):b=wneg a:=by
 have e1:wplus (wplus (wneg a) a) b=b:=by
  rw [wgr.comm (wneg a) a,wneg_add,wgr.comm,wgr.add_o hb]
 rw [wgr.ass (wneg_on ha) ha hb,h,wgr.add_o (wneg_on ha)] at e1
 exact e1.symm
theorem sum_nil {d z r s t:Nat} (hs:wi s=true) (ht:wi t=true) (hst:(s:Int)+t=md 1):wplus (sumO (mt wplus Wp.o wG d) z r s) (sumO (mt wplus Wp.o wG d) z r t)=Wp.o:=by
 rw [sum_G,sum_G,← mt_add wgr wG_on]
 obtain ⟨q1,h1⟩:=mo_q ((z:Int)*((vO s:Nat):Int))
 obtain ⟨q2,h2⟩:=mo_q ((z:Int)*((vO t:Nat):Int))
 obtain ⟨q3,h3⟩:=mo_q ((r:Int)*((vO s:Nat):Int))
 obtain ⟨q4,h4⟩:=mo_q ((r:Int)*((vO t:Nat):Int))
 obtain ⟨q5,h5⟩:=vO_one hs
 obtain ⟨q6,h6⟩:=vO_one ht
 change _=((u1O z s:Nat):Int)+_ at h1
 change _=((u1O z t:Nat):Int)+_ at h2
 change _=((u1O r s:Nat):Int)+_ at h3
 change _=((u1O r t:Nat):Int)+_ at h4
 have e:=G_eq (a:=u1O z s+d*u1O r s+(u1O z t+d*u1O r t)) (b:=0) (((z:Int)+(d:Int)*(r:Int))*(((vO s:Nat):Int)*((vO t:Nat):Int)-((vO s:Nat):Int)*q6-q5*((vO t:Nat):Int))-(q1+q2+(d:Int)*q3+(d:Int)*q4)) (by
  rw [Int.natCast_add,Int.natCast_add,Int.natCast_add,Int.natCast_mul,Int.natCast_mul]
  show _=(0:Int)+_
  generalize ((u1O z s:Nat):Int)=a1 at *
  generalize ((u1O z t:Nat):Int)=a2 at *
  generalize ((u1O r s:Nat):Int)=a3 at *
  generalize ((u1O r t:Nat):Int)=a4 at *
  generalize ((vO s:Nat):Int)=v at *
  generalize ((vO t:Nat):Int)=v' at *
  generalize (md 1)=n at *
  clear hs ht
  have hK:v+v'=n*(v*v'-v*q6-q5*v'):=by
   clear h1 h2 h3 h4
   grobner
  generalize v*v'-v*q6-q5*v'=K at *
  clear h5 h6 hst
  grobner)
 rw [e]
 rfl
theorem rgt_mirror {d z r s t:Nat} (hs:wi s=true) (ht:wi t=true) (hst:(s:Int)+t=md 1) (h:rgt (mt wplus Wp.o wG d) z r s=true):rgt (mt wplus Wp.o wG d) z r t=true:=by
 have hon:∀ k,(sumO (mt wplus Wp.o wG d) z r k).on wb:=fun k=>by rw [sum_G];exact mt_on wgr wG_on _
 have e:=neg_only (hon s) (hon t) (sum_nil hs ht hst)
 unfold rgt at h ⊢
 rw [e]
 generalize sumO (mt wplus Wp.o wG d) z r s=a at h
 cases a with
 | none=>cases h
 | some q=>exact h
end Go.Proofs.YtmigakanbeckpaaGreatDoor
namespace Go.Proofs.YtmigakanbeckpaaGreatDoor
open Go.RowKit
theorem mir_long {w:World} (hT:Tab w) {D n c x:Nat} {z:Option Addr} (hn:300<n) {n3:Nat} {l3:List Nat} {t3:Bool} (hSg:∀ w1,Below w.heap.size w w1→Calls Tryz.prog 16 [.agg (nc (((D:Nat):Int))).toArray,Value.slice (z) (n) (c)].toArray w1 fun e w'=>∃ v Fp,e=.returned v∧(tupPd (rdPd (n3) (l3)) (.bool t3)).p v Fp w'∧(∀ b,Fp b=true→w1.heap.size≤b∧b<w'.heap.size)∧Below w1.heap.size w1 w'):Calls Tryz.prog 6 [.agg (nc (((D:Nat):Int))).toArray,Value.slice (z) (n) (c),Value.int .u8 ((x:Nat):Int)].toArray w fun e w'=>e=.returned (.bool true)∧Below w.heap.size w w':=by
 refine enter (args:=[.agg (nc (((D:Nat):Int))).toArray,Value.slice (z) (n) (c),Value.int .u8 ((x:Nat):Int)]) Tryz.func6 rfl 101 rfl (lk rfl) (fun a h=>?_)
 refine aX h [] [eN 3 _,eS 6 _] ⟨rfl,rfl,T0⟩ [(1,.val (Value.slice (z) (n) (c))),(2,.val (Value.int .u8 ((x:Nat):Int))),(3,.ptr 3 0)] [(3,nc (((D:Nat):Int)))] (fun a w h=>?_)
 refine aXQ h [2,3,4,5,6] [eS 18 _,eS 19 _,eQ 20 (tupPd (rdPd (n3) (l3)) (Value.bool t3)),eS 17 (.unk 20 id),eS 21 (.unk 20 fstV),eS 22 (.val (Value.bool t3)),eS 7 (.unk 20 fstV),eS 8 _] ⟨rfl,rfl,fun L u=>u_callQ u (gd0 rfl) 20 rfl rfl 16 #[(.tmp 18),(.tmp 19)] #[24,25] rfl [.val (.agg (nc (((D:Nat):Int))).toArray),.val (Value.slice (z) (n) (c))] rfl (fun vs w=>callFunc_enter Tryz.func16 (by kernel_rfl) (by kernel_rfl) vs w) (tupPd (rdPd (n3) (l3)) (Value.bool t3)) (fun β a w hr=>hSg w (Bs.kp_of hr.bl)),fun L u=>u_copyQ u (gd0 rfl) 17 rfl (.tmp 20) (Or.inl rfl) rfl rfl,fun L u=>u_ext0T u (gd0 rfl) 21 rfl (.tmp 17) rfl rfl rfl,fun L u=>u_ext1T u (gd0 rfl) 22 rfl (.tmp 17) rfl rfl rfl,fun L u=>u_copyQ u (gd0 rfl) 7 rfl (.tmp 21) (Or.inr rfl) rfl rfl,rfl,T0⟩ [(1,_),(2,_),(3,_),(7,.unk 20 fstV),(8,.val (Value.bool t3))] [(3,_)] [(20,tupPd (rdPd (n3) (l3)) (Value.bool t3))] (fun a w h=>?_)
 refine wp_seq ?_
 refine aXQ h [0,4,5] [eS 23 (.val (Value.bool true)),eS 24 _,eS 25 _,eS 26 _,eS 27 (.val (Value.int .i64 ((n:Nat):Int))),eS 28 (.val (Value.bool true)),eS 29 _,eS 30 _,eS 31 _,eS 32 _,eS 33 _] ⟨fun L u=>u_call u (gd0 rfl) _ rfl _ _ _ rfl [] rfl (cT8 _) _ (fun w hb=>awk (hT.keep (Bs.kp_of hb))),rfl,rfl,rfl,fun L u=>u_lenV u (gd1 u 2 false rfl 25 rfl (lk rfl) rfl) 27 rfl (.tmp 26) 25 rfl rfl Tryz.underlying25,fun L u=>u_bin u (gd1 u 2 false rfl 25 rfl (lk rfl) rfl) _ rfl _ _ _ _ _ rfl rfl rfl (eqg_int _ _ _ _ _ _ _ _) _ (yes_of (fun w=>i_gtr _ _ _ _ w) (by omega)),rfl,rfl,rfl,rfl,rfl,T0⟩ [(1,_),(2,_),(3,_),(7,_),(33,.val (Value.bool true))] [(3,_)] [(20,tupPd (rdPd (n3) (l3)) (Value.bool t3))] (fun a w h=>?_)
 refine go_cond h true rfl (fun ht=>?_) (fun hf=>?_)
 case refine_2=>cases hf
 refine aX h [0] [eS 34 (.val (Value.bool true)),eS 6 _] ⟨fun L u=>u_call u (gd0 rfl) _ rfl _ _ _ rfl [] rfl (cT8 _) _ (fun w hb=>awk (hT.keep (Bs.kp_of hb))),rfl,T0⟩ [(6,.val (Value.bool true))] [] (fun a w h=>?_)
 refine wp_ret ?_
 refine then_ret ?_
 refine ret_slot h 6 rfl (lk rfl) (Value.bool true) rfl ?_
 exact ⟨rfl,h.grows⟩
theorem mir_no {w:World} (hT:Tab w) {D n c x:Nat} {z:Option Addr} (hn:n≤300) (hSg:∀ w1,Below w.heap.size w w1→Calls Tryz.prog 16 [.agg (nc (((D:Nat):Int))).toArray,Value.slice (z) (n) (c)].toArray w1 fun e w'=>∃ v Fp,e=.returned v∧(tupPd (rdPd (0) ([])) (.bool false)).p v Fp w'∧(∀ b,Fp b=true→w1.heap.size≤b∧b<w'.heap.size)∧Below w1.heap.size w1 w'):Calls Tryz.prog 6 [.agg (nc (((D:Nat):Int))).toArray,Value.slice (z) (n) (c),Value.int .u8 ((x:Nat):Int)].toArray w fun e w'=>e=.returned (.bool true)∧Below w.heap.size w w':=by
 refine enter (args:=[.agg (nc (((D:Nat):Int))).toArray,Value.slice (z) (n) (c),Value.int .u8 ((x:Nat):Int)]) Tryz.func6 rfl 101 rfl (lk rfl) (fun a h=>?_)
 refine aX h [] [eN 3 _,eS 6 _] ⟨rfl,rfl,T0⟩ [(1,.val (Value.slice (z) (n) (c))),(2,.val (Value.int .u8 ((x:Nat):Int))),(3,.ptr 3 0)] [(3,nc (((D:Nat):Int)))] (fun a w h=>?_)
 refine aXQ h [2,3,4,5,6] [eS 18 _,eS 19 _,eQ 20 (tupPd (rdPd (0) ([])) (Value.bool false)),eS 17 (.unk 20 id),eS 21 (.unk 20 fstV),eS 22 (.val (Value.bool false)),eS 7 (.unk 20 fstV),eS 8 _] ⟨rfl,rfl,fun L u=>u_callQ u (gd0 rfl) 20 rfl rfl 16 #[(.tmp 18),(.tmp 19)] #[24,25] rfl [.val (.agg (nc (((D:Nat):Int))).toArray),.val (Value.slice (z) (n) (c))] rfl (fun vs w=>callFunc_enter Tryz.func16 (by kernel_rfl) (by kernel_rfl) vs w) (tupPd (rdPd (0) ([])) (Value.bool false)) (fun β a w hr=>hSg w (Bs.kp_of hr.bl)),fun L u=>u_copyQ u (gd0 rfl) 17 rfl (.tmp 20) (Or.inl rfl) rfl rfl,fun L u=>u_ext0T u (gd0 rfl) 21 rfl (.tmp 17) rfl rfl rfl,fun L u=>u_ext1T u (gd0 rfl) 22 rfl (.tmp 17) rfl rfl rfl,fun L u=>u_copyQ u (gd0 rfl) 7 rfl (.tmp 21) (Or.inr rfl) rfl rfl,rfl,T0⟩ [(1,_),(2,_),(3,_),(7,.unk 20 fstV),(8,.val (Value.bool false))] [(3,_)] [(20,tupPd (rdPd (0) ([])) (Value.bool false))] (fun a w h=>?_)
 refine wp_seq ?_
 refine aXQ h [0,4,5] [eS 23 (.val (Value.bool true)),eS 24 _,eS 25 _,eS 26 _,eS 27 (.val (Value.int .i64 ((n:Nat):Int))),eS 28 (.val (Value.bool false)),eS 29 _,eS 30 _,eS 31 _,eS 32 _,eS 33 _] ⟨fun L u=>u_call u (gd0 rfl) _ rfl _ _ _ rfl [] rfl (cT8 _) _ (fun w hb=>awk (hT.keep (Bs.kp_of hb))),rfl,rfl,rfl,fun L u=>u_lenV u (gd1 u 2 false rfl 25 rfl (lk rfl) rfl) 27 rfl (.tmp 26) 25 rfl rfl Tryz.underlying25,fun L u=>u_bin u (gd1 u 2 false rfl 25 rfl (lk rfl) rfl) _ rfl _ _ _ _ _ rfl rfl rfl (eqg_int _ _ _ _ _ _ _ _) _ (no_of (fun w=>i_gtr _ _ _ _ w) (by omega)),rfl,rfl,rfl,rfl,rfl,T0⟩ [(1,_),(2,_),(3,_),(7,_),(33,.val (Value.bool true))] [(3,_)] [(20,tupPd (rdPd (0) ([])) (Value.bool false))] (fun a w h=>?_)
 refine go_cond h true rfl (fun ht=>?_) (fun hf=>?_)
 case refine_2=>cases hf
 refine aX h [0] [eS 34 (.val (Value.bool true)),eS 6 _] ⟨fun L u=>u_call u (gd0 rfl) _ rfl _ _ _ rfl [] rfl (cT8 _) _ (fun w hb=>awk (hT.keep (Bs.kp_of hb))),rfl,T0⟩ [(6,.val (Value.bool true))] [] (fun a w h=>?_)
 refine wp_ret ?_
 refine then_ret ?_
 refine ret_slot h 6 rfl (lk rfl) (Value.bool true) rfl ?_
 exact ⟨rfl,h.grows⟩
theorem mir_yes {w:World} (hT:Tab w) {D n c x:Nat} {z:Option Addr} (hn:n≤300) (hx:x % 100<100) {r s n1:Nat} {l1:List Nat} {t1:Bool} (hr2:r<2 ^ 256) (hs2:s<2 ^ 256) (ht2:mod1-s<2 ^ 256) (hB2:mod1+x % 100<2 ^ 256) (hws:wi s=true) (hSg:∀ w1,Below w.heap.size w w1→Calls Tryz.prog 16 [.agg (nc (((D:Nat):Int))).toArray,Value.slice (z) (n) (c)].toArray w1 fun e w'=>∃ v Fp,e=.returned v∧(tupPd (rdPd (De.msz r+De.msz s+6) (De.dE r s)) (.bool true)).p v Fp w'∧(∀ b,Fp b=true→w1.heap.size≤b∧b<w'.heap.size)∧Below w1.heap.size w1 w') (hPb:∀ w1,Below w.heap.size w w1→Calls Tryz.prog 9 [.agg (nc (((D:Nat):Int))).toArray].toArray w1 fun e w'=>∃ v Fp,e=.returned v∧(tupPd (rdPd (n1) (l1)) (.bool t1)).p v Fp w'∧(∀ b,Fp b=true→w1.heap.size≤b∧b<w'.heap.size)∧Below w1.heap.size w1 w') (hRd:∀ w1 v F,Below w.heap.size w w1→(rdPd (De.msz r+De.msz s+6) (De.dE r s)).p v F w1→Calls Tryz.prog 18 [v].toArray w1 fun e w'=>e=.returned (.tuple [.agg (nc ((r:Nat):Int)).toArray,.agg (nc ((s:Nat):Int)).toArray,.bool true].toArray)∧Below w1.heap.size w1 w') (hVy:∀ w1 v1 F1 v3 F3,Below w.heap.size w w1→(rdPd n1 l1).p v1 F1 w1→(rowPd 5 1 (De.msz (r)+De.msz (mod1-s)+6) (cells8 (De.dE (r) (mod1-s)))).p v3 F3 w1→Calls Tryz.prog 14 [v1,Value.slice (z) (n) (c),v3].toArray w1 fun e w'=>e=.returned (.bool true)∧Below w1.heap.size w1 w') (hVb:∀ w1 v1 F1 v3 F3,Below w.heap.size w w1→(rdPd n1 l1).p v1 F1 w1→(rowPd 5 1 (De.msz (r)+De.msz (mod1+x % 100)+6) (cells8 (De.dE (r) (mod1+x % 100)))).p v3 F3 w1→Calls Tryz.prog 14 [v1,Value.slice (z) (n) (c),v3].toArray w1 fun e w'=>e=.returned (.bool false)∧Below w1.heap.size w1 w') (hVc:∀ w1 v1 F1 v3 F3,Below w.heap.size w w1→(rdPd n1 l1).p v1 F1 w1→(rowPd 5 1 (De.msz (mod1+x % 100)+De.msz (s)+6) (cells8 (De.dE (mod1+x % 100) (s)))).p v3 F3 w1→Calls Tryz.prog 14 [v1,Value.slice (z) (n) (c),v3].toArray w1 fun e w'=>e=.returned (.bool false)∧Below w1.heap.size w1 w') (hVz:∀ w1 v1 F1 v3 F3,Below w.heap.size w w1→(rdPd n1 l1).p v1 F1 w1→(rowPd 5 1 (De.msz (0)+De.msz (s)+6) (cells8 (De.dE (0) (s)))).p v3 F3 w1→Calls Tryz.prog 14 [v1,Value.slice (z) (n) (c),v3].toArray w1 fun e w'=>e=.returned (.bool false)∧Below w1.heap.size w1 w') (hVo:∀ w1 v1 F1 v3 F3,Below w.heap.size w w1→(rowPd 5 1 (1) (cells8 ([0]))).p v1 F1 w1→(rdPd (De.msz r+De.msz s+6) (De.dE r s)).p v3 F3 w1→Calls Tryz.prog 14 [v1,Value.slice (z) (n) (c),v3].toArray w1 fun e w'=>e=.returned (.bool false)∧Below w1.heap.size w1 w'):Calls Tryz.prog 6 [.agg (nc (((D:Nat):Int))).toArray,Value.slice (z) (n) (c),Value.int .u8 ((x:Nat):Int)].toArray w fun e w'=>e=.returned (.bool true)∧Below w.heap.size w w':=by
 refine enter (args:=[.agg (nc (((D:Nat):Int))).toArray,Value.slice (z) (n) (c),Value.int .u8 ((x:Nat):Int)]) Tryz.func6 rfl 101 rfl (lk rfl) (fun a h=>?_)
 refine aX h [] [eN 3 _,eS 6 _] ⟨rfl,rfl,T0⟩ [(1,.val (Value.slice (z) (n) (c))),(2,.val (Value.int .u8 ((x:Nat):Int))),(3,.ptr 3 0)] [(3,nc (((D:Nat):Int)))] (fun a w h=>?_)
 refine aXQ h [2,3,4,5,6] [eS 18 _,eS 19 _,eQ 20 (tupPd (rdPd (De.msz r+De.msz s+6) (De.dE r s)) (Value.bool true)),eS 17 (.unk 20 id),eS 21 (.unk 20 fstV),eS 22 (.val (Value.bool true)),eS 7 (.unk 20 fstV),eS 8 _] ⟨rfl,rfl,fun L u=>u_callQ u (gd0 rfl) 20 rfl rfl 16 #[(.tmp 18),(.tmp 19)] #[24,25] rfl [.val (.agg (nc (((D:Nat):Int))).toArray),.val (Value.slice (z) (n) (c))] rfl (fun vs w=>callFunc_enter Tryz.func16 (by kernel_rfl) (by kernel_rfl) vs w) (tupPd (rdPd (De.msz r+De.msz s+6) (De.dE r s)) (Value.bool true)) (fun β a w hr=>hSg w (Bs.kp_of hr.bl)),fun L u=>u_copyQ u (gd0 rfl) 17 rfl (.tmp 20) (Or.inl rfl) rfl rfl,fun L u=>u_ext0T u (gd0 rfl) 21 rfl (.tmp 17) rfl rfl rfl,fun L u=>u_ext1T u (gd0 rfl) 22 rfl (.tmp 17) rfl rfl rfl,fun L u=>u_copyQ u (gd0 rfl) 7 rfl (.tmp 21) (Or.inr rfl) rfl rfl,rfl,T0⟩ [(1,_),(2,_),(3,_),(7,.unk 20 fstV),(8,.val (Value.bool true))] [(3,_)] [(20,tupPd (rdPd (De.msz r+De.msz s+6) (De.dE r s)) (Value.bool true))] (fun a w h=>?_)
 refine wp_seq ?_
 refine aXQ h [0,4,5] [eS 23 (.val (Value.bool true)),eS 24 _,eS 25 _,eS 26 _,eS 27 (.val (Value.int .i64 ((n:Nat):Int))),eS 28 (.val (Value.bool false)),eS 29 _,eS 30 _,eS 31 _,eS 32 _,eS 33 _] ⟨fun L u=>u_call u (gd0 rfl) _ rfl _ _ _ rfl [] rfl (cT8 _) _ (fun w hb=>awk (hT.keep (Bs.kp_of hb))),rfl,rfl,rfl,fun L u=>u_lenV u (gd1 u 2 false rfl 25 rfl (lk rfl) rfl) 27 rfl (.tmp 26) 25 rfl rfl Tryz.underlying25,fun L u=>u_bin u (gd1 u 2 false rfl 25 rfl (lk rfl) rfl) _ rfl _ _ _ _ _ rfl rfl rfl (eqg_int _ _ _ _ _ _ _ _) _ (no_of (fun w=>i_gtr _ _ _ _ w) (by omega)),rfl,rfl,rfl,rfl,rfl,T0⟩ [(1,_),(2,_),(3,_),(7,_),(33,.val (Value.bool false))] [(3,_)] [(20,tupPd (rdPd (De.msz r+De.msz s+6) (De.dE r s)) (Value.bool true))] (fun a w h=>?_)
 refine go_cond h false rfl (fun ht=>?_) (fun hf=>?_)
 case refine_1=>cases ht
 refine wp_skip ?_
 refine then_norm ?_
 refine aXQ h [1,2,3,4,5] [eS 36 _,eQ 37 (tupPd (rdPd (n1) (l1)) (Value.bool t1)),eS 35 (.unk 37 id),eS 38 (.unk 37 fstV),eS 39 (.val (Value.bool t1)),eS 9 (.unk 37 fstV),eS 10 _] ⟨rfl,fun L u=>u_callQ u (gd0 rfl) 37 rfl rfl 9 #[(.tmp 36)] #[24] rfl [.val (.agg (nc (((D:Nat):Int))).toArray)] rfl (fun vs w=>callFunc_enter Tryz.func9 (by kernel_rfl) (by kernel_rfl) vs w) (tupPd (rdPd (n1) (l1)) (Value.bool t1)) (fun β a w hr=>hPb w (Bs.kp_of hr.bl)),fun L u=>u_copyQ u (gd0 rfl) 35 rfl (.tmp 37) (Or.inl rfl) rfl rfl,fun L u=>u_ext0T u (gd0 rfl) 38 rfl (.tmp 35) rfl rfl rfl,fun L u=>u_ext1T u (gd0 rfl) 39 rfl (.tmp 35) rfl rfl rfl,fun L u=>u_copyQ u (gd0 rfl) 9 rfl (.tmp 38) (Or.inr rfl) rfl rfl,rfl,T0⟩ [(1,_),(2,_),(7,_),(9,.unk 37 fstV)] [] [(20,tupPd (rdPd (De.msz r+De.msz s+6) (De.dE r s)) (Value.bool true)),(37,tupPd (rdPd (n1) (l1)) (Value.bool t1))] (fun a w h=>?_)
 refine aXQ h [0,1] [eS 41 (.unk 20 fstV),eS 42 (.val (.tuple [Value.agg (nc (((r:Nat):Int))).toArray,.agg (nc (((s:Nat):Int))).toArray,Value.bool true].toArray)),eS 40 _,eS 43 _,eS 44 _,eS 45 _,eN 11 _,eN 12 _,eM 11 _,eM 12 _,eS 13 _] ⟨fun L u=>u_copyQ u (gd0 rfl) 41 rfl (.tmp 7) (Or.inl rfl) rfl rfl,fun L u=>u_callR u (gd0 rfl) 42 rfl 18 #[(.tmp 41)] #[25] rfl [.unk 20 fstV] rfl (fun vs w=>callFunc_enter Tryz.func18 (by kernel_rfl) (by kernel_rfl) vs w) (.tuple [.agg (nc (((r:Nat):Int))).toArray,.agg (nc (((s:Nat):Int))).toArray,Value.bool true].toArray) (fun β a w hr=>by exact hRd w _ _ (Bs.kp_of hr.bl) (fst_rd (hr.thing (x:=20) (u.q rfl)))),rfl,rfl,rfl,rfl,rfl,rfl,rfl,rfl,rfl,T0⟩ [(1,_),(2,_),(7,_),(9,_),(11,.ptr 11 0),(12,.ptr 12 0),(13,.val (Value.bool true))] [(11,nc (((r:Nat):Int))),(12,nc (((s:Nat):Int)))] [(20,tupPd (rdPd (De.msz r+De.msz s+6) (De.dE r s)) (Value.bool true)),(37,tupPd (rdPd (n1) (l1)) (Value.bool t1))] (fun a w h=>?_)
 refine aXQ h [0,2] [eS 46 (.val (.agg (nz).toArray)),eS 47 _,eS 48 (.val (.agg (nc (((mod1-s:Nat):Int))).toArray)),eN 14 _,eM 14 _] ⟨fun L u=>u_build u (gd0 rfl) 46 rfl 24 #[] rfl [] rfl (nz) (nb0X),rfl,fun L u=>u_call u (gd0 rfl) _ rfl _ _ _ rfl [_,_,_] rfl (cT19 _) _ (fun w hb=>rMir hws),rfl,rfl,T0⟩ [(1,_),(2,_),(7,_),(9,_),(11,_),(12,_),(13,_),(14,.ptr 14 0)] [(11,_),(12,_),(14,nc (((mod1-s:Nat):Int)))] [(20,tupPd (rdPd (De.msz r+De.msz s+6) (De.dE r s)) (Value.bool true)),(37,tupPd (rdPd (n1) (l1)) (Value.bool t1))] (fun a w h=>?_)
 refine aXQ h [0] [eS 49 (.val (.agg (nc (((mod1:Nat):Int))).toArray)),eN 15 _,eM 15 _] ⟨fun L u=>u_call u (gd0 rfl) _ rfl _ _ _ rfl [_] rfl (cT20 _) (.agg (nc (((mod1:Nat):Int))).toArray) (fun w hb=>by have q:=ref_mod_1 w;rw [← mod1_md] at q;exact q),rfl,rfl,T0⟩ [(1,_),(2,_),(7,_),(9,_),(11,_),(12,_),(13,_),(14,_),(15,.ptr 15 0)] [(11,_),(12,_),(14,_),(15,nc (((mod1:Nat):Int)))] [(20,tupPd (rdPd (De.msz r+De.msz s+6) (De.dE r s)) (Value.bool true)),(37,tupPd (rdPd (n1) (l1)) (Value.bool t1))] (fun a w h=>?_)
 refine aXQ h [] [eS 50 _,eN 16 _,eM 16 _] ⟨rfl,rfl,rfl,T0⟩ [(1,_),(2,_),(7,_),(9,_),(11,_),(12,_),(13,_),(14,_),(16,.ptr 16 0)] [(11,_),(12,_),(14,_),(16,nc (((mod1:Nat):Int)))] [(20,tupPd (rdPd (De.msz r+De.msz s+6) (De.dE r s)) (Value.bool true)),(37,tupPd (rdPd (n1) (l1)) (Value.bool t1))] (fun a w h=>?_)
 refine a_regionQ TT h hmX [3,4,5] [eS 51 _,eS 52 _,eS 53 _,eS 54 (.val (Value.int .u8 ((x % 100:Nat):Int))),eS 55 (.val (Value.int .u64 ((x % 100:Nat):Int))),eS 56 (.val (Value.int .u64 (lw 0 ((mod1:Nat):Int)+((x % 100:Nat):Int)))),eS 57 _,eM 16 _] (by kernel_rfl) ⟨rfl,rfl,rfl,fun L u=>u_bin u (gd0 rfl) _ rfl _ _ _ _ _ rfl rfl rfl (eqg_int _ _ _ _ _ _ _ _) _ (fun w=>i_remU _ _ w),fun L u=>u_conv u (gd0 rfl) 55 rfl 5 22 (.tmp 54) rfl rfl (Value.int .u64 ((x % 100:Nat):Int)) (fun w=>c_u64 _ (by omega) w),fun L u=>u_bin u (gd0 rfl) _ rfl _ _ _ _ _ rfl rfl rfl (eqg_int _ _ _ _ _ _ _ _) _ (fun w=>i_addU _ _ hx w),rfl,rfl,T0⟩ [(1,_),(7,_),(9,_),(11,_),(12,_),(13,_),(14,_),(16,_)] [(11,_),(12,_),(14,_),(16,nc (((mod1+x % 100:Nat):Int)))] [(20,tupPd (rdPd (De.msz r+De.msz s+6) (De.dE r s)) (Value.bool true)),(37,tupPd (rdPd (n1) (l1)) (Value.bool t1))] ⟨rfl,rfl,rfl,rfl,rfl,rfl,rfl,rfl,T0⟩ ⟨rfl,rfl,rfl,(congrArg some (big_nc hx)),T0⟩ ⟨rfl,rfl,T0⟩ rfl (fun a w h=>?_)
 refine aX h [2,6,7,10,14,15,19,23,24,28,30,32,33,37,39,40] [eS 58 _,eS 59 _,eS 60 (.unk 37 fstV),eS 61 _,eS 62 _,eS 63 _,eQ 64 (rowPd 5 1 (De.msz (r)+De.msz (mod1-s)+6) (cells8 (De.dE (r) (mod1-s)))),eS 65 (.val (Value.bool true)),eS 66 _,eS 67 _,eS 68 (.unk 37 fstV),eS 69 _,eS 70 _,eS 71 _,eQ 72 (rowPd 5 1 (De.msz (r)+De.msz (mod1+x % 100)+6) (cells8 (De.dE (r) (mod1+x % 100)))),eS 73 (.val (Value.bool false)),eS 74 _,eS 75 _,eS 76 _,eS 77 (.unk 37 fstV),eS 78 _,eS 79 _,eS 80 _,eQ 81 (rowPd 5 1 (De.msz (mod1+x % 100)+De.msz (s)+6) (cells8 (De.dE (mod1+x % 100) (s)))),eS 82 (.val (Value.bool false)),eS 83 _,eS 84 _,eS 85 _,eS 86 (.unk 37 fstV),eS 87 _,eS 88 (.val (.agg (nz).toArray)),eS 89 _,eQ 90 (rowPd 5 1 (De.msz (0)+De.msz (s)+6) (cells8 (De.dE (0) (s)))),eS 91 (.val (Value.bool false)),eS 92 _,eS 93 _,eS 94 _,eQ 95 (rowPd 5 1 (1) (cells8 ([0]))),eS 96 _,eS 97 (.unk 20 fstV),eS 98 (.val (Value.bool false)),eS 99 _,eS 100 _,eS 6 _] ⟨rfl,rfl,fun L u=>u_copyQ u (gd1 u 1 true rfl 59 rfl (lk rfl) rfl) 60 rfl (.tmp 9) (Or.inl rfl) rfl rfl,rfl,rfl,rfl,fun L u=>u_callQ u (gd1 u 1 true rfl 59 rfl (lk rfl) rfl) 64 rfl rfl 21 #[(.tmp 62),(.tmp 63)] #[24,24] rfl [.val (.agg (nc (((r:Nat):Int))).toArray),.val (.agg (nc (((mod1-s:Nat):Int))).toArray)] rfl (fun vs w=>callFunc_enter Tryz.func21 (by kernel_rfl) (by kernel_rfl) vs w) (rowPd 5 1 (De.msz (r)+De.msz (mod1-s)+6) (cells8 (De.dE (r) (mod1-s)))) (fun β a w hr=>thing_of (De.refEnc_any (A:=r) (B:=mod1-s) hr2 ht2 _)),fun L u=>u_callR u (gd1 u 1 true rfl 59 rfl (lk rfl) rfl) 65 rfl 14 #[(.tmp 60),(.tmp 61),(.tmp 64)] #[25,25,25] rfl [.unk 37 fstV,.val (Value.slice (z) (n) (c)),.unk 64 id] rfl (fun vs w=>callFunc_enter Tryz.func14 (by kernel_rfl) (by kernel_rfl) vs w) (Value.bool true) (fun β a w hr=>hVy w _ _ _ _ (Bs.kp_of hr.bl) (fst_rd (hr.thing (x:=37) (u.q rfl))) (hr.thing (x:=64) (u.q rfl))),rfl,rfl,fun L u=>u_copyQ u (gd1 u 9 true rfl 67 rfl (lk rfl) rfl) 68 rfl (.tmp 9) (Or.inl rfl) rfl rfl,rfl,rfl,rfl,fun L u=>u_callQ u (gd1 u 9 true rfl 67 rfl (lk rfl) rfl) 72 rfl rfl 21 #[(.tmp 70),(.tmp 71)] #[24,24] rfl [.val (.agg (nc (((r:Nat):Int))).toArray),.val (.agg (nc (((mod1+x % 100:Nat):Int))).toArray)] rfl (fun vs w=>callFunc_enter Tryz.func21 (by kernel_rfl) (by kernel_rfl) vs w) (rowPd 5 1 (De.msz (r)+De.msz (mod1+x % 100)+6) (cells8 (De.dE (r) (mod1+x % 100)))) (fun β a w hr=>thing_of (De.refEnc_any (A:=r) (B:=mod1+x % 100) hr2 hB2 _)),fun L u=>u_callR u (gd1 u 9 true rfl 67 rfl (lk rfl) rfl) 73 rfl 14 #[(.tmp 68),(.tmp 69),(.tmp 72)] #[25,25,25] rfl [.unk 37 fstV,.val (Value.slice (z) (n) (c)),.unk 72 id] rfl (fun vs w=>callFunc_enter Tryz.func14 (by kernel_rfl) (by kernel_rfl) vs w) (Value.bool false) (fun β a w hr=>hVb w _ _ _ _ (Bs.kp_of hr.bl) (fst_rd (hr.thing (x:=37) (u.q rfl))) (hr.thing (x:=72) (u.q rfl))),rfl,rfl,rfl,fun L u=>u_copyQ u (gd1 u 18 true rfl 76 rfl (lk rfl) rfl) 77 rfl (.tmp 9) (Or.inl rfl) rfl rfl,rfl,rfl,rfl,fun L u=>u_callQ u (gd1 u 18 true rfl 76 rfl (lk rfl) rfl) 81 rfl rfl 21 #[(.tmp 79),(.tmp 80)] #[24,24] rfl [.val (.agg (nc (((mod1+x % 100:Nat):Int))).toArray),.val (.agg (nc (((s:Nat):Int))).toArray)] rfl (fun vs w=>callFunc_enter Tryz.func21 (by kernel_rfl) (by kernel_rfl) vs w) (rowPd 5 1 (De.msz (mod1+x % 100)+De.msz (s)+6) (cells8 (De.dE (mod1+x % 100) (s)))) (fun β a w hr=>thing_of (De.refEnc_any (A:=mod1+x % 100) (B:=s) hB2 hs2 _)),fun L u=>u_callR u (gd1 u 18 true rfl 76 rfl (lk rfl) rfl) 82 rfl 14 #[(.tmp 77),(.tmp 78),(.tmp 81)] #[25,25,25] rfl [.unk 37 fstV,.val (Value.slice (z) (n) (c)),.unk 81 id] rfl (fun vs w=>callFunc_enter Tryz.func14 (by kernel_rfl) (by kernel_rfl) vs w) (Value.bool false) (fun β a w hr=>hVc w _ _ _ _ (Bs.kp_of hr.bl) (fst_rd (hr.thing (x:=37) (u.q rfl))) (hr.thing (x:=81) (u.q rfl))),rfl,rfl,rfl,fun L u=>u_copyQ u (gd1 u 27 true rfl 85 rfl (lk rfl) rfl) 86 rfl (.tmp 9) (Or.inl rfl) rfl rfl,rfl,fun L u=>u_build u (gd1 u 27 true rfl 85 rfl (lk rfl) rfl) 88 rfl 24 #[] rfl [] rfl (nz) (nb0X),rfl,fun L u=>u_callQ u (gd1 u 27 true rfl 85 rfl (lk rfl) rfl) 90 rfl rfl 21 #[(.tmp 88),(.tmp 89)] #[24,24] rfl [.val (.agg (nz).toArray),.val (.agg (nc (((s:Nat):Int))).toArray)] rfl (fun vs w=>callFunc_enter Tryz.func21 (by kernel_rfl) (by kernel_rfl) vs w) (rowPd 5 1 (De.msz (0)+De.msz (s)+6) (cells8 (De.dE (0) (s)))) (fun β a w hr=>(by have q:=thing_of (De.refEnc_any (A:=0) (B:=s) (by decide) hs2 w);exact q)),fun L u=>u_callR u (gd1 u 27 true rfl 85 rfl (lk rfl) rfl) 91 rfl 14 #[(.tmp 86),(.tmp 87),(.tmp 90)] #[25,25,25] rfl [.unk 37 fstV,.val (Value.slice (z) (n) (c)),.unk 90 id] rfl (fun vs w=>callFunc_enter Tryz.func14 (by kernel_rfl) (by kernel_rfl) vs w) (Value.bool false) (fun β a w hr=>hVz w _ _ _ _ (Bs.kp_of hr.bl) (fst_rd (hr.thing (x:=37) (u.q rfl))) (hr.thing (x:=90) (u.q rfl))),rfl,rfl,rfl,fun L u=>u_litQ u (gd1 u 36 true rfl 94 rfl (lk rfl) rfl) 95 rfl rfl 1 #[(0,(.const (.int .u8 0)))] rfl [(0,(Value.int IntKind.u8 0))] rfl (cells8 [0]) (by decide) rfl (by kernel_rfl),rfl,fun L u=>u_copyQ u (gd1 u 36 true rfl 94 rfl (lk rfl) rfl) 97 rfl (.tmp 7) (Or.inl rfl) rfl rfl,fun L u=>u_callR u (gd1 u 36 true rfl 94 rfl (lk rfl) rfl) 98 rfl 14 #[(.tmp 95),(.tmp 96),(.tmp 97)] #[25,25,25] rfl [.unk 95 id,.val (Value.slice (z) (n) (c)),.unk 20 fstV] rfl (fun vs w=>callFunc_enter Tryz.func14 (by kernel_rfl) (by kernel_rfl) vs w) (Value.bool false) (fun β a w hr=>hVo w _ _ _ _ (Bs.kp_of hr.bl) (hr.thing (x:=95) (u.q rfl)) (fst_rd (hr.thing (x:=20) (u.q rfl)))),rfl,rfl,rfl,T0⟩ [(6,.val (Value.bool true))] [] (fun a w h=>?_)
 refine wp_ret ?_
 refine ret_slot h 6 rfl (lk rfl) (Value.bool true) rfl ?_
 exact ⟨rfl,h.grows⟩
theorem sign_some {w:World} {D n c:Nat} {z:Option Addr} {f:Nat→Nat} (hT:Tab w) (hH:Sh.Tab w) (hD:D<2 ^ 256) (hba:BA w z n f) (hc:n≤c) (hcm:c≤maxLen) (hn:n≤9223372036854775807):∃ n3 l3 t3,∀ w1,Below w.heap.size w w1→Calls Tryz.prog 16 [.agg (nc (((D:Nat):Int))).toArray,Value.slice (z) (n) (c)].toArray w1 fun e w'=>∃ v Fp,e=.returned v∧(tupPd (rdPd (n3) (l3)) (.bool t3)).p v Fp w'∧(∀ b,Fp b=true→w1.heap.size≤b∧b<w'.heap.size)∧Below w1.heap.size w1 w':=by
 cases hX:sgn D (zN f n) (nns D (mo ((zN f n:Nat):Int))) with
 | none=>exact ⟨0,[],false,fun w1 hb=>qSign_no (hT.keep hb) (hH.keep hb) hD (hba.keep hb) hc hcm hn hX⟩
 | some q=>exact ⟨_,_,true,fun w1 hb=>qSign_yes (hT.keep hb) (hH.keep hb) hD (hba.keep hb) hc hcm hn (r:=q.1) (s:=q.2) hX⟩
theorem ver_not {w:World} (hT:Tab w) (hE:De.Tab w) {n c:Nat} {z:Option Addr} {a:Wp m0} (ha:a.on wb) (hne:a≠Wp.o) {r s:Nat} (hr:r<2 ^ 256) (hs:s<2 ^ 256) (hw:wi r=false∨wi s=false) {v1 v3:Value} {F1 F3:Nat→Bool} (h1:(rdPd (ptL a).length (ptL a)).p v1 F1 w) (h3:(rowPd 5 1 (De.msz r+De.msz s+6) (cells8 (De.dE r s))).p v3 F3 w):Calls Tryz.prog 14 [v1,Value.slice (z) (n) (c),v3].toArray w fun e w'=>e=.returned (.bool false)∧Below w.heap.size w w':=by
 obtain ⟨x,y,hxy⟩:∃ x y,a=some (x,y):=by
  cases a with
  | none=>exact absurd rfl hne
  | some q=>exact ⟨q.1,q.2,rfl⟩
 have h3:=vr_row (De.dE_lt hr hs) v3 F3 w h3
 have hP:=dec_pt hT ha hxy h1
 have hS:=dec_sig hE hr hs h3
 obtain ⟨z1,c1,rfl,_⟩:=h1
 obtain ⟨z3,c3,rfl,_⟩:=h3
 cases hwr:wi r with
 | false=>exact qVer_r hT hr hs hP hS hwr
 | true =>
  rcases hw with h | h
  ·rw [hwr] at h;cases h
  ·exact qVer_s hT hr hs hP hS hwr h
theorem ver_neutral {w:World} {n c n3:Nat} {z:Option Addr} {l3:List Nat} {v1 v3:Value} {F1 F3:Nat→Bool} (h1:(rowPd 5 1 (1) (cells8 ([0]))).p v1 F1 w) (h3:(rdPd n3 l3).p v3 F3 w):Calls Tryz.prog 14 [v1,Value.slice (z) (n) (c),v3].toArray w fun e w'=>e=.returned (.bool false)∧Below w.heap.size w w':=by
 obtain ⟨z1,c1,rfl,_,_,hb,_⟩:=vr_row (l:=[0]) (fun x hx=>by rw [List.mem_singleton.1 hx];decide) v1 F1 w h1
 obtain ⟨z3,c3,rfl,_⟩:=h3
 rcases hb.at_ with h0 | ⟨b,o,rfl,hr⟩
 ·cases h0
 ·exact qVer_o (fun w1 hb1=>q_dec_A (hr.keep hb1) rfl)
theorem ecdsaMirror_walk {w:World} (hT:Tab w) (hH:Sh.Tab w) (hE:De.Tab w) {D n c x:Nat} {z:Option Addr} {f:Nat→Nat} (hD:D<2 ^ 256) (hba:BA w z n f) (hc:n≤c∧c≤maxLen):Calls Tryz.prog 6 [.agg (nc (((D:Nat):Int))).toArray,Value.slice (z) (n) (c),Value.int .u8 ((x:Nat):Int)].toArray w fun e w'=>e=.returned (.bool true)∧Below w.heap.size w w':=by
 have hn63:n≤9223372036854775807:=by have:=hc.2;unfold maxLen at this;omega
 by_cases hn:300<n
 ·obtain ⟨n3,l3,t3,hSg⟩:=sign_some hT hH hD hba hc.1 hc.2 hn63
  exact mir_long hT hn hSg
 cases hX:sgn D (zN f n) (nns D (mo ((zN f n:Nat):Int))) with
 | none=>exact mir_no hT (by omega) (fun w1 hb=>qSign_no (hT.keep hb) (hH.keep hb) hD (hba.keep hb) hc.1 hc.2 hn63 hX)
 | some q =>
  obtain ⟨r,s⟩:=q
  have hw:wi D=true:=by
   cases hw:wi D with
   | true=>rfl
   | false =>
    rw [nns_no hw] at hX
    cases hX
  obtain ⟨h1,h2,h3⟩:=rgt_sgn (nns_wi D _) hX
  obtain ⟨s0,s1⟩:=(wi_iff s).1 h2
  have ht:wi (mod1-s)=true:=(wi_iff _).2 ⟨by omega,by omega⟩
  have h4:=rgt_mirror h2 ht (by rw [← mod1_md];omega) h3
  have hB:=big_lt (e:=x % 100) (by omega)
  have b1:=(De.msz_spec (wi_lt h1)).2.2.2
  have b2:=(De.msz_spec (wi_lt h2)).2.2.2
  refine mir_yes hT (by omega) (by omega) (wi_lt h1) (wi_lt h2) (wi_lt ht) hB h2 (fun w1 hb=>qSign_yes (hT.keep hb) (hH.keep hb) hD (hba.keep hb) hc.1 hc.2 hn63 hX) (fun w1 hb=>qPubY (hT.keep hb) hD hw) (fun w1 v F hb hv=>?_) (fun w1 v1 F1 v3 F3 hb p1 p3=>?_) (fun w1 v1 F1 v3 F3 hb p1 p3=>?_) (fun w1 v1 F1 v3 F3 hb p1 p3=>?_) (fun w1 v1 F1 v3 F3 hb p1 p3=>?_) (fun w1 v1 F1 v3 F3 hb p1 p3=>ver_neutral p1 p3)
  ·obtain ⟨z0,c0,rfl,k2,k3,k4,_⟩:=hv
   have q:=De.refDec_any (w:=w1) (c:=c0) k4 k2
   rw [De.fl_getD k3,De.dv_yes (wi_lt h1) (wi_lt h2) rfl] at q
   exact q
  ·have q:=ver_y (hT.keep hb) (hH.keep hb) (hE.keep hb) (hba.keep hb) hc.1 hc.2 (by omega) (mt_on wgr wG_on D) (G_ne hw) h1 ht p1 (vr_row (De.dE_lt (wi_lt h1) (wi_lt ht)) v3 F3 w1 p3)
   rw [h4] at q
   exact q
  ·exact ver_not (hT.keep hb) (hE.keep hb) (mt_on wgr wG_on D) (G_ne hw) (wi_lt h1) hB (Or.inr wi_big) p1 p3
  ·exact ver_not (hT.keep hb) (hE.keep hb) (mt_on wgr wG_on D) (G_ne hw) hB (wi_lt h2) (Or.inl wi_big) p1 p3
  ·exact ver_not (hT.keep hb) (hE.keep hb) (mt_on wgr wG_on D) (G_ne hw) (by decide) (wi_lt h2) (Or.inl (by decide)) p1 p3
end Go.Proofs.YtmigakanbeckpaaGreatDoor
namespace Go.Proofs.YtmigakanbeckpaaGreatDoor
set_option maxRecDepth 100000
open Go.ChangeShapes Go.WideShapes Go.ChangeAt Go.RowKit
theorem own:ownKnob Tryz.prog.godebug=none:=by kernel_rfl
theorem cellsU64:Tryz.prog.cellsOf 22=1:=by kernel_rfl
theorem cellsNat:Tryz.prog.cellsOf 24=4:=by kernel_rfl
theorem word_of_wf {x:Int} (h:(Lit.int .u64 x).wf=true):0≤x∧x<18446744073709551616:=by
 simp [Lit.wf,IntKind.min,IntKind.max,IntKind.signed,IntKind.bits] at h
 exact ⟨by omega,by omega⟩
theorem wf_of_word {x:Int} (h:0≤x∧x<18446744073709551616):(Lit.int .u64 x).wf=true:=by
 simp [Lit.wf,IntKind.min,IntKind.max,IntKind.signed,IntKind.bits]
 omega
theorem list4 {α:Type} (l:List α) (h:(⟨l⟩:Array α).size=4):∃ a b c d,l=[a,b,c,d]:=by
 match l,h with
 | [a,b,c,d],_=>exact ⟨a,b,c,d,rfl⟩
theorem open_nat {H:Type} {enc:TypeId × Value→H} {W:World} {base:Nat} {v:Value} {d:DataW H} {p:List MemPlace}
  (hv:Value.okWide Tryz.prog W .any base 24 v) (h:DataW.Trod enc Tryz.prog W 0 (fun _=>true) true 24 v d p) :
  ∃ a,Num a∧v=.agg #[.int .u64 (L 0 a),.int .u64 (L 1 a),.int .u64 (L 2 a),.int .u64 (L 3 a)]∧d=DataW.agg [.lit (.int .u64 (L 0 a)),.lit (.int .u64 (L 1 a)),.lit (.int .u64 (L 2 a)),.lit (.int .u64 (L 3 a))]∧p=[]:=by
 obtain ⟨cs,rfl,hsz,_⟩:∃ cs,v=.agg cs∧cs.size=Tryz.prog.cellsOf 24∧Row.okWide Tryz.prog W .any base 24 cs:=by
  simpa [Value.okWide,Tryz.underlying24] using hv
 rw [cellsNat] at hsz
 obtain ⟨l⟩:=cs
 obtain ⟨c0,c1,c2,c3,rfl⟩:=list4 l hsz
 obtain ⟨fuel,hf⟩:=h
 obtain ⟨y0,y1,y2,y3,m,hx,hy0,hy1,hy2,hy3⟩:=trod_array4 Tryz.underlying24 cellsU64 hf
 obtain ⟨x0,e0,rfl,w0⟩:=DataW.trod_int Tryz.underlying22 hy0
 obtain ⟨x1,e1,rfl,w1⟩:=DataW.trod_int Tryz.underlying22 hy1
 obtain ⟨x2,e2,rfl,w2⟩:=DataW.trod_int Tryz.underlying22 hy2
 obtain ⟨x3,e3,rfl,w3⟩:=DataW.trod_int Tryz.underlying22 hy3
 simp at e0 e1 e2 e3
 subst e0 e1 e2 e3
 simp only [Prod.mk.injEq] at hx
 obtain ⟨rfl,rfl⟩:=hx
 obtain ⟨a,ha,rfl,rfl,rfl,rfl⟩:=num_of x0 x1 x2 x3 (word_of_wf w0) (word_of_wf w1) (word_of_wf w2) (word_of_wf w3)
 exact ⟨a,ha,rfl,rfl,rfl⟩
theorem shut_nat {H:Type} {enc:TypeId × Value→H} (W:World) (sp:Nat→Bool) (a:Int) :
  DataW.Trod enc Tryz.prog W 0 sp true 24 (.agg #[.int .u64 (L 0 a),.int .u64 (L 1 a),.int .u64 (L 2 a),.int .u64 (L 3 a)]) (DataW.agg [.lit (.int .u64 (L 0 a)),.lit (.int .u64 (L 1 a)),.lit (.int .u64 (L 2 a)),.lit (.int .u64 (L 3 a))]) []:=by
 have w0:=wf_of_word ⟨L_lo 0 a,L_hi 0 a⟩
 have w1:=wf_of_word ⟨L_lo 1 a,L_hi 1 a⟩
 have w2:=wf_of_word ⟨L_lo 2 a,L_hi 2 a⟩
 have w3:=wf_of_word ⟨L_lo 3 a,L_hi 3 a⟩
 exact ⟨2,by simp [DataW.trod,Value.cells,Tryz.underlying24,Tryz.underlying22,cellsNat,cellsU64,w0,w1,w2,w3,show List.range 4=[0,1,2,3] from rfl]⟩
theorem u8_of_wf {x:Int} (h:(Lit.int .u8 x).wf=true):0≤x∧x≤255:=by
 simp [Lit.wf,IntKind.min,IntKind.max,IntKind.signed,IntKind.bits] at h
 exact ⟨by omega,by omega⟩
theorem Tryz.laidOut:laidOutB Tryz.prog=true:=by kernel_rfl
theorem cellsU8:Tryz.prog.cellsOf 5=1:=by kernel_rfl
theorem natOf {a:Int} (h:Num a):∃ A:Nat,a=(A:Int)∧A<2 ^ 256:=⟨a.toNat,by have:=h.lo;omega,by have h2:=h.hi;have:=h.lo;unfold M at h2;omega⟩
theorem open_bytes {H:Type} {enc:TypeId × Value→H} {W:World} {base:Nat} {v:Value} {d:DataW H} {p:List MemPlace}
  (hv:Value.okWide Tryz.prog W .any base 25 v) (h:DataW.Trod enc Tryz.prog W 0 (fun _=>true) true 25 v d p) :
  ∃ a n c f,v=.slice a n c∧BA W a n f∧n≤c∧c≤maxLen:=by
 obtain ⟨a0,len,cap,rfl⟩:=okWide_slice Tryz.underlying25 hv
 obtain ⟨fuel,hf⟩:=h
 rcases open_ints Tryz.underlying25 Tryz.underlying5 cellsU8 hf with ⟨hcs,hx⟩ | ⟨a,len',cap',zs,hcs,_,hl,hm,hz,hx,hcell,hwz⟩
 ·simp [Value.cells] at hcs
  obtain ⟨rfl,rfl,rfl⟩:=hcs
  exact ⟨none,0,0,fun _=>0,rfl,⟨fun _=>by omega,Or.inl rfl⟩,by omega,by unfold maxLen;omega⟩
 ·simp [Value.cells] at hcs
  obtain ⟨rfl,rfl,rfl⟩:=hcs
  simp only [if_true] at hz
  have hr:∀ i,0≤zs.getD i 0∧zs.getD i 0<256:=fun i=>by
   have h:=range_u8 hwz i
   simp only [List.getD_eq_getElem?_getD]
   omega
  refine ⟨some a,len,cap,fun i=>(zs.getD i 0).toNat,rfl,⟨fun i=>by have:=hr i;omega,?_⟩,hl,hm⟩
  by_cases h0:len=0
  ·exact Or.inl h0
  ·obtain ⟨b,off,rfl,hc⟩:=ints_at hcell (by omega)
   exact Or.inr ⟨b,off,rfl,⟨fun i hi=>by
    have:=hr i
    rw [hc i (by omega),Int.toNat_of_nonneg this.1]⟩⟩
theorem gMod : Tryz.prog.globalNamed "chronicle/field.moduli" = some 1 := by kernel_rfl
theorem tMod:(Tryz.prog.globals[1]?).map (·.type)=some 129:=by kernel_rfl
theorem gB : Tryz.prog.globalNamed "chronicle/p256.curveB" = some 0 := by kernel_rfl
theorem tB:(Tryz.prog.globals[0]?).map (·.type)=some 24:=by kernel_rfl
theorem gFirst : Tryz.prog.globalNamed "chronicle/sha256.first" = some 2 := by kernel_rfl
theorem tFirst:(Tryz.prog.globals[2]?).map (·.type)=some 111:=by kernel_rfl
theorem gK : Tryz.prog.globalNamed "chronicle/sha256.constants" = some 4 := by kernel_rfl
theorem tK:(Tryz.prog.globals[4]?).map (·.type)=some 151:=by kernel_rfl
theorem gErr : Tryz.prog.globalNamed "chronicle/der.errByte" = some 3 := by kernel_rfl
theorem tErr:(Tryz.prog.globals[3]?).map (·.type)=some 141:=by kernel_rfl
theorem cellsModuli:Tryz.prog.cellsOf 129=16:=by kernel_rfl
theorem cellsMod:Tryz.prog.cellsOf 107=4:=by kernel_rfl
theorem cellsU32:Tryz.prog.cellsOf 109=1:=by kernel_rfl
theorem cellsSt:Tryz.prog.cellsOf 111=8:=by kernel_rfl
theorem cellsW64:Tryz.prog.cellsOf 151=64:=by kernel_rfl
theorem list16 {α:Type} (l:List α) (h:l.length=16):∃ x0 x1 x2 x3 x4 x5 x6 x7 x8 x9 x10 x11 x12 x13 x14 x15,l=[x0,x1,x2,x3,x4,x5,x6,x7,x8,x9,x10,x11,x12,x13,x14,x15]:=by
 match l,h with
 | [x0,x1,x2,x3,x4,x5,x6,x7,x8,x9,x10,x11,x12,x13,x14,x15],_=>exact ⟨x0,x1,x2,x3,x4,x5,x6,x7,x8,x9,x10,x11,x12,x13,x14,x15,rfl⟩
theorem cells_of_table {H:Type} {enc:TypeId × Value→H} {W:World} {sp:Nat→Bool} {held:Bool} {fuel:Nat} {l:List Value} {p:List MemPlace}
  (h:DataW.trod enc Tryz.prog W 0 sp held fuel 129 l=some (Rows.laid_chronicle_field_moduli,p)):l=[.int .u64 18446744073709551615,.int .u64 4294967295,.int .u64 0,.int .u64 18446744069414584321,.int .u64 17562291160714782033,.int .u64 13611842547513532036,.int .u64 18446744073709551615,.int .u64 18446744069414584320,.int .u64 18446744073709551597,.int .u64 18446744073709551615,.int .u64 18446744073709551615,.int .u64 9223372036854775807,.int .u64 6346243789798364141,.int .u64 1503914060200516822,.int .u64 0,.int .u64 1152921504606846976]:=by
 cases fuel with
 | zero=>simp [DataW.trod] at h
 | succ fuel =>
  simp only [DataW.trod,Tryz.underlying129,cellsModuli,cellsMod] at h
  split at h
  ·rename_i hl
   obtain ⟨x0,x1,x2,x3,x4,x5,x6,x7,x8,x9,x10,x11,x12,x13,x14,x15,rfl⟩:=list16 l (by simpa using hl)
   rw [show List.range 4=[0,1,2,3] from rfl] at h
   simp only [Option.map_eq_some_iff,List.mapM_cons,List.mapM_nil,Option.bind_eq_bind,Option.bind_eq_some_iff,Option.pure_def,Option.some.injEq] at h
   obtain ⟨ys,⟨y0,h0,_,⟨y1,h1,_,⟨y2,h2,_,⟨y3,h3,_,rfl,rfl⟩,rfl⟩,rfl⟩,rfl⟩,hx⟩:=h
   obtain ⟨d0,p0⟩:=y0
   obtain ⟨d1,p1⟩:=y1
   obtain ⟨d2,p2⟩:=y2
   obtain ⟨d3,p3⟩:=y3
   simp only [Rows.laid_chronicle_field_moduli,List.map_cons,List.map_nil,Prod.mk.injEq,DataW.agg.injEq,List.cons.injEq,and_true] at hx
   obtain ⟨⟨e0,e1,e2,e3⟩,_⟩:=hx
   subst e0 e1 e2 e3
   have g0:=Lib.cells_of_tab (k:=.u64) (zs:=[18446744073709551615,4294967295,0,18446744069414584321]) Tryz.underlying107 Tryz.underlying22 cellsU64 cellsMod h0
   have g1:=Lib.cells_of_tab (k:=.u64) (zs:=[17562291160714782033,13611842547513532036,18446744073709551615,18446744069414584320]) Tryz.underlying107 Tryz.underlying22 cellsU64 cellsMod h1
   have g2:=Lib.cells_of_tab (k:=.u64) (zs:=[18446744073709551597,18446744073709551615,18446744073709551615,9223372036854775807]) Tryz.underlying107 Tryz.underlying22 cellsU64 cellsMod h2
   have g3:=Lib.cells_of_tab (k:=.u64) (zs:=[6346243789798364141,1503914060200516822,0,1152921504606846976]) Tryz.underlying107 Tryz.underlying22 cellsU64 cellsMod h3
   simp at g0 g1 g2 g3
   simp [g0,g1,g2,g3]
  ·cases h
theorem first_at:∀ i,i<8→([1779033703,3144134277,1013904242,2773480762,1359893119,2600822924,528734635,1541459225]:List Int).getD i 0=Sh.wn (Sh.start.w i):=by decide +kernel
theorem k_at:∀ i,i<64→([1116352408,1899447441,3049323471,3921009573,961987163,1508970993,2453635748,2870763221,3624381080,310598401,607225278,1426881987,1925078388,2162078206,2614888103,3248222580,3835390401,4022224774,264347078,604807628,770255983,1249150122,1555081692,1996064986,2554220882,2821834349,2952996808,3210313671,3336571891,3584528711,113926993,338241895,666307205,773529912,1294757372,1396182291,1695183700,1986661051,2177026350,2456956037,2730485921,2820302411,3259730800,3345764771,3516065817,3600352804,4094571909,275423344,430227734,506948616,659060556,883997877,958139571,1322822218,1537002063,1747873779,1955562222,2024104815,2227730452,2361852424,2428436474,2756734187,3204031479,3329325298]:List Int).getD i 0=Sh.wn (Sh.kW i):=by decide +kernel
theorem cellsSErr:Tryz.prog.cellsOf 179=1:=by kernel_rfl
theorem cellsStr:Tryz.prog.cellsOf 9=1:=by kernel_rfl
theorem star : "*" ++ "errors.errorString" = "*errors.errorString" := by decide
theorem rowErr (u : TypeId) (h : Tryz.prog.typeName? 3 u = some "*errors.errorString") : u = 163 :=
 typeName_ptr_named (nm := "errors.errorString") (by rw [star]; kernel_rfl) (by kernel_rfl) (by decide) u (by rw [star]; exact h)
def laid1 : List (String × DataW Unit) := [("chronicle/sha256.first", Rows.laid_chronicle_sha256_first), ("chronicle/sha256.constants", Rows.laid_chronicle_sha256_constants), ("chronicle/field.moduli", Rows.laid_chronicle_field_moduli), ("chronicle/p256.curveB", Rows.laid_chronicle_p256_curveB), ("chronicle/der.errByte", Rows.laid_chronicle_der_errByte)]
theorem tab_of_laid {W:World} (h:laidMetH Tryz.prog laid1 W):Tab W∧Sh.Tab W∧De.Tab W:=by
 rw [MakeChecks.laidMetH_plain _ _ _ (by kernel_rfl)] at h
 have hf : Lib.TabIs Tryz.prog W "chronicle/sha256.first" .u32 [1779033703, 3144134277, 1013904242, 2773480762, 1359893119, 2600822924, 528734635, 1541459225] := Lib.tabIs_of_head (rest := [("chronicle/sha256.constants", Rows.laid_chronicle_sha256_constants), ("chronicle/field.moduli", Rows.laid_chronicle_field_moduli), ("chronicle/p256.curveB", Rows.laid_chronicle_p256_curveB), ("chronicle/der.errByte", Rows.laid_chronicle_der_errByte)]) gFirst tFirst Tryz.underlying111 Tryz.underlying109 cellsU32 cellsSt h
 have h0x:=h.tail
 have hk : Lib.TabIs Tryz.prog W "chronicle/sha256.constants" .u32 [1116352408, 1899447441, 3049323471, 3921009573, 961987163, 1508970993, 2453635748, 2870763221, 3624381080, 310598401, 607225278, 1426881987, 1925078388, 2162078206, 2614888103, 3248222580, 3835390401, 4022224774, 264347078, 604807628, 770255983, 1249150122, 1555081692, 1996064986, 2554220882, 2821834349, 2952996808, 3210313671, 3336571891, 3584528711, 113926993, 338241895, 666307205, 773529912, 1294757372, 1396182291, 1695183700, 1986661051, 2177026350, 2456956037, 2730485921, 2820302411, 3259730800, 3345764771, 3516065817, 3600352804, 4094571909, 275423344, 430227734, 506948616, 659060556, 883997877, 958139571, 1322822218, 1537002063, 1747873779, 1955562222, 2024104815, 2227730452, 2361852424, 2428436474, 2756734187, 3204031479, 3329325298] := Lib.tabIs_of_head (rest := [("chronicle/field.moduli", Rows.laid_chronicle_field_moduli), ("chronicle/p256.curveB", Rows.laid_chronicle_p256_curveB), ("chronicle/der.errByte", Rows.laid_chronicle_der_errByte)]) gK tK Tryz.underlying151 Tryz.underlying109 cellsU32 cellsW64 h0x
 have h1x:=h0x.tail
 have hmo:=h1x
 have h2x:=h1x.tail
 have hB : Lib.TabIs Tryz.prog W "chronicle/p256.curveB" .u64 [4309448131093880907, 7285987128567378166, 12964664127075681980, 6540974713487397863] := Lib.tabIs_of_head (rest := [("chronicle/der.errByte", Rows.laid_chronicle_der_errByte)]) gB tB Tryz.underlying24 Tryz.underlying22 cellsU64 cellsNat h2x
 have h3x:=h2x.tail
 obtain ⟨a0,s0,hv0,-,-,-⟩:=laid_sentinel h3x gErr tErr Tryz.underlying141 rowErr Tryz.underlying163 Tryz.underlying179 rfl rfl Tryz.underlying9 cellsSErr cellsStr
 obtain ⟨ps,⟨g,t,cs,fuel,p,q,hg,ht,hvar,hd,_,_⟩,_⟩:=hmo
 obtain rfl:=Option.some.inj (gMod.symm.trans hg)
 obtain rfl:=Option.some.inj (tMod.symm.trans ht)
 have hcs:=cells_of_table hd
 obtain ⟨l⟩:=cs
 simp only at hcs
 subst hcs
 refine ⟨?_,?_,?_⟩
 ·exact ⟨World.var?_cell hg hvar 0,World.var?_cell hg hvar 1,World.var?_cell hg hvar 2,World.var?_cell hg hvar 3,World.var?_cell hg hvar 4,World.var?_cell hg hvar 5,World.var?_cell hg hvar 6,World.var?_cell hg hvar 7,World.var?_cell hg hvar 8,World.var?_cell hg hvar 9,World.var?_cell hg hvar 10,World.var?_cell hg hvar 11,World.var?_cell hg hvar 12,World.var?_cell hg hvar 13,World.var?_cell hg hvar 14,World.var?_cell hg hvar 15,hB.cell gB 0 (by decide),hB.cell gB 1 (by decide),hB.cell gB 2 (by decide),hB.cell gB 3 (by decide)⟩
 ·exact ⟨fun i hi=>by rw [← first_at i hi];exact hf.cell gFirst i hi,fun i hi=>by rw [← k_at i hi];exact hk.cell gK i hi⟩
 ·exact ⟨_,_,by have h0:=World.var?_cell gErr hv0 0;simpa using h0⟩
theorem door_met (os:Os) (args:Array Value):laidMetH Tryz.prog laid1 ((World.doorLaid Tryz.prog 200 os).forCall (fun _ _=>0) ⟨#[],args,[]⟩).memory :=
 laidMetH_of_parts3 (fuel:=8) (laidMet_of_run' 8 (by kernel_rfl) (by kernel_rfl)) (by kernel_rfl) (by kernel_rfl)
end Go.Proofs.YtmigakanbeckpaaGreatDoor
