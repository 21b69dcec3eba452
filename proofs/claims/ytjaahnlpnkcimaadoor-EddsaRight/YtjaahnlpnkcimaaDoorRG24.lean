/- What the program's own Decode of layer 9 answers. What the program's own smaller functions of layer 12 answer. What the program's own Public and Sign answer. -/
import Derived.Test.YtjaahnlpnkcimaaDoorRG23
import Derived.Test.YtjaahnlpnkcimaaDoorRG05
import Derived.Test.YtjaahnlpnkcimaaDoorRG22
import Derived.Test.YtjaahnlpnkcimaaDoorRG21
set_option maxRecDepth 100000
set_option maxHeartbeats 4000000
namespace Go.Proofs.YtjaahnlpnkcimaaDoor
set_option maxRecDepth 100000
open Go.RowKit
theorem cE24 (vs:List Value):∀ w,(callFunc 24 vs.toArray).run Tryd.prog w=.ok (.enter 24 vs.toArray) w:=callFunc_enter Tryd.func24 (by kernel_rfl) (by kernel_rfl) _
theorem cE54 (vs:List Value):∀ w,(callFunc 54 vs.toArray).run Tryd.prog w=.ok (.enter 54 vs.toArray) w:=callFunc_enter Tryd.func54 (by kernel_rfl) (by kernel_rfl) _
theorem cE55 (vs:List Value):∀ w,(callFunc 55 vs.toArray).run Tryd.prog w=.ok (.enter 55 vs.toArray) w:=callFunc_enter Tryd.func55 (by kernel_rfl) (by kernel_rfl) _
theorem nc_ex8:nc ((ex8:Nat):Int)=[Value.int .u64 18446744073709551614]++[Value.int .u64 18446744073709551615]++[Value.int .u64 18446744073709551615]++[Value.int .u64 1152921504606846975]:=by kernel_rfl
theorem TabX.im {w:World} (h:TabX w):w.rangeAt 3 0 (gc im):=by
 rw [gc_im]
 intro j v hj
 match j,hj with
 | 0,hj=>cases hj;exact h.cturn0
 | 1,hj=>cases hj;exact h.cturn1
 | 2,hj=>cases hj;exact h.cturn2
 | 3,hj=>cases hj;exact h.cturn3
 | j+4,hj=>cases hj
theorem TabX.ex {w:World} (h:TabX w):w.rangeAt 2 0 (nc ((ex8:Nat):Int)):=by
 rw [nc_ex8]
 intro j v hj
 match j,hj with
 | 0,hj=>cases hj;exact h.crootPower0
 | 1,hj=>cases hj;exact h.crootPower1
 | 2,hj=>cases hj;exact h.crootPower2
 | 3,hj=>cases hj;exact h.crootPower3
 | j+4,hj=>cases hj
theorem e_odd {w:World} (x:Fin m2):Calls Tryd.prog 56 [.agg (gc x).toArray].toArray w fun e w'=>e=.returned (.bool (decide (x.val % 2=1)))∧Below w.heap.size w w':=by
 by_cases h:x.val % 2=1
 ·rw [decide_eq_true h];exact e_odd_t h
 ·rw [decide_eq_false h];exact e_odd_f (by omega)
theorem e_Lit {w:World} {b o c:Nat} {f:Nat→Nat} (hlt:∀ i,f i<256) (hrd:Rd w b o 32 (fun i=>((f i:Nat):Int))) {u:Nat} (hu:LN f u):Calls Tryd.prog 24 [.slice (some ⟨b,o,none⟩) 32 c].toArray w fun e w'=>e=.returned (.tuple [.agg (nc (u:Int)).toArray,.bool true].toArray)∧Below w.heap.size w w':=by
 have h:=little_any (cap:=c) (fun i=>⟨by omega,by have:=hlt i;omega⟩) hrd
 have e:∀ o,o+8≤32→E (fun i=>((f i:Nat):Int)) o 8=E (fun i=>Y i (u:Int)) o 8:=fun o ho=>E_congr o 8 (fun i hi=>(hu.at_ _ (by omega)).symm)
 have w4:=E_words (u:Int)
 rw [e 0 (by omega),e 8 (by omega),e 16 (by omega),e 24 (by omega),w4.1,w4.2.1,w4.2.2.1,w4.2.2.2] at h
 exact h
theorem low_cells (u:Nat):[Value.int .u64 (lw 0 (u:Int))]++[Value.int .u64 (lw 1 (u:Int))]++[Value.int .u64 (lw 2 (u:Int))]++[Value.int .u64 (lw 3 (u:Int) % 9223372036854775808)]=nc ((u % 2 ^ 255:Nat):Int):=by
 have e0:L 0 (u:Int)=L 0 ((u % 2 ^ 255:Nat):Int):=by rw [L0,L0];omega
 have e1:L 1 (u:Int)=L 1 ((u % 2 ^ 255:Nat):Int):=by rw [L1,L1];omega
 have e2:L 2 (u:Int)=L 2 ((u % 2 ^ 255:Nat):Int):=by rw [L2,L2];omega
 have e3:L 3 (u:Int) % 9223372036854775808=L 3 ((u % 2 ^ 255:Nat):Int):=by rw [L3,L3];omega
 show [Value.int .u64 (L 0 (u:Int)),Value.int .u64 (L 1 (u:Int)),Value.int .u64 (L 2 (u:Int)),Value.int .u64 (L 3 (u:Int) % 9223372036854775808)]=_
 rw [e0,e1,e2,e3]
 rfl
theorem top_bit {u:Nat} (h:u<2 ^ 256):decide (((u / 2 ^ 255 % 2:Nat):Int)=1)=decide (u / 2 ^ 255=1):=decide_eq_decide.2 ⟨fun h=>by omega,fun h=>by omega⟩
theorem e_bit255 {w:World} (k:Nat):Calls Tryd.prog 53 [.agg (nc (k:Int)).toArray,.int .i64 255].toArray w fun e w'=>e=.returned (.int .i64 ((k / 2 ^ 255 % 2:Nat):Int))∧Below w.heap.size w w':=by
 exact e_bit (w:=w) k 255 (by decide)
theorem i_andN63 {P:Program} (ty:TypeId) (a c:Int) (h0:0≤a) (h1:a<18446744073709551616) (hc:c=a % 9223372036854775808) (w:World):(binOp .andNot ty (.int .u64 a) (.int .u64 9223372036854775808)).run P w=.ok (.int .u64 c) w:=by
 have h:(BitVec.ofInt 64 a &&& ~~~ (BitVec.ofInt 64 9223372036854775808)).toNat=a.toNat % 9223372036854775808:=by
  rw [BitVec.toNat_and]
  have e1:(BitVec.ofInt 64 a).toNat=a.toNat:=by
   rw [BitVec.toNat_ofInt]
   congr 1
   rw [Int.emod_eq_of_lt h0 (by simpa using h1)]
  have e2:(~~~ (BitVec.ofInt 64 9223372036854775808)).toNat=2 ^ 63-1:=by decide +kernel
  rw [e1,e2,Nat.and_two_pow_sub_one_eq_mod]
 have e:(Op.intBits .andNot .u64 a 9223372036854775808).run P w=.ok (.int .u64 c) w:=by
  show Result.ok (Value.int .u64 (IntKind.u64.wrap ((BitVec.ofInt 64 a &&& ~~~ (BitVec.ofInt 64 9223372036854775808)).toNat:Int))) w=_
  rw [h]
  have:((a.toNat % 9223372036854775808:Nat):Int)=c:=by omega
  rw [this,wrapW (by omega)]
 simpa [binOp] using e
theorem gc_sqU (A:Int):gc (kc A*kc A)=nc (A*A % md 2):=by
 rw [gc_mul,kc_val,md_m2,← Int.mul_emod]
theorem d_mulR {w:World} (hT:Tab w) {A:Int} (hA:Num A):Calls Tryd.prog 21 [.int .i64 2,.agg (nc A).toArray,.agg (nc A).toArray].toArray w fun e w'=>e=.returned (.agg (gc (kc A*kc A)).toArray)∧Below w.heap.size w w':=by
 rw [gc_sqU]
 exact f_mul (k:=2) ⟨by decide,by decide⟩ hA hA hT
theorem acm {p:Nat} [NeZero p] (a b:Fin p):a+b=b+a:=by grobner
def rx (a:Fin m2):Fin m2:=if a ^ ex8*a ^ ex8=a then a ^ ex8 else a ^ ex8*im
theorem g_bPV (x:Fin m2) (V:Int):Tryd.prog.built 40 [(0,.agg (gc x).toArray),(1,.agg (nc V).toArray)]=some (gc x++nc V++[Value.bool false]).toArray:=by kernel_rfl
theorem as_of {P:Program} {q:BinOp} {ty:TypeId} {x y:Value} {p:Prop} [Decidable p] {s:Bool} (h:∀ w,(binOp q ty x y).run P w=.ok (.bool (decide p)) w) (hp:decide p=s):∀ w,(binOp q ty x y).run P w=.ok (.bool s) w:=fun w=>by rw [h w,hp]
theorem t_neq {P:Program} (ty:TypeId) (hu:P.underlying ty=some .bool) (a b t:Bool) (ht:(a != b)=t) (w:World):(binOp .neq ty (.bool a) (.bool b)).run P w=.ok (.bool t) w:=by
 have h:(Op.equalIn 10000 ty (.bool a) (.bool b)).run P w=.ok (a == b) w:=run_equalIn_bool' (P:=P) w 9999 ty a b hu
 simp only [binOp,Op.equal,show Op.maxDepth=10000 from rfl,Sem.run_bind,h,Result.andThen_ok,Sem.run_pure]
 rw [← ht]
 rfl
theorem e_mulR {w:World} (hT:Tab w) {A:Int} (hA:Num A):Calls Tryd.prog 79 [.agg (nc (A)).toArray,.agg (nc (A)).toArray].toArray w fun e w'=>e=.returned (.agg (gc (kc A*kc A)).toArray)∧Below w.heap.size w w':=by
 refine enter (args:=[.agg (nc (A)).toArray,.agg (nc (A)).toArray]) Tryd.func79 rfl 8 rfl (lk rfl) (fun a h=>?_)
 refine aX h [] [eN 2 _,eN 3 _,eN 4 _] ⟨rfl,rfl,rfl,T0⟩ [(2,.ptr 2 0),(3,.ptr 3 0),(4,.ptr 4 0)] [(2,nc (A)),(3,nc (A)),(4,nz)] (fun a w h=>?_)
 refine aX h [2] [eS 5 _,eS 6 _,eS 7 _,eM 4 _] ⟨rfl,rfl,fun L u=>u_call u (gd0 rfl) _ rfl _ _ _ rfl [_,_,_] rfl (cE21 _) _ (fun w hb=>d_mulR (hT.keep (Bs.kp_of hb)) hA),rfl,T0⟩ [(4,_)] [(4,gc (kc A*kc A))] (fun a w h=>?_)
 refine wp_ret ?_
 refine ret_row h 4 33 rfl (lk rfl) 4 rfl (gc (kc A*kc A)) rfl _ Tryd.underlying33 rfl i33 ?_
 exact ⟨rfl,h.grows⟩
theorem e_xsq {w:World} (hT:Tab w) {A:Int} (hA:Num A):Calls Tryd.prog 55 [.agg (nc (A)).toArray].toArray w fun e w'=>e=.returned (.agg (gc (xx2 (kc A))).toArray)∧Below w.heap.size w w':=by
 obtain ⟨one,hone⟩:∃ z:Fin m2,z=1:=⟨_,rfl⟩
 have hxx:(kc A*kc A-one)*fiv (one+ed*(kc A*kc A))=xx2 (kc A):=by rw [hone,acm 1];rfl
 refine enter (args:=[.agg (nc (A)).toArray]) Tryd.func55 rfl 17 rfl (lk rfl) (fun a h=>?_)
 refine aX h [] [eN 1 _,eN 2 _] ⟨rfl,rfl,T0⟩ [(1,.ptr 1 0),(2,.ptr 2 0)] [(1,nc (A)),(2,nz)] (fun a w h=>?_)
 refine aX h [2] [eS 4 _,eS 5 _,eS 6 _,eN 3 _,eM 3 _] ⟨rfl,rfl,fun L u=>u_call u (gd0 rfl) _ rfl _ _ _ rfl [_,_] rfl (cE79 _) _ (fun w hb=>e_mulR (hT.keep (Bs.kp_of hb)) hA),rfl,rfl,T0⟩ [(2,_),(3,.ptr 3 0)] [(2,_),(3,gc (kc A*kc A))] (fun a w h=>?_)
 refine aX h [1,2,3,4,6,7,8,9] [eS 7 _,eS 8 _,eS 9 _,eS 10 _,eS 11 (.val (.agg (gc (ed)).toArray)),eS 12 _,eS 13 _,eS 14 _,eS 15 _,eS 16 _,eM 2 _] ⟨rfl,fun L u=>u_call u (gd0 rfl) _ rfl _ _ _ rfl [] rfl (cE78 _) _ (fun w hb=>e_one hone),fun L u=>u_call u (gd0 rfl) _ rfl _ _ _ rfl [_,_] rfl (cE57 _) _ (fun w hb=>e_sub (hT.keep (Bs.kp_of hb)) _ _),fun L u=>u_call u (gd0 rfl) _ rfl _ _ _ rfl [] rfl (cE78 _) _ (fun w hb=>e_one hone),fun L u=>u_loadXR u (gd0 rfl) 11 rfl 33 (.global 4) rfl rfl Tryd.underlying33 rfl (gc (ed)) i33 rfl (hT.ed) rfl,rfl,fun L u=>u_call u (gd0 rfl) _ rfl _ _ _ rfl [_,_] rfl (cE79 _) _ (fun w hb=>e_mul (hT.keep (Bs.kp_of hb)) _ _),fun L u=>u_call u (gd0 rfl) _ rfl _ _ _ rfl [_,_] rfl (cE80 _) _ (fun w hb=>e_add (hT.keep (Bs.kp_of hb)) _ _),fun L u=>u_call u (gd0 rfl) _ rfl _ _ _ rfl [_,_] rfl (cE34 _) _ (fun w hb=>d_inv (hT.keep (Bs.kp_of hb)) _),fun L u=>u_call u (gd0 rfl) _ rfl _ _ _ rfl [_,_] rfl (cE79 _) _ (fun w hb=>e_mul (hT.keep (Bs.kp_of hb)) _ _),rfl,T0⟩ [(2,_)] [(2,gc (((kc A*kc A)-one)*(fiv (one+(ed*(kc A*kc A))))))] (fun a w h=>?_)
 refine wp_ret ?_
 refine ret_row h 2 33 rfl (lk rfl) 2 rfl (gc (((kc A*kc A)-one)*(fiv (one+(ed*(kc A*kc A)))))) rfl _ Tryd.underlying33 rfl i33 ?_
 exact ⟨by rw [← hxx],h.grows⟩
theorem e_root_t {w:World} (hT:Tab w) (hx:TabX w) {x r:Fin m2} (hr:x ^ ex8=r) (hc:r*r=x):Calls Tryd.prog 54 [.agg (gc (x)).toArray].toArray w fun e w'=>e=.returned (.agg (gc (r)).toArray)∧Below w.heap.size w w':=by
 refine enter (args:=[.agg (gc (x)).toArray]) Tryd.func54 rfl 16 rfl (lk rfl) (fun a h=>?_)
 refine aX h [] [eN 1 _,eN 2 _] ⟨rfl,rfl,T0⟩ [(1,.ptr 1 0),(2,.ptr 2 0)] [(1,gc (x)),(2,nz)] (fun a w h=>?_)
 refine aX h [1,2] [eS 4 _,eS 5 (.val (.agg (nc (((ex8:Nat):Int))).toArray)),eS 6 (.val (.agg (gc (r)).toArray)),eN 3 _,eM 3 _] ⟨rfl,fun L u=>u_loadXR u (gd0 rfl) 5 rfl 33 (.global 2) rfl rfl Tryd.underlying33 rfl (nc (((ex8:Nat):Int))) i33 rfl (hx.ex) rfl,fun L u=>u_call u (gd0 rfl) _ rfl _ _ _ rfl [_,_,_] rfl (cE37 _) (.agg (gc (r)).toArray) (fun w hb=>by have g:=d_pow (hT.keep (Bs.kp_of hb)) x ex8_num;rw [hr] at g;exact g),rfl,rfl,T0⟩ [(1,_),(2,_),(3,.ptr 3 0)] [(1,_),(2,_),(3,gc (r))] (fun a w h=>?_)
 refine wp_seq ?_
 refine aX h [2,4] [eS 7 _,eS 8 _,eS 9 _,eS 10 _,eS 11 (.val (Value.bool true))] ⟨rfl,rfl,fun L u=>u_call u (gd0 rfl) _ rfl _ _ _ rfl [_,_] rfl (cE79 _) _ (fun w hb=>e_mul (hT.keep (Bs.kp_of hb)) _ _),rfl,fun L u=>u_eql u (gd0 rfl) 11 rfl 33 33 (.tmp 9) (.tmp 10) rfl rfl rfl Tryd.eqGuardType33 (true) (fun w=>eqg_t hc w),T0⟩ [(2,_),(3,_),(11,.val (Value.bool true))] [(2,_),(3,_)] (fun a w h=>?_)
 refine go_cond h true rfl (fun ht=>?_) (fun hf=>?_)
 case refine_2=>cases hf
 refine aX h [] [eS 12 _,eM 2 _] ⟨rfl,rfl,T0⟩ [(2,_)] [(2,gc (r))] (fun a w h=>?_)
 refine wp_ret ?_
 refine then_ret ?_
 refine ret_row h 2 33 rfl (lk rfl) 2 rfl (gc (r)) rfl _ Tryd.underlying33 rfl i33 ?_
 exact ⟨rfl,h.grows⟩
theorem e_root_f {w:World} (hT:Tab w) (hx:TabX w) {x r:Fin m2} (hr:x ^ ex8=r) (hc:¬ r*r=x):Calls Tryd.prog 54 [.agg (gc (x)).toArray].toArray w fun e w'=>e=.returned (.agg (gc (r*im)).toArray)∧Below w.heap.size w w':=by
 refine enter (args:=[.agg (gc (x)).toArray]) Tryd.func54 rfl 16 rfl (lk rfl) (fun a h=>?_)
 refine aX h [] [eN 1 _,eN 2 _] ⟨rfl,rfl,T0⟩ [(1,.ptr 1 0),(2,.ptr 2 0)] [(1,gc (x)),(2,nz)] (fun a w h=>?_)
 refine aX h [1,2] [eS 4 _,eS 5 (.val (.agg (nc (((ex8:Nat):Int))).toArray)),eS 6 (.val (.agg (gc (r)).toArray)),eN 3 _,eM 3 _] ⟨rfl,fun L u=>u_loadXR u (gd0 rfl) 5 rfl 33 (.global 2) rfl rfl Tryd.underlying33 rfl (nc (((ex8:Nat):Int))) i33 rfl (hx.ex) rfl,fun L u=>u_call u (gd0 rfl) _ rfl _ _ _ rfl [_,_,_] rfl (cE37 _) (.agg (gc (r)).toArray) (fun w hb=>by have g:=d_pow (hT.keep (Bs.kp_of hb)) x ex8_num;rw [hr] at g;exact g),rfl,rfl,T0⟩ [(1,_),(2,_),(3,.ptr 3 0)] [(1,_),(2,_),(3,gc (r))] (fun a w h=>?_)
 refine wp_seq ?_
 refine aX h [2,4] [eS 7 _,eS 8 _,eS 9 _,eS 10 _,eS 11 (.val (Value.bool false))] ⟨rfl,rfl,fun L u=>u_call u (gd0 rfl) _ rfl _ _ _ rfl [_,_] rfl (cE79 _) _ (fun w hb=>e_mul (hT.keep (Bs.kp_of hb)) _ _),rfl,fun L u=>u_eql u (gd0 rfl) 11 rfl 33 33 (.tmp 9) (.tmp 10) rfl rfl rfl Tryd.eqGuardType33 (false) (fun w=>eqg_f hc w),T0⟩ [(2,_),(3,_),(11,.val (Value.bool false))] [(2,_),(3,_)] (fun a w h=>?_)
 refine go_cond h false rfl (fun ht=>?_) (fun hf=>?_)
 case refine_1=>cases ht
 refine wp_skip ?_
 refine then_norm ?_
 refine aX h [1,2] [eS 13 _,eS 14 (.val (.agg (gc (im)).toArray)),eS 15 _,eM 2 _] ⟨rfl,fun L u=>u_loadXR u (gd0 rfl) 14 rfl 33 (.global 3) rfl rfl Tryd.underlying33 rfl (gc (im)) i33 rfl (hx.im) rfl,fun L u=>u_call u (gd0 rfl) _ rfl _ _ _ rfl [_,_] rfl (cE79 _) _ (fun w hb=>e_mul (hT.keep (Bs.kp_of hb)) _ _),rfl,T0⟩ [(2,_)] [(2,gc (r*im))] (fun a w h=>?_)
 refine wp_ret ?_
 refine ret_row h 2 33 rfl (lk rfl) 2 rfl (gc (r*im)) rfl _ Tryd.underlying33 rfl i33 ?_
 exact ⟨rfl,h.grows⟩
theorem e_root {w:World} (hT:Tab w) (hx:TabX w) (x:Fin m2):Calls Tryd.prog 54 [.agg (gc x).toArray].toArray w fun e w'=>e=.returned (.agg (gc (rx x)).toArray)∧Below w.heap.size w w':=by
 unfold rx
 by_cases h:x ^ ex8*x ^ ex8=x
 ·rw [if_pos h];exact e_root_t hT hx rfl h
 ·rw [if_neg h];exact e_root_f hT hx rfl h
theorem dec_yes {U:Nat} {y x:Fin m2} {s:Bool} (hy:U % 2 ^ 255=y.val) (hlt:U<2 ^ 256) (hs:decide (U / 2 ^ 255=1)=s) (hF:y*y-x*x=1+ed*(x*x*(y*y))) (hd:¬ (decide (x.val % 2=1) != s)=true):dpt U=⟨x,y⟩∧dok U=true:=by
 refine dpt_some (dec_of (show (⟨x,y⟩:Ep m2).on ed from hF) ?_)
 have e:decide (x.val % 2=1)=decide (U / 2 ^ 255=1):=by rw [hs];simpa using hd
 have e2:=decide_eq_decide.1 e
 have h1:=Nat.mod_add_div U (2 ^ 255)
 unfold code
 show y.val+2 ^ 255*(x.val % 2)=U
 omega
theorem dec_no {U:Nat} {y x1 x2:Fin m2} {s:Bool} (hy:U % 2 ^ 255=y.val) (hs:decide (U / 2 ^ 255=1)=s) (h1:x1=if rt y*rt y=xx2 y then rt y else rt y*im) (h2:x2=if (decide (x1.val % 2=1) != s)=true then 0-x1 else x1) (hno:¬ ((y*y-x2*x2=1+ed*(x2*x2*(y*y)))∧¬ (decide (x2.val % 2=1) != s)=true)):dpt U=Ep.o m2∧dok U=false:=by
 refine dpt_none (dec_none fun a ha hc=>hno ?_)
 have ey:a.y=y:=Fin.ext (by rw [← code_mod,hc,hy])
 have ed_:a.x.val % 2=U / 2 ^ 255:=by rw [← code_div,hc]
 have es:decide (a.x.val % 2=1)=s:=by rw [← hs,ed_]
 have hx:x2=a.x:=by
  refine root_told ha (x1:=x1) (s:=a.x) (by rw [ey];exact h1) rfl ?_
  rw [h2]
  have hm1:x1.val % 2<2:=Nat.mod_lt _ (by decide)
  have hm2:a.x.val % 2<2:=Nat.mod_lt _ (by decide)
  by_cases hp:x1.val % 2=a.x.val % 2
  ·rw [if_pos hp,if_neg (by rw [← es,hp];simp)]
  ·rw [if_neg hp,if_pos (by
    rw [← es]
    by_cases q:x1.val % 2=1
    ·rw [decide_eq_true q,decide_eq_false (by omega)];rfl
    ·rw [decide_eq_false q,decide_eq_true (by omega)];rfl)]
   clear h1 h2 hp
   generalize x1=z
   grobner
 rw [hx,← ey]
 exact ⟨ha,by rw [es];simp⟩
theorem dec_over {U:Nat} (h:¬ ((U % 2 ^ 255:Nat):Int)<md 2):dpt U=Ep.o m2∧dok U=false:=by
 refine dpt_none (dec_none fun a ha hc=>h ?_)
 rw [md_m2,← hc,code_mod]
 have:=a.y.isLt
 omega
theorem dec_yes2 {U:Nat} {V:Int} (hVe:((U % 2 ^ 255:Nat):Int)=V) {x:Fin m2} {s:Bool} (hlt:U<2 ^ 256) (hs:decide (U / 2 ^ 255=1)=s) (hF:fmdE ((x.val:Nat):Int) V false=true) (hd:¬ (decide (x.val % 2=1) != s)=true):pcE (dpt U)=gc x++nc V++[Value.bool false]∧dok U=true:=by
 obtain ⟨_,_,h2,h3⟩:=of_decide_eq_true hF
 rw [kc_self] at h3
 have h0:0≤V:=by omega
 have hm:=md_m2
 have hy:U % 2 ^ 255=(kc V:Fin m2).val:=by
  have:=kc_val (p:=m2) V
  rw [Int.emod_eq_of_lt h0 (by omega)] at this
  omega
 have g:=dec_yes hy hlt hs h3 hd
 refine ⟨?_,g.2⟩
 rw [g.1,nc_gc h0 h2]
 rfl
theorem dec_no2 {U:Nat} {V:Int} (hVe:((U % 2 ^ 255:Nat):Int)=V) {x1 x2:Fin m2} {s:Bool} (hs:decide (U / 2 ^ 255=1)=s) (h1:rx (xx2 (kc V))=x1) (h2:x2=if (decide (x1.val % 2=1) != s)=true then 0-x1 else x1) (hno:¬ (fmdE ((x2.val:Nat):Int) V false=true∧¬ (decide (x2.val % 2=1) != s)=true)):dpt U=Ep.o m2∧dok U=false:=by
 by_cases hV:V<md 2
 ·have h0:0≤V:=by omega
  have hm:=md_m2
  have hy:U % 2 ^ 255=(kc V:Fin m2).val:=by
   have:=kc_val (p:=m2) V
   rw [Int.emod_eq_of_lt h0 (by omega)] at this
   omega
  refine dec_no hy hs (x1:=x1) h1.symm h2 (fun q=>hno ⟨decide_eq_true ⟨rfl,of_decide_eq_true (gin_lt x2),hV,?_⟩,q.2⟩)
  rw [kc_self]
  exact q.1
 ·exact dec_over (by rw [hVe];exact hV)
theorem e_dec_at {w:World} (hT:Tab w) (hx:TabX w) {b o c:Nat} {f:Nat→Nat} (hlt:∀ i,f i<256) (hrd:Rd w b o 32 (fun i=>((f i:Nat):Int))) {U:Nat} (hu:LN f U) {s:Bool} (hs:decide (((U / 2 ^ 255 % 2:Nat):Int)=1)=s) (hsn:decide (U / 2 ^ 255=1)=s) {V:Int} (hVe:((U % 2 ^ 255:Nat):Int)=V) (hVn:Num V) {x1:Fin m2} (h1:rx (xx2 (kc V))=x1):Calls Tryd.prog 23 [Value.slice (some ⟨b,o,none⟩) (32) (c)].toArray w fun e w'=>e=.returned (.tuple [.agg (pcE (dpt U)).toArray,.bool (dok U)].toArray)∧Below w.heap.size w w':=by
 refine enter (args:=[Value.slice (some ⟨b,o,none⟩) (32) (c)]) Tryd.func23 rfl 48 rfl (lk rfl) (fun a h=>?_)
 refine aX h [] [eN 2 _,eS 3 _] ⟨rfl,rfl,T0⟩ [(0,.val (Value.slice (some ⟨b,o,none⟩) (32) (c))),(2,.ptr 2 0)] [(2,nz++nz++[Value.bool false])] (fun a w h=>?_)
 refine aX h [1] [eS 10 _,eS 11 _,eS 9 _,eS 12 _,eS 13 _,eN 4 _,eM 4 _,eS 5 _] ⟨rfl,fun L u=>u_call u (gd0 rfl) _ rfl _ _ _ rfl [_] rfl (cE24 _) _ (fun w hb=>e_Lit hlt (hrd.keep (Bs.kp_of hb)) hu),rfl,rfl,rfl,rfl,rfl,rfl,T0⟩ [(2,_),(4,.ptr 4 0),(5,.val (Value.bool true))] [(2,_),(4,nc (((U:Nat):Int)))] (fun a w h=>?_)
 refine wp_seq ?_
 refine aX h [] [eS 14 _,eS 15 _] ⟨rfl,rfl,T0⟩ [(2,_),(4,_),(15,.val (Value.bool false))] [(2,_),(4,_)] (fun a w h=>?_)
 refine go_cond h false rfl (fun ht=>?_) (fun hf=>?_)
 case refine_1=>cases ht
 refine wp_skip ?_
 refine then_norm ?_
 refine aX h [1,2] [eS 17 _,eS 18 _,eS 19 (.val (Value.bool s)),eS 6 _] ⟨rfl,fun L u=>u_call u (gd0 rfl) _ rfl _ _ _ rfl [_,_] rfl (cE53 _) _ (fun w hb=>e_bit255 U),fun L u=>u_bin u (gd0 rfl) _ rfl _ _ _ _ _ rfl rfl rfl (eqg_int _ _ _ _ _ _ _ _) _ (as_of (fun w=>i_eql _ _ _ _ w) hs),rfl,T0⟩ [(2,_),(4,_),(6,.val (Value.bool s))] [(2,_),(4,_)] (fun a w h=>?_)
 refine a_region TT h hm [2] [eS 20 _,eS 21 _,eS 22 (.val (Value.int .u64 (lw 3 ((U:Nat):Int) % 9223372036854775808))),eS 23 _,eM 4 _] (by kernel_rfl) ⟨rfl,rfl,fun L u=>u_bin u (gd0 rfl) _ rfl _ _ _ _ _ rfl rfl rfl (eqg_int _ _ _ _ _ _ _ _) _ (fun w=>i_andN63 _ _ _ (L_lo 3 _) (L_hi 3 _) rfl w),rfl,rfl,T0⟩ [(2,_),(4,_),(6,_)] [(2,_),(4,nc (V))] ⟨rfl,rfl,rfl,T0⟩ ⟨rfl,(congrArg some ((low_cells U).trans (congrArg nc hVe))),T0⟩ rfl (fun a w h=>?_)
 refine aX h [1,2] [eS 24 _,eS 25 _,eS 26 (.val (.agg (gc (x1)).toArray)),eN 7 _,eM 7 _] ⟨rfl,fun L u=>u_call u (gd0 rfl) _ rfl _ _ _ rfl [_] rfl (cE55 _) _ (fun w hb=>e_xsq (hT.keep (Bs.kp_of hb)) hVn),fun L u=>u_call u (gd0 rfl) _ rfl _ _ _ rfl [_] rfl (cE54 _) (.agg (gc (x1)).toArray) (fun w hb=>by have g:=e_root (hT.keep (Bs.kp_of hb)) (hx.keep (Bs.kp_of hb)) (xx2 (kc V));rw [h1] at g;exact g),rfl,rfl,T0⟩ [(2,_),(4,_),(6,_),(7,.ptr 7 0)] [(2,_),(4,_),(7,gc (x1))] (fun a w h=>?_)
 refine wp_seq ?_
 by_cases hd1:(decide (x1.val % 2=1) != s)=true
 ·skip
  refine aX h [1,3] [eS 27 _,eS 28 _,eS 29 _,eS 30 (.val (Value.bool true))] ⟨rfl,fun L u=>u_call u (gd0 rfl) _ rfl _ _ _ rfl [_] rfl (cE56 _) _ (fun w hb=>e_odd (x1)),rfl,fun L u=>u_bin u (gd0 rfl) _ rfl _ _ _ _ _ rfl rfl rfl (eqg_bool _ _ _ _ _ _) _ (fun w=>t_neq _ Tryd.underlying4 _ _ _ hd1 w),T0⟩ [(2,_),(4,_),(6,_),(7,_),(30,.val (Value.bool true))] [(2,_),(4,_),(7,_)] (fun a w h=>?_)
  refine go_cond h true rfl (fun ht=>?_) (fun hf=>?_)
  case refine_2=>cases hf
  refine aE h [0,2] [eS 31 (.val (.agg (nz).toArray)),eS 32 _,eS 33 (.val (.agg (gc (0-x1)).toArray)),eM 7 _] ⟨fun L u=>u_build u (gd0 rfl) 31 rfl 33 #[] rfl [] rfl (nz) (g_bN0),rfl,fun L u=>u_call u (gd0 rfl) _ rfl _ _ _ rfl [_,_] rfl (cE57 _) (.agg (gc (0-x1)).toArray) (fun w hb=>by have g:=e_sub (hT.keep (Bs.kp_of hb)) 0 (x1);rw [← nz_gc] at g;exact g),rfl,T0⟩ [(2,_),(4,_),(6,_),(7,_)] [(2,_),(4,_),(7,gc (0-x1))] (fun a w h=>?_)
  refine then_norm ?_
  refine aX h [2] [eS 34 _,eS 35 _,eS 36 (.val (.agg (gc (0-x1)++nc (V)++[Value.bool false]).toArray)),eN 8 _,eM 8 _] ⟨rfl,rfl,fun L u=>u_build u (gd0 rfl) 36 rfl 40 #[(0,(.tmp 34)),(1,(.tmp 35))] rfl [(0,.agg (gc (0-x1)).toArray),(1,.agg (nc (V)).toArray)] rfl (gc (0-x1)++nc (V)++[Value.bool false]) (g_bPV _ _),rfl,rfl,T0⟩ [(2,_),(6,_),(7,_),(8,.ptr 8 0)] [(2,_),(7,_),(8,gc (0-x1)++nc (V)++[Value.bool false])] (fun a w h=>?_)
  refine wp_seq ?_
  by_cases hF:fmdE (((0-x1).val:Nat):Int) V false=true
  ·skip
   by_cases hd2:(decide ((0-x1).val % 2=1) != s)=true
   ·skip
    refine aX h [1,5,7] [eS 37 _,eS 38 (.val (Value.bool true)),eS 39 _,eS 40 _,eS 41 _,eS 42 _,eS 43 _,eS 44 (.val (Value.bool true)),eS 45 _] ⟨rfl,fun L u=>u_call u (gd0 rfl) _ rfl _ _ _ rfl [_] rfl (cE58 _) (Value.bool true) (fun w hb=>by have f:=e_Formed (hT.keep (Bs.kp_of hb)) (gin_num (0-x1)) hVn false;rw [hF] at f;exact f),rfl,rfl,rfl,fun L u=>u_call u (gd1 u 3 false rfl 40 rfl (lk rfl) rfl) _ rfl _ _ _ rfl [_] rfl (cE56 _) _ (fun w hb=>e_odd (0-x1)),rfl,fun L u=>u_bin u (gd1 u 3 false rfl 40 rfl (lk rfl) rfl) _ rfl _ _ _ _ _ rfl rfl rfl (eqg_bool _ _ _ _ _ _) _ (fun w=>t_neq _ Tryd.underlying4 _ _ _ hd2 w),rfl,T0⟩ [(2,_),(8,_),(45,.val (Value.bool true))] [(2,_),(8,_)] (fun a w h=>?_)
    refine go_cond h true rfl (fun ht=>?_) (fun hf=>?_)
    case refine_2=>cases hf
    refine aX h [0] [eS 46 _,eM 2 _,eS 3 _] ⟨fun L u=>u_call u (gd0 rfl) _ rfl _ _ _ rfl [] rfl (cE52 _) _ (fun w hb=>e_neutral),rfl,rfl,T0⟩ [(2,_),(3,.val (Value.bool false))] [(2,pcE (Ep.o m2))] (fun a w h=>?_)
    refine wp_ret ?_
    refine then_ret ?_
    refine ret_two h _ _ rfl (ans_row (cs:=pcE (Ep.o m2)) 2 (lk rfl) 40 rfl rfl Tryd.underlying40 rfl i40) (ans_tmp (v:=Value.bool false) 3 (lk rfl) rfl) ?_
    exact ⟨by rw [(dec_no2 hVe hsn h1 (if_pos hd1).symm (fun q=>q.2 hd2)).1,(dec_no2 hVe hsn h1 (if_pos hd1).symm (fun q=>q.2 hd2)).2],h.grows⟩
   ·skip
    refine aX h [1,5,7] [eS 37 _,eS 38 (.val (Value.bool true)),eS 39 _,eS 40 _,eS 41 _,eS 42 _,eS 43 _,eS 44 (.val (Value.bool false)),eS 45 _] ⟨rfl,fun L u=>u_call u (gd0 rfl) _ rfl _ _ _ rfl [_] rfl (cE58 _) (Value.bool true) (fun w hb=>by have f:=e_Formed (hT.keep (Bs.kp_of hb)) (gin_num (0-x1)) hVn false;rw [hF] at f;exact f),rfl,rfl,rfl,fun L u=>u_call u (gd1 u 3 false rfl 40 rfl (lk rfl) rfl) _ rfl _ _ _ rfl [_] rfl (cE56 _) _ (fun w hb=>e_odd (0-x1)),rfl,fun L u=>u_bin u (gd1 u 3 false rfl 40 rfl (lk rfl) rfl) _ rfl _ _ _ _ _ rfl rfl rfl (eqg_bool _ _ _ _ _ _) _ (fun w=>t_neq _ Tryd.underlying4 _ _ _ (by simpa using hd2) w),rfl,T0⟩ [(2,_),(8,_),(45,.val (Value.bool false))] [(2,_),(8,_)] (fun a w h=>?_)
    refine go_cond h false rfl (fun ht=>?_) (fun hf=>?_)
    case refine_1=>cases ht
    refine wp_skip ?_
    refine then_norm ?_
    refine aX h [] [eS 47 _,eM 2 _,eS 3 _] ⟨rfl,rfl,rfl,T0⟩ [(2,_),(3,.val (Value.bool true))] [(2,gc (0-x1)++nc (V)++[Value.bool false])] (fun a w h=>?_)
    refine wp_ret ?_
    refine ret_two h _ _ rfl (ans_row (cs:=gc (0-x1)++nc (V)++[Value.bool false]) 2 (lk rfl) 40 rfl rfl Tryd.underlying40 rfl i40) (ans_tmp (v:=Value.bool true) 3 (lk rfl) rfl) ?_
    exact ⟨by rw [(dec_yes2 hVe hu.lt hsn hF hd2).1,(dec_yes2 hVe hu.lt hsn hF hd2).2],h.grows⟩
  ·skip
   refine aX h [1] [eS 37 _,eS 38 (.val (Value.bool false)),eS 39 _,eS 40 _,eS 41 _,eS 42 _,eS 43 _,eS 44 _,eS 45 _] ⟨rfl,fun L u=>u_call u (gd0 rfl) _ rfl _ _ _ rfl [_] rfl (cE58 _) (Value.bool false) (fun w hb=>by have f:=e_Formed (hT.keep (Bs.kp_of hb)) (gin_num (0-x1)) hVn false;rw [Bool.eq_false_iff.2 hF] at f;exact f),rfl,rfl,rfl,rfl,rfl,rfl,rfl,T0⟩ [(2,_),(8,_),(45,.val (Value.bool true))] [(2,_),(8,_)] (fun a w h=>?_)
   refine go_cond h true rfl (fun ht=>?_) (fun hf=>?_)
   case refine_2=>cases hf
   refine aX h [0] [eS 46 _,eM 2 _,eS 3 _] ⟨fun L u=>u_call u (gd0 rfl) _ rfl _ _ _ rfl [] rfl (cE52 _) _ (fun w hb=>e_neutral),rfl,rfl,T0⟩ [(2,_),(3,.val (Value.bool false))] [(2,pcE (Ep.o m2))] (fun a w h=>?_)
   refine wp_ret ?_
   refine then_ret ?_
   refine ret_two h _ _ rfl (ans_row (cs:=pcE (Ep.o m2)) 2 (lk rfl) 40 rfl rfl Tryd.underlying40 rfl i40) (ans_tmp (v:=Value.bool false) 3 (lk rfl) rfl) ?_
   exact ⟨by rw [(dec_no2 hVe hsn h1 (if_pos hd1).symm (fun q=>hF q.1)).1,(dec_no2 hVe hsn h1 (if_pos hd1).symm (fun q=>hF q.1)).2],h.grows⟩
 ·skip
  refine aX h [1,3] [eS 27 _,eS 28 _,eS 29 _,eS 30 (.val (Value.bool false))] ⟨rfl,fun L u=>u_call u (gd0 rfl) _ rfl _ _ _ rfl [_] rfl (cE56 _) _ (fun w hb=>e_odd (x1)),rfl,fun L u=>u_bin u (gd0 rfl) _ rfl _ _ _ _ _ rfl rfl rfl (eqg_bool _ _ _ _ _ _) _ (fun w=>t_neq _ Tryd.underlying4 _ _ _ (by simpa using hd1) w),T0⟩ [(2,_),(4,_),(6,_),(7,_),(30,.val (Value.bool false))] [(2,_),(4,_),(7,_)] (fun a w h=>?_)
  refine go_cond h false rfl (fun ht=>?_) (fun hf=>?_)
  case refine_1=>cases ht
  refine wp_skip ?_
  refine then_norm ?_
  refine aX h [2] [eS 34 _,eS 35 _,eS 36 (.val (.agg (gc (x1)++nc (V)++[Value.bool false]).toArray)),eN 8 _,eM 8 _] ⟨rfl,rfl,fun L u=>u_build u (gd0 rfl) 36 rfl 40 #[(0,(.tmp 34)),(1,(.tmp 35))] rfl [(0,.agg (gc (x1)).toArray),(1,.agg (nc (V)).toArray)] rfl (gc (x1)++nc (V)++[Value.bool false]) (g_bPV _ _),rfl,rfl,T0⟩ [(2,_),(6,_),(7,_),(8,.ptr 8 0)] [(2,_),(7,_),(8,gc (x1)++nc (V)++[Value.bool false])] (fun a w h=>?_)
  refine wp_seq ?_
  by_cases hF:fmdE (((x1).val:Nat):Int) V false=true
  ·skip
   by_cases hd2:(decide ((x1).val % 2=1) != s)=true
   ·skip
    refine aX h [1,5,7] [eS 37 _,eS 38 (.val (Value.bool true)),eS 39 _,eS 40 _,eS 41 _,eS 42 _,eS 43 _,eS 44 (.val (Value.bool true)),eS 45 _] ⟨rfl,fun L u=>u_call u (gd0 rfl) _ rfl _ _ _ rfl [_] rfl (cE58 _) (Value.bool true) (fun w hb=>by have f:=e_Formed (hT.keep (Bs.kp_of hb)) (gin_num (x1)) hVn false;rw [hF] at f;exact f),rfl,rfl,rfl,fun L u=>u_call u (gd1 u 3 false rfl 40 rfl (lk rfl) rfl) _ rfl _ _ _ rfl [_] rfl (cE56 _) _ (fun w hb=>e_odd (x1)),rfl,fun L u=>u_bin u (gd1 u 3 false rfl 40 rfl (lk rfl) rfl) _ rfl _ _ _ _ _ rfl rfl rfl (eqg_bool _ _ _ _ _ _) _ (fun w=>t_neq _ Tryd.underlying4 _ _ _ hd2 w),rfl,T0⟩ [(2,_),(8,_),(45,.val (Value.bool true))] [(2,_),(8,_)] (fun a w h=>?_)
    refine go_cond h true rfl (fun ht=>?_) (fun hf=>?_)
    case refine_2=>cases hf
    refine aX h [0] [eS 46 _,eM 2 _,eS 3 _] ⟨fun L u=>u_call u (gd0 rfl) _ rfl _ _ _ rfl [] rfl (cE52 _) _ (fun w hb=>e_neutral),rfl,rfl,T0⟩ [(2,_),(3,.val (Value.bool false))] [(2,pcE (Ep.o m2))] (fun a w h=>?_)
    refine wp_ret ?_
    refine then_ret ?_
    refine ret_two h _ _ rfl (ans_row (cs:=pcE (Ep.o m2)) 2 (lk rfl) 40 rfl rfl Tryd.underlying40 rfl i40) (ans_tmp (v:=Value.bool false) 3 (lk rfl) rfl) ?_
    exact ⟨by rw [(dec_no2 hVe hsn h1 (if_neg hd1).symm (fun q=>q.2 hd2)).1,(dec_no2 hVe hsn h1 (if_neg hd1).symm (fun q=>q.2 hd2)).2],h.grows⟩
   ·skip
    refine aX h [1,5,7] [eS 37 _,eS 38 (.val (Value.bool true)),eS 39 _,eS 40 _,eS 41 _,eS 42 _,eS 43 _,eS 44 (.val (Value.bool false)),eS 45 _] ⟨rfl,fun L u=>u_call u (gd0 rfl) _ rfl _ _ _ rfl [_] rfl (cE58 _) (Value.bool true) (fun w hb=>by have f:=e_Formed (hT.keep (Bs.kp_of hb)) (gin_num (x1)) hVn false;rw [hF] at f;exact f),rfl,rfl,rfl,fun L u=>u_call u (gd1 u 3 false rfl 40 rfl (lk rfl) rfl) _ rfl _ _ _ rfl [_] rfl (cE56 _) _ (fun w hb=>e_odd (x1)),rfl,fun L u=>u_bin u (gd1 u 3 false rfl 40 rfl (lk rfl) rfl) _ rfl _ _ _ _ _ rfl rfl rfl (eqg_bool _ _ _ _ _ _) _ (fun w=>t_neq _ Tryd.underlying4 _ _ _ (by simpa using hd2) w),rfl,T0⟩ [(2,_),(8,_),(45,.val (Value.bool false))] [(2,_),(8,_)] (fun a w h=>?_)
    refine go_cond h false rfl (fun ht=>?_) (fun hf=>?_)
    case refine_1=>cases ht
    refine wp_skip ?_
    refine then_norm ?_
    refine aX h [] [eS 47 _,eM 2 _,eS 3 _] ⟨rfl,rfl,rfl,T0⟩ [(2,_),(3,.val (Value.bool true))] [(2,gc (x1)++nc (V)++[Value.bool false])] (fun a w h=>?_)
    refine wp_ret ?_
    refine ret_two h _ _ rfl (ans_row (cs:=gc (x1)++nc (V)++[Value.bool false]) 2 (lk rfl) 40 rfl rfl Tryd.underlying40 rfl i40) (ans_tmp (v:=Value.bool true) 3 (lk rfl) rfl) ?_
    exact ⟨by rw [(dec_yes2 hVe hu.lt hsn hF hd2).1,(dec_yes2 hVe hu.lt hsn hF hd2).2],h.grows⟩
  ·skip
   refine aX h [1] [eS 37 _,eS 38 (.val (Value.bool false)),eS 39 _,eS 40 _,eS 41 _,eS 42 _,eS 43 _,eS 44 _,eS 45 _] ⟨rfl,fun L u=>u_call u (gd0 rfl) _ rfl _ _ _ rfl [_] rfl (cE58 _) (Value.bool false) (fun w hb=>by have f:=e_Formed (hT.keep (Bs.kp_of hb)) (gin_num (x1)) hVn false;rw [Bool.eq_false_iff.2 hF] at f;exact f),rfl,rfl,rfl,rfl,rfl,rfl,rfl,T0⟩ [(2,_),(8,_),(45,.val (Value.bool true))] [(2,_),(8,_)] (fun a w h=>?_)
   refine go_cond h true rfl (fun ht=>?_) (fun hf=>?_)
   case refine_2=>cases hf
   refine aX h [0] [eS 46 _,eM 2 _,eS 3 _] ⟨fun L u=>u_call u (gd0 rfl) _ rfl _ _ _ rfl [] rfl (cE52 _) _ (fun w hb=>e_neutral),rfl,rfl,T0⟩ [(2,_),(3,.val (Value.bool false))] [(2,pcE (Ep.o m2))] (fun a w h=>?_)
   refine wp_ret ?_
   refine then_ret ?_
   refine ret_two h _ _ rfl (ans_row (cs:=pcE (Ep.o m2)) 2 (lk rfl) 40 rfl rfl Tryd.underlying40 rfl i40) (ans_tmp (v:=Value.bool false) 3 (lk rfl) rfl) ?_
   exact ⟨by rw [(dec_no2 hVe hsn h1 (if_neg hd1).symm (fun q=>hF q.1)).1,(dec_no2 hVe hsn h1 (if_neg hd1).symm (fun q=>hF q.1)).2],h.grows⟩
theorem e_Dec {w:World} (hT:Tab w) (hx:TabX w) {A:Option Addr} {c:Nat} {f:Nat→Nat} (hba:BA w A 32 f) (_hc:32≤c) {u:Nat} (hu:LN f u):Calls Tryd.prog 23 [.slice A 32 c].toArray w fun e w'=>e=.returned (.tuple [.agg (pcE (dpt u)).toArray,.bool (dok u)].toArray)∧Below w.heap.size w w':=by
 rcases hba.at_ with h0 | ⟨b,o,rfl,hr⟩
 ·omega
 have hV0:u % 2 ^ 255<2 ^ 255:=Nat.mod_lt _ (by decide)
 exact e_dec_at hT hx hba.lt hr hu (top_bit hu.lt) rfl rfl (num_nat (by omega)) rfl
theorem e_dec_not {w:World} {A:Option Addr} {n c:Nat} (hn:n≠32):Calls Tryd.prog 23 [Value.slice (A) (n) (c)].toArray w fun e w'=>e=.returned (.tuple [.agg (pcE (Ep.o m2)).toArray,.bool false].toArray)∧Below w.heap.size w w':=by
 refine enter (args:=[Value.slice (A) (n) (c)]) Tryd.func23 rfl 48 rfl (lk rfl) (fun a h=>?_)
 refine aX h [] [eN 2 _,eS 3 _] ⟨rfl,rfl,T0⟩ [(0,.val (Value.slice (A) (n) (c))),(2,.ptr 2 0)] [(2,nz++nz++[Value.bool false])] (fun a w h=>?_)
 refine aX h [1] [eS 10 _,eS 11 _,eS 9 _,eS 12 _,eS 13 _,eN 4 _,eM 4 _,eS 5 _] ⟨rfl,fun L u=>u_call u (gd0 rfl) _ rfl _ _ _ rfl [_] rfl (cE24 _) _ (fun w hb=>little_not A n c hn _),rfl,rfl,rfl,rfl,rfl,rfl,T0⟩ [(2,_),(4,.ptr 4 0),(5,.val (Value.bool false))] [(2,_),(4,nz)] (fun a w h=>?_)
 refine wp_seq ?_
 refine aX h [] [eS 14 _,eS 15 _] ⟨rfl,rfl,T0⟩ [(2,_),(4,_),(15,.val (Value.bool true))] [(2,_),(4,_)] (fun a w h=>?_)
 refine go_cond h true rfl (fun ht=>?_) (fun hf=>?_)
 case refine_2=>cases hf
 refine aX h [0] [eS 16 _,eM 2 _,eS 3 _] ⟨fun L u=>u_call u (gd0 rfl) _ rfl _ _ _ rfl [] rfl (cE52 _) _ (fun w hb=>e_neutral),rfl,rfl,T0⟩ [(2,_),(3,.val (Value.bool false))] [(2,pcE (Ep.o m2))] (fun a w h=>?_)
 refine wp_ret ?_
 refine then_ret ?_
 refine ret_two h _ _ rfl (ans_row (cs:=pcE (Ep.o m2)) 2 (lk rfl) 40 rfl rfl Tryd.underlying40 rfl i40) (ans_tmp (v:=Value.bool false) 3 (lk rfl) rfl) ?_
 exact ⟨rfl,h.grows⟩
end Go.Proofs.YtjaahnlpnkcimaaDoor
namespace Go.Proofs.YtjaahnlpnkcimaaDoor
set_option maxRecDepth 100000
open Go.RowKit
theorem i33Z:(Tryd.prog.info? 33).map (·.size)=some 4:=by kernel_rfl
theorem i5Z:(Tryd.prog.info? 5).map (·.size)=some 1:=by kernel_rfl
theorem i23Z:(Tryd.prog.info? 23).map (·.size)=some 32:=by kernel_rfl
theorem i59Z:(Tryd.prog.info? 59).map (·.size)=some 64:=by kernel_rfl
theorem z33Z:(Tryd.prog.info? 33).map (·.zero)=some (some (.agg (nz).toArray)):=by kernel_rfl
theorem z59Z:(Tryd.prog.info? 59).map (·.zero)=some (some (.agg (cells8 (List.replicate 64 0)).toArray)):=by kernel_rfl
theorem tz59Z:(Tryd.prog.info? 59).map (·.zero)=some (some (.agg [Value.int .u8 0,Value.int .u8 0,Value.int .u8 0,Value.int .u8 0,Value.int .u8 0,Value.int .u8 0,Value.int .u8 0,Value.int .u8 0,Value.int .u8 0,Value.int .u8 0,Value.int .u8 0,Value.int .u8 0,Value.int .u8 0,Value.int .u8 0,Value.int .u8 0,Value.int .u8 0,Value.int .u8 0,Value.int .u8 0,Value.int .u8 0,Value.int .u8 0,Value.int .u8 0,Value.int .u8 0,Value.int .u8 0,Value.int .u8 0,Value.int .u8 0,Value.int .u8 0,Value.int .u8 0,Value.int .u8 0,Value.int .u8 0,Value.int .u8 0,Value.int .u8 0,Value.int .u8 0,Value.int .u8 0,Value.int .u8 0,Value.int .u8 0,Value.int .u8 0,Value.int .u8 0,Value.int .u8 0,Value.int .u8 0,Value.int .u8 0,Value.int .u8 0,Value.int .u8 0,Value.int .u8 0,Value.int .u8 0,Value.int .u8 0,Value.int .u8 0,Value.int .u8 0,Value.int .u8 0,Value.int .u8 0,Value.int .u8 0,Value.int .u8 0,Value.int .u8 0,Value.int .u8 0,Value.int .u8 0,Value.int .u8 0,Value.int .u8 0,Value.int .u8 0,Value.int .u8 0,Value.int .u8 0,Value.int .u8 0,Value.int .u8 0,Value.int .u8 0,Value.int .u8 0,Value.int .u8 0].toArray)):=by kernel_rfl
def ttsE:List (TypeId × TyE):=(59,⟨true,64,some [Value.int .u8 0,Value.int .u8 0,Value.int .u8 0,Value.int .u8 0,Value.int .u8 0,Value.int .u8 0,Value.int .u8 0,Value.int .u8 0,Value.int .u8 0,Value.int .u8 0,Value.int .u8 0,Value.int .u8 0,Value.int .u8 0,Value.int .u8 0,Value.int .u8 0,Value.int .u8 0,Value.int .u8 0,Value.int .u8 0,Value.int .u8 0,Value.int .u8 0,Value.int .u8 0,Value.int .u8 0,Value.int .u8 0,Value.int .u8 0,Value.int .u8 0,Value.int .u8 0,Value.int .u8 0,Value.int .u8 0,Value.int .u8 0,Value.int .u8 0,Value.int .u8 0,Value.int .u8 0,Value.int .u8 0,Value.int .u8 0,Value.int .u8 0,Value.int .u8 0,Value.int .u8 0,Value.int .u8 0,Value.int .u8 0,Value.int .u8 0,Value.int .u8 0,Value.int .u8 0,Value.int .u8 0,Value.int .u8 0,Value.int .u8 0,Value.int .u8 0,Value.int .u8 0,Value.int .u8 0,Value.int .u8 0,Value.int .u8 0,Value.int .u8 0,Value.int .u8 0,Value.int .u8 0,Value.int .u8 0,Value.int .u8 0,Value.int .u8 0,Value.int .u8 0,Value.int .u8 0,Value.int .u8 0,Value.int .u8 0,Value.int .u8 0,Value.int .u8 0,Value.int .u8 0,Value.int .u8 0],[],some (64,1)⟩) :: tts
theorem TTE:AllT Tryd.prog ttsE:=⟨⟨⟨_,Tryd.underlying59,rfl⟩,i59Z,fun z h=>(by cases h;exact ⟨_,tz59Z,rfl⟩),fun i off h=>(match i,h with | _+0,h=>by cases h),fun len z h=>(by cases h;exact ⟨_,Tryd.underlying59,i5Z⟩)⟩,TT⟩
def w8 (x:Int):List Value:=[.int .u64 (L 0 x),.int .u64 (L 1 x),.int .u64 (L 2 x),.int .u64 (L 3 x),.int .u64 (L 4 x),.int .u64 (L 5 x),.int .u64 (L 6 x),.int .u64 (L 7 x)]
def scl (l:List Nat):Nat:=(((nle (hsh l):Nat):Int) % md 3).toNat
theorem md3_pos:0<md 3:=by decide
theorem scl_eq (l:List Nat):((nle (hsh l):Nat):Int) % md 3=((scl l:Nat):Int):=(Int.toNat_of_nonneg (Int.emod_nonneg _ (Int.ne_of_gt md3_pos))).symm
theorem scl_lt (l:List Nat):((scl l:Nat):Int)<md 3:=by rw [← scl_eq];exact Int.emod_lt_of_pos _ md3_pos
theorem scl_num (l:List Nat):scl l<2 ^ 256:=by
 have:=scl_lt l
 have e:md 3≤2 ^ 256:=by decide
 omega
theorem wide_hsh (l:List Nat):Wide ((nle (hsh l):Nat):Int):=by
 have:=nle_lt (hsh_lt l)
 rw [hsh_len] at this
 refine ⟨by omega,?_⟩
 have e:(256 ^ 64:Nat)=13407807929942597099574024998205846127479365820592393377723561443721764030073546976801874298166903427690031858186486050853753882811946569946433649006084096:=by decide +kernel
 rw [e] at this
 omega
theorem wideN {w:World} {b c:Nat} {l:List Nat} (hr:w.rangeAt b 0 (by64 (bz (hsh l)))):Calls Tryd.prog 42 [.slice (some ⟨b,0,none⟩) 64 c].toArray w fun e w'=>e=.returned (.tuple [.agg (w8 ((nle (hsh l):Nat):Int)).toArray,.bool true].toArray)∧Below w.heap.size w w':=by
 have q:=wide_any (cap:=c) (bz_bd (hsh_lt l)) (rd_by64 hr)
 have e:∀ j,E (bz (hsh l)) (8*j) 8=L j ((nle (hsh l):Nat):Int):=fun j=>by
  rw [← E_word]
  exact E_congr _ _ (fun i _=>(nle_Y (hsh_lt l) _).symm)
 rw [show E (bz (hsh l)) 0 8=L 0 _ from e 0,show E (bz (hsh l)) 8 8=L 1 _ from e 1,show E (bz (hsh l)) 16 8=L 2 _ from e 2,show E (bz (hsh l)) 24 8=L 3 _ from e 3,show E (bz (hsh l)) 32 8=L 4 _ from e 4,show E (bz (hsh l)) 40 8=L 5 _ from e 5,show E (bz (hsh l)) 48 8=L 6 _ from e 6,show E (bz (hsh l)) 56 8=L 7 _ from e 7] at q
 exact q
theorem redN {w:World} (hT:Tab w) (l:List Nat):Calls Tryd.prog 43 [.int .i64 3,.agg (w8 ((nle (hsh l):Nat):Int)).toArray].toArray w fun e w'=>e=.returned (.agg (nc ((scl l:Nat):Int)).toArray)∧Below w.heap.size w w':=by
 have q:=f_reduce (k:=3) ⟨by decide,by decide⟩ (wide_hsh l) hT
 rw [scl_eq] at q
 exact q
theorem cZ41 (vs:List Value):∀ w,(callFunc 41 vs.toArray).run Tryd.prog w=.ok (.enter 41 vs.toArray) w:=callFunc_enter Tryd.func41 (by kernel_rfl) (by kernel_rfl) _
theorem cZ43 (vs:List Value):∀ w,(callFunc 43 vs.toArray).run Tryd.prog w=.ok (.enter 43 vs.toArray) w:=callFunc_enter Tryd.func43 (by kernel_rfl) (by kernel_rfl) _
theorem cZ26 (vs:List Value):∀ w,(callFunc 26 vs.toArray).run Tryd.prog w=.ok (.enter 26 vs.toArray) w:=callFunc_enter Tryd.func26 (by kernel_rfl) (by kernel_rfl) _
theorem cZ27 (vs:List Value):∀ w,(callFunc 27 vs.toArray).run Tryd.prog w=.ok (.enter 27 vs.toArray) w:=callFunc_enter Tryd.func27 (by kernel_rfl) (by kernel_rfl) _
theorem cZ24 (vs:List Value):∀ w,(callFunc 24 vs.toArray).run Tryd.prog w=.ok (.enter 24 vs.toArray) w:=callFunc_enter Tryd.func24 (by kernel_rfl) (by kernel_rfl) _
theorem cZ8 (vs:List Value):∀ w,(callFunc 8 vs.toArray).run Tryd.prog w=.ok (.enter 8 vs.toArray) w:=callFunc_enter Tryd.func8 (by kernel_rfl) (by kernel_rfl) _
theorem cZ21 (vs:List Value):∀ w,(callFunc 21 vs.toArray).run Tryd.prog w=.ok (.enter 21 vs.toArray) w:=callFunc_enter Tryd.func21 (by kernel_rfl) (by kernel_rfl) _
theorem cZ20 (vs:List Value):∀ w,(callFunc 20 vs.toArray).run Tryd.prog w=.ok (.enter 20 vs.toArray) w:=callFunc_enter Tryd.func20 (by kernel_rfl) (by kernel_rfl) _
theorem cZ23 (vs:List Value):∀ w,(callFunc 23 vs.toArray).run Tryd.prog w=.ok (.enter 23 vs.toArray) w:=callFunc_enter Tryd.func23 (by kernel_rfl) (by kernel_rfl) _
theorem cZ25 (vs:List Value):∀ w,(callFunc 25 vs.toArray).run Tryd.prog w=.ok (.enter 25 vs.toArray) w:=callFunc_enter Tryd.func25 (by kernel_rfl) (by kernel_rfl) _
theorem cZ28 (vs:List Value):∀ w,(callFunc 28 vs.toArray).run Tryd.prog w=.ok (.enter 28 vs.toArray) w:=callFunc_enter Tryd.func28 (by kernel_rfl) (by kernel_rfl) _
theorem qNumb {w:World} (hT:Tab w) (hH:Sx.Tab w) {b k:Nat} {vs:List Value} {ls:List (List Nat)} {l:List Nat} (hfl:ls.flatten=l) (hp:Pts w vs ls) (hc:∀ i v,vs[i]?=some v→w.cell? ⟨b,i,none⟩=some v) (hk:vs.length≤1000) (hl:ls.flatten.length≤200000) (hkk:vs.length=k):Calls Tryd.prog 18 [Value.slice (some ⟨b,0,none⟩) (k) (k)].toArray w fun e w'=>e=.returned (.agg (nc ((scl l:Nat):Int)).toArray)∧Below w.heap.size w w':=by
 refine enter (args:=[Value.slice (some ⟨b,0,none⟩) (k) (k)]) Tryd.func18 rfl 15 rfl (lk rfl) (fun a h=>?_)
 refine a_region TTE h hm [] [eN 2 _] (by kernel_rfl) ⟨rfl,T0⟩ [(0,.val (Value.slice (some ⟨b,0,none⟩) (k) (k))),(2,.ptr 2 0)] [(2,nz)] ⟨rfl,rfl,T0⟩ ⟨rfl,T0⟩ rfl (fun a w h=>?_)
 refine a_region TTE h hm [1] [eS 6 _,eS 7 (.val (.agg (by64 (bz (hsh l))).toArray)),eN 3 _,eM 3 _] (by kernel_rfl) ⟨rfl,fun L u=>u_call u (gd0 rfl) _ rfl _ _ _ rfl [_] rfl (cZ41 _) _ (fun w hb=>sumL (hH.keep (Bs.kp_of hb)) (hp.keep (Bs.kp_of hb)) (fun i v hv=>later (Bs.kp_of hb) (hc i v hv)) hk hl hkk |> fun q=>by rw [hfl] at q;exact q),rfl,rfl,T0⟩ [(2,_),(3,.ptr 3 0)] [(2,_),(3,by64 (bz (hsh l)))] ⟨rfl,rfl,T0⟩ ⟨rfl,rfl,T0⟩ rfl (fun a w h=>?_)
 refine a_region TTE h hm [0,1] [eS 9 (.sli 3 0 64 64),eS 10 (.val (.tuple [Value.agg (w8 (((nle (hsh l):Nat):Int))).toArray,Value.bool true].toArray)),eS 8 _,eS 11 _,eS 12 _,eN 4 _,eM 4 _,eS 5 _] (by kernel_rfl) ⟨fun L u=>u_slice u (gd0 rfl) 9 rfl 59 (.tmp 3) rfl rfl rfl Tryd.underlying59 i5Z,fun L u=>u_callR u (gd0 rfl) 10 rfl 42 #[(.tmp 9)] #[24] rfl [.sli 3 0 64 64] rfl (fun vs w=>callFunc_enter Tryd.func42 (by kernel_rfl) (by kernel_rfl) vs w) (.tuple [.agg (w8 (((nle (hsh l):Nat):Int))).toArray,Value.bool true].toArray) (fun β a w hr=>by obtain ⟨_,_,c3,_⟩:=hr.va 3 (by64 (bz (hsh l))) (u.m rfl);exact wideN c3),rfl,rfl,rfl,rfl,rfl,rfl,T0⟩ [(2,_),(4,.ptr 4 0)] [(2,_),(4,w8 (((nle (hsh l):Nat):Int)))] ⟨rfl,rfl,T0⟩ ⟨rfl,rfl,T0⟩ rfl (fun a w h=>?_)
 refine a_region TTE h hm [1] [eS 13 _,eS 14 (.val (.agg (nc (((scl l:Nat):Int))).toArray)),eM 2 _] (by kernel_rfl) ⟨rfl,fun L u=>u_call u (gd0 rfl) _ rfl _ _ _ rfl [_,_] rfl (cZ43 _) _ (fun w hb=>redN (hT.keep (Bs.kp_of hb)) l),rfl,T0⟩ [(2,_)] [(2,nc (((scl l:Nat):Int)))] ⟨rfl,T0⟩ ⟨rfl,T0⟩ rfl (fun a w h=>?_)
 refine wp_ret ?_
 refine ret_row h 2 33 rfl (lk rfl) 2 rfl (nc (((scl l:Nat):Int))) rfl _ Tryd.underlying33 rfl i33Z ?_
 exact ⟨rfl,h.grows⟩
def cbp (a:Ep m2):List Nat:=fl (fun i=>(Y i ((code a:Nat):Int)).toNat) 32
theorem cbp_len (a:Ep m2):(cbp a).length=32:=fl_len _ _
theorem cbpY (a:Ep m2) (i:Nat):(((Y i ((code a:Nat):Int)).toNat:Nat):Int)=Y i ((code a:Nat):Int):=Int.toNat_of_nonneg (Y_lo _ _)
theorem cbp_lt (a:Ep m2):∀ x ∈ cbp a,x<256:=fl_lt (fun i=>by have:=Y_hi i ((code a:Nat):Int);have:=cbpY a i;omega) 32
theorem cbp_bz (a:Ep m2) {i:Nat} (hi:i<32):bz (cbp a) i=Y i ((code a:Nat):Int):=by
 unfold bz cbp
 rw [getD_fl hi,cbpY]
theorem new_ex {w w':World} {e:Ending} {a:Ep m2} (h:NewC (fun i=>Y i ((code a:Nat):Int)) w e w'):∃ v Fp,e=.returned v∧(exPd 32 (cbp a)).p v Fp w'∧(∀ b,Fp b=true→w.heap.size≤b∧b<w'.heap.size)∧Below w.heap.size w w':=by
 obtain ⟨b,rfl,h2,h3,h4,_,h6⟩:=h
 refine ⟨_,fun k=>Nat.beq k b,rfl,⟨⟨some ⟨b,0,none⟩,32,rfl,Nat.le_refl _,cbp_len a,⟨gD_lt (cbp_lt a),Or.inr ⟨b,0,rfl,?_⟩⟩,fun p hp=>by cases hp;exact Nat.beq_refl _⟩,b,rfl⟩,fun k hk=>by rw [Nat.eq_of_beq_eq_true hk];exact ⟨h2,h3⟩,h6⟩
 exact (rd_by h4).congr (fun i hi=>(cbp_bz a hi).symm)
theorem mG_on (k:Nat):(mt eadd (Ep.o m2) eG (k)).on ed:=mt_on egr eG_on k
theorem encN {w:World} (hT:Tab w) {a:Ep m2} (ha:a.on ed):Calls Tryd.prog 44 [.agg (pcE a).toArray].toArray w fun e w'=>∃ v Fp,e=.returned v∧(exPd 32 (cbp a)).p v Fp w'∧(∀ b,Fp b=true→w.heap.size≤b∧b<w'.heap.size)∧Below w.heap.size w w':=by
 have q:=e_EncC hT (gin_num a.x) (gin_num a.y) false
 rw [rpE_pc ha] at q
 exact Calls.mono q (fun _ _ h=>new_ex h)
theorem mulN {w:World} (hT:Tab w) {k:Nat} (hk:k<2 ^ 256) {a:Ep m2} (ha:a.on ed):Calls Tryd.prog 26 [.agg (nc (k:Int)).toArray,.agg (pcE a).toArray].toArray w fun e w'=>e=.returned (.agg (pcE (mt eadd (Ep.o m2) a k)).toArray)∧Below w.heap.size w w':=by
 have q:=e_Mul hT hk (gin_num a.x) (gin_num a.y) false
 rw [rpE_pc ha] at q
 exact q
theorem qTB {w:World} (hT:Tab w) {A:Nat} (hA:A<2 ^ 256):Calls Tryd.prog 19 [.agg (nc (((A:Nat):Int))).toArray].toArray w fun e w'=>∃ v Fp,e=.returned v∧(exPd 32 (cbp (mt eadd (Ep.o m2) eG (A)))).p v Fp w'∧(∀ b,Fp b=true→w.heap.size≤b∧b<w'.heap.size)∧Below w.heap.size w w':=by
 refine enter (args:=[.agg (nc (((A:Nat):Int))).toArray]) Tryd.func19 rfl 7 rfl (lk rfl) (fun a h=>?_)
 refine a_region TTE h hm [] [eN 1 _,eS 2 _] (by kernel_rfl) ⟨rfl,rfl,T0⟩ [(1,.ptr 1 0)] [(1,nc (((A:Nat):Int)))] ⟨rfl,T0⟩ ⟨rfl,T0⟩ rfl (fun a w h=>?_)
 refine a_regionQ TTE h hm [1,2,3,4] [eS 3 _,eS 4 (.val (.agg (pcE (eG)).toArray)),eS 5 (.val (.agg (pcE (mt eadd (Ep.o m2) eG (A))).toArray)),eQ 6 (exPd 32 (cbp (mt eadd (Ep.o m2) eG (A)))),eS 2 (.unk 6 id)] (by kernel_rfl) ⟨rfl,fun L u=>u_call u (gd0 rfl) _ rfl _ _ _ rfl [] rfl (cZ27 _) _ (fun w hb=>e_Base),fun L u=>u_call u (gd0 rfl) _ rfl _ _ _ rfl [_,_] rfl (cZ26 _) _ (fun w hb=>mulN (hT.keep (Bs.kp_of hb)) hA eG_on),fun L u=>u_callQ u (gd0 rfl) 6 rfl rfl 44 #[(.tmp 5)] #[40] rfl [.val (.agg (pcE (mt eadd (Ep.o m2) eG (A))).toArray)] rfl (fun vs w=>callFunc_enter Tryd.func44 (by kernel_rfl) (by kernel_rfl) vs w) (exPd 32 (cbp (mt eadd (Ep.o m2) eG (A)))) (fun β a w hr=>encN (hT.keep (Bs.kp_of hr.bl)) (mG_on A)),fun L u=>u_copyQ u (gd0 rfl) 2 rfl (.tmp 6) (Or.inr rfl) rfl rfl,T0⟩ [(2,.unk 6 id)] [] [(6,exPd 32 (cbp (mt eadd (Ep.o m2) eG (A))))] ⟨rfl,T0⟩ T0 ⟨rfl,T0⟩ rfl (fun a w h=>?_)
 refine wp_ret ?_
 refine ret_thing h 2 rfl (lk rfl) 6 id rfl rfl (fun v F hp hF=>?_)
 exact ⟨v,F,rfl,hp,hF,h.grows⟩
theorem pt_by32 {w:World} {b:Nat} {l:List Nat} (hl:l.length=32) (hlt:∀ x ∈ l,x<256) (h:w.rangeAt b 0 (by32 (bz l))):Pt w (.slice (some ⟨b,0,none⟩) 32 32) l:=by
 have q:=pt_rd (w:=w) (b:=b) (o:=0) (c:=32) (l:=l) (by rw [hl];exact rd_by h) hlt (by omega) (by decide)
 rw [hl] at q
 exact q
theorem rm_by64 {w:World} {b:Nat} {l:List Nat} (hl:l.length=64) (hlt:∀ x ∈ l,x<256) (h:w.rangeAt b 0 (by64 (bz l))):(rmPd 32 (l.drop 32)).p (.slice (some ⟨b,32,none⟩) 32 32) (fun k=>Nat.beq k b) w:=by
 refine ⟨⟨_,32,rfl,Nat.le_refl _,by rw [List.length_drop,hl],⟨gD_lt (lt_drop hlt 32),Or.inr ⟨b,32,rfl,⟨fun i hi=>?_⟩⟩⟩,fun p hp=>by cases hp;exact Nat.beq_refl _⟩,_,_,_,rfl,by decide⟩
 have q:=(rd_by64 h).c (32+i) (by omega)
 rw [Nat.zero_add] at q
 rw [q,List.getD_eq_getElem?_getD,List.getElem?_drop,← List.getD_eq_getElem?_getD]
theorem lit64 {w:World} {b c:Nat} {l:List Nat} (hlt:∀ x ∈ l,x<256) (h:w.rangeAt b 0 (by64 (bz l))) {U:Nat} (hU:LN (fun i=>l.getD i 0) U):Calls Tryd.prog 24 [.slice (some ⟨b,0,none⟩) 32 c].toArray w fun e w'=>e=.returned (.tuple [.agg (nc (U:Int)).toArray,.bool true].toArray)∧Below w.heap.size w w' :=
 e_Lit (f:=fun i=>l.getD i 0) (gD_lt hlt) ⟨fun i hi=>(rd_by64 h).c i (by omega)⟩ hU
def kA (sd:List Nat):Nat:=nle (clm ((hsh sd).take 32))
def kB (sd:List Nat):List Nat:=(hsh sd).drop 32
theorem hs_take_len (sd:List Nat):((hsh sd).take 32).length=32:=len_take (hsh_len sd) 32 (by decide)
theorem kB_len (sd:List Nat):(kB sd).length=32:=len_drop (hsh_len sd) 32
theorem kA_num (sd:List Nat):kA sd<2 ^ 256:=(nle_ln (clm_lt (lt_take (hsh_lt sd) 32)) (clm_len (hs_take_len sd))).lt
theorem take_ln (sd:List Nat):LN (fun i=>(hsh sd).getD i 0) (nle ((hsh sd).take 32)):=(nle_ln (lt_take (hsh_lt sd) 32) (hs_take_len sd)).of (fun i hi=>by rw [List.getD_eq_getElem?_getD,List.getElem?_take_of_lt hi,← List.getD_eq_getElem?_getD])
theorem lw_bd (i:Nat) (x:Int):0≤lw i x∧lw i x<18446744073709551616:=⟨L_lo i x,L_hi i x⟩
theorem sp_ret {w w':World} {b:Nat} {A:Value} {sd:List Nat} (h1:w.heap.size≤b) (h2:b<w'.heap.size) (h3:w'.rangeAt b 0 (by64 (bz (hsh sd)))) (h4:Below w.heap.size w w'):∃ v Fp,Ending.returned (.tuple [A,.slice (some ⟨b,32,none⟩) 32 32].toArray)=.returned v∧(tusPd A (rmPd 32 (kB sd))).p v Fp w'∧(∀ b,Fp b=true→w.heap.size≤b∧b<w'.heap.size)∧Below w.heap.size w w' :=
 ⟨_,_,rfl,⟨_,rfl,rm_by64 (hsh_len sd) (hsh_lt sd) h3⟩,fun k hk=>by rw [Nat.eq_of_beq_eq_true hk];exact ⟨h1,h2⟩,h4⟩
theorem qSpl_at {w:World} (hH:Sx.Tab w) {sd:List Nat} (hsd:sd.length=32) (hlt:∀ x ∈ sd,x<256) {U A:Nat} (hU:LN (fun i=>(hsh sd).getD i 0) U) (hA:[Value.int .u64 (lw 0 ((U:Nat):Int) / 8*8)]++[Value.int .u64 (lw 1 ((U:Nat):Int))]++[Value.int .u64 (lw 2 ((U:Nat):Int))]++[Value.int .u64 (lw 3 ((U:Nat):Int) % 9223372036854775808 % 4611686018427387904+4611686018427387904)]=nc ((A:Nat):Int)):Calls Tryd.prog 17 [.agg (by32 (bz sd)).toArray].toArray w fun e w'=>∃ v Fp,e=.returned v∧(tusPd (.agg (nc ((A:Nat):Int)).toArray) (rmPd 32 (kB sd))).p v Fp w'∧(∀ b,Fp b=true→w.heap.size≤b∧b<w'.heap.size)∧Below w.heap.size w w':=by
 refine enter (args:=[.agg (by32 (bz sd)).toArray]) Tryd.func17 rfl 29 rfl (lk rfl) (fun a h=>?_)
 refine a_region TTE h hm [] [eN 1 _,eN 2 _,eS 3 _] (by kernel_rfl) ⟨rfl,rfl,rfl,T0⟩ [(1,.ptr 1 0),(2,.ptr 2 0)] [(1,by32 (bz sd)),(2,nz)] ⟨rfl,rfl,T0⟩ ⟨rfl,rfl,T0⟩ rfl (fun a w h=>?_)
 refine wp_seq ?_
 refine sq_begin [0,1,2,3,4] rfl ?_
 refine sq_step h (i:=0) rfl (u_slice (xs:=[]) (up_seq (i:=0) (by kernel_rfl) rfl) (gd0 rfl) 7 rfl 23 (.tmp 1) rfl rfl rfl Tryd.underlying23 i5Z) (fun a w h=>?_)
 refine sq_lc h (i:=1) (j:=2) rfl rfl 8 rfl (lk rfl) 1 #[(0,(.tmp 7))] rfl (by decide) (by decide) rfl rfl 9 rfl 41 #[61] rfl (fun vs w=>callFunc_enter Tryd.func41 (by kernel_rfl) (by kernel_rfl) vs w) [.sli 1 0 32 32] rfl rfl (.agg (by64 (bz (hsh sd))).toArray) (fun β hr=>by obtain ⟨_,_,c3,_⟩:=hr.va 1 (by32 (bz sd)) rfl;exact lc_of (ls:=[sd]) ⟨pt_by32 hsd hlt c3,T0⟩ rfl (fun hb hp hc hk=>by have q:=sumL (c:=1) ((hH.keep (Bs.kp_of hr.bl)).keep hb) hp hc (by rw [hk];decide) (by simp [hsd]) hk;rw [show [sd].flatten=sd by simp] at q;exact q)) fill1 (fun a w h=>?_)
 replace h:=h.keep [(2,.ptr 2 0),(9,.val (.agg (by64 (bz (hsh sd))).toArray))] [(2,nz)] ⟨rfl,rfl,trivial⟩ ⟨rfl,trivial⟩ rfl
 refine sq_step h (i:=3) rfl (u_alloc (xs:=[]) (up_seq (i:=3) (by kernel_rfl) rfl) (gd0 rfl) 59 rfl 4 rfl rfl z59Z _ rfl) (fun a w h=>?_)
 refine sq_step h (i:=4) rfl (u_store (xs:=[]) (up_seq (i:=4) (by kernel_rfl) rfl) (gd0 rfl) 59 (.tmp 4) (.tmp 9) rfl rfl rfl (vs:=by64 (bz (hsh sd))) rfl rfl i59Z (lk rfl) rfl _ rfl) (fun a w h=>?_)
 replace h:=h.keep [(2,.ptr 2 0),(4,.ptr 4 0)] [(2,nz),(4,by64 (bz (hsh sd)))] ⟨rfl,rfl,trivial⟩ ⟨rfl,rfl,trivial⟩ rfl
 refine sq_end ?_
 refine then_norm ?_
 refine a_region TTE h hm [0,1] [eS 11 (.sli 4 0 32 64),eS 12 (.val (.tuple [Value.agg (nc (((U:Nat):Int))).toArray,Value.bool true].toArray)),eS 10 _,eS 13 _,eS 14 _,eN 5 _,eM 5 _,eS 6 _] (by kernel_rfl) ⟨fun L u=>u_sliceH u (gd0 rfl) 11 rfl 59 (.tmp 4) (.const (.int .i64 32)) rfl rfl rfl Tryd.underlying59 i5Z (hi:=32) rfl (by decide),fun L u=>u_callR u (gd0 rfl) 12 rfl 24 #[(.tmp 11)] #[24] rfl [.sli 4 0 32 64] rfl (fun vs w=>callFunc_enter Tryd.func24 (by kernel_rfl) (by kernel_rfl) vs w) (.tuple [.agg (nc (((U:Nat):Int))).toArray,Value.bool true].toArray) (fun β a w hr=>by obtain ⟨_,_,c3,_⟩:=hr.va 4 (by64 (bz (hsh sd))) (u.m rfl);exact lit64 (hsh_lt sd) c3 hU),rfl,rfl,rfl,rfl,rfl,rfl,T0⟩ [(2,_),(4,_),(5,.ptr 5 0)] [(2,_),(4,_),(5,nc (((U:Nat):Int)))] ⟨rfl,rfl,rfl,T0⟩ ⟨rfl,rfl,rfl,T0⟩ rfl (fun a w h=>?_)
 refine a_region TTE h hm [2] [eS 15 _,eS 16 _,eS 17 (.val (Value.int .u64 (lw 0 (((U:Nat):Int)) / 8*8))),eS 18 _,eM 5 _] (by kernel_rfl) ⟨rfl,rfl,fun L u=>u_bin u (gd0 rfl) _ rfl _ _ _ _ _ rfl rfl rfl (eqg_int _ _ _ _ _ _ _ _) _ (fun w=>i_not7 _ _ _ (lw_bd _ _).1 (lw_bd _ _).2 rfl w),rfl,rfl,T0⟩ [(2,_),(4,_),(5,_)] [(2,_),(4,_),(5,[Value.int .u64 (lw 0 (((U:Nat):Int)) / 8*8)]++[Value.int .u64 (lw 1 (((U:Nat):Int)))]++[Value.int .u64 (lw 2 (((U:Nat):Int)))]++[Value.int .u64 (lw 3 (((U:Nat):Int)))])] ⟨rfl,rfl,rfl,T0⟩ ⟨rfl,rfl,rfl,T0⟩ rfl (fun a w h=>?_)
 refine a_region TTE h hm [2] [eS 19 _,eS 20 _,eS 21 (.val (Value.int .u64 (lw 3 (((U:Nat):Int)) % 9223372036854775808))),eS 22 _,eM 5 _] (by kernel_rfl) ⟨rfl,rfl,fun L u=>u_bin u (gd0 rfl) _ rfl _ _ _ _ _ rfl rfl rfl (eqg_int _ _ _ _ _ _ _ _) _ (fun w=>i_not63 _ _ _ (lw_bd _ _).1 (lw_bd _ _).2 rfl w),rfl,rfl,T0⟩ [(2,_),(4,_),(5,_)] [(2,_),(4,_),(5,[Value.int .u64 (lw 0 (((U:Nat):Int)) / 8*8)]++[Value.int .u64 (lw 1 (((U:Nat):Int)))]++[Value.int .u64 (lw 2 (((U:Nat):Int)))]++[Value.int .u64 (lw 3 (((U:Nat):Int)) % 9223372036854775808)])] ⟨rfl,rfl,rfl,T0⟩ ⟨rfl,rfl,rfl,T0⟩ rfl (fun a w h=>?_)
 refine a_region TTE h hm [2] [eS 23 _,eS 24 _,eS 25 (.val (Value.int .u64 (lw 3 (((U:Nat):Int)) % 9223372036854775808 % 4611686018427387904+4611686018427387904))),eS 26 _,eM 5 _] (by kernel_rfl) ⟨rfl,rfl,fun L u=>u_bin u (gd0 rfl) _ rfl _ _ _ _ _ rfl rfl rfl (eqg_int _ _ _ _ _ _ _ _) _ (fun w=>i_or62 _ _ _ (by omega) (by omega) rfl w),rfl,rfl,T0⟩ [(2,_),(4,_),(5,_)] [(2,_),(4,_),(5,nc (((A:Nat):Int)))] ⟨rfl,rfl,rfl,T0⟩ ⟨rfl,rfl,(congrArg some hA),T0⟩ rfl (fun a w h=>?_)
 refine a_region TTE h hm [1] [eS 27 _,eS 28 (.sli 4 32 32 32),eM 2 _,eS 3 _] (by kernel_rfl) ⟨rfl,fun L u=>u_sliceT u (gd0 rfl) 28 rfl 59 (.tmp 4) (.const (.int .i64 32)) rfl rfl rfl Tryd.underlying59 i5Z (off:=32) rfl (by decide) 32 rfl,rfl,rfl,T0⟩ [(2,_),(3,.sli 4 32 32 32)] [(2,nc (((A:Nat):Int))),(4,_)] ⟨rfl,rfl,T0⟩ ⟨rfl,rfl,T0⟩ rfl (fun a w h=>?_)
 refine wp_ret ?_
 refine ret_cs h 2 3 33 rfl (ans_row (cs:=nc ((A:Nat):Int)) 2 (lk rfl) 33 rfl rfl Tryd.underlying33 rfl i33Z) (lk rfl) 4 32 32 32 rfl rfl (fun b h1 h2 h3=>?_)
 exact sp_ret h1 h2 h3 h.grows
theorem qSpl {w:World} (hH:Sx.Tab w) {sd:List Nat} (hsd:sd.length=32) (hlt:∀ x ∈ sd,x<256):Calls Tryd.prog 17 [.agg (by32 (bz sd)).toArray].toArray w fun e w'=>∃ v Fp,e=.returned v∧(tusPd (.agg (nc ((kA sd:Nat):Int)).toArray) (rmPd 32 (kB sd))).p v Fp w'∧(∀ b,Fp b=true→w.heap.size≤b∧b<w'.heap.size)∧Below w.heap.size w w' :=
 qSpl_at hH hsd hlt (take_ln sd) (clm_nc (hs_take_len sd) (lt_take (hsh_lt sd) 32) (nle_ln (lt_take (hsh_lt sd) 32) (hs_take_len sd)))
end Go.Proofs.YtjaahnlpnkcimaaDoor
namespace Go.Proofs.YtjaahnlpnkcimaaDoor
set_option maxRecDepth 100000
open Go.RowKit
def pA (sd:List Nat):Ep m2:=mt eadd (Ep.o m2) eG (kA sd)
theorem pA_on (sd:List Nat):(pA sd).on ed:=mG_on _
theorem spl_by32 {l:List Nat} (h:l.length=32):by32 (bz l)=splice (cells8 (List.replicate 32 0)) 0 (cells8 l):=by
 apply List.ext_getElem?
 intro i
 unfold splice
 have hz:(cells8 (List.replicate 32 0)).length=32:=rfl
 have hl:(cells8 l).length=32:=by rw [cells8_len,h]
 rw [hl,List.take_zero,List.nil_append,List.drop_eq_nil_of_le (by rw [hz];decide),List.append_nil]
 rcases Nat.lt_or_ge i 32 with hi | hi
 ·rw [by32_at _ i hi,cells8_at l i (by omega)]
 ·rw [List.getElem?_eq_none (by rw [by32_len];exact hi),List.getElem?_eq_none (by rw [hl];exact hi)]
def kR (sd ms:List Nat):Nat:=scl (kB sd++ms)
def pR (sd ms:List Nat):Ep m2:=mt eadd (Ep.o m2) eG (kR sd ms)
def kK (r a ms:List Nat):Nat:=scl (r++(a++ms))
def kM (sd ms:List Nat):Nat:=((((kK (cbp (pR sd ms)) (cbp (pA sd)) ms:Nat):Int)*((kA sd:Nat):Int)) % md 3).toNat
def kS (sd ms:List Nat):Nat:=((((kR sd ms:Nat):Int)+((kM sd ms:Nat):Int)) % md 3).toNat
theorem emod3 (x:Int):x % md 3=(((x % md 3).toNat:Nat):Int):=(Int.toNat_of_nonneg (Int.emod_nonneg _ (Int.ne_of_gt md3_pos))).symm
theorem tm3_num (x:Int):(x % md 3).toNat<2 ^ 256:=by
 have h1:=emod3 x
 have h2:=Int.emod_lt_of_pos x md3_pos
 have e:md 3≤2 ^ 256:=by decide
 omega
theorem kS_num (sd ms:List Nat):kS sd ms<2 ^ 256:=tm3_num _
theorem kS_lt (sd ms:List Nat):((kS sd ms:Nat):Int)<md 3:=by unfold kS;rw [← emod3];exact Int.emod_lt_of_pos _ md3_pos
theorem mul3 {w:World} (hT:Tab w) {A B:Nat} (hA:A<2 ^ 256) (hB:B<2 ^ 256):Calls Tryd.prog 21 [.int .i64 3,.agg (nc (A:Int)).toArray,.agg (nc (B:Int)).toArray].toArray w fun e w'=>e=.returned (.agg (nc ((((A:Int)*(B:Int)) % md 3).toNat:Int)).toArray)∧Below w.heap.size w w':=by
 have q:=f_mul (k:=3) ⟨by decide,by decide⟩ (num_nat hA) (num_nat hB) hT
 rw [emod3] at q
 exact q
theorem add3 {w:World} (hT:Tab w) {A B:Nat} (hA:A<2 ^ 256) (hB:B<2 ^ 256):Calls Tryd.prog 20 [.int .i64 3,.agg (nc (A:Int)).toArray,.agg (nc (B:Int)).toArray].toArray w fun e w'=>e=.returned (.agg (nc ((((A:Int)+(B:Int)) % md 3).toNat:Int)).toArray)∧Below w.heap.size w w':=by
 have q:=f_add (k:=3) ⟨by decide,by decide⟩ (num_nat hA) (num_nat hB) hT
 rw [emod3] at q
 exact q
def nb (A:Nat):List Nat:=fl (fun i=>(Y i (A:Int)).toNat) 32
theorem nb_len (A:Nat):(nb A).length=32:=fl_len _ _
theorem nbY (A:Nat) (i:Nat):(((Y i (A:Int)).toNat:Nat):Int)=Y i (A:Int):=Int.toNat_of_nonneg (Y_lo _ _)
theorem nb_lt (A:Nat):∀ x ∈ nb A,x<256:=fl_lt (fun i=>by have:=Y_hi i (A:Int);have:=nbY A i;omega) 32
theorem nb_bz (A:Nat) {i:Nat} (hi:i<32):bz (nb A) i=Y i (A:Int):=by
 unfold bz nb
 rw [getD_fl hi,nbY]
theorem nb_ln {A:Nat} (h:A<2 ^ 256):LN (fun i=>(nb A).getD i 0) A:=⟨h,fun _ hi=>(nb_bz A hi).symm⟩
theorem putN (A:Nat) (w:World):Calls Tryd.prog 22 [.agg (nc (A:Int)).toArray].toArray w fun e w'=>∃ v Fp,e=.returned v∧(exPd 32 (nb A)).p v Fp w'∧(∀ b,Fp b=true→w.heap.size≤b∧b<w'.heap.size)∧Below w.heap.size w w':=by
 refine Calls.mono (e_PutC (A:Int) w) (fun e w' h=>?_)
 obtain ⟨b,rfl,h2,h3,h4,_,h6⟩:=h
 refine ⟨_,fun k=>Nat.beq k b,rfl,⟨⟨some ⟨b,0,none⟩,32,rfl,Nat.le_refl _,nb_len A,⟨gD_lt (nb_lt A),Or.inr ⟨b,0,rfl,?_⟩⟩,fun p hp=>by cases hp;exact Nat.beq_refl _⟩,b,rfl⟩,fun k hk=>by rw [Nat.eq_of_beq_eq_true hk];exact ⟨h2,h3⟩,h6⟩
 exact (rd_by h4).congr (fun i hi=>(nb_bz A hi).symm)
theorem lcNum {w w0:World} (hT:Tab w0) (hH:Sx.Tab w0) (hb0:Below w0.heap.size w0 w) {ss:List SV} {β:Nat→Loc} {ls:List (List Nat)} {l:List Nat} {k:Nat} (hp:Pts w (ss.map (SV.at β)) ls) (hk:ss.length=k) (hk1:k≤1000) (hfl:ls.flatten=l) (hl:l.length≤200000) :
  (∀ s ∈ ss,∃ z m c,s.at β=.slice z m c)∧Calls Tryd.prog 18 #[.slice (some ⟨w.heap.size,0,none⟩) k k] (w.alloc (.cells (ss.map (SV.at β)).toArray 24)) fun e w'=>e=.returned (.agg (nc ((scl l:Nat):Int)).toArray)∧Below (w.heap.size+1) (w.alloc (.cells (ss.map (SV.at β)).toArray 24)) w' :=
 lc_of hp hk (fun hb hp hc hk2=>qNumb ((hT.keep hb0).keep hb) ((hH.keep hb0).keep hb) hfl hp hc (by rw [hk2];exact hk1) (by rw [hfl];exact hl) hk2)
theorem qPub {w:World} (hT:Tab w) (hH:Sx.Tab w) {sd:List Nat} (hsd:sd.length=32) (hlt:∀ x ∈ sd,x<256):Calls Tryd.prog 8 [.agg (by32 (bz sd)).toArray].toArray w fun e w'=>e=.returned (.agg (by32 (bz (cbp (pA sd)))).toArray)∧Below w.heap.size w w':=by
 refine enter (args:=[.agg (by32 (bz sd)).toArray]) Tryd.func8 rfl 16 rfl (lk rfl) (fun a h=>?_)
 refine a_region TTE h hm [] [eN 1 _,eN 2 _] (by kernel_rfl) ⟨rfl,rfl,T0⟩ [(1,.ptr 1 0),(2,.ptr 2 0)] [(1,by32 (bz sd)),(2,cells8 (List.replicate 32 0))] ⟨rfl,rfl,T0⟩ ⟨rfl,rfl,T0⟩ rfl (fun a w h=>?_)
 refine a_region TTE h hm [1,2,3,4,7] [eS 7 _,eQ 8 (tusPd (.agg (nc (((kA sd:Nat):Int))).toArray) (rmPd 32 (kB sd))),eS 6 (.unk 8 id),eS 9 (.val (.agg (nc (((kA sd:Nat):Int))).toArray)),eS 10 (.unk 8 sndV),eN 3 _,eM 3 _,eS 4 (.unk 8 sndV)] (by kernel_rfl) ⟨rfl,fun L u=>u_callQ u (gd0 rfl) 8 rfl rfl 17 #[(.tmp 7)] #[23] rfl [.val (.agg (by32 (bz sd)).toArray)] rfl (fun vs w=>callFunc_enter Tryd.func17 (by kernel_rfl) (by kernel_rfl) vs w) (tusPd (.agg (nc (((kA sd:Nat):Int))).toArray) (rmPd 32 (kB sd))) (fun β a w hr=>qSpl (hH.keep (Bs.kp_of hr.bl)) hsd hlt),fun L u=>u_copyQ u (gd0 rfl) 6 rfl (.tmp 8) (Or.inl rfl) rfl rfl,fun L u=>u_ext0S u (gd0 rfl) 9 rfl (.tmp 6) rfl rfl rfl,fun L u=>u_ext1S u (gd0 rfl) 10 rfl (.tmp 6) rfl rfl rfl,rfl,rfl,fun L u=>u_copyQ u (gd0 rfl) 4 rfl (.tmp 10) (Or.inr rfl) rfl rfl,T0⟩ [(2,_),(3,.ptr 3 0)] [(2,_),(3,nc (((kA sd:Nat):Int)))] ⟨rfl,rfl,T0⟩ ⟨rfl,rfl,T0⟩ rfl (fun a w h=>?_)
 refine a_region TTE h hm [] [eN 5 _] (by kernel_rfl) ⟨rfl,T0⟩ [(2,_),(3,_),(5,.ptr 5 0)] [(2,_),(3,_),(5,cells8 (List.replicate 32 0))] ⟨rfl,rfl,rfl,T0⟩ ⟨rfl,rfl,rfl,T0⟩ rfl (fun a w h=>?_)
 refine a_region TTE h hm [0,2,3] [eS 11 (.sli 5 0 32 32),eS 12 _,eQ 13 (exPd 32 (cbp (pA sd))),(⟨some (14,.val (Value.int .i64 ((32:Nat):Int))),some (5,by32 (bz (cbp (pA sd)))),none,none,none⟩:OE)] (by kernel_rfl) ⟨fun L u=>u_slice u (gd0 rfl) 11 rfl 23 (.tmp 5) rfl rfl rfl Tryd.underlying23 i5Z,rfl,fun L u=>u_callQ u (gd0 rfl) 13 rfl rfl 19 #[(.tmp 12)] #[33] rfl [.val (.agg (nc (((kA sd:Nat):Int))).toArray)] rfl (fun vs w=>callFunc_enter Tryd.func19 (by kernel_rfl) (by kernel_rfl) vs w) (exPd 32 (cbp (pA sd))) (fun β a w hr=>qTB (hT.keep (Bs.kp_of hr.bl)) (kA_num sd)),fun L u=>u_cpyQ u (gd0 rfl) 14 rfl (.tmp 11) (.tmp 13) rfl rfl rfl rfl rfl vr_ex.vw (by decide) (by decide) (by32 (bz (cbp (pA sd)))) (spl_by32 (cbp_len _)),T0⟩ [(2,_),(5,_)] [(2,_),(5,by32 (bz (cbp (pA sd))))] ⟨rfl,rfl,T0⟩ ⟨rfl,rfl,T0⟩ rfl (fun a w h=>?_)
 refine a_region TTE h hm [] [eS 15 _,eM 2 _] (by kernel_rfl) ⟨rfl,rfl,T0⟩ [(2,_)] [(2,by32 (bz (cbp (pA sd))))] ⟨rfl,T0⟩ ⟨rfl,T0⟩ rfl (fun a w h=>?_)
 refine wp_ret ?_
 refine ret_row h 2 23 rfl (lk rfl) 2 rfl (by32 (bz (cbp (pA sd)))) rfl _ Tryd.underlying23 rfl i23Z ?_
 exact ⟨rfl,h.grows⟩
theorem qSign {w:World} (hT:Tab w) (hH:Sx.Tab w) {sd:List Nat} (hsd:sd.length=32) (hlt:∀ x ∈ sd,x<256) {n c:Nat} {z:Option Addr} {f:Nat→Nat} (hba:BA w z n f) (hc:n≤c) (hcm:c≤maxLen) (_hn:n≤100000):Calls Tryd.prog 7 [.agg (by32 (bz sd)).toArray,Value.slice (z) (n) (c)].toArray w fun e w'=>∃ v Fp,e=.returned v∧(rowPd 5 1 (32+32) (cells8 (cbp (pR sd (fl f n))++(nb (kS sd (fl f n)))))).p v Fp w'∧(∀ b,Fp b=true→w.heap.size≤b∧b<w'.heap.size)∧Below w.heap.size w w':=by
 refine enter (args:=[.agg (by32 (bz sd)).toArray,Value.slice (z) (n) (c)]) Tryd.func7 rfl 37 rfl (lk rfl) (fun a h=>?_)
 refine a_region TTE h hm [] [eN 2 _,eS 4 _] (by kernel_rfl) ⟨rfl,rfl,T0⟩ [(1,.val (Value.slice (z) (n) (c))),(2,.ptr 2 0)] [(2,by32 (bz sd))] ⟨rfl,rfl,T0⟩ ⟨rfl,T0⟩ rfl (fun a w h=>?_)
 refine a_regionQ TTE h hm [1,2,3,4,7] [eS 12 _,eQ 13 (tusPd (.agg (nc (((kA sd:Nat):Int))).toArray) (rmPd 32 (kB sd))),eS 11 (.unk 13 id),eS 14 (.val (.agg (nc (((kA sd:Nat):Int))).toArray)),eS 15 (.unk 13 sndV),eN 5 _,eM 5 _,eS 6 (.unk 13 sndV)] (by kernel_rfl) ⟨rfl,fun L u=>u_callQ u (gd0 rfl) 13 rfl rfl 17 #[(.tmp 12)] #[23] rfl [.val (.agg (by32 (bz sd)).toArray)] rfl (fun vs w=>callFunc_enter Tryd.func17 (by kernel_rfl) (by kernel_rfl) vs w) (tusPd (.agg (nc (((kA sd:Nat):Int))).toArray) (rmPd 32 (kB sd))) (fun β a w hr=>qSpl (hH.keep (Bs.kp_of hr.bl)) hsd hlt),fun L u=>u_copyQ u (gd0 rfl) 11 rfl (.tmp 13) (Or.inl rfl) rfl rfl,fun L u=>u_ext0S u (gd0 rfl) 14 rfl (.tmp 11) rfl rfl rfl,fun L u=>u_ext1S u (gd0 rfl) 15 rfl (.tmp 11) rfl rfl rfl,rfl,rfl,fun L u=>u_copyQ u (gd0 rfl) 6 rfl (.tmp 15) (Or.inr rfl) rfl rfl,T0⟩ [(1,_),(5,.ptr 5 0),(6,.unk 13 sndV)] [(5,nc (((kA sd:Nat):Int)))] [(13,tusPd (.agg (nc (((kA sd:Nat):Int))).toArray) (rmPd 32 (kB sd)))] ⟨rfl,rfl,rfl,T0⟩ ⟨rfl,T0⟩ ⟨rfl,T0⟩ rfl (fun a w h=>?_)
 refine wp_seq ?_
 refine sq_begin [0,1,2,3,4,5] rfl ?_
 refine sq_step h (i:=0) rfl (u_copyQ (xs:=[]) (up_seq (i:=0) (by kernel_rfl) rfl) (gd0 rfl) 16 rfl (.tmp 6) (Or.inl rfl) rfl rfl) (fun a w h=>?_)
 refine sq_step h (i:=1) rfl (u_move (xs:=[]) (up_seq (i:=1) (by kernel_rfl) rfl) (gd0 rfl) 17 rfl (.tmp 1) (Or.inl rfl) rfl) (fun a w h=>?_)
 refine sq_lc h (i:=2) (j:=3) rfl rfl 18 rfl (lk rfl) 2 #[(0,(.tmp 16)),(1,(.tmp 17))] rfl (by decide) (by decide) rfl rfl 19 rfl 18 #[61] rfl (fun vs w=>callFunc_enter Tryd.func18 (by kernel_rfl) (by kernel_rfl) vs w) [.unk 13 sndV,.val (Value.slice (z) (n) (c))] rfl rfl (.agg (nc (((kR sd (fl f n):Nat):Int))).toArray) (fun β hr=>lcNum (ls:=[kB sd,fl f n]) (l:=kB sd++fl f n) hT hH (Bs.kp_of hr.bl) ⟨pt_rm (tus_snd (hr.thing (x:=13) rfl)),pt_ba (hba.keep (Bs.kp_of hr.bl)) hc hcm,T0⟩ rfl (by decide) (by simp) (by rw [List.length_append,kB_len,fl_len];omega)) fill2 (fun a w h=>?_)
 replace h:=h.keep [(1,.val (Value.slice (z) (n) (c))),(5,.ptr 5 0),(19,.val (.agg (nc (((kR sd (fl f n):Nat):Int))).toArray))] [(5,nc (((kA sd:Nat):Int)))] ⟨rfl,rfl,rfl,trivial⟩ ⟨rfl,trivial⟩ rfl
 refine sq_step h (i:=4) rfl (u_alloc (xs:=[]) (up_seq (i:=4) (by kernel_rfl) rfl) (gd0 rfl) 33 rfl 7 rfl rfl z33Z _ rfl) (fun a w h=>?_)
 refine sq_step h (i:=5) rfl (u_store (xs:=[]) (up_seq (i:=5) (by kernel_rfl) rfl) (gd0 rfl) 33 (.tmp 7) (.tmp 19) rfl rfl rfl (vs:=nc (((kR sd (fl f n):Nat):Int))) rfl rfl i33Z (lk rfl) rfl _ rfl) (fun a w h=>?_)
 replace h:=h.keep [(1,.val (Value.slice (z) (n) (c))),(5,.ptr 5 0),(7,.ptr 7 0)] [(5,nc (((kA sd:Nat):Int))),(7,nc (((kR sd (fl f n):Nat):Int)))] ⟨rfl,rfl,rfl,trivial⟩ ⟨rfl,rfl,trivial⟩ rfl
 refine sq_end ?_
 refine then_norm ?_
 refine a_regionQ TTE h hm [1,2] [eS 20 _,eQ 21 (exPd 32 (cbp (pR sd (fl f n)))),eS 8 (.unk 21 id)] (by kernel_rfl) ⟨rfl,fun L u=>u_callQ u (gd0 rfl) 21 rfl rfl 19 #[(.tmp 20)] #[33] rfl [.val (.agg (nc (((kR sd (fl f n):Nat):Int))).toArray)] rfl (fun vs w=>callFunc_enter Tryd.func19 (by kernel_rfl) (by kernel_rfl) vs w) (exPd 32 (cbp (pR sd (fl f n)))) (fun β a w hr=>qTB (hT.keep (Bs.kp_of hr.bl)) (scl_num _)),fun L u=>u_copyQ u (gd0 rfl) 8 rfl (.tmp 21) (Or.inr rfl) rfl rfl,T0⟩ [(1,_),(5,_),(7,_),(8,.unk 21 id)] [(5,_),(7,_)] [(21,exPd 32 (cbp (pR sd (fl f n))))] ⟨rfl,rfl,rfl,rfl,T0⟩ ⟨rfl,rfl,T0⟩ ⟨rfl,T0⟩ rfl (fun a w h=>?_)
 refine wp_seq ?_
 refine sq_begin [0,1,2,3,4,5,6,7] rfl ?_
 refine sq_step h (i:=0) rfl (u_copyQ (xs:=[]) (up_seq (i:=0) (by kernel_rfl) rfl) (gd0 rfl) 22 rfl (.tmp 8) (Or.inl rfl) rfl rfl) (fun a w h=>?_)
 refine sq_step h (i:=1) rfl (u_load (xs:=[]) (up_seq (i:=1) (by kernel_rfl) rfl) (gd0 rfl) 23 rfl 33 (.tmp 5) rfl rfl rfl Tryd.underlying33 rfl i33Z (lk rfl) _ rfl) (fun a w h=>?_)
 refine sq_step h (i:=2) rfl (u_callQ (xs:=[]) (up_seq (i:=2) (by kernel_rfl) rfl) (gd0 rfl) 24 rfl rfl 19 #[(.tmp 23)] #[33] rfl [.val (.agg (nc (((kA sd:Nat):Int))).toArray)] rfl (fun vs w=>callFunc_enter Tryd.func19 (by kernel_rfl) (by kernel_rfl) vs w) (exPd 32 (cbp (pA sd))) (fun β a w hr=>qTB (hT.keep (Bs.kp_of hr.bl)) (kA_num sd))) (fun a w h=>?_)
 refine sq_step h (i:=3) rfl (u_move (xs:=[]) (up_seq (i:=3) (by kernel_rfl) rfl) (gd0 rfl) 25 rfl (.tmp 1) (Or.inl rfl) rfl) (fun a w h=>?_)
 refine sq_lc h (i:=4) (j:=5) rfl rfl 26 rfl (lk rfl) 3 #[(0,(.tmp 22)),(1,(.tmp 24)),(2,(.tmp 25))] rfl (by decide) (by decide) rfl rfl 27 rfl 18 #[61] rfl (fun vs w=>callFunc_enter Tryd.func18 (by kernel_rfl) (by kernel_rfl) vs w) [.unk 21 id,.unk 24 id,.val (Value.slice (z) (n) (c))] rfl rfl (.agg (nc (((kK (cbp (pR sd (fl f n))) (cbp (pA sd)) (fl f n):Nat):Int))).toArray) (fun β hr=>lcNum (ls:=[cbp (pR sd (fl f n)),cbp (pA sd),fl f n]) (l:=cbp (pR sd (fl f n))++(cbp (pA sd)++fl f n)) hT hH (Bs.kp_of hr.bl) ⟨pt_rm (rm_ex (by decide) (hr.thing (x:=21) rfl)),pt_rm (rm_ex (by decide) (hr.thing (x:=24) rfl)),pt_ba (hba.keep (Bs.kp_of hr.bl)) hc hcm,T0⟩ rfl (by decide) (by simp) (by rw [List.length_append,List.length_append,cbp_len,cbp_len,fl_len];omega)) fill3 (fun a w h=>?_)
 replace h:=h.keepQ [(5,.ptr 5 0),(7,.ptr 7 0),(8,.unk 21 id),(27,.val (.agg (nc (((kK (cbp (pR sd (fl f n))) (cbp (pA sd)) (fl f n):Nat):Int))).toArray))] [(5,nc (((kA sd:Nat):Int))),(7,nc (((kR sd (fl f n):Nat):Int)))] [(21,exPd 32 (cbp (pR sd (fl f n))))] ⟨rfl,rfl,rfl,rfl,trivial⟩ ⟨rfl,rfl,trivial⟩ ⟨rfl,trivial⟩ rfl
 refine sq_step h (i:=6) rfl (u_alloc (xs:=[]) (up_seq (i:=6) (by kernel_rfl) rfl) (gd0 rfl) 33 rfl 9 rfl rfl z33Z _ rfl) (fun a w h=>?_)
 refine sq_step h (i:=7) rfl (u_store (xs:=[]) (up_seq (i:=7) (by kernel_rfl) rfl) (gd0 rfl) 33 (.tmp 9) (.tmp 27) rfl rfl rfl (vs:=nc (((kK (cbp (pR sd (fl f n))) (cbp (pA sd)) (fl f n):Nat):Int))) rfl rfl i33Z (lk rfl) rfl _ rfl) (fun a w h=>?_)
 replace h:=h.keepQ [(5,.ptr 5 0),(7,.ptr 7 0),(8,.unk 21 id),(9,.ptr 9 0)] [(5,nc (((kA sd:Nat):Int))),(7,nc (((kR sd (fl f n):Nat):Int))),(9,nc (((kK (cbp (pR sd (fl f n))) (cbp (pA sd)) (fl f n):Nat):Int)))] [(21,exPd 32 (cbp (pR sd (fl f n))))] ⟨rfl,rfl,rfl,rfl,trivial⟩ ⟨rfl,rfl,rfl,trivial⟩ ⟨rfl,trivial⟩ rfl
 refine sq_end ?_
 refine then_norm ?_
 refine a_regionQ TTE h hm [3,4] [eS 28 _,eS 29 _,eS 30 _,eS 31 (.val (.agg (nc (((kM sd (fl f n):Nat):Int))).toArray)),eS 32 (.val (.agg (nc (((kS sd (fl f n):Nat):Int))).toArray)),eN 10 _,eM 10 _] (by kernel_rfl) ⟨rfl,rfl,rfl,fun L u=>u_call u (gd0 rfl) _ rfl _ _ _ rfl [_,_,_] rfl (cZ21 _) _ (fun w hb=>mul3 (hT.keep (Bs.kp_of hb)) (scl_num _) (kA_num sd)),fun L u=>u_call u (gd0 rfl) _ rfl _ _ _ rfl [_,_,_] rfl (cZ20 _) _ (fun w hb=>add3 (hT.keep (Bs.kp_of hb)) (scl_num _) (tm3_num _)),rfl,rfl,T0⟩ [(8,_),(10,.ptr 10 0)] [(10,nc (((kS sd (fl f n):Nat):Int)))] [(21,exPd 32 (cbp (pR sd (fl f n))))] ⟨rfl,rfl,T0⟩ ⟨rfl,T0⟩ ⟨rfl,T0⟩ rfl (fun a w h=>?_)
 refine wp_seq ?_
 refine sq_begin [0,1,2,3,4] rfl ?_
 refine sq_step h (i:=0) rfl (u_copyQ (xs:=[]) (up_seq (i:=0) (by kernel_rfl) rfl) (gd0 rfl) 33 rfl (.tmp 8) (Or.inl rfl) rfl rfl) (fun a w h=>?_)
 refine sq_step h (i:=1) rfl (u_load (xs:=[]) (up_seq (i:=1) (by kernel_rfl) rfl) (gd0 rfl) 34 rfl 33 (.tmp 10) rfl rfl rfl Tryd.underlying33 rfl i33Z (lk rfl) _ rfl) (fun a w h=>?_)
 refine sq_step h (i:=2) rfl (u_callQ (xs:=[]) (up_seq (i:=2) (by kernel_rfl) rfl) (gd0 rfl) 35 rfl rfl 22 #[(.tmp 34)] #[33] rfl [.val (.agg (nc (((kS sd (fl f n):Nat):Int))).toArray)] rfl (fun vs w=>callFunc_enter Tryd.func22 (by kernel_rfl) (by kernel_rfl) vs w) (exPd 32 (nb (kS sd (fl f n)))) (fun β a w hr=>putN _ _)) (fun a w h=>?_)
 refine sq_appX (l:=cbp (pR sd (fl f n))) (f:=(fun i=>(nb (kS sd (fl f n))).getD i 0)) h (i:=3) rfl (gq0 rfl) 36 rfl rfl (.tmp 33) (.tmp 35) rfl 21 rfl rfl (fun β hr=>vw_src hr (y:=35) (g:=id) (p:=exPd 32 (nb (kS sd (fl f n)))) rfl rfl vr_ex.vw) (fun a w h=>?_)
 replace h:=h.keepQ [(36,.unk 36 id)] [] [(36,rowPd 5 1 (32+32) (cells8 (cbp (pR sd (fl f n))++(nb (kS sd (fl f n))))))] ⟨rfl,trivial⟩ trivial ⟨(congrArg (fun z=>some (rowPd 5 1 (32+32) (cells8 (cbp (pR sd (fl f n))++z)))) (fl_getD (l:=nb (kS sd (fl f n))) (n:=32) (nb_len _))),trivial⟩ rfl
 refine sq_step h (i:=4) rfl (u_copyQ (xs:=[]) (up_seq (i:=4) (by kernel_rfl) rfl) (gd0 rfl) 4 rfl (.tmp 36) (Or.inr rfl) rfl rfl) (fun a w h=>?_)
 replace h:=h.keepQ [(4,.unk 36 id)] [] [(36,rowPd 5 1 (32+32) (cells8 (cbp (pR sd (fl f n))++(nb (kS sd (fl f n))))))] ⟨rfl,trivial⟩ trivial ⟨rfl,trivial⟩ rfl
 refine sq_end ?_
 refine then_norm ?_
 refine wp_ret ?_
 refine ret_thing h 4 rfl (lk rfl) 36 id rfl rfl (fun v F hp hF=>?_)
 exact ⟨v,F,rfl,hp,hF,h.grows⟩
end Go.Proofs.YtjaahnlpnkcimaaDoor
