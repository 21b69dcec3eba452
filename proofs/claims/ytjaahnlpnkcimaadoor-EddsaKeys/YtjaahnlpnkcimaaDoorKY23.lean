/- Points of four numbers (X : Y : Z : T) with X Y = Z T, added by one formula: they are the points of the second curve. What the program's own functions of layer 9 answer. What the program's own Formed, lift, drop, times, Add, Mul, Both and Base answer. What the program's own Encode of layer 9 answers. -/
import Derived.Test.YtjaahnlpnkcimaaDoorKY19
import Derived.Test.YtjaahnlpnkcimaaDoorKY21
import Derived.Test.YtjaahnlpnkcimaaDoorKY22
import Derived.Test.YtjaahnlpnkcimaaDoorKY05
set_option maxRecDepth 100000
set_option maxHeartbeats 8000000
namespace Go.Proofs.YtjaahnlpnkcimaaDoor
set_option maxRecDepth 100000
structure X4:Type where
 x:Fin m2
 y:Fin m2
 z:Fin m2
 t:Fin m2
def xdrop (p:X4):Ep m2:=⟨p.x*fiv p.z,p.y*fiv p.z⟩
def xlift (a:Ep m2):X4:=⟨a.x,a.y,1,a.x*a.y⟩
def xadd (p q:X4):X4 :=
 ⟨(p.x*q.y+q.x*p.y)*(p.z*q.z-ed*(p.t*q.t)),(p.z*q.z+ed*(p.t*q.t))*(p.y*q.y+p.x*q.x),
  (p.z*q.z-ed*(p.t*q.t))*(p.z*q.z+ed*(p.t*q.t)),(p.x*q.y+q.x*p.y)*(p.y*q.y+p.x*q.x)⟩
structure Xo (p:X4):Prop where
 z:p.z≠0
 t:p.x*p.y=p.z*p.t
 on:(xdrop p).on ed
def X4.three (p:X4):P3 (Fin m2):=⟨p.x,p.y,p.z⟩
theorem Xo.fo {p:X4} (h:Xo p):Fo p.three:=⟨h.z,h.on⟩
theorem xdrop_lift (a:Ep m2):xdrop (xlift a)=a:=fdrop_lift a
theorem xo_lift {a:Ep m2} (h:a.on ed):Xo (xlift a):=⟨fld2.one,by simp only [xlift];grobner,by rw [xdrop_lift];exact h⟩
theorem fdrop_sc {k x y z:Fin m2} (hk:k≠0) (hz:z≠0):fdrop ⟨k*x,k*y,k*z⟩=fdrop ⟨x,y,z⟩:=by
 have i1:=fld2.inv _ hz
 have i2:=fld2.inv _ (fld2.ne hk hz)
 simp only [fdrop]
 generalize fiv z=i at *
 generalize fiv (k*z)=j at *
 clear hk hz
 have e:k*j=i:=by
  have:k*j*(z*i)=k*z*j*i:=by clear i1 i2;grobner
  rw [i1,i2] at this
  rw [show k*j=k*j*1 by clear i1 i2 this;grobner,this]
  clear i1 i2 this
  grobner
 clear i1 i2
 congr 1
 ·rw [show k*x*j=x*(k*j) by clear e;grobner,e]
 ·rw [show k*y*j=y*(k*j) by clear e;grobner,e]
theorem xadd_three {p q:X4} (hp:Xo p) (hq:Xo q):fadd p.three q.three=⟨p.z*q.z*(p.z*q.z)*(xadd p q).x,p.z*q.z*(p.z*q.z)*(xadd p q).y,p.z*q.z*(p.z*q.z)*(xadd p q).z⟩:=by
 have h1:=hp.t
 have h2:=hq.t
 have e:ed*(p.x*q.x*(p.y*q.y))=p.z*q.z*(ed*(p.t*q.t)):=by
  rw [show p.x*q.x*(p.y*q.y)=p.x*p.y*(q.x*q.y) by clear h1 h2;grobner,h1,h2]
  clear h1 h2
  grobner
 clear h1 h2
 simp only [fadd,X4.three,xadd,e]
 clear e hp hq
 congr 1 <;> grobner
theorem xadd_ok {p q:X4} (hp:Xo p) (hq:Xo q):Xo (xadd p q)∧xdrop (xadd p q)=eadd (xdrop p) (xdrop q):=by
 have hf:=fadd_ok hp.fo hq.fo
 have hc:=fld2.ne (fld2.ne hp.z hq.z) (fld2.ne hp.z hq.z)
 rw [xadd_three hp hq] at hf
 have nz:(xadd p q).z≠0:=fun h=>hf.1.z (by
  show p.z*q.z*(p.z*q.z)*(xadd p q).z=0
  rw [h]
  grobner)
 have key:xdrop (xadd p q)=eadd (xdrop p) (xdrop q):=(fdrop_sc hc nz).symm.trans hf.2
 refine ⟨⟨nz,?_,by rw [key];exact egr.mem hp.on hq.on⟩,key⟩
 simp only [xadd]
 clear hf hc nz key hp hq
 grobner
structure Sums (A:X4→X4→X4):Prop where
 ok:∀ {p q:X4},Xo p→Xo q→Xo (A p q)∧xdrop (A p q)=eadd (xdrop p) (xdrop q)
theorem xadd_sums:Sums xadd:=⟨xadd_ok⟩
def xm (A:X4→X4→X4) (k:Nat) (p:X4):Nat→X4
 | 0=>xlift (Ep.o m2)
 | n+1=>if k / 2 ^ (255-n) % 2=1 then A (A (xm A k p n) (xm A k p n)) p else A (xm A k p n) (xm A k p n)
theorem xm_mt {A:X4→X4→X4} (hA:Sums A) {k:Nat} {p:X4} (hp:Xo p):∀ n,n≤256→Xo (xm A k p n)∧xdrop (xm A k p n)=mt eadd (Ep.o m2) (xdrop p) (k / 2 ^ (256-n) % 2 ^ n)
 | 0,_=>by
  rw [show k / 2 ^ (256-0) % 2 ^ 0=0 by rw [Nat.pow_zero,Nat.mod_one]]
  exact ⟨xo_lift egr.zero,xdrop_lift _⟩
 | n+1,hn=>by
  obtain ⟨h1,h2⟩:=xm_mt hA (k:=k) hp n (by omega)
  have e1:k / 2 ^ (256-(n+1)) % 2 ^ (n+1)=2*(k / 2 ^ (256-n) % 2 ^ n)+k / 2 ^ (255-n) % 2:=by
   rw [show 256-(n+1)=255-n by omega]
   have e2:k / 2 ^ (256-n)=k / 2 ^ (255-n) / 2:=by
    rw [Nat.div_div_eq_div_mul,← Nat.pow_succ]
    congr 2
    omega
   rw [e2]
   generalize k / 2 ^ (255-n)=m
   rw [Nat.pow_succ,Nat.mul_comm (2 ^ n) 2,Nat.mod_mul]
   omega
  obtain ⟨g1,g2⟩:=hA.ok h1 h1
  rw [h2,← mt_two egr hp.on] at g2
  rw [e1]
  by_cases hb:k / 2 ^ (255-n) % 2=1
  ·rw [show xm A k p (n+1)=_ from if_pos hb]
   obtain ⟨f1,f2⟩:=hA.ok g1 hp
   refine ⟨f1,?_⟩
   rw [f2,g2,hb]
   rfl
  ·rw [show xm A k p (n+1)=_ from if_neg hb]
   refine ⟨g1,?_⟩
   rw [g2,show k / 2 ^ (255-n) % 2=0 by omega]
   rfl
theorem xm_all {A:X4→X4→X4} (hA:Sums A) {k:Nat} (hk:k<2 ^ 256) {p:X4} (hp:Xo p):xdrop (xm A k p 256)=mt eadd (Ep.o m2) (xdrop p) k:=by
 rw [(xm_mt hA (k:=k) hp 256 (Nat.le_refl _)).2,Nat.sub_self,Nat.pow_zero,Nat.div_one,Nat.mod_eq_of_lt hk]
end Go.Proofs.YtjaahnlpnkcimaaDoor
namespace Go.Proofs.YtjaahnlpnkcimaaDoor
set_option maxRecDepth 100000
open Go.RowKit
theorem i79:(Tryd.prog.info? 79).map (·.size)=some 16:=by kernel_rfl
theorem g_bN1:Tryd.prog.built 33 [(0,.int .u64 1)]=some (gc 1).toArray:=by kernel_rfl
theorem g_bN1x {one:Fin m2} (h:one=1):Tryd.prog.built 33 [(0,.int .u64 1)]=some (gc one).toArray:=by rw [h];exact g_bN1
theorem g_bX (x y z t:Fin m2):Tryd.prog.built 79 [(0,.agg (gc x).toArray),(1,.agg (gc y).toArray),(2,.agg (gc z).toArray),(3,.agg (gc t).toArray)]=some (gc x++gc y++gc z++gc t).toArray:=by kernel_rfl
def xc (p:X4):List Value:=gc p.x++gc p.y++gc p.z++gc p.t
theorem cE80 (vs:List Value):∀ w,(callFunc 80 vs.toArray).run Tryd.prog w=.ok (.enter 80 vs.toArray) w:=callFunc_enter Tryd.func80 (by kernel_rfl) (by kernel_rfl) _
theorem cE57 (vs:List Value):∀ w,(callFunc 57 vs.toArray).run Tryd.prog w=.ok (.enter 57 vs.toArray) w:=callFunc_enter Tryd.func57 (by kernel_rfl) (by kernel_rfl) _
theorem cE79 (vs:List Value):∀ w,(callFunc 79 vs.toArray).run Tryd.prog w=.ok (.enter 79 vs.toArray) w:=callFunc_enter Tryd.func79 (by kernel_rfl) (by kernel_rfl) _
theorem cE78 (vs:List Value):∀ w,(callFunc 78 vs.toArray).run Tryd.prog w=.ok (.enter 78 vs.toArray) w:=callFunc_enter Tryd.func78 (by kernel_rfl) (by kernel_rfl) _
theorem cE56 (vs:List Value):∀ w,(callFunc 56 vs.toArray).run Tryd.prog w=.ok (.enter 56 vs.toArray) w:=callFunc_enter Tryd.func56 (by kernel_rfl) (by kernel_rfl) _
theorem cE52 (vs:List Value):∀ w,(callFunc 52 vs.toArray).run Tryd.prog w=.ok (.enter 52 vs.toArray) w:=callFunc_enter Tryd.func52 (by kernel_rfl) (by kernel_rfl) _
theorem cE64 (vs:List Value):∀ w,(callFunc 64 vs.toArray).run Tryd.prog w=.ok (.enter 64 vs.toArray) w:=callFunc_enter Tryd.func64 (by kernel_rfl) (by kernel_rfl) _
theorem cE62 (vs:List Value):∀ w,(callFunc 62 vs.toArray).run Tryd.prog w=.ok (.enter 62 vs.toArray) w:=callFunc_enter Tryd.func62 (by kernel_rfl) (by kernel_rfl) _
theorem cE65 (vs:List Value):∀ w,(callFunc 65 vs.toArray).run Tryd.prog w=.ok (.enter 65 vs.toArray) w:=callFunc_enter Tryd.func65 (by kernel_rfl) (by kernel_rfl) _
theorem cE63 (vs:List Value):∀ w,(callFunc 63 vs.toArray).run Tryd.prog w=.ok (.enter 63 vs.toArray) w:=callFunc_enter Tryd.func63 (by kernel_rfl) (by kernel_rfl) _
theorem cE58 (vs:List Value):∀ w,(callFunc 58 vs.toArray).run Tryd.prog w=.ok (.enter 58 vs.toArray) w:=callFunc_enter Tryd.func58 (by kernel_rfl) (by kernel_rfl) _
theorem cE25 (vs:List Value):∀ w,(callFunc 25 vs.toArray).run Tryd.prog w=.ok (.enter 25 vs.toArray) w:=callFunc_enter Tryd.func25 (by kernel_rfl) (by kernel_rfl) _
theorem cE53 (vs:List Value):∀ w,(callFunc 53 vs.toArray).run Tryd.prog w=.ok (.enter 53 vs.toArray) w:=callFunc_enter Tryd.func53 (by kernel_rfl) (by kernel_rfl) _
theorem e_add {w:World} (hT:Tab w) (x y:Fin m2):Calls Tryd.prog 80 [.agg (gc (x)).toArray,.agg (gc (y)).toArray].toArray w fun e w'=>e=.returned (.agg (gc (x+y)).toArray)∧Below w.heap.size w w':=by
 refine enter (args:=[.agg (gc (x)).toArray,.agg (gc (y)).toArray]) Tryd.func80 rfl 8 rfl (lk rfl) (fun a h=>?_)
 refine aX h [] [eN 2 _,eN 3 _,eN 4 _] ⟨rfl,rfl,rfl,T0⟩ [(2,.ptr 2 0),(3,.ptr 3 0),(4,.ptr 4 0)] [(2,gc (x)),(3,gc (y)),(4,nz)] (fun a w h=>?_)
 refine aX h [2] [eS 5 _,eS 6 _,eS 7 _,eM 4 _] ⟨rfl,rfl,fun L u=>u_call u (gd0 rfl) _ rfl _ _ _ rfl [_,_,_] rfl (cE20 _) _ (fun w hb=>d_add (hT.keep (Bs.kp_of hb)) _ _),rfl,T0⟩ [(4,_)] [(4,gc ((x)+(y)))] (fun a w h=>?_)
 refine wp_ret ?_
 refine ret_row h 4 33 rfl (lk rfl) 4 rfl (gc ((x)+(y))) rfl _ Tryd.underlying33 rfl i33 ?_
 exact ⟨rfl,h.grows⟩
theorem e_sub {w:World} (hT:Tab w) (x y:Fin m2):Calls Tryd.prog 57 [.agg (gc (x)).toArray,.agg (gc (y)).toArray].toArray w fun e w'=>e=.returned (.agg (gc (x-y)).toArray)∧Below w.heap.size w w':=by
 refine enter (args:=[.agg (gc (x)).toArray,.agg (gc (y)).toArray]) Tryd.func57 rfl 8 rfl (lk rfl) (fun a h=>?_)
 refine aX h [] [eN 2 _,eN 3 _,eN 4 _] ⟨rfl,rfl,rfl,T0⟩ [(2,.ptr 2 0),(3,.ptr 3 0),(4,.ptr 4 0)] [(2,gc (x)),(3,gc (y)),(4,nz)] (fun a w h=>?_)
 refine aX h [2] [eS 5 _,eS 6 _,eS 7 _,eM 4 _] ⟨rfl,rfl,fun L u=>u_call u (gd0 rfl) _ rfl _ _ _ rfl [_,_,_] rfl (cE66 _) _ (fun w hb=>d_sub (hT.keep (Bs.kp_of hb)) _ _),rfl,T0⟩ [(4,_)] [(4,gc ((x)-(y)))] (fun a w h=>?_)
 refine wp_ret ?_
 refine ret_row h 4 33 rfl (lk rfl) 4 rfl (gc ((x)-(y))) rfl _ Tryd.underlying33 rfl i33 ?_
 exact ⟨rfl,h.grows⟩
theorem e_mul {w:World} (hT:Tab w) (x y:Fin m2):Calls Tryd.prog 79 [.agg (gc (x)).toArray,.agg (gc (y)).toArray].toArray w fun e w'=>e=.returned (.agg (gc (x*y)).toArray)∧Below w.heap.size w w':=by
 refine enter (args:=[.agg (gc (x)).toArray,.agg (gc (y)).toArray]) Tryd.func79 rfl 8 rfl (lk rfl) (fun a h=>?_)
 refine aX h [] [eN 2 _,eN 3 _,eN 4 _] ⟨rfl,rfl,rfl,T0⟩ [(2,.ptr 2 0),(3,.ptr 3 0),(4,.ptr 4 0)] [(2,gc (x)),(3,gc (y)),(4,nz)] (fun a w h=>?_)
 refine aX h [2] [eS 5 _,eS 6 _,eS 7 _,eM 4 _] ⟨rfl,rfl,fun L u=>u_call u (gd0 rfl) _ rfl _ _ _ rfl [_,_,_] rfl (cE21 _) _ (fun w hb=>d_mul (hT.keep (Bs.kp_of hb)) _ _),rfl,T0⟩ [(4,_)] [(4,gc ((x)*(y)))] (fun a w h=>?_)
 refine wp_ret ?_
 refine ret_row h 4 33 rfl (lk rfl) 4 rfl (gc ((x)*(y))) rfl _ Tryd.underlying33 rfl i33 ?_
 exact ⟨rfl,h.grows⟩
theorem Tab.ed {w:World} (h:Tab w):w.rangeAt 4 0 (gc ed):=by
 rw [gc_ed]
 intro j v hj
 match j,hj with
 | 0,hj=>cases hj;exact h.ccurveD0
 | 1,hj=>cases hj;exact h.ccurveD1
 | 2,hj=>cases hj;exact h.ccurveD2
 | 3,hj=>cases hj;exact h.ccurveD3
 | j+4,hj=>cases hj
theorem e_one {w:World} {one:Fin m2} (hone:one=1):Calls Tryd.prog 78 [].toArray w fun e w'=>e=.returned (.agg (gc one).toArray)∧Below w.heap.size w w':=by
 refine enter (args:=[]) Tryd.func78 rfl 2 rfl (lk rfl) (fun a h=>?_)
 refine aX h [] [eN 0 _] ⟨rfl,T0⟩ [(0,.ptr 0 0)] [(0,nz)] (fun a w h=>?_)
 refine aX h [0] [eS 1 (.val (.agg (gc (one)).toArray)),eM 0 _] ⟨fun L u=>u_build u (gd0 rfl) 1 rfl 33 #[(0,(.const (.int .u64 1)))] rfl [(0,(Value.int IntKind.u64 1))] rfl (gc (one)) (g_bN1x hone),rfl,T0⟩ [(0,_)] [(0,gc (one))] (fun a w h=>?_)
 refine wp_ret ?_
 refine ret_row h 0 33 rfl (lk rfl) 0 rfl (gc (one)) rfl _ Tryd.underlying33 rfl i33 ?_
 exact ⟨rfl,h.grows⟩
theorem o_cells:pcE (Ep.o m2)=gc 0++gc 1++[Value.bool false]:=rfl
theorem e_neutral {w:World} :Calls Tryd.prog 52 [].toArray w fun e w'=>e=.returned (.agg (pcE (Ep.o m2)).toArray)∧Below w.heap.size w w':=by
 obtain ⟨one,hone⟩:∃ z:Fin m2,z=1:=⟨_,rfl⟩
 refine enter (args:=[]) Tryd.func52 rfl 3 rfl (lk rfl) (fun a h=>?_)
 refine aX h [] [eN 0 _] ⟨rfl,T0⟩ [(0,.ptr 0 0)] [(0,nz++nz++[Value.bool false])] (fun a w h=>?_)
 refine aX h [0,1] [eS 1 _,eS 2 (.val (.agg (nz++gc (one)++[Value.bool false]).toArray)),eM 0 _] ⟨fun L u=>u_call u (gd0 rfl) _ rfl _ _ _ rfl [] rfl (cE78 _) _ (fun w hb=>e_one hone),fun L u=>u_build u (gd0 rfl) 2 rfl 40 #[(1,(.tmp 1))] rfl [(1,.agg (gc (one)).toArray)] rfl (nz++gc (one)++[Value.bool false]) (g_bY _),rfl,T0⟩ [(0,_)] [(0,nz++gc (one)++[Value.bool false])] (fun a w h=>?_)
 refine wp_ret ?_
 refine ret_row h 0 40 rfl (lk rfl) 0 rfl (nz++gc (one)++[Value.bool false]) rfl _ Tryd.underlying40 rfl i40 ?_
 exact ⟨by rw [o_cells,hone,nz_gc],h.grows⟩
theorem xplus_poly {p:Nat} [NeZero p] (d x1 y1 z1 t1 x2 y2 z2 t2:Fin p) {v1:Fin p} (ev1:v1=x1*x2) {v2:Fin p} (ev2:v2=y1*y2) {v3:Fin p} (ev3:v3=z1*z2) {v4:Fin p} (ev4:v4=t1*t2) {v5:Fin p} (ev5:v5=d*v4) {v6:Fin p} (ev6:v6=x1*y2) {v7:Fin p} (ev7:v7=x2*y1) {v8:Fin p} (ev8:v8=v6+v7) {v9:Fin p} (ev9:v9=v2+v1) {v10:Fin p} (ev10:v10=v3+v5) {v11:Fin p} (ev11:v11=v3-v5) {v12:Fin p} (ev12:v12=v8*v11) {v13:Fin p} (ev13:v13=v9*v10) {v14:Fin p} (ev14:v14=v10*v11) {v15:Fin p} (ev15:v15=v8*v9):v12=(x1*y2+x2*y1)*(z1*z2-d*(t1*t2))∧v13=(z1*z2+d*(t1*t2))*(y1*y2+x1*x2)∧v14=(z1*z2-d*(t1*t2))*(z1*z2+d*(t1*t2))∧v15=(x1*y2+x2*y1)*(y1*y2+x1*x2):=by
 subst ev1 ev2 ev3 ev4 ev5 ev6 ev7 ev8 ev9 ev10 ev11 ev12 ev13 ev14 ev15
 refine ⟨?_,?_,?_,?_⟩ <;> grobner
theorem e_plus {w:World} (hT:Tab w) (x1 y1 z1 t1 x2 y2 z2 t2:Fin m2):Calls Tryd.prog 65 [.agg (gc (x1)++gc (y1)++gc (z1)++gc (t1)).toArray,.agg (gc (x2)++gc (y2)++gc (z2)++gc (t2)).toArray].toArray w fun e w'=>e=.returned (.agg (xc (xadd ⟨x1,y1,z1,t1⟩ ⟨x2,y2,z2,t2⟩)).toArray)∧Below w.heap.size w w':=by
 obtain ⟨v1,ev1⟩:∃ z:Fin m2,z=x1*x2:=⟨_,rfl⟩
 obtain ⟨v2,ev2⟩:∃ z:Fin m2,z=y1*y2:=⟨_,rfl⟩
 obtain ⟨v3,ev3⟩:∃ z:Fin m2,z=z1*z2:=⟨_,rfl⟩
 obtain ⟨v4,ev4⟩:∃ z:Fin m2,z=t1*t2:=⟨_,rfl⟩
 obtain ⟨v5,ev5⟩:∃ z:Fin m2,z=ed*v4:=⟨_,rfl⟩
 obtain ⟨v6,ev6⟩:∃ z:Fin m2,z=x1*y2:=⟨_,rfl⟩
 obtain ⟨v7,ev7⟩:∃ z:Fin m2,z=x2*y1:=⟨_,rfl⟩
 obtain ⟨v8,ev8⟩:∃ z:Fin m2,z=v6+v7:=⟨_,rfl⟩
 obtain ⟨v9,ev9⟩:∃ z:Fin m2,z=v2+v1:=⟨_,rfl⟩
 obtain ⟨v10,ev10⟩:∃ z:Fin m2,z=v3+v5:=⟨_,rfl⟩
 obtain ⟨v11,ev11⟩:∃ z:Fin m2,z=v3-v5:=⟨_,rfl⟩
 obtain ⟨v12,ev12⟩:∃ z:Fin m2,z=v8*v11:=⟨_,rfl⟩
 obtain ⟨v13,ev13⟩:∃ z:Fin m2,z=v9*v10:=⟨_,rfl⟩
 obtain ⟨v14,ev14⟩:∃ z:Fin m2,z=v10*v11:=⟨_,rfl⟩
 obtain ⟨v15,ev15⟩:∃ z:Fin m2,z=v8*v9:=⟨_,rfl⟩
 have hpp:=xplus_poly ed x1 y1 z1 t1 x2 y2 z2 t2 ev1 ev2 ev3 ev4 ev5 ev6 ev7 ev8 ev9 ev10 ev11 ev12 ev13 ev14 ev15
 refine enter (args:=[.agg (gc (x1)++gc (y1)++gc (z1)++gc (t1)).toArray,.agg (gc (x2)++gc (y2)++gc (z2)++gc (t2)).toArray]) Tryd.func65 rfl 68 rfl (lk rfl) (fun a h=>?_)
 refine aX h [] [eN 2 _,eN 3 _,eN 4 _] ⟨rfl,rfl,rfl,T0⟩ [(2,.ptr 2 0),(3,.ptr 3 0),(4,.ptr 4 0)] [(2,gc (x1)++gc (y1)++gc (z1)++gc (t1)),(3,gc (x2)++gc (y2)++gc (z2)++gc (t2)),(4,nz++nz++nz++nz)] (fun a w h=>?_)
 refine aX h [4,9,14] [eS 13 _,eS 14 _,eS 15 _,eS 16 _,eS 17 (.val (.agg (gc (v1)).toArray)),eS 18 _,eS 19 _,eS 20 _,eS 21 _,eS 22 (.val (.agg (gc (v2)).toArray)),eS 23 _,eS 24 _,eS 25 _,eS 26 _,eS 27 (.val (.agg (gc (v3)).toArray)),eN 5 _,eN 6 _,eN 7 _,eM 5 _,eM 6 _,eM 7 _] ⟨rfl,rfl,rfl,rfl,fun L u=>u_call u (gd0 rfl) _ rfl _ _ _ rfl [_,_] rfl (cE79 _) (.agg (gc (v1)).toArray) (fun w hb=>by have g:=e_mul (hT.keep (Bs.kp_of hb)) x1 x2;rw [← ev1] at g;exact g),rfl,rfl,rfl,rfl,fun L u=>u_call u (gd0 rfl) _ rfl _ _ _ rfl [_,_] rfl (cE79 _) (.agg (gc (v2)).toArray) (fun w hb=>by have g:=e_mul (hT.keep (Bs.kp_of hb)) y1 y2;rw [← ev2] at g;exact g),rfl,rfl,rfl,rfl,fun L u=>u_call u (gd0 rfl) _ rfl _ _ _ rfl [_,_] rfl (cE79 _) (.agg (gc (v3)).toArray) (fun w hb=>by have g:=e_mul (hT.keep (Bs.kp_of hb)) z1 z2;rw [← ev3] at g;exact g),rfl,rfl,rfl,rfl,rfl,rfl,T0⟩ [(2,_),(3,_),(4,_),(5,.ptr 5 0),(6,.ptr 6 0),(7,.ptr 7 0)] [(2,_),(3,_),(4,_),(5,gc (v1)),(6,gc (v2)),(7,gc (v3))] (fun a w h=>?_)
 refine aX h [0,5,6] [eS 28 (.val (.agg (gc (ed)).toArray)),eS 29 _,eS 30 _,eS 31 _,eS 32 _,eS 33 (.val (.agg (gc (v4)).toArray)),eS 34 (.val (.agg (gc (v5)).toArray)),eN 8 _,eM 8 _] ⟨fun L u=>u_loadXR u (gd0 rfl) 28 rfl 33 (.global 4) rfl rfl Tryd.underlying33 rfl (gc (ed)) i33 rfl (hT.ed) rfl,rfl,rfl,rfl,rfl,fun L u=>u_call u (gd0 rfl) _ rfl _ _ _ rfl [_,_] rfl (cE79 _) (.agg (gc (v4)).toArray) (fun w hb=>by have g:=e_mul (hT.keep (Bs.kp_of hb)) t1 t2;rw [← ev4] at g;exact g),fun L u=>u_call u (gd0 rfl) _ rfl _ _ _ rfl [_,_] rfl (cE79 _) (.agg (gc (v5)).toArray) (fun w hb=>by have g:=e_mul (hT.keep (Bs.kp_of hb)) ed v4;rw [← ev5] at g;exact g),rfl,rfl,T0⟩ [(2,_),(3,_),(4,_),(5,_),(6,_),(7,_),(8,.ptr 8 0)] [(2,_),(3,_),(4,_),(5,_),(6,_),(7,_),(8,gc (v5))] (fun a w h=>?_)
 refine aX h [4,9,10] [eS 35 _,eS 36 _,eS 37 _,eS 38 _,eS 39 (.val (.agg (gc (v6)).toArray)),eS 40 _,eS 41 _,eS 42 _,eS 43 _,eS 44 (.val (.agg (gc (v7)).toArray)),eS 45 (.val (.agg (gc (v8)).toArray)),eN 9 _,eM 9 _] ⟨rfl,rfl,rfl,rfl,fun L u=>u_call u (gd0 rfl) _ rfl _ _ _ rfl [_,_] rfl (cE79 _) (.agg (gc (v6)).toArray) (fun w hb=>by have g:=e_mul (hT.keep (Bs.kp_of hb)) x1 y2;rw [← ev6] at g;exact g),rfl,rfl,rfl,rfl,fun L u=>u_call u (gd0 rfl) _ rfl _ _ _ rfl [_,_] rfl (cE79 _) (.agg (gc (v7)).toArray) (fun w hb=>by have g:=e_mul (hT.keep (Bs.kp_of hb)) x2 y1;rw [← ev7] at g;exact g),fun L u=>u_call u (gd0 rfl) _ rfl _ _ _ rfl [_,_] rfl (cE80 _) (.agg (gc (v8)).toArray) (fun w hb=>by have g:=e_add (hT.keep (Bs.kp_of hb)) v6 v7;rw [← ev8] at g;exact g),rfl,rfl,T0⟩ [(4,_),(5,_),(6,_),(7,_),(8,_),(9,.ptr 9 0)] [(4,_),(5,_),(6,_),(7,_),(8,_),(9,gc (v8))] (fun a w h=>?_)
 refine aX h [2] [eS 46 _,eS 47 _,eS 48 (.val (.agg (gc (v9)).toArray)),eN 10 _,eM 10 _] ⟨rfl,rfl,fun L u=>u_call u (gd0 rfl) _ rfl _ _ _ rfl [_,_] rfl (cE80 _) (.agg (gc (v9)).toArray) (fun w hb=>by have g:=e_add (hT.keep (Bs.kp_of hb)) v2 v1;rw [← ev9] at g;exact g),rfl,rfl,T0⟩ [(4,_),(7,_),(8,_),(9,_),(10,.ptr 10 0)] [(4,_),(7,_),(8,_),(9,_),(10,gc (v9))] (fun a w h=>?_)
 refine aX h [2,5] [eS 49 _,eS 50 _,eS 51 (.val (.agg (gc (v10)).toArray)),eS 52 _,eS 53 _,eS 54 (.val (.agg (gc (v11)).toArray)),eN 11 _,eN 12 _,eM 11 _,eM 12 _] ⟨rfl,rfl,fun L u=>u_call u (gd0 rfl) _ rfl _ _ _ rfl [_,_] rfl (cE80 _) (.agg (gc (v10)).toArray) (fun w hb=>by have g:=e_add (hT.keep (Bs.kp_of hb)) v3 v5;rw [← ev10] at g;exact g),rfl,rfl,fun L u=>u_call u (gd0 rfl) _ rfl _ _ _ rfl [_,_] rfl (cE57 _) (.agg (gc (v11)).toArray) (fun w hb=>by have g:=e_sub (hT.keep (Bs.kp_of hb)) v3 v5;rw [← ev11] at g;exact g),rfl,rfl,rfl,rfl,T0⟩ [(4,_),(9,_),(10,_),(11,.ptr 11 0),(12,.ptr 12 0)] [(4,_),(9,_),(10,_),(11,gc (v10)),(12,gc (v11))] (fun a w h=>?_)
 refine aX h [2,5,8,11,12] [eS 55 _,eS 56 _,eS 57 (.val (.agg (gc (v12)).toArray)),eS 58 _,eS 59 _,eS 60 (.val (.agg (gc (v13)).toArray)),eS 61 _,eS 62 _,eS 63 (.val (.agg (gc (v14)).toArray)),eS 64 _,eS 65 _,eS 66 (.val (.agg (gc (v15)).toArray)),eS 67 (.val (.agg (gc (v12)++gc (v13)++gc (v14)++gc (v15)).toArray)),eM 4 _] ⟨rfl,rfl,fun L u=>u_call u (gd0 rfl) _ rfl _ _ _ rfl [_,_] rfl (cE79 _) (.agg (gc (v12)).toArray) (fun w hb=>by have g:=e_mul (hT.keep (Bs.kp_of hb)) v8 v11;rw [← ev12] at g;exact g),rfl,rfl,fun L u=>u_call u (gd0 rfl) _ rfl _ _ _ rfl [_,_] rfl (cE79 _) (.agg (gc (v13)).toArray) (fun w hb=>by have g:=e_mul (hT.keep (Bs.kp_of hb)) v9 v10;rw [← ev13] at g;exact g),rfl,rfl,fun L u=>u_call u (gd0 rfl) _ rfl _ _ _ rfl [_,_] rfl (cE79 _) (.agg (gc (v14)).toArray) (fun w hb=>by have g:=e_mul (hT.keep (Bs.kp_of hb)) v10 v11;rw [← ev14] at g;exact g),rfl,rfl,fun L u=>u_call u (gd0 rfl) _ rfl _ _ _ rfl [_,_] rfl (cE79 _) (.agg (gc (v15)).toArray) (fun w hb=>by have g:=e_mul (hT.keep (Bs.kp_of hb)) v8 v9;rw [← ev15] at g;exact g),fun L u=>u_build u (gd0 rfl) 67 rfl 79 #[(0,(.tmp 57)),(1,(.tmp 60)),(2,(.tmp 63)),(3,(.tmp 66))] rfl [(0,.agg (gc (v12)).toArray),(1,.agg (gc (v13)).toArray),(2,.agg (gc (v14)).toArray),(3,.agg (gc (v15)).toArray)] rfl (gc (v12)++gc (v13)++gc (v14)++gc (v15)) (g_bX _ _ _ _),rfl,T0⟩ [(4,_)] [(4,gc (v12)++gc (v13)++gc (v14)++gc (v15))] (fun a w h=>?_)
 refine wp_ret ?_
 refine ret_row h 4 79 rfl (lk rfl) 4 rfl (gc (v12)++gc (v13)++gc (v14)++gc (v15)) rfl _ Tryd.underlying79 rfl i79 ?_
 exact ⟨by rw [hpp.1,hpp.2.1,hpp.2.2.1,hpp.2.2.2];rfl,h.grows⟩
end Go.Proofs.YtjaahnlpnkcimaaDoor
namespace Go.Proofs.YtjaahnlpnkcimaaDoor
set_option maxRecDepth 100000
open Go.RowKit
theorem e_below {w:World} (hT:Tab w) {a:Int} (ha:Num a) {t:Bool} (ht:decide (a<md 2)=t):Calls Tryd.prog 25 [.int .i64 2,.agg (nc a).toArray].toArray w fun e w'=>e=.returned (.bool t)∧Below w.heap.size w w':=by
 rw [← ht]
 exact below_any ha hT
theorem e_formed_none {w:World} {X Y:Int}:Calls Tryd.prog 58 [.agg (nc (X)++nc (Y)++[Value.bool true]).toArray].toArray w fun e w'=>e=.returned (.bool false)∧Below w.heap.size w w':=by
 refine enter (args:=[.agg (nc (X)++nc (Y)++[Value.bool true]).toArray]) Tryd.func58 rfl 40 rfl (lk rfl) (fun a h=>?_)
 refine aX h [] [eN 1 _,eS 2 _] ⟨rfl,rfl,T0⟩ [(1,.ptr 1 0)] [(1,nc (X)++nc (Y)++[Value.bool true])] (fun a w h=>?_)
 refine wp_seq ?_
 refine aX h [] [eS 5 _,eS 6 _,eS 7 _,eS 8 _,eS 9 _,eS 10 _,eS 11 _,eS 12 _,eS 13 _,eS 14 _,eS 15 _,eS 16 _,eS 17 _,eS 18 _] ⟨rfl,rfl,rfl,rfl,rfl,rfl,rfl,rfl,rfl,rfl,rfl,rfl,rfl,rfl,T0⟩ [(1,_),(18,.val (Value.bool true))] [(1,_)] (fun a w h=>?_)
 refine go_cond h true rfl (fun ht=>?_) (fun hf=>?_)
 case refine_2=>cases hf
 refine aX h [] [eS 2 _] ⟨rfl,T0⟩ [(2,.val (Value.bool false))] [] (fun a w h=>?_)
 refine wp_ret ?_
 refine then_ret ?_
 refine ret_slot h 2 rfl (lk rfl) (Value.bool false) rfl ?_
 exact ⟨rfl,h.grows⟩
theorem e_formed_x {w:World} (hT:Tab w) {X Y:Int} (hX:Num X) (bX:decide (X<md 2)=false):Calls Tryd.prog 58 [.agg (nc (X)++nc (Y)++[Value.bool false]).toArray].toArray w fun e w'=>e=.returned (.bool false)∧Below w.heap.size w w':=by
 refine enter (args:=[.agg (nc (X)++nc (Y)++[Value.bool false]).toArray]) Tryd.func58 rfl 40 rfl (lk rfl) (fun a h=>?_)
 refine aX h [] [eN 1 _,eS 2 _] ⟨rfl,rfl,T0⟩ [(1,.ptr 1 0)] [(1,nc (X)++nc (Y)++[Value.bool false])] (fun a w h=>?_)
 refine wp_seq ?_
 refine aX h [5] [eS 5 _,eS 6 _,eS 7 _,eS 8 _,eS 9 _,eS 10 _,eS 11 _,eS 12 _,eS 13 _,eS 14 _,eS 15 _,eS 16 _,eS 17 _,eS 18 _] ⟨rfl,rfl,rfl,rfl,rfl,fun L u=>u_call u (gd1 u 2 false rfl 7 rfl (lk rfl) rfl) _ rfl _ _ _ rfl [_,_] rfl (cE25 _) _ (fun w hb=>e_below (hT.keep (Bs.kp_of hb)) hX bX),rfl,rfl,rfl,rfl,rfl,rfl,rfl,rfl,T0⟩ [(1,_),(18,.val (Value.bool true))] [(1,_)] (fun a w h=>?_)
 refine go_cond h true rfl (fun ht=>?_) (fun hf=>?_)
 case refine_2=>cases hf
 refine aX h [] [eS 2 _] ⟨rfl,T0⟩ [(2,.val (Value.bool false))] [] (fun a w h=>?_)
 refine wp_ret ?_
 refine then_ret ?_
 refine ret_slot h 2 rfl (lk rfl) (Value.bool false) rfl ?_
 exact ⟨rfl,h.grows⟩
theorem e_formed_y {w:World} (hT:Tab w) {X Y:Int} (hX:Num X) (bX:decide (X<md 2)=true) (hY:Num Y) (bY:decide (Y<md 2)=false):Calls Tryd.prog 58 [.agg (nc (X)++nc (Y)++[Value.bool false]).toArray].toArray w fun e w'=>e=.returned (.bool false)∧Below w.heap.size w w':=by
 refine enter (args:=[.agg (nc (X)++nc (Y)++[Value.bool false]).toArray]) Tryd.func58 rfl 40 rfl (lk rfl) (fun a h=>?_)
 refine aX h [] [eN 1 _,eS 2 _] ⟨rfl,rfl,T0⟩ [(1,.ptr 1 0)] [(1,nc (X)++nc (Y)++[Value.bool false])] (fun a w h=>?_)
 refine wp_seq ?_
 refine aX h [5,11] [eS 5 _,eS 6 _,eS 7 _,eS 8 _,eS 9 _,eS 10 _,eS 11 _,eS 12 _,eS 13 _,eS 14 _,eS 15 _,eS 16 _,eS 17 _,eS 18 _] ⟨rfl,rfl,rfl,rfl,rfl,fun L u=>u_call u (gd1 u 2 false rfl 7 rfl (lk rfl) rfl) _ rfl _ _ _ rfl [_,_] rfl (cE25 _) _ (fun w hb=>e_below (hT.keep (Bs.kp_of hb)) hX bX),rfl,rfl,rfl,rfl,rfl,fun L u=>u_call u (gd1 u 8 false rfl 13 rfl (lk rfl) rfl) _ rfl _ _ _ rfl [_,_] rfl (cE25 _) _ (fun w hb=>e_below (hT.keep (Bs.kp_of hb)) hY bY),rfl,rfl,T0⟩ [(1,_),(18,.val (Value.bool true))] [(1,_)] (fun a w h=>?_)
 refine go_cond h true rfl (fun ht=>?_) (fun hf=>?_)
 case refine_2=>cases hf
 refine aX h [] [eS 2 _] ⟨rfl,T0⟩ [(2,.val (Value.bool false))] [] (fun a w h=>?_)
 refine wp_ret ?_
 refine then_ret ?_
 refine ret_slot h 2 rfl (lk rfl) (Value.bool false) rfl ?_
 exact ⟨rfl,h.grows⟩
theorem eformed_poly {p:Nat} [NeZero p] (d x y:Fin p) {one:Fin p} (hone:one=1) {v1:Fin p} (ev1:v1=x*x) {v2:Fin p} (ev2:v2=y*y) {v3:Fin p} (ev3:v3=v2-v1) {v4:Fin p} (ev4:v4=v1*v2) {v5:Fin p} (ev5:v5=d*v4) {v6:Fin p} (ev6:v6=one+v5):decide (v3=v6)=decide (y*y-x*x=1+d*(x*x*(y*y))):=by
 subst hone ev1 ev2 ev3 ev4 ev5 ev6
 have e:∀ l r l2 r2:Fin p,l=l2→r=r2→decide (l=r)=decide (l2=r2):=fun l r l2 r2 h1 h2=>by rw [h1,h2]
 apply e <;> grobner
theorem e_formed_at {w:World} (hT:Tab w) (x y:Fin m2):Calls Tryd.prog 58 [.agg (gc (x)++gc (y)++[Value.bool false]).toArray].toArray w fun e w'=>e=.returned (.bool (decide (y*y-x*x=1+ed*(x*x*(y*y)))))∧Below w.heap.size w w':=by
 obtain ⟨one,hone⟩:∃ z:Fin m2,z=1:=⟨_,rfl⟩
 obtain ⟨v1,ev1⟩:∃ z:Fin m2,z=x*x:=⟨_,rfl⟩
 obtain ⟨v2,ev2⟩:∃ z:Fin m2,z=y*y:=⟨_,rfl⟩
 obtain ⟨v3,ev3⟩:∃ z:Fin m2,z=v2-v1:=⟨_,rfl⟩
 obtain ⟨v4,ev4⟩:∃ z:Fin m2,z=v1*v2:=⟨_,rfl⟩
 obtain ⟨v5,ev5⟩:∃ z:Fin m2,z=ed*v4:=⟨_,rfl⟩
 obtain ⟨v6,ev6⟩:∃ z:Fin m2,z=one+v5:=⟨_,rfl⟩
 have hpp:=eformed_poly ed x y hone ev1 ev2 ev3 ev4 ev5 ev6
 refine enter (args:=[.agg (gc (x)++gc (y)++[Value.bool false]).toArray]) Tryd.func58 rfl 40 rfl (lk rfl) (fun a h=>?_)
 refine aX h [] [eN 1 _,eS 2 _] ⟨rfl,rfl,T0⟩ [(1,.ptr 1 0)] [(1,gc (x)++gc (y)++[Value.bool false])] (fun a w h=>?_)
 refine wp_seq ?_
 refine aX h [5,11] [eS 5 _,eS 6 _,eS 7 _,eS 8 _,eS 9 _,eS 10 _,eS 11 _,eS 12 _,eS 13 _,eS 14 _,eS 15 _,eS 16 _,eS 17 _,eS 18 _] ⟨rfl,rfl,rfl,rfl,rfl,fun L u=>u_call u (gd1 u 2 false rfl 7 rfl (lk rfl) rfl) _ rfl _ _ _ rfl [_,_] rfl (cE25 _) _ (fun w hb=>e_below (hT.keep (Bs.kp_of hb)) (gin_num _) (gin_lt _)),rfl,rfl,rfl,rfl,rfl,fun L u=>u_call u (gd1 u 8 false rfl 13 rfl (lk rfl) rfl) _ rfl _ _ _ rfl [_,_] rfl (cE25 _) _ (fun w hb=>e_below (hT.keep (Bs.kp_of hb)) (gin_num _) (gin_lt _)),rfl,rfl,T0⟩ [(1,_),(18,.val (Value.bool false))] [(1,_)] (fun a w h=>?_)
 refine go_cond h false rfl (fun ht=>?_) (fun hf=>?_)
 case refine_1=>cases ht
 refine wp_skip ?_
 refine then_norm ?_
 refine aX h [4,9] [eS 19 _,eS 20 _,eS 21 _,eS 22 _,eS 23 (.val (.agg (gc (v1)).toArray)),eS 24 _,eS 25 _,eS 26 _,eS 27 _,eS 28 (.val (.agg (gc (v2)).toArray)),eN 3 _,eN 4 _,eM 3 _,eM 4 _] ⟨rfl,rfl,rfl,rfl,fun L u=>u_call u (gd0 rfl) _ rfl _ _ _ rfl [_,_] rfl (cE79 _) (.agg (gc (v1)).toArray) (fun w hb=>by have g:=e_mul (hT.keep (Bs.kp_of hb)) x x;rw [← ev1] at g;exact g),rfl,rfl,rfl,rfl,fun L u=>u_call u (gd0 rfl) _ rfl _ _ _ rfl [_,_] rfl (cE79 _) (.agg (gc (v2)).toArray) (fun w hb=>by have g:=e_mul (hT.keep (Bs.kp_of hb)) y y;rw [← ev2] at g;exact g),rfl,rfl,rfl,rfl,T0⟩ [(3,.ptr 3 0),(4,.ptr 4 0)] [(3,gc (v1)),(4,gc (v2))] (fun a w h=>?_)
 refine aX h [2,3,4,7,8,9,10] [eS 29 _,eS 30 _,eS 31 (.val (.agg (gc (v3)).toArray)),eS 32 _,eS 33 (.val (.agg (gc (ed)).toArray)),eS 34 _,eS 35 _,eS 36 (.val (.agg (gc (v4)).toArray)),eS 37 (.val (.agg (gc (v5)).toArray)),eS 38 (.val (.agg (gc (v6)).toArray)),eS 39 (.val (Value.bool (decide (v3=v6)))),eS 2 _] ⟨rfl,rfl,fun L u=>u_call u (gd0 rfl) _ rfl _ _ _ rfl [_,_] rfl (cE57 _) (.agg (gc (v3)).toArray) (fun w hb=>by have g:=e_sub (hT.keep (Bs.kp_of hb)) v2 v1;rw [← ev3] at g;exact g),fun L u=>u_call u (gd0 rfl) _ rfl _ _ _ rfl [] rfl (cE78 _) _ (fun w hb=>e_one hone),fun L u=>u_loadXR u (gd0 rfl) 33 rfl 33 (.global 4) rfl rfl Tryd.underlying33 rfl (gc (ed)) i33 rfl (hT.ed) rfl,rfl,rfl,fun L u=>u_call u (gd0 rfl) _ rfl _ _ _ rfl [_,_] rfl (cE79 _) (.agg (gc (v4)).toArray) (fun w hb=>by have g:=e_mul (hT.keep (Bs.kp_of hb)) v1 v2;rw [← ev4] at g;exact g),fun L u=>u_call u (gd0 rfl) _ rfl _ _ _ rfl [_,_] rfl (cE79 _) (.agg (gc (v5)).toArray) (fun w hb=>by have g:=e_mul (hT.keep (Bs.kp_of hb)) ed v4;rw [← ev5] at g;exact g),fun L u=>u_call u (gd0 rfl) _ rfl _ _ _ rfl [_,_] rfl (cE80 _) (.agg (gc (v6)).toArray) (fun w hb=>by have g:=e_add (hT.keep (Bs.kp_of hb)) one v5;rw [← ev6] at g;exact g),fun L u=>u_eql u (gd0 rfl) 39 rfl 33 33 (.tmp 31) (.tmp 38) rfl rfl rfl Tryd.eqGuardType33 (decide (v3=v6)) (fun w=>eq_gc _ _ w),rfl,T0⟩ [(2,.val (Value.bool (decide (v3=v6))))] [] (fun a w h=>?_)
 refine wp_ret ?_
 refine ret_slot h 2 rfl (lk rfl) (Value.bool (decide (v3=v6))) rfl ?_
 exact ⟨by rw [← hpp],h.grows⟩
theorem e_Formed {w:World} (hT:Tab w) {X Y:Int} (hX:Num X) (hY:Num Y) (t:Bool):Calls Tryd.prog 58 [.agg (rc X Y t).toArray].toArray w fun e w'=>e=.returned (.bool (fmdE X Y t))∧Below w.heap.size w w':=by
 unfold fmdE
 cases t with
 | true =>
  rw [decide_eq_false (fun h=>by cases h.1)]
  exact e_formed_none
 | false =>
  by_cases h1:X<md 2
  ·by_cases h2:Y<md 2
   ·have e3:decide (false=false∧X<md 2∧Y<md 2∧(kc Y:Fin m2)*kc Y-kc X*kc X=1+ed*(kc X*kc X*(kc Y*kc Y)))=decide ((kc Y:Fin m2)*kc Y-kc X*kc X=1+ed*(kc X*kc X*(kc Y*kc Y))):=decide_eq_decide.2 ⟨fun h=>h.2.2.2,fun h=>⟨rfl,h1,h2,h⟩⟩
    rw [e3,rc,nc_gc hX.lo h1,nc_gc hY.lo h2]
    exact e_formed_at hT (kc X) (kc Y)
   ·rw [decide_eq_false (fun h=>h2 h.2.2.1)]
    exact e_formed_y hT hX (decide_eq_true h1) hY (decide_eq_false h2)
  ·rw [decide_eq_false (fun h=>h1 h.2.1)]
   exact e_formed_x hT hX (decide_eq_false h1)
theorem xl_o:xc (xlift (Ep.o m2))=gc (Ep.o m2).x++gc (Ep.o m2).y++gc 1++gc ((Ep.o m2).x*(Ep.o m2).y):=rfl
theorem xl_at (x y:Fin m2):xc (xlift ⟨x,y⟩)=gc x++gc y++gc 1++gc (x*y):=rfl
theorem e_lift_none {w:World} (hT:Tab w) {X Y:Int} (hX:Num X) (hY:Num Y) (hf0:fmdE X Y true=false):Calls Tryd.prog 64 [.agg (nc (X)++nc (Y)++[Value.bool true]).toArray].toArray w fun e w'=>e=.returned (.agg (xc (xlift (Ep.o m2))).toArray)∧Below w.heap.size w w':=by
 obtain ⟨one,hone⟩:∃ z:Fin m2,z=1:=⟨_,rfl⟩
 refine enter (args:=[.agg (nc (X)++nc (Y)++[Value.bool true]).toArray]) Tryd.func64 rfl 18 rfl (lk rfl) (fun a h=>?_)
 refine aX h [] [eN 1 _,eN 2 _] ⟨rfl,rfl,T0⟩ [(1,.ptr 1 0),(2,.ptr 2 0)] [(1,nc (X)++nc (Y)++[Value.bool true]),(2,nz++nz++nz++nz)] (fun a w h=>?_)
 refine wp_seq ?_
 refine aX h [1] [eS 3 _,eS 4 (.val (Value.bool false)),eS 5 _] ⟨rfl,fun L u=>u_call u (gd0 rfl) _ rfl _ _ _ rfl [_] rfl (cE58 _) (Value.bool false) (fun w hb=>by have f:=e_Formed (hT.keep (Bs.kp_of hb)) hX hY true;rw [hf0] at f;exact f),rfl,T0⟩ [(1,_),(2,_),(5,.val (Value.bool true))] [(1,_),(2,_)] (fun a w h=>?_)
 refine go_cond h true rfl (fun ht=>?_) (fun hf=>?_)
 case refine_2=>cases hf
 refine aE h [0] [eS 6 _,eM 1 _] ⟨fun L u=>u_call u (gd0 rfl) _ rfl _ _ _ rfl [] rfl (cE52 _) _ (fun w hb=>e_neutral),rfl,T0⟩ [(1,_),(2,_)] [(1,pcE (Ep.o m2)),(2,_)] (fun a w h=>?_)
 refine then_norm ?_
 refine aX h [4,9,10] [eS 7 _,eS 8 _,eS 9 _,eS 10 _,eS 11 _,eS 12 _,eS 13 _,eS 14 _,eS 15 _,eS 16 _,eS 17 (.val (.agg (gc ((Ep.o m2).x)++gc ((Ep.o m2).y)++gc (one)++gc (((Ep.o m2).x)*((Ep.o m2).y))).toArray)),eM 2 _] ⟨rfl,rfl,rfl,rfl,fun L u=>u_call u (gd0 rfl) _ rfl _ _ _ rfl [] rfl (cE78 _) _ (fun w hb=>e_one hone),rfl,rfl,rfl,rfl,fun L u=>u_call u (gd0 rfl) _ rfl _ _ _ rfl [_,_] rfl (cE79 _) _ (fun w hb=>e_mul (hT.keep (Bs.kp_of hb)) _ _),fun L u=>u_build u (gd0 rfl) 17 rfl 79 #[(0,(.tmp 8)),(1,(.tmp 10)),(2,(.tmp 11)),(3,(.tmp 16))] rfl [(0,.agg (gc ((Ep.o m2).x)).toArray),(1,.agg (gc ((Ep.o m2).y)).toArray),(2,.agg (gc (one)).toArray),(3,.agg (gc (((Ep.o m2).x)*((Ep.o m2).y))).toArray)] rfl (gc ((Ep.o m2).x)++gc ((Ep.o m2).y)++gc (one)++gc (((Ep.o m2).x)*((Ep.o m2).y))) (g_bX _ _ _ _),rfl,T0⟩ [(2,_)] [(2,gc ((Ep.o m2).x)++gc ((Ep.o m2).y)++gc (one)++gc (((Ep.o m2).x)*((Ep.o m2).y)))] (fun a w h=>?_)
 refine wp_ret ?_
 refine ret_row h 2 79 rfl (lk rfl) 2 rfl (gc ((Ep.o m2).x)++gc ((Ep.o m2).y)++gc (one)++gc (((Ep.o m2).x)*((Ep.o m2).y))) rfl _ Tryd.underlying79 rfl i79 ?_
 exact ⟨by rw [xl_o,hone],h.grows⟩
theorem e_lift_off {w:World} (hT:Tab w) {X Y:Int} (hX:Num X) (hY:Num Y) (hf0:fmdE X Y false=false):Calls Tryd.prog 64 [.agg (nc (X)++nc (Y)++[Value.bool false]).toArray].toArray w fun e w'=>e=.returned (.agg (xc (xlift (Ep.o m2))).toArray)∧Below w.heap.size w w':=by
 obtain ⟨one,hone⟩:∃ z:Fin m2,z=1:=⟨_,rfl⟩
 refine enter (args:=[.agg (nc (X)++nc (Y)++[Value.bool false]).toArray]) Tryd.func64 rfl 18 rfl (lk rfl) (fun a h=>?_)
 refine aX h [] [eN 1 _,eN 2 _] ⟨rfl,rfl,T0⟩ [(1,.ptr 1 0),(2,.ptr 2 0)] [(1,nc (X)++nc (Y)++[Value.bool false]),(2,nz++nz++nz++nz)] (fun a w h=>?_)
 refine wp_seq ?_
 refine aX h [1] [eS 3 _,eS 4 (.val (Value.bool false)),eS 5 _] ⟨rfl,fun L u=>u_call u (gd0 rfl) _ rfl _ _ _ rfl [_] rfl (cE58 _) (Value.bool false) (fun w hb=>by have f:=e_Formed (hT.keep (Bs.kp_of hb)) hX hY false;rw [hf0] at f;exact f),rfl,T0⟩ [(1,_),(2,_),(5,.val (Value.bool true))] [(1,_),(2,_)] (fun a w h=>?_)
 refine go_cond h true rfl (fun ht=>?_) (fun hf=>?_)
 case refine_2=>cases hf
 refine aE h [0] [eS 6 _,eM 1 _] ⟨fun L u=>u_call u (gd0 rfl) _ rfl _ _ _ rfl [] rfl (cE52 _) _ (fun w hb=>e_neutral),rfl,T0⟩ [(1,_),(2,_)] [(1,pcE (Ep.o m2)),(2,_)] (fun a w h=>?_)
 refine then_norm ?_
 refine aX h [4,9,10] [eS 7 _,eS 8 _,eS 9 _,eS 10 _,eS 11 _,eS 12 _,eS 13 _,eS 14 _,eS 15 _,eS 16 _,eS 17 (.val (.agg (gc ((Ep.o m2).x)++gc ((Ep.o m2).y)++gc (one)++gc (((Ep.o m2).x)*((Ep.o m2).y))).toArray)),eM 2 _] ⟨rfl,rfl,rfl,rfl,fun L u=>u_call u (gd0 rfl) _ rfl _ _ _ rfl [] rfl (cE78 _) _ (fun w hb=>e_one hone),rfl,rfl,rfl,rfl,fun L u=>u_call u (gd0 rfl) _ rfl _ _ _ rfl [_,_] rfl (cE79 _) _ (fun w hb=>e_mul (hT.keep (Bs.kp_of hb)) _ _),fun L u=>u_build u (gd0 rfl) 17 rfl 79 #[(0,(.tmp 8)),(1,(.tmp 10)),(2,(.tmp 11)),(3,(.tmp 16))] rfl [(0,.agg (gc ((Ep.o m2).x)).toArray),(1,.agg (gc ((Ep.o m2).y)).toArray),(2,.agg (gc (one)).toArray),(3,.agg (gc (((Ep.o m2).x)*((Ep.o m2).y))).toArray)] rfl (gc ((Ep.o m2).x)++gc ((Ep.o m2).y)++gc (one)++gc (((Ep.o m2).x)*((Ep.o m2).y))) (g_bX _ _ _ _),rfl,T0⟩ [(2,_)] [(2,gc ((Ep.o m2).x)++gc ((Ep.o m2).y)++gc (one)++gc (((Ep.o m2).x)*((Ep.o m2).y)))] (fun a w h=>?_)
 refine wp_ret ?_
 refine ret_row h 2 79 rfl (lk rfl) 2 rfl (gc ((Ep.o m2).x)++gc ((Ep.o m2).y)++gc (one)++gc (((Ep.o m2).x)*((Ep.o m2).y))) rfl _ Tryd.underlying79 rfl i79 ?_
 exact ⟨by rw [xl_o,hone],h.grows⟩
theorem e_lift_on {w:World} (hT:Tab w) {x y:Fin m2} (hq:y*y-x*x=1+ed*(x*x*(y*y))):Calls Tryd.prog 64 [.agg (gc (x)++gc (y)++[Value.bool false]).toArray].toArray w fun e w'=>e=.returned (.agg (xc (xlift ⟨x,y⟩)).toArray)∧Below w.heap.size w w':=by
 obtain ⟨one,hone⟩:∃ z:Fin m2,z=1:=⟨_,rfl⟩
 refine enter (args:=[.agg (gc (x)++gc (y)++[Value.bool false]).toArray]) Tryd.func64 rfl 18 rfl (lk rfl) (fun a h=>?_)
 refine aX h [] [eN 1 _,eN 2 _] ⟨rfl,rfl,T0⟩ [(1,.ptr 1 0),(2,.ptr 2 0)] [(1,gc (x)++gc (y)++[Value.bool false]),(2,nz++nz++nz++nz)] (fun a w h=>?_)
 refine wp_seq ?_
 refine aX h [1] [eS 3 _,eS 4 (.val (Value.bool true)),eS 5 _] ⟨rfl,fun L u=>u_call u (gd0 rfl) _ rfl _ _ _ rfl [_] rfl (cE58 _) (Value.bool true) (fun w hb=>by have f:=e_formed_at (hT.keep (Bs.kp_of hb)) x y;rw [decide_eq_true hq] at f;exact f),rfl,T0⟩ [(1,_),(2,_),(5,.val (Value.bool false))] [(1,_),(2,_)] (fun a w h=>?_)
 refine go_cond h false rfl (fun ht=>?_) (fun hf=>?_)
 case refine_1=>cases ht
 refine wp_skip ?_
 refine then_norm ?_
 refine aX h [4,9,10] [eS 7 _,eS 8 _,eS 9 _,eS 10 _,eS 11 _,eS 12 _,eS 13 _,eS 14 _,eS 15 _,eS 16 _,eS 17 (.val (.agg (gc (x)++gc (y)++gc (one)++gc (x*y)).toArray)),eM 2 _] ⟨rfl,rfl,rfl,rfl,fun L u=>u_call u (gd0 rfl) _ rfl _ _ _ rfl [] rfl (cE78 _) _ (fun w hb=>e_one hone),rfl,rfl,rfl,rfl,fun L u=>u_call u (gd0 rfl) _ rfl _ _ _ rfl [_,_] rfl (cE79 _) _ (fun w hb=>e_mul (hT.keep (Bs.kp_of hb)) _ _),fun L u=>u_build u (gd0 rfl) 17 rfl 79 #[(0,(.tmp 8)),(1,(.tmp 10)),(2,(.tmp 11)),(3,(.tmp 16))] rfl [(0,.agg (gc (x)).toArray),(1,.agg (gc (y)).toArray),(2,.agg (gc (one)).toArray),(3,.agg (gc (x*y)).toArray)] rfl (gc (x)++gc (y)++gc (one)++gc (x*y)) (g_bX _ _ _ _),rfl,T0⟩ [(2,_)] [(2,gc (x)++gc (y)++gc (one)++gc (x*y))] (fun a w h=>?_)
 refine wp_ret ?_
 refine ret_row h 2 79 rfl (lk rfl) 2 rfl (gc (x)++gc (y)++gc (one)++gc (x*y)) rfl _ Tryd.underlying79 rfl i79 ?_
 exact ⟨by rw [xl_at,hone],h.grows⟩
theorem e_lift {w:World} (hT:Tab w) {X Y:Int} (hX:Num X) (hY:Num Y) (t:Bool):Calls Tryd.prog 64 [.agg (rc X Y t).toArray].toArray w fun e w'=>e=.returned (.agg (xc (xlift (rpE X Y t))).toArray)∧Below w.heap.size w w':=by
 by_cases h:fmdE X Y t=false
 ·rw [fmdE_rp h]
  cases t with
  | true=>exact e_lift_none hT hX hY h
  | false=>exact e_lift_off hT hX hY h
 ·have h2:fmdE X Y t=true:=by simpa using h
  have hd:t=false∧X<md 2∧Y<md 2∧(kc Y:Fin m2)*kc Y-kc X*kc X=1+ed*(kc X*kc X*(kc Y*kc Y)):=of_decide_eq_true h2
  rw [show rpE X Y t=⟨kc X,kc Y⟩ from if_pos hd,hd.1,rc,nc_gc hX.lo hd.2.1,nc_gc hY.lo hd.2.2.1]
  exact e_lift_on hT hd.2.2.2
theorem e_lift_o {w:World} (hT:Tab w):Calls Tryd.prog 64 [.agg (pcE (Ep.o m2)).toArray].toArray w fun e w'=>e=.returned (.agg (xc (xlift (Ep.o m2))).toArray)∧Below w.heap.size w w':=by
 exact e_lift_on hT (Ep.o_on ed)
theorem e_drop {w:World} (hT:Tab w) (x y z t:Fin m2):Calls Tryd.prog 62 [.agg (gc (x)++gc (y)++gc (z)++gc (t)).toArray].toArray w fun e w'=>e=.returned (.agg (pcE (xdrop ⟨x,y,z,t⟩)).toArray)∧Below w.heap.size w w':=by
 refine enter (args:=[.agg (gc (x)++gc (y)++gc (z)++gc (t)).toArray]) Tryd.func62 rfl 16 rfl (lk rfl) (fun a h=>?_)
 refine aX h [] [eN 1 _,eN 2 _] ⟨rfl,rfl,T0⟩ [(1,.ptr 1 0),(2,.ptr 2 0)] [(1,gc (x)++gc (y)++gc (z)++gc (t)),(2,nz++nz++[Value.bool false])] (fun a w h=>?_)
 refine aX h [2] [eS 4 _,eS 5 _,eS 6 _,eN 3 _,eM 3 _] ⟨rfl,rfl,fun L u=>u_call u (gd0 rfl) _ rfl _ _ _ rfl [_,_] rfl (cE34 _) _ (fun w hb=>d_inv (hT.keep (Bs.kp_of hb)) _),rfl,rfl,T0⟩ [(1,_),(2,_),(3,.ptr 3 0)] [(1,_),(2,_),(3,gc (fiv (z)))] (fun a w h=>?_)
 refine aX h [3,7,8] [eS 7 _,eS 8 _,eS 9 _,eS 10 _,eS 11 _,eS 12 _,eS 13 _,eS 14 _,eS 15 (.val (.agg (gc (x*(fiv (z)))++gc (y*(fiv (z)))++[Value.bool false]).toArray)),eM 2 _] ⟨rfl,rfl,rfl,fun L u=>u_call u (gd0 rfl) _ rfl _ _ _ rfl [_,_] rfl (cE79 _) _ (fun w hb=>e_mul (hT.keep (Bs.kp_of hb)) _ _),rfl,rfl,rfl,fun L u=>u_call u (gd0 rfl) _ rfl _ _ _ rfl [_,_] rfl (cE79 _) _ (fun w hb=>e_mul (hT.keep (Bs.kp_of hb)) _ _),fun L u=>u_build u (gd0 rfl) 15 rfl 40 #[(0,(.tmp 10)),(1,(.tmp 14))] rfl [(0,.agg (gc (x*(fiv (z)))).toArray),(1,.agg (gc (y*(fiv (z)))).toArray)] rfl (gc (x*(fiv (z)))++gc (y*(fiv (z)))++[Value.bool false]) (g_bP _ _),rfl,T0⟩ [(2,_)] [(2,gc (x*(fiv (z)))++gc (y*(fiv (z)))++[Value.bool false])] (fun a w h=>?_)
 refine wp_ret ?_
 refine ret_row h 2 40 rfl (lk rfl) 2 rfl (gc (x*(fiv (z)))++gc (y*(fiv (z)))++[Value.bool false]) rfl _ Tryd.underlying40 rfl i40 ?_
 exact ⟨rfl,h.grows⟩
theorem e_bit {w:World} (k i:Nat) (hi:i<256):Calls Tryd.prog 53 [.agg (nc (k:Int)).toArray,.int .i64 (i:Int)].toArray w fun e w'=>e=.returned (.int .i64 ((k / 2 ^ i % 2:Nat):Int))∧Below w.heap.size w w':=by
 have h:=bit_any (k:Int) (i:Int) w
 have e:bt (k:Int) (i:Int)=((k / 2 ^ i % 2:Nat):Int):=by
  unfold bt
  rw [if_pos (by omega),Int.toNat_natCast,Int.natCast_emod,Int.natCast_ediv,Int.natCast_pow]
  rfl
 rw [e] at h
 exact h
theorem e_times {w:World} (hT:Tab w) (k:Nat) (x y z t:Fin m2):Calls Tryd.prog 63 [.agg (nc ((k:Int))).toArray,.agg (gc (x)++gc (y)++gc (z)++gc (t)).toArray].toArray w fun e w'=>e=.returned (.agg (xc (xm xadd k ⟨x,y,z,t⟩ (256))).toArray)∧Below w.heap.size w w':=by
 refine enter (args:=[.agg (nc ((k:Int))).toArray,.agg (gc (x)++gc (y)++gc (z)++gc (t)).toArray]) Tryd.func63 rfl 24 rfl (lk rfl) (fun a h=>?_)
 refine aX h [] [eN 2 _,eN 3 _,eN 4 _] ⟨rfl,rfl,rfl,T0⟩ [(2,.ptr 2 0),(3,.ptr 3 0),(4,.ptr 4 0)] [(2,nc ((k:Int))),(3,gc (x)++gc (y)++gc (z)++gc (t)),(4,nz++nz++nz++nz)] (fun a w h=>?_)
 refine aX h [0,1] [eS 7 _,eS 8 _,eN 5 _,eM 5 _] ⟨fun L u=>u_call u (gd0 rfl) _ rfl _ _ _ rfl [] rfl (cE52 _) _ (fun w hb=>e_neutral),fun L u=>u_call u (gd0 rfl) _ rfl _ _ _ rfl [_] rfl (cE64 _) _ (fun w hb=>e_lift_o (hT.keep (Bs.kp_of hb))),rfl,rfl,T0⟩ [(2,_),(3,_),(4,_),(5,.ptr 5 0)] [(2,_),(3,_),(4,_),(5,gc ((xlift (Ep.o m2)).x)++gc ((xlift (Ep.o m2)).y)++gc ((xlift (Ep.o m2)).z)++gc ((xlift (Ep.o m2)).t))] (fun a w h=>?_)
 refine wp_seq ?_
 refine aX h [] [eS 6 _] ⟨rfl,T0⟩ [(2,_),(3,_),(4,_),(5,_),(6,.val ((Value.int IntKind.i64 255)))] [(2,_),(3,_),(4,_),(5,_)] (fun a w h=>?_)
 refine wp_block ?_
 refine go_loop (fun (j:Nat)=>SS.mk' [(2,.ptr 2 0),(3,.ptr 3 0),(4,.ptr 4 0),(5,.ptr 5 0),(6,.val (Value.int .i64 (255-((j:Nat):Int))))] [(2,nc ((k:Int))),(3,gc (x)++gc (y)++gc (z)++gc (t)),(4,nz++nz++nz++nz),(5,gc ((xm xadd k ⟨x,y,z,t⟩ (j)).x)++gc ((xm xadd k ⟨x,y,z,t⟩ (j)).y)++gc ((xm xadd k ⟨x,y,z,t⟩ (j)).z)++gc ((xm xadd k ⟨x,y,z,t⟩ (j)).t))]) (fun j=>j≤256) (fun j=>256-j) (i:=0) (h.keep [(2,.ptr 2 0),(3,.ptr 3 0),(4,.ptr 4 0),(5,.ptr 5 0),(6,.val (Value.int .i64 (255-((0:Nat):Int))))] [(2,nc ((k:Int))),(3,gc (x)++gc (y)++gc (z)++gc (t)),(4,nz++nz++nz++nz),(5,gc ((xm xadd k ⟨x,y,z,t⟩ (0)).x)++gc ((xm xadd k ⟨x,y,z,t⟩ (0)).y)++gc ((xm xadd k ⟨x,y,z,t⟩ (0)).z)++gc ((xm xadd k ⟨x,y,z,t⟩ (0)).t))] ⟨rfl,rfl,rfl,rfl,rfl,T0⟩ ⟨rfl,rfl,rfl,rfl,T0⟩ rfl) (Nat.zero_le _) (fun j a w hG h=>?_)
 by_cases hs:j<256
 ·skip
  by_cases hb:k / 2 ^ (255-j) % 2=1
  ·skip
   refine wp_seq ?_
   refine aX h [1] [eS 9 _,eS 10 (.val (Value.bool true))] ⟨rfl,fun L u=>u_bin u (gd0 rfl) _ rfl _ _ _ _ _ rfl rfl rfl (eqg_int _ _ _ _ _ _ _ _) _ (yes_of (fun w=>i_geq _ _ _ _ w) (by omega)),T0⟩ [(2,_),(3,_),(4,_),(5,_),(6,_),(10,.val (Value.bool true))] [(2,_),(3,_),(4,_),(5,_)] (fun a w h=>?_)
   refine go_cond h true rfl (fun ht=>?_) (fun hf=>?_)
   case refine_2=>cases hf
   refine wp_skip ?_
   refine then_norm ?_
   refine wp_seq ?_
   refine wp_block ?_
   refine aX h [2] [eS 13 _,eS 14 _,eS 15 _,eM 5 _] ⟨rfl,rfl,fun L u=>u_call u (gd0 rfl) _ rfl _ _ _ rfl [_,_] rfl (cE65 _) _ (fun w hb=>e_plus (hT.keep (Bs.kp_of hb)) _ _ _ _ _ _ _ _),rfl,T0⟩ [(2,_),(3,_),(4,_),(5,_),(6,_)] [(2,_),(3,_),(4,_),(5,gc ((xadd (xm xadd k ⟨x,y,z,t⟩ (j)) (xm xadd k ⟨x,y,z,t⟩ (j))).x)++gc ((xadd (xm xadd k ⟨x,y,z,t⟩ (j)) (xm xadd k ⟨x,y,z,t⟩ (j))).y)++gc ((xadd (xm xadd k ⟨x,y,z,t⟩ (j)) (xm xadd k ⟨x,y,z,t⟩ (j))).z)++gc ((xadd (xm xadd k ⟨x,y,z,t⟩ (j)) (xm xadd k ⟨x,y,z,t⟩ (j))).t))] (fun a w h=>?_)
   refine aX h [2,3] [eS 16 _,eS 17 _,eS 18 (.val (Value.int .i64 ((k / 2 ^ (255-j) % 2:Nat):Int))),eS 19 (.val (Value.bool true))] ⟨rfl,rfl,fun L u=>u_call u (gd0 rfl) _ rfl _ _ _ rfl [_,_] rfl (cE53 _) (Value.int .i64 ((k / 2 ^ (255-j) % 2:Nat):Int)) (fun w hb=>by have:=e_bit (w:=w) k (255-j) (by omega);rw [show (((255-j:Nat)):Int)=255-(j:Int) by omega] at this;exact this),fun L u=>u_bin u (gd0 rfl) _ rfl _ _ _ _ _ rfl rfl rfl (eqg_int _ _ _ _ _ _ _ _) _ (yes_of (fun w=>i_eql _ _ _ _ w) (by omega)),T0⟩ [(2,_),(3,_),(4,_),(5,_),(6,_),(19,.val (Value.bool true))] [(2,_),(3,_),(4,_),(5,_)] (fun a w h=>?_)
   refine go_cond h true rfl (fun ht=>?_) (fun hf=>?_)
   case refine_2=>cases hf
   refine aE h [2] [eS 20 _,eS 21 _,eS 22 _,eM 5 _] ⟨rfl,rfl,fun L u=>u_call u (gd0 rfl) _ rfl _ _ _ rfl [_,_] rfl (cE65 _) _ (fun w hb=>e_plus (hT.keep (Bs.kp_of hb)) _ _ _ _ _ _ _ _),rfl,T0⟩ [(2,_),(3,_),(4,_),(5,_),(6,_)] [(2,_),(3,_),(4,_),(5,gc ((xadd (xadd (xm xadd k ⟨x,y,z,t⟩ (j)) (xm xadd k ⟨x,y,z,t⟩ (j))) (⟨x,y,z,t⟩)).x)++gc ((xadd (xadd (xm xadd k ⟨x,y,z,t⟩ (j)) (xm xadd k ⟨x,y,z,t⟩ (j))) (⟨x,y,z,t⟩)).y)++gc ((xadd (xadd (xm xadd k ⟨x,y,z,t⟩ (j)) (xm xadd k ⟨x,y,z,t⟩ (j))) (⟨x,y,z,t⟩)).z)++gc ((xadd (xadd (xm xadd k ⟨x,y,z,t⟩ (j)) (xm xadd k ⟨x,y,z,t⟩ (j))) (⟨x,y,z,t⟩)).t))] (fun a w h=>?_)
   refine blk_norm ?_
   refine then_norm ?_
   refine aE h [1] [eS 11 _,eS 12 (.val (Value.int .i64 (255-((j+1:Nat):Int)))),eS 6 _] ⟨rfl,fun L u=>u_bin u (gd0 rfl) _ rfl _ _ _ _ _ rfl rfl rfl (eqg_int _ _ _ _ _ _ _ _) _ (fun w=>i_sub _ _ _ _ (by omega) (by omega) w),rfl,T0⟩ [(2,_),(3,_),(4,_),(5,_),(6,.val (Value.int .i64 (255-((j+1:Nat):Int))))] [(2,_),(3,_),(4,_),(5,_)] (fun a w h=>?_)
   refine then_norm ?_
   exact ⟨j+1,(by omega),(by omega),h.keep [(2,.ptr 2 0),(3,.ptr 3 0),(4,.ptr 4 0),(5,.ptr 5 0),(6,.val (Value.int .i64 (255-((j+1:Nat):Int))))] [(2,nc ((k:Int))),(3,gc (x)++gc (y)++gc (z)++gc (t)),(4,nz++nz++nz++nz),(5,gc ((xm xadd k ⟨x,y,z,t⟩ (j+1)).x)++gc ((xm xadd k ⟨x,y,z,t⟩ (j+1)).y)++gc ((xm xadd k ⟨x,y,z,t⟩ (j+1)).z)++gc ((xm xadd k ⟨x,y,z,t⟩ (j+1)).t))] ⟨rfl,rfl,rfl,rfl,rfl,trivial⟩ ⟨rfl,rfl,rfl,(congrArg (fun p:X4=>some (gc p.x++gc p.y++gc p.z++gc p.t)) (show xm xadd k ⟨x,y,z,t⟩ (j+1)=_ from if_pos hb).symm),trivial⟩ rfl⟩
  ·skip
   refine wp_seq ?_
   refine aX h [1] [eS 9 _,eS 10 (.val (Value.bool true))] ⟨rfl,fun L u=>u_bin u (gd0 rfl) _ rfl _ _ _ _ _ rfl rfl rfl (eqg_int _ _ _ _ _ _ _ _) _ (yes_of (fun w=>i_geq _ _ _ _ w) (by omega)),T0⟩ [(2,_),(3,_),(4,_),(5,_),(6,_),(10,.val (Value.bool true))] [(2,_),(3,_),(4,_),(5,_)] (fun a w h=>?_)
   refine go_cond h true rfl (fun ht=>?_) (fun hf=>?_)
   case refine_2=>cases hf
   refine wp_skip ?_
   refine then_norm ?_
   refine wp_seq ?_
   refine wp_block ?_
   refine aX h [2] [eS 13 _,eS 14 _,eS 15 _,eM 5 _] ⟨rfl,rfl,fun L u=>u_call u (gd0 rfl) _ rfl _ _ _ rfl [_,_] rfl (cE65 _) _ (fun w hb=>e_plus (hT.keep (Bs.kp_of hb)) _ _ _ _ _ _ _ _),rfl,T0⟩ [(2,_),(3,_),(4,_),(5,_),(6,_)] [(2,_),(3,_),(4,_),(5,gc ((xadd (xm xadd k ⟨x,y,z,t⟩ (j)) (xm xadd k ⟨x,y,z,t⟩ (j))).x)++gc ((xadd (xm xadd k ⟨x,y,z,t⟩ (j)) (xm xadd k ⟨x,y,z,t⟩ (j))).y)++gc ((xadd (xm xadd k ⟨x,y,z,t⟩ (j)) (xm xadd k ⟨x,y,z,t⟩ (j))).z)++gc ((xadd (xm xadd k ⟨x,y,z,t⟩ (j)) (xm xadd k ⟨x,y,z,t⟩ (j))).t))] (fun a w h=>?_)
   refine aX h [2,3] [eS 16 _,eS 17 _,eS 18 (.val (Value.int .i64 ((k / 2 ^ (255-j) % 2:Nat):Int))),eS 19 (.val (Value.bool false))] ⟨rfl,rfl,fun L u=>u_call u (gd0 rfl) _ rfl _ _ _ rfl [_,_] rfl (cE53 _) (Value.int .i64 ((k / 2 ^ (255-j) % 2:Nat):Int)) (fun w hb=>by have:=e_bit (w:=w) k (255-j) (by omega);rw [show (((255-j:Nat)):Int)=255-(j:Int) by omega] at this;exact this),fun L u=>u_bin u (gd0 rfl) _ rfl _ _ _ _ _ rfl rfl rfl (eqg_int _ _ _ _ _ _ _ _) _ (no_of (fun w=>i_eql _ _ _ _ w) (by omega)),T0⟩ [(2,_),(3,_),(4,_),(5,_),(6,_),(19,.val (Value.bool false))] [(2,_),(3,_),(4,_),(5,_)] (fun a w h=>?_)
   refine go_cond h false rfl (fun ht=>?_) (fun hf=>?_)
   case refine_1=>cases ht
   refine wp_skip ?_
   refine blk_norm ?_
   refine then_norm ?_
   refine aE h [1] [eS 11 _,eS 12 (.val (Value.int .i64 (255-((j+1:Nat):Int)))),eS 6 _] ⟨rfl,fun L u=>u_bin u (gd0 rfl) _ rfl _ _ _ _ _ rfl rfl rfl (eqg_int _ _ _ _ _ _ _ _) _ (fun w=>i_sub _ _ _ _ (by omega) (by omega) w),rfl,T0⟩ [(2,_),(3,_),(4,_),(5,_),(6,.val (Value.int .i64 (255-((j+1:Nat):Int))))] [(2,_),(3,_),(4,_),(5,_)] (fun a w h=>?_)
   refine then_norm ?_
   exact ⟨j+1,(by omega),(by omega),h.keep [(2,.ptr 2 0),(3,.ptr 3 0),(4,.ptr 4 0),(5,.ptr 5 0),(6,.val (Value.int .i64 (255-((j+1:Nat):Int))))] [(2,nc ((k:Int))),(3,gc (x)++gc (y)++gc (z)++gc (t)),(4,nz++nz++nz++nz),(5,gc ((xm xadd k ⟨x,y,z,t⟩ (j+1)).x)++gc ((xm xadd k ⟨x,y,z,t⟩ (j+1)).y)++gc ((xm xadd k ⟨x,y,z,t⟩ (j+1)).z)++gc ((xm xadd k ⟨x,y,z,t⟩ (j+1)).t))] ⟨rfl,rfl,rfl,rfl,rfl,trivial⟩ ⟨rfl,rfl,rfl,(congrArg (fun p:X4=>some (gc p.x++gc p.y++gc p.z++gc p.t)) (show xm xadd k ⟨x,y,z,t⟩ (j+1)=_ from if_neg hb).symm),trivial⟩ rfl⟩
 ·skip
  refine wp_seq ?_
  refine aX h [1] [eS 9 _,eS 10 (.val (Value.bool false))] ⟨rfl,fun L u=>u_bin u (gd0 rfl) _ rfl _ _ _ _ _ rfl rfl rfl (eqg_int _ _ _ _ _ _ _ _) _ (no_of (fun w=>i_geq _ _ _ _ w) (by omega)),T0⟩ [(2,_),(3,_),(4,_),(5,_),(6,_),(10,.val (Value.bool false))] [(2,_),(3,_),(4,_),(5,_)] (fun a w h=>?_)
  refine go_cond h false rfl (fun ht=>?_) (fun hf=>?_)
  case refine_1=>cases ht
  refine wp_exit ?_
  refine then_exit ?_
  refine then_exit ?_
  refine blk_exit ?_
  refine then_norm ?_
  refine aX h [] [eS 23 _,eM 4 _] ⟨rfl,rfl,T0⟩ [(4,_)] [(4,gc ((xm xadd k ⟨x,y,z,t⟩ (j)).x)++gc ((xm xadd k ⟨x,y,z,t⟩ (j)).y)++gc ((xm xadd k ⟨x,y,z,t⟩ (j)).z)++gc ((xm xadd k ⟨x,y,z,t⟩ (j)).t))] (fun a w h=>?_)
  refine wp_ret ?_
  refine ret_row h 4 79 rfl (lk rfl) 4 rfl (gc ((xm xadd k ⟨x,y,z,t⟩ (j)).x)++gc ((xm xadd k ⟨x,y,z,t⟩ (j)).y)++gc ((xm xadd k ⟨x,y,z,t⟩ (j)).z)++gc ((xm xadd k ⟨x,y,z,t⟩ (j)).t)) rfl _ Tryd.underlying79 rfl i79 ?_
  exact ⟨by rw [show j=256 by omega];rfl,h.grows⟩
theorem e_Mul0 {w:World} (hT:Tab w) (k:Nat) {X Y:Int} (hX:Num X) (hY:Num Y) (t:Bool):Calls Tryd.prog 26 [.agg (nc ((k:Int))).toArray,.agg (rc X Y t).toArray].toArray w fun e w'=>e=.returned (.agg (pcE (xdrop (xm xadd k (xlift (rpE X Y t)) 256))).toArray)∧Below w.heap.size w w':=by
 refine enter (args:=[.agg (nc ((k:Int))).toArray,.agg (rc X Y t).toArray]) Tryd.func26 rfl 10 rfl (lk rfl) (fun a h=>?_)
 refine aX h [] [eN 2 _,eN 3 _,eN 4 _] ⟨rfl,rfl,rfl,T0⟩ [(2,.ptr 2 0),(3,.ptr 3 0),(4,.ptr 4 0)] [(2,nc ((k:Int))),(3,rc X Y t),(4,nz++nz++[Value.bool false])] (fun a w h=>?_)
 refine aX h [2,3,4] [eS 5 _,eS 6 _,eS 7 _,eS 8 _,eS 9 _,eM 4 _] ⟨rfl,rfl,fun L u=>u_call u (gd0 rfl) _ rfl _ _ _ rfl [_] rfl (cE64 _) _ (fun w hb=>e_lift (hT.keep (Bs.kp_of hb)) hX hY t),fun L u=>u_call u (gd0 rfl) _ rfl _ _ _ rfl [_,_] rfl (cE63 _) _ (fun w hb=>e_times (hT.keep (Bs.kp_of hb)) _ _ _ _ _),fun L u=>u_call u (gd0 rfl) _ rfl _ _ _ rfl [_] rfl (cE62 _) _ (fun w hb=>e_drop (hT.keep (Bs.kp_of hb)) _ _ _ _),rfl,T0⟩ [(4,_)] [(4,pcE (xdrop (xm xadd k (xlift (rpE X Y t)) 256)))] (fun a w h=>?_)
 refine wp_ret ?_
 refine ret_row h 4 40 rfl (lk rfl) 4 rfl (pcE (xdrop (xm xadd k (xlift (rpE X Y t)) 256))) rfl _ Tryd.underlying40 rfl i40 ?_
 exact ⟨rfl,h.grows⟩
theorem xl_on (X Y:Int) (t:Bool):Xo (xlift (rpE X Y t)):=xo_lift (rpE_on X Y t)
theorem e_Mul {w:World} (hT:Tab w) {k:Nat} (hk:k<2 ^ 256) {X Y:Int} (hX:Num X) (hY:Num Y) (t:Bool):Calls Tryd.prog 26 [.agg (nc (k:Int)).toArray,.agg (rc X Y t).toArray].toArray w fun e w'=>e=.returned (.agg (pcE (mt eadd (Ep.o m2) (rpE X Y t) k)).toArray)∧Below w.heap.size w w':=by
 have h:=e_Mul0 hT k hX hY t
 rw [xm_all xadd_sums hk (xl_on X Y t),xdrop_lift] at h
 exact h
theorem e_Base {w:World} :Calls Tryd.prog 27 [].toArray w fun e w'=>e=.returned (.agg (pcE eG).toArray)∧Below w.heap.size w w':=by
 refine enter (args:=[]) Tryd.func27 rfl 4 rfl (lk rfl) (fun a h=>?_)
 refine aX h [] [eN 0 _] ⟨rfl,T0⟩ [(0,.ptr 0 0)] [(0,nz++nz++[Value.bool false])] (fun a w h=>?_)
 refine aX h [0,1,2] [eS 1 (.val (.agg ([(Value.int IntKind.u64 14507833142362363162)]++[(Value.int IntKind.u64 7578651490590762930)]++[(Value.int IntKind.u64 13881468655802702940)]++[(Value.int IntKind.u64 2407515759118799870)]).toArray)),eS 2 (.val (.agg ([(Value.int IntKind.u64 7378697629483820632)]++[(Value.int IntKind.u64 7378697629483820646)]++[(Value.int IntKind.u64 7378697629483820646)]++[(Value.int IntKind.u64 7378697629483820646)]).toArray)),eS 3 (.val (.agg ([(Value.int IntKind.u64 14507833142362363162)]++[(Value.int IntKind.u64 7578651490590762930)]++[(Value.int IntKind.u64 13881468655802702940)]++[(Value.int IntKind.u64 2407515759118799870)]++[(Value.int IntKind.u64 7378697629483820632)]++[(Value.int IntKind.u64 7378697629483820646)]++[(Value.int IntKind.u64 7378697629483820646)]++[(Value.int IntKind.u64 7378697629483820646)]++[Value.bool false]).toArray)),eM 0 _] ⟨fun L u=>u_build u (gd0 rfl) 1 rfl 33 #[(0,(.const (.int .u64 14507833142362363162))),(1,(.const (.int .u64 7578651490590762930))),(2,(.const (.int .u64 13881468655802702940))),(3,(.const (.int .u64 2407515759118799870)))] rfl [(0,(Value.int IntKind.u64 14507833142362363162)),(1,(Value.int IntKind.u64 7578651490590762930)),(2,(Value.int IntKind.u64 13881468655802702940)),(3,(Value.int IntKind.u64 2407515759118799870))] rfl ([(Value.int IntKind.u64 14507833142362363162)]++[(Value.int IntKind.u64 7578651490590762930)]++[(Value.int IntKind.u64 13881468655802702940)]++[(Value.int IntKind.u64 2407515759118799870)]) (g_bN4 _ _ _ _),fun L u=>u_build u (gd0 rfl) 2 rfl 33 #[(0,(.const (.int .u64 7378697629483820632))),(1,(.const (.int .u64 7378697629483820646))),(2,(.const (.int .u64 7378697629483820646))),(3,(.const (.int .u64 7378697629483820646)))] rfl [(0,(Value.int IntKind.u64 7378697629483820632)),(1,(Value.int IntKind.u64 7378697629483820646)),(2,(Value.int IntKind.u64 7378697629483820646)),(3,(Value.int IntKind.u64 7378697629483820646))] rfl ([(Value.int IntKind.u64 7378697629483820632)]++[(Value.int IntKind.u64 7378697629483820646)]++[(Value.int IntKind.u64 7378697629483820646)]++[(Value.int IntKind.u64 7378697629483820646)]) (g_bN4 _ _ _ _),fun L u=>u_build u (gd0 rfl) 3 rfl 40 #[(0,(.tmp 1)),(1,(.tmp 2))] rfl [(0,.agg ([(Value.int IntKind.u64 14507833142362363162)]++[(Value.int IntKind.u64 7578651490590762930)]++[(Value.int IntKind.u64 13881468655802702940)]++[(Value.int IntKind.u64 2407515759118799870)]).toArray),(1,.agg ([(Value.int IntKind.u64 7378697629483820632)]++[(Value.int IntKind.u64 7378697629483820646)]++[(Value.int IntKind.u64 7378697629483820646)]++[(Value.int IntKind.u64 7378697629483820646)]).toArray)] rfl ([(Value.int IntKind.u64 14507833142362363162)]++[(Value.int IntKind.u64 7578651490590762930)]++[(Value.int IntKind.u64 13881468655802702940)]++[(Value.int IntKind.u64 2407515759118799870)]++[(Value.int IntKind.u64 7378697629483820632)]++[(Value.int IntKind.u64 7378697629483820646)]++[(Value.int IntKind.u64 7378697629483820646)]++[(Value.int IntKind.u64 7378697629483820646)]++[Value.bool false]) (g_bPc _ _ _ _ _ _ _ _),rfl,T0⟩ [(0,_)] [(0,[(Value.int IntKind.u64 14507833142362363162)]++[(Value.int IntKind.u64 7578651490590762930)]++[(Value.int IntKind.u64 13881468655802702940)]++[(Value.int IntKind.u64 2407515759118799870)]++[(Value.int IntKind.u64 7378697629483820632)]++[(Value.int IntKind.u64 7378697629483820646)]++[(Value.int IntKind.u64 7378697629483820646)]++[(Value.int IntKind.u64 7378697629483820646)]++[Value.bool false])] (fun a w h=>?_)
 refine wp_ret ?_
 refine ret_row h 0 40 rfl (lk rfl) 0 rfl ([(Value.int IntKind.u64 14507833142362363162)]++[(Value.int IntKind.u64 7578651490590762930)]++[(Value.int IntKind.u64 13881468655802702940)]++[(Value.int IntKind.u64 2407515759118799870)]++[(Value.int IntKind.u64 7378697629483820632)]++[(Value.int IntKind.u64 7378697629483820646)]++[(Value.int IntKind.u64 7378697629483820646)]++[(Value.int IntKind.u64 7378697629483820646)]++[Value.bool false]) rfl _ Tryd.underlying40 rfl i40 ?_
 exact ⟨by rw [pcE_G],h.grows⟩
end Go.Proofs.YtjaahnlpnkcimaaDoor
namespace Go.Proofs.YtjaahnlpnkcimaaDoor
set_option maxRecDepth 100000
open Go.RowKit
section
variable {P:Program} {W:Bs} {n:Nat} {ops:Array Oper} {i:Nat} {o:Oper} {L:Nat→Bool} {xs:List OE} {σ:SS}
theorem u_lenE (u:Up ops i o L) (hg:Gd ops n o (run L 0 xs σ)) (dd:Nat) (hdd:o.dst=some dd) (x:Operand) (t:TypeId) (ho:o.op=.call { callee:=.builtin .len,args:=#[x],argTypes:=#[t] }) {y off m c:Nat} (hx:lookO n ops i o xs σ x=some (.sli y off m c)) {e:TypeId} (hu:P.underlying t=some (.slice e)):GStep P W n ops o (run L 0 xs σ) ((eS dd (.val (.int .i64 (m:Int)))).app (run L 0 xs σ)):=by
 refine u_any u hg dd hdd _ (fun x c hp=>by cases hp) fun β a w hr=>?_
 unfold execOp
 simp [ho,resolve,invoke,builtin,hr.eval (u.ev hx),SV.at,Builtin.len_,goInt,run_underlying hu]
end
theorem e_bit0 {w:World} (k:Nat):Calls Tryd.prog 53 [.agg (nc (k:Int)).toArray,.int .i64 0].toArray w fun e w'=>e=.returned (.int .i64 ((k % 2:Nat):Int))∧Below w.heap.size w w':=by
 have h:=e_bit (w:=w) k 0 (by omega)
 rw [Nat.pow_zero,Nat.div_one] at h
 exact h
theorem e_odd_t {w:World} {x:Fin m2} (hp:x.val % 2=1):Calls Tryd.prog 56 [.agg (gc (x)).toArray].toArray w fun e w'=>e=.returned (.bool true)∧Below w.heap.size w w':=by
 refine enter (args:=[.agg (gc (x)).toArray]) Tryd.func56 rfl 6 rfl (lk rfl) (fun a h=>?_)
 refine aX h [] [eN 1 _,eS 2 _] ⟨rfl,rfl,T0⟩ [(1,.ptr 1 0)] [(1,gc (x))] (fun a w h=>?_)
 refine aX h [1,2] [eS 3 _,eS 4 _,eS 5 (.val (Value.bool true)),eS 2 _] ⟨rfl,fun L u=>u_call u (gd0 rfl) _ rfl _ _ _ rfl [_,_] rfl (cE53 _) _ (fun w hb=>e_bit0 x.val),fun L u=>u_bin u (gd0 rfl) _ rfl _ _ _ _ _ rfl rfl rfl (eqg_int _ _ _ _ _ _ _ _) _ (yes_of (fun w=>i_eql _ _ _ _ w) (by omega)),rfl,T0⟩ [(2,.val (Value.bool true))] [] (fun a w h=>?_)
 refine wp_ret ?_
 refine ret_slot h 2 rfl (lk rfl) (Value.bool true) rfl ?_
 exact ⟨rfl,h.grows⟩
theorem e_odd_f {w:World} {x:Fin m2} (hp:x.val % 2=0):Calls Tryd.prog 56 [.agg (gc (x)).toArray].toArray w fun e w'=>e=.returned (.bool false)∧Below w.heap.size w w':=by
 refine enter (args:=[.agg (gc (x)).toArray]) Tryd.func56 rfl 6 rfl (lk rfl) (fun a h=>?_)
 refine aX h [] [eN 1 _,eS 2 _] ⟨rfl,rfl,T0⟩ [(1,.ptr 1 0)] [(1,gc (x))] (fun a w h=>?_)
 refine aX h [1,2] [eS 3 _,eS 4 _,eS 5 (.val (Value.bool false)),eS 2 _] ⟨rfl,fun L u=>u_call u (gd0 rfl) _ rfl _ _ _ rfl [_,_] rfl (cE53 _) _ (fun w hb=>e_bit0 x.val),fun L u=>u_bin u (gd0 rfl) _ rfl _ _ _ _ _ rfl rfl rfl (eqg_int _ _ _ _ _ _ _ _) _ (no_of (fun w=>i_eql _ _ _ _ w) (by omega)),rfl,T0⟩ [(2,.val (Value.bool false))] [] (fun a w h=>?_)
 refine wp_ret ?_
 refine ret_slot h 2 rfl (lk rfl) (Value.bool false) rfl ?_
 exact ⟨rfl,h.grows⟩
theorem ox_even:((Ep.o m2).x).val % 2=0:=by decide +kernel
theorem e_enc_even {w:World} (hT:Tab w) {x y:Fin m2} (hq:y*y-x*x=1+ed*(x*x*(y*y))) (hp:x.val % 2=0):Calls Tryd.prog 44 [.agg (gc (x)++gc (y)++[Value.bool false]).toArray].toArray w fun e w'=>NewC (fun i=>Y i (((code ⟨x,y⟩:Nat)):Int)) w e w':=by
 refine enter (args:=[.agg (gc (x)++gc (y)++[Value.bool false]).toArray]) Tryd.func44 rfl 23 rfl (lk rfl) (fun a h=>?_)
 refine aX h [] [eN 1 _,eS 2 _] ⟨rfl,rfl,T0⟩ [(1,.ptr 1 0)] [(1,gc (x)++gc (y)++[Value.bool false])] (fun a w h=>?_)
 refine wp_seq ?_
 refine aX h [1] [eS 4 _,eS 5 (.val (Value.bool true)),eS 6 _] ⟨rfl,fun L u=>u_call u (gd0 rfl) _ rfl _ _ _ rfl [_] rfl (cE58 _) (Value.bool true) (fun w hb=>by have f:=e_formed_at (hT.keep (Bs.kp_of hb)) x y;rw [decide_eq_true hq] at f;exact f),rfl,T0⟩ [(1,_),(6,.val (Value.bool false))] [(1,_)] (fun a w h=>?_)
 refine go_cond h false rfl (fun ht=>?_) (fun hf=>?_)
 case refine_1=>cases ht
 refine wp_skip ?_
 refine then_norm ?_
 refine aX h [2] [eS 8 _,eS 9 _,(⟨some (10,.sli 10 0 32 32),some (10,by32 (fun i=>Y i ((((y).val:Nat):Int)))),none,none,none⟩:OE),eS 3 _] ⟨rfl,rfl,fun L u=>u_callN u (gd0 rfl) 10 rfl rfl 22 #[(.tmp 9)] #[33] rfl [.val (.agg (gc (y)).toArray)] rfl (fun vs w=>callFunc_enter Tryd.func22 (by kernel_rfl) (by kernel_rfl) vs w) (some (32,32)) (by32 (fun i=>Y i ((((y).val:Nat):Int)))) (fun β a w hr=>e_PutC ((((y).val:Nat):Int)) w),rfl,T0⟩ [(1,_),(3,.sli 10 0 32 32)] [(1,_),(10,by32 (fun i=>Y i ((((y).val:Nat):Int))))] (fun a w h=>?_)
 refine wp_seq ?_
 refine aX h [2] [eS 11 _,eS 12 _,eS 13 _] ⟨rfl,rfl,fun L u=>u_call u (gd0 rfl) _ rfl _ _ _ rfl [_] rfl (cE56 _) _ (fun w hb=>e_odd_f hp),T0⟩ [(3,_),(13,.val (Value.bool false))] [(10,_)] (fun a w h=>?_)
 refine go_cond h false rfl (fun ht=>?_) (fun hf=>?_)
 case refine_1=>cases ht
 refine wp_skip ?_
 refine then_norm ?_
 refine aX h [] [eS 22 _,eS 2 _] ⟨rfl,rfl,T0⟩ [(2,.sli 10 0 32 32)] [(10,_)] (fun a w h=>?_)
 refine wp_ret ?_
 refine ret_newC (cs:=by32 (fun i=>Y i ((((y).val:Nat):Int)))) h 2 rfl (lk rfl) 10 rfl rfl ?_
 refine by32_ext ?_;intro i hi;show Y i _=Y i _;rw [code_even (a:=⟨x,y⟩) hp]
theorem e_enc_odd {w:World} (hT:Tab w) {x y:Fin m2} (hq:y*y-x*x=1+ed*(x*x*(y*y))) (hp:x.val % 2=1) (hb0:0≤Y 31 ((y.val:Nat):Int)) (hb1:Y 31 ((y.val:Nat):Int)<128):Calls Tryd.prog 44 [.agg (gc (x)++gc (y)++[Value.bool false]).toArray].toArray w fun e w'=>NewC (fun i=>Y i (((code ⟨x,y⟩:Nat)):Int)) w e w':=by
 refine enter (args:=[.agg (gc (x)++gc (y)++[Value.bool false]).toArray]) Tryd.func44 rfl 23 rfl (lk rfl) (fun a h=>?_)
 refine aX h [] [eN 1 _,eS 2 _] ⟨rfl,rfl,T0⟩ [(1,.ptr 1 0)] [(1,gc (x)++gc (y)++[Value.bool false])] (fun a w h=>?_)
 refine wp_seq ?_
 refine aX h [1] [eS 4 _,eS 5 (.val (Value.bool true)),eS 6 _] ⟨rfl,fun L u=>u_call u (gd0 rfl) _ rfl _ _ _ rfl [_] rfl (cE58 _) (Value.bool true) (fun w hb=>by have f:=e_formed_at (hT.keep (Bs.kp_of hb)) x y;rw [decide_eq_true hq] at f;exact f),rfl,T0⟩ [(1,_),(6,.val (Value.bool false))] [(1,_)] (fun a w h=>?_)
 refine go_cond h false rfl (fun ht=>?_) (fun hf=>?_)
 case refine_1=>cases ht
 refine wp_skip ?_
 refine then_norm ?_
 refine aX h [2] [eS 8 _,eS 9 _,(⟨some (10,.sli 10 0 32 32),some (10,by32 (fun i=>Y i ((((y).val:Nat):Int)))),none,none,none⟩:OE),eS 3 _] ⟨rfl,rfl,fun L u=>u_callN u (gd0 rfl) 10 rfl rfl 22 #[(.tmp 9)] #[33] rfl [.val (.agg (gc (y)).toArray)] rfl (fun vs w=>callFunc_enter Tryd.func22 (by kernel_rfl) (by kernel_rfl) vs w) (some (32,32)) (by32 (fun i=>Y i ((((y).val:Nat):Int)))) (fun β a w hr=>e_PutC ((((y).val:Nat):Int)) w),rfl,T0⟩ [(1,_),(3,.sli 10 0 32 32)] [(1,_),(10,by32 (fun i=>Y i ((((y).val:Nat):Int))))] (fun a w h=>?_)
 refine wp_seq ?_
 refine aX h [2] [eS 11 _,eS 12 _,eS 13 _] ⟨rfl,rfl,fun L u=>u_call u (gd0 rfl) _ rfl _ _ _ rfl [_] rfl (cE56 _) _ (fun w hb=>e_odd_t hp),T0⟩ [(3,_),(13,.val (Value.bool true))] [(10,_)] (fun a w h=>?_)
 refine go_cond h true rfl (fun ht=>?_) (fun hf=>?_)
 case refine_2=>cases hf
 refine aE h [2,3,4,6,7] [eS 14 _,eS 15 _,eS 16 (.val (Value.int .i64 32)),eS 17 (.val (Value.int .i64 31)),eS 18 (.ptr 10 31),eS 19 _,eS 20 (.val (Value.int .u8 (((fun i=>Y i ((((y).val:Nat):Int))) 31)+128))),eS 21 (.ptr 10 31),eM 10 _] ⟨rfl,rfl,fun L u=>u_lenE u (gd0 rfl) 16 rfl (.tmp 15) 24 rfl rfl Tryd.underlying24,fun L u=>u_bin u (gd0 rfl) _ rfl _ _ _ _ _ rfl rfl rfl (eqg_int _ _ _ _ _ _ _ _) _ (fun w=>i_sub _ _ _ _ (by decide) (by decide) w),fun L u=>u_atS u (gd0 rfl) 18 rfl 24 (.tmp 14) (.tmp 17) rfl rfl rfl (k:=31) rfl Tryd.underlying24 i5 (by decide) 31 rfl,rfl,fun L u=>u_bin u (gd0 rfl) _ rfl _ _ _ _ _ rfl rfl rfl (eqg_int _ _ _ _ _ _ _ _) _ (fun w=>i_orB _ _ _ hb0 hb1 rfl w),fun L u=>u_atS u (gd0 rfl) 21 rfl 24 (.tmp 14) (.tmp 17) rfl rfl rfl (k:=31) rfl Tryd.underlying24 i5 (by decide) 31 rfl,rfl,T0⟩ [(3,_)] [(10,by31 (fun i=>Y i ((((y).val:Nat):Int))) ((((fun i=>Y i ((((y).val:Nat):Int))) 31)+128)))] (fun a w h=>?_)
 refine then_norm ?_
 refine aX h [] [eS 22 _,eS 2 _] ⟨rfl,rfl,T0⟩ [(2,.sli 10 0 32 32)] [(10,_)] (fun a w h=>?_)
 refine wp_ret ?_
 refine ret_newC (cs:=by31 (fun i=>Y i ((((y).val:Nat):Int))) ((((fun i=>Y i ((((y).val:Nat):Int))) 31)+128))) h 2 rfl (lk rfl) 10 rfl rfl ?_
 refine by31_ext ?_ ?_;(intro i hi;show Y i _=Y i _;exact (e_on (a:=⟨x,y⟩) i hi).symm);(show Y 31 _+128=Y 31 _;exact (code_top (a:=⟨x,y⟩) hp).symm)
theorem e_enc_off {w:World} (hT:Tab w) {A B:Int} {t:Bool} (hF:∀ {w:World},Tab w→Calls Tryd.prog 58 [.agg (nc A++nc B++[Value.bool t]).toArray].toArray w fun e w'=>e=.returned (.bool false)∧Below w.heap.size w w'):Calls Tryd.prog 44 [.agg (nc (A)++nc (B)++[Value.bool t]).toArray].toArray w fun e w'=>NewC (fun i=>Y i (((code (Ep.o m2):Nat)):Int)) w e w':=by
 refine enter (args:=[.agg (nc (A)++nc (B)++[Value.bool t]).toArray]) Tryd.func44 rfl 23 rfl (lk rfl) (fun a h=>?_)
 refine aX h [] [eN 1 _,eS 2 _] ⟨rfl,rfl,T0⟩ [(1,.ptr 1 0)] [(1,nc (A)++nc (B)++[Value.bool t])] (fun a w h=>?_)
 refine wp_seq ?_
 refine aX h [1] [eS 4 _,eS 5 _,eS 6 _] ⟨rfl,fun L u=>u_call u (gd0 rfl) _ rfl _ _ _ rfl [_] rfl (cE58 _) _ (fun w hb=>hF (hT.keep (Bs.kp_of hb))),rfl,T0⟩ [(1,_),(6,.val (Value.bool true))] [(1,_)] (fun a w h=>?_)
 refine go_cond h true rfl (fun ht=>?_) (fun hf=>?_)
 case refine_2=>cases hf
 refine aE h [0] [eS 7 _,eM 1 _] ⟨fun L u=>u_call u (gd0 rfl) _ rfl _ _ _ rfl [] rfl (cE52 _) _ (fun w hb=>e_neutral),rfl,T0⟩ [(1,_)] [(1,pcE (Ep.o m2))] (fun a w h=>?_)
 refine then_norm ?_
 refine aX h [2] [eS 8 _,eS 9 _,(⟨some (10,.sli 10 0 32 32),some (10,by32 (fun i=>Y i (((((Ep.o m2).y).val:Nat):Int)))),none,none,none⟩:OE),eS 3 _] ⟨rfl,rfl,fun L u=>u_callN u (gd0 rfl) 10 rfl rfl 22 #[(.tmp 9)] #[33] rfl [.val (.agg (gc ((Ep.o m2).y)).toArray)] rfl (fun vs w=>callFunc_enter Tryd.func22 (by kernel_rfl) (by kernel_rfl) vs w) (some (32,32)) (by32 (fun i=>Y i (((((Ep.o m2).y).val:Nat):Int)))) (fun β a w hr=>e_PutC (((((Ep.o m2).y).val:Nat):Int)) w),rfl,T0⟩ [(1,_),(3,.sli 10 0 32 32)] [(1,_),(10,by32 (fun i=>Y i (((((Ep.o m2).y).val:Nat):Int))))] (fun a w h=>?_)
 refine wp_seq ?_
 refine aX h [2] [eS 11 _,eS 12 _,eS 13 _] ⟨rfl,rfl,fun L u=>u_call u (gd0 rfl) _ rfl _ _ _ rfl [_] rfl (cE56 _) _ (fun w hb=>e_odd_f (x:=(Ep.o m2).x) ox_even),T0⟩ [(3,_),(13,.val (Value.bool false))] [(10,_)] (fun a w h=>?_)
 refine go_cond h false rfl (fun ht=>?_) (fun hf=>?_)
 case refine_1=>cases ht
 refine wp_skip ?_
 refine then_norm ?_
 refine aX h [] [eS 22 _,eS 2 _] ⟨rfl,rfl,T0⟩ [(2,.sli 10 0 32 32)] [(10,_)] (fun a w h=>?_)
 refine wp_ret ?_
 refine ret_newC (cs:=by32 (fun i=>Y i (((((Ep.o m2).y).val:Nat):Int)))) h 2 rfl (lk rfl) 10 rfl rfl ?_
 refine by32_ext ?_;intro i hi;show Y i _=Y i _;rw [code_o];rfl
theorem e_EncC {w:World} (hT:Tab w) {X Y:Int} (hX:Num X) (hY:Num Y) (t:Bool):Calls Tryd.prog 44 [.agg (rc X Y t).toArray].toArray w fun e w'=>NewC (fun i=>Go.Proofs.YtjaahnlpnkcimaaDoor.Y i (((code (rpE X Y t):Nat)):Int)) w e w':=by
 by_cases h:fmdE X Y t=false
 ·rw [fmdE_rp h]
  refine e_enc_off hT (fun hT=>?_)
  have f:=e_Formed hT hX hY t
  rw [h] at f
  exact f
 ·have h2:fmdE X Y t=true:=by simpa using h
  have hd:t=false∧X<md 2∧Y<md 2∧(kc Y:Fin m2)*kc Y-kc X*kc X=1+ed*(kc X*kc X*(kc Y*kc Y)):=of_decide_eq_true h2
  rw [show rpE X Y t=⟨kc X,kc Y⟩ from if_pos hd,hd.1,rc,nc_gc hX.lo hd.2.1,nc_gc hY.lo hd.2.2.1]
  obtain ⟨a,b,_⟩:=Y_top (y:=(((kc Y:Fin m2).val:Nat):Int)) (by omega) (y_int ⟨kc X,kc Y⟩)
  by_cases hp:(kc X:Fin m2).val % 2=0
  ·exact e_enc_even hT hd.2.2.2 hp
  ·exact e_enc_odd hT hd.2.2.2 (by omega) a b
end Go.Proofs.YtjaahnlpnkcimaaDoor
