/- Plain arithmetic of a product of four words by four, word by word. Operations that a state tells by itself: one look for all of them. What is to be known of the program's types. -/
import Derived.Test.YtjaahnlpnkcimaaDoorRG01
import Derived.Below
import Derived.Test.YtjaahnlpnkcimaaDoorProg
namespace Go.Proofs.YtjaahnlpnkcimaaDoor
set_option maxRecDepth 100000
theorem row_val {x b0 b1 b2 b3 c0 c1 c2 c3 h0 l0 h1 l1 h2 l2 h3 l3:Int} (e0:h0*18446744073709551616+l0=x*b0+c0+0) (e1:h1*18446744073709551616+l1=x*b1+c1+h0) (e2:h2*18446744073709551616+l2=x*b2+c2+h1) (e3:h3*18446744073709551616+l3=x*b3+c3+h2) :
  l0+18446744073709551616*l1+340282366920938463463374607431768211456*l2+6277101735386680763835789423207666416102355444464034512896*l3+115792089237316195423570985008687907853269984665640564039457584007913129639936*h3=c0+18446744073709551616*c1+340282366920938463463374607431768211456*c2+6277101735386680763835789423207666416102355444464034512896*c3+x*(b0+18446744073709551616*b1+340282366920938463463374607431768211456*b2+6277101735386680763835789423207666416102355444464034512896*b3):=by
 have d1:x*(b0+18446744073709551616*b1+340282366920938463463374607431768211456*b2+6277101735386680763835789423207666416102355444464034512896*b3)=x*b0+18446744073709551616*(x*b1)+340282366920938463463374607431768211456*(x*b2)+6277101735386680763835789423207666416102355444464034512896*(x*b3):=by
  simp only [Int.mul_add,Int.mul_left_comm x]
 rw [d1]
 generalize x*b0=m0 at *
 generalize x*b1=m1 at *
 generalize x*b2=m2 at *
 generalize x*b3=m3 at *
 omega
theorem mul_val {a0 a1 a2 a3 b0 b1 b2 b3 h00 l00 h01 l01 h02 l02 h03 l03 h10 l10 h11 l11 h12 l12 h13 l13 h20 l20 h21 l21 h22 l22 h23 l23 h30 l30 h31 l31 h32 l32 h33 l33:Int} (e00:h00*18446744073709551616+l00=a0*b0+0+0) (e01:h01*18446744073709551616+l01=a0*b1+0+h00) (e02:h02*18446744073709551616+l02=a0*b2+0+h01) (e03:h03*18446744073709551616+l03=a0*b3+0+h02) (e10:h10*18446744073709551616+l10=a1*b0+l01+0) (e11:h11*18446744073709551616+l11=a1*b1+l02+h10) (e12:h12*18446744073709551616+l12=a1*b2+l03+h11) (e13:h13*18446744073709551616+l13=a1*b3+h03+h12) (e20:h20*18446744073709551616+l20=a2*b0+l11+0) (e21:h21*18446744073709551616+l21=a2*b1+l12+h20) (e22:h22*18446744073709551616+l22=a2*b2+l13+h21) (e23:h23*18446744073709551616+l23=a2*b3+h13+h22) (e30:h30*18446744073709551616+l30=a3*b0+l21+0) (e31:h31*18446744073709551616+l31=a3*b1+l22+h30) (e32:h32*18446744073709551616+l32=a3*b2+l23+h31) (e33:h33*18446744073709551616+l33=a3*b3+h23+h32) :
  l00+18446744073709551616*l10+340282366920938463463374607431768211456*l20+6277101735386680763835789423207666416102355444464034512896*l30+115792089237316195423570985008687907853269984665640564039457584007913129639936*l31+2135987035920910082395021706169552114602704522356652769947041607822219725780640550022962086936576*l32+39402006196394479212279040100143613805079739270465446667948293404245721771497210611414266254884915640806627990306816*l33+726838724295606890549323807888004534353641360687318060281490199180639288113397923326191050713763565560762521606266177933534601628614656*h33=(a0+18446744073709551616*a1+340282366920938463463374607431768211456*a2+6277101735386680763835789423207666416102355444464034512896*a3)*(b0+18446744073709551616*b1+340282366920938463463374607431768211456*b2+6277101735386680763835789423207666416102355444464034512896*b3):=by
 have r0:=row_val e00 e01 e02 e03
 have r1:=row_val e10 e11 e12 e13
 have r2:=row_val e20 e21 e22 e23
 have r3:=row_val e30 e31 e32 e33
 generalize b0+18446744073709551616*b1+340282366920938463463374607431768211456*b2+6277101735386680763835789423207666416102355444464034512896*b3=b at *
 have d:(a0+18446744073709551616*a1+340282366920938463463374607431768211456*a2+6277101735386680763835789423207666416102355444464034512896*a3)*b=a0*b+18446744073709551616*(a1*b)+340282366920938463463374607431768211456*(a2*b)+6277101735386680763835789423207666416102355444464034512896*(a3*b):=by
  simp only [Int.add_mul,Int.mul_assoc]
 rw [d]
 generalize a0*b=m0 at *
 generalize a1*b=m1 at *
 generalize a2*b=m2 at *
 generalize a3*b=m3 at *
 clear e00 e01 e02 e03 e10 e11 e12 e13 e20 e21 e22 e23 e30 e31 e32 e33
 omega
end Go.Proofs.YtjaahnlpnkcimaaDoor
namespace Go.Proofs.YtjaahnlpnkcimaaDoor
set_option maxRecDepth 100000
open Go.RowKit
structure TyE:Type where
 row:Bool
 size:Nat
 zero:Option (List Value)
 flds:List Nat
 arr:Option (Nat × Nat)
def lkT:List (TypeId × TyE)→TypeId→Option TyE
 | [],_=>none
 | q :: r,t=>bif Nat.beq q.1 t then some q.2 else lkT r t
structure TyOk (P:Program) (t:TypeId) (e:TyE):Prop where
 desc:∃ d,P.underlying t=some d∧d.isRow=e.row
 size:(P.info? t).map (·.size)=some e.size
 zero:∀ z,e.zero=some z→∃ v,(P.info? t).map (·.zero)=some (some v)∧z=v.cells.toList
 fld:∀ (i:Nat) (off:Nat),e.flds[i]?=some off→∃ (fs:Array Field) (f:Field) (k:Nat),P.underlying t=some (.struct fs)∧fs[i]?=some f∧f.offset=off∧(P.info? f.type).map (·.size)=some (k+1)
 arr:∀ (len z:Nat),e.arr=some (len,z)→∃ el,P.underlying t=some (.array len el)∧(P.info? el).map (·.size)=some z
def AllT (P:Program):List (TypeId × TyE)→Prop
 | []=>True
 | q :: r=>TyOk P q.1 q.2∧AllT P r
theorem AllT.at {P:Program}:∀ {tt:List (TypeId × TyE)},AllT P tt→∀ {t:TypeId} {e:TyE},lkT tt t=some e→TyOk P t e
 | [],_,_,_,h=>by cases h
 | q :: r,hl,t,e,h=>by
  rw [lkT] at h
  cases hb:Nat.beq q.1 t with
  | true =>
   simp only [hb,cond_true,Option.some.injEq] at h
   rw [← Nat.eq_of_beq_eq_true hb,← h]
   exact hl.1
  | false =>
   simp only [hb,cond_false] at h
   exact AllT.at hl.2 h
section
variable (tt:List (TypeId × TyE)) (lo:Operand→Option SV) (lm:Nat→Option (Option (List Value)))
def aMove (d:Option Nat) (x:Operand):Option OE:=match d,lo x with
 | some d,some ⟨v,none,none,none⟩=>some (eS d (.val v))
 | some d,some ⟨v,some (y,c),k,none⟩=>match lm y with
  | some (some _)=>some (eS d ⟨v,some (y,c),k,none⟩)
  | _=>none
 | _,_=>none
def aLoad (d:Option Nat) (ty:TypeId) (x:Operand):Option OE:=match d,lo x,lkT tt ty with
 | some d,some ⟨.tuple ⟨[]⟩,some (y,off),none,none⟩,some e=>match lm y with
  | some (some cs)=>match e.row with
   | true=>bif Nat.ble (off+e.size) cs.length then some (eS d (.val (.agg ((cs.drop off).take e.size).toArray))) else none
   | false=>match cs[off]? with
    | some v=>some (eS d (.val v))
    | none=>none
  | _=>none
 | _,_,_=>none
def aStore (d:Option Nat) (ty:TypeId) (x z:Operand):Option OE:=match d,lo x,lkT tt ty,lo z with
 | none,some ⟨.tuple ⟨[]⟩,some (y,off),none,none⟩,some e,some ⟨v,none,none,none⟩=>match lm y,e.row,v with
  | some (some cs),true,.agg ⟨vs⟩=>bif Nat.ble (off+vs.length) cs.length && Nat.beq vs.length e.size && vs.all (·.oneCell') then some (eM y (splice cs off vs)) else none
  | some (some cs),false,v=>bif Nat.ble (off+1) cs.length && Nat.beq e.size 1 && v.oneCell' then some (eM y (splice cs off [v])) else none
  | _,_,_=>none
 | _,_,_,_=>none
def aAlloc (d:Option Nat) (ty:TypeId):Option OE:=match d,lkT tt ty with
 | some d,some e=>match lm d,e.zero with
  | some none,some z=>some (eN d z)
  | _,_=>none
 | _,_=>none
def aBox (d:Option Nat) (x:Operand):Option OE:=match d,lo x with
 | some d,some ⟨v,none,none,none⟩=>match lm d with
  | some none=>some (eN d v.cells.toList)
  | _=>none
 | _,_=>none
def aField (d:Option Nat) (ty:TypeId) (x:Operand) (i:Nat):Option OE:=match d,lo x,lkT tt ty with
 | some d,some ⟨.tuple ⟨[]⟩,some (y,off),none,none⟩,some e=>match lm y,e.flds[i]? with
  | some (some _),some o=>some (eS d (.ptr y (off+o)))
  | _,_=>none
 | _,_,_=>none
def aAt (d:Option Nat) (ty:TypeId) (x ix:Operand):Option OE:=match d,lo x,lkT tt ty,lo ix with
 | some d,some ⟨.tuple ⟨[]⟩,some (y,off),none,none⟩,some e,some ⟨.int _ (.ofNat k),none,none,none⟩=>match lm y,e.arr with
  | some (some _),some (len,z)=>bif Nat.blt k len then some (eS d (.ptr y (off+k*z))) else none
  | _,_=>none
 | _,_,_,_=>none
def aPart (d:Option Nat) (x:Operand) (k:Nat):Option OE:=match d,lo x with
 | some d,some ⟨.tuple ⟨vs⟩,none,none,none⟩=>match vs[k]? with
  | some v=>some (eS d (.val v))
  | none=>none
 | _,_=>none
def aPick (d:Option Nat) (c x y:Operand):Option OE:=match d,lo c,lo x,lo y with
 | some d,some ⟨.bool t,none,none,none⟩,some ⟨vx,none,none,none⟩,some ⟨vy,none,none,none⟩=>some (eS d (.val (bif t then vx else vy)))
 | _,_,_,_=>none
def aNot (d:Option Nat) (x:Operand):Option OE:=match d,lo x with
 | some d,some ⟨.bool t,none,none,none⟩=>some (eS d (.val (.bool (!t))))
 | _,_=>none
def aOp (o:Oper):Option OE:=match o.op with
 | .move x=>aMove lo lm o.dst x
 | .assign x=>aMove lo lm o.dst x
 | .load ty x=>aLoad tt lo lm o.dst ty x
 | .store ty x z=>aStore tt lo lm o.dst ty x z
 | .alloc ty=>aAlloc tt lm o.dst ty
 | .box _ x=>aBox lo lm o.dst x
 | .fieldAddr ty x i=>aField tt lo lm o.dst ty x i
 | .indexAddr ty x ix=>aAt tt lo lm o.dst ty x ix
 | .extract x k=>aPart lo o.dst x k
 | .pick c x y=>aPick lo o.dst c x y
 | .unOp .not _ x=>aNot lo o.dst x
 | _=>none
def aGd (n:Nat) (ops:Array Oper) (o:Oper):Option OE:=match o.guard with
 | none=>aOp tt lo lm o
 | some (j,b)=>match (ops[j]?).bind (·.dst) with
  | some d=>bif Nat.blt d n then (match lo (.tmp d),o.dst with
   | some ⟨.bool c,none,none,none⟩,_=>bif c == b then aOp tt lo lm o else (match o.dst with
    | some dd=>some (eS dd (.val undef))
    | none=>none)
   | some ⟨.tuple ⟨[]⟩,none,none,none⟩,some dd=>some (eS dd (.val undef))
   | _,_=>none) else none
  | none=>none
end
section
variable {P:Program} {W:Bs} {n:Nat} {ops:Array Oper} {i:Nat} {o:Oper} {L:Nat→Bool} {xs:List OE} {σ:SS} {tt:List (TypeId × TyE)} {e:OE}
theorem a_move (u:Up ops i o L) (hg:Gd ops n o (run L 0 xs σ)) {x:Operand} (ho:o.op=.move x∨o.op=.assign x) (h:aMove (lookO n ops i o xs σ) (fun y=>lookM (deps o) i 0 ops.toList xs y (some (σ.m y))) o.dst x=some e):GStep P W n ops o (run L 0 xs σ) (e.app (run L 0 xs σ)):=by
 unfold aMove at h
 split at h
 ·rename_i d v hd hx
  cases h
  exact u_move u hg d hd x ho hx
 ·rename_i d v y c k hd hx
  split at h
  ·rename_i cs hm
   cases h
   exact u_copy u hg d hd x ho hx (fun y' c' hp=>by cases hp;exact ⟨cs,hm⟩)
  ·cases h
 ·cases h
theorem a_load (hT:AllT P tt) (u:Up ops i o L) (hg:Gd ops n o (run L 0 xs σ)) {ty:TypeId} {x:Operand} (ho:o.op=.load ty x) (h:aLoad tt (lookO n ops i o xs σ) (fun y=>lookM (deps o) i 0 ops.toList xs y (some (σ.m y))) o.dst ty x=some e):GStep P W n ops o (run L 0 xs σ) (e.app (run L 0 xs σ)):=by
 unfold aLoad at h
 split at h
 ·rename_i d y off t hd hx ht
  obtain ⟨⟨td,hu,hr⟩,hs,_,_,_⟩:=hT.at ht
  split at h
  ·rename_i cs hm
   split at h
   ·rename_i hrow
    rw [hrow] at hr
    cases hb:Nat.ble (off+t.size) cs.length with
    | false=>simp [hb] at h
    | true =>
     simp only [hb,cond_true,Option.some.injEq] at h
     rw [← h]
     exact u_load u hg d hd ty x ho hx hm hu hr hs (Nat.le_of_ble_eq_true hb) _ rfl
   ·rename_i hrow
    rw [hrow] at hr
    split at h
    ·rename_i v hv
     cases h
     exact u_load1 u hg d hd ty x ho hx hm hu hr v hv
    ·cases h
  ·cases h
 ·cases h
theorem a_store (hT:AllT P tt) (u:Up ops i o L) (hg:Gd ops n o (run L 0 xs σ)) {ty:TypeId} {x z:Operand} (ho:o.op=.store ty x z) (h:aStore tt (lookO n ops i o xs σ) (fun y=>lookM (deps o) i 0 ops.toList xs y (some (σ.m y))) o.dst ty x z=some e):GStep P W n ops o (run L 0 xs σ) (e.app (run L 0 xs σ)):=by
 unfold aStore at h
 split at h
 ·rename_i y off t v hd hx ht hz
  obtain ⟨_,hs,_,_,_⟩:=hT.at ht
  split at h
  ·rename_i cs vs hm hrow
   cases hb:(Nat.ble (off+vs.length) cs.length && Nat.beq vs.length t.size && vs.all (·.oneCell')) with
   | false=>simp [hb] at h
   | true =>
    simp only [hb,cond_true,Option.some.injEq] at h
    simp only [Bool.and_eq_true] at hb
    rw [← h]
    exact u_store u hg ty x z ho hd hx (vs:=vs) hz hm (by rw [hs,Nat.eq_of_beq_eq_true hb.1.2]) (Nat.le_of_ble_eq_true hb.1.1) hb.2 _ rfl
  ·rename_i v _ _ _ cs hm hrow
   cases hb:(Nat.ble (off+1) cs.length && Nat.beq t.size 1 && v.oneCell') with
   | false=>simp [hb] at h
   | true =>
    simp only [hb,cond_true,Option.some.injEq] at h
    simp only [Bool.and_eq_true] at hb
    rw [← h]
    exact u_store1 u hg ty x z ho hd hx hz hm (by rw [hs,Nat.eq_of_beq_eq_true hb.1.2]) (Nat.le_of_ble_eq_true hb.1.1) hb.2 _ rfl
  ·cases h
 ·cases h
theorem a_alloc (hT:AllT P tt) (u:Up ops i o L) (hg:Gd ops n o (run L 0 xs σ)) {ty:TypeId} (ho:o.op=.alloc ty) (h:aAlloc tt (fun y=>lookM (deps o) i 0 ops.toList xs y (some (σ.m y))) o.dst ty=some e):GStep P W n ops o (run L 0 xs σ) (e.app (run L 0 xs σ)):=by
 unfold aAlloc at h
 split at h
 ·rename_i d t hd ht
  obtain ⟨_,_,hz,_,_⟩:=hT.at ht
  split at h
  ·rename_i z hm hz0
   cases h
   obtain ⟨v,h1,h2⟩:=hz z hz0
   exact u_alloc u hg ty ho d hd hm h1 _ h2
  ·cases h
 ·cases h
theorem a_box (u:Up ops i o L) (hg:Gd ops n o (run L 0 xs σ)) {ty:TypeId} {x:Operand} (ho:o.op=.box ty x) (h:aBox (lookO n ops i o xs σ) (fun y=>lookM (deps o) i 0 ops.toList xs y (some (σ.m y))) o.dst x=some e):GStep P W n ops o (run L 0 xs σ) (e.app (run L 0 xs σ)):=by
 unfold aBox at h
 split at h
 ·rename_i d v hd hx
  split at h
  ·rename_i hm
   cases h
   exact u_box u hg ty x ho d hd hm hx _ rfl
  ·cases h
 ·cases h
theorem a_field (hT:AllT P tt) (u:Up ops i o L) (hg:Gd ops n o (run L 0 xs σ)) {ty:TypeId} {x:Operand} {f:Nat} (ho:o.op=.fieldAddr ty x f) (h:aField tt (lookO n ops i o xs σ) (fun y=>lookM (deps o) i 0 ops.toList xs y (some (σ.m y))) o.dst ty x f=some e):GStep P W n ops o (run L 0 xs σ) (e.app (run L 0 xs σ)):=by
 unfold aField at h
 split at h
 ·rename_i d y off t hd hx ht
  obtain ⟨_,_,_,hf,_⟩:=hT.at ht
  split at h
  ·rename_i cs k hm hk
   cases h
   obtain ⟨fs,fd,k,h1,h2,h3,h4⟩:=hf f _ hk
   exact u_field u hg d hd ty x f ho hx hm h1 h2 h4 _ (by rw [h3])
  ·cases h
 ·cases h
theorem a_at (hT:AllT P tt) (u:Up ops i o L) (hg:Gd ops n o (run L 0 xs σ)) {ty:TypeId} {x ix:Operand} (ho:o.op=.indexAddr ty x ix) (h:aAt tt (lookO n ops i o xs σ) (fun y=>lookM (deps o) i 0 ops.toList xs y (some (σ.m y))) o.dst ty x ix=some e):GStep P W n ops o (run L 0 xs σ) (e.app (run L 0 xs σ)):=by
 unfold aAt at h
 split at h
 ·rename_i d y off t kd k hd hx ht hi
  obtain ⟨_,_,_,_,ha⟩:=hT.at ht
  split at h
  ·rename_i cs len z hm hk
   cases hb:Nat.blt k len with
   | false=>simp [hb] at h
   | true =>
    simp only [hb,cond_true,Option.some.injEq] at h
    rw [← h]
    obtain ⟨el,h1,h2⟩:=ha len z hk
    exact u_at u hg d hd ty x ix ho hx hm (k:=k) hi h1 h2 (Nat.blt_eq ▸ hb) _ rfl
  ·cases h
 ·cases h
theorem a_part (u:Up ops i o L) (hg:Gd ops n o (run L 0 xs σ)) {x:Operand} {k:Nat} (ho:o.op=.extract x k) (h:aPart (lookO n ops i o xs σ) o.dst x k=some e):GStep P W n ops o (run L 0 xs σ) (e.app (run L 0 xs σ)):=by
 unfold aPart at h
 split at h
 ·rename_i d vs hd hx
  split at h
  ·rename_i v hv
   cases h
   exact u_part u hg d hd x k ho (vs:=vs) hx v hv
  ·cases h
 ·cases h
theorem a_pick (u:Up ops i o L) (hg:Gd ops n o (run L 0 xs σ)) {c x y:Operand} (ho:o.op=.pick c x y) (h:aPick (lookO n ops i o xs σ) o.dst c x y=some e):GStep P W n ops o (run L 0 xs σ) (e.app (run L 0 xs σ)):=by
 unfold aPick at h
 split at h
 ·rename_i d t vx vy hd hc hx hy
  cases h
  exact u_pick u hg d hd c x y ho hc hx hy _ rfl
 ·cases h
theorem a_not (u:Up ops i o L) (hg:Gd ops n o (run L 0 xs σ)) {ty:TypeId} {x:Operand} (ho:o.op=.unOp .not ty x) (h:aNot (lookO n ops i o xs σ) o.dst x=some e):GStep P W n ops o (run L 0 xs σ) (e.app (run L 0 xs σ)):=by
 unfold aNot at h
 split at h
 ·rename_i d t hd hx
  cases h
  exact u_not u hg d hd ty x ho hx _ rfl
 ·cases h
theorem a_op (hT:AllT P tt) (u:Up ops i o L) (hg:Gd ops n o (run L 0 xs σ)) (h:aOp tt (lookO n ops i o xs σ) (fun y=>lookM (deps o) i 0 ops.toList xs y (some (σ.m y))) o=some e):GStep P W n ops o (run L 0 xs σ) (e.app (run L 0 xs σ)):=by
 unfold aOp at h
 split at h
 ·rename_i x ho;exact a_move u hg (Or.inl ho) h
 ·rename_i x ho;exact a_move u hg (Or.inr ho) h
 ·rename_i ty x ho;exact a_load hT u hg ho h
 ·rename_i ty x z ho;exact a_store hT u hg ho h
 ·rename_i ty ho;exact a_alloc hT u hg ho h
 ·rename_i ty x ho;exact a_box u hg ho h
 ·rename_i ty x f ho;exact a_field hT u hg ho h
 ·rename_i ty x ix ho;exact a_at hT u hg ho h
 ·rename_i x k ho;exact a_part u hg ho h
 ·rename_i c x y ho;exact a_pick u hg ho h
 ·rename_i ty x ho;exact a_not u hg ho h
 ·cases h
theorem u_auto (hT:AllT P tt) (u:Up ops i o L) (h:aGd tt (lookO n ops i o xs σ) (fun y=>lookM (deps o) i 0 ops.toList xs y (some (σ.m y))) n ops o=some e):GStep P W n ops o (run L 0 xs σ) (e.app (run L 0 xs σ)):=by
 unfold aGd at h
 split at h
 ·rename_i hgd
  exact a_op hT u (gd0 hgd) h
 ·rename_i j b hgd
  split at h
  ·rename_i d hd
   cases hn:Nat.blt d n with
   | false=>simp [hn] at h
   | true =>
    have hn':d<n:=Nat.blt_eq ▸ hn
    simp only [hn,cond_true] at h
    split at h
    ·rename_i c hc
     cases hb:(c == b) with
     | true =>
      simp only [hb,cond_true] at h
      have e:c=b:=by simpa using hb
      subst e
      exact a_op hT u (gd1 u j c hgd d hd hn' hc) h
     | false =>
      simp only [hb,cond_false] at h
      have e:c=!b:=by cases c <;> cases b <;> simp_all
      subst e
      split at h
      ·rename_i dd hdd
       cases h
       exact u_no u j b hgd d hd hn' hc dd hdd
      ·cases h
    ·rename_i dd hc hdd
     cases h
     exact u_noU u j b hgd d hd hn' hc dd hdd
    ·cases h
  ·cases h
def AllA (P:Program) (W:Bs) (n:Nat) (tt:List (TypeId × TyE)) (ks:List Nat) (ops:Array Oper) (xs:List OE) (σ:SS):Nat→List Oper→List OE→Prop
 | _,[],_=>True
 | _,_ :: _,[]=>False
 | i,o :: os,x :: r=>(match has ks i with
  | false=>aGd tt (lookO n ops i o xs σ) (fun y=>lookM (deps o) i 0 ops.toList xs y (some (σ.m y))) n ops o=some x
  | true=>∀ L,Up ops i o L→GStep P W n ops o (run L 0 xs σ) (x.app (run L 0 xs σ)))∧AllA P W n tt ks ops xs σ (i+1) os r
theorem AllA.st {ks:List Nat} (hT:AllT P tt):∀ {i:Nat} {os:List Oper} {r:List OE},AllA P W n tt ks ops xs σ i os r→AllSt P W n ops xs σ i os r
 | _,[],_,_=>trivial
 | _,_ :: _,[],h=>h
 | i,o :: os,x :: r,h=>by
  refine ⟨fun L u=>?_,AllA.st hT h.2⟩
  have h1:=h.1
  cases ha:has ks i with
  | false=>rw [ha] at h1;exact u_auto hT u h1
  | true=>rw [ha] at h1;exact h1 L u
end
theorem a_region {y:Code} {P:Program} {W:Bs} {n:Nat} {tt:List (TypeId × TyE)} (hT:AllT P tt) {id:Nat} {ops:Array Oper} {b:Bool} {Q:Exit→Act→World→Prop} {σ:SS} {a:Act} {w:World} (h:Rp W n σ a w) (hm:P.follows .mixedOrders=true) (ks:List Nat) (xs:List OE) (hok:orderOk ops xs=true)
  (hstep:AllA P W n tt ks ops xs σ 0 ops.toList xs) (s:List (Nat × SV)) (m:List (Nat × List Value)) (h1:AllS (run (fun _=>true) 0 xs σ).s s) (h2:AllM (run (fun _=>true) 0 xs σ).m m) (h3:aimed m s=true) (hk:∀ a' w',Rp W n (SS.mk' s m) a' w'→y.wp P Q a' w'):(Code.seq (Code.region id ops b) y).wp P Q a w:=go_region h hm xs hok (hstep.st hT) s m h1 h2 h3 hk
theorem a_end {P:Program} {W:Bs} {n:Nat} {tt:List (TypeId × TyE)} (hT:AllT P tt) {id:Nat} {ops:Array Oper} {b:Bool} {Q:Exit→Act→World→Prop} {σ:SS} {a:Act} {w:World} (h:Rp W n σ a w) (hm:P.follows .mixedOrders=true) (ks:List Nat) (xs:List OE) (hok:orderOk ops xs=true)
  (hstep:AllA P W n tt ks ops xs σ 0 ops.toList xs) (s:List (Nat × SV)) (m:List (Nat × List Value)) (h1:AllS (run (fun _=>true) 0 xs σ).s s) (h2:AllM (run (fun _=>true) 0 xs σ).m m) (h3:aimed m s=true) (hk:∀ a' w',Rp W n (SS.mk' s m) a' w'→Q .normal a' w'):(Code.region id ops b).wp P Q a w:=go_end h hm xs hok (hstep.st hT) s m h1 h2 h3 hk
theorem a_regionQ {y:Code} {P:Program} {W:Bs} {n:Nat} {tt:List (TypeId × TyE)} (hT:AllT P tt) {id:Nat} {ops:Array Oper} {b:Bool} {Q:Exit→Act→World→Prop} {σ:SS} {a:Act} {w:World} (h:Rp W n σ a w) (hm:P.follows .mixedOrders=true) (ks:List Nat) (xs:List OE) (hok:orderOk ops xs=true)
  (hstep:AllA P W n tt ks ops xs σ 0 ops.toList xs) (s:List (Nat × SV)) (m:List (Nat × List Value)) (q:List (Nat × Pd)) (h1:AllS (run (fun _=>true) 0 xs σ).s s) (h2:AllM (run (fun _=>true) 0 xs σ).m m) (hq:AllQ (run (fun _=>true) 0 xs σ).q q) (h3:aimQ m q s=true) (hk:∀ a' w',Rp W n (SS.mkQ s m q) a' w'→y.wp P Q a' w'):(Code.seq (Code.region id ops b) y).wp P Q a w:=go_regionQ h hm xs hok (hstep.st hT) s m q h1 h2 hq h3 hk
theorem a_endQ {P:Program} {W:Bs} {n:Nat} {tt:List (TypeId × TyE)} (hT:AllT P tt) {id:Nat} {ops:Array Oper} {b:Bool} {Q:Exit→Act→World→Prop} {σ:SS} {a:Act} {w:World} (h:Rp W n σ a w) (hm:P.follows .mixedOrders=true) (ks:List Nat) (xs:List OE) (hok:orderOk ops xs=true)
  (hstep:AllA P W n tt ks ops xs σ 0 ops.toList xs) (s:List (Nat × SV)) (m:List (Nat × List Value)) (q:List (Nat × Pd)) (h1:AllS (run (fun _=>true) 0 xs σ).s s) (h2:AllM (run (fun _=>true) 0 xs σ).m m) (hq:AllQ (run (fun _=>true) 0 xs σ).q q) (h3:aimQ m q s=true) (hk:∀ a' w',Rp W n (SS.mkQ s m q) a' w'→Q .normal a' w'):(Code.region id ops b).wp P Q a w:=go_endQ h hm xs hok (hstep.st hT) s m q h1 h2 hq h3 hk
end Go.Proofs.YtjaahnlpnkcimaaDoor
namespace Go.Proofs.YtjaahnlpnkcimaaDoor
open Go.RowKit
theorem ti33:(Tryd.prog.info? 33).map (·.size)=some 4:=by kernel_rfl
theorem tz33:(Tryd.prog.info? 33).map (·.zero)=some (some (.agg [Value.int .u64 0,Value.int .u64 0,Value.int .u64 0,Value.int .u64 0].toArray)):=by kernel_rfl
theorem ti63:(Tryd.prog.info? 63).map (·.size)=some 8:=by kernel_rfl
theorem tz63:(Tryd.prog.info? 63).map (·.zero)=some (some (.agg [Value.int .u64 0,Value.int .u64 0,Value.int .u64 0,Value.int .u64 0,Value.int .u64 0,Value.int .u64 0,Value.int .u64 0,Value.int .u64 0].toArray)):=by kernel_rfl
theorem ti40:(Tryd.prog.info? 40).map (·.size)=some 9:=by kernel_rfl
theorem tz40:(Tryd.prog.info? 40).map (·.zero)=some (some (.agg [Value.int .u64 0,Value.int .u64 0,Value.int .u64 0,Value.int .u64 0,Value.int .u64 0,Value.int .u64 0,Value.int .u64 0,Value.int .u64 0,Value.bool false].toArray)):=by kernel_rfl
theorem ti79:(Tryd.prog.info? 79).map (·.size)=some 16:=by kernel_rfl
theorem tz79:(Tryd.prog.info? 79).map (·.zero)=some (some (.agg [Value.int .u64 0,Value.int .u64 0,Value.int .u64 0,Value.int .u64 0,Value.int .u64 0,Value.int .u64 0,Value.int .u64 0,Value.int .u64 0,Value.int .u64 0,Value.int .u64 0,Value.int .u64 0,Value.int .u64 0,Value.int .u64 0,Value.int .u64 0,Value.int .u64 0,Value.int .u64 0].toArray)):=by kernel_rfl
theorem ti56:(Tryd.prog.info? 56).map (·.size)=some 16:=by kernel_rfl
theorem tz56:(Tryd.prog.info? 56).map (·.zero)=some (some (.agg [Value.int .u64 0,Value.int .u64 0,Value.int .u64 0,Value.int .u64 0,Value.int .u64 0,Value.int .u64 0,Value.int .u64 0,Value.int .u64 0,Value.int .u64 0,Value.int .u64 0,Value.int .u64 0,Value.int .u64 0,Value.int .u64 0,Value.int .u64 0,Value.int .u64 0,Value.int .u64 0].toArray)):=by kernel_rfl
theorem ti4:(Tryd.prog.info? 4).map (·.size)=some 1:=by kernel_rfl
theorem tz4:(Tryd.prog.info? 4).map (·.zero)=some (some (Value.bool false)):=by kernel_rfl
theorem ti5:(Tryd.prog.info? 5).map (·.size)=some 1:=by kernel_rfl
theorem tz5:(Tryd.prog.info? 5).map (·.zero)=some (some (Value.int .u8 0)):=by kernel_rfl
theorem ti31:(Tryd.prog.info? 31).map (·.size)=some 1:=by kernel_rfl
theorem tz31:(Tryd.prog.info? 31).map (·.zero)=some (some (Value.int .u64 0)):=by kernel_rfl
theorem ti119:(Tryd.prog.info? 119).map (·.size)=some 1:=by kernel_rfl
theorem tz119:(Tryd.prog.info? 119).map (·.zero)=some (some (Value.int .u32 0)):=by kernel_rfl
theorem ti3:(Tryd.prog.info? 3).map (·.size)=some 1:=by kernel_rfl
theorem tz3:(Tryd.prog.info? 3).map (·.zero)=some (some (Value.int .i64 0)):=by kernel_rfl
theorem ti24:(Tryd.prog.info? 24).map (·.size)=some 1:=by kernel_rfl
theorem tz24:(Tryd.prog.info? 24).map (·.zero)=some (some (Value.slice none 0 0)):=by kernel_rfl
theorem ti22:(Tryd.prog.info? 22).map (·.size)=some 32:=by kernel_rfl
theorem tz22:(Tryd.prog.info? 22).map (·.zero)=some (some (.agg [Value.int .u8 0,Value.int .u8 0,Value.int .u8 0,Value.int .u8 0,Value.int .u8 0,Value.int .u8 0,Value.int .u8 0,Value.int .u8 0,Value.int .u8 0,Value.int .u8 0,Value.int .u8 0,Value.int .u8 0,Value.int .u8 0,Value.int .u8 0,Value.int .u8 0,Value.int .u8 0,Value.int .u8 0,Value.int .u8 0,Value.int .u8 0,Value.int .u8 0,Value.int .u8 0,Value.int .u8 0,Value.int .u8 0,Value.int .u8 0,Value.int .u8 0,Value.int .u8 0,Value.int .u8 0,Value.int .u8 0,Value.int .u8 0,Value.int .u8 0,Value.int .u8 0,Value.int .u8 0].toArray)):=by kernel_rfl
theorem ti23:(Tryd.prog.info? 23).map (·.size)=some 32:=by kernel_rfl
theorem tz23:(Tryd.prog.info? 23).map (·.zero)=some (some (.agg [Value.int .u8 0,Value.int .u8 0,Value.int .u8 0,Value.int .u8 0,Value.int .u8 0,Value.int .u8 0,Value.int .u8 0,Value.int .u8 0,Value.int .u8 0,Value.int .u8 0,Value.int .u8 0,Value.int .u8 0,Value.int .u8 0,Value.int .u8 0,Value.int .u8 0,Value.int .u8 0,Value.int .u8 0,Value.int .u8 0,Value.int .u8 0,Value.int .u8 0,Value.int .u8 0,Value.int .u8 0,Value.int .u8 0,Value.int .u8 0,Value.int .u8 0,Value.int .u8 0,Value.int .u8 0,Value.int .u8 0,Value.int .u8 0,Value.int .u8 0,Value.int .u8 0,Value.int .u8 0].toArray)):=by kernel_rfl
def tts:List (TypeId × TyE):=[(33,⟨true,4,some [Value.int .u64 0,Value.int .u64 0,Value.int .u64 0,Value.int .u64 0],[],some (4,1)⟩),(63,⟨true,8,some [Value.int .u64 0,Value.int .u64 0,Value.int .u64 0,Value.int .u64 0,Value.int .u64 0,Value.int .u64 0,Value.int .u64 0,Value.int .u64 0],[],some (8,1)⟩),(40,⟨true,9,some [Value.int .u64 0,Value.int .u64 0,Value.int .u64 0,Value.int .u64 0,Value.int .u64 0,Value.int .u64 0,Value.int .u64 0,Value.int .u64 0,Value.bool false],[0,4,8],none⟩),(79,⟨true,16,some [Value.int .u64 0,Value.int .u64 0,Value.int .u64 0,Value.int .u64 0,Value.int .u64 0,Value.int .u64 0,Value.int .u64 0,Value.int .u64 0,Value.int .u64 0,Value.int .u64 0,Value.int .u64 0,Value.int .u64 0,Value.int .u64 0,Value.int .u64 0,Value.int .u64 0,Value.int .u64 0],[0,4,8,12],none⟩),(56,⟨true,16,some [Value.int .u64 0,Value.int .u64 0,Value.int .u64 0,Value.int .u64 0,Value.int .u64 0,Value.int .u64 0,Value.int .u64 0,Value.int .u64 0,Value.int .u64 0,Value.int .u64 0,Value.int .u64 0,Value.int .u64 0,Value.int .u64 0,Value.int .u64 0,Value.int .u64 0,Value.int .u64 0],[],some (4,4)⟩),(4,⟨false,1,some [Value.bool false],[],none⟩),(5,⟨false,1,some [Value.int .u8 0],[],none⟩),(31,⟨false,1,some [Value.int .u64 0],[],none⟩),(119,⟨false,1,some [Value.int .u32 0],[],none⟩),(3,⟨false,1,some [Value.int .i64 0],[],none⟩),(24,⟨false,1,some [Value.slice none 0 0],[],none⟩),(22,⟨true,32,some [Value.int .u8 0,Value.int .u8 0,Value.int .u8 0,Value.int .u8 0,Value.int .u8 0,Value.int .u8 0,Value.int .u8 0,Value.int .u8 0,Value.int .u8 0,Value.int .u8 0,Value.int .u8 0,Value.int .u8 0,Value.int .u8 0,Value.int .u8 0,Value.int .u8 0,Value.int .u8 0,Value.int .u8 0,Value.int .u8 0,Value.int .u8 0,Value.int .u8 0,Value.int .u8 0,Value.int .u8 0,Value.int .u8 0,Value.int .u8 0,Value.int .u8 0,Value.int .u8 0,Value.int .u8 0,Value.int .u8 0,Value.int .u8 0,Value.int .u8 0,Value.int .u8 0,Value.int .u8 0],[],some (32,1)⟩),(23,⟨true,32,some [Value.int .u8 0,Value.int .u8 0,Value.int .u8 0,Value.int .u8 0,Value.int .u8 0,Value.int .u8 0,Value.int .u8 0,Value.int .u8 0,Value.int .u8 0,Value.int .u8 0,Value.int .u8 0,Value.int .u8 0,Value.int .u8 0,Value.int .u8 0,Value.int .u8 0,Value.int .u8 0,Value.int .u8 0,Value.int .u8 0,Value.int .u8 0,Value.int .u8 0,Value.int .u8 0,Value.int .u8 0,Value.int .u8 0,Value.int .u8 0,Value.int .u8 0,Value.int .u8 0,Value.int .u8 0,Value.int .u8 0,Value.int .u8 0,Value.int .u8 0,Value.int .u8 0,Value.int .u8 0],[],some (32,1)⟩)]
theorem TT:AllT Tryd.prog tts:=⟨⟨⟨_,Tryd.underlying33,rfl⟩,ti33,fun z h=>(by cases h;exact ⟨_,tz33,rfl⟩),fun i off h=>(match i,h with | _+0,h=>by cases h),fun len z h=>(by cases h;exact ⟨_,Tryd.underlying33,ti31⟩)⟩,
 ⟨⟨_,Tryd.underlying63,rfl⟩,ti63,fun z h=>(by cases h;exact ⟨_,tz63,rfl⟩),fun i off h=>(match i,h with | _+0,h=>by cases h),fun len z h=>(by cases h;exact ⟨_,Tryd.underlying63,ti31⟩)⟩,
 ⟨⟨_,Tryd.underlying40,rfl⟩,ti40,fun z h=>(by cases h;exact ⟨_,tz40,rfl⟩),fun i off h=>(match i,h with | 0,h=>(by cases h;exact ⟨_,_,_,Tryd.underlying40,rfl,rfl,ti33⟩) | 1,h=>(by cases h;exact ⟨_,_,_,Tryd.underlying40,rfl,rfl,ti33⟩) | 2,h=>(by cases h;exact ⟨_,_,_,Tryd.underlying40,rfl,rfl,ti4⟩) | _+3,h=>by cases h),fun len z h=>(by cases h)⟩,
 ⟨⟨_,Tryd.underlying79,rfl⟩,ti79,fun z h=>(by cases h;exact ⟨_,tz79,rfl⟩),fun i off h=>(match i,h with | 0,h=>(by cases h;exact ⟨_,_,_,Tryd.underlying79,rfl,rfl,ti33⟩) | 1,h=>(by cases h;exact ⟨_,_,_,Tryd.underlying79,rfl,rfl,ti33⟩) | 2,h=>(by cases h;exact ⟨_,_,_,Tryd.underlying79,rfl,rfl,ti33⟩) | 3,h=>(by cases h;exact ⟨_,_,_,Tryd.underlying79,rfl,rfl,ti33⟩) | _+4,h=>by cases h),fun len z h=>(by cases h)⟩,
 ⟨⟨_,Tryd.underlying56,rfl⟩,ti56,fun z h=>(by cases h;exact ⟨_,tz56,rfl⟩),fun i off h=>(match i,h with | _+0,h=>by cases h),fun len z h=>(by cases h;exact ⟨_,Tryd.underlying56,ti33⟩)⟩,
 ⟨⟨_,Tryd.underlying4,rfl⟩,ti4,fun z h=>(by cases h;exact ⟨_,tz4,rfl⟩),fun i off h=>(match i,h with | _+0,h=>by cases h),fun len z h=>(by cases h)⟩,
 ⟨⟨_,Tryd.underlying5,rfl⟩,ti5,fun z h=>(by cases h;exact ⟨_,tz5,rfl⟩),fun i off h=>(match i,h with | _+0,h=>by cases h),fun len z h=>(by cases h)⟩,
 ⟨⟨_,Tryd.underlying31,rfl⟩,ti31,fun z h=>(by cases h;exact ⟨_,tz31,rfl⟩),fun i off h=>(match i,h with | _+0,h=>by cases h),fun len z h=>(by cases h)⟩,
 ⟨⟨_,Tryd.underlying119,rfl⟩,ti119,fun z h=>(by cases h;exact ⟨_,tz119,rfl⟩),fun i off h=>(match i,h with | _+0,h=>by cases h),fun len z h=>(by cases h)⟩,
 ⟨⟨_,Tryd.underlying3,rfl⟩,ti3,fun z h=>(by cases h;exact ⟨_,tz3,rfl⟩),fun i off h=>(match i,h with | _+0,h=>by cases h),fun len z h=>(by cases h)⟩,
 ⟨⟨_,Tryd.underlying24,rfl⟩,ti24,fun z h=>(by cases h;exact ⟨_,tz24,rfl⟩),fun i off h=>(match i,h with | _+0,h=>by cases h),fun len z h=>(by cases h)⟩,
 ⟨⟨_,Tryd.underlying22,rfl⟩,ti22,fun z h=>(by cases h;exact ⟨_,tz22,rfl⟩),fun i off h=>(match i,h with | _+0,h=>by cases h),fun len z h=>(by cases h;exact ⟨_,Tryd.underlying22,ti5⟩)⟩,
 ⟨⟨_,Tryd.underlying23,rfl⟩,ti23,fun z h=>(by cases h;exact ⟨_,tz23,rfl⟩),fun i off h=>(match i,h with | _+0,h=>by cases h),fun len z h=>(by cases h;exact ⟨_,Tryd.underlying23,ti5⟩)⟩,trivial⟩
theorem T0:True:=trivial
theorem hmT:Tryd.prog.follows .mixedOrders=true:=by kernel_rfl
theorem aX {y:Code} {W:Bs} {n:Nat} {id:Nat} {ops:Array Oper} {b:Bool} {Q:Exit→Act→World→Prop} {σ:SS} {a:Act} {w:World} (h:Rp W n σ a w) (ks:List Nat) (xs:List OE) (hstep:AllA Tryd.prog W n tts ks ops xs σ 0 ops.toList xs) (s:List (Nat × SV)) (m:List (Nat × List Value)) (hk:∀ a' w',Rp W n (SS.mk' s m) a' w'→y.wp Tryd.prog Q a' w') (hok:orderOk ops xs=true:=by kernel_rfl) (h1:AllS (run (fun _=>true) 0 xs σ).s s:=by repeat' (first | exact trivial | refine ⟨rfl,?_⟩)) (h2:AllM (run (fun _=>true) 0 xs σ).m m:=by repeat' (first | exact trivial | refine ⟨rfl,?_⟩)) (h3:aimed m s=true:=by exact rfl):(Code.seq (Code.region id ops b) y).wp Tryd.prog Q a w:=a_region TT h hmT ks xs hok hstep s m h1 h2 h3 hk
theorem aE {W:Bs} {n:Nat} {id:Nat} {ops:Array Oper} {b:Bool} {Q:Exit→Act→World→Prop} {σ:SS} {a:Act} {w:World} (h:Rp W n σ a w) (ks:List Nat) (xs:List OE) (hstep:AllA Tryd.prog W n tts ks ops xs σ 0 ops.toList xs) (s:List (Nat × SV)) (m:List (Nat × List Value)) (hk:∀ a' w',Rp W n (SS.mk' s m) a' w'→Q .normal a' w') (hok:orderOk ops xs=true:=by kernel_rfl) (h1:AllS (run (fun _=>true) 0 xs σ).s s:=by repeat' (first | exact trivial | refine ⟨rfl,?_⟩)) (h2:AllM (run (fun _=>true) 0 xs σ).m m:=by repeat' (first | exact trivial | refine ⟨rfl,?_⟩)) (h3:aimed m s=true:=by exact rfl):(Code.region id ops b).wp Tryd.prog Q a w:=a_end TT h hmT ks xs hok hstep s m h1 h2 h3 hk
theorem aXQ {y:Code} {W:Bs} {n:Nat} {id:Nat} {ops:Array Oper} {b:Bool} {Q:Exit→Act→World→Prop} {σ:SS} {a:Act} {w:World} (h:Rp W n σ a w) (ks:List Nat) (xs:List OE) (hstep:AllA Tryd.prog W n tts ks ops xs σ 0 ops.toList xs) (s:List (Nat × SV)) (m:List (Nat × List Value)) (q:List (Nat × Pd)) (hk:∀ a' w',Rp W n (SS.mkQ s m q) a' w'→y.wp Tryd.prog Q a' w') (hok:orderOk ops xs=true:=by kernel_rfl) (h1:AllS (run (fun _=>true) 0 xs σ).s s:=by repeat' (first | exact trivial | refine ⟨rfl,?_⟩)) (h2:AllM (run (fun _=>true) 0 xs σ).m m:=by repeat' (first | exact trivial | refine ⟨rfl,?_⟩)) (hq:AllQ (run (fun _=>true) 0 xs σ).q q:=by repeat' (first | exact trivial | refine ⟨rfl,?_⟩)) (h3:aimQ m q s=true:=by exact rfl):(Code.seq (Code.region id ops b) y).wp Tryd.prog Q a w:=a_regionQ TT h hmT ks xs hok hstep s m q h1 h2 hq h3 hk
theorem aEQ {W:Bs} {n:Nat} {id:Nat} {ops:Array Oper} {b:Bool} {Q:Exit→Act→World→Prop} {σ:SS} {a:Act} {w:World} (h:Rp W n σ a w) (ks:List Nat) (xs:List OE) (hstep:AllA Tryd.prog W n tts ks ops xs σ 0 ops.toList xs) (s:List (Nat × SV)) (m:List (Nat × List Value)) (q:List (Nat × Pd)) (hk:∀ a' w',Rp W n (SS.mkQ s m q) a' w'→Q .normal a' w') (hok:orderOk ops xs=true:=by kernel_rfl) (h1:AllS (run (fun _=>true) 0 xs σ).s s:=by repeat' (first | exact trivial | refine ⟨rfl,?_⟩)) (h2:AllM (run (fun _=>true) 0 xs σ).m m:=by repeat' (first | exact trivial | refine ⟨rfl,?_⟩)) (hq:AllQ (run (fun _=>true) 0 xs σ).q q:=by repeat' (first | exact trivial | refine ⟨rfl,?_⟩)) (h3:aimQ m q s=true:=by exact rfl):(Code.region id ops b).wp Tryd.prog Q a w:=a_endQ TT h hmT ks xs hok hstep s m q h1 h2 hq h3 hk
end Go.Proofs.YtjaahnlpnkcimaaDoor
