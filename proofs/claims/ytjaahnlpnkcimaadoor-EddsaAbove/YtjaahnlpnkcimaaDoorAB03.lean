/- Things of bytes, looked at: a row, or bytes that are only read; parts of them; their elements. Walks by states of functions that defer: variables whose blocks are told, what is deferred, how such a function ends. How a function that defers a closure ends; states for a closure that may write what it captured. Things that hold others: lists of bytes, and what is spent on them; a row that is grown. Walks by states where memory is written through a pointer that is handed in: what such calls do, and where they panic; bytes copied into an array of one's own. Answers of two, the first of them a thing: how they are given, and how they are taken apart. Rows of one's own of whatever elements: one that is written out, and append in the text's order. Rows of whatever elements, looked at: how many, one of them, a part of it; a row of one element that is written out. Walks by states, in the text's order: a call that answers a slice that it made, and bytes appended to none, with whatever room behind them. A list that is written out and handed on at once; slices of an own array; answers of two, the second a thing; a thing's bytes copied. -/
import Derived.Test.YtjaahnlpnkcimaaDoorAB02
import Derived.Defers
import Derived.Recover
import Derived.Lib.AppendZerosOnto
import Derived.Lib.Walk
import Derived.Lib.SliceRun
namespace Go.Proofs.YtjaahnlpnkcimaaDoor
set_option maxRecDepth 100000
open Go.RowKit
def Vw (p:Pd) (g:Value→Value) (n:Nat) (l:List Nat):Prop:=∀ v F w,p.p v F w→∃ z c,g v=.slice z n c∧n≤c∧l.length=n∧BA w z n (fun i=>l.getD i 0)
theorem vw_row {n:Nat} {l:List Nat} (hl:∀ x ∈ l,x<256):Vw (rowPd 5 1 n (cells8 l)) id n l:=fun _ _ _ h=>by
 obtain ⟨z,c,h1,h2,h3,h4⟩:=row_ba h hl
 exact ⟨z,c,h1,h2,h3,h4⟩
def rdPd (n:Nat) (l:List Nat):Pd:=⟨fun v F w=>∃ z c,v=.slice z n c∧n≤c∧l.length=n∧BA w z n (fun i=>l.getD i 0)∧∀ p,z=some p→F p.block=true,fun {v F w w'} _ hb ⟨z,c,h1,h2,h3,h4,h5⟩=>by
 refine ⟨z,c,h1,h2,h3,⟨h4.lt,?_⟩,h5⟩
 rcases h4.at_ with h0 | ⟨b,o,rfl,hr⟩
 ·exact Or.inl h0
 ·exact Or.inr ⟨b,o,rfl,⟨fun i hi=>by rw [World.cell?_of_block (w:=w) (hb b (h5 _ rfl))];exact hr.c i hi⟩⟩⟩
theorem vw_head {p:Pd} {g:Value→Value} {n:Nat} {l:List Nat} (h:Vw p g n l) (k:Nat) (hk:k≤n):Vw p (fun v=>headV k (g v)) k (l.take k):=fun v F w hp=>by
 obtain ⟨z,c,h1,h2,h3,h4⟩:=h v F w hp
 refine ⟨cutA z c 0,c,by show headV k (g v)=_;rw [h1];rfl,by omega,by rw [List.length_take,h3];omega,?_⟩
 have e:=h4.cut c 0 k (by omega) h2
 refine ⟨fun i=>?_,e.at_.imp id fun ⟨b,o,e1,hr⟩=>⟨b,o,e1,hr.congr (fun i hi=>?_)⟩⟩
 ·have:=h4.lt i
  show (l.take k).getD i 0<256
  rw [List.getD_eq_getElem?_getD] at this ⊢
  rw [List.getElem?_take]
  split
  ·exact this
  ·simp
 ·show ((l.getD (0+i) 0:Nat):Int)=(((l.take k).getD i 0:Nat):Int)
  rw [Nat.zero_add,List.getD_eq_getElem?_getD,List.getD_eq_getElem?_getD,List.getElem?_take_of_lt hi]
section
variable {W:Bs} {n:Nat} {ops:Array Oper} {i:Nat} {o:Oper} {L:Nat→Bool} {xs:List OE} {σ:SS}
theorem q_len (u:Up ops i o L) (hg:Gd ops n o (run L 0 xs σ)) (dd:Nat) (hdd:o.dst=some dd) (x:Operand) (ho:o.op=.call { callee:=.builtin .len,args:=#[x],argTypes:=#[24] }) {y:Nat} {g:Value→Value} (hx:lookO n ops i o xs σ x=some (.unk y g)) {p:Pd} (hq:lookQ (deps o) i 0 ops.toList xs y (some (σ.q y))=some (some p)) {m:Nat} {l:List Nat} (hv:Vw p g m l):GStep Tryd.prog W n ops o (run L 0 xs σ) ((eS dd (.val (.int .i64 (m:Int)))).app (run L 0 xs σ)):=by
 refine u_valQ u hg dd hdd y hq _ fun β a w hr hp=>?_
 have ex:a.eval x=g (β y).v:=hr.eval (u.ev hx)
 obtain ⟨z,c,h1,_⟩:=hv _ _ _ hp
 unfold execOp
 simp [ho,resolve,invoke,builtin,ex,h1,Builtin.len_,goInt,run_underlying Tryd.underlying24]
theorem q_tail (u:Up ops i o L) (hg:Gd ops n o (run L 0 xs σ)) (dd:Nat) (hdd:o.dst=some dd) (x e:Operand) (ho:o.op=.slice 24 x (some e) none none) {y:Nat} {g:Value→Value} (hx:lookO n ops i o xs σ x=some (.unk y g)) {p:Pd} (hq:lookQ (deps o) i 0 ops.toList xs y (some (σ.q y))=some (some p)) {m:Nat} {l:List Nat} (hv:Vw p g m l) (k:Nat) (hl:lookO n ops i o xs σ e=some (.val (.int .i64 (k:Int)))) (hk:k≤m):GStep Tryd.prog W n ops o (run L 0 xs σ) ((eS dd (.unk y (fun v=>tailV k (g v)))).app (run L 0 xs σ)):=by
 refine u_anyQ u hg dd hdd y hq _ fun β a w hr hp=>?_
 have ex:a.eval x=g (β y).v:=hr.eval (u.ev hx)
 have el:a.eval e=.int .i64 (k:Int):=hr.eval (u.ev hl)
 obtain ⟨z,c,h1,_⟩:=hv _ _ _ hp
 unfold execOp
 simp only [ho,Option.map,ex,el,h1,Sem.run_bind,Sem.run_pure,Result.andThen_ok,run_fromS hk w]
 rfl
theorem q_head (u:Up ops i o L) (hg:Gd ops n o (run L 0 xs σ)) (dd:Nat) (hdd:o.dst=some dd) (x e:Operand) (ho:o.op=.slice 24 x none (some e) none) {y:Nat} {g:Value→Value} (hx:lookO n ops i o xs σ x=some (.unk y g)) {p:Pd} (hq:lookQ (deps o) i 0 ops.toList xs y (some (σ.q y))=some (some p)) {m:Nat} {l:List Nat} (hv:Vw p g m l) (k:Nat) (hl:lookO n ops i o xs σ e=some (.val (.int .i64 (k:Int)))) (hk:k≤m):GStep Tryd.prog W n ops o (run L 0 xs σ) ((eS dd (.unk y (fun v=>headV k (g v)))).app (run L 0 xs σ)):=by
 refine u_anyQ u hg dd hdd y hq _ fun β a w hr hp=>?_
 have ex:a.eval x=g (β y).v:=hr.eval (u.ev hx)
 have el:a.eval e=.int .i64 (k:Int):=hr.eval (u.ev hl)
 obtain ⟨z,c,h1,h2,_⟩:=hv _ _ _ hp
 unfold execOp
 simp only [ho,Option.map,ex,el,h1,Sem.run_bind,Sem.run_pure,Result.andThen_ok,run_toS (show k≤c by omega) w]
 rfl
end
theorem vw_src {W:Bs} {n:Nat} {σ:SS} {a:Act} {w:World} {β:Nat→Loc} (hr:Rep W n β σ a w) {x:Operand} {y:Nat} {g:Value→Value} (hx:σ.ev n x=some (.unk y g)) {p:Pd} (hq:σ.q y=some p) {m:Nat} {l:List Nat} (hv:Vw p g m l):∃ z c,a.eval x=.slice z m c∧BA w z m (fun i=>l.getD i 0):=by
 obtain ⟨z,c,h1,_,_,h4⟩:=hv _ _ _ (hr.thing hq)
 exact ⟨z,c,(hr.eval hx).trans h1,h4⟩
end Go.Proofs.YtjaahnlpnkcimaaDoor
namespace Go.Proofs.YtjaahnlpnkcimaaDoor
set_option maxRecDepth 100000
open Go.RowKit
section
variable {P:Program} {W:Bs} {n:Nat} {ops:Array Oper} {i:Nat} {o:Oper} {L:Nat→Bool} {xs:List OE} {σ:SS}
end
section
variable {P:Program} {W:Bs} {n:Nat} {ops:Array Oper} {i:Nat} {o:Oper} {σ:SS} {Q:Exit→Act→World→Prop} {rest:List Nat} {a:Act} {w:World}
end
end Go.Proofs.YtjaahnlpnkcimaaDoor
namespace Go.Proofs.YtjaahnlpnkcimaaDoor
set_option maxRecDepth 100000
open Go.RowKit
theorem Rp.slot {W:Bs} {n:Nat} {σ:SS} {a:Act} {w:World} (h:Rp W n σ a w) {d:Nat} (hd:d<n) {v:Value} (hs:σ.s d=some (.val v)):a.tmps[d]?=some v:=by
 obtain ⟨β,hr⟩:=h
 exact hr.sl d _ hd hs
section
variable {P:Program} {W:Bs} {n:Nat} {σ:SS} {a:Act} {w:World} {fn:Func} {R:Ending→World→Prop} {F:Nat} {cap:List Value}
end
end Go.Proofs.YtjaahnlpnkcimaaDoor
namespace Go.Proofs.YtjaahnlpnkcimaaDoor
set_option maxRecDepth 100000
open Go.RowKit
def Vr (p:Pd) (g:Value→Value) (n:Nat) (l:List Nat):Prop:=∀ v F w,p.p v F w→(rdPd n l).p (g v) F w
theorem vr_row {n:Nat} {l:List Nat} (hl:∀ x ∈ l,x<256):Vr (rowPd 5 1 n (cells8 l)) id n l:=fun v F w h=>by
 obtain ⟨z,c,h1,h2,h3,h4⟩:=row_ba h hl
 refine ⟨z,c,h1,h2,h3,h4,fun p hp=>(h.2 _).2 ?_⟩
 rw [h1,hp];rfl
theorem Vr.vw {p:Pd} {g:Value→Value} {n:Nat} {l:List Nat} (h:Vr p g n l):Vw p g n l:=fun v F w hp=>by
 obtain ⟨z,c,h1,h2,h3,h4,_⟩:=h v F w hp
 exact ⟨z,c,h1,h2,h3,h4⟩
theorem rd_more {n:Nat} {l:List Nat} {v:Value} {F G:Nat→Bool} {w:World} (h:(rdPd n l).p v F w) (hFG:∀ b,F b=true→G b=true):(rdPd n l).p v G w:=by
 obtain ⟨z,c,h1,h2,h3,h4,h5⟩:=h
 exact ⟨z,c,h1,h2,h3,h4,fun p hp=>hFG _ (h5 p hp)⟩
structure Vs (p q:Pd) (g:Value→Value):Prop where
 is:∀ v F w,p.p v F w→q.p (g v) F w∧∃ z m c,g v=.slice z m c
 more:∀ v F G w,q.p v F w→(∀ b,F b=true→G b=true)→q.p v G w
theorem Vr.vs {p:Pd} {g:Value→Value} {n:Nat} {l:List Nat} (h:Vr p g n l):Vs p (rdPd n l) g:=⟨fun v F w hp=>⟨h v F w hp,by obtain ⟨z,c,h1,_⟩:=h v F w hp;exact ⟨z,n,c,h1⟩⟩,fun _ _ _ _ h1 h2=>rd_more h1 h2⟩
section
variable {W:Bs} {n:Nat} {ops:Array Oper} {i:Nat} {o:Oper} {L:Nat→Bool} {xs:List OE} {σ:SS}
end
end Go.Proofs.YtjaahnlpnkcimaaDoor
namespace Go.Proofs.YtjaahnlpnkcimaaDoor
set_option maxRecDepth 100000
open Go.RowKit
section
variable {P:Program} {W:Bs} {n:Nat} {ops:Array Oper} {i:Nat} {o:Oper} {L:Nat→Bool} {xs:List OE} {σ:SS}
theorem run_bound {P:Program} (k l:Nat) (c:BoundsCode) (h:k≤l) (w:World):(Instr.sliceBound (.int .i64 (k:Int)) l c).run P w=.ok k w:=by
 simp [Instr.sliceBound,asIntOf,h]
theorem u_sliceT (u:Up ops i o L) (hg:Gd ops n o (run L 0 xs σ)) (dd:Nat) (hdd:o.dst=some dd) (ty:TypeId) (x e:Operand) (ho:o.op=.slice ty x (some e) none none) {y:Nat} (hx:lookO n ops i o xs σ x=some (.ptr y 0)) {cs:List Value} (hm:lookM (deps o) i 0 ops.toList xs y (some (σ.m y))=some (some cs)) {k:Nat} {t:TypeId} (hu:P.underlying ty=some (.array k t)) (hz:(P.info? t).map (·.size)=some 1) {off:Nat} (he:lookO n ops i o xs σ e=some (.val (.int .i64 (off:Int)))) (hk:off≤k) (off':Nat) (ho':off'=if k=off then 0 else off):GStep P W n ops o (run L 0 xs σ) ((eS dd (.sli y off' (k-off) (k-off))).app (run L 0 xs σ)):=by
 subst ho'
 refine u_any u hg dd hdd _ (fun x c hp=>by cases hp;exact ⟨cs,hm⟩) fun β a w hr=>?_
 have ee:a.eval e=.int .i64 (off:Int):=hr.eval (u.ev he)
 cases hq:P.info? t with
 | none=>simp [hq] at hz
 | some ti =>
  have hs:ti.size=1:=by simpa [hq] using hz
  unfold execOp
  simp [ho,hr.eval (u.ev hx),ee,SV.at,Instr.sliceAt,run_underlying hu,Instr.sureAddr,Instr.sliceBounds,sizeOf,typeInfo,hq,hs,Addr.add_mid,run_bound off k _ hk]
  split <;> rfl
end
section
variable {P:Program} {W:Bs} {n:Nat} {ops:Array Oper} {i:Nat} {o:Oper} {σ:SS} {Q:Exit→Act→World→Prop} {rest:List Nat} {a:Act} {w:World}
end
theorem run_copyB {W:World} {b o dLen dCap n c:Nat} {x:Option Addr} {g:Nat→Nat} (hx:BA W x n g) (hk:n≤dLen) (ht:W.there b o n) (ty:TypeId) :
  (Builtin.copy_ #[24,24] ty #[.slice (some ⟨b,o,none⟩) dLen dCap,.slice x n c]).run Tryd.prog W=.ok (goInt n) (W.setCells b o (cells8 (fl g n))):=by
 have hl:(cells8 (fl g n)).length=n:=by rw [cells8_len,fl_len]
 rcases hx.at_ with h0 | ⟨xb,xo,rfl,hr⟩
 ·subst h0
  exact run_copy_none (P:=Tryd.prog) W 24 24 ty 5 (some ⟨b,o,none⟩) x dLen dCap 0 c Tryd.underlying24 (by kernel_rfl) (Nat.zero_min _)
 ·have h:=run_copy_cells (P:=Tryd.prog) W 24 24 ty 5 b o dLen dCap ⟨xb,xo,none⟩ n c (cells8 (fl g n)) Tryd.underlying24 (by kernel_rfl) (by rw [hl];exact (Nat.min_eq_left hk).symm) (fun j v hv=>by
   have hj:j<n:=by
    rcases Nat.lt_or_ge j n with h' | h'
    ·exact h'
    ·rw [List.getElem?_eq_none (by rw [hl];exact h')] at hv;cases hv
   rw [cells8_at _ j (by rw [fl_len];exact hj),List.getD_eq_getElem?_getD,fl_at g hj] at hv
   rw [Addr.add_mid,hr.c j hj]
   simpa using hv) (fun j hj=>(ht j (by rw [hl] at hj;exact hj)).1) (fun j hj=>(ht j (by rw [hl] at hj;exact hj)).2) (cells8_one _)
  rw [hl] at h
  exact h
section
variable {W:Bs} {n:Nat} {ops:Array Oper} {i:Nat} {o:Oper} {L:Nat→Bool} {xs:List OE} {σ:SS}
end
end Go.Proofs.YtjaahnlpnkcimaaDoor
namespace Go.Proofs.YtjaahnlpnkcimaaDoor
set_option maxRecDepth 100000
open Go.RowKit
section
variable {P:Program} {W:Bs} {n:Nat} {ops:Array Oper} {i:Nat} {o:Oper} {L:Nat→Bool} {xs:List OE} {σ:SS}
end
end Go.Proofs.YtjaahnlpnkcimaaDoor
namespace Go.Proofs.YtjaahnlpnkcimaaDoor
set_option maxRecDepth 100000
open Go.RowKit
section
variable {P:Program} {W:Bs} {n:Nat} {ops:Array Oper} {i:Nat} {o:Oper} {σ:SS} {Q:Exit→Act→World→Prop} {rest:List Nat} {a:Act} {w:World}
end
end Go.Proofs.YtjaahnlpnkcimaaDoor
namespace Go.Proofs.YtjaahnlpnkcimaaDoor
set_option maxRecDepth 100000
open Go.RowKit
def depsT (ops:List Oper) (o:Oper):List Nat:=deps o++(deps o).flatMap fun k=>match ops[k]? with
 | some o'=>deps o'
 | none=>[]
theorem Up.depsT {ops:Array Oper} {i:Nat} {o:Oper} {L:Nat→Bool} (u:Up ops i o L):∀ k ∈ Proofs.YtjaahnlpnkcimaaDoor.depsT ops.toList o,L k=true:=fun k hk=>by
 rcases List.mem_append.1 hk with h | h
 ·exact u.deps k h
 ·obtain ⟨j,hj,hk'⟩:=List.mem_flatMap.1 h
  cases ho:ops.toList[j]? with
  | none=>simp only [ho] at hk';cases hk'
  | some o' =>
   simp only [ho] at hk'
   exact u.cl j o' (by simpa using ho) (u.deps j hj) k hk'
theorem Up.qT {ops:Array Oper} {i:Nat} {o:Oper} {L:Nat→Bool} (u:Up ops i o L) {xs:List OE} {σ:SS} {y:Nat} {v:Option Pd} (h:lookQ (Proofs.YtjaahnlpnkcimaaDoor.depsT ops.toList o) i 0 ops.toList xs y (some (σ.q y))=some v):(run L 0 xs σ).q y=v :=
 lookQ_ok u.depsT u.no ops.toList xs 0 (fun j o' ho hj e he=>u.cl j o' (by simpa using ho) (by simpa using hj) e he) h (fun u hu=>by cases hu;rfl)
section
variable {P:Program} {W:Bs} {n:Nat} {ops:Array Oper} {i:Nat} {o:Oper} {L:Nat→Bool} {xs:List OE} {σ:SS}
end
end Go.Proofs.YtjaahnlpnkcimaaDoor
namespace Go.Proofs.YtjaahnlpnkcimaaDoor
set_option maxRecDepth 100000
open Go.RowKit
section
variable {P:Program} {W:Bs} {n:Nat} {ops:Array Oper} {i:Nat} {o:Oper} {σ:SS} {Q:Exit→Act→World→Prop} {rest:List Nat} {a:Act} {w:World}
theorem yes_wanted {β:Nat→Loc} (hr:Rep W n β σ a w) (hg:Gd ops n o σ):Region.wanted o (yielded ops a.tmps)=true:=by
 cases hgd:o.guard with
 | none=>simp [Region.wanted,hgd]
 | some q =>
  obtain ⟨j,b⟩:=q
  have:=yes_eq ⟨β,hr⟩ (hg j b hgd)
  simp [Region.wanted,hgd,this]
end
section
variable {W:Bs} {n:Nat} {ops:Array Oper} {i:Nat} {o:Oper} {σ:SS} {Q:Exit→Act→World→Prop} {rest:List Nat} {a:Act} {w:World}
end
end Go.Proofs.YtjaahnlpnkcimaaDoor
namespace Go.Proofs.YtjaahnlpnkcimaaDoor
set_option maxRecDepth 100000
open Go.RowKit
def rmPd (n:Nat) (l:List Nat):Pd:=⟨fun v F w=>(rdPd n l).p v F w∧∃ z m c,v=.slice z m c∧c≤maxLen,fun hs hb ⟨h1,h2⟩=>⟨(rdPd n l).keep hs hb h1,h2⟩⟩
theorem rm_row {n:Nat} {l:List Nat} (hl:∀ x ∈ l,x<256) {v:Value} {F:Nat→Bool} {w:World} (hp:(rowPd 5 1 n (cells8 l)).p v F w):(rmPd n l).p v F w:=by
 have hv:=vr_row hl v F w hp
 have hs:∃ z m c,v=.slice z m c∧c≤maxLen:=by
  rcases hp.1.2 with ⟨h2,_⟩ | ⟨g,cap,cur,h2,_,_,_,h3,_⟩
  ·exact ⟨none,0,0,h2,Nat.zero_le _⟩
  ·exact ⟨_,_,_,h2,h3⟩
 exact ⟨hv,hs⟩
theorem rm_ba {n:Nat} {l:List Nat} {v:Value} {F:Nat→Bool} {w:World} (h:(rmPd n l).p v F w):∃ z c,v=.slice z n c∧n≤c∧c≤maxLen∧l.length=n∧BA w z n (fun i=>l.getD i 0):=by
 obtain ⟨⟨z,c,h1,h2,h3,h4,_⟩,z',m,c',h5,h6⟩:=h
 rw [h1] at h5
 cases h5
 exact ⟨z,c,h1,h2,h6,h3,h4⟩
def tusPd (t:Value) (p:Pd):Pd:=⟨fun v F w=>∃ u,v=.tuple [t,u].toArray∧p.p u F w,fun hs hb ⟨u,h1,h2⟩=>⟨u,h1,p.keep hs hb h2⟩⟩
def sndV:Value→Value
 | .tuple ⟨_ :: u :: _⟩=>u
 | v=>v
theorem tus_snd {t:Value} {p:Pd} {v:Value} {F:Nat→Bool} {w:World} (h:(tusPd t p).p v F w):p.p (sndV v) F w:=by
 obtain ⟨u,rfl,h2⟩:=h
 exact h2
section
variable {P:Program} {W:Bs} {n:Nat} {ops:Array Oper} {i:Nat} {o:Oper} {L:Nat→Bool} {xs:List OE} {σ:SS}
theorem u_ext0S (u:Up ops i o L) (hg:Gd ops n o (run L 0 xs σ)) (dd:Nat) (hdd:o.dst=some dd) (x:Operand) (ho:o.op=.extract x 0) {y:Nat} (hx:lookO n ops i o xs σ x=some (.unk y id)) {p:Pd} {t:Value} (hq:lookQ (depsT ops.toList o) i 0 ops.toList xs y (some (σ.q y))=some (some (tusPd t p))):GStep P W n ops o (run L 0 xs σ) ((eS dd (.val t)).app (run L 0 xs σ)):=by
 refine u_any u hg dd hdd _ (fun _ _ e=>by cases e) fun β a w hr=>?_
 obtain ⟨v,h1,_⟩:=hr.thing (u.qT hq)
 have ex:a.eval x=(β y).v:=hr.eval (u.ev hx)
 unfold execOp
 simp [ho,ex,h1,Instr.extract,SV.at]
theorem u_ext1S (u:Up ops i o L) (hg:Gd ops n o (run L 0 xs σ)) (dd:Nat) (hdd:o.dst=some dd) (x:Operand) (ho:o.op=.extract x 1) {y:Nat} (hx:lookO n ops i o xs σ x=some (.unk y id)) {p:Pd} {t:Value} (hq:lookQ (depsT ops.toList o) i 0 ops.toList xs y (some (σ.q y))=some (some (tusPd t p))):GStep P W n ops o (run L 0 xs σ) ((eS dd (.unk y sndV)).app (run L 0 xs σ)):=by
 have e:(eS dd (.unk y sndV)).app (run L 0 xs σ)=(run L 0 xs σ).set o.dst (.unk y sndV):=by rw [hdd];rfl
 rw [e]
 refine Step.gd hg (v_val _ (fun _ _ e=>by cases e) (fun z g' e=>by cases e;rw [u.qT hq];rfl) fun β a w hr=>?_)
 obtain ⟨v,h1,_⟩:=hr.thing (u.qT hq)
 have ex:a.eval x=(β y).v:=hr.eval (u.ev hx)
 unfold execOp
 simp [ho,ex,h1,sndV,Instr.extract,SV.at]
theorem u_sliceH (u:Up ops i o L) (hg:Gd ops n o (run L 0 xs σ)) (dd:Nat) (hdd:o.dst=some dd) (ty:TypeId) (x e:Operand) (ho:o.op=.slice ty x none (some e) none) {y:Nat} (hx:lookO n ops i o xs σ x=some (.ptr y 0)) {cs:List Value} (hm:lookM (deps o) i 0 ops.toList xs y (some (σ.m y))=some (some cs)) {k:Nat} {t:TypeId} (hu:P.underlying ty=some (.array k t)) (hz:(P.info? t).map (·.size)=some 1) {hi:Nat} (he:lookO n ops i o xs σ e=some (.val (.int .i64 (hi:Int)))) (hk:hi≤k):GStep P W n ops o (run L 0 xs σ) ((eS dd (.sli y 0 hi k)).app (run L 0 xs σ)):=by
 refine u_any u hg dd hdd _ (fun x c hp=>by cases hp;exact ⟨cs,hm⟩) fun β a w hr=>?_
 have ee:a.eval e=.int .i64 (hi:Int):=hr.eval (u.ev he)
 cases hq:P.info? t with
 | none=>simp [hq] at hz
 | some ti =>
  unfold execOp
  simp [ho,hr.eval (u.ev hx),ee,SV.at,Instr.sliceAt,run_underlying hu,Instr.sureAddr,Instr.sliceBounds,sizeOf,typeInfo,hq,Addr.add_mid,run_bound hi k _ hk]
end
theorem ret_cs {P:Program} {w0:World} {n:Nat} {σ:SS} {a:Act} {w:World} {fn:Func} {R:Ending→World→Prop} (h:Rp (Bs.of w0) n σ a w) (d e:Nat) (ty:TypeId) (hres:fn.results=#[.cell d ty,.tmp e]) {v1:Value} (h1:Ans P n σ (.cell d ty) v1) (he:e<n) (y o k c:Nat) (hs:σ.s e=some (.sli y o k c)) {cs:List Value} (hm:σ.m y=some cs) (hR:∀ b,w0.heap.size≤b→b<w.heap.size→w.rangeAt b 0 cs→R (.returned (.tuple [v1,.slice (some ⟨b,o,none⟩) k c].toArray)) w):bodyPost P fn R .ret a w:=by
 obtain ⟨β,hp⟩:=h
 obtain ⟨c1,c2,c3,_⟩:=hp.va y cs hm
 refine ⟨hp.df,.tuple [v1,.slice (some ⟨(β y).b,o,none⟩) k c].toArray,?_,hR _ (c1.elim id fun q=>by cases q) c2 c3⟩
 obtain ⟨p1,f1,g1⟩:=h1 _ β a w hp
 have e2:a.tmps[e]?=some (.slice (some ⟨(β y).b,o,none⟩) k c):=by rw [hp.sl e _ he hs];rfl
 simp [results,hres,f1,g1,e2,asAddr]
theorem Rep.less {W:Bs} {n:Nat} {β:Nat→Loc} {σ τ:SS} {a:Act} {w:World} (h:Rep W n β σ a w) (hs:∀ j v,τ.s j=some v→σ.s j=some v) (hm:τ.m=σ.m) (hq:τ.q=σ.q):Rep W n β τ a w:=by
 obtain ⟨s,m,q⟩:=τ
 simp only at hs hm hq
 subst hm hq
 exact ⟨h.df,h.sz,fun j v hj hv=>h.sl j v hj (hs j v hv),h.bl,h.va,h.ne,fun j v x o hj hv e=>h.pt j v x o hj (hs j v hv) e,⟨h.qk.qa,h.qk.qm,h.qk.qq,fun j u z gg hj hu e=>h.qk.qt j u z gg hj (hs j u hu) e⟩⟩
section
variable {W:Bs} {n:Nat} {ops:Array Oper} {i j:Nat} {o o2:Oper} {σ:SS} {Q:Exit→Act→World→Prop} {rest:List Nat} {a:Act} {w:World}
theorem sq_lc (h:Rp W n σ a w) (ho:ops[i]?=some o) (hg:o.guard=none) (d:Nat) (hd:o.dst=some d) (hdn:d<n) (k:Nat) (es:Array (Nat × Operand)) (hop:o.op=.buildSlice 61 k es) (hk0:0<k) (hk1:k≤1000)
  (ho2:ops[j]?=some o2) (hg2:o2.guard=none) (d2:Nat) (hd2:o2.dst=some d2) (F:Nat) (ts:Array TypeId) (hop2:o2.op=.call { callee:=.value (.func F),args:=#[.tmp d],argTypes:=ts }) (hE:∀ (vs:Array Value) (w:World),(callFunc F vs).run Tryd.prog w=.ok (.enter F vs) w) (ss:List SV) (hx:es.toList.map (fun q=>σ.ev n q.2)=ss.map some) (hix:es.toList.map (·.1)=List.range k) (r:Value)
  (hC:∀ (β:Nat→Loc) (_:Rep W n β σ a w),(∀ s ∈ ss,∃ z m c,s.at β=.slice z m c)∧Calls Tryd.prog F #[.slice (some ⟨w.heap.size,0,none⟩) k k] (w.alloc (.cells (ss.map (SV.at β)).toArray 24)) fun e w'=>e=.returned r∧Below (w.heap.size+1) (w.alloc (.cells (ss.map (SV.at β)).toArray 24)) w')
  (hfill:∀ vs:List Value,vs.length=k→(∀ v ∈ vs,∃ z m c,v=.slice z m c)→Instr.fill (fun i=>some (i*1,1)) ((Array.range (k*1)).map (fun x=>(Value.slice none 0 0).cells[x % (Value.slice none 0 0).cells.size]!)) ((List.range k).zip vs)=some vs.toArray)
  (hk:∀ (a':Act) (w':World),Rp W n ⟨fun t=>bif Nat.beq t d2 then some (.val r) else bif Nat.beq t d then none else σ.s t,σ.m,σ.q⟩ a' w'→wpOps Tryd.prog ops Q rest a' w'):wpOps Tryd.prog ops Q (i :: j :: rest) a w:=by
 obtain ⟨β,hr⟩:=h
 obtain ⟨hsl,hcall⟩:=hC β hr
 have key:∀ (l:List (Nat × Operand)) (ss:List SV),l.map (fun q=>σ.ev n q.2)=ss.map some→l.map (fun q=>a.eval q.2)=ss.map (SV.at β):=by
  intro l
  induction l with
  | nil=>intro ss h;cases ss with
   | nil=>rfl
   | cons v ss=>simp at h
  | cons x l ih=>intro ss h;cases ss with
   | nil=>simp at h
   | cons v ss =>
    simp only [List.map_cons,List.cons.injEq] at h ⊢
    exact ⟨hr.eval h.1,ih ss h.2⟩
 have hev:=key es.toList ss hx
 have hlen:(ss.map (SV.at β)).length=k:=by
  rw [← hev,List.length_map]
  have:=congrArg List.length hix
  simpa using this
 have hzip:(es.map fun (i,x)=>(i,a.eval x)).toList=(List.range k).zip (ss.map (SV.at β)):=by
  rw [Array.toList_map,← hix,← hev]
  exact List.zip_map'.symm
 have hsz:(sizeOf 24).run Tryd.prog w=.ok 1 w:=by
  have hi:(Tryd.prog.info? 24).map (·.size)=some 1:=by kernel_rfl
  obtain ⟨t,ht,hs⟩:=Option.map_eq_some_iff.1 hi
  simp [sizeOf,typeInfo,ht,hs]
 have hzv:(zeroValue 24).run Tryd.prog w=.ok (.slice none 0 0) w:=by
  have hi:(Tryd.prog.info? 24).map (·.zero)=some (some (.slice none 0 0)):=by kernel_rfl
  obtain ⟨t,ht,hs⟩:=Option.map_eq_some_iff.1 hi
  simp [zeroValue,typeInfo,ht,hs]
 have hrun:(Instr.buildSlice 61 k (es.map fun (i,x)=>(i,a.eval x))).run Tryd.prog w=.ok (.slice (some ⟨w.heap.size,0,none⟩) k k) (w.alloc (.cells (ss.map (SV.at β)).toArray 24)):=by
  unfold Instr.buildSlice
  simp only [Sem.run_bind,run_underlying Tryd.underlying61 w,Result.andThen_ok,hsz]
  rw [if_neg (show ¬ k*1 > 2 ^ 24 by omega),if_neg (show ¬ k*1=0 by omega)]
  simp only [Sem.run_bind,hzv,Sem.run_pure,Result.andThen_ok]
  rw [hzip,hfill _ hlen (fun v hv=>by obtain ⟨s,hs,rfl⟩:=List.mem_map.1 hv;exact hsl s hs)]
  simp [newRow]
 have hal:Below w.heap.size w (w.alloc (.cells (ss.map (SV.at β)).toArray 24)):=Below.alloc (Below.refl _ w) (Nat.le_refl _) _
 rw [wpOps_cons]
 refine wpOp_step ho (fun K' hK=>?_)
 rw [if_pos (yes_wanted hr (fun j b e=>by rw [hg] at e;cases e))]
 unfold Oper.wp execOp
 simp only [hop,Sem.run_bind,hrun,Result.andThen_ok,Sem.run_pure]
 refine hK _ _ ?_
 have g1:=(hr.grow hal).put o.dst (.val (.slice (some ⟨w.heap.size,0,none⟩) k k)) val_hp val_hu
 rw [show (SV.val (.slice (some ⟨w.heap.size,0,none⟩) k k)).at β=.slice (some ⟨w.heap.size,0,none⟩) k k from rfl] at g1
 rw [hd] at g1 ⊢
 rw [wpOps_cons]
 refine wpOp_step ho2 (fun K2 hK2=>?_)
 rw [if_pos (yes_wanted g1 (fun j b e=>by rw [hg2] at e;cases e))]
 have hf:(a.put (some d) (.slice (some ⟨w.heap.size,0,none⟩) k k)).eval (.func F)=.func (.func F) #[] #[]:=rfl
 have hxs:(#[.tmp d]:Array Operand).map (a.put (some d) (.slice (some ⟨w.heap.size,0,none⟩) k k)).eval=#[.slice (some ⟨w.heap.size,0,none⟩) k k]:=by
  have hdz:d<a.tmps.size:=by rw [hr.sz];exact hdn
  simp [Act.eval,Act.put,hdz]
 unfold Oper.wp execOp
 simp only [hop2,resolve,invoke,hf,Deferred.ofValue,hxs,Sem.run_bind,Sem.run_pure,Result.andThen_ok]
 rw [show (#[]++#[Value.slice (some ⟨w.heap.size,0,none⟩) k k]++#[]:Array Value)=#[.slice (some ⟨w.heap.size,0,none⟩) k k] by simp,hE,Oper.upon_enter]
 refine Calls.mono hcall ?_
 rintro e w' ⟨rfl,hb⟩
 rw [show w.heap.size+1=(w.alloc (.cells (ss.map (SV.at β)).toArray 24)).heap.size by simp] at hb
 have g2:=(g1.grow hb).put o2.dst (.val r) val_hp val_hu
 rw [show (SV.val r).at β=r from rfl] at g2
 rw [hd2] at g2 ⊢
 refine hK2 _ _ (hk _ w' ⟨β,g2.less (fun t v hv=>?_) rfl rfl⟩)
 simp only at hv
 show (if t=d2 then some (SV.val r) else if t=d then some _ else σ.s t)=some v
 cases b2:Nat.beq t d2 with
 | true =>
  rw [b2] at hv
  rw [if_pos (Nat.eq_of_beq_eq_true b2)]
  exact hv
 | false =>
  rw [b2] at hv
  have n2:t≠d2:=fun e=>by rw [e] at b2;simp at b2
  rw [if_neg n2]
  cases b1:Nat.beq t d with
  | true=>rw [b1] at hv;cases hv
  | false =>
   rw [b1] at hv
   have n1:t≠d:=fun e=>by rw [e] at b1;simp at b1
   rw [if_neg n1]
   exact hv
end
theorem fill1a (z0:Option Addr) (m0 c0:Nat):Instr.fill (fun i=>some (i*1,1)) ((Array.range (1*1)).map (fun x=>(Value.slice none 0 0).cells[x % (Value.slice none 0 0).cells.size]!)) ((List.range 1).zip [Value.slice z0 m0 c0])=some [Value.slice z0 m0 c0].toArray:=by kernel_rfl
theorem fill1:∀ vs:List Value,vs.length=1→(∀ v ∈ vs,∃ z m c,v=.slice z m c)→Instr.fill (fun i=>some (i*1,1)) ((Array.range (1*1)).map (fun x=>(Value.slice none 0 0).cells[x % (Value.slice none 0 0).cells.size]!)) ((List.range 1).zip vs)=some vs.toArray:=by
 intro vs h1 h2
 match vs,h1,h2 with
 | [x0],_,h2 =>
  obtain ⟨z0,m0,c0,rfl⟩:=h2 x0 (by simp)
  exact fill1a z0 m0 c0
theorem fill2a (z0:Option Addr) (m0 c0:Nat) (z1:Option Addr) (m1 c1:Nat):Instr.fill (fun i=>some (i*1,1)) ((Array.range (2*1)).map (fun x=>(Value.slice none 0 0).cells[x % (Value.slice none 0 0).cells.size]!)) ((List.range 2).zip [Value.slice z0 m0 c0,Value.slice z1 m1 c1])=some [Value.slice z0 m0 c0,Value.slice z1 m1 c1].toArray:=by kernel_rfl
theorem fill2:∀ vs:List Value,vs.length=2→(∀ v ∈ vs,∃ z m c,v=.slice z m c)→Instr.fill (fun i=>some (i*1,1)) ((Array.range (2*1)).map (fun x=>(Value.slice none 0 0).cells[x % (Value.slice none 0 0).cells.size]!)) ((List.range 2).zip vs)=some vs.toArray:=by
 intro vs h1 h2
 match vs,h1,h2 with
 | [x0,x1],_,h2 =>
  obtain ⟨z0,m0,c0,rfl⟩:=h2 x0 (by simp)
  obtain ⟨z1,m1,c1,rfl⟩:=h2 x1 (by simp)
  exact fill2a z0 m0 c0 z1 m1 c1
theorem fill3a (z0:Option Addr) (m0 c0:Nat) (z1:Option Addr) (m1 c1:Nat) (z2:Option Addr) (m2 c2:Nat):Instr.fill (fun i=>some (i*1,1)) ((Array.range (3*1)).map (fun x=>(Value.slice none 0 0).cells[x % (Value.slice none 0 0).cells.size]!)) ((List.range 3).zip [Value.slice z0 m0 c0,Value.slice z1 m1 c1,Value.slice z2 m2 c2])=some [Value.slice z0 m0 c0,Value.slice z1 m1 c1,Value.slice z2 m2 c2].toArray:=by kernel_rfl
theorem fill3:∀ vs:List Value,vs.length=3→(∀ v ∈ vs,∃ z m c,v=.slice z m c)→Instr.fill (fun i=>some (i*1,1)) ((Array.range (3*1)).map (fun x=>(Value.slice none 0 0).cells[x % (Value.slice none 0 0).cells.size]!)) ((List.range 3).zip vs)=some vs.toArray:=by
 intro vs h1 h2
 match vs,h1,h2 with
 | [x0,x1,x2],_,h2 =>
  obtain ⟨z0,m0,c0,rfl⟩:=h2 x0 (by simp)
  obtain ⟨z1,m1,c1,rfl⟩:=h2 x1 (by simp)
  obtain ⟨z2,m2,c2,rfl⟩:=h2 x2 (by simp)
  exact fill3a z0 m0 c0 z1 m1 c1 z2 m2 c2
end Go.Proofs.YtjaahnlpnkcimaaDoor
