/- Things of bytes, looked at: a row, or bytes that are only read; parts of them; their elements. Walks by states of functions that defer: variables whose blocks are told, what is deferred, how such a function ends. How a function that defers a closure ends; states for a closure that may write what it captured. Things that hold others: lists of bytes, and what is spent on them; a row that is grown. Walks by states where memory is written through a pointer that is handed in: what such calls do, and where they panic; bytes copied into an array of one's own. Answers of two, the first of them a thing: how they are given, and how they are taken apart. Rows of one's own of whatever elements: one that is written out, and append in the text's order. Rows of whatever elements, looked at: how many, one of them, a part of it; a row of one element that is written out. Operations that a state tells by itself: one look for all of them. -/
import Derived.Test.YtmigakanbeckpaaGreatDoorKm02
import Derived.Test.YtmigakanbeckpaaGreatDoorKm01
import Derived.Defers
import Derived.Recover
import Derived.Lib.AppendZerosOnto
import Derived.Lib.Walk
import Derived.Lib.SliceRun
namespace Go.Proofs.YtmigakanbeckpaaGreatDoor
set_option maxRecDepth 100000
open Go.RowKit
def Vw (p:Pd) (g:Value→Value) (n:Nat) (l:List Nat):Prop:=∀ v F w,p.p v F w→∃ z c,g v=.slice z n c∧n≤c∧l.length=n∧BA w z n (fun i=>l.getD i 0)
theorem vw_row {n:Nat} {l:List Nat} (hl:∀ x ∈ l,x<256):Vw (rowPd 5 1 n (cells8 l)) id n l:=fun _ _ _ h=>by
 obtain ⟨z,c,h1,h2,h3,h4⟩:=row_ba h hl
 exact ⟨z,c,h1,h2,h3,h4⟩
def rdPd (n:Nat) (l:List Nat):Pd:=⟨fun v F w=>∃ z c,v=.slice z n c∧n≤c∧l.length=n∧BA w z n (fun i=>l.getD i 0)∧∀ p,z=some p→F p.block=true,fun {v F w w'} _ hb ⟨z,c,h1,h2,h3,h4,h5⟩=>by
 refine ⟨z,c,h1,h2,h3,⟨h4.lt,?_⟩,h5⟩
 rcases h4.at_ with h0 | ⟨b,o,rfl,hr⟩
 ·exact Or.inl h0
 ·exact Or.inr ⟨b,o,rfl,⟨fun i hi=>by rw [World.cell?_of_block (w:=w) (hb b (h5 _ rfl))];exact hr.c i hi⟩⟩⟩
theorem rd_of {P:Program} {F:Nat} {args:Array Value} {w:World} {n:Nat} {l:List Nat} (hl:l.length=n) (h:Calls P F args w fun r w'=>∃ g c,r=.returned (.slice (some ⟨g,0,none⟩) n c)∧n≤c∧w.heap.size≤g∧g<w'.heap.size∧BA w' (some ⟨g,0,none⟩) n (fun i=>l.getD i 0)∧Below w.heap.size w w'):Calls P F args w fun r w'=>∃ v Fp,r=.returned v∧(rdPd n l).p v Fp w'∧(∀ b,Fp b=true→w.heap.size≤b∧b<w'.heap.size)∧Below w.heap.size w w' :=
 Calls.mono h (fun _ _ ⟨g,c,h1,h2,h3,h4,h5,h6⟩=>⟨_,fun b=>Nat.beq b g,h1,⟨_,c,rfl,h2,hl,h5,fun p hp=>by cases hp;exact Nat.beq_refl g⟩,fun b hb=>by
  rw [Nat.eq_of_beq_eq_true hb]
  exact ⟨h3,h4⟩,h6⟩)
section
variable {W:Bs} {n:Nat} {ops:Array Oper} {i:Nat} {o:Oper} {L:Nat→Bool} {xs:List OE} {σ:SS}
end
theorem vw_src {W:Bs} {n:Nat} {σ:SS} {a:Act} {w:World} {β:Nat→Loc} (hr:Rep W n β σ a w) {x:Operand} {y:Nat} {g:Value→Value} (hx:σ.ev n x=some (.unk y g)) {p:Pd} (hq:σ.q y=some p) {m:Nat} {l:List Nat} (hv:Vw p g m l):∃ z c,a.eval x=.slice z m c∧BA w z m (fun i=>l.getD i 0):=by
 obtain ⟨z,c,h1,_,_,h4⟩:=hv _ _ _ (hr.thing hq)
 exact ⟨z,c,(hr.eval hx).trans h1,h4⟩
end Go.Proofs.YtmigakanbeckpaaGreatDoor
namespace Go.Proofs.YtmigakanbeckpaaGreatDoor
set_option maxRecDepth 100000
open Go.RowKit
section
variable {P:Program} {W:Bs} {n:Nat} {ops:Array Oper} {i:Nat} {o:Oper} {L:Nat→Bool} {xs:List OE} {σ:SS}
end
section
variable {P:Program} {W:Bs} {n:Nat} {ops:Array Oper} {i:Nat} {o:Oper} {σ:SS} {Q:Exit→Act→World→Prop} {rest:List Nat} {a:Act} {w:World}
end
end Go.Proofs.YtmigakanbeckpaaGreatDoor
namespace Go.Proofs.YtmigakanbeckpaaGreatDoor
set_option maxRecDepth 100000
open Go.RowKit
theorem Rp.slot {W:Bs} {n:Nat} {σ:SS} {a:Act} {w:World} (h:Rp W n σ a w) {d:Nat} (hd:d<n) {v:Value} (hs:σ.s d=some (.val v)):a.tmps[d]?=some v:=by
 obtain ⟨β,hr⟩:=h
 exact hr.sl d _ hd hs
section
variable {P:Program} {W:Bs} {n:Nat} {σ:SS} {a:Act} {w:World} {fn:Func} {R:Ending→World→Prop} {F:Nat} {cap:List Value}
end
end Go.Proofs.YtmigakanbeckpaaGreatDoor
namespace Go.Proofs.YtmigakanbeckpaaGreatDoor
set_option maxRecDepth 100000
open Go.RowKit
theorem Rep.merge {W:Bs} {n:Nat} {β:Nat→Loc} {τ:SS} {a:Act} {w:World} (h:Rep W n β τ a w) (d y:Nat) (hdy:d≠y) {pd py:Pd} (hd:τ.q d=some pd) (hy:τ.q y=some py) (p:Pd) (hp:p.p (β d).v (fun b=>(β d).F b || (β y).F b) w):Rep W n (fun z=>if z=d then ⟨(β d).b,(β d).v,fun b=>(β d).F b || (β y).F b⟩ else if z=y then ⟨(β y).b,(β y).v,fun _=>false⟩ else β z) ⟨τ.s,τ.m,fun z=>if z=y then some pd0 else if z=d then some p else τ.q z⟩ a w:=by
 have hyd:y≠d:=Ne.symm hdy
 have hd':(τ.q d).isSome=true:=by rw [hd];rfl
 have hy':(τ.q y).isSome=true:=by rw [hy];rfl
 have bsame:∀ z,(if z=d then (⟨(β d).b,(β d).v,fun b=>(β d).F b || (β y).F b⟩:Loc) else if z=y then ⟨(β y).b,(β y).v,fun _=>false⟩ else β z).b=(β z).b:=fun z=>by
  by_cases e:z=d
  ·subst e;simp
  ·by_cases e2:z=y
   ·subst e2;simp [e]
   ·simp [e,e2]
 have vsame:∀ z,(if z=d then (⟨(β d).b,(β d).v,fun b=>(β d).F b || (β y).F b⟩:Loc) else if z=y then ⟨(β y).b,(β y).v,fun _=>false⟩ else β z).v=(β z).v:=fun z=>by
  by_cases e:z=d
  ·subst e;simp
  ·by_cases e2:z=y
   ·subst e2;simp [e]
   ·simp [e,e2]
 have c3:∀ z q,(if z=y then some pd0 else if z=d then some p else τ.q z)=some q→(z=y∧q=pd0)∨(z=d∧q=p)∨(z≠y∧z≠d∧τ.q z=some q):=fun z q hz=>by
  by_cases e:z=y
  ·rw [if_pos e] at hz;cases hz;exact Or.inl ⟨e,rfl⟩
  ·rw [if_neg e] at hz
   by_cases e2:z=d
   ·rw [if_pos e2] at hz;cases hz;exact Or.inr (Or.inl ⟨e2,rfl⟩)
   ·rw [if_neg e2] at hz;exact Or.inr (Or.inr ⟨e,e2,hz⟩)
 have c3':∀ z,(if z=y then some pd0 else if z=d then some p else τ.q z).isSome=true→z=y∨z=d∨(z≠y∧z≠d∧(τ.q z).isSome=true):=fun z hz=>by
  obtain ⟨q,hq⟩:=Option.isSome_iff_exists.1 hz
  rcases c3 z q hq with h1 | h1 | h1
  ·exact Or.inl h1.1
  ·exact Or.inr (Or.inl h1.1)
  ·exact Or.inr (Or.inr ⟨h1.1,h1.2.1,by rw [h1.2.2];rfl⟩)
 refine ⟨h.df,h.sz,fun j u hj hu=>?_,h.bl,fun z cs hz=>?_,fun z z' hz hz' hn=>?_,h.pt,⟨fun z q hz=>?_,fun z x hz hx=>?_,fun z x hz hx hn b hbb=>?_,fun j u z gg hj hu e=>?_⟩⟩
 ·rw [h.sl j u hj hu]
  obtain ⟨uv,uq,uk,ur⟩:=u
  cases ur with
  | some r=>simp only [SV.at,vsame]
  | none=>cases uq with
   | none=>rfl
   | some q=>cases uk <;> simp only [SV.at,bsame]
 ·rw [bsame];exact h.va z cs hz
 ·rw [bsame,bsame];exact h.ne z z' hz hz' hn
 ·rcases c3 z q hz with ⟨rfl,rfl⟩ | ⟨rfl,rfl⟩ | ⟨h1,h2,h3⟩
  ·simp only [if_neg hyd,if_true]
   exact ⟨trivial,fun b hb=>by cases hb⟩
  ·simp only [if_true]
   refine ⟨hp,fun b hb=>?_⟩
   rcases Bool.or_eq_true _ _ ▸ hb with hb | hb
   ·exact (h.qk.qa _ _ hd).2 b hb
   ·exact (h.qk.qa _ _ hy).2 b hb
  ·simp only [if_neg h1,if_neg h2]
   exact h.qk.qa z q h3
 ·rw [bsame]
  rcases c3' z hz with rfl | rfl | ⟨h1,h2,h3⟩
  ·simp only [if_neg hyd,if_true]
  ·simp only [if_true]
   rw [h.qk.qm _ x hd' hx,h.qk.qm _ x hy' hx];rfl
  ·simp only [if_neg h1,if_neg h2]
   exact h.qk.qm z x h3 hx
 ·rcases c3' z hz with rfl | rfl | ⟨h1,h2,h3⟩
  ·simp only [if_neg hyd,if_true] at hbb
   cases hbb
  ·simp only [if_true] at hbb
   rcases c3' x hx with rfl | rfl | ⟨k1,k2,k3⟩
   ·simp only [if_neg hyd,if_true]
   ·exact absurd rfl hn
   ·simp only [if_neg k1,if_neg k2]
    rcases Bool.or_eq_true _ _ ▸ hbb with hb | hb
    ·exact h.qk.qq _ x hd' k3 (Ne.symm k2) b hb
    ·exact h.qk.qq _ x hy' k3 (Ne.symm k1) b hb
  ·simp only [if_neg h1,if_neg h2] at hbb
   rcases c3' x hx with rfl | rfl | ⟨k1,k2,k3⟩
   ·simp only [if_neg hyd,if_true]
   ·simp only [if_true]
    rw [h.qk.qq z _ h3 hd' h2 b hbb,h.qk.qq z _ h3 hy' h1 b hbb];rfl
   ·simp only [if_neg k1,if_neg k2]
    exact h.qk.qq z x h3 k3 hn b hbb
 ·have h2:=h.qk.qt j u z gg hj hu e
  show (if z=y then some pd0 else if z=d then some p else τ.q z).isSome=true
  by_cases e1:z=y
  ·rw [if_pos e1];rfl
  ·rw [if_neg e1]
   by_cases e2:z=d
   ·rw [if_pos e2];rfl
   ·rw [if_neg e2];exact h2
def Vr (p:Pd) (g:Value→Value) (n:Nat) (l:List Nat):Prop:=∀ v F w,p.p v F w→(rdPd n l).p (g v) F w
theorem rd_more {n:Nat} {l:List Nat} {v:Value} {F G:Nat→Bool} {w:World} (h:(rdPd n l).p v F w) (hFG:∀ b,F b=true→G b=true):(rdPd n l).p v G w:=by
 obtain ⟨z,c,h1,h2,h3,h4,h5⟩:=h
 exact ⟨z,c,h1,h2,h3,h4,fun p hp=>hFG _ (h5 p hp)⟩
def twoG (q1 q2:Pd):Pd:=⟨fun v F w=>∃ g v1 v2,v=.slice (some ⟨g,0,none⟩) 2 2∧F g=true∧w.cell? ⟨g,0,none⟩=some v1∧w.cell? ⟨g,1,none⟩=some v2∧q1.p v1 F w∧q2.p v2 F w,fun {v F w w'} hs hb ⟨g,v1,v2,h1,h2,h3,h4,h5,h6⟩ =>
 ⟨g,v1,v2,h1,h2,by rw [World.cell?_of_block (w:=w) (hb g h2)];exact h3,by rw [World.cell?_of_block (w:=w) (hb g h2)];exact h4,q1.keep hs hb h5,q2.keep hs hb h6⟩⟩
structure Vs (p q:Pd) (g:Value→Value):Prop where
 is:∀ v F w,p.p v F w→q.p (g v) F w∧∃ z m c,g v=.slice z m c
 more:∀ v F G w,q.p v F w→(∀ b,F b=true→G b=true)→q.p v G w
theorem Vr.vs {p:Pd} {g:Value→Value} {n:Nat} {l:List Nat} (h:Vr p g n l):Vs p (rdPd n l) g:=⟨fun v F w hp=>⟨h v F w hp,by obtain ⟨z,c,h1,_⟩:=h v F w hp;exact ⟨z,n,c,h1⟩⟩,fun _ _ _ _ h1 h2=>rd_more h1 h2⟩
section
variable {W:Bs} {n:Nat} {ops:Array Oper} {i:Nat} {o:Oper} {L:Nat→Bool} {xs:List OE} {σ:SS}
theorem u_twoG (u:Up ops i o L) (hg:Gd ops n o (run L 0 xs σ)) (dd:Nat) (hdd:o.dst=some dd) (hn:lookQ (deps o) i 0 ops.toList xs dd (some (σ.q dd))=some none) (e1 e2:Operand) (ho:o.op=.buildSlice 103 2 #[(0,e1),(1,e2)]) {x y:Nat} {g1 g2:Value→Value} (hx:lookO n ops i o xs σ e1=some (.unk x g1)) (hy:lookO n ops i o xs σ e2=some (.unk y g2)) (hxy:Nat.beq x y=false) (hdx:Nat.beq dd x=false) (hdy:Nat.beq dd y=false) {px py:Pd} (hqx:lookQ (deps o) i 0 ops.toList xs x (some (σ.q x))=some (some px)) (hqy:lookQ (deps o) i 0 ops.toList xs y (some (σ.q y))=some (some py)) {q1 q2:Pd} (hv1:Vs px q1 g1) (hv2:Vs py q2 g2):GStep Tryz.prog W n ops o (run L 0 xs σ) ((eB dd (twoG q1 q2) x y).app (run L 0 xs σ)):=by
 refine Step.gd hg fun β a w Q hr=>?_
 have nx:x≠y:=fun e=>by rw [e] at hxy;simp at hxy
 have dx:dd≠x:=fun e=>by rw [e] at hdx;simp at hdx
 have dy:dd≠y:=fun e=>by rw [e] at hdy;simp at hdy
 have ex1:a.eval e1=g1 (β x).v:=hr.eval (u.ev hx)
 have ex2:a.eval e2=g2 (β y).v:=hr.eval (u.ev hy)
 have hpx:=hr.thing (u.q hqx)
 have hpy:=hr.thing (u.q hqy)
 obtain ⟨h1,z1,n1,c1,s1⟩:=hv1.is _ _ _ hpx
 obtain ⟨h2,z2,n2,c2,s2⟩:=hv2.is _ _ _ hpy
 have hsz:(sizeOf 25).run Tryz.prog w=.ok 1 w:=by
  have hi:(Tryz.prog.info? 25).map (·.size)=some 1:=by kernel_rfl
  obtain ⟨t,ht,hs⟩:=Option.map_eq_some_iff.1 hi
  simp [sizeOf,typeInfo,ht,hs]
 have hzv:(zeroValue 25).run Tryz.prog w=.ok (.slice none 0 0) w:=by
  have hi:(Tryz.prog.info? 25).map (·.zero)=some (some (.slice none 0 0)):=by kernel_rfl
  obtain ⟨t,ht,hs⟩:=Option.map_eq_some_iff.1 hi
  simp [zeroValue,typeInfo,ht,hs]
 have hrun:(Instr.buildSlice 103 2 (#[(0,e1),(1,e2)].map fun (i,x)=>(i,a.eval x))).run Tryz.prog w=.ok (.slice (some ⟨w.heap.size,0,none⟩) 2 2) (w.alloc (.cells #[g1 (β x).v,g2 (β y).v] 25)):=by
  unfold Instr.buildSlice
  simp only [Sem.run_bind,run_underlying Tryz.underlying103 w,Result.andThen_ok,hsz]
  rw [if_neg (show ¬ 2*1 > 2 ^ 24 by decide),if_neg (show ¬ 2*1=0 by decide)]
  simp only [Sem.run_bind,hzv,Sem.run_pure,Result.andThen_ok]
  rw [show ((#[(0,e1),(1,e2)]:Array (Nat × Operand)).map fun (i,x)=>(i,a.eval x)).toList=[(0,g1 (β x).v),(1,g2 (β y).v)] by simp [ex1,ex2],s1,s2]
  have hf:Instr.fill (fun i=>some (i*1,1)) ((Array.range (2*1)).map (fun x=>(Value.slice none 0 0).cells[x % (Value.slice none 0 0).cells.size]!)) [(0,.slice z1 n1 c1),(1,.slice z2 n2 c2)]=some #[Value.slice z1 n1 c1,Value.slice z2 n2 c2]:=by kernel_rfl
  rw [hf]
  simp [newRow]
 unfold Oper.wp execOp
 simp only [ho,Sem.run_bind,hrun,Result.andThen_ok,Sem.run_pure]
 have hbl:Below w.heap.size w (w.alloc (.cells #[g1 (β x).v,g2 (β y).v] 25)):=Below.alloc (Below.refl _ w) (Nat.le_refl _) _
 have g0:=hr.gets hbl dd (u.q hn) pd0 (.slice (some ⟨w.heap.size,0,none⟩) 2 2) (fun b=>Nat.beq b w.heap.size) trivial (fun b hb=>by
  rw [Nat.eq_of_beq_eq_true hb]
  exact ⟨Nat.le_refl _,by simp⟩)
 have hq1:((((run L 0 xs σ).obj dd pd0).set (some dd) (.unk dd id))).q x=some px:=by
  show (if x=dd then _ else _)=_
  rw [if_neg (Ne.symm dx)]
  exact u.q hqx
 have hqd:((((run L 0 xs σ).obj dd pd0).set (some dd) (.unk dd id))).q dd=some pd0:=by
  show (if dd=dd then _ else _)=_
  rw [if_pos rfl]
 have g1':=g0.merge dd x dx hqd hq1 pd0 trivial
 have hq2:(if y=x then some pd0 else if y=dd then some pd0 else ((((run L 0 xs σ).obj dd pd0).set (some dd) (.unk dd id))).q y)=some py:=by
  rw [if_neg (Ne.symm nx),if_neg (Ne.symm dy)]
  show (if y=dd then _ else _)=_
  rw [if_neg (Ne.symm dy)]
  exact u.q hqy
 have g2':=g1'.merge dd y dy (pd:=pd0) (by show (if dd=x then _ else if dd=dd then _ else _)=_;rw [if_neg dx,if_pos rfl]) hq2 (twoG q1 q2) (by
  simp only [if_true,if_neg (Ne.symm dy),if_neg (Ne.symm dx),if_neg (Ne.symm nx)]
  refine ⟨w.heap.size,g1 (β x).v,g2 (β y).v,rfl,by simp,by simp,by simp,?_,?_⟩
  ·exact hv1.more _ _ _ _ (q1.keep hbl.size (fun b hb=>hbl.block b ((hr.qk.qa x px (u.q hqx)).2 b hb).2) h1) (fun b hb=>by simp [hb])
  ·exact hv2.more _ _ _ _ (q2.keep hbl.size (fun b hb=>hbl.block b ((hr.qk.qa y py (u.q hqy)).2 b hb).2) h2) (fun b hb=>by simp [hb]))
 show (fun a' w'=>∃ β',Rep W n β' _ a' w') (a.put o.dst (.slice (some ⟨w.heap.size,0,none⟩) 2 2)) (w.alloc (.cells #[g1 (β x).v,g2 (β y).v] 25))
 rw [hdd]
 have e:(eB dd (twoG q1 q2) x y).app (run L 0 xs σ)=⟨(((run L 0 xs σ).obj dd pd0).set (some dd) (.unk dd id)).s,(((run L 0 xs σ).obj dd pd0).set (some dd) (.unk dd id)).m,fun z=>if z=y then some pd0 else if z=dd then some (twoG q1 q2) else if z=x then some pd0 else if z=dd then some pd0 else (((run L 0 xs σ).obj dd pd0).set (some dd) (.unk dd id)).q z⟩:=by
  refine SS.ext (fun j=>rfl) (fun j=>rfl) (fun j=>?_)
  show (if some x=some j then some pd0 else if some y=some j then some pd0 else if j=dd then some _ else (run L 0 xs σ).q j)=(if j=y then some pd0 else if j=dd then some _ else if j=x then some pd0 else if j=dd then some pd0 else if j=dd then _ else _)
  by_cases a1:j=x
  ·subst a1;simp [nx,Ne.symm dx]
  ·by_cases a2:j=y
   ·subst a2;simp
   ·rw [if_neg (fun e=>a1 (Option.some.inj e).symm),if_neg (fun e=>a2 (Option.some.inj e).symm),if_neg a2,if_neg a1]
    by_cases a3:j=dd
    ·simp [a3]
    ·simp [a3]
 rw [e]
 exact ⟨_,g2'⟩
end
end Go.Proofs.YtmigakanbeckpaaGreatDoor
namespace Go.Proofs.YtmigakanbeckpaaGreatDoor
set_option maxRecDepth 100000
open Go.RowKit
section
variable {P:Program} {W:Bs} {n:Nat} {ops:Array Oper} {i:Nat} {o:Oper} {L:Nat→Bool} {xs:List OE} {σ:SS}
end
section
variable {P:Program} {W:Bs} {n:Nat} {ops:Array Oper} {i:Nat} {o:Oper} {σ:SS} {Q:Exit→Act→World→Prop} {rest:List Nat} {a:Act} {w:World}
end
section
variable {W:Bs} {n:Nat} {ops:Array Oper} {i:Nat} {o:Oper} {L:Nat→Bool} {xs:List OE} {σ:SS}
end
end Go.Proofs.YtmigakanbeckpaaGreatDoor
namespace Go.Proofs.YtmigakanbeckpaaGreatDoor
set_option maxRecDepth 100000
open Go.RowKit
theorem ret_tv {P:Program} {w0:World} {n:Nat} {σ:SS} {a:Act} {w:World} {fn:Func} {R:Ending→World→Prop} (h:Rp (Bs.of w0) n σ a w) (d e:Nat) (hres:fn.results=#[.tmp d,.tmp e]) (hd:d<n) (he:e<n) (x:Nat) (g:Value→Value) (hs:σ.s d=some (.unk x g)) {p:Pd} (hx:σ.q x=some p) (v2:Value) (hs2:σ.s e=some (.val v2)) (hR:∀ v F,p.p v F w→(∀ b,F b=true→w0.heap.size≤b∧b<w.heap.size)→R (.returned (.tuple [g v,v2].toArray)) w):bodyPost P fn R .ret a w:=by
 obtain ⟨β,hp⟩:=h
 obtain ⟨h1,h2⟩:=hp.qk.qa x p hx
 refine ⟨hp.df,.tuple [g (β x).v,v2].toArray,?_,hR _ _ h1 (fun b hb=>⟨?_,(h2 b hb).2⟩)⟩
 ·have e1:a.tmps[d]?=some (g (β x).v):=by rw [hp.sl d _ hd hs];rfl
  have e2:a.tmps[e]?=some v2:=by rw [hp.sl e _ he hs2];rfl
  simp [results,hres,e1,e2]
 ·rcases (h2 b hb).1 with h3 | h3
  ·exact h3
  ·cases h3
def tupPd (p:Pd) (t:Value):Pd:=⟨fun v F w=>∃ u,v=.tuple [u,t].toArray∧p.p u F w,fun hs hb ⟨u,h1,h2⟩=>⟨u,h1,p.keep hs hb h2⟩⟩
def fstV:Value→Value
 | .tuple ⟨u :: _⟩=>u
 | v=>v
section
variable {P:Program} {W:Bs} {n:Nat} {ops:Array Oper} {i:Nat} {o:Oper} {L:Nat→Bool} {xs:List OE} {σ:SS}
end
end Go.Proofs.YtmigakanbeckpaaGreatDoor
namespace Go.Proofs.YtmigakanbeckpaaGreatDoor
set_option maxRecDepth 100000
open Go.RowKit
theorem row_src {w:World} {e:TypeId} {size m:Nat} {cs:List Value} {v:Value} {F:Nat→Bool} (h:(rowPd e size m cs).p v F w) (hm:0<m):∃ g c,v=.slice (some ⟨g,0,none⟩) m c∧∀ j u,cs[j]?=some u→w.cell? ((⟨g,0,none⟩:Addr).add j)=some u:=by
 obtain ⟨hl,h0 | ⟨g,cap,cur,hv,_,hg,_,_,hs,ht⟩⟩:=h.1
 ·omega
 ·refine ⟨g,cap,hv,fun j u hj=>?_⟩
  have hlt:j<m*size:=by
   have:=(List.getElem?_eq_some_iff.1 hj).1
   omega
  rw [← ht,List.getElem?_take_of_lt hlt] at hj
  rw [Addr.add_mid,Nat.zero_add]
  simp only [World.cell?,hg]
  simpa using hj
section
variable {P:Program} {W:Bs} {n:Nat} {ops:Array Oper} {i:Nat} {o:Oper} {σ:SS} {Q:Exit→Act→World→Prop} {rest:List Nat} {a:Act} {w:World}
theorem sq_appR {T e:TypeId} {size bytes:Nat} {z:Value} (ht:P.underlying T=some (.slice e)) (hi:(P.info? e).map (fun i=>(i.zero,i.size,i.bytes))=some (some z,size,bytes)) (hzs:z.cells.size=size) (hsz:0<size) (hby:bytes≤1000) (h:Rp W n σ a w) (ho:ops[i]?=some o) (hg:Gd ops n o σ) (dd:Nat) (hdd:o.dst=some dd) (s x:Operand) (hop:o.op=.call { callee:=.builtin .append,args:=#[s,x],argTypes:=#[T,T] }) (y:Nat) (hs:σ.ev n s=some (.unk y id)) {k:Nat} {cs:List Value} (hy:σ.q y=some (rowPd e size k cs)) (hd:dd=y∨σ.q dd=none) {m:Nat} {news:List Value} (hl:news.length=m*size) (h1:∀ u ∈ news,u.oneCell'=true) (hx:∀ β,Rep W n β σ a w→∃ p c,a.eval x=.slice (some p) m c∧∀ j u,news[j]?=some u→w.cell? (p.add j)=some u) (hb:k+m≤1000000) (s':List (Nat × SV)) (hs':AllS σ.s s') (hc:clearOf y s'=true)
  (hk:∀ (a':Act) (w':World),Rp W n (σ.turn s' y dd (rowPd e size (k+m) (cs++news)) (.unk dd id) dd) a' w'→wpOps P ops Q rest a' w'):wpOps P ops Q (i :: rest) a w:=by
 obtain ⟨β,hr⟩:=h
 obtain ⟨i0,hi0,hz⟩:=Option.map_eq_some_iff.1 hi
 simp only [Prod.mk.injEq] at hz
 rw [wpOps_cons]
 refine wpOp_step ho (fun K' hK=>?_)
 rw [if_pos (wanted_of hr hg)]
 obtain ⟨p,c,ex,hcells⟩:=hx β hr
 have hrow:=hr.thing hy
 have es:a.eval s=(β y).v:=hr.eval hs
 have hbb:(k+m)*bytes≤140737488355328:=Nat.le_trans (Nat.mul_le_mul hb hby) (by decide)
 obtain ⟨v',w',hrun,hO,hG,_,hat⟩:=run_append_own_at (P:=P) w 0 T o.type e i0 z size bytes ht hi0 hz.1 hz.2.1 hz.2.2 hzs hsz (β y).v k cs hrow.1 p m c news hl hcells h1 (by unfold maxLen;omega) hbb (Nat.zero_le _)
 unfold Oper.wp execOp
 simp only [hop,resolve,invoke,builtin,Sem.run_bind,Sem.run_pure,Result.andThen_ok,List.map_toArray,List.map_cons,List.map_nil,es,ex,hrun]
 obtain ⟨hp,hF⟩:=row_of hO
 have g:=hr.swap y hy hG.os hG.tape hG.output hG.size (fun k hk hf=>hG.block k hk (fun e=>by
  rw [(hrow.2 k).2 e.symm] at hf
  cases hf)) s' hs' hc dd hd _ v' _ hp (fun b hb=>⟨by
   have hb':v'.ownBlock=some b:=by simpa using hb
   rcases hat with hat | hat
   ·left;exact (hrow.2 b).2 (hat.symm.trans hb')
   ·right;rw [hat] at hb';cases hb';exact Nat.le_refl _,(hF b hb).2⟩) dd (.unk dd id) (Or.inl rfl)
 rw [show ((SV.unk dd id).at fun _=>(⟨0,v',fun b=>decide (v'.ownBlock=some b)⟩:Loc))=v' from rfl] at g
 show K' (a.put o.dst v') w'
 rw [hdd]
 exact hK _ _ (hk _ w' ⟨_,g⟩)
end
end Go.Proofs.YtmigakanbeckpaaGreatDoor
namespace Go.Proofs.YtmigakanbeckpaaGreatDoor
set_option maxRecDepth 100000
open Go.RowKit
def Vc (p:Pd) (m size:Nat) (cs:List Value):Prop:=∀ v F w,p.p v F w→cs.length=m*size∧∃ z c,v=.slice z m c∧(m=0∨∃ g,z=some ⟨g,0,none⟩∧F g=true∧∀ j x,cs[j]?=some x→w.cell? ⟨g,j,none⟩=some x)
theorem vc_row {e:TypeId} {size m:Nat} {cs:List Value}:Vc (rowPd e size m cs) m size cs:=fun v F w hp=>by
 obtain ⟨⟨hl,h0⟩,hF⟩:=hp
 refine ⟨hl,?_⟩
 rcases h0 with ⟨rfl,rfl⟩ | ⟨g,cap,cur,rfl,_,hg,_,_,_,ht⟩
 ·exact ⟨none,0,rfl,Or.inl rfl⟩
 ·refine ⟨_,_,rfl,Or.inr ⟨g,rfl,(hF g).2 rfl,fun j x hj=>?_⟩⟩
  have hlt:j<m*size:=by
   have:=(List.getElem?_eq_some_iff.1 hj).1
   omega
  rw [← ht,List.getElem?_take_of_lt hlt] at hj
  simp only [World.cell?,hg]
  simpa using hj
def rcPd (m size:Nat) (cs:List Value):Pd:=⟨fun v F w=>cs.length=m*size∧∃ z c,v=.slice z m c∧(m=0∨∃ g,z=some ⟨g,0,none⟩∧F g=true∧∀ j x,cs[j]?=some x→w.cell? ⟨g,j,none⟩=some x),fun {v F w w'} _ hb ⟨h1,z,c,h2,h3⟩=>⟨h1,z,c,h2,h3.imp id fun ⟨g,a1,a2,a3⟩=>⟨g,a1,a2,fun j x hj=>by
 rw [World.cell?_of_block (w:=w) (hb g a2)]
 exact a3 j x hj⟩⟩⟩
theorem vc_rc {m size:Nat} {cs:List Value}:Vc (rcPd m size cs) m size cs:=fun _ _ _ h=>h
def elR (k:Nat):Value→Value
 | .slice (some p) _ _=>.pointer (some (p.add k))
 | v=>v
def slR (k m:Nat):Value→Value
 | .slice (some p) _ _=>.slice (some (p.add k)) m m
 | v=>v
theorem cells_get {w:World} {g off k:Nat} {cs vs:List Value} (hc:∀ j x,cs[j]?=some x→w.cell? ⟨g,j,none⟩=some x) (hv:vs=(cs.drop off).take k):w.rangeAt g off vs:=fun j x hj=>by
 subst hv
 have hlt:j<k:=by
  rcases Nat.lt_or_ge j k with h' | h'
  ·exact h'
  ·rw [List.getElem?_eq_none (by rw [List.length_take];omega)] at hj;cases hj
 rw [List.getElem?_take_of_lt hlt,List.getElem?_drop] at hj
 exact hc _ _ hj
theorem vw_slR {p:Pd} {m size:Nat} {cs:List Value} (h:Vc p m size cs) (off k:Nat) (hm:0<m) {l:List Nat} (hl:cells8 l=(cs.drop off).take k) (hlen:l.length=k) (hlt:∀ x ∈ l,x<256):Vw p (slR off k) k l:=fun v F w hp=>by
 obtain ⟨h1,z,c,rfl,h3 | ⟨g,rfl,_,h4⟩⟩:=h v F w hp
 ·omega
 ·have hr:=cells_get (off:=off) (k:=k) h4 hl
  refine ⟨some ⟨g,off,none⟩,k,by simp [slR,Addr.add_mid],Nat.le_refl _,hlen,⟨fun i=>?_,Or.inr ⟨g,off,rfl,⟨fun i hi=>?_⟩⟩⟩⟩
  ·show l.getD i 0<256
   rw [List.getD_eq_getElem?_getD]
   cases hi:l[i]? with
   | none=>decide
   | some x=>exact hlt x (List.mem_of_getElem? hi)
  ·exact hr i _ (cells8_at l i (by omega))
def depsT (ops:List Oper) (o:Oper):List Nat:=deps o++(deps o).flatMap fun k=>match ops[k]? with
 | some o'=>deps o'
 | none=>[]
theorem Up.depsT {ops:Array Oper} {i:Nat} {o:Oper} {L:Nat→Bool} (u:Up ops i o L):∀ k ∈ Proofs.YtmigakanbeckpaaGreatDoor.depsT ops.toList o,L k=true:=fun k hk=>by
 rcases List.mem_append.1 hk with h | h
 ·exact u.deps k h
 ·obtain ⟨j,hj,hk'⟩:=List.mem_flatMap.1 h
  cases ho:ops.toList[j]? with
  | none=>simp only [ho] at hk';cases hk'
  | some o' =>
   simp only [ho] at hk'
   exact u.cl j o' (by simpa using ho) (u.deps j hj) k hk'
theorem Up.qT {ops:Array Oper} {i:Nat} {o:Oper} {L:Nat→Bool} (u:Up ops i o L) {xs:List OE} {σ:SS} {y:Nat} {v:Option Pd} (h:lookQ (Proofs.YtmigakanbeckpaaGreatDoor.depsT ops.toList o) i 0 ops.toList xs y (some (σ.q y))=some v):(run L 0 xs σ).q y=v :=
 lookQ_ok u.depsT u.no ops.toList xs 0 (fun j o' ho hj e he=>u.cl j o' (by simpa using ho) (by simpa using hj) e he) h (fun u hu=>by cases hu;rfl)
section
variable {P:Program} {W:Bs} {n:Nat} {ops:Array Oper} {i:Nat} {o:Oper} {L:Nat→Bool} {xs:List OE} {σ:SS}
theorem u_lenC (u:Up ops i o L) (hg:Gd ops n o (run L 0 xs σ)) (dd:Nat) (hdd:o.dst=some dd) (x:Operand) (t:TypeId) (ho:o.op=.call { callee:=.builtin .len,args:=#[x],argTypes:=#[t] }) {y:Nat} (hx:lookO n ops i o xs σ x=some (.unk y id)) {p:Pd} (hq:lookQ (deps o) i 0 ops.toList xs y (some (σ.q y))=some (some p)) {m size:Nat} {cs:List Value} (hv:Vc p m size cs) {e:TypeId} (hu:P.underlying t=some (.slice e)):GStep P W n ops o (run L 0 xs σ) ((eS dd (.val (.int .i64 (m:Int)))).app (run L 0 xs σ)):=by
 refine u_valQ u hg dd hdd y hq _ fun β a w hr hp=>?_
 have ex:a.eval x=(β y).v:=hr.eval (u.ev hx)
 obtain ⟨_,z,c,hv,_⟩:=hv _ _ _ hp
 unfold execOp
 simp [ho,resolve,invoke,builtin,ex,hv,Builtin.len_,goInt,run_underlying hu]
theorem u_atC (u:Up ops i o L) (hg:Gd ops n o (run L 0 xs σ)) (dd:Nat) (hdd:o.dst=some dd) (t:TypeId) (x ix:Operand) (ho:o.op=.indexAddr t x ix) {y:Nat} (hx:lookO n ops i o xs σ x=some (.unk y id)) {p:Pd} (hq:lookQ (deps o) i 0 ops.toList xs y (some (σ.q y))=some (some p)) {m size:Nat} {cs:List Value} (hv:Vc p m size cs) {e:TypeId} (hu:P.underlying t=some (.slice e)) (hz:(P.info? e).map (·.size)=some size) (k:Nat) {kd:IntKind} (hl:lookO n ops i o xs σ ix=some (.val (.int kd (k:Int)))) (hk:k<m) (off:Nat) (hof:off=k*size):GStep P W n ops o (run L 0 xs σ) ((eS dd (.unk y (elR off))).app (run L 0 xs σ)):=by
 refine u_anyQ u hg dd hdd y hq _ fun β a w hr hp=>?_
 have ex:a.eval x=(β y).v:=hr.eval (u.ev hx)
 have el:a.eval ix=.int kd (k:Int):=hr.eval (u.ev hl)
 obtain ⟨_,z,c,h1,h3 | ⟨g,rfl,_,h4⟩⟩:=hv _ _ _ hp
 ·omega
 subst hof
 cases hq:P.info? e with
 | none=>simp [hq] at hz
 | some t0 =>
  have hs:t0.size=size:=by simpa [hq] using hz
  unfold execOp
  simp [ho,ex,el,h1,elR,Instr.indexAt,asIntOf,run_underlying hu,sizeOf,typeInfo,hq,hs,Addr.add_mid,hk]
theorem u_loadC (u:Up ops i o L) (hg:Gd ops n o (run L 0 xs σ)) (dd:Nat) (hdd:o.dst=some dd) (ty:TypeId) (x:Operand) (ho:o.op=.load ty x) {y off:Nat} (hx:lookO n ops i o xs σ x=some (.unk y (elR off))) {p:Pd} (hq:lookQ (deps o) i 0 ops.toList xs y (some (σ.q y))=some (some p)) {m size:Nat} {cs:List Value} (hv:Vc p m size cs) {d:TypeDesc} (hu:P.underlying ty=some d) (hd:d.isRow=true) {k:Nat} (hz:(P.info? ty).map (·.size)=some k) (hm:0<m) (vs:List Value) (hvs:vs=(cs.drop off).take k) (hvl:vs.length=k):GStep P W n ops o (run L 0 xs σ) ((eS dd (.val (.agg vs.toArray))).app (run L 0 xs σ)):=by
 refine u_valQ u hg dd hdd y hq _ fun β a w hr hp=>?_
 have ex:a.eval x=elR off (β y).v:=hr.eval (u.ev hx)
 obtain ⟨_,z,c,h1,h3 | ⟨g,rfl,_,h4⟩⟩:=hv _ _ _ hp
 ·omega
 have hrg:=cells_get (off:=off) (k:=k) h4 hvs
 unfold execOp
 simp only [ho,ex,h1,elR,Addr.add_mid,Nat.zero_add]
 simp only [Instr.loadAt,Instr.sureAddr,Sem.run_bind,Sem.run_pure,Result.andThen_ok,run_loadVar_mid w g off ty vs d hrg hu hd (by rw [hvl];exact hz)]
theorem u_sliC (u:Up ops i o L) (hg:Gd ops n o (run L 0 xs σ)) (dd:Nat) (hdd:o.dst=some dd) (ty:TypeId) (x:Operand) (ho:o.op=.slice ty x none none none) {y off:Nat} (hx:lookO n ops i o xs σ x=some (.unk y (elR off))) {p:Pd} (hq:lookQ (deps o) i 0 ops.toList xs y (some (σ.q y))=some (some p)) {m size:Nat} {cs:List Value} (hv:Vc p m size cs) {k:Nat} {e:TypeId} (hu:P.underlying ty=some (.array k e)) {z:Nat} (hz:(P.info? e).map (·.size)=some z) (hm:0<m):GStep P W n ops o (run L 0 xs σ) ((eS dd (.unk y (slR off k))).app (run L 0 xs σ)):=by
 refine u_anyQ u hg dd hdd y hq _ fun β a w hr hp=>?_
 have ex:a.eval x=elR off (β y).v:=hr.eval (u.ev hx)
 obtain ⟨_,z,c,h1,h3 | ⟨g,rfl,_,h4⟩⟩:=hv _ _ _ hp
 ·omega
 cases hq:P.info? e with
 | none=>simp [hq] at hz
 | some t =>
  unfold execOp
  simp [ho,ex,h1,elR,slR,Instr.sliceAt,run_underlying hu,Instr.sureAddr,Instr.sliceBounds,sizeOf,typeInfo,hq,Addr.add_mid]
theorem u_lit1 (u:Up ops i o L) (hg:Gd ops n o (run L 0 xs σ)) (dd:Nat) (hdd:o.dst=some dd) (hn:lookQ (deps o) i 0 ops.toList xs dd (some (σ.q dd))=some none) (t:TypeId) (x:Operand) (ho:o.op=.buildSlice t 1 #[(0,x)]) {v:Value} (hx:lookO n ops i o xs σ x=some (.val v)) {e:TypeId} (hu:P.underlying t=some (.slice e)) {size:Nat} {z:Value} (hi:(P.info? e).map (fun i=>(i.zero,i.size))=some (some z,size)) (hsz:0<size) (hsl:size≤1000) (cs:List Value) (hcl:cs.length=size) (hf:Instr.fill (fun i=>some (i*size,size)) ((Array.range (1*size)).map (fun x=>z.cells[x % z.cells.size]!)) [(0,v)]=some cs.toArray):GStep P W n ops o (run L 0 xs σ) ((eQ dd (rowPd e size 1 cs)).app (run L 0 xs σ)):=by
 refine Step.gd hg fun β a w Q hr=>?_
 have ex:a.eval x=v:=hr.eval (u.ev hx)
 obtain ⟨i0,hi0,hzz⟩:=Option.map_eq_some_iff.1 hi
 simp only [Prod.mk.injEq] at hzz
 have hrun:(Instr.buildSlice t 1 #[(0,v)]).run P w=.ok (.slice (some ⟨w.heap.size,0,none⟩) 1 1) (w.alloc (.cells cs.toArray e)):=by
  have hs1:(sizeOf e).run P w=.ok size w:=by simp [sizeOf,typeInfo,hi0,hzz.2]
  have hzv:(zeroValue e).run P w=.ok z w:=by simp [zeroValue,typeInfo,hi0,hzz.1]
  have hle:¬ 1*size > 2 ^ 24:=by omega
  have h0:¬ 1*size=0:=by omega
  unfold Instr.buildSlice
  simp only [Sem.run_bind,run_underlying hu w,Result.andThen_ok,hs1,if_neg hle,if_neg h0,hzv,Sem.run_pure]
  rw [hf]
  simp [newRow]
 unfold Oper.wp execOp
 simp only [ho,Sem.run_bind,List.map_toArray,List.map_cons,List.map_nil,ex,hrun,Result.andThen_ok,Sem.run_pure]
 have hO:(w.alloc (.cells cs.toArray e)).ownsRow w.heap.size e size (.slice (some ⟨w.heap.size,0,none⟩) 1 1) 1 cs:=World.ownsRow_lit w cs.toArray 1 (Nat.le_refl _) (by unfold maxLen;omega) (by simp [hcl])
 obtain ⟨hp1,hF⟩:=row_of hO
 have g:=hr.gets (Below.alloc (Below.refl _ w) (Nat.le_refl _) (.cells cs.toArray e)) dd (u.q hn) _ _ _ hp1 hF
 show (fun a' w'=>∃ β',Rep W n β' _ a' w') (a.put o.dst (.slice (some ⟨w.heap.size,0,none⟩) 1 1)) (w.alloc (.cells cs.toArray e))
 rw [hdd]
 exact ⟨_,g⟩
theorem u_ext0T (u:Up ops i o L) (hg:Gd ops n o (run L 0 xs σ)) (dd:Nat) (hdd:o.dst=some dd) (x:Operand) (ho:o.op=.extract x 0) {y:Nat} (hx:lookO n ops i o xs σ x=some (.unk y id)) {p:Pd} {t:Value} (hq:lookQ (depsT ops.toList o) i 0 ops.toList xs y (some (σ.q y))=some (some (tupPd p t))):GStep P W n ops o (run L 0 xs σ) ((eS dd (.unk y fstV)).app (run L 0 xs σ)):=by
 have e:(eS dd (.unk y fstV)).app (run L 0 xs σ)=(run L 0 xs σ).set o.dst (.unk y fstV):=by rw [hdd];rfl
 rw [e]
 refine Step.gd hg (v_val _ (fun _ _ e=>by cases e) (fun z g' e=>by cases e;rw [u.qT hq];rfl) fun β a w hr=>?_)
 obtain ⟨v,h1,_⟩:=hr.thing (u.qT hq)
 have ex:a.eval x=(β y).v:=hr.eval (u.ev hx)
 unfold execOp
 simp [ho,ex,h1,fstV,Instr.extract,SV.at]
theorem u_ext1T (u:Up ops i o L) (hg:Gd ops n o (run L 0 xs σ)) (dd:Nat) (hdd:o.dst=some dd) (x:Operand) (ho:o.op=.extract x 1) {y:Nat} (hx:lookO n ops i o xs σ x=some (.unk y id)) {p:Pd} {t:Value} (hq:lookQ (depsT ops.toList o) i 0 ops.toList xs y (some (σ.q y))=some (some (tupPd p t))):GStep P W n ops o (run L 0 xs σ) ((eS dd (.val t)).app (run L 0 xs σ)):=by
 refine u_any u hg dd hdd _ (fun _ _ e=>by cases e) fun β a w hr=>?_
 obtain ⟨v,h1,_⟩:=hr.thing (u.qT hq)
 have ex:a.eval x=(β y).v:=hr.eval (u.ev hx)
 unfold execOp
 simp [ho,ex,h1,Instr.extract,SV.at]
end
end Go.Proofs.YtmigakanbeckpaaGreatDoor
namespace Go.Proofs.YtmigakanbeckpaaGreatDoor
set_option maxRecDepth 100000
open Go.RowKit
structure TyE:Type where
 row:Bool
 size:Nat
 zero:Option (List Value)
 flds:List Nat
 arr:Option (Nat × Nat)
def lkT:List (TypeId × TyE)→TypeId→Option TyE
 | [],_=>none
 | q :: r,t=>bif Nat.beq q.1 t then some q.2 else lkT r t
structure TyOk (P:Program) (t:TypeId) (e:TyE):Prop where
 desc:∃ d,P.underlying t=some d∧d.isRow=e.row
 size:(P.info? t).map (·.size)=some e.size
 zero:∀ z,e.zero=some z→∃ v,(P.info? t).map (·.zero)=some (some v)∧z=v.cells.toList
 fld:∀ (i:Nat) (off:Nat),e.flds[i]?=some off→∃ (fs:Array Field) (f:Field) (k:Nat),P.underlying t=some (.struct fs)∧fs[i]?=some f∧f.offset=off∧(P.info? f.type).map (·.size)=some (k+1)
 arr:∀ (len z:Nat),e.arr=some (len,z)→∃ el,P.underlying t=some (.array len el)∧(P.info? el).map (·.size)=some z
def AllT (P:Program):List (TypeId × TyE)→Prop
 | []=>True
 | q :: r=>TyOk P q.1 q.2∧AllT P r
theorem AllT.at {P:Program}:∀ {tt:List (TypeId × TyE)},AllT P tt→∀ {t:TypeId} {e:TyE},lkT tt t=some e→TyOk P t e
 | [],_,_,_,h=>by cases h
 | q :: r,hl,t,e,h=>by
  rw [lkT] at h
  cases hb:Nat.beq q.1 t with
  | true =>
   simp only [hb,cond_true,Option.some.injEq] at h
   rw [← Nat.eq_of_beq_eq_true hb,← h]
   exact hl.1
  | false =>
   simp only [hb,cond_false] at h
   exact AllT.at hl.2 h
section
variable (tt:List (TypeId × TyE)) (lo:Operand→Option SV) (lm:Nat→Option (Option (List Value)))
def aMove (d:Option Nat) (x:Operand):Option OE:=match d,lo x with
 | some d,some ⟨v,none,none,none⟩=>some (eS d (.val v))
 | some d,some ⟨v,some (y,c),k,none⟩=>match lm y with
  | some (some _)=>some (eS d ⟨v,some (y,c),k,none⟩)
  | _=>none
 | _,_=>none
def aLoad (d:Option Nat) (ty:TypeId) (x:Operand):Option OE:=match d,lo x,lkT tt ty with
 | some d,some ⟨.tuple ⟨[]⟩,some (y,off),none,none⟩,some e=>match lm y with
  | some (some cs)=>match e.row with
   | true=>bif Nat.ble (off+e.size) cs.length then some (eS d (.val (.agg ((cs.drop off).take e.size).toArray))) else none
   | false=>match cs[off]? with
    | some v=>some (eS d (.val v))
    | none=>none
  | _=>none
 | _,_,_=>none
def aStore (d:Option Nat) (ty:TypeId) (x z:Operand):Option OE:=match d,lo x,lkT tt ty,lo z with
 | none,some ⟨.tuple ⟨[]⟩,some (y,off),none,none⟩,some e,some ⟨v,none,none,none⟩=>match lm y,e.row,v with
  | some (some cs),true,.agg ⟨vs⟩=>bif Nat.ble (off+vs.length) cs.length && Nat.beq vs.length e.size && vs.all (·.oneCell') then some (eM y (splice cs off vs)) else none
  | some (some cs),false,v=>bif Nat.ble (off+1) cs.length && Nat.beq e.size 1 && v.oneCell' then some (eM y (splice cs off [v])) else none
  | _,_,_=>none
 | _,_,_,_=>none
def aAlloc (d:Option Nat) (ty:TypeId):Option OE:=match d,lkT tt ty with
 | some d,some e=>match lm d,e.zero with
  | some none,some z=>some (eN d z)
  | _,_=>none
 | _,_=>none
def aBox (d:Option Nat) (x:Operand):Option OE:=match d,lo x with
 | some d,some ⟨v,none,none,none⟩=>match lm d with
  | some none=>some (eN d v.cells.toList)
  | _=>none
 | _,_=>none
def aField (d:Option Nat) (ty:TypeId) (x:Operand) (i:Nat):Option OE:=match d,lo x,lkT tt ty with
 | some d,some ⟨.tuple ⟨[]⟩,some (y,off),none,none⟩,some e=>match lm y,e.flds[i]? with
  | some (some _),some o=>some (eS d (.ptr y (off+o)))
  | _,_=>none
 | _,_,_=>none
def aAt (d:Option Nat) (ty:TypeId) (x ix:Operand):Option OE:=match d,lo x,lkT tt ty,lo ix with
 | some d,some ⟨.tuple ⟨[]⟩,some (y,off),none,none⟩,some e,some ⟨.int _ (.ofNat k),none,none,none⟩=>match lm y,e.arr with
  | some (some _),some (len,z)=>bif Nat.blt k len then some (eS d (.ptr y (off+k*z))) else none
  | _,_=>none
 | _,_,_,_=>none
def aPart (d:Option Nat) (x:Operand) (k:Nat):Option OE:=match d,lo x with
 | some d,some ⟨.tuple ⟨vs⟩,none,none,none⟩=>match vs[k]? with
  | some v=>some (eS d (.val v))
  | none=>none
 | _,_=>none
def aPick (d:Option Nat) (c x y:Operand):Option OE:=match d,lo c,lo x,lo y with
 | some d,some ⟨.bool t,none,none,none⟩,some ⟨vx,none,none,none⟩,some ⟨vy,none,none,none⟩=>some (eS d (.val (bif t then vx else vy)))
 | _,_,_,_=>none
def aNot (d:Option Nat) (x:Operand):Option OE:=match d,lo x with
 | some d,some ⟨.bool t,none,none,none⟩=>some (eS d (.val (.bool (!t))))
 | _,_=>none
def aOp (o:Oper):Option OE:=match o.op with
 | .move x=>aMove lo lm o.dst x
 | .assign x=>aMove lo lm o.dst x
 | .load ty x=>aLoad tt lo lm o.dst ty x
 | .store ty x z=>aStore tt lo lm o.dst ty x z
 | .alloc ty=>aAlloc tt lm o.dst ty
 | .box _ x=>aBox lo lm o.dst x
 | .fieldAddr ty x i=>aField tt lo lm o.dst ty x i
 | .indexAddr ty x ix=>aAt tt lo lm o.dst ty x ix
 | .extract x k=>aPart lo o.dst x k
 | .pick c x y=>aPick lo o.dst c x y
 | .unOp .not _ x=>aNot lo o.dst x
 | _=>none
def aGd (n:Nat) (ops:Array Oper) (o:Oper):Option OE:=match o.guard with
 | none=>aOp tt lo lm o
 | some (j,b)=>match (ops[j]?).bind (·.dst) with
  | some d=>bif Nat.blt d n then (match lo (.tmp d),o.dst with
   | some ⟨.bool c,none,none,none⟩,_=>bif c == b then aOp tt lo lm o else (match o.dst with
    | some dd=>some (eS dd (.val undef))
    | none=>none)
   | some ⟨.tuple ⟨[]⟩,none,none,none⟩,some dd=>some (eS dd (.val undef))
   | _,_=>none) else none
  | none=>none
end
section
variable {P:Program} {W:Bs} {n:Nat} {ops:Array Oper} {i:Nat} {o:Oper} {L:Nat→Bool} {xs:List OE} {σ:SS} {tt:List (TypeId × TyE)} {e:OE}
theorem a_move (u:Up ops i o L) (hg:Gd ops n o (run L 0 xs σ)) {x:Operand} (ho:o.op=.move x∨o.op=.assign x) (h:aMove (lookO n ops i o xs σ) (fun y=>lookM (deps o) i 0 ops.toList xs y (some (σ.m y))) o.dst x=some e):GStep P W n ops o (run L 0 xs σ) (e.app (run L 0 xs σ)):=by
 unfold aMove at h
 split at h
 ·rename_i d v hd hx
  cases h
  exact u_move u hg d hd x ho hx
 ·rename_i d v y c k hd hx
  split at h
  ·rename_i cs hm
   cases h
   exact u_copy u hg d hd x ho hx (fun y' c' hp=>by cases hp;exact ⟨cs,hm⟩)
  ·cases h
 ·cases h
theorem a_load (hT:AllT P tt) (u:Up ops i o L) (hg:Gd ops n o (run L 0 xs σ)) {ty:TypeId} {x:Operand} (ho:o.op=.load ty x) (h:aLoad tt (lookO n ops i o xs σ) (fun y=>lookM (deps o) i 0 ops.toList xs y (some (σ.m y))) o.dst ty x=some e):GStep P W n ops o (run L 0 xs σ) (e.app (run L 0 xs σ)):=by
 unfold aLoad at h
 split at h
 ·rename_i d y off t hd hx ht
  obtain ⟨⟨td,hu,hr⟩,hs,_,_,_⟩:=hT.at ht
  split at h
  ·rename_i cs hm
   split at h
   ·rename_i hrow
    rw [hrow] at hr
    cases hb:Nat.ble (off+t.size) cs.length with
    | false=>simp [hb] at h
    | true =>
     simp only [hb,cond_true,Option.some.injEq] at h
     rw [← h]
     exact u_load u hg d hd ty x ho hx hm hu hr hs (Nat.le_of_ble_eq_true hb) _ rfl
   ·rename_i hrow
    rw [hrow] at hr
    split at h
    ·rename_i v hv
     cases h
     exact u_load1 u hg d hd ty x ho hx hm hu hr v hv
    ·cases h
  ·cases h
 ·cases h
theorem a_store (hT:AllT P tt) (u:Up ops i o L) (hg:Gd ops n o (run L 0 xs σ)) {ty:TypeId} {x z:Operand} (ho:o.op=.store ty x z) (h:aStore tt (lookO n ops i o xs σ) (fun y=>lookM (deps o) i 0 ops.toList xs y (some (σ.m y))) o.dst ty x z=some e):GStep P W n ops o (run L 0 xs σ) (e.app (run L 0 xs σ)):=by
 unfold aStore at h
 split at h
 ·rename_i y off t v hd hx ht hz
  obtain ⟨_,hs,_,_,_⟩:=hT.at ht
  split at h
  ·rename_i cs vs hm hrow
   cases hb:(Nat.ble (off+vs.length) cs.length && Nat.beq vs.length t.size && vs.all (·.oneCell')) with
   | false=>simp [hb] at h
   | true =>
    simp only [hb,cond_true,Option.some.injEq] at h
    simp only [Bool.and_eq_true] at hb
    rw [← h]
    exact u_store u hg ty x z ho hd hx (vs:=vs) hz hm (by rw [hs,Nat.eq_of_beq_eq_true hb.1.2]) (Nat.le_of_ble_eq_true hb.1.1) hb.2 _ rfl
  ·rename_i v _ _ _ cs hm hrow
   cases hb:(Nat.ble (off+1) cs.length && Nat.beq t.size 1 && v.oneCell') with
   | false=>simp [hb] at h
   | true =>
    simp only [hb,cond_true,Option.some.injEq] at h
    simp only [Bool.and_eq_true] at hb
    rw [← h]
    exact u_store1 u hg ty x z ho hd hx hz hm (by rw [hs,Nat.eq_of_beq_eq_true hb.1.2]) (Nat.le_of_ble_eq_true hb.1.1) hb.2 _ rfl
  ·cases h
 ·cases h
theorem a_alloc (hT:AllT P tt) (u:Up ops i o L) (hg:Gd ops n o (run L 0 xs σ)) {ty:TypeId} (ho:o.op=.alloc ty) (h:aAlloc tt (fun y=>lookM (deps o) i 0 ops.toList xs y (some (σ.m y))) o.dst ty=some e):GStep P W n ops o (run L 0 xs σ) (e.app (run L 0 xs σ)):=by
 unfold aAlloc at h
 split at h
 ·rename_i d t hd ht
  obtain ⟨_,_,hz,_,_⟩:=hT.at ht
  split at h
  ·rename_i z hm hz0
   cases h
   obtain ⟨v,h1,h2⟩:=hz z hz0
   exact u_alloc u hg ty ho d hd hm h1 _ h2
  ·cases h
 ·cases h
theorem a_box (u:Up ops i o L) (hg:Gd ops n o (run L 0 xs σ)) {ty:TypeId} {x:Operand} (ho:o.op=.box ty x) (h:aBox (lookO n ops i o xs σ) (fun y=>lookM (deps o) i 0 ops.toList xs y (some (σ.m y))) o.dst x=some e):GStep P W n ops o (run L 0 xs σ) (e.app (run L 0 xs σ)):=by
 unfold aBox at h
 split at h
 ·rename_i d v hd hx
  split at h
  ·rename_i hm
   cases h
   exact u_box u hg ty x ho d hd hm hx _ rfl
  ·cases h
 ·cases h
theorem a_field (hT:AllT P tt) (u:Up ops i o L) (hg:Gd ops n o (run L 0 xs σ)) {ty:TypeId} {x:Operand} {f:Nat} (ho:o.op=.fieldAddr ty x f) (h:aField tt (lookO n ops i o xs σ) (fun y=>lookM (deps o) i 0 ops.toList xs y (some (σ.m y))) o.dst ty x f=some e):GStep P W n ops o (run L 0 xs σ) (e.app (run L 0 xs σ)):=by
 unfold aField at h
 split at h
 ·rename_i d y off t hd hx ht
  obtain ⟨_,_,_,hf,_⟩:=hT.at ht
  split at h
  ·rename_i cs k hm hk
   cases h
   obtain ⟨fs,fd,k,h1,h2,h3,h4⟩:=hf f _ hk
   exact u_field u hg d hd ty x f ho hx hm h1 h2 h4 _ (by rw [h3])
  ·cases h
 ·cases h
theorem a_at (hT:AllT P tt) (u:Up ops i o L) (hg:Gd ops n o (run L 0 xs σ)) {ty:TypeId} {x ix:Operand} (ho:o.op=.indexAddr ty x ix) (h:aAt tt (lookO n ops i o xs σ) (fun y=>lookM (deps o) i 0 ops.toList xs y (some (σ.m y))) o.dst ty x ix=some e):GStep P W n ops o (run L 0 xs σ) (e.app (run L 0 xs σ)):=by
 unfold aAt at h
 split at h
 ·rename_i d y off t kd k hd hx ht hi
  obtain ⟨_,_,_,_,ha⟩:=hT.at ht
  split at h
  ·rename_i cs len z hm hk
   cases hb:Nat.blt k len with
   | false=>simp [hb] at h
   | true =>
    simp only [hb,cond_true,Option.some.injEq] at h
    rw [← h]
    obtain ⟨el,h1,h2⟩:=ha len z hk
    exact u_at u hg d hd ty x ix ho hx hm (k:=k) hi h1 h2 (Nat.blt_eq ▸ hb) _ rfl
  ·cases h
 ·cases h
theorem a_part (u:Up ops i o L) (hg:Gd ops n o (run L 0 xs σ)) {x:Operand} {k:Nat} (ho:o.op=.extract x k) (h:aPart (lookO n ops i o xs σ) o.dst x k=some e):GStep P W n ops o (run L 0 xs σ) (e.app (run L 0 xs σ)):=by
 unfold aPart at h
 split at h
 ·rename_i d vs hd hx
  split at h
  ·rename_i v hv
   cases h
   exact u_part u hg d hd x k ho (vs:=vs) hx v hv
  ·cases h
 ·cases h
theorem a_pick (u:Up ops i o L) (hg:Gd ops n o (run L 0 xs σ)) {c x y:Operand} (ho:o.op=.pick c x y) (h:aPick (lookO n ops i o xs σ) o.dst c x y=some e):GStep P W n ops o (run L 0 xs σ) (e.app (run L 0 xs σ)):=by
 unfold aPick at h
 split at h
 ·rename_i d t vx vy hd hc hx hy
  cases h
  exact u_pick u hg d hd c x y ho hc hx hy _ rfl
 ·cases h
theorem a_not (u:Up ops i o L) (hg:Gd ops n o (run L 0 xs σ)) {ty:TypeId} {x:Operand} (ho:o.op=.unOp .not ty x) (h:aNot (lookO n ops i o xs σ) o.dst x=some e):GStep P W n ops o (run L 0 xs σ) (e.app (run L 0 xs σ)):=by
 unfold aNot at h
 split at h
 ·rename_i d t hd hx
  cases h
  exact u_not u hg d hd ty x ho hx _ rfl
 ·cases h
theorem a_op (hT:AllT P tt) (u:Up ops i o L) (hg:Gd ops n o (run L 0 xs σ)) (h:aOp tt (lookO n ops i o xs σ) (fun y=>lookM (deps o) i 0 ops.toList xs y (some (σ.m y))) o=some e):GStep P W n ops o (run L 0 xs σ) (e.app (run L 0 xs σ)):=by
 unfold aOp at h
 split at h
 ·rename_i x ho;exact a_move u hg (Or.inl ho) h
 ·rename_i x ho;exact a_move u hg (Or.inr ho) h
 ·rename_i ty x ho;exact a_load hT u hg ho h
 ·rename_i ty x z ho;exact a_store hT u hg ho h
 ·rename_i ty ho;exact a_alloc hT u hg ho h
 ·rename_i ty x ho;exact a_box u hg ho h
 ·rename_i ty x f ho;exact a_field hT u hg ho h
 ·rename_i ty x ix ho;exact a_at hT u hg ho h
 ·rename_i x k ho;exact a_part u hg ho h
 ·rename_i c x y ho;exact a_pick u hg ho h
 ·rename_i ty x ho;exact a_not u hg ho h
 ·cases h
theorem u_auto (hT:AllT P tt) (u:Up ops i o L) (h:aGd tt (lookO n ops i o xs σ) (fun y=>lookM (deps o) i 0 ops.toList xs y (some (σ.m y))) n ops o=some e):GStep P W n ops o (run L 0 xs σ) (e.app (run L 0 xs σ)):=by
 unfold aGd at h
 split at h
 ·rename_i hgd
  exact a_op hT u (gd0 hgd) h
 ·rename_i j b hgd
  split at h
  ·rename_i d hd
   cases hn:Nat.blt d n with
   | false=>simp [hn] at h
   | true =>
    have hn':d<n:=Nat.blt_eq ▸ hn
    simp only [hn,cond_true] at h
    split at h
    ·rename_i c hc
     cases hb:(c == b) with
     | true =>
      simp only [hb,cond_true] at h
      have e:c=b:=by simpa using hb
      subst e
      exact a_op hT u (gd1 u j c hgd d hd hn' hc) h
     | false =>
      simp only [hb,cond_false] at h
      have e:c=!b:=by cases c <;> cases b <;> simp_all
      subst e
      split at h
      ·rename_i dd hdd
       cases h
       exact u_no u j b hgd d hd hn' hc dd hdd
      ·cases h
    ·rename_i dd hc hdd
     cases h
     exact u_noU u j b hgd d hd hn' hc dd hdd
    ·cases h
  ·cases h
def AllA (P:Program) (W:Bs) (n:Nat) (tt:List (TypeId × TyE)) (ks:List Nat) (ops:Array Oper) (xs:List OE) (σ:SS):Nat→List Oper→List OE→Prop
 | _,[],_=>True
 | _,_ :: _,[]=>False
 | i,o :: os,x :: r=>(match has ks i with
  | false=>aGd tt (lookO n ops i o xs σ) (fun y=>lookM (deps o) i 0 ops.toList xs y (some (σ.m y))) n ops o=some x
  | true=>∀ L,Up ops i o L→GStep P W n ops o (run L 0 xs σ) (x.app (run L 0 xs σ)))∧AllA P W n tt ks ops xs σ (i+1) os r
theorem AllA.st {ks:List Nat} (hT:AllT P tt):∀ {i:Nat} {os:List Oper} {r:List OE},AllA P W n tt ks ops xs σ i os r→AllSt P W n ops xs σ i os r
 | _,[],_,_=>trivial
 | _,_ :: _,[],h=>h
 | i,o :: os,x :: r,h=>by
  refine ⟨fun L u=>?_,AllA.st hT h.2⟩
  have h1:=h.1
  cases ha:has ks i with
  | false=>rw [ha] at h1;exact u_auto hT u h1
  | true=>rw [ha] at h1;exact h1 L u
end
theorem a_region {y:Code} {P:Program} {W:Bs} {n:Nat} {tt:List (TypeId × TyE)} (hT:AllT P tt) {id:Nat} {ops:Array Oper} {b:Bool} {Q:Exit→Act→World→Prop} {σ:SS} {a:Act} {w:World} (h:Rp W n σ a w) (hm:P.follows .mixedOrders=true) (ks:List Nat) (xs:List OE) (hok:orderOk ops xs=true)
  (hstep:AllA P W n tt ks ops xs σ 0 ops.toList xs) (s:List (Nat × SV)) (m:List (Nat × List Value)) (h1:AllS (run (fun _=>true) 0 xs σ).s s) (h2:AllM (run (fun _=>true) 0 xs σ).m m) (h3:aimed m s=true) (hk:∀ a' w',Rp W n (SS.mk' s m) a' w'→y.wp P Q a' w'):(Code.seq (Code.region id ops b) y).wp P Q a w:=go_region h hm xs hok (hstep.st hT) s m h1 h2 h3 hk
theorem a_end {P:Program} {W:Bs} {n:Nat} {tt:List (TypeId × TyE)} (hT:AllT P tt) {id:Nat} {ops:Array Oper} {b:Bool} {Q:Exit→Act→World→Prop} {σ:SS} {a:Act} {w:World} (h:Rp W n σ a w) (hm:P.follows .mixedOrders=true) (ks:List Nat) (xs:List OE) (hok:orderOk ops xs=true)
  (hstep:AllA P W n tt ks ops xs σ 0 ops.toList xs) (s:List (Nat × SV)) (m:List (Nat × List Value)) (h1:AllS (run (fun _=>true) 0 xs σ).s s) (h2:AllM (run (fun _=>true) 0 xs σ).m m) (h3:aimed m s=true) (hk:∀ a' w',Rp W n (SS.mk' s m) a' w'→Q .normal a' w'):(Code.region id ops b).wp P Q a w:=go_end h hm xs hok (hstep.st hT) s m h1 h2 h3 hk
theorem a_regionQ {y:Code} {P:Program} {W:Bs} {n:Nat} {tt:List (TypeId × TyE)} (hT:AllT P tt) {id:Nat} {ops:Array Oper} {b:Bool} {Q:Exit→Act→World→Prop} {σ:SS} {a:Act} {w:World} (h:Rp W n σ a w) (hm:P.follows .mixedOrders=true) (ks:List Nat) (xs:List OE) (hok:orderOk ops xs=true)
  (hstep:AllA P W n tt ks ops xs σ 0 ops.toList xs) (s:List (Nat × SV)) (m:List (Nat × List Value)) (q:List (Nat × Pd)) (h1:AllS (run (fun _=>true) 0 xs σ).s s) (h2:AllM (run (fun _=>true) 0 xs σ).m m) (hq:AllQ (run (fun _=>true) 0 xs σ).q q) (h3:aimQ m q s=true) (hk:∀ a' w',Rp W n (SS.mkQ s m q) a' w'→y.wp P Q a' w'):(Code.seq (Code.region id ops b) y).wp P Q a w:=go_regionQ h hm xs hok (hstep.st hT) s m q h1 h2 hq h3 hk
theorem a_endQ {P:Program} {W:Bs} {n:Nat} {tt:List (TypeId × TyE)} (hT:AllT P tt) {id:Nat} {ops:Array Oper} {b:Bool} {Q:Exit→Act→World→Prop} {σ:SS} {a:Act} {w:World} (h:Rp W n σ a w) (hm:P.follows .mixedOrders=true) (ks:List Nat) (xs:List OE) (hok:orderOk ops xs=true)
  (hstep:AllA P W n tt ks ops xs σ 0 ops.toList xs) (s:List (Nat × SV)) (m:List (Nat × List Value)) (q:List (Nat × Pd)) (h1:AllS (run (fun _=>true) 0 xs σ).s s) (h2:AllM (run (fun _=>true) 0 xs σ).m m) (hq:AllQ (run (fun _=>true) 0 xs σ).q q) (h3:aimQ m q s=true) (hk:∀ a' w',Rp W n (SS.mkQ s m q) a' w'→Q .normal a' w'):(Code.region id ops b).wp P Q a w:=go_endQ h hm xs hok (hstep.st hT) s m q h1 h2 hq h3 hk
end Go.Proofs.YtmigakanbeckpaaGreatDoor
