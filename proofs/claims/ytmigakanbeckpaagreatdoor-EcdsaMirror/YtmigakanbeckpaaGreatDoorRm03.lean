/- Things of bytes, looked at: a row, or bytes that are only read; parts of them; their elements. Walks by states of functions that defer: variables whose blocks are told, what is deferred, how such a function ends. How a function that defers a closure ends; states for a closure that may write what it captured. Things that hold others: lists of bytes, and what is spent on them; a row that is grown. Walks by states where memory is written through a pointer that is handed in: what such calls do, and where they panic; bytes copied into an array of one's own. Answers of two, the first of them a thing: how they are given, and how they are taken apart. Rows of one's own of whatever elements: one that is written out, and append in the text's order. Rows of whatever elements, looked at: how many, one of them, a part of it; a row of one element that is written out. Operations that a state tells by itself: one look for all of them. -/
import Derived.Test.YtmigakanbeckpaaGreatDoorRm02
import Derived.Test.YtmigakanbeckpaaGreatDoorRm01
import Derived.Defers
import Derived.Recover
import Derived.Lib.AppendZerosOnto
import Derived.Lib.Walk
import Derived.Lib.SliceRun
namespace Go.Proofs.YtmigakanbeckpaaGreatDoor
set_option maxRecDepth 100000
open Go.RowKit
def Vw (p:Pd) (g:Value→Value) (n:Nat) (l:List Nat):Prop:=∀ v F w,p.p v F w→∃ z c,g v=.slice z n c∧n≤c∧l.length=n∧BA w z n (fun i=>l.getD i 0)
theorem vw_row {n:Nat} {l:List Nat} (hl:∀ x ∈ l,x<256):Vw (rowPd 5 1 n (cells8 l)) id n l:=fun _ _ _ h=>by
 obtain ⟨z,c,h1,h2,h3,h4⟩:=row_ba h hl
 exact ⟨z,c,h1,h2,h3,h4⟩
def rdPd (n:Nat) (l:List Nat):Pd:=⟨fun v F w=>∃ z c,v=.slice z n c∧n≤c∧l.length=n∧BA w z n (fun i=>l.getD i 0)∧∀ p,z=some p→F p.block=true,fun {v F w w'} _ hb ⟨z,c,h1,h2,h3,h4,h5⟩=>by
 refine ⟨z,c,h1,h2,h3,⟨h4.lt,?_⟩,h5⟩
 rcases h4.at_ with h0 | ⟨b,o,rfl,hr⟩
 ·exact Or.inl h0
 ·exact Or.inr ⟨b,o,rfl,⟨fun i hi=>by rw [World.cell?_of_block (w:=w) (hb b (h5 _ rfl))];exact hr.c i hi⟩⟩⟩
theorem vw_rd {n:Nat} {l:List Nat}:Vw (rdPd n l) id n l:=fun _ _ _ ⟨z,c,h1,h2,h3,h4,_⟩=>⟨z,c,h1,h2,h3,h4⟩
theorem rd_of {P:Program} {F:Nat} {args:Array Value} {w:World} {n:Nat} {l:List Nat} (hl:l.length=n) (h:Calls P F args w fun r w'=>∃ g c,r=.returned (.slice (some ⟨g,0,none⟩) n c)∧n≤c∧w.heap.size≤g∧g<w'.heap.size∧BA w' (some ⟨g,0,none⟩) n (fun i=>l.getD i 0)∧Below w.heap.size w w'):Calls P F args w fun r w'=>∃ v Fp,r=.returned v∧(rdPd n l).p v Fp w'∧(∀ b,Fp b=true→w.heap.size≤b∧b<w'.heap.size)∧Below w.heap.size w w' :=
 Calls.mono h (fun _ _ ⟨g,c,h1,h2,h3,h4,h5,h6⟩=>⟨_,fun b=>Nat.beq b g,h1,⟨_,c,rfl,h2,hl,h5,fun p hp=>by cases hp;exact Nat.beq_refl g⟩,fun b hb=>by
  rw [Nat.eq_of_beq_eq_true hb]
  exact ⟨h3,h4⟩,h6⟩)
section
variable {W:Bs} {n:Nat} {ops:Array Oper} {i:Nat} {o:Oper} {L:Nat→Bool} {xs:List OE} {σ:SS}
theorem q_len (u:Up ops i o L) (hg:Gd ops n o (run L 0 xs σ)) (dd:Nat) (hdd:o.dst=some dd) (x:Operand) (ho:o.op=.call { callee:=.builtin .len,args:=#[x],argTypes:=#[25] }) {y:Nat} {g:Value→Value} (hx:lookO n ops i o xs σ x=some (.unk y g)) {p:Pd} (hq:lookQ (deps o) i 0 ops.toList xs y (some (σ.q y))=some (some p)) {m:Nat} {l:List Nat} (hv:Vw p g m l):GStep Tryz.prog W n ops o (run L 0 xs σ) ((eS dd (.val (.int .i64 (m:Int)))).app (run L 0 xs σ)):=by
 refine u_valQ u hg dd hdd y hq _ fun β a w hr hp=>?_
 have ex:a.eval x=g (β y).v:=hr.eval (u.ev hx)
 obtain ⟨z,c,h1,_⟩:=hv _ _ _ hp
 unfold execOp
 simp [ho,resolve,invoke,builtin,ex,h1,Builtin.len_,goInt,run_underlying Tryz.underlying25]
theorem q_tail (u:Up ops i o L) (hg:Gd ops n o (run L 0 xs σ)) (dd:Nat) (hdd:o.dst=some dd) (x e:Operand) (ho:o.op=.slice 25 x (some e) none none) {y:Nat} {g:Value→Value} (hx:lookO n ops i o xs σ x=some (.unk y g)) {p:Pd} (hq:lookQ (deps o) i 0 ops.toList xs y (some (σ.q y))=some (some p)) {m:Nat} {l:List Nat} (hv:Vw p g m l) (k:Nat) (hl:lookO n ops i o xs σ e=some (.val (.int .i64 (k:Int)))) (hk:k≤m):GStep Tryz.prog W n ops o (run L 0 xs σ) ((eS dd (.unk y (fun v=>tailV k (g v)))).app (run L 0 xs σ)):=by
 refine u_anyQ u hg dd hdd y hq _ fun β a w hr hp=>?_
 have ex:a.eval x=g (β y).v:=hr.eval (u.ev hx)
 have el:a.eval e=.int .i64 (k:Int):=hr.eval (u.ev hl)
 obtain ⟨z,c,h1,_⟩:=hv _ _ _ hp
 unfold execOp
 simp only [ho,Option.map,ex,el,h1,Sem.run_bind,Sem.run_pure,Result.andThen_ok,run_fromS hk w]
 rfl
theorem q_at (u:Up ops i o L) (hg:Gd ops n o (run L 0 xs σ)) (dd:Nat) (hdd:o.dst=some dd) (x ix:Operand) (ho:o.op=.indexAddr 25 x ix) {y:Nat} {g:Value→Value} (hx:lookO n ops i o xs σ x=some (.unk y g)) {p:Pd} (hq:lookQ (deps o) i 0 ops.toList xs y (some (σ.q y))=some (some p)) {m:Nat} {l:List Nat} (hv:Vw p g m l) (k:Nat) {kd:IntKind} (hl:lookO n ops i o xs σ ix=some (.val (.int kd (k:Int)))) (hk:k<m):GStep Tryz.prog W n ops o (run L 0 xs σ) ((eS dd (.unk y (fun v=>elemV k (g v)))).app (run L 0 xs σ)):=by
 refine u_anyQ u hg dd hdd y hq _ fun β a w hr hp=>?_
 have ex:a.eval x=g (β y).v:=hr.eval (u.ev hx)
 have el:a.eval ix=.int kd (k:Int):=hr.eval (u.ev hl)
 obtain ⟨z,c,h1,_,_,h4⟩:=hv _ _ _ hp
 rcases h4.at_ with h0 | ⟨b,q,rfl,hr⟩
 ·omega
 obtain ⟨t,hi,_,hz1,_⟩:=info_parts info8
 unfold execOp
 simp [ho,ex,el,h1,elemV,Instr.indexAt,asIntOf,run_underlying Tryz.underlying25,sizeOf,typeInfo,hi,hz1,Addr.add_mid,hk]
theorem q_load (u:Up ops i o L) (hg:Gd ops n o (run L 0 xs σ)) (dd:Nat) (hdd:o.dst=some dd) (x:Operand) (ho:o.op=.load 5 x) {y k:Nat} {g:Value→Value} (hx:lookO n ops i o xs σ x=some (.unk y (fun v=>elemV k (g v)))) {p:Pd} (hq:lookQ (deps o) i 0 ops.toList xs y (some (σ.q y))=some (some p)) {m:Nat} {l:List Nat} (hv:Vw p g m l) (hk:k<m) (b:Nat) (hb:l.getD k 0=b):GStep Tryz.prog W n ops o (run L 0 xs σ) ((eS dd (.val (.int .u8 ((b:Nat):Int)))).app (run L 0 xs σ)):=by
 refine u_valQ u hg dd hdd y hq _ fun β a w hr hp=>?_
 have ex:a.eval x=elemV k (g (β y).v):=hr.eval (u.ev hx)
 obtain ⟨z,c,h1,_,_,h4⟩:=hv _ _ _ hp
 rcases h4.at_ with h0 | ⟨d,q,rfl,hr⟩
 ·omega
 have hc:w.cell? ⟨d,q+k,none⟩=some (.int .u8 ((b:Nat):Int)):=by
  rw [← hb]
  exact hr.c k hk
 have hagg:(isAgg 5).run Tryz.prog w=.ok false w:=by
  unfold isAgg
  rw [Sem.run_bind,run_underlying Tryz.underlying5 w]
  rfl
 unfold execOp
 simp only [ho,ex,h1,elemV]
 simp [Instr.loadAt,Instr.sureAddr,loadVar,hagg,hc]
end
end Go.Proofs.YtmigakanbeckpaaGreatDoor
namespace Go.Proofs.YtmigakanbeckpaaGreatDoor
set_option maxRecDepth 100000
open Go.RowKit
def varPd (g:Nat) (cs:List Value):Pd:=⟨fun v F w=>v=.pointer (some ⟨g,0,none⟩)∧(∀ b,F b=true ↔ b=g)∧w.rangeAt g 0 cs∧w.there g 0 cs.length,fun {v F w w'} _ hb ⟨h1,h2,h3,h4⟩=>by
 have hs:=hb g ((h2 g).2 rfl)
 refine ⟨h1,h2,fun j v hv=>?_,fun j hj=>?_⟩
 ·rw [World.cell?_of_block (w:=w) (a:=⟨g,0+j,none⟩) hs];exact h3 j v hv
 ·rw [World.cell?_of_block (w:=w) (a:=⟨g,0+j,none⟩) hs,World.frozen?_of_block (w:=w) (a:=⟨g,0+j,none⟩) hs];exact h4 j hj⟩
def fixS (x g:Nat):Option SV→Option SV
 | some ⟨v,some (y,o),none,none⟩=>bif Nat.beq y x then some (.val (.pointer (some ⟨g,o,none⟩))) else some ⟨v,some (y,o),none,none⟩
 | some ⟨v,some (y,o),k,u⟩=>bif Nat.beq y x then none else some ⟨v,some (y,o),k,u⟩
 | s=>s
theorem fixS_at {x g:Nat} {s:Option SV} {v:SV} (h:fixS x g s=some v):(s=some v∧∀ y o,v.p=some (y,o)→y≠x)∨∃ o,v=.val (.pointer (some ⟨g,o,none⟩))∧s=some ⟨(s.getD v).v,some (x,o),none,none⟩:=by
 have nb:∀ {y:Nat},Nat.beq y x=false→y≠x:=fun h e=>by rw [e] at h;simp at h
 match s,h with
 | none,h=>cases h
 | some ⟨sv,none,k,u⟩,h=>cases h;exact Or.inl ⟨rfl,fun _ _ e=>by cases e⟩
 | some ⟨sv,some (y,o),none,none⟩,h =>
  simp only [fixS] at h
  cases hb:Nat.beq y x with
  | true =>
   simp only [hb,cond_true,Option.some.injEq] at h
   subst h
   right
   rw [Nat.eq_of_beq_eq_true hb]
   exact ⟨o,rfl,rfl⟩
  | false =>
   simp only [hb,cond_false,Option.some.injEq] at h
   subst h
   exact Or.inl ⟨rfl,fun _ _ e=>by cases e;exact nb hb⟩
 | some ⟨sv,some (y,o),some k,u⟩,h =>
  simp only [fixS] at h
  cases hb:Nat.beq y x with
  | true=>simp [hb] at h
  | false =>
   simp only [hb,cond_false,Option.some.injEq] at h
   subst h
   exact Or.inl ⟨rfl,fun _ _ e=>by cases e;exact nb hb⟩
 | some ⟨sv,some (y,o),none,some u⟩,h =>
  simp only [fixS] at h
  cases hb:Nat.beq y x with
  | true=>simp [hb] at h
  | false =>
   simp only [hb,cond_false,Option.some.injEq] at h
   subst h
   exact Or.inl ⟨rfl,fun _ _ e=>by cases e;exact nb hb⟩
theorem Rp.fix {W:Bs} {n:Nat} {σ:SS} {a:Act} {w:World} (h:Rp W n σ a w) (x:Nat) {cs:List Value} (hm:σ.m x=some cs) (hq:σ.q x=none):∃ g,Rp W n ⟨fun j=>fixS x g (σ.s j),fun y=>bif Nat.beq y x then none else σ.m y,fun y=>bif Nat.beq y x then some (varPd g cs) else σ.q y⟩ a w:=by
 obtain ⟨β,hr⟩:=h
 obtain ⟨b1,b2,b3,b4⟩:=hr.va x cs hm
 have hmx:(σ.m x).isSome=true:=by rw [hm];rfl
 have ms:∀ y c,(bif Nat.beq y x then none else σ.m y)=some c→y≠x∧σ.m y=some c:=fun y c hy=>by
  cases hb:Nat.beq y x with
  | true=>simp [hb] at hy
  | false =>
   simp only [hb,cond_false] at hy
   exact ⟨fun e=>by rw [e] at hb;simp at hb,hy⟩
 have ms':∀ y,(bif Nat.beq y x then none else σ.m y).isSome=true→y≠x∧(σ.m y).isSome=true:=fun y hy=>by
  obtain ⟨c,hc⟩:=Option.isSome_iff_exists.1 hy
  exact ⟨(ms y c hc).1,by rw [(ms y c hc).2];rfl⟩
 have qs:∀ y q,(bif Nat.beq y x then some (varPd (β x).b cs) else σ.q y)=some q→(y=x∧q=varPd (β x).b cs)∨(y≠x∧σ.q y=some q):=fun y q hy=>by
  cases hb:Nat.beq y x with
  | true =>
   simp only [hb,cond_true,Option.some.injEq] at hy
   exact Or.inl ⟨Nat.eq_of_beq_eq_true hb,hy.symm⟩
  | false =>
   simp only [hb,cond_false] at hy
   exact Or.inr ⟨fun e=>by rw [e] at hb;simp at hb,hy⟩
 have qs':∀ y,(bif Nat.beq y x then some (varPd (β x).b cs) else σ.q y).isSome=true→y=x∨(y≠x∧(σ.q y).isSome=true):=fun y hy=>by
  obtain ⟨c,hc⟩:=Option.isSome_iff_exists.1 hy
  rcases qs y c hc with h1 | ⟨h1,h2⟩
  ·exact Or.inl h1.1
  ·exact Or.inr ⟨h1,by rw [h2];rfl⟩
 refine ⟨(β x).b,fun y=>if y=x then ⟨(β x).b,.pointer (some ⟨(β x).b,0,none⟩),fun b=>Nat.beq b (β x).b⟩ else β y,hr.df,hr.sz,fun j v hj hv=>?_,hr.bl,fun y c hy=>?_,fun y z hy hz hn=>?_,fun j v y o hj hv e=>?_,⟨fun y q hy=>?_,fun y z hy hz=>?_,fun y z hy hz hn b hbb=>?_,fun j v y gg hj hv e=>?_⟩⟩
 ·rcases fixS_at hv with ⟨h1,h2⟩ | ⟨o,h1,h2⟩
  ·rw [hr.sl j v hj h1]
   have hqt:=hr.qk.qt j v
   obtain ⟨vv,vp,vk,vu⟩:=v
   cases vu with
   | some r =>
    have:r.1≠x:=fun e=>by have:=hqt r.1 r.2 hj h1 rfl;rw [e,hq] at this;cases this
    simp only [SV.at,if_neg this]
   | none=>cases vp with
    | none=>rfl
    | some q =>
     have:q.1≠x:=h2 q.1 q.2 rfl
     cases vk <;> simp only [SV.at,if_neg this]
  ·subst h1
   rw [hr.sl j _ hj h2]
   rfl
 ·obtain ⟨h1,h2⟩:=ms y c hy
  simp only [if_neg h1]
  exact hr.va y c h2
 ·obtain ⟨h1,h2⟩:=ms' y hy
  obtain ⟨k1,k2⟩:=ms' z hz
  simp only [if_neg h1,if_neg k1]
  exact hr.ne y z h2 k2 hn
 ·rcases fixS_at hv with ⟨h1,h2⟩ | ⟨o',h1,_⟩
  ·have:=hr.pt j v y o hj h1 e
   show (bif Nat.beq y x then none else σ.m y).isSome=true
   cases hb:Nat.beq y x with
   | true=>exact absurd (Nat.eq_of_beq_eq_true hb) (h2 y o e)
   | false=>exact this
  ·rw [h1] at e;cases e
 ·rcases qs y q hy with ⟨e1,e2⟩ | ⟨h1,h2⟩
  ·subst e1;subst e2
   simp only [if_true]
   exact ⟨⟨rfl,fun b=>⟨fun h=>Nat.eq_of_beq_eq_true h,fun h=>by rw [h];exact Nat.beq_refl _⟩,b3,b4⟩,fun b hb=>by rw [Nat.eq_of_beq_eq_true hb];exact ⟨b1,b2⟩⟩
  ·simp only [if_neg h1]
   exact hr.qk.qa y q h2
 ·obtain ⟨k1,k2⟩:=ms' z hz
  simp only [if_neg k1]
  rcases qs' y hy with e1 | ⟨h1,h2⟩
  ·subst e1
   simp only [if_true]
   have:=hr.ne z y k2 hmx k1
   cases hb:Nat.beq (β z).b (β y).b with
   | false=>rfl
   | true=>exact absurd (Nat.eq_of_beq_eq_true hb) this
  ·simp only [if_neg h1]
   exact hr.qk.qm y z h2 k2
 ·rcases qs' y hy with e1 | ⟨h1,h2⟩
  ·subst e1
   simp only [if_true] at hbb
   have ez:z≠y:=Ne.symm hn
   simp only [if_neg ez]
   rcases qs' z hz with e2 | ⟨_,k2⟩
   ·exact absurd e2 ez
   ·rw [Nat.eq_of_beq_eq_true hbb]
    exact hr.qk.qm z y k2 hmx
  ·simp only [if_neg h1] at hbb
   rcases qs' z hz with e2 | ⟨k1,k2⟩
   ·subst e2
    simp only [if_true]
    cases hb:Nat.beq b (β z).b with
    | false=>rfl
    | true =>
     rw [Nat.eq_of_beq_eq_true hb,hr.qk.qm y z h2 hmx] at hbb
     cases hbb
   ·simp only [if_neg k1]
    exact hr.qk.qq y z h2 k2 hn b hbb
 ·rcases fixS_at hv with ⟨h1,h2⟩ | ⟨o',h1,_⟩
  ·have:=hr.qk.qt j v y gg hj h1 e
   show (bif Nat.beq y x then some (varPd (β x).b cs) else σ.q y).isSome=true
   cases hb:Nat.beq y x with
   | true=>rfl
   | false=>exact this
  ·rw [h1] at e;cases e
def eV (x:Nat) (p:Pd):OE:=⟨none,none,some (x,p),none,none⟩
theorem range_splice {w:World} {g off:Nat} {cs vs:List Value} (b3:w.rangeAt g 0 cs) (b4:w.there g 0 cs.length) (hl:off+vs.length≤cs.length):(w.setCells g off vs).rangeAt g 0 (splice cs off vs)∧(w.setCells g off vs).there g 0 (splice cs off vs).length:=by
 have hth:w.there g off vs.length:=fun j hj=>by
  have:=b4 (off+j) (by omega)
  rw [Nat.zero_add] at this
  exact this
 refine ⟨fun j v hv=>?_,?_⟩
 ·rw [splice_at hl] at hv
  rw [Nat.zero_add]
  by_cases hin:off≤j∧j<off+vs.length
  ·rw [if_pos hin] at hv
   have:=World.rangeAt_setCells_same w g off vs hth (j-off) v hv
   rw [show off+(j-off)=j by omega] at this
   exact this
  ·rw [if_neg hin] at hv
   have h1:w.rangeAt g j [v]:=fun i u hu=>by
    rcases i with _ | i
    ·simp at hu;subst hu
     have:=b3 j v hv
     rw [Nat.zero_add] at this
     exact this
    ·simp at hu
   exact World.rangeAt_setCells_apart h1 g off vs (by simp;omega) 0 v rfl
 ·rw [splice_len hl]
  exact World.there_setCells b4 _ _ _
theorem setCells_frame (g:Nat):∀ (vs:List Value) (o:Nat) (w:World),(w.setCells g o vs).heap.size=w.heap.size∧(w.setCells g o vs).os=w.os∧(w.setCells g o vs).tape=w.tape∧(w.setCells g o vs).output=w.output∧∀ k,k≠g→(w.setCells g o vs).heap[k]?=w.heap[k]?:=by
 intro vs
 induction vs with
 | nil=>intro o w;exact ⟨rfl,rfl,rfl,rfl,fun _ _=>rfl⟩
 | cons v r ih =>
  intro o w
  rw [World.setCells]
  obtain ⟨h1,h2,h3,h4,h5⟩:=ih (o+1) (w.setCell ⟨g,o,none⟩ v)
  exact ⟨by rw [h1];simp [World.setCell],h2,h3,h4,fun k hk=>(h5 k hk).trans (Below.heap_setCell w _ v k hk)⟩
section
variable {P:Program} {W:Bs} {n:Nat} {ops:Array Oper} {i:Nat} {o:Oper} {L:Nat→Bool} {xs:List OE} {σ:SS}
theorem u_func (u:Up ops i o L) (hg:Gd ops n o (run L 0 xs σ)) (dd:Nat) (hdd:o.dst=some dd) (f:Fn) (cap:Array Operand) (ho:o.op=.makeFunc f #[] cap) (vs:List Value) (hx:cap.toList.map (lookO n ops i o xs σ)=vs.map (fun v=>some (.val v))):GStep P W n ops o (run L 0 xs σ) ((eS dd (.val (.func f #[] vs.toArray))).app (run L 0 xs σ)):=by
 refine u_any u hg dd hdd _ (fun _ _ e=>by cases e) fun β a w hr=>?_
 have h1:=u.list cap.toList vs hx
 have key:∀ (l:List Operand) (vs:List Value),l.map ((run L 0 xs σ).ev n)=vs.map (fun v=>some (SV.val v))→l.map a.eval=vs:=by
  intro l
  induction l with
  | nil=>intro vs h;cases vs with
   | nil=>rfl
   | cons v vs=>simp at h
  | cons x l ih=>intro vs h;cases vs with
   | nil=>simp at h
   | cons v vs =>
    simp only [List.map_cons,List.cons.injEq] at h ⊢
    exact ⟨hr.eval h.1,ih vs h.2⟩
 have hxs:cap.map a.eval=vs.toArray:=Array.toList_inj.1 (by rw [Array.toList_map];exact key cap.toList vs h1)
 unfold execOp
 simp [ho,Instr.makeFunc,hxs,SV.at]
theorem u_loadF (u:Up ops i o L) (hg:Gd ops n o (run L 0 xs σ)) (dd:Nat) (hdd:o.dst=some dd) (ty:TypeId) (x:Operand) (ho:o.op=.load ty x) {g off:Nat} (hx:lookO n ops i o xs σ x=some (.val (.pointer (some ⟨g,off,none⟩)))) (y:Nat) {cs:List Value} (hq:lookQ (deps o) i 0 ops.toList xs y (some (σ.q y))=some (some (varPd g cs))) {d:TypeDesc} (hu:P.underlying ty=some d) (hd:d.isRow=true) {k:Nat} (hi:(P.info? ty).map (·.size)=some k) (hk:off+k≤cs.length) (vs:List Value) (hv:vs=(cs.drop off).take k):GStep P W n ops o (run L 0 xs σ) ((eS dd (.val (.agg vs.toArray))).app (run L 0 xs σ)):=by
 refine u_valQ u hg dd hdd y hq _ fun β a w hr hp=>?_
 obtain ⟨_,_,h3,_⟩:=hp
 have ex:a.eval x=.pointer (some ⟨g,off,none⟩):=hr.eval (u.ev hx)
 have hc:w.rangeAt g off vs:=fun j v hj=>by
  rw [hv] at hj
  have hj2:j<k:=by
   have:=(List.getElem?_eq_some_iff.1 hj).1
   simp at this;omega
  have:=h3 (off+j) v (by rw [List.getElem?_take_of_lt hj2,List.getElem?_drop] at hj;exact hj)
  rw [Nat.zero_add] at this
  exact this
 have hl:vs.length=k:=by rw [hv];simp;omega
 unfold execOp
 simp only [ho,ex,Instr.loadAt,Instr.sureAddr,Sem.run_bind,Sem.run_pure,Result.andThen_ok,run_loadVar_mid w g off ty vs d hc hu hd (by rw [hl];exact hi)]
theorem u_storeF (u:Up ops i o L) (hg:Gd ops n o (run L 0 xs σ)) (ty:TypeId) (x z:Operand) (ho:o.op=.store ty x z) (hd:o.dst=none) {g off:Nat} (hx:lookO n ops i o xs σ x=some (.val (.pointer (some ⟨g,off,none⟩)))) (y:Nat) {cs:List Value} (hq:lookQ (deps o) i 0 ops.toList xs y (some (σ.q y))=some (some (varPd g cs))) {vs:List Value} (hz:lookO n ops i o xs σ z=some (.val (.agg vs.toArray))) (hi:(P.info? ty).map (·.size)=some vs.length) (hl:off+vs.length≤cs.length) (h1:vs.all (·.oneCell')=true) (cs':List Value) (hc:cs'=splice cs off vs):GStep P W n ops o (run L 0 xs σ) ((eV y (varPd g cs')).app (run L 0 xs σ)):=by
 subst hc
 refine Step.gd hg fun β a w Q hr=>?_
 have hq0:=u.q hq
 obtain ⟨p1,p2,p3,p4⟩:=hr.thing hq0
 have hth:w.there g off vs.length:=fun j hj=>by
  have:=p4 (off+j) (by omega)
  rw [Nat.zero_add] at this
  exact this
 refine wp_store_mid ty x z ho g off vs.toArray (by rw [hr.eval (u.ev hx)];rfl) (by rw [hr.eval (u.ev hz)];rfl) (by simpa using hth) (by simpa using hi) (by simpa using h1) ?_
 rw [hd]
 obtain ⟨f1,f2,f3,f4,f5⟩:=setCells_frame g vs off w
 have hs:=range_splice p3 p4 hl
 have hF:=(hr.qk.qa y _ hq0).2
 exact ⟨_,hr.turned y hq0 (varPd g (splice cs off vs)) (β y).F ⟨p1,p2,hs.1,hs.2⟩ (fun b hb=>⟨Or.inl hb,by rw [f1];exact (hF b hb).2⟩) f2 f3 f4 (by rw [f1];exact Nat.le_refl _) (fun k _ hk=>f5 k (fun e=>by rw [(p2 k).2 e] at hk;cases hk))⟩
theorem u_storeF1 (u:Up ops i o L) (hg:Gd ops n o (run L 0 xs σ)) (ty:TypeId) (x z:Operand) (ho:o.op=.store ty x z) (hd:o.dst=none) {g off:Nat} (hx:lookO n ops i o xs σ x=some (.val (.pointer (some ⟨g,off,none⟩)))) (y:Nat) {cs:List Value} (hq:lookQ (deps o) i 0 ops.toList xs y (some (σ.q y))=some (some (varPd g cs))) {v:Value} (hz:lookO n ops i o xs σ z=some (.val v)) (hi:(P.info? ty).map (·.size)=some 1) (hl:off<cs.length) (h1:v.oneCell'=true) (cs':List Value) (hc:cs'=splice cs off [v]):GStep P W n ops o (run L 0 xs σ) ((eV y (varPd g cs')).app (run L 0 xs σ)):=by
 subst hc
 refine Step.gd hg fun β a w Q hr=>?_
 have hq0:=u.q hq
 obtain ⟨p1,p2,p3,p4⟩:=hr.thing hq0
 have hth:=p4 off hl
 rw [Nat.zero_add] at hth
 have hcell:v.cells=#[v]:=by cases v <;> first | rfl | cases h1
 have ex:a.eval x=.pointer (some ⟨g,off,none⟩):=hr.eval (u.ev hx)
 have ez:a.eval z=v:=hr.eval (u.ev hz)
 cases hq:P.info? ty with
 | none=>simp [hq] at hi
 | some i =>
  have hs:i.size=1:=by simpa [hq] using hi
  have hst:(storeVar ty ⟨g,off,none⟩ v).run P w=.ok () (w.setCell ⟨g,off,none⟩ v):=by
   have:=run_storeCells_cells (P:=P) g off [v] 0 w (fun j hj=>by have e:j=0:=(by simpa using hj);rw [e];exact hth.1) (fun j hj=>by have e:j=0:=(by simpa using hj);rw [e];exact hth.2) (fun u hu=>by simp at hu;rw [hu];exact h1)
   simp only [Nat.add_zero] at this
   simp [storeVar,sizeOf,typeInfo,hq,hcell,hs]
   rw [this]
   rfl
  unfold Oper.wp execOp
  simp only [ho,ex,ez,Instr.storeAt,Instr.sureAddr,Sem.run_bind,Sem.run_pure,Result.andThen_ok,hst,Oper.upon_skip,hd]
  obtain ⟨f1,f2,f3,f4,f5⟩:=setCells_frame g [v] off w
  have hs:=range_splice (vs:=[v]) p3 p4 hl
  have hF:=(hr.qk.qa y _ hq0).2
  exact ⟨_,hr.turned y hq0 (varPd g (splice cs off [v])) (β y).F ⟨p1,p2,hs.1,hs.2⟩ (fun b hb=>⟨Or.inl hb,by have:=(hF b hb).2;rw [← f1] at this;exact this⟩) f2 f3 f4 (Nat.le_of_eq f1.symm) (fun k _ hk=>f5 k (fun e=>by rw [(p2 k).2 e] at hk;cases hk))⟩
end
theorem enterD {P:Program} {f:FuncId} {fn:Func} {c:Code} {args:List Value} {w:World} {R:Ending→World→Prop} (hf:P.funcs[f]?=some fn) (hb:fn.body=some c) (n:Nat) (hn:fn.ntmps=n) (hl:args.length≤n)
  (h:∀ a,Rp (Bs.of w) n (SS.init args) a w→c.wp P (bodyPostD P fn R) a w):Calls P f args.toArray w R:=by
 refine calls_of_wp_defers hf hb (h _ ⟨fun _=>⟨0,undef,fun _=>false⟩,rfl,?_,?_,Kp.refl _ _,fun x cs hx=>(by cases hx),fun x y hx=>(by cases hx),fun j v x o _ hv e=>(by cases hv;cases e),⟨fun x p hx=>(by cases hx),fun x y hx=>(by cases hx),fun x y hx=>(by cases hx),fun j v x g _ hv e=>(by cases hv;cases e)⟩⟩)
 ·simp [hn];omega
 ·intro j v hj hv
  cases hv
  simp only [SV.at]
  by_cases h1:j<args.length
  ·rw [Array.getElem?_append_left (by simpa using h1)]
   simp [h1]
  ·rw [Array.getElem?_append_right (by simpa using h1)]
   have h2:(Array.replicate (fn.ntmps-args.toArray.size) undef)[j-args.toArray.size]?=some undef:=by
    rw [Array.getElem?_replicate,if_pos (by simp [hn];omega)]
   rw [h2,List.getD_eq_getElem?_getD,List.getElem?_eq_none (Nat.le_of_not_lt h1)]
   rfl
section
variable {P:Program} {W:Bs} {n:Nat} {ops:Array Oper} {i:Nat} {o:Oper} {σ:SS} {Q:Exit→Act→World→Prop} {rest:List Nat} {a:Act} {w:World}
theorem sq_defer (h:Rp W n σ a w) (ho:ops[i]?=some o) (hg:Gd ops n o σ) (x:Operand) (ts:Array TypeId) (hop:o.op=.defer { callee:=.value x,args:=#[],argTypes:=ts }) (hd:o.dst=none) {f:Fn} {cap:List Value} (hx:σ.ev n x=some (.val (.func f #[] cap.toArray)))
  (hk:∀ (a':Act),Rp ⟨W.w,W.X,{ target:=.fn f cap.toArray,args:=#[] } :: W.D⟩ n σ a' w→wpOps P ops Q rest a' w):wpOps P ops Q (i :: rest) a w:=by
 obtain ⟨β,hr⟩:=h
 rw [wpOps_cons]
 refine wpOp_step ho (fun K' hK=>?_)
 rw [if_pos (wanted_of hr hg)]
 have ex:a.eval x=.func f #[] cap.toArray:=hr.eval hx
 unfold Oper.wp execOp
 simp only [hop,resolve,ex,Deferred.ofValue,Sem.run_bind,Sem.run_pure,Result.andThen_ok]
 show K' (({ a with defers:={ target:=.fn f cap.toArray,args:=#[]++#[].map a.eval } :: a.defers }:Act).put o.dst undef) w
 rw [hd]
 refine hK _ _ (hk _ ⟨β,?_,hr.sz,hr.sl,hr.bl,hr.va,hr.ne,hr.pt,⟨hr.qk.qa,hr.qk.qm,hr.qk.qq,hr.qk.qt⟩⟩)
 show { target:=.fn f cap.toArray,args:=#[]++#[].map a.eval } :: a.defers=_
 rw [hr.df]
 simp
end
end Go.Proofs.YtmigakanbeckpaaGreatDoor
namespace Go.Proofs.YtmigakanbeckpaaGreatDoor
set_option maxRecDepth 100000
open Go.RowKit
theorem Bs.kp_d {w w':World} {D:List Deferred} (h:Bs.kp ⟨(Bs.of w).w,(Bs.of w).X,D⟩ w'):Below w.heap.size w w':=Kp.below h
theorem Rp.gift {W:Bs} {n:Nat} {σ:SS} {a:Act} {w:World} (h:Rp W n σ a w) (x g:Nat) (cs:List Value) (hq:σ.q x=none) (hm:∀ y,σ.m y=none) (hX:W.X g=true) (hlt:g<w.heap.size) (h3:w.rangeAt g 0 cs) (h4:w.there g 0 cs.length) (hne:∀ y p,σ.q y=some p→∀ v F w',p.p v F w'→F g=false):Rp W n ⟨σ.s,σ.m,fun y=>bif Nat.beq y x then some (varPd g cs) else σ.q y⟩ a w:=by
 obtain ⟨β,hr⟩:=h
 have g0:=hr.other (β':=fun y=>if y=x then ⟨(β x).b,.pointer (some ⟨g,0,none⟩),fun b=>Nat.beq b g⟩ else β y) (fun y hy=>by rw [hm y] at hy;cases hy) (fun y hy=>by
  have:y≠x:=fun e=>by rw [e,hq] at hy;cases hy
  simp [this])
 have qs:∀ y q,(bif Nat.beq y x then some (varPd g cs) else σ.q y)=some q→(y=x∧q=varPd g cs)∨(y≠x∧σ.q y=some q):=fun y q hy=>by
  cases hb:Nat.beq y x with
  | true =>
   simp only [hb,cond_true,Option.some.injEq] at hy
   exact Or.inl ⟨Nat.eq_of_beq_eq_true hb,hy.symm⟩
  | false =>
   simp only [hb,cond_false] at hy
   exact Or.inr ⟨fun e=>by rw [e] at hb;simp at hb,hy⟩
 refine ⟨fun y=>if y=x then ⟨(β x).b,.pointer (some ⟨g,0,none⟩),fun b=>Nat.beq b g⟩ else β y,g0.df,g0.sz,g0.sl,g0.bl,g0.va,g0.ne,g0.pt,⟨fun y q hy=>?_,fun y z hy hz=>?_,fun y z hy hz hn b hbb=>?_,fun j v y gg hj hv e=>?_⟩⟩
 ·rcases qs y q hy with ⟨e1,e2⟩ | ⟨h1,h2⟩
  ·subst e1;subst e2
   simp only [if_true]
   exact ⟨⟨rfl,fun b=>⟨fun h=>Nat.eq_of_beq_eq_true h,fun h=>by rw [h];exact Nat.beq_refl _⟩,h3,h4⟩,fun b hb=>by rw [Nat.eq_of_beq_eq_true hb];exact ⟨Or.inr hX,hlt⟩⟩
  ·exact g0.qk.qa y q h2
 ·have hz:(σ.m z).isSome=true:=hz
  rw [hm z] at hz
  cases hz
 ·obtain ⟨qy,hqy⟩:=Option.isSome_iff_exists.1 hy
  obtain ⟨qz,hqz⟩:=Option.isSome_iff_exists.1 hz
  rcases qs y qy hqy with ⟨e1,_⟩ | ⟨h1,h2⟩
  ·subst e1
   simp only [if_true] at hbb
   have ez:z≠y:=Ne.symm hn
   rcases qs z qz hqz with ⟨e2,_⟩ | ⟨_,k2⟩
   ·exact absurd e2 ez
   ·simp only [if_neg ez]
    rw [Nat.eq_of_beq_eq_true hbb]
    exact hne z qz k2 _ _ _ (hr.qk.qa z qz k2).1
  ·simp only [if_neg h1] at hbb
   rcases qs z qz hqz with ⟨e2,_⟩ | ⟨k1,k2⟩
   ·subst e2
    simp only [if_true]
    cases hb:Nat.beq b g with
    | false=>rfl
    | true =>
     rw [Nat.eq_of_beq_eq_true hb,hne y qy h2 _ _ _ (hr.qk.qa y qy h2).1] at hbb
     cases hbb
   ·simp only [if_neg k1]
    exact hr.qk.qq y z (by rw [h2];rfl) (by rw [k2];rfl) hn b hbb
 ·have:=g0.qk.qt j v y gg hj hv e
  show (bif Nat.beq y x then some (varPd g cs) else σ.q y).isSome=true
  cases hb:Nat.beq y x with
  | true=>rfl
  | false=>exact this
theorem Rp.told {W:Bs} {n:Nat} {σ:SS} {a:Act} {w:World} (h:Rp W n σ a w) {x g:Nat} {cs:List Value} (hq:σ.q x=some (varPd g cs)):w.rangeAt g 0 cs∧w.there g 0 cs.length∧(W.w.heap.size≤g∨W.X g=true)∧g<w.heap.size:=by
 obtain ⟨β,hr⟩:=h
 obtain ⟨⟨_,p2,p3,p4⟩,hF⟩:=hr.qk.qa x _ hq
 have:=hF g ((p2 g).2 rfl)
 exact ⟨p3,p4,this.1,this.2⟩
theorem Rp.slot {W:Bs} {n:Nat} {σ:SS} {a:Act} {w:World} (h:Rp W n σ a w) {d:Nat} (hd:d<n) {v:Value} (hs:σ.s d=some (.val v)):a.tmps[d]?=some v:=by
 obtain ⟨β,hr⟩:=h
 exact hr.sl d _ hd hs
theorem Rp.defers {W:Bs} {n:Nat} {σ:SS} {a:Act} {w:World} (h:Rp W n σ a w):a.defers=W.D:=by
 obtain ⟨β,hr⟩:=h
 exact hr.df
section
variable {P:Program} {W:Bs} {n:Nat} {σ:SS} {a:Act} {w:World} {fn:Func} {R:Ending→World→Prop} {F:Nat} {cap:List Value}
theorem leave_ret (h:Rp W n σ a w) (hD:W.D=[{ target:=.fn (.func F) cap.toArray,args:=#[] }]) (hE:∀ w,(callFunc F cap.toArray).run P w=.ok (.enter F cap.toArray) w) (hC:CallsD P F cap.toArray .returning w fun e u' w'=>e=.returned (.tuple #[])∧u'=.returning∧w'=w) {v:Value} (hv:(results fn a.tmps).run P w=.ok v w) (hR:R (.returned v) w):bodyPostD P fn R .ret a w:=by
 show Leaves P fn a.tmps R a.defers .returning w
 rw [h.defers,hD]
 refine leaves_cons (f:=F) (args:=cap.toArray) (by simp) (by simp only [invoke];rw [show (#[]++cap.toArray:Array Value)=cap.toArray by simp];exact hE w) ?_
 refine hC.mono ?_
 rintro e u' w' ⟨rfl,rfl,rfl⟩
 exact ⟨v,hv,hR⟩
end
theorem res_three {P:Program} {fn:Func} {tmps:Array Value} {w:World} {d1 d2 d3:Nat} {t1 t3:TypeId} (hres:fn.results=#[.cell d1 t1,.cell d2 t1,.cell d3 t3]) {g1 g2 g3:Nat} (h1:tmps[d1]?=some (.pointer (some ⟨g1,0,none⟩))) (h2:tmps[d2]?=some (.pointer (some ⟨g2,0,none⟩))) (h3:tmps[d3]?=some (.pointer (some ⟨g3,0,none⟩))) {c1 c2:List Value} {v:Value} (r1:w.rangeAt g1 0 c1) (r2:w.rangeAt g2 0 c2) (r3:w.rangeAt g3 0 [v]) {td td3:TypeDesc} (hu:P.underlying t1=some td) (hr:td.isRow=true) (hi:(P.info? t1).map (·.size)=some c1.length) (hi2:c2.length=c1.length) (hu3:P.underlying t3=some td3) (hr3:td3.isRow=false):(results fn tmps).run P w=.ok (.tuple [.agg c1.toArray,.agg c2.toArray,v].toArray) w:=by
 have l1:=run_loadVar_mid (P:=P) w g1 0 t1 c1 td r1 hu hr hi
 have l2:=run_loadVar_mid (P:=P) w g2 0 t1 c2 td r2 hu hr (by rw [hi2];exact hi)
 have hagg:(isAgg t3).run P w=.ok false w:=by
  unfold isAgg
  rw [Sem.run_bind,run_underlying hu3 w]
  cases td3 <;> simp_all
 have l3:(loadVar t3 ⟨g3,0,none⟩).run P w=.ok v w:=by
  have hc:w.cell? ⟨g3,0,none⟩=some v:=r3 0 v rfl
  simp [loadVar,hagg,hc]
 simp [results,hres,asAddr,h1,h2,h3,l1,l2,l3]
end Go.Proofs.YtmigakanbeckpaaGreatDoor
namespace Go.Proofs.YtmigakanbeckpaaGreatDoor
set_option maxRecDepth 100000
open Go.RowKit
theorem Rep.merge {W:Bs} {n:Nat} {β:Nat→Loc} {τ:SS} {a:Act} {w:World} (h:Rep W n β τ a w) (d y:Nat) (hdy:d≠y) {pd py:Pd} (hd:τ.q d=some pd) (hy:τ.q y=some py) (p:Pd) (hp:p.p (β d).v (fun b=>(β d).F b || (β y).F b) w):Rep W n (fun z=>if z=d then ⟨(β d).b,(β d).v,fun b=>(β d).F b || (β y).F b⟩ else if z=y then ⟨(β y).b,(β y).v,fun _=>false⟩ else β z) ⟨τ.s,τ.m,fun z=>if z=y then some pd0 else if z=d then some p else τ.q z⟩ a w:=by
 have hyd:y≠d:=Ne.symm hdy
 have hd':(τ.q d).isSome=true:=by rw [hd];rfl
 have hy':(τ.q y).isSome=true:=by rw [hy];rfl
 have bsame:∀ z,(if z=d then (⟨(β d).b,(β d).v,fun b=>(β d).F b || (β y).F b⟩:Loc) else if z=y then ⟨(β y).b,(β y).v,fun _=>false⟩ else β z).b=(β z).b:=fun z=>by
  by_cases e:z=d
  ·subst e;simp
  ·by_cases e2:z=y
   ·subst e2;simp [e]
   ·simp [e,e2]
 have vsame:∀ z,(if z=d then (⟨(β d).b,(β d).v,fun b=>(β d).F b || (β y).F b⟩:Loc) else if z=y then ⟨(β y).b,(β y).v,fun _=>false⟩ else β z).v=(β z).v:=fun z=>by
  by_cases e:z=d
  ·subst e;simp
  ·by_cases e2:z=y
   ·subst e2;simp [e]
   ·simp [e,e2]
 have c3:∀ z q,(if z=y then some pd0 else if z=d then some p else τ.q z)=some q→(z=y∧q=pd0)∨(z=d∧q=p)∨(z≠y∧z≠d∧τ.q z=some q):=fun z q hz=>by
  by_cases e:z=y
  ·rw [if_pos e] at hz;cases hz;exact Or.inl ⟨e,rfl⟩
  ·rw [if_neg e] at hz
   by_cases e2:z=d
   ·rw [if_pos e2] at hz;cases hz;exact Or.inr (Or.inl ⟨e2,rfl⟩)
   ·rw [if_neg e2] at hz;exact Or.inr (Or.inr ⟨e,e2,hz⟩)
 have c3':∀ z,(if z=y then some pd0 else if z=d then some p else τ.q z).isSome=true→z=y∨z=d∨(z≠y∧z≠d∧(τ.q z).isSome=true):=fun z hz=>by
  obtain ⟨q,hq⟩:=Option.isSome_iff_exists.1 hz
  rcases c3 z q hq with h1 | h1 | h1
  ·exact Or.inl h1.1
  ·exact Or.inr (Or.inl h1.1)
  ·exact Or.inr (Or.inr ⟨h1.1,h1.2.1,by rw [h1.2.2];rfl⟩)
 refine ⟨h.df,h.sz,fun j u hj hu=>?_,h.bl,fun z cs hz=>?_,fun z z' hz hz' hn=>?_,h.pt,⟨fun z q hz=>?_,fun z x hz hx=>?_,fun z x hz hx hn b hbb=>?_,fun j u z gg hj hu e=>?_⟩⟩
 ·rw [h.sl j u hj hu]
  obtain ⟨uv,uq,uk,ur⟩:=u
  cases ur with
  | some r=>simp only [SV.at,vsame]
  | none=>cases uq with
   | none=>rfl
   | some q=>cases uk <;> simp only [SV.at,bsame]
 ·rw [bsame];exact h.va z cs hz
 ·rw [bsame,bsame];exact h.ne z z' hz hz' hn
 ·rcases c3 z q hz with ⟨rfl,rfl⟩ | ⟨rfl,rfl⟩ | ⟨h1,h2,h3⟩
  ·simp only [if_neg hyd,if_true]
   exact ⟨trivial,fun b hb=>by cases hb⟩
  ·simp only [if_true]
   refine ⟨hp,fun b hb=>?_⟩
   rcases Bool.or_eq_true _ _ ▸ hb with hb | hb
   ·exact (h.qk.qa _ _ hd).2 b hb
   ·exact (h.qk.qa _ _ hy).2 b hb
  ·simp only [if_neg h1,if_neg h2]
   exact h.qk.qa z q h3
 ·rw [bsame]
  rcases c3' z hz with rfl | rfl | ⟨h1,h2,h3⟩
  ·simp only [if_neg hyd,if_true]
  ·simp only [if_true]
   rw [h.qk.qm _ x hd' hx,h.qk.qm _ x hy' hx];rfl
  ·simp only [if_neg h1,if_neg h2]
   exact h.qk.qm z x h3 hx
 ·rcases c3' z hz with rfl | rfl | ⟨h1,h2,h3⟩
  ·simp only [if_neg hyd,if_true] at hbb
   cases hbb
  ·simp only [if_true] at hbb
   rcases c3' x hx with rfl | rfl | ⟨k1,k2,k3⟩
   ·simp only [if_neg hyd,if_true]
   ·exact absurd rfl hn
   ·simp only [if_neg k1,if_neg k2]
    rcases Bool.or_eq_true _ _ ▸ hbb with hb | hb
    ·exact h.qk.qq _ x hd' k3 (Ne.symm k2) b hb
    ·exact h.qk.qq _ x hy' k3 (Ne.symm k1) b hb
  ·simp only [if_neg h1,if_neg h2] at hbb
   rcases c3' x hx with rfl | rfl | ⟨k1,k2,k3⟩
   ·simp only [if_neg hyd,if_true]
   ·simp only [if_true]
    rw [h.qk.qq z _ h3 hd' h2 b hbb,h.qk.qq z _ h3 hy' h1 b hbb];rfl
   ·simp only [if_neg k1,if_neg k2]
    exact h.qk.qq z x h3 k3 hn b hbb
 ·have h2:=h.qk.qt j u z gg hj hu e
  show (if z=y then some pd0 else if z=d then some p else τ.q z).isSome=true
  by_cases e1:z=y
  ·rw [if_pos e1];rfl
  ·rw [if_neg e1]
   by_cases e2:z=d
   ·rw [if_pos e2];rfl
   ·rw [if_neg e2];exact h2
def Vr (p:Pd) (g:Value→Value) (n:Nat) (l:List Nat):Prop:=∀ v F w,p.p v F w→(rdPd n l).p (g v) F w
theorem vr_rd {n:Nat} {l:List Nat}:Vr (rdPd n l) id n l:=fun _ _ _ h=>h
theorem vr_row {n:Nat} {l:List Nat} (hl:∀ x ∈ l,x<256):Vr (rowPd 5 1 n (cells8 l)) id n l:=fun v F w h=>by
 obtain ⟨z,c,h1,h2,h3,h4⟩:=row_ba h hl
 refine ⟨z,c,h1,h2,h3,h4,fun p hp=>(h.2 _).2 ?_⟩
 rw [h1,hp];rfl
theorem cutA_block {z:Option Addr} {c k:Nat} {p:Addr} (h:cutA z c k=some p):∃ q,z=some q∧q.block=p.block:=by
 cases z with
 | none =>
  unfold cutA at h
  by_cases e:c=k
  ·rw [if_pos e] at h;cases h
  ·rw [if_neg e] at h;cases h
 | some q =>
  refine ⟨q,rfl,?_⟩
  unfold cutA at h
  by_cases e:c=k
  ·rw [if_pos e] at h;cases h;rfl
  ·rw [if_neg e] at h
   simp only [Option.map_some,Option.some.injEq] at h
   rw [← h];unfold Addr.add;split <;> rfl
theorem vr_tail {p:Pd} {g:Value→Value} {n:Nat} {l:List Nat} (h:Vr p g n l) (k:Nat) (hk:k≤n):Vr p (fun v=>tailV k (g v)) (n-k) (l.drop k):=fun v F w hp=>by
 obtain ⟨z,c,h1,h2,h3,h4,h5⟩:=h v F w hp
 refine ⟨cutA z c k,c-k,by show tailV k (g v)=_;rw [h1];rfl,by omega,by rw [List.length_drop,h3],?_,fun q hq=>?_⟩
 ·have e:=h4.cut c k (n-k) (by omega) h2
  have e2:(fun i=>l.getD (k+i) 0)=fun i=>(l.drop k).getD i 0:=by
   funext i
   rw [List.getD_eq_getElem?_getD,List.getD_eq_getElem?_getD,List.getElem?_drop]
  rw [← e2]
  exact e
 ·obtain ⟨q',e1,e2⟩:=cutA_block hq
  rw [← e2]
  exact h5 q' e1
theorem rd_more {n:Nat} {l:List Nat} {v:Value} {F G:Nat→Bool} {w:World} (h:(rdPd n l).p v F w) (hFG:∀ b,F b=true→G b=true):(rdPd n l).p v G w:=by
 obtain ⟨z,c,h1,h2,h3,h4,h5⟩:=h
 exact ⟨z,c,h1,h2,h3,h4,fun p hp=>hFG _ (h5 p hp)⟩
def twoG (q1 q2:Pd):Pd:=⟨fun v F w=>∃ g v1 v2,v=.slice (some ⟨g,0,none⟩) 2 2∧F g=true∧w.cell? ⟨g,0,none⟩=some v1∧w.cell? ⟨g,1,none⟩=some v2∧q1.p v1 F w∧q2.p v2 F w,fun {v F w w'} hs hb ⟨g,v1,v2,h1,h2,h3,h4,h5,h6⟩ =>
 ⟨g,v1,v2,h1,h2,by rw [World.cell?_of_block (w:=w) (hb g h2)];exact h3,by rw [World.cell?_of_block (w:=w) (hb g h2)];exact h4,q1.keep hs hb h5,q2.keep hs hb h6⟩⟩
structure Vs (p q:Pd) (g:Value→Value):Prop where
 is:∀ v F w,p.p v F w→q.p (g v) F w∧∃ z m c,g v=.slice z m c
 more:∀ v F G w,q.p v F w→(∀ b,F b=true→G b=true)→q.p v G w
def twoPd (n1:Nat) (l1:List Nat) (n2:Nat) (l2:List Nat):Pd:=twoG (rdPd n1 l1) (rdPd n2 l2)
theorem Vr.vs {p:Pd} {g:Value→Value} {n:Nat} {l:List Nat} (h:Vr p g n l):Vs p (rdPd n l) g:=⟨fun v F w hp=>⟨h v F w hp,by obtain ⟨z,c,h1,_⟩:=h v F w hp;exact ⟨z,n,c,h1⟩⟩,fun _ _ _ _ h1 h2=>rd_more h1 h2⟩
section
variable {W:Bs} {n:Nat} {ops:Array Oper} {i:Nat} {o:Oper} {L:Nat→Bool} {xs:List OE} {σ:SS}
theorem u_twoG (u:Up ops i o L) (hg:Gd ops n o (run L 0 xs σ)) (dd:Nat) (hdd:o.dst=some dd) (hn:lookQ (deps o) i 0 ops.toList xs dd (some (σ.q dd))=some none) (e1 e2:Operand) (ho:o.op=.buildSlice 103 2 #[(0,e1),(1,e2)]) {x y:Nat} {g1 g2:Value→Value} (hx:lookO n ops i o xs σ e1=some (.unk x g1)) (hy:lookO n ops i o xs σ e2=some (.unk y g2)) (hxy:Nat.beq x y=false) (hdx:Nat.beq dd x=false) (hdy:Nat.beq dd y=false) {px py:Pd} (hqx:lookQ (deps o) i 0 ops.toList xs x (some (σ.q x))=some (some px)) (hqy:lookQ (deps o) i 0 ops.toList xs y (some (σ.q y))=some (some py)) {q1 q2:Pd} (hv1:Vs px q1 g1) (hv2:Vs py q2 g2):GStep Tryz.prog W n ops o (run L 0 xs σ) ((eB dd (twoG q1 q2) x y).app (run L 0 xs σ)):=by
 refine Step.gd hg fun β a w Q hr=>?_
 have nx:x≠y:=fun e=>by rw [e] at hxy;simp at hxy
 have dx:dd≠x:=fun e=>by rw [e] at hdx;simp at hdx
 have dy:dd≠y:=fun e=>by rw [e] at hdy;simp at hdy
 have ex1:a.eval e1=g1 (β x).v:=hr.eval (u.ev hx)
 have ex2:a.eval e2=g2 (β y).v:=hr.eval (u.ev hy)
 have hpx:=hr.thing (u.q hqx)
 have hpy:=hr.thing (u.q hqy)
 obtain ⟨h1,z1,n1,c1,s1⟩:=hv1.is _ _ _ hpx
 obtain ⟨h2,z2,n2,c2,s2⟩:=hv2.is _ _ _ hpy
 have hsz:(sizeOf 25).run Tryz.prog w=.ok 1 w:=by
  have hi:(Tryz.prog.info? 25).map (·.size)=some 1:=by kernel_rfl
  obtain ⟨t,ht,hs⟩:=Option.map_eq_some_iff.1 hi
  simp [sizeOf,typeInfo,ht,hs]
 have hzv:(zeroValue 25).run Tryz.prog w=.ok (.slice none 0 0) w:=by
  have hi:(Tryz.prog.info? 25).map (·.zero)=some (some (.slice none 0 0)):=by kernel_rfl
  obtain ⟨t,ht,hs⟩:=Option.map_eq_some_iff.1 hi
  simp [zeroValue,typeInfo,ht,hs]
 have hrun:(Instr.buildSlice 103 2 (#[(0,e1),(1,e2)].map fun (i,x)=>(i,a.eval x))).run Tryz.prog w=.ok (.slice (some ⟨w.heap.size,0,none⟩) 2 2) (w.alloc (.cells #[g1 (β x).v,g2 (β y).v] 25)):=by
  unfold Instr.buildSlice
  simp only [Sem.run_bind,run_underlying Tryz.underlying103 w,Result.andThen_ok,hsz]
  rw [if_neg (show ¬ 2*1 > 2 ^ 24 by decide),if_neg (show ¬ 2*1=0 by decide)]
  simp only [Sem.run_bind,hzv,Sem.run_pure,Result.andThen_ok]
  rw [show ((#[(0,e1),(1,e2)]:Array (Nat × Operand)).map fun (i,x)=>(i,a.eval x)).toList=[(0,g1 (β x).v),(1,g2 (β y).v)] by simp [ex1,ex2],s1,s2]
  have hf:Instr.fill (fun i=>some (i*1,1)) ((Array.range (2*1)).map (fun x=>(Value.slice none 0 0).cells[x % (Value.slice none 0 0).cells.size]!)) [(0,.slice z1 n1 c1),(1,.slice z2 n2 c2)]=some #[Value.slice z1 n1 c1,Value.slice z2 n2 c2]:=by kernel_rfl
  rw [hf]
  simp [newRow]
 unfold Oper.wp execOp
 simp only [ho,Sem.run_bind,hrun,Result.andThen_ok,Sem.run_pure]
 have hbl:Below w.heap.size w (w.alloc (.cells #[g1 (β x).v,g2 (β y).v] 25)):=Below.alloc (Below.refl _ w) (Nat.le_refl _) _
 have g0:=hr.gets hbl dd (u.q hn) pd0 (.slice (some ⟨w.heap.size,0,none⟩) 2 2) (fun b=>Nat.beq b w.heap.size) trivial (fun b hb=>by
  rw [Nat.eq_of_beq_eq_true hb]
  exact ⟨Nat.le_refl _,by simp⟩)
 have hq1:((((run L 0 xs σ).obj dd pd0).set (some dd) (.unk dd id))).q x=some px:=by
  show (if x=dd then _ else _)=_
  rw [if_neg (Ne.symm dx)]
  exact u.q hqx
 have hqd:((((run L 0 xs σ).obj dd pd0).set (some dd) (.unk dd id))).q dd=some pd0:=by
  show (if dd=dd then _ else _)=_
  rw [if_pos rfl]
 have g1':=g0.merge dd x dx hqd hq1 pd0 trivial
 have hq2:(if y=x then some pd0 else if y=dd then some pd0 else ((((run L 0 xs σ).obj dd pd0).set (some dd) (.unk dd id))).q y)=some py:=by
  rw [if_neg (Ne.symm nx),if_neg (Ne.symm dy)]
  show (if y=dd then _ else _)=_
  rw [if_neg (Ne.symm dy)]
  exact u.q hqy
 have g2':=g1'.merge dd y dy (pd:=pd0) (by show (if dd=x then _ else if dd=dd then _ else _)=_;rw [if_neg dx,if_pos rfl]) hq2 (twoG q1 q2) (by
  simp only [if_true,if_neg (Ne.symm dy),if_neg (Ne.symm dx),if_neg (Ne.symm nx)]
  refine ⟨w.heap.size,g1 (β x).v,g2 (β y).v,rfl,by simp,by simp,by simp,?_,?_⟩
  ·exact hv1.more _ _ _ _ (q1.keep hbl.size (fun b hb=>hbl.block b ((hr.qk.qa x px (u.q hqx)).2 b hb).2) h1) (fun b hb=>by simp [hb])
  ·exact hv2.more _ _ _ _ (q2.keep hbl.size (fun b hb=>hbl.block b ((hr.qk.qa y py (u.q hqy)).2 b hb).2) h2) (fun b hb=>by simp [hb]))
 show (fun a' w'=>∃ β',Rep W n β' _ a' w') (a.put o.dst (.slice (some ⟨w.heap.size,0,none⟩) 2 2)) (w.alloc (.cells #[g1 (β x).v,g2 (β y).v] 25))
 rw [hdd]
 have e:(eB dd (twoG q1 q2) x y).app (run L 0 xs σ)=⟨(((run L 0 xs σ).obj dd pd0).set (some dd) (.unk dd id)).s,(((run L 0 xs σ).obj dd pd0).set (some dd) (.unk dd id)).m,fun z=>if z=y then some pd0 else if z=dd then some (twoG q1 q2) else if z=x then some pd0 else if z=dd then some pd0 else (((run L 0 xs σ).obj dd pd0).set (some dd) (.unk dd id)).q z⟩:=by
  refine SS.ext (fun j=>rfl) (fun j=>rfl) (fun j=>?_)
  show (if some x=some j then some pd0 else if some y=some j then some pd0 else if j=dd then some _ else (run L 0 xs σ).q j)=(if j=y then some pd0 else if j=dd then some _ else if j=x then some pd0 else if j=dd then some pd0 else if j=dd then _ else _)
  by_cases a1:j=x
  ·subst a1;simp [nx,Ne.symm dx]
  ·by_cases a2:j=y
   ·subst a2;simp
   ·rw [if_neg (fun e=>a1 (Option.some.inj e).symm),if_neg (fun e=>a2 (Option.some.inj e).symm),if_neg a2,if_neg a1]
    by_cases a3:j=dd
    ·simp [a3]
    ·simp [a3]
 rw [e]
 exact ⟨_,g2'⟩
theorem u_two (u:Up ops i o L) (hg:Gd ops n o (run L 0 xs σ)) (dd:Nat) (hdd:o.dst=some dd) (hn:lookQ (deps o) i 0 ops.toList xs dd (some (σ.q dd))=some none) (e1 e2:Operand) (ho:o.op=.buildSlice 103 2 #[(0,e1),(1,e2)]) {x y:Nat} {g1 g2:Value→Value} (hx:lookO n ops i o xs σ e1=some (.unk x g1)) (hy:lookO n ops i o xs σ e2=some (.unk y g2)) (hxy:Nat.beq x y=false) (hdx:Nat.beq dd x=false) (hdy:Nat.beq dd y=false) {px py:Pd} (hqx:lookQ (deps o) i 0 ops.toList xs x (some (σ.q x))=some (some px)) (hqy:lookQ (deps o) i 0 ops.toList xs y (some (σ.q y))=some (some py)) {n1 n2:Nat} {l1 l2:List Nat} (hv1:Vr px g1 n1 l1) (hv2:Vr py g2 n2 l2):GStep Tryz.prog W n ops o (run L 0 xs σ) ((eB dd (twoPd n1 l1 n2 l2) x y).app (run L 0 xs σ)) :=
 u_twoG u hg dd hdd hn e1 e2 ho hx hy hxy hdx hdy hqx hqy hv1.vs hv2.vs
end
theorem put_same {a:Act} {t:Nat} {v:Value} (h:a.tmps[t]?=some v):a.put (some t) v=a:=by
 have e:a.tmps.setIfInBounds t v=a.tmps:=by
  apply Array.ext_getElem?
  intro i
  rw [Array.getElem?_setIfInBounds]
  split
  ·rename_i e
   subst e
   obtain ⟨hlt,_⟩:=Array.getElem?_eq_some_iff.1 h
   rw [if_pos hlt,h]
  ·rfl
 obtain ⟨tm,_⟩:=a
 simp only [Act.put] at e ⊢
 first
  | rw [e]
  | simp [e]
theorem Rp.reseat {W:Bs} {n:Nat} {σ:SS} {a:Act} {w:World} (h:Rp W n σ a w) (x d t:Nat) (ht:t<n) {p:Pd} {g:Value→Value} {m:Nat} {l:List Nat} (hx:σ.q x=some p) (hd:d=x∨σ.q d=none) (hs:σ.s t=some (.unk x g)) (hv:Vr p g m l) (s:List (Nat × SV)) (hs':AllS σ.s s) (hc:clearOf x s=true):Rp W n (σ.turn s x d (rdPd m l) (.unk d id) t) a w:=by
 obtain ⟨β,hr⟩:=h
 obtain ⟨q1,q2⟩:=hr.qk.qa x p hx
 have gg:=hr.swap x hx rfl rfl rfl (Nat.le_refl _) (fun _ _ _=>rfl) s hs' hc d hd (rdPd m l) (g (β x).v) (β x).F (hv _ _ _ q1) (fun b hb=>⟨Or.inl hb,(q2 b hb).2⟩) t (.unk d id) (Or.inl rfl)
 have e:a.tmps[t]?=some (g (β x).v):=hr.sl t _ ht hs
 rw [show ((SV.unk d id).at fun _=>(⟨0,g (β x).v,(β x).F⟩:Loc))=g (β x).v from rfl,put_same e] at gg
 exact ⟨_,gg⟩
def renS (x d:Nat) (v:SV):SV:=match v.u with
 | some (y,g)=>bif Nat.beq y x then .unk d g else v
 | none=>v
theorem Rp.rename {W:Bs} {n:Nat} {σ:SS} {a:Act} {w:World} (h:Rp W n σ a w) (x d:Nat) {p:Pd} (hx:σ.q x=some p) (hd:σ.q d=none):Rp W n ⟨fun j=>(σ.s j).map (renS x d),σ.m,fun y=>bif Nat.beq y d then some p else bif Nat.beq y x then none else σ.q y⟩ a w:=by
 obtain ⟨β,hr⟩:=h
 have hxd:x≠d:=fun e=>by rw [e,hd] at hx;cases hx
 have hx':(σ.q x).isSome=true:=by rw [hx];rfl
 have bsame:∀ y,(if y=d then (⟨(β d).b,(β x).v,(β x).F⟩:Loc) else β y).b=(β y).b:=fun y=>by
  by_cases e:y=d
  ·subst e;simp
  ·simp [e]
 have bt:∀ {y z:Nat},Nat.beq y z=true→y=z:=fun h=>Nat.eq_of_beq_eq_true h
 have bf:∀ {y z:Nat},Nat.beq y z=false→y≠z:=fun h e=>by rw [e] at h;simp at h
 have c3:∀ y q,(bif Nat.beq y d then some p else bif Nat.beq y x then none else σ.q y)=some q→(y=d∧q=p)∨(y≠d∧y≠x∧σ.q y=some q):=fun y q hy=>by
  cases hb:Nat.beq y d with
  | true =>
   simp only [hb,cond_true,Option.some.injEq] at hy
   exact Or.inl ⟨bt hb,hy.symm⟩
  | false =>
   simp only [hb,cond_false] at hy
   cases hb2:Nat.beq y x with
   | true=>simp [hb2] at hy
   | false =>
    simp only [hb2,cond_false] at hy
    exact Or.inr ⟨bf hb,bf hb2,hy⟩
 have c3':∀ y,(bif Nat.beq y d then some p else bif Nat.beq y x then none else σ.q y).isSome=true→y=d∨(y≠d∧y≠x∧(σ.q y).isSome=true):=fun y hy=>by
  obtain ⟨q,hq⟩:=Option.isSome_iff_exists.1 hy
  rcases c3 y q hq with h1 | h1
  ·exact Or.inl h1.1
  ·exact Or.inr ⟨h1.1,h1.2.1,by rw [h1.2.2];rfl⟩
 refine ⟨fun y=>if y=d then ⟨(β d).b,(β x).v,(β x).F⟩ else β y,hr.df,hr.sz,fun j u hj hu=>?_,hr.bl,fun y cs hy=>?_,fun y z hy hz hn=>?_,fun j u y o hj hu e=>?_,⟨fun y q hy=>?_,fun y z hy hz=>?_,fun y z hy hz hn b hbb=>?_,fun j u y gg hj hu e=>?_⟩⟩
 ·obtain ⟨v,hv,rfl⟩:=Option.map_eq_some_iff.1 hu
  rw [hr.sl j v hj hv]
  have hqt:=hr.qk.qt j v
  obtain ⟨uv,uq,uk,ur⟩:=v
  cases ur with
  | some r =>
   have h2:=hqt r.1 r.2 hj hv rfl
   cases hb:Nat.beq r.1 x with
   | true=>simp [renS,SV.at,bt hb]
   | false =>
    have h3:r.1≠d:=fun e=>by rw [e,hd] at h2;cases h2
    simp [renS,hb,SV.at,h3]
  | none=>cases uq with
   | none=>rfl
   | some q=>cases uk <;> simp only [renS,SV.at,bsame]
 ·rw [bsame];exact hr.va y cs hy
 ·rw [bsame,bsame];exact hr.ne y z hy hz hn
 ·obtain ⟨v,hv,rfl⟩:=Option.map_eq_some_iff.1 hu
  refine hr.pt j v y o hj hv ?_
  obtain ⟨uv,uq,uk,ur⟩:=v
  cases ur with
  | some r =>
   cases hb:Nat.beq r.1 x with
   | true=>simp [renS,hb] at e
   | false=>simpa [renS,hb] using e
  | none=>exact e
 ·rcases c3 y q hy with ⟨rfl,rfl⟩ | ⟨h1,h2,h3⟩
  ·simp only [if_true]
   exact hr.qk.qa x _ hx
  ·simp only [if_neg h1]
   exact hr.qk.qa y q h3
 ·rw [bsame]
  rcases c3' y hy with rfl | ⟨h1,h2,h3⟩
  ·simp only [if_true]
   exact hr.qk.qm x z hx' hz
  ·simp only [if_neg h1]
   exact hr.qk.qm y z h3 hz
 ·rcases c3' y hy with rfl | ⟨h1,h2,h3⟩
  ·simp only [if_true] at hbb
   rcases c3' z hz with rfl | ⟨k1,k2,k3⟩
   ·exact absurd rfl hn
   ·simp only [if_neg k1]
    exact hr.qk.qq x z hx' k3 (Ne.symm k2) b hbb
  ·simp only [if_neg h1] at hbb
   rcases c3' z hz with rfl | ⟨k1,k2,k3⟩
   ·simp only [if_true]
    exact hr.qk.qq y x h3 hx' h2 b hbb
   ·simp only [if_neg k1]
    exact hr.qk.qq y z h3 k3 hn b hbb
 ·obtain ⟨v,hv,rfl⟩:=Option.map_eq_some_iff.1 hu
  show (bif Nat.beq y d then some p else bif Nat.beq y x then none else σ.q y).isSome=true
  have hqt:=hr.qk.qt j v
  obtain ⟨uv,uq,uk,ur⟩:=v
  cases ur with
  | some r =>
   have h2:=hqt r.1 r.2 hj hv rfl
   cases hb:Nat.beq r.1 x with
   | true =>
    simp [renS,hb] at e
    simp [← e.1]
   | false =>
    simp [renS,hb] at e
    have e1:r.1=y:=by rw [e]
    rw [← e1,hb]
    cases Nat.beq r.1 d <;> simp [h2]
  | none=>simp [renS] at e
end Go.Proofs.YtmigakanbeckpaaGreatDoor
namespace Go.Proofs.YtmigakanbeckpaaGreatDoor
set_option maxRecDepth 100000
open Go.RowKit
theorem Rp.kp {W:Bs} {n:Nat} {σ:SS} {a:Act} {w:World} (h:Rp W n σ a w):W.kp w:=let ⟨_,h⟩:=h;h.bl
theorem grown_kp {W:Bs} {w w':World} {b:Nat} (hk:W.kp w) (b1:W.w.heap.size≤b∨W.X b=true) (hw:w.grownBy w' (some b)):W.kp w':=by
 have hk:Kp W.X W.w w:=hk
 exact ⟨hw.os.trans hk.os,hw.tape.trans hk.tape,hw.output.trans hk.output,Nat.le_trans hk.size hw.size,fun k hlt hx=>(hw.block k (Nat.lt_of_lt_of_le hlt hk.size) (fun e=>by
  have e:=Option.some.inj e
  rcases b1 with b1 | b1
  ·omega
  ·rw [← e,hx] at b1;cases b1)).trans (hk.block k hlt hx)⟩
theorem grown_refl (w:World) (b:Option Nat):w.grownBy w b:=World.grownBy.refl _ _
theorem grown_trans {w w1 w2:World} {b:Nat} (h:w.grownBy w1 (some b)) (h2:w1.grownBy w2 (some b)):w.grownBy w2 (some b) :=
 ⟨h2.os.trans h.os,h2.tape.trans h.tape,h2.output.trans h.output,Nat.le_trans h.size h2.size,fun k hk hn=>(h2.block k (Nat.lt_of_lt_of_le hk h.size) hn).trans (h.block k hk hn)⟩
theorem enterB {P:Program} {f:FuncId} {fn:Func} {c:Code} {args:List Value} {w:World} {R:Ending→World→Prop} {X:Nat→Bool} (hf:P.funcs[f]?=some fn) (hb:fn.body=some c) (n:Nat) (hn:fn.ntmps=n) (hl:args.length≤n)
  (h:∀ a,Rp ⟨w,X,[]⟩ n (SS.init args) a w→c.wp P (bodyPost P fn R) a w):Calls P f args.toArray w R:=by
 refine calls_of_wp hf hb (h _ ⟨fun _=>⟨0,undef,fun _=>false⟩,rfl,?_,?_,Kp.refl _ _,fun x cs hx=>(by cases hx),fun x y hx=>(by cases hx),fun j v x o _ hv e=>(by cases hv;cases e),⟨fun x p hx=>(by cases hx),fun x y hx=>(by cases hx),fun x y hx=>(by cases hx),fun j v x g _ hv e=>(by cases hv;cases e)⟩⟩)
 ·simp [hn];omega
 ·intro j v hj hv
  cases hv
  simp only [SV.at]
  by_cases h1:j<args.length
  ·rw [Array.getElem?_append_left (by simpa using h1)]
   simp [h1]
  ·rw [Array.getElem?_append_right (by simpa using h1)]
   have h2:(Array.replicate (fn.ntmps-args.toArray.size) undef)[j-args.toArray.size]?=some undef:=by
    rw [Array.getElem?_replicate,if_pos (by simp [hn];omega)]
   rw [h2,List.getD_eq_getElem?_getD,List.getElem?_eq_none (Nat.le_of_not_lt h1)]
   rfl
section
variable {P:Program} {W:Bs} {n:Nat} {ops:Array Oper} {i:Nat} {o:Oper} {L:Nat→Bool} {xs:List OE} {σ:SS}
theorem u_nilV (u:Up ops i o L) (hg:Gd ops n o (run L 0 xs σ)) (dd:Nat) (hdd:o.dst=some dd) (x:Operand) (ho:o.op=.nilCheck x) {p:Addr} (hx:lookO n ops i o xs σ x=some (.val (.pointer (some p)))):GStep P W n ops o (run L 0 xs σ) ((eS dd (.val (.pointer (some p)))).app (run L 0 xs σ)):=by
 refine u_any u hg dd hdd _ (fun _ _ e=>by cases e) fun β a w hr=>?_
 have ex:a.eval x=.pointer (some p):=hr.eval (u.ev hx)
 unfold execOp
 simp [ho,ex,SV.at]
theorem u_fieldV (u:Up ops i o L) (hg:Gd ops n o (run L 0 xs σ)) (dd:Nat) (hdd:o.dst=some dd) (ty:TypeId) (x:Operand) (j:Nat) (ho:o.op=.fieldAddr ty x j) {g off:Nat} (hx:lookO n ops i o xs σ x=some (.val (.pointer (some ⟨g,off,none⟩)))) {fs:Array Field} (hu:P.underlying ty=some (.struct fs)) {f0:Field} (hf:fs[j]?=some f0) {k:Nat} (hz:(P.info? f0.type).map (·.size)=some (k+1)) (off':Nat) (ho':off'=off+f0.offset):GStep P W n ops o (run L 0 xs σ) ((eS dd (.val (.pointer (some ⟨g,off',none⟩)))).app (run L 0 xs σ)):=by
 subst ho'
 refine u_any u hg dd hdd _ (fun _ _ e=>by cases e) fun β a w hr=>?_
 cases hq:P.info? f0.type with
 | none=>simp [hq] at hz
 | some t =>
  have hs:t.size=k+1:=by simpa [hq] using hz
  have ex:a.eval x=.pointer (some ⟨g,off,none⟩):=hr.eval (u.ev hx)
  unfold execOp
  simp [ho,ex,SV.at,Instr.fieldAt,run_underlying hu,hf,Instr.sureAddr,fieldPlace,sizeOf,typeInfo,hq,hs,Addr.add_mid]
theorem u_loadF1 (u:Up ops i o L) (hg:Gd ops n o (run L 0 xs σ)) (dd:Nat) (hdd:o.dst=some dd) (ty:TypeId) (x:Operand) (ho:o.op=.load ty x) {g off:Nat} (hx:lookO n ops i o xs σ x=some (.val (.pointer (some ⟨g,off,none⟩)))) (y:Nat) {cs:List Value} (hq:lookQ (deps o) i 0 ops.toList xs y (some (σ.q y))=some (some (varPd g cs))) {d:TypeDesc} (hu:P.underlying ty=some d) (hd:d.isRow=false) (v:Value) (hv:cs[off]?=some v):GStep P W n ops o (run L 0 xs σ) ((eS dd (.val v)).app (run L 0 xs σ)):=by
 refine u_valQ u hg dd hdd y hq _ fun β a w hr hp=>?_
 obtain ⟨_,_,h3,_⟩:=hp
 have ex:a.eval x=.pointer (some ⟨g,off,none⟩):=hr.eval (u.ev hx)
 have hc:w.cell? ⟨g,off,none⟩=some v:=by
  have:=h3 off v hv
  rw [Nat.zero_add] at this
  exact this
 have hagg:(isAgg ty).run P w=.ok false w:=by
  unfold isAgg
  rw [Sem.run_bind,run_underlying hu w]
  cases d <;> simp_all
 unfold execOp
 simp [ho,ex,Instr.loadAt,Instr.sureAddr,loadVar,hagg,hc]
theorem u_loadK (u:Up ops i o L) (hg:Gd ops n o (run L 0 xs σ)) (dd:Nat) (hdd:o.dst=some dd) (ty:TypeId) (x:Operand) (ho:o.op=.load ty x) {p:Addr} (hx:lookO n ops i o xs σ x=some (.val (.pointer (some p)))) {d:TypeDesc} (hu:P.underlying ty=some d) (hd:d.isRow=false) (v:Value) (hv:∀ w,W.kp w→w.cell? p=some v):GStep P W n ops o (run L 0 xs σ) ((eS dd (.val v)).app (run L 0 xs σ)):=by
 refine u_any u hg dd hdd _ (fun x c hp=>by cases hp) fun β a w hr=>?_
 have hc:w.cell? p=some v:=hv w hr.bl
 have hagg:(isAgg ty).run P w=.ok false w:=by
  unfold isAgg
  rw [Sem.run_bind,run_underlying hu w]
  cases d <;> simp_all
 unfold execOp
 simp [ho,hr.eval (u.ev hx),SV.at,Instr.loadAt,Instr.sureAddr,loadVar,hagg,hc]
theorem u_callW (u:Up ops i o L) (hg:Gd ops n o (run L 0 xs σ)) (dd:Nat) (hdd:o.dst=some dd) (F:Nat) (ar:Array Operand) (ts:Array TypeId) (ho:o.op=.call { callee:=.value (.func F),args:=ar,argTypes:=ts }) (vs:List Value) (hx:ar.toList.map (lookO n ops i o xs σ)=vs.map (fun v=>some (.val v))) (hE:∀ (vs:Array Value) (w:World),(callFunc F vs).run P w=.ok (.enter F vs) w) (x:Nat) {b:Nat} {cs:List Value} (hq:lookQ (deps o) i 0 ops.toList xs x (some (σ.q x))=some (some (varPd b cs))) (v:Value) (cs':List Value)
  (hC:∀ w,W.kp w→(W.w.heap.size≤b∨W.X b=true)→w.rangeAt b 0 cs→w.there b 0 cs.length→b<w.heap.size→Calls P F vs.toArray w fun e w'=>e=.returned v∧w.grownBy w' (some b)∧w'.rangeAt b 0 cs'∧w'.there b 0 cs'.length):GStep P W n ops o (run L 0 xs σ) ((eT dd (.val v) x (varPd b cs')).app (run L 0 xs σ)):=by
 refine u_callT u hg dd hdd F ar ts ho (vs.map SV.val) (by rw [List.map_map];exact hx) hE x hq v (varPd b cs') fun β a w hr=>?_
 obtain ⟨⟨p1,p2,p3,p4⟩,hF⟩:=hr.qk.qa x _ (u.q hq)
 have hb:=hF b ((p2 b).2 rfl)
 have e:(vs.map SV.val).map (SV.at β)=vs:=by
  rw [List.map_map]
  exact (List.map_congr_left (fun _ _=>rfl)).trans (List.map_id vs)
 rw [e]
 refine Calls.mono (hC w hr.bl hb.1 p3 p4 hb.2) ?_
 rintro e w' ⟨rfl,hw,h3,h4⟩
 exact ⟨rfl,(β x).F,⟨p1,p2,h3,h4⟩,fun k hk=>⟨Or.inl hk,Nat.lt_of_lt_of_le (hF k hk).2 hw.size⟩,hw.os,hw.tape,hw.output,hw.size,fun k hk hf=>hw.block k hk (fun e=>by
  have e:=Option.some.inj e
  rw [(p2 k).2 e] at hf
  cases hf)⟩
theorem u_max (u:Up ops i o L) (hg:Gd ops n o (run L 0 xs σ)) (dd:Nat) (hdd:o.dst=some dd) (x y:Operand) (ts:Array TypeId) (ho:o.op=.call { callee:=.builtin .max,args:=#[x,y],argTypes:=ts }) {k:IntKind} {p q:Int} (hx:lookO n ops i o xs σ x=some (.val (.int k p))) (hy:lookO n ops i o xs σ y=some (.val (.int k q))) (r:Int) (hr:r=if q > p then q else p):GStep P W n ops o (run L 0 xs σ) ((eS dd (.val (.int k r))).app (run L 0 xs σ)):=by
 refine u_any u hg dd hdd _ (fun _ _ e=>by cases e) fun β a w h=>?_
 have ex:a.eval x=.int k p:=h.eval (u.ev hx)
 have ey:a.eval y=.int k q:=h.eval (u.ev hy)
 subst hr
 unfold execOp
 by_cases h1:q > p
 ·simp [ho,resolve,invoke,builtin,ex,ey,SV.at,Builtin.max_,Builtin.max2,h1]
 ·simp [ho,resolve,invoke,builtin,ex,ey,SV.at,Builtin.max_,Builtin.max2,h1]
theorem run_bound {P:Program} (k l:Nat) (c:BoundsCode) (h:k≤l) (w:World):(Instr.sliceBound (.int .i64 (k:Int)) l c).run P w=.ok k w:=by
 simp [Instr.sliceBound,asIntOf,h]
theorem u_sliceT (u:Up ops i o L) (hg:Gd ops n o (run L 0 xs σ)) (dd:Nat) (hdd:o.dst=some dd) (ty:TypeId) (x e:Operand) (ho:o.op=.slice ty x (some e) none none) {y:Nat} (hx:lookO n ops i o xs σ x=some (.ptr y 0)) {cs:List Value} (hm:lookM (deps o) i 0 ops.toList xs y (some (σ.m y))=some (some cs)) {k:Nat} {t:TypeId} (hu:P.underlying ty=some (.array k t)) (hz:(P.info? t).map (·.size)=some 1) {off:Nat} (he:lookO n ops i o xs σ e=some (.val (.int .i64 (off:Int)))) (hk:off≤k) (off':Nat) (ho':off'=if k=off then 0 else off):GStep P W n ops o (run L 0 xs σ) ((eS dd (.sli y off' (k-off) (k-off))).app (run L 0 xs σ)):=by
 subst ho'
 refine u_any u hg dd hdd _ (fun x c hp=>by cases hp;exact ⟨cs,hm⟩) fun β a w hr=>?_
 have ee:a.eval e=.int .i64 (off:Int):=hr.eval (u.ev he)
 cases hq:P.info? t with
 | none=>simp [hq] at hz
 | some ti =>
  have hs:ti.size=1:=by simpa [hq] using hz
  unfold execOp
  simp [ho,hr.eval (u.ev hx),ee,SV.at,Instr.sliceAt,run_underlying hu,Instr.sureAddr,Instr.sliceBounds,sizeOf,typeInfo,hq,hs,Addr.add_mid,run_bound off k _ hk]
  split <;> rfl
end
section
variable {P:Program} {W:Bs} {n:Nat} {ops:Array Oper} {i:Nat} {o:Oper} {σ:SS} {Q:Exit→Act→World→Prop} {rest:List Nat} {a:Act} {w:World}
end
theorem Rp.wrote {w0:World} {b n:Nat} {σ:SS} {a:Act} {w:World} (h:Rp ⟨w0,fun k=>Nat.beq k b,[]⟩ n σ a w) {x:Nat} {cs:List Value} (hq:σ.q x=some (varPd b cs)):w0.grownBy w (some b)∧w.rangeAt b 0 cs∧w.there b 0 cs.length:=⟨Kp.grown h.kp,(h.told hq).1,(h.told hq).2.1⟩
theorem run_copyB {W:World} {b o dLen dCap n c:Nat} {x:Option Addr} {g:Nat→Nat} (hx:BA W x n g) (hk:n≤dLen) (ht:W.there b o n) (ty:TypeId) :
  (Builtin.copy_ #[25,25] ty #[.slice (some ⟨b,o,none⟩) dLen dCap,.slice x n c]).run Tryz.prog W=.ok (goInt n) (W.setCells b o (cells8 (fl g n))):=by
 have hl:(cells8 (fl g n)).length=n:=by rw [cells8_len,fl_len]
 rcases hx.at_ with h0 | ⟨xb,xo,rfl,hr⟩
 ·subst h0
  exact run_copy_none (P:=Tryz.prog) W 25 25 ty 5 (some ⟨b,o,none⟩) x dLen dCap 0 c Tryz.underlying25 (by kernel_rfl) (Nat.zero_min _)
 ·have h:=run_copy_cells (P:=Tryz.prog) W 25 25 ty 5 b o dLen dCap ⟨xb,xo,none⟩ n c (cells8 (fl g n)) Tryz.underlying25 (by kernel_rfl) (by rw [hl];exact (Nat.min_eq_left hk).symm) (fun j v hv=>by
   have hj:j<n:=by
    rcases Nat.lt_or_ge j n with h' | h'
    ·exact h'
    ·rw [List.getElem?_eq_none (by rw [hl];exact h')] at hv;cases hv
   rw [cells8_at _ j (by rw [fl_len];exact hj),List.getD_eq_getElem?_getD,fl_at g hj] at hv
   rw [Addr.add_mid,hr.c j hj]
   simpa using hv) (fun j hj=>(ht j (by rw [hl] at hj;exact hj)).1) (fun j hj=>(ht j (by rw [hl] at hj;exact hj)).2) (cells8_one _)
  rw [hl] at h
  exact h
section
variable {W:Bs} {n:Nat} {ops:Array Oper} {i:Nat} {o:Oper} {L:Nat→Bool} {xs:List OE} {σ:SS}
theorem u_cpy (u:Up ops i o L) (hg:Gd ops n o (run L 0 xs σ)) (dd:Nat) (hdd:o.dst=some dd) (x s:Operand) (ho:o.op=.call { callee:=.builtin .copy,args:=#[x,s],argTypes:=#[25,25] }) {y off k k':Nat} (hx:lookO n ops i o xs σ x=some (.sli y off k k')) {cs:List Value} (hm:lookM (deps o) i 0 ops.toList xs y (some (σ.m y))=some (some cs)) {z:Option Addr} {m c:Nat} (hs:lookO n ops i o xs σ s=some (.val (.slice z m c))) {f:Nat→Nat} (hba:∀ w,W.kp w→BA w z m f) (hk:m≤k) (hl:off+m≤cs.length) (cs':List Value) (hc:cs'=splice cs off (cells8 (fl f m))):GStep Tryz.prog W n ops o (run L 0 xs σ) ((⟨some (dd,.val (.int .i64 (m:Int))),some (y,cs'),none,none,none⟩:OE).app (run L 0 xs σ)):=by
 subst hc
 refine Step.gd hg fun β a w Q hr=>?_
 have hm0:=u.m hm
 obtain ⟨_,_,_,c4⟩:=hr.va y cs hm0
 have ex:a.eval x=.slice (some ⟨(β y).b,off,none⟩) k k':=hr.eval (u.ev hx)
 have es:a.eval s=.slice z m c:=hr.eval (u.ev hs)
 have hlen:(cells8 (fl f m)).length=m:=by rw [cells8_len,fl_len]
 have hrun:=run_copyB (c:=c) (dCap:=k') (b:=(β y).b) (o:=off) (hba w hr.bl) hk (fun j hj=>by have:=c4 (off+j) (by omega);rw [Nat.zero_add] at this;exact this) o.type
 unfold Oper.wp execOp
 simp only [ho,resolve,invoke,builtin,Sem.run_bind,Sem.run_pure,Result.andThen_ok,List.map_toArray,List.map_cons,List.map_nil,ex,es,hrun]
 have g:=(hr.stored (vs:=cells8 (fl f m)) hm0 (by rw [hlen];exact hl)).put (some dd) (.val (.int .i64 (m:Int))) val_hp val_hu
 show (fun a' w'=>∃ β',Rep W n β' _ a' w') (a.put o.dst (goInt m)) (w.setCells (β y).b off (cells8 (fl f m)))
 rw [hdd]
 exact ⟨β,g⟩
end
end Go.Proofs.YtmigakanbeckpaaGreatDoor
namespace Go.Proofs.YtmigakanbeckpaaGreatDoor
set_option maxRecDepth 100000
open Go.RowKit
theorem ret_tv {P:Program} {w0:World} {n:Nat} {σ:SS} {a:Act} {w:World} {fn:Func} {R:Ending→World→Prop} (h:Rp (Bs.of w0) n σ a w) (d e:Nat) (hres:fn.results=#[.tmp d,.tmp e]) (hd:d<n) (he:e<n) (x:Nat) (g:Value→Value) (hs:σ.s d=some (.unk x g)) {p:Pd} (hx:σ.q x=some p) (v2:Value) (hs2:σ.s e=some (.val v2)) (hR:∀ v F,p.p v F w→(∀ b,F b=true→w0.heap.size≤b∧b<w.heap.size)→R (.returned (.tuple [g v,v2].toArray)) w):bodyPost P fn R .ret a w:=by
 obtain ⟨β,hp⟩:=h
 obtain ⟨h1,h2⟩:=hp.qk.qa x p hx
 refine ⟨hp.df,.tuple [g (β x).v,v2].toArray,?_,hR _ _ h1 (fun b hb=>⟨?_,(h2 b hb).2⟩)⟩
 ·have e1:a.tmps[d]?=some (g (β x).v):=by rw [hp.sl d _ hd hs];rfl
  have e2:a.tmps[e]?=some v2:=by rw [hp.sl e _ he hs2];rfl
  simp [results,hres,e1,e2]
 ·rcases (h2 b hb).1 with h3 | h3
  ·exact h3
  ·cases h3
def tupPd (p:Pd) (t:Value):Pd:=⟨fun v F w=>∃ u,v=.tuple [u,t].toArray∧p.p u F w,fun hs hb ⟨u,h1,h2⟩=>⟨u,h1,p.keep hs hb h2⟩⟩
def fstV:Value→Value
 | .tuple ⟨u :: _⟩=>u
 | v=>v
section
variable {P:Program} {W:Bs} {n:Nat} {ops:Array Oper} {i:Nat} {o:Oper} {L:Nat→Bool} {xs:List OE} {σ:SS}
end
end Go.Proofs.YtmigakanbeckpaaGreatDoor
namespace Go.Proofs.YtmigakanbeckpaaGreatDoor
set_option maxRecDepth 100000
open Go.RowKit
theorem row_src {w:World} {e:TypeId} {size m:Nat} {cs:List Value} {v:Value} {F:Nat→Bool} (h:(rowPd e size m cs).p v F w) (hm:0<m):∃ g c,v=.slice (some ⟨g,0,none⟩) m c∧∀ j u,cs[j]?=some u→w.cell? ((⟨g,0,none⟩:Addr).add j)=some u:=by
 obtain ⟨hl,h0 | ⟨g,cap,cur,hv,_,hg,_,_,hs,ht⟩⟩:=h.1
 ·omega
 ·refine ⟨g,cap,hv,fun j u hj=>?_⟩
  have hlt:j<m*size:=by
   have:=(List.getElem?_eq_some_iff.1 hj).1
   omega
  rw [← ht,List.getElem?_take_of_lt hlt] at hj
  rw [Addr.add_mid,Nat.zero_add]
  simp only [World.cell?,hg]
  simpa using hj
section
variable {P:Program} {W:Bs} {n:Nat} {ops:Array Oper} {i:Nat} {o:Oper} {σ:SS} {Q:Exit→Act→World→Prop} {rest:List Nat} {a:Act} {w:World}
theorem sq_appR {T e:TypeId} {size bytes:Nat} {z:Value} (ht:P.underlying T=some (.slice e)) (hi:(P.info? e).map (fun i=>(i.zero,i.size,i.bytes))=some (some z,size,bytes)) (hzs:z.cells.size=size) (hsz:0<size) (hby:bytes≤1000) (h:Rp W n σ a w) (ho:ops[i]?=some o) (hg:Gd ops n o σ) (dd:Nat) (hdd:o.dst=some dd) (s x:Operand) (hop:o.op=.call { callee:=.builtin .append,args:=#[s,x],argTypes:=#[T,T] }) (y:Nat) (hs:σ.ev n s=some (.unk y id)) {k:Nat} {cs:List Value} (hy:σ.q y=some (rowPd e size k cs)) (hd:dd=y∨σ.q dd=none) {m:Nat} {news:List Value} (hl:news.length=m*size) (h1:∀ u ∈ news,u.oneCell'=true) (hx:∀ β,Rep W n β σ a w→∃ p c,a.eval x=.slice (some p) m c∧∀ j u,news[j]?=some u→w.cell? (p.add j)=some u) (hb:k+m≤1000000) (s':List (Nat × SV)) (hs':AllS σ.s s') (hc:clearOf y s'=true)
  (hk:∀ (a':Act) (w':World),Rp W n (σ.turn s' y dd (rowPd e size (k+m) (cs++news)) (.unk dd id) dd) a' w'→wpOps P ops Q rest a' w'):wpOps P ops Q (i :: rest) a w:=by
 obtain ⟨β,hr⟩:=h
 obtain ⟨i0,hi0,hz⟩:=Option.map_eq_some_iff.1 hi
 simp only [Prod.mk.injEq] at hz
 rw [wpOps_cons]
 refine wpOp_step ho (fun K' hK=>?_)
 rw [if_pos (wanted_of hr hg)]
 obtain ⟨p,c,ex,hcells⟩:=hx β hr
 have hrow:=hr.thing hy
 have es:a.eval s=(β y).v:=hr.eval hs
 have hbb:(k+m)*bytes≤140737488355328:=Nat.le_trans (Nat.mul_le_mul hb hby) (by decide)
 obtain ⟨v',w',hrun,hO,hG,_,hat⟩:=run_append_own_at (P:=P) w 0 T o.type e i0 z size bytes ht hi0 hz.1 hz.2.1 hz.2.2 hzs hsz (β y).v k cs hrow.1 p m c news hl hcells h1 (by unfold maxLen;omega) hbb (Nat.zero_le _)
 unfold Oper.wp execOp
 simp only [hop,resolve,invoke,builtin,Sem.run_bind,Sem.run_pure,Result.andThen_ok,List.map_toArray,List.map_cons,List.map_nil,es,ex,hrun]
 obtain ⟨hp,hF⟩:=row_of hO
 have g:=hr.swap y hy hG.os hG.tape hG.output hG.size (fun k hk hf=>hG.block k hk (fun e=>by
  rw [(hrow.2 k).2 e.symm] at hf
  cases hf)) s' hs' hc dd hd _ v' _ hp (fun b hb=>⟨by
   have hb':v'.ownBlock=some b:=by simpa using hb
   rcases hat with hat | hat
   ·left;exact (hrow.2 b).2 (hat.symm.trans hb')
   ·right;rw [hat] at hb';cases hb';exact Nat.le_refl _,(hF b hb).2⟩) dd (.unk dd id) (Or.inl rfl)
 rw [show ((SV.unk dd id).at fun _=>(⟨0,v',fun b=>decide (v'.ownBlock=some b)⟩:Loc))=v' from rfl] at g
 show K' (a.put o.dst v') w'
 rw [hdd]
 exact hK _ _ (hk _ w' ⟨_,g⟩)
end
end Go.Proofs.YtmigakanbeckpaaGreatDoor
namespace Go.Proofs.YtmigakanbeckpaaGreatDoor
set_option maxRecDepth 100000
open Go.RowKit
theorem cells_get {w:World} {g off k:Nat} {cs vs:List Value} (hc:∀ j x,cs[j]?=some x→w.cell? ⟨g,j,none⟩=some x) (hv:vs=(cs.drop off).take k):w.rangeAt g off vs:=fun j x hj=>by
 subst hv
 have hlt:j<k:=by
  rcases Nat.lt_or_ge j k with h' | h'
  ·exact h'
  ·rw [List.getElem?_eq_none (by rw [List.length_take];omega)] at hj;cases hj
 rw [List.getElem?_take_of_lt hlt,List.getElem?_drop] at hj
 exact hc _ _ hj
def depsT (ops:List Oper) (o:Oper):List Nat:=deps o++(deps o).flatMap fun k=>match ops[k]? with
 | some o'=>deps o'
 | none=>[]
theorem Up.depsT {ops:Array Oper} {i:Nat} {o:Oper} {L:Nat→Bool} (u:Up ops i o L):∀ k ∈ Proofs.YtmigakanbeckpaaGreatDoor.depsT ops.toList o,L k=true:=fun k hk=>by
 rcases List.mem_append.1 hk with h | h
 ·exact u.deps k h
 ·obtain ⟨j,hj,hk'⟩:=List.mem_flatMap.1 h
  cases ho:ops.toList[j]? with
  | none=>simp only [ho] at hk';cases hk'
  | some o' =>
   simp only [ho] at hk'
   exact u.cl j o' (by simpa using ho) (u.deps j hj) k hk'
theorem Up.qT {ops:Array Oper} {i:Nat} {o:Oper} {L:Nat→Bool} (u:Up ops i o L) {xs:List OE} {σ:SS} {y:Nat} {v:Option Pd} (h:lookQ (Proofs.YtmigakanbeckpaaGreatDoor.depsT ops.toList o) i 0 ops.toList xs y (some (σ.q y))=some v):(run L 0 xs σ).q y=v :=
 lookQ_ok u.depsT u.no ops.toList xs 0 (fun j o' ho hj e he=>u.cl j o' (by simpa using ho) (by simpa using hj) e he) h (fun u hu=>by cases hu;rfl)
section
variable {P:Program} {W:Bs} {n:Nat} {ops:Array Oper} {i:Nat} {o:Oper} {L:Nat→Bool} {xs:List OE} {σ:SS}
theorem u_lit1 (u:Up ops i o L) (hg:Gd ops n o (run L 0 xs σ)) (dd:Nat) (hdd:o.dst=some dd) (hn:lookQ (deps o) i 0 ops.toList xs dd (some (σ.q dd))=some none) (t:TypeId) (x:Operand) (ho:o.op=.buildSlice t 1 #[(0,x)]) {v:Value} (hx:lookO n ops i o xs σ x=some (.val v)) {e:TypeId} (hu:P.underlying t=some (.slice e)) {size:Nat} {z:Value} (hi:(P.info? e).map (fun i=>(i.zero,i.size))=some (some z,size)) (hsz:0<size) (hsl:size≤1000) (cs:List Value) (hcl:cs.length=size) (hf:Instr.fill (fun i=>some (i*size,size)) ((Array.range (1*size)).map (fun x=>z.cells[x % z.cells.size]!)) [(0,v)]=some cs.toArray):GStep P W n ops o (run L 0 xs σ) ((eQ dd (rowPd e size 1 cs)).app (run L 0 xs σ)):=by
 refine Step.gd hg fun β a w Q hr=>?_
 have ex:a.eval x=v:=hr.eval (u.ev hx)
 obtain ⟨i0,hi0,hzz⟩:=Option.map_eq_some_iff.1 hi
 simp only [Prod.mk.injEq] at hzz
 have hrun:(Instr.buildSlice t 1 #[(0,v)]).run P w=.ok (.slice (some ⟨w.heap.size,0,none⟩) 1 1) (w.alloc (.cells cs.toArray e)):=by
  have hs1:(sizeOf e).run P w=.ok size w:=by simp [sizeOf,typeInfo,hi0,hzz.2]
  have hzv:(zeroValue e).run P w=.ok z w:=by simp [zeroValue,typeInfo,hi0,hzz.1]
  have hle:¬ 1*size > 2 ^ 24:=by omega
  have h0:¬ 1*size=0:=by omega
  unfold Instr.buildSlice
  simp only [Sem.run_bind,run_underlying hu w,Result.andThen_ok,hs1,if_neg hle,if_neg h0,hzv,Sem.run_pure]
  rw [hf]
  simp [newRow]
 unfold Oper.wp execOp
 simp only [ho,Sem.run_bind,List.map_toArray,List.map_cons,List.map_nil,ex,hrun,Result.andThen_ok,Sem.run_pure]
 have hO:(w.alloc (.cells cs.toArray e)).ownsRow w.heap.size e size (.slice (some ⟨w.heap.size,0,none⟩) 1 1) 1 cs:=World.ownsRow_lit w cs.toArray 1 (Nat.le_refl _) (by unfold maxLen;omega) (by simp [hcl])
 obtain ⟨hp1,hF⟩:=row_of hO
 have g:=hr.gets (Below.alloc (Below.refl _ w) (Nat.le_refl _) (.cells cs.toArray e)) dd (u.q hn) _ _ _ hp1 hF
 show (fun a' w'=>∃ β',Rep W n β' _ a' w') (a.put o.dst (.slice (some ⟨w.heap.size,0,none⟩) 1 1)) (w.alloc (.cells cs.toArray e))
 rw [hdd]
 exact ⟨_,g⟩
theorem u_ext0T (u:Up ops i o L) (hg:Gd ops n o (run L 0 xs σ)) (dd:Nat) (hdd:o.dst=some dd) (x:Operand) (ho:o.op=.extract x 0) {y:Nat} (hx:lookO n ops i o xs σ x=some (.unk y id)) {p:Pd} {t:Value} (hq:lookQ (depsT ops.toList o) i 0 ops.toList xs y (some (σ.q y))=some (some (tupPd p t))):GStep P W n ops o (run L 0 xs σ) ((eS dd (.unk y fstV)).app (run L 0 xs σ)):=by
 have e:(eS dd (.unk y fstV)).app (run L 0 xs σ)=(run L 0 xs σ).set o.dst (.unk y fstV):=by rw [hdd];rfl
 rw [e]
 refine Step.gd hg (v_val _ (fun _ _ e=>by cases e) (fun z g' e=>by cases e;rw [u.qT hq];rfl) fun β a w hr=>?_)
 obtain ⟨v,h1,_⟩:=hr.thing (u.qT hq)
 have ex:a.eval x=(β y).v:=hr.eval (u.ev hx)
 unfold execOp
 simp [ho,ex,h1,fstV,Instr.extract,SV.at]
theorem u_ext1T (u:Up ops i o L) (hg:Gd ops n o (run L 0 xs σ)) (dd:Nat) (hdd:o.dst=some dd) (x:Operand) (ho:o.op=.extract x 1) {y:Nat} (hx:lookO n ops i o xs σ x=some (.unk y id)) {p:Pd} {t:Value} (hq:lookQ (depsT ops.toList o) i 0 ops.toList xs y (some (σ.q y))=some (some (tupPd p t))):GStep P W n ops o (run L 0 xs σ) ((eS dd (.val t)).app (run L 0 xs σ)):=by
 refine u_any u hg dd hdd _ (fun _ _ e=>by cases e) fun β a w hr=>?_
 obtain ⟨v,h1,_⟩:=hr.thing (u.qT hq)
 have ex:a.eval x=(β y).v:=hr.eval (u.ev hx)
 unfold execOp
 simp [ho,ex,h1,Instr.extract,SV.at]
end
end Go.Proofs.YtmigakanbeckpaaGreatDoor
namespace Go.Proofs.YtmigakanbeckpaaGreatDoor
set_option maxRecDepth 100000
open Go.RowKit
structure TyE:Type where
 row:Bool
 size:Nat
 zero:Option (List Value)
 flds:List Nat
 arr:Option (Nat × Nat)
def lkT:List (TypeId × TyE)→TypeId→Option TyE
 | [],_=>none
 | q :: r,t=>bif Nat.beq q.1 t then some q.2 else lkT r t
structure TyOk (P:Program) (t:TypeId) (e:TyE):Prop where
 desc:∃ d,P.underlying t=some d∧d.isRow=e.row
 size:(P.info? t).map (·.size)=some e.size
 zero:∀ z,e.zero=some z→∃ v,(P.info? t).map (·.zero)=some (some v)∧z=v.cells.toList
 fld:∀ (i:Nat) (off:Nat),e.flds[i]?=some off→∃ (fs:Array Field) (f:Field) (k:Nat),P.underlying t=some (.struct fs)∧fs[i]?=some f∧f.offset=off∧(P.info? f.type).map (·.size)=some (k+1)
 arr:∀ (len z:Nat),e.arr=some (len,z)→∃ el,P.underlying t=some (.array len el)∧(P.info? el).map (·.size)=some z
def AllT (P:Program):List (TypeId × TyE)→Prop
 | []=>True
 | q :: r=>TyOk P q.1 q.2∧AllT P r
theorem AllT.at {P:Program}:∀ {tt:List (TypeId × TyE)},AllT P tt→∀ {t:TypeId} {e:TyE},lkT tt t=some e→TyOk P t e
 | [],_,_,_,h=>by cases h
 | q :: r,hl,t,e,h=>by
  rw [lkT] at h
  cases hb:Nat.beq q.1 t with
  | true =>
   simp only [hb,cond_true,Option.some.injEq] at h
   rw [← Nat.eq_of_beq_eq_true hb,← h]
   exact hl.1
  | false =>
   simp only [hb,cond_false] at h
   exact AllT.at hl.2 h
section
variable (tt:List (TypeId × TyE)) (lo:Operand→Option SV) (lm:Nat→Option (Option (List Value)))
def aMove (d:Option Nat) (x:Operand):Option OE:=match d,lo x with
 | some d,some ⟨v,none,none,none⟩=>some (eS d (.val v))
 | some d,some ⟨v,some (y,c),k,none⟩=>match lm y with
  | some (some _)=>some (eS d ⟨v,some (y,c),k,none⟩)
  | _=>none
 | _,_=>none
def aLoad (d:Option Nat) (ty:TypeId) (x:Operand):Option OE:=match d,lo x,lkT tt ty with
 | some d,some ⟨.tuple ⟨[]⟩,some (y,off),none,none⟩,some e=>match lm y with
  | some (some cs)=>match e.row with
   | true=>bif Nat.ble (off+e.size) cs.length then some (eS d (.val (.agg ((cs.drop off).take e.size).toArray))) else none
   | false=>match cs[off]? with
    | some v=>some (eS d (.val v))
    | none=>none
  | _=>none
 | _,_,_=>none
def aStore (d:Option Nat) (ty:TypeId) (x z:Operand):Option OE:=match d,lo x,lkT tt ty,lo z with
 | none,some ⟨.tuple ⟨[]⟩,some (y,off),none,none⟩,some e,some ⟨v,none,none,none⟩=>match lm y,e.row,v with
  | some (some cs),true,.agg ⟨vs⟩=>bif Nat.ble (off+vs.length) cs.length && Nat.beq vs.length e.size && vs.all (·.oneCell') then some (eM y (splice cs off vs)) else none
  | some (some cs),false,v=>bif Nat.ble (off+1) cs.length && Nat.beq e.size 1 && v.oneCell' then some (eM y (splice cs off [v])) else none
  | _,_,_=>none
 | _,_,_,_=>none
def aAlloc (d:Option Nat) (ty:TypeId):Option OE:=match d,lkT tt ty with
 | some d,some e=>match lm d,e.zero with
  | some none,some z=>some (eN d z)
  | _,_=>none
 | _,_=>none
def aBox (d:Option Nat) (x:Operand):Option OE:=match d,lo x with
 | some d,some ⟨v,none,none,none⟩=>match lm d with
  | some none=>some (eN d v.cells.toList)
  | _=>none
 | _,_=>none
def aField (d:Option Nat) (ty:TypeId) (x:Operand) (i:Nat):Option OE:=match d,lo x,lkT tt ty with
 | some d,some ⟨.tuple ⟨[]⟩,some (y,off),none,none⟩,some e=>match lm y,e.flds[i]? with
  | some (some _),some o=>some (eS d (.ptr y (off+o)))
  | _,_=>none
 | _,_,_=>none
def aAt (d:Option Nat) (ty:TypeId) (x ix:Operand):Option OE:=match d,lo x,lkT tt ty,lo ix with
 | some d,some ⟨.tuple ⟨[]⟩,some (y,off),none,none⟩,some e,some ⟨.int _ (.ofNat k),none,none,none⟩=>match lm y,e.arr with
  | some (some _),some (len,z)=>bif Nat.blt k len then some (eS d (.ptr y (off+k*z))) else none
  | _,_=>none
 | _,_,_,_=>none
def aPart (d:Option Nat) (x:Operand) (k:Nat):Option OE:=match d,lo x with
 | some d,some ⟨.tuple ⟨vs⟩,none,none,none⟩=>match vs[k]? with
  | some v=>some (eS d (.val v))
  | none=>none
 | _,_=>none
def aPick (d:Option Nat) (c x y:Operand):Option OE:=match d,lo c,lo x,lo y with
 | some d,some ⟨.bool t,none,none,none⟩,some ⟨vx,none,none,none⟩,some ⟨vy,none,none,none⟩=>some (eS d (.val (bif t then vx else vy)))
 | _,_,_,_=>none
def aNot (d:Option Nat) (x:Operand):Option OE:=match d,lo x with
 | some d,some ⟨.bool t,none,none,none⟩=>some (eS d (.val (.bool (!t))))
 | _,_=>none
def aOp (o:Oper):Option OE:=match o.op with
 | .move x=>aMove lo lm o.dst x
 | .assign x=>aMove lo lm o.dst x
 | .load ty x=>aLoad tt lo lm o.dst ty x
 | .store ty x z=>aStore tt lo lm o.dst ty x z
 | .alloc ty=>aAlloc tt lm o.dst ty
 | .box _ x=>aBox lo lm o.dst x
 | .fieldAddr ty x i=>aField tt lo lm o.dst ty x i
 | .indexAddr ty x ix=>aAt tt lo lm o.dst ty x ix
 | .extract x k=>aPart lo o.dst x k
 | .pick c x y=>aPick lo o.dst c x y
 | .unOp .not _ x=>aNot lo o.dst x
 | _=>none
def aGd (n:Nat) (ops:Array Oper) (o:Oper):Option OE:=match o.guard with
 | none=>aOp tt lo lm o
 | some (j,b)=>match (ops[j]?).bind (·.dst) with
  | some d=>bif Nat.blt d n then (match lo (.tmp d),o.dst with
   | some ⟨.bool c,none,none,none⟩,_=>bif c == b then aOp tt lo lm o else (match o.dst with
    | some dd=>some (eS dd (.val undef))
    | none=>none)
   | some ⟨.tuple ⟨[]⟩,none,none,none⟩,some dd=>some (eS dd (.val undef))
   | _,_=>none) else none
  | none=>none
end
section
variable {P:Program} {W:Bs} {n:Nat} {ops:Array Oper} {i:Nat} {o:Oper} {L:Nat→Bool} {xs:List OE} {σ:SS} {tt:List (TypeId × TyE)} {e:OE}
theorem a_move (u:Up ops i o L) (hg:Gd ops n o (run L 0 xs σ)) {x:Operand} (ho:o.op=.move x∨o.op=.assign x) (h:aMove (lookO n ops i o xs σ) (fun y=>lookM (deps o) i 0 ops.toList xs y (some (σ.m y))) o.dst x=some e):GStep P W n ops o (run L 0 xs σ) (e.app (run L 0 xs σ)):=by
 unfold aMove at h
 split at h
 ·rename_i d v hd hx
  cases h
  exact u_move u hg d hd x ho hx
 ·rename_i d v y c k hd hx
  split at h
  ·rename_i cs hm
   cases h
   exact u_copy u hg d hd x ho hx (fun y' c' hp=>by cases hp;exact ⟨cs,hm⟩)
  ·cases h
 ·cases h
theorem a_load (hT:AllT P tt) (u:Up ops i o L) (hg:Gd ops n o (run L 0 xs σ)) {ty:TypeId} {x:Operand} (ho:o.op=.load ty x) (h:aLoad tt (lookO n ops i o xs σ) (fun y=>lookM (deps o) i 0 ops.toList xs y (some (σ.m y))) o.dst ty x=some e):GStep P W n ops o (run L 0 xs σ) (e.app (run L 0 xs σ)):=by
 unfold aLoad at h
 split at h
 ·rename_i d y off t hd hx ht
  obtain ⟨⟨td,hu,hr⟩,hs,_,_,_⟩:=hT.at ht
  split at h
  ·rename_i cs hm
   split at h
   ·rename_i hrow
    rw [hrow] at hr
    cases hb:Nat.ble (off+t.size) cs.length with
    | false=>simp [hb] at h
    | true =>
     simp only [hb,cond_true,Option.some.injEq] at h
     rw [← h]
     exact u_load u hg d hd ty x ho hx hm hu hr hs (Nat.le_of_ble_eq_true hb) _ rfl
   ·rename_i hrow
    rw [hrow] at hr
    split at h
    ·rename_i v hv
     cases h
     exact u_load1 u hg d hd ty x ho hx hm hu hr v hv
    ·cases h
  ·cases h
 ·cases h
theorem a_store (hT:AllT P tt) (u:Up ops i o L) (hg:Gd ops n o (run L 0 xs σ)) {ty:TypeId} {x z:Operand} (ho:o.op=.store ty x z) (h:aStore tt (lookO n ops i o xs σ) (fun y=>lookM (deps o) i 0 ops.toList xs y (some (σ.m y))) o.dst ty x z=some e):GStep P W n ops o (run L 0 xs σ) (e.app (run L 0 xs σ)):=by
 unfold aStore at h
 split at h
 ·rename_i y off t v hd hx ht hz
  obtain ⟨_,hs,_,_,_⟩:=hT.at ht
  split at h
  ·rename_i cs vs hm hrow
   cases hb:(Nat.ble (off+vs.length) cs.length && Nat.beq vs.length t.size && vs.all (·.oneCell')) with
   | false=>simp [hb] at h
   | true =>
    simp only [hb,cond_true,Option.some.injEq] at h
    simp only [Bool.and_eq_true] at hb
    rw [← h]
    exact u_store u hg ty x z ho hd hx (vs:=vs) hz hm (by rw [hs,Nat.eq_of_beq_eq_true hb.1.2]) (Nat.le_of_ble_eq_true hb.1.1) hb.2 _ rfl
  ·rename_i v _ _ _ cs hm hrow
   cases hb:(Nat.ble (off+1) cs.length && Nat.beq t.size 1 && v.oneCell') with
   | false=>simp [hb] at h
   | true =>
    simp only [hb,cond_true,Option.some.injEq] at h
    simp only [Bool.and_eq_true] at hb
    rw [← h]
    exact u_store1 u hg ty x z ho hd hx hz hm (by rw [hs,Nat.eq_of_beq_eq_true hb.1.2]) (Nat.le_of_ble_eq_true hb.1.1) hb.2 _ rfl
  ·cases h
 ·cases h
theorem a_alloc (hT:AllT P tt) (u:Up ops i o L) (hg:Gd ops n o (run L 0 xs σ)) {ty:TypeId} (ho:o.op=.alloc ty) (h:aAlloc tt (fun y=>lookM (deps o) i 0 ops.toList xs y (some (σ.m y))) o.dst ty=some e):GStep P W n ops o (run L 0 xs σ) (e.app (run L 0 xs σ)):=by
 unfold aAlloc at h
 split at h
 ·rename_i d t hd ht
  obtain ⟨_,_,hz,_,_⟩:=hT.at ht
  split at h
  ·rename_i z hm hz0
   cases h
   obtain ⟨v,h1,h2⟩:=hz z hz0
   exact u_alloc u hg ty ho d hd hm h1 _ h2
  ·cases h
 ·cases h
theorem a_box (u:Up ops i o L) (hg:Gd ops n o (run L 0 xs σ)) {ty:TypeId} {x:Operand} (ho:o.op=.box ty x) (h:aBox (lookO n ops i o xs σ) (fun y=>lookM (deps o) i 0 ops.toList xs y (some (σ.m y))) o.dst x=some e):GStep P W n ops o (run L 0 xs σ) (e.app (run L 0 xs σ)):=by
 unfold aBox at h
 split at h
 ·rename_i d v hd hx
  split at h
  ·rename_i hm
   cases h
   exact u_box u hg ty x ho d hd hm hx _ rfl
  ·cases h
 ·cases h
theorem a_field (hT:AllT P tt) (u:Up ops i o L) (hg:Gd ops n o (run L 0 xs σ)) {ty:TypeId} {x:Operand} {f:Nat} (ho:o.op=.fieldAddr ty x f) (h:aField tt (lookO n ops i o xs σ) (fun y=>lookM (deps o) i 0 ops.toList xs y (some (σ.m y))) o.dst ty x f=some e):GStep P W n ops o (run L 0 xs σ) (e.app (run L 0 xs σ)):=by
 unfold aField at h
 split at h
 ·rename_i d y off t hd hx ht
  obtain ⟨_,_,_,hf,_⟩:=hT.at ht
  split at h
  ·rename_i cs k hm hk
   cases h
   obtain ⟨fs,fd,k,h1,h2,h3,h4⟩:=hf f _ hk
   exact u_field u hg d hd ty x f ho hx hm h1 h2 h4 _ (by rw [h3])
  ·cases h
 ·cases h
theorem a_at (hT:AllT P tt) (u:Up ops i o L) (hg:Gd ops n o (run L 0 xs σ)) {ty:TypeId} {x ix:Operand} (ho:o.op=.indexAddr ty x ix) (h:aAt tt (lookO n ops i o xs σ) (fun y=>lookM (deps o) i 0 ops.toList xs y (some (σ.m y))) o.dst ty x ix=some e):GStep P W n ops o (run L 0 xs σ) (e.app (run L 0 xs σ)):=by
 unfold aAt at h
 split at h
 ·rename_i d y off t kd k hd hx ht hi
  obtain ⟨_,_,_,_,ha⟩:=hT.at ht
  split at h
  ·rename_i cs len z hm hk
   cases hb:Nat.blt k len with
   | false=>simp [hb] at h
   | true =>
    simp only [hb,cond_true,Option.some.injEq] at h
    rw [← h]
    obtain ⟨el,h1,h2⟩:=ha len z hk
    exact u_at u hg d hd ty x ix ho hx hm (k:=k) hi h1 h2 (Nat.blt_eq ▸ hb) _ rfl
  ·cases h
 ·cases h
theorem a_part (u:Up ops i o L) (hg:Gd ops n o (run L 0 xs σ)) {x:Operand} {k:Nat} (ho:o.op=.extract x k) (h:aPart (lookO n ops i o xs σ) o.dst x k=some e):GStep P W n ops o (run L 0 xs σ) (e.app (run L 0 xs σ)):=by
 unfold aPart at h
 split at h
 ·rename_i d vs hd hx
  split at h
  ·rename_i v hv
   cases h
   exact u_part u hg d hd x k ho (vs:=vs) hx v hv
  ·cases h
 ·cases h
theorem a_pick (u:Up ops i o L) (hg:Gd ops n o (run L 0 xs σ)) {c x y:Operand} (ho:o.op=.pick c x y) (h:aPick (lookO n ops i o xs σ) o.dst c x y=some e):GStep P W n ops o (run L 0 xs σ) (e.app (run L 0 xs σ)):=by
 unfold aPick at h
 split at h
 ·rename_i d t vx vy hd hc hx hy
  cases h
  exact u_pick u hg d hd c x y ho hc hx hy _ rfl
 ·cases h
theorem a_not (u:Up ops i o L) (hg:Gd ops n o (run L 0 xs σ)) {ty:TypeId} {x:Operand} (ho:o.op=.unOp .not ty x) (h:aNot (lookO n ops i o xs σ) o.dst x=some e):GStep P W n ops o (run L 0 xs σ) (e.app (run L 0 xs σ)):=by
 unfold aNot at h
 split at h
 ·rename_i d t hd hx
  cases h
  exact u_not u hg d hd ty x ho hx _ rfl
 ·cases h
theorem a_op (hT:AllT P tt) (u:Up ops i o L) (hg:Gd ops n o (run L 0 xs σ)) (h:aOp tt (lookO n ops i o xs σ) (fun y=>lookM (deps o) i 0 ops.toList xs y (some (σ.m y))) o=some e):GStep P W n ops o (run L 0 xs σ) (e.app (run L 0 xs σ)):=by
 unfold aOp at h
 split at h
 ·rename_i x ho;exact a_move u hg (Or.inl ho) h
 ·rename_i x ho;exact a_move u hg (Or.inr ho) h
 ·rename_i ty x ho;exact a_load hT u hg ho h
 ·rename_i ty x z ho;exact a_store hT u hg ho h
 ·rename_i ty ho;exact a_alloc hT u hg ho h
 ·rename_i ty x ho;exact a_box u hg ho h
 ·rename_i ty x f ho;exact a_field hT u hg ho h
 ·rename_i ty x ix ho;exact a_at hT u hg ho h
 ·rename_i x k ho;exact a_part u hg ho h
 ·rename_i c x y ho;exact a_pick u hg ho h
 ·rename_i ty x ho;exact a_not u hg ho h
 ·cases h
theorem u_auto (hT:AllT P tt) (u:Up ops i o L) (h:aGd tt (lookO n ops i o xs σ) (fun y=>lookM (deps o) i 0 ops.toList xs y (some (σ.m y))) n ops o=some e):GStep P W n ops o (run L 0 xs σ) (e.app (run L 0 xs σ)):=by
 unfold aGd at h
 split at h
 ·rename_i hgd
  exact a_op hT u (gd0 hgd) h
 ·rename_i j b hgd
  split at h
  ·rename_i d hd
   cases hn:Nat.blt d n with
   | false=>simp [hn] at h
   | true =>
    have hn':d<n:=Nat.blt_eq ▸ hn
    simp only [hn,cond_true] at h
    split at h
    ·rename_i c hc
     cases hb:(c == b) with
     | true =>
      simp only [hb,cond_true] at h
      have e:c=b:=by simpa using hb
      subst e
      exact a_op hT u (gd1 u j c hgd d hd hn' hc) h
     | false =>
      simp only [hb,cond_false] at h
      have e:c=!b:=by cases c <;> cases b <;> simp_all
      subst e
      split at h
      ·rename_i dd hdd
       cases h
       exact u_no u j b hgd d hd hn' hc dd hdd
      ·cases h
    ·rename_i dd hc hdd
     cases h
     exact u_noU u j b hgd d hd hn' hc dd hdd
    ·cases h
  ·cases h
def AllA (P:Program) (W:Bs) (n:Nat) (tt:List (TypeId × TyE)) (ks:List Nat) (ops:Array Oper) (xs:List OE) (σ:SS):Nat→List Oper→List OE→Prop
 | _,[],_=>True
 | _,_ :: _,[]=>False
 | i,o :: os,x :: r=>(match has ks i with
  | false=>aGd tt (lookO n ops i o xs σ) (fun y=>lookM (deps o) i 0 ops.toList xs y (some (σ.m y))) n ops o=some x
  | true=>∀ L,Up ops i o L→GStep P W n ops o (run L 0 xs σ) (x.app (run L 0 xs σ)))∧AllA P W n tt ks ops xs σ (i+1) os r
theorem AllA.st {ks:List Nat} (hT:AllT P tt):∀ {i:Nat} {os:List Oper} {r:List OE},AllA P W n tt ks ops xs σ i os r→AllSt P W n ops xs σ i os r
 | _,[],_,_=>trivial
 | _,_ :: _,[],h=>h
 | i,o :: os,x :: r,h=>by
  refine ⟨fun L u=>?_,AllA.st hT h.2⟩
  have h1:=h.1
  cases ha:has ks i with
  | false=>rw [ha] at h1;exact u_auto hT u h1
  | true=>rw [ha] at h1;exact h1 L u
end
theorem a_region {y:Code} {P:Program} {W:Bs} {n:Nat} {tt:List (TypeId × TyE)} (hT:AllT P tt) {id:Nat} {ops:Array Oper} {b:Bool} {Q:Exit→Act→World→Prop} {σ:SS} {a:Act} {w:World} (h:Rp W n σ a w) (hm:P.follows .mixedOrders=true) (ks:List Nat) (xs:List OE) (hok:orderOk ops xs=true)
  (hstep:AllA P W n tt ks ops xs σ 0 ops.toList xs) (s:List (Nat × SV)) (m:List (Nat × List Value)) (h1:AllS (run (fun _=>true) 0 xs σ).s s) (h2:AllM (run (fun _=>true) 0 xs σ).m m) (h3:aimed m s=true) (hk:∀ a' w',Rp W n (SS.mk' s m) a' w'→y.wp P Q a' w'):(Code.seq (Code.region id ops b) y).wp P Q a w:=go_region h hm xs hok (hstep.st hT) s m h1 h2 h3 hk
theorem a_end {P:Program} {W:Bs} {n:Nat} {tt:List (TypeId × TyE)} (hT:AllT P tt) {id:Nat} {ops:Array Oper} {b:Bool} {Q:Exit→Act→World→Prop} {σ:SS} {a:Act} {w:World} (h:Rp W n σ a w) (hm:P.follows .mixedOrders=true) (ks:List Nat) (xs:List OE) (hok:orderOk ops xs=true)
  (hstep:AllA P W n tt ks ops xs σ 0 ops.toList xs) (s:List (Nat × SV)) (m:List (Nat × List Value)) (h1:AllS (run (fun _=>true) 0 xs σ).s s) (h2:AllM (run (fun _=>true) 0 xs σ).m m) (h3:aimed m s=true) (hk:∀ a' w',Rp W n (SS.mk' s m) a' w'→Q .normal a' w'):(Code.region id ops b).wp P Q a w:=go_end h hm xs hok (hstep.st hT) s m h1 h2 h3 hk
theorem a_regionQ {y:Code} {P:Program} {W:Bs} {n:Nat} {tt:List (TypeId × TyE)} (hT:AllT P tt) {id:Nat} {ops:Array Oper} {b:Bool} {Q:Exit→Act→World→Prop} {σ:SS} {a:Act} {w:World} (h:Rp W n σ a w) (hm:P.follows .mixedOrders=true) (ks:List Nat) (xs:List OE) (hok:orderOk ops xs=true)
  (hstep:AllA P W n tt ks ops xs σ 0 ops.toList xs) (s:List (Nat × SV)) (m:List (Nat × List Value)) (q:List (Nat × Pd)) (h1:AllS (run (fun _=>true) 0 xs σ).s s) (h2:AllM (run (fun _=>true) 0 xs σ).m m) (hq:AllQ (run (fun _=>true) 0 xs σ).q q) (h3:aimQ m q s=true) (hk:∀ a' w',Rp W n (SS.mkQ s m q) a' w'→y.wp P Q a' w'):(Code.seq (Code.region id ops b) y).wp P Q a w:=go_regionQ h hm xs hok (hstep.st hT) s m q h1 h2 hq h3 hk
theorem a_endQ {P:Program} {W:Bs} {n:Nat} {tt:List (TypeId × TyE)} (hT:AllT P tt) {id:Nat} {ops:Array Oper} {b:Bool} {Q:Exit→Act→World→Prop} {σ:SS} {a:Act} {w:World} (h:Rp W n σ a w) (hm:P.follows .mixedOrders=true) (ks:List Nat) (xs:List OE) (hok:orderOk ops xs=true)
  (hstep:AllA P W n tt ks ops xs σ 0 ops.toList xs) (s:List (Nat × SV)) (m:List (Nat × List Value)) (q:List (Nat × Pd)) (h1:AllS (run (fun _=>true) 0 xs σ).s s) (h2:AllM (run (fun _=>true) 0 xs σ).m m) (hq:AllQ (run (fun _=>true) 0 xs σ).q q) (h3:aimQ m q s=true) (hk:∀ a' w',Rp W n (SS.mkQ s m q) a' w'→Q .normal a' w'):(Code.region id ops b).wp P Q a w:=go_endQ h hm xs hok (hstep.st hT) s m q h1 h2 hq h3 hk
end Go.Proofs.YtmigakanbeckpaaGreatDoor
