/- Bytes of numbers. Walks by states: bytes in states, remainders, and answers that are slices. A row's element put anew; bytes of a thing copied into an own array; append to what has no room left. Small facts that every walk wants (no type of the program is named). Rows of bytes in memory. Words of 64 bits. What the program's own right, choice and majority answer. What the document's own turned answers. Rows of words in memory; what the document's own Start and K answer. What the document's own words answers. What the document's own take answers. Rows of bytes as cells. What the program's own spread answers. What the program's own takeIn answers. What the program's own hash answers. Rows of bytes that may grow. Bytes that are handed in, and bytes that are appended to a row of one's own (no function of the program is named). The message's blocks, as a list (no function of the program is named). -/
import Derived.Test.YtjaahnlpnkcimaaDoorAB02
import Derived.Test.YtjaahnlpnkcimaaDoorAB03
import Derived.Laws.OwnMore
import Derived.Laws.AppendOwn
import Derived.Test.YtjaahnlpnkcimaaDoorRows
import Derived.WalkKit
import Derived.WalkSpells
import Derived.WalkSmall
import Derived.Laws.Externs
import Derived.Laws.Pointers
import Derived.Laws.BitsAllLaws
import Derived.Deep.RegionHeld3
import Derived.Deep.DrawnRows
import Derived.RowKit3
import Derived.LoopN
import Derived.Handy
import Derived.BigQuiet
import Derived.Deep.QuietTactic
import Derived.ChangeKeysEq
import Derived.Deep.WholeRow
import Derived.Deep.MidRow
import Derived.Deep.DeepCutAuto
import Derived.Deep.LoopGhost
import Derived.BigRegion
import Derived.Deep.AppendLies
import Derived.OwnWalk
set_option maxRecDepth 100000
set_option maxHeartbeats 8000000
namespace Go.Proofs.YtjaahnlpnkcimaaDoor
set_option maxRecDepth 100000
open Go.RowKit
def Y (k:Nat) (a:Int):Int:=a / 256 ^ k % 256
theorem Y_lo (k:Nat) (a:Int):0≤Y k a:=Int.emod_nonneg _ (by omega)
theorem Y_hi (k:Nat) (a:Int):Y k a<256:=Int.emod_lt_of_pos _ (by omega)
theorem B_pow (q:Nat):B ^ q=256 ^ (8*q):=by rw [Int.pow_mul];rfl
theorem byte_word (a:Int) (q r:Nat) (hr:r<8):L q a / 256 ^ r % 256=Y (8*q+r) a:=by
 unfold L Y
 rw [Int.pow_add,← B_pow,← Int.ediv_ediv_of_nonneg (Int.le_of_lt (Bk_pos q))]
 generalize a / B ^ q=x
 unfold B
 match r,hr with
 | 0,_=>simp
 | 1,_=>simp;omega
 | 2,_=>simp;omega
 | 3,_=>simp;omega
 | 4,_=>simp;omega
 | 5,_=>simp;omega
 | 6,_=>simp;omega
 | 7,_=>simp;omega
 | n+8,h=>omega
def E (f:Nat→Int) (o:Nat):Nat→Int
 | 0=>0
 | r+1=>E f o r+f (o+r)*256 ^ r
theorem E_bd {f:Nat→Int} (hf:∀ i,0≤f i∧f i<256) (o:Nat):∀ r,0≤E f o r∧E f o r<256 ^ r
 | 0=>by simp [E]
 | r+1=>by
  have h:=E_bd hf o r
  have hp:(0:Int)<256 ^ r:=Int.pow_pos (by omega)
  have h1:=(hf (o+r)).1
  have h2:f (o+r)*256 ^ r≤255*256 ^ r:=Int.mul_le_mul_of_nonneg_right (by have:=(hf (o+r)).2;omega) (Int.le_of_lt hp)
  have h3:0≤f (o+r)*256 ^ r:=Int.mul_nonneg h1 (Int.le_of_lt hp)
  simp only [E,Int.pow_succ]
  omega
theorem E_word (a:Int) (j:Nat):E (fun i=>Y i a) (8*j) 8=L j a:=by
 have h1:=L_lo j a
 have h2:=L_hi j a
 simp only [E,← byte_word a j _ (show 0<8 by omega),← byte_word a j _ (show 1<8 by omega),← byte_word a j _ (show 2<8 by omega),← byte_word a j _ (show 3<8 by omega),← byte_word a j _ (show 4<8 by omega),← byte_word a j _ (show 5<8 by omega),← byte_word a j _ (show 6<8 by omega),← byte_word a j _ (show 7<8 by omega)]
 generalize L j a=x at *
 simp
 omega
theorem E_congr {f g:Nat→Int} (o:Nat):∀ r,(∀ i,i<r→f (o+i)=g (o+i))→E f o r=E g o r
 | 0,_=>rfl
 | r+1,h=>by simp only [E];rw [E_congr o r (fun i hi=>h i (by omega)),h r (by omega)]
end Go.Proofs.YtjaahnlpnkcimaaDoor
namespace Go.Proofs.YtjaahnlpnkcimaaDoor
set_option maxRecDepth 100000
open Go.RowKit
theorem i_rem {P:Program} (ty:TypeId) (k:IntKind) (a b c:Int) (ha:0≤a) (hb:0<b) (hc:c=a % b) (w:World):(binOp .rem ty (.int k a) (.int k b)).run P w=.ok (.int k c) w:=by
 have e:a.tmod b=c:=by rw [hc,Int.tmod_eq_emod_of_nonneg ha]
 have hb0:b≠0:=by omega
 simp [binOp,Op.intDiv,hb0,e]
theorem wrapB {c:Int} (h:0≤c∧c<256):IntKind.u8.wrap c=c:=by
 simp only [IntKind.wrap,IntKind.bits,IntKind.signed]
 simp
 omega
theorem wrapW {c:Int} (h:0≤c∧c<18446744073709551616):IntKind.u64.wrap c=c:=by
 simp only [IntKind.wrap,IntKind.bits,IntKind.signed]
 simp
 omega
abbrev lw (i:Nat) (x:Int):Int:=L i x
def by32 (f:Nat→Int):List Value:=[.int .u8 (f 0),.int .u8 (f 1),.int .u8 (f 2),.int .u8 (f 3),.int .u8 (f 4),.int .u8 (f 5),.int .u8 (f 6),.int .u8 (f 7),.int .u8 (f 8),.int .u8 (f 9),.int .u8 (f 10),.int .u8 (f 11),.int .u8 (f 12),.int .u8 (f 13),.int .u8 (f 14),.int .u8 (f 15),.int .u8 (f 16),.int .u8 (f 17),.int .u8 (f 18),.int .u8 (f 19),.int .u8 (f 20),.int .u8 (f 21),.int .u8 (f 22),.int .u8 (f 23),.int .u8 (f 24),.int .u8 (f 25),.int .u8 (f 26),.int .u8 (f 27),.int .u8 (f 28),.int .u8 (f 29),.int .u8 (f 30),.int .u8 (f 31)]
def by31 (f:Nat→Int) (x:Int):List Value:=[.int .u8 (f 0),.int .u8 (f 1),.int .u8 (f 2),.int .u8 (f 3),.int .u8 (f 4),.int .u8 (f 5),.int .u8 (f 6),.int .u8 (f 7),.int .u8 (f 8),.int .u8 (f 9),.int .u8 (f 10),.int .u8 (f 11),.int .u8 (f 12),.int .u8 (f 13),.int .u8 (f 14),.int .u8 (f 15),.int .u8 (f 16),.int .u8 (f 17),.int .u8 (f 18),.int .u8 (f 19),.int .u8 (f 20),.int .u8 (f 21),.int .u8 (f 22),.int .u8 (f 23),.int .u8 (f 24),.int .u8 (f 25),.int .u8 (f 26),.int .u8 (f 27),.int .u8 (f 28),.int .u8 (f 29),.int .u8 (f 30),.int .u8 x]
theorem by32_at (f:Nat→Int):∀ i,i<32→(by32 f)[i]?=some (.int .u8 (f i)):=by
 intro i hi
 match i,hi with
 | 0,_=>rfl
 | 1,_=>rfl
 | 2,_=>rfl
 | 3,_=>rfl
 | 4,_=>rfl
 | 5,_=>rfl
 | 6,_=>rfl
 | 7,_=>rfl
 | 8,_=>rfl
 | 9,_=>rfl
 | 10,_=>rfl
 | 11,_=>rfl
 | 12,_=>rfl
 | 13,_=>rfl
 | 14,_=>rfl
 | 15,_=>rfl
 | 16,_=>rfl
 | 17,_=>rfl
 | 18,_=>rfl
 | 19,_=>rfl
 | 20,_=>rfl
 | 21,_=>rfl
 | 22,_=>rfl
 | 23,_=>rfl
 | 24,_=>rfl
 | 25,_=>rfl
 | 26,_=>rfl
 | 27,_=>rfl
 | 28,_=>rfl
 | 29,_=>rfl
 | 30,_=>rfl
 | 31,_=>rfl
 | n+32,h=>omega
theorem by32_len (f:Nat→Int):(by32 f).length=32:=rfl
theorem by32_ext {f g:Nat→Int} (h:∀ i,i<32→f i=g i):by32 f=by32 g:=by
 unfold by32
 rw [h 0 (by decide),h 1 (by decide),h 2 (by decide),h 3 (by decide),h 4 (by decide),h 5 (by decide),h 6 (by decide),h 7 (by decide),h 8 (by decide),h 9 (by decide),h 10 (by decide),h 11 (by decide),h 12 (by decide),h 13 (by decide),h 14 (by decide),h 15 (by decide),h 16 (by decide),h 17 (by decide),h 18 (by decide),h 19 (by decide),h 20 (by decide),h 21 (by decide),h 22 (by decide),h 23 (by decide),h 24 (by decide),h 25 (by decide),h 26 (by decide),h 27 (by decide),h 28 (by decide),h 29 (by decide),h 30 (by decide),h 31 (by decide)]
theorem by31_ext {f g:Nat→Int} {x:Int} (h:∀ i,i<31→f i=g i) (hx:x=g 31):by31 f x=by32 g:=by
 unfold by32 by31
 rw [h 0 (by decide),h 1 (by decide),h 2 (by decide),h 3 (by decide),h 4 (by decide),h 5 (by decide),h 6 (by decide),h 7 (by decide),h 8 (by decide),h 9 (by decide),h 10 (by decide),h 11 (by decide),h 12 (by decide),h 13 (by decide),h 14 (by decide),h 15 (by decide),h 16 (by decide),h 17 (by decide),h 18 (by decide),h 19 (by decide),h 20 (by decide),h 21 (by decide),h 22 (by decide),h 23 (by decide),h 24 (by decide),h 25 (by decide),h 26 (by decide),h 27 (by decide),h 28 (by decide),h 29 (by decide),h 30 (by decide),hx]
theorem rd_by {w:World} {b:Nat} {f:Nat→Int} (h:w.rangeAt b 0 (by32 f)):Rd w b 0 32 f:=⟨fun i hi=>h i _ (by32_at f i hi)⟩
def New32 (f:Nat→Int) (w:World) (e:Ending) (w':World):Prop:=∃ b c,e=.returned (.slice (some ⟨b,0,none⟩) 32 c)∧32≤c∧w.heap.size≤b∧b<w'.heap.size∧w'.rangeAt b 0 (by32 f)∧w'.there b 0 32∧Below w.heap.size w w'
theorem new32_row {f:Nat→Int} {w w':World} {e:Ending} {g cap:Nat} (he:e=.returned (.slice (some ⟨g,0,none⟩) 32 cap)) (hg:w.heap.size≤g) (hc:32≤cap) (hr:Row8 w' g 32 f) (hb:Below w.heap.size w w'):New32 f w e w' :=
 ⟨g,cap,he,hc,hg,hr.lt,fun j v hj=>by
  have hl:j<32:=by
   rcases Nat.lt_or_ge j 32 with h | h
   ·exact h
   ·rw [List.getElem?_eq_none (by rw [by32_len];exact h)] at hj;cases hj
  rw [Nat.zero_add,hr.c j hl,← by32_at f j hl];exact hj,fun j hj=>by
  rw [Nat.zero_add]
  exact ⟨by rw [hr.c j hj];rfl,hr.z j hj⟩,hb⟩
def NewC (f:Nat→Int) (w:World) (e:Ending) (w':World):Prop:=∃ b,e=.returned (.slice (some ⟨b,0,none⟩) 32 32)∧w.heap.size≤b∧b<w'.heap.size∧w'.rangeAt b 0 (by32 f)∧w'.there b 0 32∧Below w.heap.size w w'
theorem newC_row {f:Nat→Int} {w w':World} {e:Ending} {g:Nat} (he:e=.returned (.slice (some ⟨g,0,none⟩) 32 32)) (hg:w.heap.size≤g) (hr:Row8 w' g 32 f) (hb:Below w.heap.size w w'):NewC f w e w':=by
 obtain ⟨b,c,h1,_,h2,h3,h4,h5,h6⟩:=new32_row he hg (Nat.le_refl _) hr hb
 rw [he] at h1
 cases h1
 exact ⟨g,he,h2,h3,h4,h5,h6⟩
theorem ret_newC {P:Program} {w0:World} {n:Nat} {σ:SS} {a:Act} {w:World} {fn:Func} {f:Nat→Int} (h:Rp (Bs.of w0) n σ a w) (d:Nat) (hres:fn.results=#[.tmp d]) (hd:d<n) (x:Nat) (hs:σ.s d=some (.sli x 0 32 32)) {cs:List Value} (hm:σ.m x=some cs) (hcs:cs=by32 f):bodyPost P fn (NewC f w0) .ret a w:=by
 obtain ⟨β,hp⟩:=h
 have e:a.tmps[d]?=some (.slice (some ⟨(β x).b,0,none⟩) 32 32):=by
  rw [hp.sl d _ hd hs]
  rfl
 obtain ⟨h1,h2,h3,h4⟩:=hp.va x cs hm
 subst hcs
 refine ⟨hp.df,.slice (some ⟨(β x).b,0,none⟩) 32 32,by simp [results,hres,e],(β x).b,rfl,?_,h2,h3,h4,Bs.kp_of hp.bl⟩
 rcases h1 with h1 | h1
 ·exact h1
 ·cases h1
end Go.Proofs.YtjaahnlpnkcimaaDoor
namespace Go.Proofs.YtjaahnlpnkcimaaDoor
set_option maxRecDepth 100000
open Go.RowKit
theorem fl_getD {l:List Nat} {n:Nat} (h:l.length=n):fl (fun i=>l.getD i 0) n=l:=by
 apply List.ext_getElem?
 intro i
 rcases Nat.lt_or_ge i n with hi | hi
 ·rw [fl_at _ hi,List.getElem?_eq_getElem (by omega)]
  simp [List.getD_eq_getElem?_getD,List.getElem?_eq_getElem (show i<l.length by omega)]
 ·rw [List.getElem?_eq_none (by rw [fl_len];exact hi),List.getElem?_eq_none (by omega)]
theorem lt_app {l m:List Nat} (h1:∀ x ∈ l,x<256) (h2:∀ x ∈ m,x<256):∀ x ∈ l++m,x<256:=fun x hx=>(List.mem_append.1 hx).elim (h1 x) (h2 x)
theorem len_app {l m:List Nat} {a b:Nat} (h1:l.length=a) (h2:m.length=b):(l++m).length=a+b:=by rw [List.length_append,h1,h2]
theorem lt_take {l:List Nat} (h:∀ x ∈ l,x<256) (k:Nat):∀ x ∈ l.take k,x<256:=fun x hx=>h x (List.mem_of_mem_take hx)
theorem lt_drop {l:List Nat} (h:∀ x ∈ l,x<256) (k:Nat):∀ x ∈ l.drop k,x<256:=fun x hx=>h x (List.mem_of_mem_drop hx)
theorem len_take {l:List Nat} {n:Nat} (h:l.length=n) (k:Nat) (hk:k≤n):(l.take k).length=k:=by rw [List.length_take,h];omega
theorem len_drop {l:List Nat} {n:Nat} (h:l.length=n) (k:Nat):(l.drop k).length=n-k:=by rw [List.length_drop,h]
theorem lt_set {l:List Nat} (h:∀ x ∈ l,x<256) (k:Nat) {b:Nat} (hb:b<256):∀ x ∈ l.set k b,x<256:=fun x hx=>(List.mem_or_eq_of_mem_set hx).elim (h x) (fun e=>e ▸ hb)
def exPd (n:Nat) (l:List Nat):Pd:=⟨fun v F w=>(rdPd n l).p v F w∧∃ g,v=.slice (some ⟨g,0,none⟩) n n,fun hs hb ⟨h1,h2⟩=>⟨(rdPd n l).keep hs hb h1,h2⟩⟩
theorem vr_ex {n:Nat} {l:List Nat}:Vr (exPd n l) id n l:=fun _ _ _ h=>h.1
theorem rm_ex {n:Nat} {l:List Nat} (hn:n≤1000000) {v:Value} {F:Nat→Bool} {w:World} (h:(exPd n l).p v F w):(rmPd n l).p v F w:=⟨h.1,by obtain ⟨g,rfl⟩:=h.2;exact ⟨_,_,_,rfl,by unfold maxLen;omega⟩⟩
section
variable {W:Bs} {n:Nat} {ops:Array Oper} {i:Nat} {o:Oper} {L:Nat→Bool} {xs:List OE} {σ:SS}
theorem u_cpyQ (u:Up ops i o L) (hg:Gd ops n o (run L 0 xs σ)) (dd:Nat) (hdd:o.dst=some dd) (x s:Operand) (ho:o.op=.call { callee:=.builtin .copy,args:=#[x,s],argTypes:=#[24,24] }) {y off k k':Nat} (hx:lookO n ops i o xs σ x=some (.sli y off k k')) {cs:List Value} (hm:lookM (deps o) i 0 ops.toList xs y (some (σ.m y))=some (some cs)) {t:Nat} {g:Value→Value} (hs:lookO n ops i o xs σ s=some (.unk t g)) {p:Pd} (hq:lookQ (deps o) i 0 ops.toList xs t (some (σ.q t))=some (some p)) {m:Nat} {l:List Nat} (hv:Vw p g m l) (hk:m≤k) (hl:off+m≤cs.length) (cs':List Value) (hc:cs'=splice cs off (cells8 l)):GStep Tryd.prog W n ops o (run L 0 xs σ) ((⟨some (dd,.val (.int .i64 (m:Int))),some (y,cs'),none,none,none⟩:OE).app (run L 0 xs σ)):=by
 subst hc
 refine Step.gd hg fun β a w Q hr=>?_
 have hm0:=u.m hm
 obtain ⟨_,_,_,c4⟩:=hr.va y cs hm0
 obtain ⟨z,c,h1,_,h3,hba⟩:=hv _ _ _ (hr.thing (u.q hq))
 have ex:a.eval x=.slice (some ⟨(β y).b,off,none⟩) k k':=hr.eval (u.ev hx)
 have es:a.eval s=.slice z m c:=(hr.eval (u.ev hs)).trans h1
 have efl:fl (fun i=>l.getD i 0) m=l:=fl_getD h3
 have hlen:(cells8 l).length=m:=by rw [cells8_len,h3]
 have hrun:=run_copyB (c:=c) (dCap:=k') (b:=(β y).b) (o:=off) hba hk (fun j hj=>by have:=c4 (off+j) (by omega);rw [Nat.zero_add] at this;exact this) o.type
 rw [efl] at hrun
 unfold Oper.wp execOp
 simp only [ho,resolve,invoke,builtin,Sem.run_bind,Sem.run_pure,Result.andThen_ok,List.map_toArray,List.map_cons,List.map_nil,ex,es,hrun]
 have g:=(hr.stored (vs:=cells8 l) hm0 (by rw [hlen];exact hl)).put (some dd) (.val (.int .i64 (m:Int))) val_hp val_hu
 show (fun a' w'=>∃ β',Rep W n β' _ a' w') (a.put o.dst (goInt m)) (w.setCells (β y).b off (cells8 l))
 rw [hdd]
 exact ⟨β,g⟩
end
section
variable {W:Bs} {n:Nat} {ops:Array Oper} {i:Nat} {o:Oper} {σ:SS} {Q:Exit→Act→World→Prop} {rest:List Nat} {a:Act} {w:World}
theorem sq_appX (h:Rp W n σ a w) (ho:ops[i]?=some o) (hg:Gd ops n o σ) (dd:Nat) (hdd:o.dst=some dd) (hn:σ.q dd=none) (s x:Operand) (hop:o.op=.call { callee:=.builtin .append,args:=#[s,x],argTypes:=#[24,24] }) (y:Nat) (hs:σ.ev n s=some (.unk y id)) {l:List Nat} (hy:σ.q y=some (exPd 32 l)) {f:Nat→Nat} (hx:∀ β,Rep W n β σ a w→∃ z c,a.eval x=.slice z 32 c∧BA w z 32 f)
  (hk:∀ (a':Act) (w':World),Rp W n ((σ.obj dd (rowPd 5 1 (32+32) (cells8 (l++fl f 32)))).set (some dd) (.unk dd id)) a' w'→wpOps Tryd.prog ops Q rest a' w'):wpOps Tryd.prog ops Q (i :: rest) a w:=by
 obtain ⟨β,hr⟩:=h
 obtain ⟨⟨z0,c0,e1,_,e3,e4,_⟩,g,e5⟩:=hr.thing hy
 obtain ⟨zx,cx,hex,hbx⟩:=hx β hr
 rw [e5] at e1
 cases e1
 have hes:a.eval s=.slice (some ⟨g,0,none⟩) 32 32:=(hr.eval hs).trans e5
 rcases hbx.at_ with h0 | ⟨d,q,rfl,hrd⟩
 ·omega
 rcases e4.at_ with h0 | ⟨d1,q1,e6,hrd1⟩
 ·omega
 cases e6
 obtain ⟨i0,hi,hz0,hz1,hz2⟩:=info_parts info8
 have hlo:(cells8 l).length=32*i0.size:=by rw [cells8_len,e3,hz1]
 have hln:(cells8 (fl f 32)).length=32*i0.size:=by rw [cells8_len,fl_len,hz1]
 have holds:∀ j v,(cells8 l)[j]?=some v→w.cell? (Addr.add ⟨g,0,none⟩ j)=some v:=fun j v hj=>by
  have hlt:j<32:=by have:=(List.getElem?_eq_some_iff.1 hj).1;rw [cells8_len,e3] at this;exact this
  rw [cells8_at l j (by omega)] at hj
  cases hj
  have:=hrd1.c j hlt
  rw [Addr.add_mid]
  exact this
 have hnews:∀ j v,(cells8 (fl f 32))[j]?=some v→w.cell? (Addr.add ⟨d,q,none⟩ j)=some v:=fun j v hj=>by
  have hlt:j<32:=by have:=(List.getElem?_eq_some_iff.1 hj).1;rw [cells8_len,fl_len] at this;exact this
  rw [cells8_at _ j (by rw [fl_len];exact hlt),List.getD_eq_getElem?_getD,fl_at f hlt] at hj
  cases hj
  have:=hrd.c j hlt
  rw [Addr.add_mid]
  exact this
 have hrun:=run_append_grow (P:=Tryd.prog) w 24 o.type 5 i0 (.int .u8 0) Tryd.underlying24 hi hz0 ⟨g,0,none⟩ 32 32 (cells8 l) hlo holds ⟨d,q,none⟩ 32 cx (cells8 (fl f 32)) hln hnews (by decide) (by decide) (by rw [hz2];decide)
 have hge:=grownCap_ge w (32+32) 32 5
 have hcm:grownCap w (32+32) 32 5≤maxLen:=grownCap_le_maxLen w (32+32) 32 5 (by decide)
 have hO:(w.drew.alloc (.cells ((cells8 l).toArray++(cells8 (fl f 32)).toArray++Builtin.zeroCells (Value.int .u8 0).cells (grownCap w (32+32) 32 5-(32+32))) 5)).ownsRow w.heap.size 5 1 (.slice (some ⟨w.heap.size,0,none⟩) (32+32) (grownCap w (32+32) 32 5)) (32+32) (cells8 (l++fl f 32)):=by
  have ec:cells8 (l++fl f 32)=cells8 l++cells8 (fl f 32):=by unfold cells8;rw [List.map_append]
  have hlen:(cells8 l++cells8 (fl f 32)).length=(32+32)*1:=by rw [List.length_append,cells8_len,cells8_len,e3,fl_len]
  rw [ec]
  refine ⟨hlen,.inr ⟨w.heap.size,_,_,rfl,Nat.le_refl _,heap_alloc_new w.drew _,hge,hcm,?_,?_⟩⟩
  ·simp only [Array.size_append,List.size_toArray,size_zeroCells,cells8_len,e3,fl_len,show (Value.int .u8 0).cells.size=1 from rfl]
   omega
  ·simp only [Array.toList_append,List.append_assoc]
   rw [← List.append_assoc,← hlen]
   exact List.take_left
 obtain ⟨hp1,hF⟩:=row_of hO
 have hbl:Below w.heap.size w (w.drew.alloc (.cells ((cells8 l).toArray++(cells8 (fl f 32)).toArray++Builtin.zeroCells (Value.int .u8 0).cells (grownCap w (32+32) 32 5-(32+32))) 5)):=Below.alloc (Below.refl _ w).drew (Nat.le_refl _) _
 have g2:=hr.gets hbl dd hn _ _ _ hp1 hF
 rw [wpOps_cons]
 refine wpOp_step ho (fun K' hK=>?_)
 rw [if_pos (yes_wanted hr hg)]
 unfold Oper.wp execOp
 simp only [hop,resolve,invoke,builtin,Sem.run_bind,Sem.run_pure,Result.andThen_ok,List.map_toArray,List.map_cons,List.map_nil,hes,hex,hrun]
 show K' (a.put o.dst _) _
 rw [hdd]
 exact hK _ _ (hk _ _ ⟨_,g2⟩)
end
end Go.Proofs.YtjaahnlpnkcimaaDoor
namespace Go.Proofs.YtjaahnlpnkcimaaDoor.Sx
set_option maxRecDepth 100000
open Go.RowKit
theorem later {W w1:World} {p:Addr} {v:Value} (hb:Below W.heap.size W w1) (h:W.cell? p=some v):w1.cell? p=some v:=by
 have hp:p.block<W.heap.size:=by
  cases Nat.lt_or_ge p.block W.heap.size with
  | inl h=>exact h
  | inr h' =>
   have:W.heap[p.block]?=none:=by simp [h']
   simp [World.cell?,this] at h
 rw [hb.cell hp];exact h
theorem K.alloc {w w':World} (h:Below w.heap.size w w') (o:Obj):Below w.heap.size w (w'.alloc o):=h.alloc h.size o
theorem K.call {w w' w1:World} (h:Below w.heap.size w w') (hb:Below w'.heap.size w' w1):Below w.heap.size w w1:=h.trans (hb.mono h.size)
theorem K.drew {w w':World} (h:Below w.heap.size w w'):Below w.heap.size w w'.drew:=h.drew
theorem K.set {W w':World} {p:Addr} (h:Below W.heap.size W w') (hp:W.heap.size≤p.block) (u:Value):Below W.heap.size W (w'.setCell p u):=h.setCell hp u
theorem hide {p:Prop} (h:p):Hid p:=h
end Go.Proofs.YtjaahnlpnkcimaaDoor.Sx
namespace Go.Proofs.YtjaahnlpnkcimaaDoor.Sx
set_option maxRecDepth 100000
open Go.RowKit
structure Rd (w:World) (b o n:Nat) (f:Nat→Int):Prop where
 c:∀ i,i<n→w.cell? ⟨b,o+i,none⟩=some (.int .u8 (f i))
structure Row8 (w:World) (b n:Nat) (f:Nat→Int):Prop where
 lt:b<w.heap.size
 c:∀ i,i<n→w.cell? ⟨b,i,none⟩=some (.int .u8 (f i))
 z:∀ i,i<n→w.frozen? ⟨b,i,none⟩=false
theorem Rd.keep {W w1:World} {b o n:Nat} {f:Nat→Int} (h:Rd W b o n f) (hb:Below W.heap.size W w1):Rd w1 b o n f :=
 ⟨fun i hi=>later hb (h.c i hi)⟩
theorem Rd.part {w:World} {b o n:Nat} {f:Nat→Int} (h:Rd w b o n f) (k m:Nat) (hk:k+m≤n):Rd w b (o+k) m (fun i=>f (k+i)) :=
 ⟨fun i hi=>by have:=h.c (k+i) (by omega);rwa [← Nat.add_assoc] at this⟩
theorem Rd.congr {w:World} {b o n:Nat} {f g:Nat→Int} (h:Rd w b o n f) (e:∀ i,i<n→f i=g i):Rd w b o n g :=
 ⟨fun i hi=>by rw [← e i hi];exact h.c i hi⟩
theorem Row8.keep {W w1:World} {b n:Nat} {f:Nat→Int} (h:Row8 W b n f) (hb:Below W.heap.size W w1):Row8 w1 b n f :=
 ⟨Nat.lt_of_lt_of_le h.lt hb.size,fun i hi=>later hb (h.c i hi),fun i hi=>(hb.frozen (p:=⟨b,i,none⟩) h.lt).trans (h.z i hi)⟩
theorem Row8.rd {w:World} {b n:Nat} {f:Nat→Int} (h:Row8 w b n f):Rd w b 0 n f:=⟨fun i hi=>by rw [Nat.zero_add];exact h.c i hi⟩
theorem Row8.congr {w:World} {b n:Nat} {f g:Nat→Int} (h:Row8 w b n f) (e:∀ i,i<n→f i=g i):Row8 w b n g :=
 ⟨h.lt,fun i hi=>by rw [← e i hi];exact h.c i hi,h.z⟩
theorem Row8.store {w:World} {b n:Nat} {f:Nat→Int} (h:Row8 w b n f) (k:Nat) (hk:k<n) (v:Int):Row8 (w.setCell ⟨b,k,none⟩ (.int .u8 v)) b n (fun i=>if i=k then v else f i):=by
 refine ⟨by simpa using h.lt,fun i hi=>?_,fun i hi=>by rw [World.frozen?_setCell];exact h.z i hi⟩
 have hc:=h.c i hi
 have hcs:=h.c k hk
 by_cases e:i=k
 ·subst e;simp [go_sem,hc]
 ·simp [go_sem,hc,e]
end Go.Proofs.YtjaahnlpnkcimaaDoor.Sx
namespace Go.Proofs.YtjaahnlpnkcimaaDoor.Sx
set_option maxRecDepth 100000
open Go.RowKit
theorem IntKind.wrap_u64' (n:Int):IntKind.u64.wrap n=n % 18446744073709551616:=by simp [IntKind.wrap,IntKind.bits,IntKind.signed]
abbrev Wd:=BitVec 64
def wn (x:Wd):Int:=(x.toNat:Int)
def wadd (x y:Wd):Wd:=x+y
def wor (x y:Wd):Wd:=x ||| y
def wand (x y:Wd):Wd:=x &&& y
def wxor (x y:Wd):Wd:=x ^^^ y
def wnot (x:Wd):Wd := ~~~x
def wshr (x:Wd) (n:Nat):Wd:=x >>> n
def wshl (x:Wd) (n:Nat):Wd:=x <<< n
def wmul (x:Wd) (n:Nat):Wd:=x*BitVec.ofNat 64 n
theorem wn_lt (x:Wd):wn x<18446744073709551616:=by have:=x.isLt;unfold wn;omega
theorem wn_nn (x:Wd):0≤wn x:=by unfold wn;omega
theorem wn_of (n:Nat) (h:n<18446744073709551616):wn (BitVec.ofNat 64 n)=(n:Int):=by
 unfold wn;rw [BitVec.toNat_ofNat];omega
theorem wn_add (x y:Wd):IntKind.u64.wrap (wn x+wn y)=wn (wadd x y):=by
 unfold wn wadd;rw [IntKind.wrap_u64',BitVec.toNat_add];omega
theorem wn_or (x y:Wd):bits .or .u64 (wn x) (wn y)=wn (wor x y):=by
 unfold wn wor;rw [u64_or_nat _ _ x.isLt y.isLt,BitVec.toNat_or]
theorem wn_and (x y:Wd):bits .and .u64 (wn x) (wn y)=wn (wand x y):=by
 unfold wn wand;rw [u64_and_nat _ _ x.isLt y.isLt,BitVec.toNat_and]
theorem wn_xor (x y:Wd):bits .xor .u64 (wn x) (wn y)=wn (wxor x y):=by
 unfold wn wxor;rw [u64_xor_nat _ _ x.isLt y.isLt,BitVec.toNat_xor]
theorem wn_shr (x:Wd) (n:Nat):wn x / (2 ^ n:Nat)=wn (wshr x n):=by
 unfold wn wshr;rw [BitVec.toNat_ushiftRight,Nat.shiftRight_eq_div_pow];rfl
theorem wn_shl (x:Wd) (n:Nat):(wn x*(2 ^ n:Nat)) % 18446744073709551616=wn (wshl x n):=by
 unfold wn wshl;rw [BitVec.toNat_shiftLeft,Nat.shiftLeft_eq]
 omega
theorem wn_shl' (x:Wd) (n:Nat):wn x <<< n % 18446744073709551616=wn (wshl x n):=by
 rw [Int.shiftLeft_eq,← wn_shl];rfl
def rotr (x:Wd) (n:Nat):Wd:=x >>> n ||| x <<< (64-n)
def ssg0 (x:Wd):Wd:=rotr x 1 ^^^ rotr x 8 ^^^ x >>> 7
def ssg1 (x:Wd):Wd:=rotr x 19 ^^^ rotr x 61 ^^^ x >>> 6
def bsg0 (x:Wd):Wd:=rotr x 28 ^^^ rotr x 34 ^^^ rotr x 39
def bsg1 (x:Wd):Wd:=rotr x 14 ^^^ rotr x 18 ^^^ rotr x 41
def chW (x y z:Wd):Wd:=x &&& y ||| ~~~x &&& z
def majW (x y z:Wd):Wd:=x &&& y ||| x &&& z ||| y &&& z
structure St where (a:Wd) (b:Wd) (c:Wd) (d:Wd) (e:Wd) (f:Wd) (g:Wd) (h:Wd) deriving DecidableEq
def rnd (s:St) (k w:Wd):St :=
 ⟨(s.h+bsg1 s.e+chW s.e s.f s.g+k+w)+(bsg0 s.a+majW s.a s.b s.c),s.a,s.b,s.c,s.d+(s.h+bsg1 s.e+chW s.e s.f s.g+k+w),s.e,s.f,s.g⟩
def rnds (k w:Nat→Wd) (s:St):Nat→St
 | 0=>s
 | t+1=>rnd (rnds k w s t) (k t) (w t)
def addS (s v:St):St:=⟨s.a+v.a,s.b+v.b,s.c+v.c,s.d+v.d,s.e+v.e,s.f+v.f,s.g+v.g,s.h+v.h⟩
def kList:List Nat:=[4794697086780616226,8158064640168781261,13096744586834688815,16840607885511220156,4131703408338449720,6480981068601479193,10538285296894168987,12329834152419229976,15566598209576043074,1334009975649890238,2608012711638119052,6128411473006802146,8268148722764581231,9286055187155687089,11230858885718282805,13951009754708518548,16472876342353939154,17275323862435702243,1135362057144423861,2597628984639134821,3308224258029322869,5365058923640841347,6679025012923562964,8573033837759648693,10970295158949994411,12119686244451234320,12683024718118986047,13788192230050041572,14330467153632333762,15395433587784984357,489312712824947311,1452737877330783856,2861767655752347644,3322285676063803686,5560940570517711597,5996557281743188959,7280758554555802590,8532644243296465576,9350256976987008742,10552545826968843579,11727347734174303076,12113106623233404929,14000437183269869457,14369950271660146224,15101387698204529176,15463397548674623760,17586052441742319658,1182934255886127544,1847814050463011016,2177327727835720531,2830643537854262169,3796741975233480872,4115178125766777443,5681478168544905931,6601373596472566643,7507060721942968483,8399075790359081724,8693463985226723168,9568029438360202098,10144078919501101548,10430055236837252648,11840083180663258601,13761210420658862357,14299343276471374635,14566680578165727644,15097957966210449927,16922976911328602910,17689382322260857208,500013540394364858,748580250866718886,1242879168328830382,1977374033974150939,2944078676154940804,3659926193048069267,4368137639120453308,4836135668995329356,5532061633213252278,6448918945643986474,6902733635092675308,7801388544844847127]
def kW (t:Nat):Wd:=BitVec.ofNat 64 (kList.getD t 0)
def start:St:=⟨7640891576956012808#64,13503953896175478587#64,4354685564936845355#64,11912009170470909681#64,5840696475078001361#64,11170449401992604703#64,2270897969802886507#64,6620516959819538809#64⟩
def sched (m:Nat→Wd) (t:Nat):Wd:=if t<16 then m t else ssg1 (sched m (t-2))+sched m (t-7)+ssg0 (sched m (t-15))+sched m (t-16)
termination_by t
decreasing_by all_goals omega
theorem sched_low (m:Nat→Wd) {t:Nat} (h:t<16):sched m t=m t:=by rw [sched,if_pos h]
theorem sched_up (m:Nat→Wd) {t:Nat} (h:¬ t<16):sched m t=ssg1 (sched m (t-2))+sched m (t-7)+ssg0 (sched m (t-15))+sched m (t-16):=by rw [sched,if_neg h]
def wordP (p:Nat→Nat) (t:Nat):Nat→Wd
 | 0=>0
 | i+1=>wordP p t i*BitVec.ofNat 64 256+BitVec.ofNat 64 (p (8*t+i))
def takeB (s:St) (p:Nat→Nat):St:=addS s (rnds kW (sched (fun t=>wordP p t 8)) s 80)
def padLen (n:Nat):Nat:=(n+16) / 128*128+128
def pad (f:Nat→Nat) (n i:Nat):Nat:=if i<n then f i else if i=n then 128 else if i<padLen n-8 then 0 else (8*n) / 256 ^ (padLen n-1-i) % 256
def hs (p:Nat→Nat):Nat→St
 | 0=>start
 | k+1=>takeB (hs p k) (fun i=>p (128*k+i))
def hashS (f:Nat→Nat) (n:Nat):St:=hs (pad f n) (padLen n / 128)
def St.w (s:St):Nat→Wd
 | 0=>s.a
 | 1=>s.b
 | 2=>s.c
 | 3=>s.d
 | 4=>s.e
 | 5=>s.f
 | 6=>s.g
 | _=>s.h
def hByte (s:St) (i:Nat):Nat:=(s.w (i / 8)).toNat / 256 ^ (7-i % 8) % 256
end Go.Proofs.YtjaahnlpnkcimaaDoor.Sx
namespace Go.Proofs.YtjaahnlpnkcimaaDoor.Sx
set_option maxRecDepth 100000
open Go.RowKit
attribute [local go_sem ↓] Go.wp_at_zero Go.wp_at_succ
attribute [local go_sem] wn_or wn_and
theorem rot_of (x:Wd) (n:Nat):wor (wshl x (64-n)) (wshr x n)=rotr x n:=by
 unfold wor wshl wshr rotr;exact BitVec.or_comm _ _
theorem shl8_or (x:Wd) (v:Nat) (hv:v<256):wor (wshl x 8) (BitVec.ofNat 64 v)=wadd (wmul x 256) (BitVec.ofNat 64 v):=by
 apply BitVec.eq_of_toNat_eq
 unfold wor wshl wadd wmul
 have hx:=x.isLt
 rw [BitVec.toNat_or,BitVec.toNat_shiftLeft,BitVec.toNat_add,BitVec.toNat_mul,BitVec.toNat_ofNat,BitVec.toNat_ofNat,Nat.shiftLeft_eq,Nat.mod_eq_of_lt (show v<2 ^ 64 by omega)]
 have e:x.toNat*2 ^ 8 % 2 ^ 64=(x.toNat % 72057594037927936) <<< 8:=by rw [Nat.shiftLeft_eq];omega
 rw [e,← Nat.shiftLeft_add_eq_or_of_lt (show v<2 ^ 8 by omega),Nat.shiftLeft_eq]
 omega
theorem rotl_1 (x:Wd) (w:World):Calls Tryd.prog 92 #[.int .u64 (wn x),.int .i64 (-1)] w fun e w'=>e=.returned (.int .u64 (wn (rotr x 1)))∧w'=w:=by
 rw [← rot_of x 1]
 have h1:wn x / 2=wn (wshr x 1):=wn_shr x 1
 have h2:wn x <<< 63 % 18446744073709551616=wn (wshl x 63):=wn_shl' x 63
 have h3:wn x*9223372036854775808 % 18446744073709551616=wn (wshl x 63):=wn_shl x 63
 have h4:IntKind.u64.wrap (wn x*9223372036854775808)=wn (wshl x 63):=by rw [IntKind.wrap_u64',h3]
 have hlo:=wn_nn x
 have hhi:=wn_lt x
 have hb:bits .and .u64 (IntKind.u64.wrap (-1)) 63=63:=by kernel_rfl
 go_enter Tryd.func92,Tryd.ntmps92
 go_wp2_with fail
 go_ret
 exact ⟨rfl,rfl⟩
theorem right_1 (x:Wd) (w:World):Calls Tryd.prog 88 #[.int .u64 (wn x),.int .i64 1] w fun e w'=>e=.returned (.int .u64 (wn (rotr x 1)))∧w'=w:=by
 go_enter Tryd.func88,Tryd.ntmps88
 go_wp2_with (go_at_call 92;with_reducible refine Calls.mono (rotl_1 x _) ?_;rintro e w' ⟨rfl,rfl⟩)
 go_ret
 exact ⟨rfl,rfl⟩
theorem rotl_8 (x:Wd) (w:World):Calls Tryd.prog 92 #[.int .u64 (wn x),.int .i64 (-8)] w fun e w'=>e=.returned (.int .u64 (wn (rotr x 8)))∧w'=w:=by
 rw [← rot_of x 8]
 have h1:wn x / 256=wn (wshr x 8):=wn_shr x 8
 have h2:wn x <<< 56 % 18446744073709551616=wn (wshl x 56):=wn_shl' x 56
 have h3:wn x*72057594037927936 % 18446744073709551616=wn (wshl x 56):=wn_shl x 56
 have h4:IntKind.u64.wrap (wn x*72057594037927936)=wn (wshl x 56):=by rw [IntKind.wrap_u64',h3]
 have hlo:=wn_nn x
 have hhi:=wn_lt x
 have hb:bits .and .u64 (IntKind.u64.wrap (-8)) 63=56:=by kernel_rfl
 go_enter Tryd.func92,Tryd.ntmps92
 go_wp2_with fail
 go_ret
 exact ⟨rfl,rfl⟩
theorem right_8 (x:Wd) (w:World):Calls Tryd.prog 88 #[.int .u64 (wn x),.int .i64 8] w fun e w'=>e=.returned (.int .u64 (wn (rotr x 8)))∧w'=w:=by
 go_enter Tryd.func88,Tryd.ntmps88
 go_wp2_with (go_at_call 92;with_reducible refine Calls.mono (rotl_8 x _) ?_;rintro e w' ⟨rfl,rfl⟩)
 go_ret
 exact ⟨rfl,rfl⟩
theorem rotl_14 (x:Wd) (w:World):Calls Tryd.prog 92 #[.int .u64 (wn x),.int .i64 (-14)] w fun e w'=>e=.returned (.int .u64 (wn (rotr x 14)))∧w'=w:=by
 rw [← rot_of x 14]
 have h1:wn x / 16384=wn (wshr x 14):=wn_shr x 14
 have h2:wn x <<< 50 % 18446744073709551616=wn (wshl x 50):=wn_shl' x 50
 have h3:wn x*1125899906842624 % 18446744073709551616=wn (wshl x 50):=wn_shl x 50
 have h4:IntKind.u64.wrap (wn x*1125899906842624)=wn (wshl x 50):=by rw [IntKind.wrap_u64',h3]
 have hlo:=wn_nn x
 have hhi:=wn_lt x
 have hb:bits .and .u64 (IntKind.u64.wrap (-14)) 63=50:=by kernel_rfl
 go_enter Tryd.func92,Tryd.ntmps92
 go_wp2_with fail
 go_ret
 exact ⟨rfl,rfl⟩
theorem right_14 (x:Wd) (w:World):Calls Tryd.prog 88 #[.int .u64 (wn x),.int .i64 14] w fun e w'=>e=.returned (.int .u64 (wn (rotr x 14)))∧w'=w:=by
 go_enter Tryd.func88,Tryd.ntmps88
 go_wp2_with (go_at_call 92;with_reducible refine Calls.mono (rotl_14 x _) ?_;rintro e w' ⟨rfl,rfl⟩)
 go_ret
 exact ⟨rfl,rfl⟩
theorem rotl_18 (x:Wd) (w:World):Calls Tryd.prog 92 #[.int .u64 (wn x),.int .i64 (-18)] w fun e w'=>e=.returned (.int .u64 (wn (rotr x 18)))∧w'=w:=by
 rw [← rot_of x 18]
 have h1:wn x / 262144=wn (wshr x 18):=wn_shr x 18
 have h2:wn x <<< 46 % 18446744073709551616=wn (wshl x 46):=wn_shl' x 46
 have h3:wn x*70368744177664 % 18446744073709551616=wn (wshl x 46):=wn_shl x 46
 have h4:IntKind.u64.wrap (wn x*70368744177664)=wn (wshl x 46):=by rw [IntKind.wrap_u64',h3]
 have hlo:=wn_nn x
 have hhi:=wn_lt x
 have hb:bits .and .u64 (IntKind.u64.wrap (-18)) 63=46:=by kernel_rfl
 go_enter Tryd.func92,Tryd.ntmps92
 go_wp2_with fail
 go_ret
 exact ⟨rfl,rfl⟩
theorem right_18 (x:Wd) (w:World):Calls Tryd.prog 88 #[.int .u64 (wn x),.int .i64 18] w fun e w'=>e=.returned (.int .u64 (wn (rotr x 18)))∧w'=w:=by
 go_enter Tryd.func88,Tryd.ntmps88
 go_wp2_with (go_at_call 92;with_reducible refine Calls.mono (rotl_18 x _) ?_;rintro e w' ⟨rfl,rfl⟩)
 go_ret
 exact ⟨rfl,rfl⟩
theorem rotl_19 (x:Wd) (w:World):Calls Tryd.prog 92 #[.int .u64 (wn x),.int .i64 (-19)] w fun e w'=>e=.returned (.int .u64 (wn (rotr x 19)))∧w'=w:=by
 rw [← rot_of x 19]
 have h1:wn x / 524288=wn (wshr x 19):=wn_shr x 19
 have h2:wn x <<< 45 % 18446744073709551616=wn (wshl x 45):=wn_shl' x 45
 have h3:wn x*35184372088832 % 18446744073709551616=wn (wshl x 45):=wn_shl x 45
 have h4:IntKind.u64.wrap (wn x*35184372088832)=wn (wshl x 45):=by rw [IntKind.wrap_u64',h3]
 have hlo:=wn_nn x
 have hhi:=wn_lt x
 have hb:bits .and .u64 (IntKind.u64.wrap (-19)) 63=45:=by kernel_rfl
 go_enter Tryd.func92,Tryd.ntmps92
 go_wp2_with fail
 go_ret
 exact ⟨rfl,rfl⟩
theorem right_19 (x:Wd) (w:World):Calls Tryd.prog 88 #[.int .u64 (wn x),.int .i64 19] w fun e w'=>e=.returned (.int .u64 (wn (rotr x 19)))∧w'=w:=by
 go_enter Tryd.func88,Tryd.ntmps88
 go_wp2_with (go_at_call 92;with_reducible refine Calls.mono (rotl_19 x _) ?_;rintro e w' ⟨rfl,rfl⟩)
 go_ret
 exact ⟨rfl,rfl⟩
theorem rotl_28 (x:Wd) (w:World):Calls Tryd.prog 92 #[.int .u64 (wn x),.int .i64 (-28)] w fun e w'=>e=.returned (.int .u64 (wn (rotr x 28)))∧w'=w:=by
 rw [← rot_of x 28]
 have h1:wn x / 268435456=wn (wshr x 28):=wn_shr x 28
 have h2:wn x <<< 36 % 18446744073709551616=wn (wshl x 36):=wn_shl' x 36
 have h3:wn x*68719476736 % 18446744073709551616=wn (wshl x 36):=wn_shl x 36
 have h4:IntKind.u64.wrap (wn x*68719476736)=wn (wshl x 36):=by rw [IntKind.wrap_u64',h3]
 have hlo:=wn_nn x
 have hhi:=wn_lt x
 have hb:bits .and .u64 (IntKind.u64.wrap (-28)) 63=36:=by kernel_rfl
 go_enter Tryd.func92,Tryd.ntmps92
 go_wp2_with fail
 go_ret
 exact ⟨rfl,rfl⟩
theorem right_28 (x:Wd) (w:World):Calls Tryd.prog 88 #[.int .u64 (wn x),.int .i64 28] w fun e w'=>e=.returned (.int .u64 (wn (rotr x 28)))∧w'=w:=by
 go_enter Tryd.func88,Tryd.ntmps88
 go_wp2_with (go_at_call 92;with_reducible refine Calls.mono (rotl_28 x _) ?_;rintro e w' ⟨rfl,rfl⟩)
 go_ret
 exact ⟨rfl,rfl⟩
theorem rotl_34 (x:Wd) (w:World):Calls Tryd.prog 92 #[.int .u64 (wn x),.int .i64 (-34)] w fun e w'=>e=.returned (.int .u64 (wn (rotr x 34)))∧w'=w:=by
 rw [← rot_of x 34]
 have h1:wn x / 17179869184=wn (wshr x 34):=wn_shr x 34
 have h2:wn x <<< 30 % 18446744073709551616=wn (wshl x 30):=wn_shl' x 30
 have h3:wn x*1073741824 % 18446744073709551616=wn (wshl x 30):=wn_shl x 30
 have h4:IntKind.u64.wrap (wn x*1073741824)=wn (wshl x 30):=by rw [IntKind.wrap_u64',h3]
 have hlo:=wn_nn x
 have hhi:=wn_lt x
 have hb:bits .and .u64 (IntKind.u64.wrap (-34)) 63=30:=by kernel_rfl
 go_enter Tryd.func92,Tryd.ntmps92
 go_wp2_with fail
 go_ret
 exact ⟨rfl,rfl⟩
theorem right_34 (x:Wd) (w:World):Calls Tryd.prog 88 #[.int .u64 (wn x),.int .i64 34] w fun e w'=>e=.returned (.int .u64 (wn (rotr x 34)))∧w'=w:=by
 go_enter Tryd.func88,Tryd.ntmps88
 go_wp2_with (go_at_call 92;with_reducible refine Calls.mono (rotl_34 x _) ?_;rintro e w' ⟨rfl,rfl⟩)
 go_ret
 exact ⟨rfl,rfl⟩
theorem rotl_39 (x:Wd) (w:World):Calls Tryd.prog 92 #[.int .u64 (wn x),.int .i64 (-39)] w fun e w'=>e=.returned (.int .u64 (wn (rotr x 39)))∧w'=w:=by
 rw [← rot_of x 39]
 have h1:wn x / 549755813888=wn (wshr x 39):=wn_shr x 39
 have h2:wn x <<< 25 % 18446744073709551616=wn (wshl x 25):=wn_shl' x 25
 have h3:wn x*33554432 % 18446744073709551616=wn (wshl x 25):=wn_shl x 25
 have h4:IntKind.u64.wrap (wn x*33554432)=wn (wshl x 25):=by rw [IntKind.wrap_u64',h3]
 have hlo:=wn_nn x
 have hhi:=wn_lt x
 have hb:bits .and .u64 (IntKind.u64.wrap (-39)) 63=25:=by kernel_rfl
 go_enter Tryd.func92,Tryd.ntmps92
 go_wp2_with fail
 go_ret
 exact ⟨rfl,rfl⟩
theorem right_39 (x:Wd) (w:World):Calls Tryd.prog 88 #[.int .u64 (wn x),.int .i64 39] w fun e w'=>e=.returned (.int .u64 (wn (rotr x 39)))∧w'=w:=by
 go_enter Tryd.func88,Tryd.ntmps88
 go_wp2_with (go_at_call 92;with_reducible refine Calls.mono (rotl_39 x _) ?_;rintro e w' ⟨rfl,rfl⟩)
 go_ret
 exact ⟨rfl,rfl⟩
theorem rotl_41 (x:Wd) (w:World):Calls Tryd.prog 92 #[.int .u64 (wn x),.int .i64 (-41)] w fun e w'=>e=.returned (.int .u64 (wn (rotr x 41)))∧w'=w:=by
 rw [← rot_of x 41]
 have h1:wn x / 2199023255552=wn (wshr x 41):=wn_shr x 41
 have h2:wn x <<< 23 % 18446744073709551616=wn (wshl x 23):=wn_shl' x 23
 have h3:wn x*8388608 % 18446744073709551616=wn (wshl x 23):=wn_shl x 23
 have h4:IntKind.u64.wrap (wn x*8388608)=wn (wshl x 23):=by rw [IntKind.wrap_u64',h3]
 have hlo:=wn_nn x
 have hhi:=wn_lt x
 have hb:bits .and .u64 (IntKind.u64.wrap (-41)) 63=23:=by kernel_rfl
 go_enter Tryd.func92,Tryd.ntmps92
 go_wp2_with fail
 go_ret
 exact ⟨rfl,rfl⟩
theorem right_41 (x:Wd) (w:World):Calls Tryd.prog 88 #[.int .u64 (wn x),.int .i64 41] w fun e w'=>e=.returned (.int .u64 (wn (rotr x 41)))∧w'=w:=by
 go_enter Tryd.func88,Tryd.ntmps88
 go_wp2_with (go_at_call 92;with_reducible refine Calls.mono (rotl_41 x _) ?_;rintro e w' ⟨rfl,rfl⟩)
 go_ret
 exact ⟨rfl,rfl⟩
theorem rotl_61 (x:Wd) (w:World):Calls Tryd.prog 92 #[.int .u64 (wn x),.int .i64 (-61)] w fun e w'=>e=.returned (.int .u64 (wn (rotr x 61)))∧w'=w:=by
 rw [← rot_of x 61]
 have h1:wn x / 2305843009213693952=wn (wshr x 61):=wn_shr x 61
 have h2:wn x <<< 3 % 18446744073709551616=wn (wshl x 3):=wn_shl' x 3
 have h3:wn x*8 % 18446744073709551616=wn (wshl x 3):=wn_shl x 3
 have h4:IntKind.u64.wrap (wn x*8)=wn (wshl x 3):=by rw [IntKind.wrap_u64',h3]
 have hlo:=wn_nn x
 have hhi:=wn_lt x
 have hb:bits .and .u64 (IntKind.u64.wrap (-61)) 63=3:=by kernel_rfl
 go_enter Tryd.func92,Tryd.ntmps92
 go_wp2_with fail
 go_ret
 exact ⟨rfl,rfl⟩
theorem right_61 (x:Wd) (w:World):Calls Tryd.prog 88 #[.int .u64 (wn x),.int .i64 61] w fun e w'=>e=.returned (.int .u64 (wn (rotr x 61)))∧w'=w:=by
 go_enter Tryd.func88,Tryd.ntmps88
 go_wp2_with (go_at_call 92;with_reducible refine Calls.mono (rotl_61 x _) ?_;rintro e w' ⟨rfl,rfl⟩)
 go_ret
 exact ⟨rfl,rfl⟩
theorem wn_not' (x:Wd):bits .xor .u64 IntKind.u64.max (wn x)=wn (wnot x):=by
 have h:IntKind.u64.max=wn (18446744073709551615#64):=by kernel_rfl
 rw [h,wn_xor]
 congr 1
theorem choice_any (x y z:Wd) (w:World):Calls Tryd.prog 89 #[.int .u64 (wn x),.int .u64 (wn y),.int .u64 (wn z)] w fun e w'=>e=.returned (.int .u64 (wn (chW x y z)))∧w'=w:=by
 have n2:=wn_not' x
 go_enter Tryd.func89,Tryd.ntmps89
 go_wp2_with fail
 go_ret
 exact ⟨rfl,rfl⟩
theorem majority_any (x y z:Wd) (w:World):Calls Tryd.prog 90 #[.int .u64 (wn x),.int .u64 (wn y),.int .u64 (wn z)] w fun e w'=>e=.returned (.int .u64 (wn (majW x y z)))∧w'=w:=by
 go_enter Tryd.func90,Tryd.ntmps90
 go_wp2_with fail
 go_ret
 exact ⟨rfl,rfl⟩
end Go.Proofs.YtjaahnlpnkcimaaDoor.Sx
namespace Go.Proofs.YtjaahnlpnkcimaaDoor.Sx
set_option maxRecDepth 100000
open Go.RowKit
attribute [local go_sem ↓] Go.wp_at_zero Go.wp_at_succ
attribute [local go_sem] wn_or
end Go.Proofs.YtjaahnlpnkcimaaDoor.Sx
namespace Go.Proofs.YtjaahnlpnkcimaaDoor.Sx
set_option maxRecDepth 100000
open Go.RowKit
attribute [local go_sem ↓] Go.wp_at_zero Go.wp_at_succ
def aw (f:Nat→Wd) (n:Nat):List Value:=(List.range n).map (fun t=>Value.int .u64 (wn (f t)))
theorem aw_len (f:Nat→Wd) (n:Nat):(aw f n).length=n:=by simp [aw]
theorem aw_at (f:Nat→Wd) {n i:Nat} (h:i<n):(aw f n)[i]?=some (.int .u64 (wn (f i))):=by simp [aw,h]
theorem aw_one (f:Nat→Wd) (n:Nat):∀ v ∈ aw f n,v.oneCell'=true:=by
 intro v hv
 simp only [aw,List.mem_map] at hv
 obtain ⟨i,_,rfl⟩:=hv
 rfl
structure RowW (w:World) (b n:Nat) (f:Nat→Wd):Prop where
 lt:b<w.heap.size
 c:∀ i,i<n→w.cell? ⟨b,i,none⟩=some (.int .u64 (wn (f i)))
 z:∀ i,i<n→w.frozen? ⟨b,i,none⟩=false
theorem RowW.keep {W w1:World} {b n:Nat} {f:Nat→Wd} (h:RowW W b n f) (hb:Below W.heap.size W w1):RowW w1 b n f :=
 ⟨Nat.lt_of_lt_of_le h.lt hb.size,fun i hi=>later hb (h.c i hi),fun i hi=>(hb.frozen (p:=⟨b,i,none⟩) h.lt).trans (h.z i hi)⟩
theorem RowW.congr {w:World} {b n:Nat} {f g:Nat→Wd} (h:RowW w b n f) (e:∀ i,i<n→f i=g i):RowW w b n g :=
 ⟨h.lt,fun i hi=>by rw [← e i hi];exact h.c i hi,h.z⟩
theorem RowW.store {w:World} {b n:Nat} {f:Nat→Wd} (h:RowW w b n f) (k:Nat) (hk:k<n) (v:Wd):RowW (w.setCell ⟨b,k,none⟩ (.int .u64 (wn v))) b n (fun i=>if i=k then v else f i):=by
 refine ⟨by simpa using h.lt,fun i hi=>?_,fun i hi=>by rw [World.frozen?_setCell];exact h.z i hi⟩
 have hc:=h.c i hi
 have hcs:=h.c k hk
 by_cases e:i=k
 ·subst e;simp [go_sem,hc]
 ·simp [go_sem,hc,e]
theorem RowW.other {w:World} {b n:Nat} {f:Nat→Wd} (h:RowW w b n f) {g:Nat} (hg:b≠g) (k:Nat) (v:Value):RowW (w.setCell ⟨g,k,none⟩ v) b n f :=
 ⟨by simpa using h.lt,fun i hi=>by rw [World.cell?_setCell_other _ _ _ _ (by intro e;injection e with e1;exact hg e1.symm)];exact h.c i hi,fun i hi=>by rw [World.frozen?_setCell];exact h.z i hi⟩
theorem RowW.range {w:World} {b n:Nat} {f:Nat→Wd} (h:RowW w b n f):w.rangeAt b 0 (aw f n):=fun j v hv=>by
 have hj:j<n:=by
  rcases Nat.lt_or_ge j n with h' | h'
  ·exact h'
  ·rw [List.getElem?_eq_none (by rw [aw_len];exact h')] at hv;cases hv
 rw [aw_at f hj] at hv
 rw [Nat.zero_add,h.c j hj];exact hv
theorem RowW.there {w:World} {b n:Nat} {f:Nat→Wd} (h:RowW w b n f):w.there b 0 n:=fun j hj=>by
 rw [Nat.zero_add,h.c j hj,h.z j hj];exact ⟨rfl,rfl⟩
theorem size_setCells (b:Nat):∀ (vs:List Value) (o:Nat) (w:World),(w.setCells b o vs).heap.size=w.heap.size
 | [],_,_=>rfl
 | v :: r,o,w=>by rw [World.setCells,size_setCells b r];simp
theorem RowW.stored {w:World} {b n:Nat} {f:Nat→Wd} (h:RowW w b n f) (g:Nat→Wd):RowW (w.setCells b 0 (aw g n)) b n g:=by
 have ht:w.there b 0 (aw g n).length:=by rw [aw_len];exact h.there
 have hr:=World.rangeAt_setCells_same w b 0 (aw g n) ht
 refine ⟨by rw [size_setCells];exact h.lt,fun i hi=>?_,fun i hi=>by rw [World.frozen?_setCells];exact h.z i hi⟩
 have:=hr i _ (aw_at g hi)
 rwa [Nat.zero_add] at this
theorem RowW.made (w:World) (t:TypeId) (n:Nat) (f:Nat→Wd) (cs:Array Value) (h:cs=(aw f n).toArray):RowW (w.alloc (.cells cs t)) w.heap.size n f:=by
 subst h
 refine ⟨by simp,fun i hi=>?_,fun i _=>?_⟩
 ·rw [cell_of_row _ _ _ _ _ _ (heap_alloc_new w _)]
  have:=aw_at f hi
  simpa using this
 ·exact frozen_of_row _ _ _ _ _ (heap_alloc_new w _)
theorem wpList_store_new {P:Program} {W:World} {ops:Array Oper} {rest:List Oper} {op:Oper} {a:Act} {Q:Exit→Act→World→Prop} (hgd:op.guard=none) (t:TypeId) (x y:Operand) (ho:op.op=.store t x y)
  (c c':Array Value) (hx:a.eval x=.pointer (some ⟨W.heap.size,0,none⟩)) (hy:a.eval y=.agg c') (hi:(P.info? t).map (·.size)=some c'.size) (hs:c.size=c'.size) (h1:c'.all (·.oneCell')=true)
  (h:wpList P ops Q rest (a.put op.dst undef) (W.alloc (.cells c' t))):wpList P ops Q (op :: rest) a (W.alloc (.cells c t)):=by
 refine wpList_plain hgd fun K hK=>?_
 unfold Oper.wp execOp
 simp only [ho,hx,hy,Instr.storeAt,Instr.sureAddr,Sem.run_bind,Sem.run_pure,Result.andThen_ok,run_storeVar_new W t c c' hi hs h1]
 exact hK _ _ h
theorem results_cell_mid {P:Program} {fn:Func} {p:Tmp} {ty:TypeId} (h:fn.results=#[.cell p ty]) (tmps:Array Value) (w:World) (b:Nat) (cs:List Value) (d:TypeDesc)
  (hp:tmps.getD p undef=.pointer (some ⟨b,0,none⟩)) (hc:w.rangeAt b 0 cs) (hu:P.underlying ty=some d) (hd:d.isRow=true) (hi:(P.info? ty).map (·.size)=some cs.length) :
  (results fn tmps).run P w=.ok (.agg cs.toArray) w:=by
 have hp':tmps[p]?.getD undef=.pointer (some ⟨b,0,none⟩):=by simpa using hp
 simp [results,h,hp',asAddr,run_loadVar_mid w b 0 ty cs d hc hu hd hi]
theorem wn_wrap (x:Wd):IntKind.u64.wrap (wn x)=wn x:=by
 have:=wn_nn x
 have:=wn_lt x
 rw [IntKind.wrap_u64'];omega
theorem info80W:(Tryd.prog.info? 104).map (·.size)=some 80:=by kernel_rfl
end Go.Proofs.YtjaahnlpnkcimaaDoor.Sx
namespace Go.Proofs.YtjaahnlpnkcimaaDoor.Sx
set_option maxRecDepth 100000
open Go.RowKit
attribute [local go_sem ↓] Go.wp_at_zero Go.wp_at_succ
theorem wn_mod (x:Wd):wn x % 18446744073709551616=wn x:=by
 have:=wn_nn x
 have:=wn_lt x
 omega
theorem wn_add' (x y:Wd):(wn x+wn y) % 18446744073709551616=wn (wadd x y):=by rw [← wn_add,IntKind.wrap_u64']
attribute [local go_sem] wn_add wn_xor wn_wrap wn_mod wn_add'
def Only (A:Act) (W:World):Exit→Act→World→Prop
 | .normal,a,w=>a=A∧w=W
 | _,_,_=>False
theorem Only.intro (A:Act) (W:World):Only A W .normal A W:=⟨rfl,rfl⟩
theorem Only.out {A:Act} {W:World} {Q:Exit→Act→World→Prop} (h:Q .normal A W):∀ e a w,Only A W e a w→Q e a w:=by
 intro e a w hq
 cases e <;> first | exact (hq:False).elim | (obtain ⟨rfl,rfl⟩:=hq;exact h)
def w1 (p:Nat→Nat) (t i j:Nat):Wd:=if j<t then wordP p j 8 else if j=t then wordP p t i else 0
def w2 (m:Nat→Wd) (t j:Nat):Wd:=if j<t then sched m j else 0
theorem zeros80:(#[.int .u64 0,.int .u64 0,.int .u64 0,.int .u64 0,.int .u64 0,.int .u64 0,.int .u64 0,.int .u64 0,.int .u64 0,.int .u64 0,.int .u64 0,.int .u64 0,.int .u64 0,.int .u64 0,.int .u64 0,.int .u64 0,.int .u64 0,.int .u64 0,.int .u64 0,.int .u64 0,.int .u64 0,.int .u64 0,.int .u64 0,.int .u64 0,.int .u64 0,.int .u64 0,.int .u64 0,.int .u64 0,.int .u64 0,.int .u64 0,.int .u64 0,.int .u64 0,.int .u64 0,.int .u64 0,.int .u64 0,.int .u64 0,.int .u64 0,.int .u64 0,.int .u64 0,.int .u64 0,.int .u64 0,.int .u64 0,.int .u64 0,.int .u64 0,.int .u64 0,.int .u64 0,.int .u64 0,.int .u64 0,.int .u64 0,.int .u64 0,.int .u64 0,.int .u64 0,.int .u64 0,.int .u64 0,.int .u64 0,.int .u64 0,.int .u64 0,.int .u64 0,.int .u64 0,.int .u64 0,.int .u64 0,.int .u64 0,.int .u64 0,.int .u64 0,.int .u64 0,.int .u64 0,.int .u64 0,.int .u64 0,.int .u64 0,.int .u64 0,.int .u64 0,.int .u64 0,.int .u64 0,.int .u64 0,.int .u64 0,.int .u64 0,.int .u64 0,.int .u64 0,.int .u64 0,.int .u64 0]:Array Value)=(aw (fun _=>0) 80).toArray:=by kernel_rfl
theorem below_setCells {w w':World} {b:Nat}:∀ (vs:List Value) (o:Nat),Below w.heap.size w w'→w.heap.size≤b→Below w.heap.size w (w'.setCells b o vs):=by
 intro vs
 induction vs generalizing w' with
 | nil=>intro o h _;exact h
 | cons v r ih=>intro o h hb;rw [World.setCells];exact ih (o+1) (K.set h hb v) hb
end Go.Proofs.YtjaahnlpnkcimaaDoor.Sx
namespace Go.Proofs.YtjaahnlpnkcimaaDoor.Sx
set_option maxRecDepth 100000
open Go.RowKit
attribute [local go_sem ↓] Go.wp_at_zero Go.wp_at_succ
attribute [local go_sem] wn_add wn_xor wn_wrap wn_mod wn_add' wn_and wn_or
theorem RowW.apart {w:World} {b n:Nat} {f:Nat→Wd} (h:RowW w b n f) {g:Nat} (hg:b≠g) (o:Nat) (vs:List Value):RowW (w.setCells g o vs) b n f :=
 ⟨by rw [size_setCells];exact h.lt,fun i hi=>by rw [World.cell?_setCells_out g vs o w ⟨b,i,none⟩ (fun e _=>absurd e hg)];exact h.c i hi,fun i hi=>by rw [World.frozen?_setCells];exact h.z i hi⟩
theorem zeros8:(#[.int .u64 0,.int .u64 0,.int .u64 0,.int .u64 0,.int .u64 0,.int .u64 0,.int .u64 0,.int .u64 0]:Array Value)=(aw (fun _=>0) 8).toArray:=by kernel_rfl
theorem aw8 (f:Nat→Wd):(aw f 8).toArray=#[.int .u64 (wn (f 0)),.int .u64 (wn (f 1)),.int .u64 (wn (f 2)),.int .u64 (wn (f 3)),.int .u64 (wn (f 4)),.int .u64 (wn (f 5)),.int .u64 (wn (f 6)),.int .u64 (wn (f 7))]:=rfl
theorem all8 (f:Nat→Wd):(aw f 8).toArray.all (·.oneCell')=true:=all_oneCell_toArray (aw_one f 8)
theorem wp_world {P:Program} {c:Code} {Q:Exit→Act→World→Prop} {a:Act} {w:World} (h:∀ w',w'=w→Code.wp P c Q a w'):Code.wp P c Q a w:=h w rfl
theorem size8 (f:Nat→Wd):(aw f 8).toArray.size=8:=by rw [List.size_toArray,aw_len]
theorem there8 {w:World} {b:Nat} {f:Nat→Wd} (h:RowW w b 8 f) (g:Nat→Wd):w.there b 0 (aw g 8).toArray.size:=by rw [size8];exact h.there
end Go.Proofs.YtjaahnlpnkcimaaDoor.Sx
namespace Go.Proofs.YtjaahnlpnkcimaaDoor.Sx
set_option maxRecDepth 100000
open Go.RowKit
def ab (f:Nat→Nat) (n:Nat):List Value:=(List.range n).map (fun t=>Value.int .u8 ((f t:Nat):Int))
theorem ab_len (f:Nat→Nat) (n:Nat):(ab f n).length=n:=by simp [ab]
theorem ab_at (f:Nat→Nat) {n i:Nat} (h:i<n):(ab f n)[i]?=some (.int .u8 ((f i:Nat):Int)):=by simp [ab,h]
theorem ab_one (f:Nat→Nat) (n:Nat):∀ v ∈ ab f n,v.oneCell'=true:=by
 intro v hv
 simp only [ab,List.mem_map] at hv
 obtain ⟨i,_,rfl⟩:=hv
 rfl
abbrev RowB (w:World) (b n:Nat) (f:Nat→Nat):Prop:=Row8 w b n (fun i=>((f i:Nat):Int))
theorem RowB.range {w:World} {b n:Nat} {f:Nat→Nat} (h:RowB w b n f):w.rangeAt b 0 (ab f n):=fun j v hv=>by
 have hj:j<n:=by
  rcases Nat.lt_or_ge j n with h' | h'
  ·exact h'
  ·rw [List.getElem?_eq_none (by rw [ab_len];exact h')] at hv;cases hv
 rw [ab_at f hj] at hv
 rw [Nat.zero_add,h.c j hj];exact hv
theorem RowB.there {w:World} {b n:Nat} {f:Nat→Nat} (h:RowB w b n f) (g:Nat→Nat):w.there b 0 (ab g n).toArray.size:=by
 rw [List.size_toArray,ab_len]
 intro j hj
 rw [Nat.zero_add,h.c j hj,h.z j hj];exact ⟨rfl,rfl⟩
theorem RowB.stored {w:World} {b n:Nat} {f:Nat→Nat} (h:RowB w b n f) (g:Nat→Nat):RowB (w.setCells b 0 (ab g n)) b n g:=by
 have ht:=h.there g
 rw [List.size_toArray] at ht
 have hr:=World.rangeAt_setCells_same w b 0 (ab g n) ht
 refine ⟨by rw [size_setCells];exact h.lt,fun i hi=>?_,fun i hi=>by rw [World.frozen?_setCells];exact h.z i hi⟩
 have:=hr i _ (ab_at g hi)
 rwa [Nat.zero_add] at this
theorem Row8.apart {w:World} {b n:Nat} {f:Nat→Int} (h:Row8 w b n f) {g:Nat} (hg:b≠g) (o:Nat) (vs:List Value):Row8 (w.setCells g o vs) b n f :=
 ⟨by rw [size_setCells];exact h.lt,fun i hi=>by rw [World.cell?_setCells_out g vs o w ⟨b,i,none⟩ (fun e _=>absurd e hg)];exact h.c i hi,fun i hi=>by rw [World.frozen?_setCells];exact h.z i hi⟩
theorem Rd.apart {w:World} {b o n:Nat} {f:Nat→Int} (h:Rd w b o n f) {g:Nat} (hg:b≠g) (u:Nat) (vs:List Value):Rd (w.setCells g u vs) b o n f :=
 ⟨fun i hi=>by rw [World.cell?_setCells_out g vs u w ⟨b,o+i,none⟩ (fun e _=>absurd e hg)];exact h.c i hi⟩
theorem RowB.made (w:World) (t:TypeId) (n:Nat) (f:Nat→Nat) (cs:Array Value) (h:cs=(ab f n).toArray):RowB (w.alloc (.cells cs t)) w.heap.size n f:=by
 subst h
 refine ⟨by simp,fun i hi=>?_,fun i _=>?_⟩
 ·rw [cell_of_row _ _ _ _ _ _ (heap_alloc_new w _)]
  have:=ab_at f hi
  simpa using this
 ·exact frozen_of_row _ _ _ _ _ (heap_alloc_new w _)
theorem row8_other {w:World} {b n:Nat} {f:Nat→Int} (h:Row8 w b n f) {g:Nat} (hg:b≠g) (k:Nat) (v:Value):Row8 (w.setCell ⟨g,k,none⟩ v) b n f :=
 ⟨by simpa using h.lt,fun i hi=>by rw [World.cell?_setCell_other _ _ _ _ (by intro e;injection e with e1;exact hg e1.symm)];exact h.c i hi,fun i hi=>by rw [World.frozen?_setCell];exact h.z i hi⟩
theorem zeros64:(#[.int .u8 0,.int .u8 0,.int .u8 0,.int .u8 0,.int .u8 0,.int .u8 0,.int .u8 0,.int .u8 0,.int .u8 0,.int .u8 0,.int .u8 0,.int .u8 0,.int .u8 0,.int .u8 0,.int .u8 0,.int .u8 0,.int .u8 0,.int .u8 0,.int .u8 0,.int .u8 0,.int .u8 0,.int .u8 0,.int .u8 0,.int .u8 0,.int .u8 0,.int .u8 0,.int .u8 0,.int .u8 0,.int .u8 0,.int .u8 0,.int .u8 0,.int .u8 0,.int .u8 0,.int .u8 0,.int .u8 0,.int .u8 0,.int .u8 0,.int .u8 0,.int .u8 0,.int .u8 0,.int .u8 0,.int .u8 0,.int .u8 0,.int .u8 0,.int .u8 0,.int .u8 0,.int .u8 0,.int .u8 0,.int .u8 0,.int .u8 0,.int .u8 0,.int .u8 0,.int .u8 0,.int .u8 0,.int .u8 0,.int .u8 0,.int .u8 0,.int .u8 0,.int .u8 0,.int .u8 0,.int .u8 0,.int .u8 0,.int .u8 0,.int .u8 0]:Array Value)=(ab (fun _=>0) 64).toArray:=by kernel_rfl
theorem infoH:(Tryd.prog.info? 59).map (·.size)=some 64:=by kernel_rfl
theorem inH (f:Nat→Nat):(Tryd.prog.info? 59).map (·.size)=some (ab f 64).toArray.size:=by rw [List.size_toArray,ab_len];exact infoH
theorem ilH (f:Nat→Nat):(Tryd.prog.info? 59).map (·.size)=some (ab f 64).length:=by rw [ab_len];exact infoH
end Go.Proofs.YtjaahnlpnkcimaaDoor.Sx
namespace Go.Proofs.YtjaahnlpnkcimaaDoor.Sx
set_option maxRecDepth 100000
open Go.RowKit
attribute [local go_sem ↓] Go.wp_at_zero Go.wp_at_succ
attribute [local go_sem] wn_add wn_xor wn_wrap wn_mod wn_add' wn_or
theorem infoBlk:(Tryd.prog.info? 86).map (·.size)=some 128:=by kernel_rfl
theorem ilBlk (f:Nat→Nat):(Tryd.prog.info? 86).map (·.size)=some (ab f 128).length:=by rw [ab_len];exact infoBlk
theorem run_index_ab (f:Nat→Nat) {i:Nat} (hi:i<128) (w:World):(Instr.index 86 (.agg (ab f 128).toArray) (.int .i64 (i:Int))).run Tryd.prog w=.ok (.int .u8 ((f i:Nat):Int)) w:=by
 have hx:(ab f 128).toArray[i]?=some (.int .u8 ((f i:Nat):Int)):=by have:=ab_at f hi;simpa using this
 have he:Tryd.prog.plainKey 5=true:=by kernel_rfl
 have h1:(sizeOf 5).run Tryd.prog w=.ok 1 w:=by
  obtain ⟨i,hi⟩:=Option.isSome_iff_exists.1 (show (Tryd.prog.info? 5).isSome=true by kernel_rfl)
  have:(Tryd.prog.info? 5).map (·.size)=some 1:=by kernel_rfl
  rw [hi] at this
  simp [sizeOf,typeInfo,hi]
  simpa using this
 have h2:=run_part_plain w he hx
 simp [Instr.index,asIntOf,run_underlying Tryd.underlying86,h1,h2,hi]
theorem wpList_index {P:Program} {w:World} {ops:Array Oper} {rest:List Oper} {op:Oper} {a:Act} {Q:Exit→Act→World→Prop} (hgd:op.guard=none) (t:TypeId) (x y:Operand) (ho:op.op=.index t x y)
  (X Y v:Value) (hx:a.eval x=X) (hy:a.eval y=Y) (hr:(Instr.index t X Y).run P w=.ok v w) (h:wpList P ops Q rest (a.put op.dst v) w):wpList P ops Q (op :: rest) a w:=by
 refine wpList_plain hgd fun K hK=>?_
 unfold Oper.wp execOp
 simp only [ho,hx,hy,Sem.run_bind,Sem.run_pure,Result.andThen_ok,hr]
 exact hK _ _ h
theorem spread_any {p:Nat→Nat} (hp:∀ i,p i<256) (w:World) :
  Calls Tryd.prog 87 #[.agg (ab p 128).toArray] w fun e w'=>e=.returned (.agg (aw (sched (fun t=>wordP p t 8)) 80).toArray)∧Below w.heap.size w w':=by
 have HP:Hid (∀ i,p i<256):=hp
 clear hp
 have HIX:Hid (∀ (i:Nat),i<128→∀ W:World,(Instr.index 86 (.agg (ab p 128).toArray) (.int .i64 (i:Int))).run Tryd.prog W=.ok (.int .u8 ((p i:Nat):Int)) W):=fun i hi W=>run_index_ab p hi W
 have HMA:Hid (∀ W:World,RowB (W.alloc (.cells (ab p 128).toArray 86)) W.heap.size 128 p):=fun W=>RowB.made W _ 128 p _ rfl
 have HRG:Hid (∀ (W:World) (b:Nat),RowB W b 128 p→W.rangeAt b 0 (ab p 128)):=fun W b h=>RowB.range h
 have HIL:=hide (ilBlk p)
 obtain ⟨A,hA⟩:∃ A,A=ab p 128:=⟨_,rfl⟩
 rw [← hA] at HIX HMA HRG HIL ⊢
 clear hA
 go_enter Tryd.func87,Tryd.ntmps87
 go_upto_region 2 with fail
 refine wp_world (fun X hX=>?_)
 have hB:Below w.heap.size w X:=by rw [hX];exact K.alloc (K.alloc (K.alloc (Below.refl _ _) _) _) _
 have hR:RowB X w.heap.size 128 p:=by rw [hX];exact (HMA.out w).keep (K.alloc (K.alloc (Below.refl _ _) _) _)
 have hZ:RowW X (w.heap.size+1) 80 (fun _=>0):=by
  have h:=(RowW.made (w.alloc (.cells A.toArray 86)) 104 80 (fun _=>0) _ zeros80).keep (K.alloc (Below.refl _ _) (.cells (aw (fun _=>0) 80).toArray 104))
  rw [← zeros80] at h
  have e:∀ (W:World) o,(W.alloc o).heap.size=W.heap.size+1:=fun W o=>by simp
  simp only [e] at h
  rw [hX]
  exact h
 have hW:RowW X (w.heap.size+1+1) 80 (fun _=>0):=by
  have h:=RowW.made ((w.alloc (.cells A.toArray 86)).alloc (.cells (aw (fun _=>0) 80).toArray 104)) 104 80 (fun _=>0) _ zeros80
  rw [← zeros80] at h
  have e:∀ (W:World) o,(W.alloc o).heap.size=W.heap.size+1:=fun W o=>by simp
  simp only [e] at h
  rw [hX]
  exact h
 clear hX
 have HRr:=hide (HRG.out X _ hR)
 have hW:=hW.congr (g:=w1 p 0 0) (fun i _=>by unfold w1;rw [if_neg (by omega)];split <;> rfl)
 generalize hb0:w.heap.size=b0 at *
 have HW:=hide hW
 have HZ:=hide hZ
 have HB:=hide hB
 clear hR hW hZ hB
 go_wp2_with (refine wpList_load_mid rfl 86 _ rfl _ 0 rfl A _ HRr.out Tryd.underlying86 rfl HIL.out ?_;simp only [Act.put,List.setIfInBounds_toArray,List.set_cons_zero,List.set_cons_succ])
 go_loopg [12] 128 (fun g s12 wr=>∃ t:Nat,g=128-t∧t≤128∧s12=.int .i64 t∧RowW wr (b0+1) 80 (fun _=>0)∧RowW wr (b0+1+1) 80 (w1 p (t / 8) (t % 8))∧Below b0 w wr)
 case atStart=>exact ⟨0,rfl,by omega,rfl,HZ.out,HW.out,HB.out⟩
 case round =>
  clear HW HZ HB HRr HIL HMA HRG
  obtain ⟨t,rfl,ht,rfl,hZ,hW,hB⟩:=hrel
  by_cases hlt:t<128
  ·obtain ⟨q,hq⟩:∃ q,q=t / 8:=⟨_,rfl⟩
   obtain ⟨r,hr⟩:∃ r,r=t % 8:=⟨_,rfl⟩
   have HQ:=hide (show t=8*q+r∧r<8∧q<16 from by omega)
   rw [← hq,← hr] at hW
   have cq:=hW.c q (by omega)
   have zq:=hW.z q (by omega)
   have e1:w1 p q r q=wordP p q r:=by unfold w1;rw [if_neg (by omega),if_pos rfl]
   rw [e1] at cq
   obtain ⟨y,hy⟩:∃ y:Wd,y=BitVec.ofNat 64 (p t):=⟨_,rfl⟩
   have hix:=HIX.out t hlt
   rw [← wn_of (p t) (by have:=HP.out t;omega),← hy] at hix
   have HX:Hid (wor (wshl (wordP p q r) 8) y=wordP p q (r+1)):=by
    show _=_
    rw [hy,shl8_or _ _ (HP.out t),HQ.out.1];rfl
   obtain ⟨x,hx'⟩:∃ x:Wd,x=wordP p q r:=⟨_,rfl⟩
   rw [← hx'] at cq HX
   have hti:(t:Int)<128:=by omega
   have q1:(t:Int) / 8=(q:Int):=by omega
   have q2:(t:Int).tdiv 8=(q:Int):=by rw [Int.tdiv_eq_ediv_of_nonneg (by omega)];omega
   have q3:(q:Int)<80:=by omega
   have q4:q<80:=by omega
   have q5:IntKind.i64.wrap (q:Int)=(q:Int):=by rw [IntKind.wrap_i64];omega
   have s1:wn x <<< 8 % 18446744073709551616=wn (wshl x 8):=wn_shl' x 8
   have s2:wn x*256 % 18446744073709551616=wn (wshl x 8):=wn_shl x 8
   have s3:IntKind.u64.wrap (wn x*256)=wn (wshl x 8):=by rw [IntKind.wrap_u64',s2]
   have HZ:=hide hZ
   have HW:=hide hW
   have HB:=hide hB
   have hbl:=hW.lt
   have HT:=hide hlt
   have HIXt:=hide hix
   clear hZ hW hB hq hr e1 hy hx' ht hlt hix
   go_wp2_with (refine wpList_index rfl 86 _ _ rfl _ _ _ rfl rfl (HIXt.out _) ?_)
   go_roundg (128-(t+1))
   case measure=>have:=HT.out;omega
   case rel=>exact ⟨t+1,rfl,by have:=HT.out;omega,by go_num,HZ.out.other (by omega) q _,by
    have h:=HW.out.store q q4 (wor (wshl x 8) y)
    rw [HX.out] at h ⊢
    have hq:=HQ.out
    by_cases e:r=7
    ·refine h.congr (fun j hj=>?_)
     rw [show (t+1) / 8=q+1 by omega,show (t+1) % 8=0 by omega]
     unfold w1
     subst e
     (repeat' split) <;> first | rfl | omega | (subst_vars;rfl)
    ·refine h.congr (fun j hj=>?_)
     rw [show (t+1) / 8=q by omega,show (t+1) % 8=r+1 by omega]
     unfold w1
     (repeat' split) <;> first | rfl | omega | (subst_vars;rfl),by
    have:=hb0
    exact hb0 ▸ K.set (hb0 ▸ HB.out) (by simp;omega) _⟩
  ·obtain rfl:t=128:=by omega
   have HZ:=hide hZ
   have HW:Hid (RowW wr (b0+1+1) 80 (w2 (fun t=>wordP p t 8) 16)):=hW.congr (fun j hj=>by unfold w1 w2;(repeat' split) <;> first | rfl | omega | (rw [sched_low _ (by assumption)]))
   have HB:=hide hB
   clear hZ hW hB hlt ht HIX
   obtain ⟨m,hm⟩:∃ m:Nat→Wd,m=fun t=>wordP p t 8:=⟨_,rfl⟩
   have HM:Hid (m=fun t=>wordP p t 8):=hm
   rw [← hm] at HW
   clear hm
   go_wp2_with fail
   go_loopg [6] 64 (fun g s6 wr=>∃ t:Nat,g=80-t∧16≤t∧t≤80∧s6=.int .i64 t∧RowW wr (b0+1) 80 (fun _=>0)∧RowW wr (b0+1+1) 80 (w2 m t)∧Below b0 w wr)
   case atStart=>exact ⟨16,rfl,by omega,by omega,rfl,HZ.out,HW.out,HB.out⟩
   case round =>
    clear HZ HW HB
    obtain ⟨t,rfl,h16,ht,rfl,hZ,hW,hB⟩:=hrel
    by_cases hlt:t<80
    ·have c15:=hW.c (t-15) (by omega)
     have c2:=hW.c (t-2) (by omega)
     have c7:=hW.c (t-7) (by omega)
     have c16:=hW.c (t-16) (by omega)
     have ct:=hW.c t hlt
     have zt:=hW.z t hlt
     have e15:w2 m t (t-15)=sched m (t-15):=by unfold w2;rw [if_pos (by omega)]
     have e2:w2 m t (t-2)=sched m (t-2):=by unfold w2;rw [if_pos (by omega)]
     have e7:w2 m t (t-7)=sched m (t-7):=by unfold w2;rw [if_pos (by omega)]
     have e16:w2 m t (t-16)=sched m (t-16):=by unfold w2;rw [if_pos (by omega)]
     rw [e15] at c15
     rw [e2] at c2
     rw [e7] at c7
     rw [e16] at c16
     have HX:Hid (wadd (wadd (wadd (wxor (wxor (rotr (sched m (t-2)) 19) (rotr (sched m (t-2)) 61)) (wshr (sched m (t-2)) 6)) (sched m (t-7))) (wxor (wxor (rotr (sched m (t-15)) 1) (rotr (sched m (t-15)) 8)) (wshr (sched m (t-15)) 7))) (sched m (t-16))=sched m t):=by
      exact (sched_up m (t:=t) (by omega)).symm
     generalize sched m (t-15)=x at *
     generalize sched m (t-2)=y at *
     generalize sched m (t-7)=u at *
     generalize sched m (t-16)=v at *
     have i15:(t:Int)-15=((t-15:Nat):Int):=by omega
     have i2:(t:Int)-2=((t-2:Nat):Int):=by omega
     have i7:(t:Int)-7=((t-7:Nat):Int):=by omega
     have i16:(t:Int)-16=((t-16:Nat):Int):=by omega
     have b15:t-15<80:=by omega
     have b2:t-2<80:=by omega
     have b7:t-7<80:=by omega
     have b16:t-16<80:=by omega
     have hti:(t:Int)<80:=by omega
     have HT:Hid (t<80∧16≤t):=⟨hlt,h16⟩
     obtain ⟨t15,ht15⟩:∃ k,k=t-15:=⟨_,rfl⟩
     obtain ⟨t2,ht2⟩:∃ k,k=t-2:=⟨_,rfl⟩
     obtain ⟨t7,ht7⟩:∃ k,k=t-7:=⟨_,rfl⟩
     obtain ⟨t16,ht16⟩:∃ k,k=t-16:=⟨_,rfl⟩
     rw [← ht15] at c15 i15 b15
     rw [← ht2] at c2 i2 b2
     rw [← ht7] at c7 i7 b7
     rw [← ht16] at c16 i16 b16
     have j15:(t15:Int)<80:=by omega
     have j2:(t2:Int)<80:=by omega
     have j7:(t7:Int)<80:=by omega
     have j16:(t16:Int)<80:=by omega
     have k15:IntKind.i64.wrap (t15:Int)=(t15:Int):=by rw [IntKind.wrap_i64];omega
     have k2:IntKind.i64.wrap (t2:Int)=(t2:Int):=by rw [IntKind.wrap_i64];omega
     have k7:IntKind.i64.wrap (t7:Int)=(t7:Int):=by rw [IntKind.wrap_i64];omega
     have k16:IntKind.i64.wrap (t16:Int)=(t16:Int):=by rw [IntKind.wrap_i64];omega
     have d3:wn x / 128=wn (wshr x 7):=wn_shr x 7
     have d10:wn y / 64=wn (wshr y 6):=wn_shr y 6
     have HZ:=hide hZ
     have HW:=hide hW
     have HB:=hide hB
     have hbl:=hW.lt
     clear hZ hW hB hlt ht h16 e15 e2 e7 e16 ht15 ht2 ht7 ht16
     go_upto_region 10 with fail
     apply wp_mono (Q:=Only _ _)
     ·go_region
      all_goals exact Only.intro _ _
     refine Only.out ?_
     go_upto_region 11 with fail
     refine wp_world (fun X hX=>?_)
     have hbX:Below wr.heap.size wr X:=by rw [hX];exact K.drew (Below.refl _ _)
     have HZ:=hide (HZ.out.keep hbX)
     have HW:=hide (HW.out.keep hbX)
     have HB:Hid (Below b0 w X):=by subst hb0;exact K.call HB.out hbX
     clear c15 c2
     have c7:=later hbX c7
     have c16:=later hbX c16
     have ct:=later hbX ct
     have zt:=HW.out.z t HT.out.1
     have hbl:=HW.out.lt
     clear hX hbX
     go_wp2_with (first
      | (go_at_call 88;with_reducible refine Calls.mono (right_1 x _) ?_;rintro e w' ⟨rfl,rfl⟩)
      | (go_at_call 88;with_reducible refine Calls.mono (right_8 x _) ?_;rintro e w' ⟨rfl,rfl⟩)
      | (go_at_call 88;with_reducible refine Calls.mono (right_19 y _) ?_;rintro e w' ⟨rfl,rfl⟩)
      | (go_at_call 88;with_reducible refine Calls.mono (right_61 y _) ?_;rintro e w' ⟨rfl,rfl⟩))
     apply wp_mono (Q:=Only _ _)
     ·go_region
      all_goals exact Only.intro _ _
     refine Only.out ?_
     clear c7 c16 ct zt
     go_wp2_with fail
     go_roundg (80-(t+1))
     case measure=>have:=HT.out;omega
     case rel=>exact ⟨t+1,rfl,by have:=HT.out;omega,by have:=HT.out;omega,by go_num,(HZ.out.keep (K.drew (Below.refl _ _))).other (by omega) t _,by
      have h:=(HW.out.keep (K.drew (Below.refl _ _))).store t HT.out.1 (wadd (wadd (wadd (wxor (wxor (rotr y 19) (rotr y 61)) (wshr y 6)) u) (wxor (wxor (rotr x 1) (rotr x 8)) (wshr x 7))) v)
      rw [HX.out] at h ⊢
      exact h.congr (fun j hj=>by unfold w2;(repeat' split) <;> first | rfl | omega | (subst_vars;rfl)),by
      subst hb0
      exact K.set (K.drew HB.out) (by simp;omega) _⟩
    ·obtain rfl:t=80:=by omega
     have hW':RowW wr (b0+1+1) 80 (sched m):=hW.congr (fun j hj=>by unfold w2;rw [if_pos hj])
     have hr:=hW'.range
     have hsz:(aw (sched m) 80).toArray.size=80:=by rw [List.size_toArray,aw_len]
     have hth:wr.there (b0+1) 0 (aw (sched m) 80).toArray.size:=by rw [hsz];exact hZ.there
     have hin:(Tryd.prog.info? 104).map (·.size)=some (aw (sched m) 80).toArray.size:=by rw [hsz];exact info80W
     have hil:(Tryd.prog.info? 104).map (·.size)=some (aw (sched m) 80).length:=by rw [aw_len];exact info80W
     have HH:=hide hth
     have HI:=hide hin
     have HL:=hide hil
     have HRr:=hide hr
     clear hth hin hil hr hsz
     have HS:Hid (RowW (wr.setCells (b0+1) 0 (aw (sched m) 80).toArray.toList) (b0+1) 80 (sched m)):=hZ.stored (sched m)
     have HB:Hid (Below b0 w (wr.setCells (b0+1) 0 (aw (sched m) 80).toArray.toList)):=by subst hb0;exact below_setCells _ _ hB (by omega)
     clear hZ hW hB hlt ht h16 hW'
     go_upto_region 14 with fail
     go_wp2_with (refine wpList_load_mid rfl 104 _ rfl _ 0 rfl (aw (sched m) 80) _ HRr.out Tryd.underlying104 rfl HL.out ?_;simp only [Act.put,List.setIfInBounds_toArray,List.set_cons_zero,List.set_cons_succ];refine wpList_store_mid rfl 104 _ _ rfl (b0+1) 0 (aw (sched m) 80).toArray rfl rfl HH.out HI.out (all_oneCell_toArray (aw_one _ _)) ?_;generalize wr.setCells (b0+1) 0 (aw (sched m) 80).toArray.toList=X at HS HB ⊢)
     refine bodyPost_ret (results_cell_mid Tryd.results87 _ _ (b0+1) (aw (sched m) 80) _ rfl HS.out.range Tryd.underlying104 rfl HL.out) rfl ⟨?_,by rw [hb0];exact HB.out⟩
     rw [HM.out]
end Go.Proofs.YtjaahnlpnkcimaaDoor.Sx
namespace Go.Proofs.YtjaahnlpnkcimaaDoor.Sx
set_option maxRecDepth 100000
open Go.RowKit
attribute [local go_sem ↓] Go.wp_at_zero Go.wp_at_succ
attribute [local go_sem] wn_add wn_xor wn_wrap wn_mod wn_add' wn_or
structure Tab (w:World):Prop where
 f:∀ i,i<8→w.cell? ⟨0,i,none⟩=some (.int .u64 (wn (start.w i)))
 k:∀ i,i<80→w.cell? ⟨5,i,none⟩=some (.int .u64 (wn (kW i)))
theorem Tab.keep {W w1:World} (h:Tab W) (hb:Below W.heap.size W w1):Tab w1 :=
 ⟨fun i hi=>later hb (h.f i hi),fun i hi=>later hb (h.k i hi)⟩
theorem infoSt:(Tryd.prog.info? 84).map (·.size)=some 8:=by kernel_rfl
theorem inSt (f:Nat→Wd):(Tryd.prog.info? 84).map (·.size)=some (aw f 8).toArray.size:=by rw [size8];exact infoSt
theorem ilSt (f:Nat→Wd):(Tryd.prog.info? 84).map (·.size)=some (aw f 8).length:=by rw [aw_len];exact infoSt
theorem addS_w (s v r:St) (hr:r=addS s v):r.w 0=wadd (s.w 0) v.a∧r.w 1=wadd (s.w 1) v.b∧r.w 2=wadd (s.w 2) v.c∧r.w 3=wadd (s.w 3) v.d∧r.w 4=wadd (s.w 4) v.e∧r.w 5=wadd (s.w 5) v.f∧r.w 6=wadd (s.w 6) v.g∧r.w 7=wadd (s.w 7) v.h:=by
 subst hr
 exact ⟨rfl,rfl,rfl,rfl,rfl,rfl,rfl,rfl⟩
theorem takeIn_any {p:Nat→Nat} (hp:∀ i,p i<256) (s:St) {w:World} (hT:Tab w) :
  Calls Tryd.prog 81 #[.agg (aw s.w 8).toArray,.agg (ab p 128).toArray] w fun e w'=>e=.returned (.agg (aw (takeB s p).w 8).toArray)∧Below w.heap.size w w':=by
 have HSP:Hid (∀ W:World,Calls Tryd.prog 87 #[.agg (ab p 128).toArray] W fun e w'=>e=.returned (.agg (aw (sched (fun t=>wordP p t 8)) 80).toArray)∧Below W.heap.size W w'):=fun W=>spread_any hp W
 have HT:Hid (Tab w):=hT
 clear hp hT
 have HMA:Hid (∀ W:World,RowB (W.alloc (.cells (ab p 128).toArray 86)) W.heap.size 128 p):=fun W=>RowB.made W _ 128 p _ rfl
 have HRG:Hid (∀ (W:World) (b:Nat),RowB W b 128 p→W.rangeAt b 0 (ab p 128)):=fun W b h=>RowB.range h
 have HIL:=hide (ilBlk p)
 obtain ⟨A,hA⟩:∃ A,A=ab p 128:=⟨_,rfl⟩
 rw [← hA] at HSP HMA HRG HIL ⊢
 clear hA
 have HTK:Hid (∀ v:St,v=rnds kW (sched (fun t=>wordP p t 8)) s 80→takeB s p=addS s v):=fun v e=>by rw [e];rfl
 obtain ⟨Wf,hWf⟩:∃ Wf:Nat→Wd,Wf=sched (fun t=>wordP p t 8):=⟨_,rfl⟩
 rw [← hWf] at HTK HSP
 clear hWf
 rw [aw8 s.w]
 go_enter Tryd.func81,Tryd.ntmps81
 go_upto_region 1 with fail
 refine wp_world (fun X hX=>?_)
 have hB:Below w.heap.size w X:=by rw [hX];exact K.alloc (K.alloc (K.alloc (Below.refl _ _) _) _) _
 have hH:RowW X w.heap.size 8 s.w:=by rw [hX];exact (RowW.made w 84 8 s.w _ (aw8 s.w).symm).keep (K.alloc (K.alloc (Below.refl _ _) _) _)
 have hR:RowB X (w.heap.size+1) 128 p:=by
  rw [hX]
  have h:=(HMA.out (w.alloc (.cells #[.int .u64 (wn (s.w 0)),.int .u64 (wn (s.w 1)),.int .u64 (wn (s.w 2)),.int .u64 (wn (s.w 3)),.int .u64 (wn (s.w 4)),.int .u64 (wn (s.w 5)),.int .u64 (wn (s.w 6)),.int .u64 (wn (s.w 7))] 84))).keep (K.alloc (Below.refl _ _) (.cells #[.int .u64 0,.int .u64 0,.int .u64 0,.int .u64 0,.int .u64 0,.int .u64 0,.int .u64 0,.int .u64 0] 84))
  simpa using h
 have hZ:RowW X (w.heap.size+1+1) 8 (fun _=>0):=by
  rw [hX]
  have h:=RowW.made ((w.alloc (.cells #[.int .u64 (wn (s.w 0)),.int .u64 (wn (s.w 1)),.int .u64 (wn (s.w 2)),.int .u64 (wn (s.w 3)),.int .u64 (wn (s.w 4)),.int .u64 (wn (s.w 5)),.int .u64 (wn (s.w 6)),.int .u64 (wn (s.w 7))] 84)).alloc (.cells A.toArray 86)) 84 8 (fun _=>0) _ zeros8
  simpa using h
 have hT:=HT.out.keep hB
 clear hX HT
 have HRr:=hide (HRG.out X _ hR)
 clear HMA HRG hR
 obtain ⟨b0,hb0⟩:∃ b0,w.heap.size=b0:=⟨_,rfl⟩
 rw [hb0] at hB hH hZ HRr ⊢
 have HH:=hide hH
 have HZ:=hide hZ
 have HB:=hide hB
 have HT:=hide hT
 clear hH hZ hB hT
 go_wp2_with (refine wpList_load_mid rfl 86 _ rfl _ 0 rfl A _ HRr.out Tryd.underlying86 rfl HIL.out ?_;simp only [Act.put,List.setIfInBounds_toArray,List.set_cons_zero,List.set_cons_succ])
 with_reducible refine Calls.mono (HSP.out _) ?_
 rintro e W1 ⟨rfl,hb⟩
 have hH:=HH.out.keep hb
 have hZ:=HZ.out.keep hb
 have hT:=HT.out.keep hb
 have hB1:Below b0 w W1:=by subst hb0;exact K.call HB.out hb
 clear hb HH HZ HB HT HRr HIL HSP
 have hsz:(aw Wf 80).toArray.size=80:=by rw [List.size_toArray,aw_len]
 have hin:(Tryd.prog.info? 104).map (·.size)=some (aw Wf 80).toArray.size:=by rw [hsz];exact info80W
 have h64:80=(aw Wf 80).toArray.size:=hsz.symm
 have HIN:=hide hin
 have H64:=hide h64
 clear hsz hin h64
 go_upto_region 2 with (refine wpList_store_new rfl 104 _ _ rfl _ (aw Wf 80).toArray rfl rfl HIN.out H64.out (all_oneCell_toArray (aw_one _ _)) ?_)
 have hal:=K.alloc (Below.refl _ W1) (.cells (aw Wf 80).toArray 104)
 have hW:=RowW.made W1 104 80 Wf _ rfl
 have hn5:b0+1+1<W1.heap.size:=hZ.lt
 have hH:=hH.keep hal
 have hZ:=hZ.keep hal
 have hT:=hT.keep hal
 have hB2:Below b0 w (W1.alloc (.cells (aw Wf 80).toArray 104)):=by subst hb0;exact K.call hB1 hal
 clear hal hB1 HIN H64
 generalize W1.alloc (.cells (aw Wf 80).toArray 104)=X2 at *
 generalize W1.heap.size=n5 at *
 have v0:=hH.c 0 (by omega)
 have v1:=hH.c 1 (by omega)
 have v2:=hH.c 2 (by omega)
 have v3:=hH.c 3 (by omega)
 have v4:=hH.c 4 (by omega)
 have v5:=hH.c 5 (by omega)
 have v6:=hH.c 6 (by omega)
 have v7:=hH.c 7 (by omega)
 have HH:=hide hH
 have HZ:=hide hZ
 have HB:=hide hB2
 have HT:=hide hT
 have HW:=hide hW
 clear hH hZ hB2 hT hW
 go_region_held3 (fun w'=>w'=X2.drew∧w'.cell? ⟨b0,0,none⟩=some (.int .u64 (wn (s.w 0)))∧w'.cell? ⟨b0,1,none⟩=some (.int .u64 (wn (s.w 1)))∧w'.cell? ⟨b0,2,none⟩=some (.int .u64 (wn (s.w 2)))∧w'.cell? ⟨b0,3,none⟩=some (.int .u64 (wn (s.w 3)))∧w'.cell? ⟨b0,4,none⟩=some (.int .u64 (wn (s.w 4)))∧w'.cell? ⟨b0,5,none⟩=some (.int .u64 (wn (s.w 5)))∧w'.cell? ⟨b0,6,none⟩=some (.int .u64 (wn (s.w 6)))∧w'.cell? ⟨b0,7,none⟩=some (.int .u64 (wn (s.w 7))))
  (first | (with_reducible assumption) | exact ⟨rfl,v0,v1,v2,v3,v4,v5,v6,v7⟩)
  (fail)
 clear v0 v1 v2 v3 v4 v5 v6 v7 hH hZ hT
 go_upto_region 3 with fail
 refine wp_world (fun Y hY=>?_)
 have hbY:Below X2.heap.size X2 Y:=by rw [hY];exact K.drew (Below.refl _ _)
 have HH:=hide (HH.out.keep hbY)
 have HZ:=hide (HZ.out.keep hbY)
 have HT:=hide (HT.out.keep hbY)
 have HW:=hide (HW.out.keep hbY)
 have HB:Hid (Below b0 w Y):=by subst hb0;exact K.call HB.out hbY
 clear hY hbY
 go_wp2_with fail
 go_loopg [6,7,8,9,10,11,12,13,35] 80 (fun g s6 s7 s8 s9 s10 s11 s12 s13 s35 wr=>∃ t:Nat,g=80-t∧t≤80∧s35=.int .i64 t∧s6=.int .u64 (wn (rnds kW Wf s t).a)∧s7=.int .u64 (wn (rnds kW Wf s t).b)∧s8=.int .u64 (wn (rnds kW Wf s t).c)∧s9=.int .u64 (wn (rnds kW Wf s t).d)∧s10=.int .u64 (wn (rnds kW Wf s t).e)∧s11=.int .u64 (wn (rnds kW Wf s t).f)∧s12=.int .u64 (wn (rnds kW Wf s t).g)∧s13=.int .u64 (wn (rnds kW Wf s t).h)∧RowW wr n5 80 Wf∧RowW wr b0 8 s.w∧RowW wr (b0+1+1) 8 (fun _=>0)∧Tab wr∧Below b0 w wr)
 case atStart=>exact ⟨0,rfl,by omega,rfl,rfl,rfl,rfl,rfl,rfl,rfl,rfl,rfl,HW.out,HH.out,HZ.out,HT.out,HB.out⟩
 case round =>
  clear HW HH HZ HT HB
  obtain ⟨t,rfl,ht,rfl,rfl,rfl,rfl,rfl,rfl,rfl,rfl,rfl,hW,hH,hZ,hT,hB⟩:=hrel
  by_cases hlt:t<80
  ·have ck:=hT.k t hlt
   have cw:=hW.c t hlt
   have HS:Hid (rnds kW Wf s (t+1)=rnd (rnds kW Wf s t) (kW t) (Wf t)):=rfl
   obtain ⟨q,hq⟩:∃ q,q=rnds kW Wf s t:=⟨_,rfl⟩
   rw [← hq] at HS ⊢
   clear hq
   obtain ⟨qa,qb,qc,qd,qe,qf,qg,qh⟩:=q
   dsimp only
   have hti:(t:Int)<80:=by omega
   have HW:=hide hW
   have HH:=hide hH
   have HZ:=hide hZ
   have HT:=hide hT
   have HB:=hide hB
   have HL:=hide hlt
   clear hW hH hZ hT hB ht
   generalize kW t=kt at *
   generalize Wf t=wt at *
   go_upto_region 6 with fail
   go_region_held3 (fun w'=>w'=wr.drew∧w'.cell? ⟨5,t,none⟩=some (.int .u64 (wn kt))∧w'.cell? ⟨n5,t,none⟩=some (.int .u64 (wn wt)))
    (first | (with_reducible assumption) | exact ⟨rfl,ck,cw⟩)
    (first
    | (go_at_call 88;with_reducible refine Calls.mono (right_14 qe _) ?_;rintro e w' ⟨rfl,rfl⟩)
    | (go_at_call 88;with_reducible refine Calls.mono (right_18 qe _) ?_;rintro e w' ⟨rfl,rfl⟩)
    | (go_at_call 88;with_reducible refine Calls.mono (right_41 qe _) ?_;rintro e w' ⟨rfl,rfl⟩)
    | (go_at_call 89;with_reducible refine Calls.mono (choice_any qe qf qg _) ?_;rintro e w' ⟨rfl,rfl⟩))
   clear ck cw
   go_wp2_with (first
    | (go_at_call 88;with_reducible refine Calls.mono (right_28 qa _) ?_;rintro e w' ⟨rfl,rfl⟩)
    | (go_at_call 88;with_reducible refine Calls.mono (right_34 qa _) ?_;rintro e w' ⟨rfl,rfl⟩)
    | (go_at_call 88;with_reducible refine Calls.mono (right_39 qa _) ?_;rintro e w' ⟨rfl,rfl⟩)
    | (go_at_call 90;with_reducible refine Calls.mono (majority_any qa qb qc _) ?_;rintro e w' ⟨rfl,rfl⟩))
   go_roundg (80-(t+1))
   case measure=>have:=HL.out;omega
   case rel =>
    have hbY:Below wr.heap.size wr wr.drew:=K.drew (Below.refl _ _)
    refine ⟨t+1,rfl,by have:=HL.out;omega,by go_num,?_,?_,?_,?_,?_,?_,?_,?_,HW.out.keep hbY,HH.out.keep hbY,HZ.out.keep hbY,HT.out.keep hbY,by subst hb0;exact K.call HB.out hbY⟩
    all_goals (rw [HS.out];rfl)
  ·obtain rfl:t=80:=by omega
   obtain ⟨v,hv⟩:∃ v,v=rnds kW Wf s 80:=⟨_,rfl⟩
   have HE:=hide (HTK.out v hv)
   rw [← hv]
   clear hv
   have v0:=hH.c 0 (by omega)
   have v1:=hH.c 1 (by omega)
   have v2:=hH.c 2 (by omega)
   have v3:=hH.c 3 (by omega)
   have v4:=hH.c 4 (by omega)
   have v5:=hH.c 5 (by omega)
   have v6:=hH.c 6 (by omega)
   have v7:=hH.c 7 (by omega)
   obtain ⟨r,hr⟩:∃ r,r=addS s v:=⟨_,rfl⟩
   have HRE:Hid (r=takeB s p):=by show _=_;rw [hr,HE.out]
   have HRW:=hide (addS_w s v r hr)
   have HTH:=hide (there8 hZ r.w)
   have HS:=hide (hZ.stored r.w)
   have HB:Hid (Below b0 w (wr.setCells (b0+1+1) 0 (aw r.w 8).toArray.toList)):=by subst hb0;exact below_setCells _ _ hB (by omega)
   clear hW hH hZ hT hB hlt ht hr
   go_wp2_with (refine wpList_store_mid rfl 84 _ _ rfl (b0+1+1) 0 (aw r.w 8).toArray rfl (by rw [aw8,HRW.out.1,HRW.out.2.1,HRW.out.2.2.1,HRW.out.2.2.2.1,HRW.out.2.2.2.2.1,HRW.out.2.2.2.2.2.1,HRW.out.2.2.2.2.2.2.1,HRW.out.2.2.2.2.2.2.2];rfl) HTH.out (inSt _) (all8 _) ?_;generalize wr.setCells (b0+1+1) 0 (aw r.w 8).toArray.toList=X at HS HB ⊢)
   refine bodyPost_ret (results_cell_mid Tryd.results81 _ _ (b0+1+1) (aw r.w 8) _ rfl HS.out.range Tryd.underlying84 rfl (ilSt _)) rfl ⟨?_,by rw [hb0];exact HB.out⟩
   rw [HRE.out]
end Go.Proofs.YtjaahnlpnkcimaaDoor.Sx
namespace Go.Proofs.YtjaahnlpnkcimaaDoor.Sx
set_option maxRecDepth 100000
open Go.RowKit
attribute [local go_sem ↓] Go.wp_at_zero Go.wp_at_succ
theorem byteOf_0 (x:Wd) (w:World):Calls Tryd.prog 84 #[.int .u64 (wn x),.int .i64 0] w fun e w'=>e=.returned (.int .u8 ((x.toNat / 256 ^ (7-0) % 256:Nat):Int))∧w'=w:=by
 have hv:wn x / 72057594037927936 % 256=((x.toNat / 256 ^ (7-0) % 256:Nat):Int):=by unfold wn;omega
 have hv2:IntKind.u8.wrap (wn x / 72057594037927936)=((x.toNat / 256 ^ (7-0) % 256:Nat):Int):=by rw [IntKind.wrap_u8',hv]
 have hlo:=wn_nn x
 have hhi:=wn_lt x
 generalize x.toNat / 256 ^ (7-0) % 256=v at hv hv2 ⊢
 go_enter Tryd.func84,Tryd.ntmps84
 go_wp2_with fail
 go_ret
 exact ⟨rfl,rfl⟩
theorem byteOf_1 (x:Wd) (w:World):Calls Tryd.prog 84 #[.int .u64 (wn x),.int .i64 1] w fun e w'=>e=.returned (.int .u8 ((x.toNat / 256 ^ (7-1) % 256:Nat):Int))∧w'=w:=by
 have hv:wn x / 281474976710656 % 256=((x.toNat / 256 ^ (7-1) % 256:Nat):Int):=by unfold wn;omega
 have hv2:IntKind.u8.wrap (wn x / 281474976710656)=((x.toNat / 256 ^ (7-1) % 256:Nat):Int):=by rw [IntKind.wrap_u8',hv]
 have hlo:=wn_nn x
 have hhi:=wn_lt x
 generalize x.toNat / 256 ^ (7-1) % 256=v at hv hv2 ⊢
 go_enter Tryd.func84,Tryd.ntmps84
 go_wp2_with fail
 go_ret
 exact ⟨rfl,rfl⟩
theorem byteOf_2 (x:Wd) (w:World):Calls Tryd.prog 84 #[.int .u64 (wn x),.int .i64 2] w fun e w'=>e=.returned (.int .u8 ((x.toNat / 256 ^ (7-2) % 256:Nat):Int))∧w'=w:=by
 have hv:wn x / 1099511627776 % 256=((x.toNat / 256 ^ (7-2) % 256:Nat):Int):=by unfold wn;omega
 have hv2:IntKind.u8.wrap (wn x / 1099511627776)=((x.toNat / 256 ^ (7-2) % 256:Nat):Int):=by rw [IntKind.wrap_u8',hv]
 have hlo:=wn_nn x
 have hhi:=wn_lt x
 generalize x.toNat / 256 ^ (7-2) % 256=v at hv hv2 ⊢
 go_enter Tryd.func84,Tryd.ntmps84
 go_wp2_with fail
 go_ret
 exact ⟨rfl,rfl⟩
theorem byteOf_3 (x:Wd) (w:World):Calls Tryd.prog 84 #[.int .u64 (wn x),.int .i64 3] w fun e w'=>e=.returned (.int .u8 ((x.toNat / 256 ^ (7-3) % 256:Nat):Int))∧w'=w:=by
 have hv:wn x / 4294967296 % 256=((x.toNat / 256 ^ (7-3) % 256:Nat):Int):=by unfold wn;omega
 have hv2:IntKind.u8.wrap (wn x / 4294967296)=((x.toNat / 256 ^ (7-3) % 256:Nat):Int):=by rw [IntKind.wrap_u8',hv]
 have hlo:=wn_nn x
 have hhi:=wn_lt x
 generalize x.toNat / 256 ^ (7-3) % 256=v at hv hv2 ⊢
 go_enter Tryd.func84,Tryd.ntmps84
 go_wp2_with fail
 go_ret
 exact ⟨rfl,rfl⟩
theorem byteOf_4 (x:Wd) (w:World):Calls Tryd.prog 84 #[.int .u64 (wn x),.int .i64 4] w fun e w'=>e=.returned (.int .u8 ((x.toNat / 256 ^ (7-4) % 256:Nat):Int))∧w'=w:=by
 have hv:wn x / 16777216 % 256=((x.toNat / 256 ^ (7-4) % 256:Nat):Int):=by unfold wn;omega
 have hv2:IntKind.u8.wrap (wn x / 16777216)=((x.toNat / 256 ^ (7-4) % 256:Nat):Int):=by rw [IntKind.wrap_u8',hv]
 have hlo:=wn_nn x
 have hhi:=wn_lt x
 generalize x.toNat / 256 ^ (7-4) % 256=v at hv hv2 ⊢
 go_enter Tryd.func84,Tryd.ntmps84
 go_wp2_with fail
 go_ret
 exact ⟨rfl,rfl⟩
theorem byteOf_5 (x:Wd) (w:World):Calls Tryd.prog 84 #[.int .u64 (wn x),.int .i64 5] w fun e w'=>e=.returned (.int .u8 ((x.toNat / 256 ^ (7-5) % 256:Nat):Int))∧w'=w:=by
 have hv:wn x / 65536 % 256=((x.toNat / 256 ^ (7-5) % 256:Nat):Int):=by unfold wn;omega
 have hv2:IntKind.u8.wrap (wn x / 65536)=((x.toNat / 256 ^ (7-5) % 256:Nat):Int):=by rw [IntKind.wrap_u8',hv]
 have hlo:=wn_nn x
 have hhi:=wn_lt x
 generalize x.toNat / 256 ^ (7-5) % 256=v at hv hv2 ⊢
 go_enter Tryd.func84,Tryd.ntmps84
 go_wp2_with fail
 go_ret
 exact ⟨rfl,rfl⟩
theorem byteOf_6 (x:Wd) (w:World):Calls Tryd.prog 84 #[.int .u64 (wn x),.int .i64 6] w fun e w'=>e=.returned (.int .u8 ((x.toNat / 256 ^ (7-6) % 256:Nat):Int))∧w'=w:=by
 have hv:wn x / 256 % 256=((x.toNat / 256 ^ (7-6) % 256:Nat):Int):=by unfold wn;omega
 have hv2:IntKind.u8.wrap (wn x / 256)=((x.toNat / 256 ^ (7-6) % 256:Nat):Int):=by rw [IntKind.wrap_u8',hv]
 have hlo:=wn_nn x
 have hhi:=wn_lt x
 generalize x.toNat / 256 ^ (7-6) % 256=v at hv hv2 ⊢
 go_enter Tryd.func84,Tryd.ntmps84
 go_wp2_with fail
 go_ret
 exact ⟨rfl,rfl⟩
theorem byteOf_7 (x:Wd) (w:World):Calls Tryd.prog 84 #[.int .u64 (wn x),.int .i64 7] w fun e w'=>e=.returned (.int .u8 ((x.toNat / 256 ^ (7-7) % 256:Nat):Int))∧w'=w:=by
 have hv:wn x % 256=((x.toNat / 256 ^ (7-7) % 256:Nat):Int):=by unfold wn;omega
 have hv2:IntKind.u8.wrap (wn x)=((x.toNat / 256 ^ (7-7) % 256:Nat):Int):=by rw [IntKind.wrap_u8',hv]
 have hlo:=wn_nn x
 have hhi:=wn_lt x
 generalize x.toNat / 256 ^ (7-7) % 256=v at hv hv2 ⊢
 go_enter Tryd.func84,Tryd.ntmps84
 go_wp2_with fail
 go_ret
 exact ⟨rfl,rfl⟩
theorem byteOf_any (x:Wd) (k:Nat) (hk:k<8) (w:World):Calls Tryd.prog 84 #[.int .u64 (wn x),.int .i64 (k:Int)] w fun e w'=>e=.returned (.int .u8 ((x.toNat / 256 ^ (7-k) % 256:Nat):Int))∧w'=w:=by
 rcases (show k=0∨k=1∨k=2∨k=3∨k=4∨k=5∨k=6∨k=7 by omega) with e | e | e | e | e | e | e | e <;> subst e
 ·exact byteOf_0 x w
 ·exact byteOf_1 x w
 ·exact byteOf_2 x w
 ·exact byteOf_3 x w
 ·exact byteOf_4 x w
 ·exact byteOf_5 x w
 ·exact byteOf_6 x w
 ·exact byteOf_7 x w
def hP (s:St) (i j:Nat):Nat:=if j<i then hByte s j else 0
theorem hash_any (s:St) (w:World) :
  Calls Tryd.prog 73 #[.agg (aw s.w 8).toArray] w fun e w'=>e=.returned (.agg (ab (hByte s) 64).toArray)∧Below w.heap.size w w':=by
 rw [aw8 s.w]
 go_enter Tryd.func73,Tryd.ntmps73
 go_upto_region 2 with fail
 refine wp_world (fun X hX=>?_)
 have hB:Below w.heap.size w X:=by rw [hX];exact K.alloc (K.alloc (K.alloc (Below.refl _ _) _) _) _
 have hS:RowW X w.heap.size 8 s.w:=by rw [hX];exact (RowW.made w 84 8 s.w _ (aw8 s.w).symm).keep (K.alloc (K.alloc (Below.refl _ _) _) _)
 have hR:RowB X (w.heap.size+1) 64 (fun _=>0):=by
  rw [hX]
  have h:=Row8.keep (RowB.made (w.alloc (.cells #[.int .u64 (wn (s.w 0)),.int .u64 (wn (s.w 1)),.int .u64 (wn (s.w 2)),.int .u64 (wn (s.w 3)),.int .u64 (wn (s.w 4)),.int .u64 (wn (s.w 5)),.int .u64 (wn (s.w 6)),.int .u64 (wn (s.w 7))] 84)) 59 64 (fun _=>0) _ zeros64) (K.alloc (Below.refl _ _) (.cells (ab (fun _=>0) 64).toArray 59))
  rw [← zeros64] at h
  have e:∀ (W:World) o,(W.alloc o).heap.size=W.heap.size+1:=fun W o=>by simp
  simp only [e] at h
  exact h
 have hO:RowB X (w.heap.size+1+1) 64 (hP s 0):=by
  rw [hX]
  have h:=RowB.made ((w.alloc (.cells #[.int .u64 (wn (s.w 0)),.int .u64 (wn (s.w 1)),.int .u64 (wn (s.w 2)),.int .u64 (wn (s.w 3)),.int .u64 (wn (s.w 4)),.int .u64 (wn (s.w 5)),.int .u64 (wn (s.w 6)),.int .u64 (wn (s.w 7))] 84)).alloc (.cells (ab (fun _=>0) 64).toArray 59)) 59 64 (fun _=>0) _ zeros64
  rw [← zeros64] at h
  have h':=Row8.congr h (g:=fun i=>((hP s 0 i:Nat):Int)) (fun i _=>by unfold hP;rw [if_neg (by omega)])
  have e:∀ (W:World) o,(W.alloc o).heap.size=W.heap.size+1:=fun W o=>by simp
  simp only [e] at h'
  exact h'
 clear hX
 obtain ⟨b0,hb0⟩:∃ b0,w.heap.size=b0:=⟨_,rfl⟩
 rw [hb0] at hB hS hR hO ⊢
 have HS:=hide hS
 have HR:=hide hR
 have HO:=hide hO
 have HB:=hide hB
 clear hS hR hO hB
 go_wp2_with fail
 go_loopg [5] 64 (fun g s5 wr=>∃ i:Nat,g=64-i∧i≤64∧s5=.int .i64 i∧RowW wr b0 8 s.w∧RowB wr (b0+1) 64 (fun _=>0)∧RowB wr (b0+1+1) 64 (hP s i)∧Below b0 w wr)
 case atStart=>exact ⟨0,rfl,by omega,rfl,HS.out,HR.out,HO.out,HB.out⟩
 case round =>
  clear HS HR HO HB
  obtain ⟨i,rfl,hi,rfl,hS,hR,hO,hB⟩:=hrel
  by_cases hlt:i<64
  ·have hii:(i:Int)<64:=by omega
   obtain ⟨j,hj⟩:∃ j,j=i / 8:=⟨_,rfl⟩
   have cs:=hS.c j (by omega)
   have co:=hO.c i hlt
   have zo:=hO.z i hlt
   have j1:(i:Int) / 8=(j:Int):=by omega
   have j2:(i:Int).tdiv 8=(j:Int):=by rw [Int.tdiv_eq_ediv_of_nonneg (by omega)];omega
   have j3:(j:Int)<8:=by omega
   have j4:IntKind.i64.wrap (j:Int)=(j:Int):=by rw [IntKind.wrap_i64];omega
   have j5:j<8:=by omega
   obtain ⟨x,hx⟩:∃ x,x=s.w j:=⟨_,rfl⟩
   obtain ⟨k,hk⟩:∃ k,k=i % 8:=⟨_,rfl⟩
   have k1:(i:Int) % 8=(k:Int):=by omega
   have k2:(i:Int).tmod 8=(k:Int):=by rw [Int.tmod_eq_emod_of_nonneg (by omega)];omega
   have k4:IntKind.i64.wrap (k:Int)=(k:Int):=by rw [IntKind.wrap_i64];omega
   have hv:hByte s i=x.toNat / 256 ^ (7-k) % 256:=by unfold hByte;rw [hx,hj,hk]
   have HBY:Hid (∀ W:World,Calls Tryd.prog 84 #[.int .u64 (wn x),.int .i64 (k:Int)] W fun e w'=>e=.returned (.int .u8 ((hByte s i:Nat):Int))∧w'=W):=fun W=>by rw [hv];exact byteOf_any x k (by omega) W
   rw [← hx] at cs
   have HS:=hide hS
   have HR:=hide hR
   have HO:=hide hO
   have HB:=hide hB
   have HI:=hide hlt
   have hol:=hO.lt
   have hlo:=wn_nn x
   have hhi:=wn_lt x
   clear hO hS hR hB hi hlt hx hj hk hv
   go_wp2_with (go_at_call 84;with_reducible refine Calls.mono (HBY.out _) ?_;rintro e w' ⟨rfl,rfl⟩)
   go_roundg (64-(i+1))
   case measure=>have:=HI.out;omega
   case rel=>exact ⟨i+1,rfl,by have:=HI.out;omega,by go_num,HS.out.other (by omega) i _,row8_other HR.out (by omega) i _,(Row8.store HO.out i HI.out _).congr (fun j hj=>by
    unfold hP
    by_cases e:j=i
    ·subst e;simp
    ·simp only [if_neg e];(repeat' split) <;> first | rfl | omega),by subst hb0;exact K.set HB.out (by show w.heap.size≤w.heap.size+1+1;omega) _⟩
  ·obtain rfl:i=64:=by omega
   have hO':RowB wr (b0+1+1) 64 (hByte s):=Row8.congr hO (fun j hj=>by unfold hP;rw [if_pos hj])
   have HRr:=hide (RowB.range hO')
   have HTH:=hide (RowB.there hR (hByte s))
   have HST:=hide (RowB.stored hR (hByte s))
   have HB:Hid (Below b0 w (wr.setCells (b0+1) 0 (ab (hByte s) 64).toArray.toList)):=by subst hb0;exact below_setCells _ _ hB (by omega)
   clear hO hO' hS hR hB hi hlt
   go_upto_region 7 with fail
   go_wp2_with (refine wpList_load_mid rfl 59 _ rfl _ 0 rfl (ab (hByte s) 64) _ HRr.out Tryd.underlying59 rfl (ilH _) ?_;simp only [Act.put,List.setIfInBounds_toArray,List.set_cons_zero,List.set_cons_succ];refine wpList_store_mid rfl 59 _ _ rfl (b0+1) 0 (ab (hByte s) 64).toArray rfl rfl HTH.out (inH _) (all_oneCell_toArray (ab_one _ _)) ?_;generalize wr.setCells (b0+1) 0 (ab (hByte s) 64).toArray.toList=X at HST HB ⊢)
   exact bodyPost_ret (results_cell_mid Tryd.results73 _ _ (b0+1) (ab (hByte s) 64) _ rfl (RowB.range HST.out) Tryd.underlying59 rfl (ilH _)) rfl ⟨rfl,by rw [hb0];exact HB.out⟩
end Go.Proofs.YtjaahnlpnkcimaaDoor.Sx
namespace Go.Proofs.YtjaahnlpnkcimaaDoor.Sx
set_option maxRecDepth 100000
open Go.RowKit
theorem info8:(Tryd.prog.info? 5).map (fun i=>(i.zero,i.size,i.bytes))=some (some (.int .u8 0),1,1):=by kernel_rfl
def cells8 (l:List Nat):List Value:=l.map (fun (x:Nat)=>Value.int .u8 (x:Int))
theorem own_rd {w:World} {base n:Nat} {v:Value} {f:Nat→Int} {xs:List Value} (h:w.ownsRow base 5 1 v n xs) (hx:∀ j,j<n→xs[j]?=some (.int .u8 (f j))) (hn:0<n):∃ g cap,v=.slice (some ⟨g,0,none⟩) n cap∧base≤g∧Row8 w g n f:=by
 rcases h.2 with ⟨_,h0⟩ | ⟨g,cap,cur,rfl,hg,_⟩
 ·omega
 ·refine ⟨g,cap,rfl,hg,(h.lt g rfl).2,fun j hj=>?_,fun j _=>h.frozenAt j⟩
  rw [h.cellAt j (by omega)];exact hx j hj
theorem own_cap {w:World} {base n g cap:Nat} {xs:List Value} (h:w.ownsRow base 5 1 (.slice (some ⟨g,0,none⟩) n cap) n xs):n≤cap:=by
 rcases h.2 with ⟨h1,_⟩ | ⟨g',cap',cur,h1,_,_,hle,_⟩
 ·cases h1
 ·cases h1;exact hle
theorem cells8_at (l:List Nat) (i:Nat) (h:i<l.length):(cells8 l)[i]?=some (Value.int .u8 ((l.getD i 0:Nat):Int)):=by
 simp [cells8,h]
theorem getD_lt {l:List Nat} (h:∀ x ∈ l,x<256) (i:Nat):l.getD i 0<256:=by
 rw [List.getD_eq_getElem?_getD]
 by_cases hi:i<l.length
 ·rw [List.getElem?_eq_getElem hi];exact h _ (List.getElem_mem hi)
 ·rw [List.getElem?_eq_none (by omega)];simp
theorem Rd.first {w:World} {b o n:Nat} {f:Nat→Int} (h:Rd w b o n f) (m:Nat) (hm:m≤n):Rd w b o m f:=⟨fun i hi=>h.c i (by omega)⟩
end Go.Proofs.YtjaahnlpnkcimaaDoor.Sx
namespace Go.Proofs.YtjaahnlpnkcimaaDoor.Sx
set_option maxRecDepth 100000
open Go.RowKit
structure BA (w:World) (a:Option Addr) (n:Nat) (f:Nat→Nat):Prop where
 lt:∀ i,f i<256
 at_:n=0∨∃ b o,a=some ⟨b,o,none⟩∧Rd w b o n (fun i=>((f i:Nat):Int))
theorem BA.keep {W w1:World} {a:Option Addr} {n:Nat} {f:Nat→Nat} (h:BA W a n f) (hb:Below W.heap.size W w1):BA w1 a n f :=
 ⟨h.lt,h.at_.elim Or.inl fun ⟨b,o,e,hr⟩=>Or.inr ⟨b,o,e,hr.keep hb⟩⟩
def fl (f:Nat→Nat) (n:Nat):List Nat:=(List.range n).map f
theorem fl_len (f:Nat→Nat) (n:Nat):(fl f n).length=n:=by simp [fl]
theorem fl_at (f:Nat→Nat) {n i:Nat} (h:i<n):(fl f n)[i]?=some (f i):=by simp [fl,h]
theorem fl_lt {f:Nat→Nat} (hf:∀ i,f i<256) (n:Nat):∀ x ∈ fl f n,x<256:=by
 intro x hx
 simp only [fl,List.mem_map] at hx
 obtain ⟨i,_,rfl⟩:=hx
 exact hf i
theorem cells8_len (l:List Nat):(cells8 l).length=l.length:=by simp [cells8]
theorem cells8_one (l:List Nat):∀ u ∈ cells8 l,u.oneCell'=true:=by
 intro u hu
 simp only [cells8,List.mem_map] at hu
 obtain ⟨i,_,rfl⟩:=hu
 rfl
theorem run_append_zero {P:Program} (w:World) (base:Nat) (t ty e:TypeId) (i:TypeInfo) (size:Nat) (ht:P.underlying t=some (.slice e)) (hi:P.info? e=some i)
  (v:Value) (n:Nat) (xs:List Value) (hown:w.ownsRow base e size v n xs) (x:Option Addr) (c:Nat) :
  (Builtin.append_ #[t,t] ty #[v,.slice x 0 c]).run P w=.ok v w:=by
 rcases hown.2 with ⟨rfl,rfl⟩ | ⟨g,cap,cur,rfl,_,_,hnc,_⟩
 ·cases x <;> simp [Builtin.append_,run_underlying ht,sizeOf,typeInfo,hi,Builtin.lenOf,Builtin.firstCells,loadCells,loadCellsFrom]
 ·cases x <;> simp [Builtin.append_,run_underlying ht,sizeOf,typeInfo,hi,Builtin.lenOf,Builtin.firstCells,hnc,storeCells,loadCells,loadCellsFrom]
theorem run_app {W:World} {base:Nat} {v:Value} {n:Nat} {l:List Nat} (hown:W.ownsRow base 5 1 v n (cells8 l)) {x:Option Addr} {m c:Nat} {f:Nat→Nat} (hx:BA W x m f) (hb:n+m≤1000000) (hbase:base≤W.heap.size) (ty:TypeId) :
  ∃ v' w',(Builtin.append_ #[24,24] ty #[v,.slice x m c]).run Tryd.prog W=.ok v' w'∧w'.ownsRow base 5 1 v' (n+m) (cells8 (l++fl f m))∧W.grownBy w' v.ownBlock:=by
 obtain ⟨i0,hi,hz0,hz1,hz2⟩:=info_parts info8
 rcases hx.at_ with rfl | ⟨b,o,rfl,hr⟩
 ·refine ⟨v,W,run_append_zero W base _ _ 5 i0 1 Tryd.underlying24 hi v n _ hown x c,?_,World.grownBy.refl _ _⟩
  rw [show fl f 0=[] from rfl,List.append_nil]
  exact hown
 ·obtain ⟨v',w',h1,h2,h3,_⟩:=run_append_own (P:=Tryd.prog) W base 24 ty 5 i0 (.int .u8 0) 1 1 Tryd.underlying24 hi hz0 hz1 hz2 rfl (by decide) v n _ hown ⟨b,o,none⟩ m c (cells8 (fl f m)) (by rw [cells8_len,fl_len];omega) (fun j u hu=>by
   have hj:j<m:=by
    rcases Nat.lt_or_ge j m with h' | h'
    ·exact h'
    ·rw [List.getElem?_eq_none (by rw [cells8_len,fl_len];exact h')] at hu;cases hu
   have hc:=hr.c j hj
   rw [cells8_at _ j (by rw [fl_len];exact hj),List.getD_eq_getElem?_getD,fl_at f hj] at hu
   have ea:(⟨b,o,none⟩:Addr).add j=⟨b,o+j,none⟩:=by unfold Addr.add;split <;> simp_all
   rw [ea,hc]
   simpa using hu) (cells8_one _) (by unfold maxLen;omega) (by omega) hbase
  refine ⟨v',w',h1,?_,h3⟩
  rw [show cells8 (l++fl f m)=cells8 l++cells8 (fl f m) from List.map_append]
  exact h2
theorem wpList_app {W:World} {ops:Array Oper} {rest:List Oper} {op:Oper} {a:Act} {Q:Exit→Act→World→Prop} (hgd:op.guard=none) (s x:Operand)
  (ho:op.op=.call { callee:=.builtin .append,args:=#[s,x],argTypes:=#[24,24] })
  {base:Nat} {v:Value} {n:Nat} {l:List Nat} (hs:a.eval s=v) (hown:W.ownsRow base 5 1 v n (cells8 l)) {y:Option Addr} {m c:Nat} {f:Nat→Nat} (hx:a.eval x=.slice y m c) (hy:BA W y m f) (hb:n+m≤1000000) (hbase:base≤W.heap.size)
  (h:∀ v' w',w'.ownsRow base 5 1 v' (n+m) (cells8 (l++fl f m))→W.grownBy w' v.ownBlock→wpList Tryd.prog ops Q rest (a.put op.dst v') w'):wpList Tryd.prog ops Q (op :: rest) a W:=by
 refine wpList_plain hgd fun K hK=>?_
 obtain ⟨v',w',hr,h2,h3⟩:=run_app (c:=c) hown hy hb hbase op.type
 unfold Oper.wp execOp
 simp only [ho,resolve,invoke,builtin,Sem.run_bind,Sem.run_pure,Result.andThen_ok,List.map_toArray,List.map_cons,List.map_nil,hs,hx,hr]
 exact hK _ _ (h v' w' h2 h3)
theorem one_made (w:World) (x:Nat) (h:x<256):BA (w.alloc (.cells #[.int .u8 (x:Int)] 5)) (some ⟨w.heap.size,0,none⟩) 1 (fun _=>x) :=
 ⟨fun _=>h,Or.inr ⟨_,_,rfl,⟨fun i hi=>by
  obtain rfl:i=0:=by omega
  rw [cell_of_row _ _ _ _ _ _ (heap_alloc_new w _)];rfl⟩⟩⟩
end Go.Proofs.YtjaahnlpnkcimaaDoor.Sx
namespace Go.Proofs.YtjaahnlpnkcimaaDoor.Sx
set_option maxRecDepth 100000
def zs (n:Nat):Nat:=padLen n-8-(n+1)
theorem zs_eq (n:Nat):n+1+zs n=padLen n-8∧(n+1+zs n) % 128=120∧padLen n % 128=0∧n+17≤padLen n∧8≤zs n:=by unfold zs padLen;omega
def lenB (n:Nat):Nat→List Nat
 | 0=>[]
 | i+1=>lenB n i++[8*n / 256 ^ (7-i) % 256]
theorem lenB_len (n:Nat):∀ i,(lenB n i).length=i
 | 0=>rfl
 | i+1=>by simp [lenB,lenB_len n i]
theorem lenB_at (n:Nat):∀ (i j:Nat),j<i→(lenB n i).getD j 0=8*n / 256 ^ (7-j) % 256
 | 0,j,h=>by omega
 | i+1,j,h=>by
  simp only [lenB]
  by_cases e:j=i
  ·subst e
   rw [List.getD_eq_getElem?_getD,List.getElem?_append_right (by rw [lenB_len];omega),lenB_len,Nat.sub_self];rfl
  ·rw [List.getD_eq_getElem?_getD,List.getElem?_append_left (by rw [lenB_len];omega),← List.getD_eq_getElem?_getD]
   exact lenB_at n i j (by omega)
def padL (f:Nat→Nat) (n:Nat):List Nat:=fl f n++[128]++List.replicate (zs n) 0++lenB n 8
theorem padL_at (f:Nat→Nat) (n i:Nat) (h:i<padLen n):(padL f n).getD i 0=pad f n i:=by
 have hz:=zs_eq n
 unfold pad padL
 by_cases h1:i<n
 ·rw [if_pos h1,List.append_assoc,List.append_assoc,List.getD_eq_getElem?_getD,List.getElem?_append_left (by rw [fl_len];exact h1),fl_at f h1];rfl
 ·rw [if_neg h1]
  by_cases h2:i=n
  ·rw [if_pos h2,List.append_assoc,List.append_assoc,List.getD_eq_getElem?_getD,List.getElem?_append_right (by rw [fl_len];omega),fl_len,h2,Nat.sub_self];rfl
  ·rw [if_neg h2]
   by_cases h3:i<padLen n-8
   ·rw [if_pos h3,List.getD_eq_getElem?_getD,List.getElem?_append_left (by simp only [List.length_append,fl_len,List.length_replicate,List.length_cons,List.length_nil];omega),List.getElem?_append_right (by simp only [List.length_append,fl_len,List.length_cons,List.length_nil];omega)]
    simp only [List.length_append,fl_len,List.length_cons,List.length_nil]
    rw [List.getElem?_replicate,if_pos (by omega)];rfl
   ·rw [if_neg h3,List.getD_eq_getElem?_getD,List.getElem?_append_right (by simp only [List.length_append,fl_len,List.length_replicate,List.length_cons,List.length_nil];omega)]
    simp only [List.length_append,fl_len,List.length_replicate,List.length_cons,List.length_nil]
    rw [← List.getD_eq_getElem?_getD,lenB_at n 8 _ (by omega)]
    congr 2
    congr 1
    omega
end Go.Proofs.YtjaahnlpnkcimaaDoor.Sx
