/- Plain facts on numbers written in words of 64 bits: no program in sight. Arrays of words in blocks of their own; how they are compared; small facts that every walk wants. Small facts that every walk wants: all of them lie in Base. Rows of bytes in memory. Rows of bytes that may grow. Bytes that are handed in, and bytes that are appended to a row of one's own (no function of the program is named). Regions that keep to the text's order, operation by operation: calls whose answers are not told ahead; the states are then told over the world behind the call. Texts, one behind the other; rows of bytes of one's own, as bytes that are handed on. Things: states with memory of one's own that isn't told cell by cell: what an operation does with them, rows that are appended to. Things: the operations that yield, make or append to them. Steps of states for bytes that came in: how many, one's address, a part of them. Things: literals, lengths, conversions. Things: parts of a row of bytes. Things: elements of a row of bytes, its first ones; remainders. Walks by states where a function panics, or calls one that does. -/
import Derived.Test.YtjaahnlpnkcimaaDoorKY01
import Derived.Below
import Derived.Test.YtjaahnlpnkcimaaDoorRows
import Derived.WalkKit
import Derived.WalkSpells
import Derived.WalkSmall
import Derived.Laws.Externs
import Derived.Laws.Pointers
import Derived.Laws.BitsAllLaws
import Derived.Deep.RegionHeld3
import Derived.Deep.DrawnRows
import Derived.RowKit3
import Derived.LoopN
import Derived.Handy
import Derived.BigQuiet
import Derived.Deep.QuietTactic
import Derived.ChangeKeysEq
import Derived.Deep.AppendLies
import Derived.OwnWalk
import Derived.Maps.AppendAt
namespace Go.Proofs.YtjaahnlpnkcimaaDoor
set_option maxRecDepth 100000
def B:Int:=18446744073709551616
theorem B_pos:0<B:=by unfold B;omega
theorem Bk_pos (k:Nat):0<B ^ k:=Int.pow_pos B_pos
def L (k:Nat) (a:Int):Int:=a / B ^ k % B
theorem L_lo (k:Nat) (a:Int):0≤L k a:=Int.emod_nonneg _ (by have:=B_pos;omega)
theorem L_hi (k:Nat) (a:Int):L k a<18446744073709551616:=Int.emod_lt_of_pos _ B_pos
theorem mod_succ (a:Int) (k:Nat):a % B ^ (k+1)=a % B ^ k+B ^ k*(a / B ^ k % B):=by
 have hk:=Bk_pos k
 rw [Int.pow_succ,Int.emod_def,Int.emod_def a (B ^ k),Int.emod_def (a / B ^ k) B,← Int.ediv_ediv_of_nonneg (Int.le_of_lt hk)]
 generalize a / B ^ k=q
 generalize q / B=z
 rw [Int.mul_sub,Int.mul_assoc]
 omega
theorem div_add (a b:Int) (k:Nat):(a+b) / B ^ k=a / B ^ k+b / B ^ k+(a % B ^ k+b % B ^ k) / B ^ k:=by
 have h:=Bk_pos k
 have ha:=Int.mul_ediv_add_emod a (B ^ k)
 have hb:=Int.mul_ediv_add_emod b (B ^ k)
 have:a+b=(a % B ^ k+b % B ^ k)+B ^ k*(a / B ^ k+b / B ^ k):=by rw [Int.mul_add];omega
 rw [this,Int.add_mul_ediv_left _ _ (by omega)]
 omega
theorem div_sub (a b:Int) (k:Nat):(a-b) / B ^ k=a / B ^ k-b / B ^ k+(a % B ^ k-b % B ^ k) / B ^ k:=by
 have h:=Bk_pos k
 have ha:=Int.mul_ediv_add_emod a (B ^ k)
 have hb:=Int.mul_ediv_add_emod b (B ^ k)
 have:a-b=(a % B ^ k-b % B ^ k)+B ^ k*(a / B ^ k-b / B ^ k):=by rw [Int.mul_sub];omega
 rw [this,Int.add_mul_ediv_left _ _ (by omega)]
 omega
def C (a b:Int) (k:Nat):Int:=(a % B ^ k+b % B ^ k) / B ^ k
theorem C_zero (a b:Int):C a b 0=0:=by simp [C,Int.emod_one]
theorem C_lo (a b:Int) (k:Nat):0≤C a b k:=by
 have h:=Bk_pos k
 have h1:=Int.emod_nonneg a (by omega:B ^ k≠0)
 have h2:=Int.emod_nonneg b (by omega:B ^ k≠0)
 exact Int.ediv_nonneg (by omega) (by omega)
theorem C_hi (a b:Int) (k:Nat):C a b k≤1:=by
 have h:=Bk_pos k
 have h1:=Int.emod_lt_of_pos a h
 have h2:=Int.emod_lt_of_pos b h
 have:(a % B ^ k+b % B ^ k) / B ^ k<2:=Int.ediv_lt_of_lt_mul h (by omega)
 unfold C;omega
theorem add_word (a b:Int) (k:Nat):(L k a+L k b+C a b k) % 18446744073709551616=L k (a+b):=by
 unfold L C
 rw [div_add a b k]
 generalize a / B ^ k=x
 generalize b / B ^ k=y
 generalize (a % B ^ k+b % B ^ k) / B ^ k=z
 unfold B;omega
theorem add_carry (a b:Int) (k:Nat):(L k a+L k b+C a b k) / 18446744073709551616=C a b (k+1):=by
 have h:=Bk_pos k
 have e:(a % B ^ (k+1)+b % B ^ (k+1)) / B ^ (k+1)=((a % B ^ k+b % B ^ k) / B ^ k+(a / B ^ k % B+b / B ^ k % B)) / B:=by
  rw [mod_succ,mod_succ,Int.pow_succ,← Int.ediv_ediv_of_nonneg (Int.le_of_lt h)]
  have:a % B ^ k+B ^ k*(a / B ^ k % B)+(b % B ^ k+B ^ k*(b / B ^ k % B))=(a % B ^ k+b % B ^ k)+B ^ k*(a / B ^ k % B+b / B ^ k % B):=by
   rw [Int.mul_add];omega
  rw [this,Int.add_mul_ediv_left _ _ (by omega)]
 unfold L C
 rw [e]
 generalize a / B ^ k % B=x
 generalize b / B ^ k % B=y
 generalize (a % B ^ k+b % B ^ k) / B ^ k=z
 unfold B;omega
def D (a b:Int) (k:Nat):Int:=-((a % B ^ k-b % B ^ k) / B ^ k)
theorem D_zero (a b:Int):D a b 0=0:=by simp [D,Int.emod_one]
theorem D_lo (a b:Int) (k:Nat):0≤D a b k:=by
 have h:=Bk_pos k
 have h1:=Int.emod_lt_of_pos a h
 have h2:=Int.emod_nonneg b (by omega:B ^ k≠0)
 have:(a % B ^ k-b % B ^ k) / B ^ k<1:=Int.ediv_lt_of_lt_mul h (by omega)
 unfold D;omega
theorem D_hi (a b:Int) (k:Nat):D a b k≤1:=by
 have h:=Bk_pos k
 have h1:=Int.emod_nonneg a (by omega:B ^ k≠0)
 have h2:=Int.emod_lt_of_pos b h
 have:-1≤(a % B ^ k-b % B ^ k) / B ^ k:=Int.le_ediv_of_mul_le h (by omega)
 unfold D;omega
theorem sub_word (a b:Int) (k:Nat):(L k a-L k b-D a b k) % 18446744073709551616=L k (a-b):=by
 unfold L D
 rw [div_sub a b k]
 generalize a / B ^ k=x
 generalize b / B ^ k=y
 generalize (a % B ^ k-b % B ^ k) / B ^ k=z
 unfold B;omega
theorem sub_carry (a b:Int) (k:Nat):(if L k a<L k b+D a b k then 1 else 0)=D a b (k+1):=by
 have h:=Bk_pos k
 have a1:=L_lo k a
 have a2:=L_hi k a
 have b1:=L_lo k b
 have b2:=L_hi k b
 have d1:=D_lo a b k
 have d2:=D_hi a b k
 have e:(a % B ^ (k+1)-b % B ^ (k+1)) / B ^ (k+1)=((a % B ^ k-b % B ^ k) / B ^ k+(a / B ^ k % B-b / B ^ k % B)) / B:=by
  rw [mod_succ,mod_succ,Int.pow_succ,← Int.ediv_ediv_of_nonneg (Int.le_of_lt h)]
  have:a % B ^ k+B ^ k*(a / B ^ k % B)-(b % B ^ k+B ^ k*(b / B ^ k % B))=(a % B ^ k-b % B ^ k)+B ^ k*(a / B ^ k % B-b / B ^ k % B):=by
   rw [Int.mul_sub];omega
  rw [this,Int.add_mul_ediv_left _ _ (by omega)]
 have e2:D a b (k+1)=-((L k a-L k b-D a b k) / B):=by
  unfold D L
  rw [e]
  congr 2
  generalize a / B ^ k % B=x
  generalize b / B ^ k % B=y
  generalize (a % B ^ k-b % B ^ k) / B ^ k=z
  omega
 rw [e2]
 generalize L k a=x at *
 generalize L k b=y at *
 generalize D a b k=z at *
 unfold B
 split <;> omega
def M:Int:=115792089237316195423570985008687907853269984665640564039457584007913129639936
theorem M_eq:M=B ^ 4:=by decide
structure Num (a:Int):Prop where
 lo:0≤a
 hi:a<M
def over (a b:Int):Bool:=decide (M≤a+b)
theorem C_four {a b:Int} (ha:Num a) (hb:Num b):(C a b 4 == 1)=over a b:=by
 obtain ⟨a1,a2⟩:=ha
 obtain ⟨b1,b2⟩:=hb
 unfold C over
 rw [← M_eq,Int.emod_eq_of_lt a1 a2,Int.emod_eq_of_lt b1 b2,Bool.eq_iff_iff]
 simp only [beq_iff_eq,decide_eq_true_eq]
 unfold M at *
 omega
def under (a b:Int):Bool:=decide (a<b)
theorem D_four {a b:Int} (ha:Num a) (hb:Num b):(D a b 4 == 1)=under a b:=by
 obtain ⟨a1,a2⟩:=ha
 obtain ⟨b1,b2⟩:=hb
 unfold D under
 rw [← M_eq,Int.emod_eq_of_lt a1 a2,Int.emod_eq_of_lt b1 b2,Bool.eq_iff_iff]
 simp only [beq_iff_eq,decide_eq_true_eq]
 unfold M at *
 omega
theorem L0 (a:Int):L 0 a=a % 18446744073709551616:=by simp [L,B]
theorem L1 (a:Int):L 1 a=a / 18446744073709551616 % 18446744073709551616:=by simp [L,B]
theorem L2 (a:Int):L 2 a=a / 340282366920938463463374607431768211456 % 18446744073709551616:=by simp [L,B]
theorem L3 (a:Int):L 3 a=a / 6277101735386680763835789423207666416102355444464034512896 % 18446744073709551616:=by simp [L,B]
theorem num_ext {a b:Int} (ha:Num a) (hb:Num b) (h0:L 0 a=L 0 b) (h1:L 1 a=L 1 b) (h2:L 2 a=L 2 b) (h3:L 3 a=L 3 b):a=b:=by
 obtain ⟨a1,a2⟩:=ha
 obtain ⟨b1,b2⟩:=hb
 rw [L0,L0] at h0
 rw [L1,L1] at h1
 rw [L2,L2] at h2
 rw [L3,L3] at h3
 unfold M at *
 omega
end Go.Proofs.YtjaahnlpnkcimaaDoor
namespace Go.Proofs.YtjaahnlpnkcimaaDoor
set_option maxRecDepth 100000
open Go.RowKit
theorem bcell {W w1:World} (hb:Below W.heap.size W w1):(∀ b o,b<W.heap.size→w1.cell? ⟨b,o,none⟩=W.cell? ⟨b,o,none⟩)∧(∀ b o,b<W.heap.size→w1.frozen? ⟨b,o,none⟩=W.frozen? ⟨b,o,none⟩) :=
 ⟨fun b o h=>hb.cell (p:=⟨b,o,none⟩) h,fun b o h=>hb.frozen (p:=⟨b,o,none⟩) h⟩
theorem later {W w1:World} {p:Addr} {v:Value} (hb:Below W.heap.size W w1) (h:W.cell? p=some v):w1.cell? p=some v:=by
 have hp:p.block<W.heap.size:=by
  cases Nat.lt_or_ge p.block W.heap.size with
  | inl h=>exact h
  | inr h' =>
   have:W.heap[p.block]?=none:=by simp [h']
   simp [World.cell?,this] at h
 rw [hb.cell hp];exact h
structure Arr (w:World) (b:Nat) (x0 x1 x2 x3:Int):Prop where
 lt:b<w.heap.size
 c0:w.cell? ⟨b,0,none⟩=some (.int .u64 x0)
 c1:w.cell? ⟨b,1,none⟩=some (.int .u64 x1)
 c2:w.cell? ⟨b,2,none⟩=some (.int .u64 x2)
 c3:w.cell? ⟨b,3,none⟩=some (.int .u64 x3)
theorem Arr.keep {W w1:World} {b:Nat} {x0 x1 x2 x3:Int} (h:Arr W b x0 x1 x2 x3) (hb:Below W.heap.size W w1):Arr w1 b x0 x1 x2 x3 :=
 ⟨Nat.lt_of_lt_of_le h.lt hb.size,later hb h.c0,later hb h.c1,later hb h.c2,later hb h.c3⟩
theorem Arr.alloc {W:World} {b:Nat} {x0 x1 x2 x3:Int} (h:Arr W b x0 x1 x2 x3) (o:Obj):Arr (W.alloc o) b x0 x1 x2 x3 :=
 h.keep ((Below.refl _ _).alloc (Nat.le_refl _) o)
theorem Arr.new (W:World) (b:Nat) (hb:b=W.heap.size) (t:TypeId) (x0 x1 x2 x3:Int):Arr (W.alloc (.cells #[.int .u64 x0,.int .u64 x1,.int .u64 x2,.int .u64 x3] t)) b x0 x1 x2 x3:=by
 subst hb
 constructor <;> simp [go_sem]
theorem K.alloc {w w':World} (h:Below w.heap.size w w') (o:Obj):Below w.heap.size w (w'.alloc o):=h.alloc h.size o
theorem K.call {w w' w1:World} (h:Below w.heap.size w w') (hb:Below w'.heap.size w' w1):Below w.heap.size w w1:=h.trans (hb.mono h.size)
theorem K.drew {w w':World} (h:Below w.heap.size w w'):Below w.heap.size w w'.drew:=h.drew
theorem K.drewN {w w':World} (h:Below w.heap.size w w') (n:Nat):Below w.heap.size w (w'.drewN n):=h.trans ⟨rfl,rfl,rfl,Nat.le_refl _,fun _ _=>rfl⟩
theorem K.again {W w':World} {o:Obj} (h:Below W.heap.size W (w'.alloc o)) (hB:W.heap.size≤w'.heap.size) (o':Obj):Below W.heap.size W (w'.alloc o') :=
 ⟨h.os,h.tape,h.output,by have:=h.size;simp at this ⊢;omega,fun k hk=>by rw [Below.heap_alloc _ _ _ (by omega),← h.block k hk,Below.heap_alloc _ _ _ (by omega)]⟩
theorem K.set {W w':World} {p:Addr} (h:Below W.heap.size W w') (hp:W.heap.size≤p.block) (u:Value):Below W.heap.size W (w'.setCell p u):=h.setCell hp u
theorem lt_keep {W w1:World} (hb:Below W.heap.size W w1):∀ n,n<W.heap.size→n<w1.heap.size:=fun _ h=>Nat.lt_of_lt_of_le h hb.size
theorem Arr.stored {W:World} {n:Nat} {y0 y1 y2 y3:Int} (h:Arr W n y0 y1 y2 y3) (x0 x1 x2 x3:Int) :
  Arr ((((W.setCell ⟨n,0,none⟩ (.int .u64 x0)).setCell ⟨n,1,none⟩ (.int .u64 x1)).setCell ⟨n,2,none⟩ (.int .u64 x2)).setCell ⟨n,3,none⟩ (.int .u64 x3)) n x0 x1 x2 x3:=by
 obtain ⟨h,h0,h1,h2,h3⟩:=h
 constructor
 ·simpa using h
 all_goals simp [go_sem,h0,h1,h2,h3]
theorem items_nil (xs ys:Array Value) (w:World):(Op.eqItems 9999 31 1 xs ys []).run Tryd.prog w=.ok true w:=rfl
theorem items_cons (xs ys:Array Value) (j:Nat) (js:List Nat) (x y:Int) (r:Bool) (hx:xs[j]?=some (.int .u64 x)) (hy:ys[j]?=some (.int .u64 y)) (w:World)
  (h:(Op.eqItems 9999 31 1 xs ys js).run Tryd.prog w=.ok r w):(Op.eqItems 9999 31 1 xs ys (j :: js)).run Tryd.prog w=.ok (x == y && r) w:=by
 have he:Tryd.prog.plainKey 31=true:=by kernel_rfl
 simp only [Op.eqItems,Sem.run_bind,Nat.mul_one,run_part_plain w he hx,run_part_plain w he hy,Result.andThen_ok,run_equalIn_int w 9998 31 .u64 .u64 x y Tryd.underlying31]
 cases x == y <;> simp [h]
theorem eq4 (x0 x1 x2 x3 y0 y1 y2 y3:Int) (w:World) :
  (Op.equalIn 10000 33 (.agg #[.int .u64 x0,.int .u64 x1,.int .u64 x2,.int .u64 x3]) (.agg #[.int .u64 y0,.int .u64 y1,.int .u64 y2,.int .u64 y3])).run Tryd.prog w=.ok (x0 == y0 && (x1 == y1 && (x2 == y2 && (x3 == y3 && true)))) w:=by
 obtain ⟨i,hi⟩:=Option.isSome_iff_exists.1 (show (Tryd.prog.info? 31).isSome=true by kernel_rfl)
 rw [run_equalIn_array w 9999 _ _ Tryd.underlying33 hi]
 have hc:Tryd.prog.cellsOf 31=1:=by kernel_rfl
 have r4:List.range 4=[0,1,2,3]:=rfl
 rw [hc,r4]
 exact items_cons _ _ 0 _ _ _ _ rfl rfl w (items_cons _ _ 1 _ _ _ _ rfl rfl w (items_cons _ _ 2 _ _ _ _ rfl rfl w (items_cons _ _ 3 _ _ _ _ rfl rfl w (items_nil _ _ w))))
theorem ret_int {k:IntKind} {a b:Int} (h:a=b):Ending.returned (.int k a)=.returned (.int k b):=by rw [h]
theorem ret_bool {a b:Bool} (h:a=b):Ending.returned (.bool a)=.returned (.bool b):=by rw [h]
theorem set_drewN (W:World) (n:Nat) (p:Addr) (v:Value):(W.drewN n).setCell p v=(W.setCell p v).drewN n:=rfl
theorem set_out {W:World} {b:Nat} (hb:b=W.heap.size) (c:Array Value) (t:TypeId) (i:Nat) (v:Value) (n:Nat):((W.alloc (.cells c t)).drewN n).setCell ⟨b,i,none⟩ v=(W.alloc (.cells (c.setIfInBounds i v) t)).drewN n:=by
 rw [set_drewN,World.setCell_alloc_at _ _ _ _ _ hb]
structure ArrW (w:World) (b:Nat) (x0 x1 x2 x3:Int):Prop where
 lt:b<w.heap.size
 c0:w.cell? ⟨b,0,none⟩=some (.int .u64 x0)
 c1:w.cell? ⟨b,1,none⟩=some (.int .u64 x1)
 c2:w.cell? ⟨b,2,none⟩=some (.int .u64 x2)
 c3:w.cell? ⟨b,3,none⟩=some (.int .u64 x3)
 f0:w.frozen? ⟨b,0,none⟩=false
 f1:w.frozen? ⟨b,1,none⟩=false
 f2:w.frozen? ⟨b,2,none⟩=false
 f3:w.frozen? ⟨b,3,none⟩=false
theorem ArrW.keep {W w1:World} {b:Nat} {x0 x1 x2 x3:Int} (h:ArrW W b x0 x1 x2 x3) (hb:Below W.heap.size W w1):ArrW w1 b x0 x1 x2 x3 :=
 ⟨Nat.lt_of_lt_of_le h.lt hb.size,later hb h.c0,later hb h.c1,later hb h.c2,later hb h.c3,(hb.frozen (p:=⟨b,0,none⟩) h.lt).trans h.f0,(hb.frozen (p:=⟨b,1,none⟩) h.lt).trans h.f1,(hb.frozen (p:=⟨b,2,none⟩) h.lt).trans h.f2,(hb.frozen (p:=⟨b,3,none⟩) h.lt).trans h.f3⟩
theorem ArrW.alloc {W:World} {b:Nat} {x0 x1 x2 x3:Int} (h:ArrW W b x0 x1 x2 x3) (o:Obj):ArrW (W.alloc o) b x0 x1 x2 x3 :=
 h.keep ((Below.refl _ _).alloc (Nat.le_refl _) o)
theorem ArrW.new (W:World) (b:Nat) (hb:b=W.heap.size) (t:TypeId) (x0 x1 x2 x3:Int):ArrW (W.alloc (.cells #[.int .u64 x0,.int .u64 x1,.int .u64 x2,.int .u64 x3] t)) b x0 x1 x2 x3:=by
 subst hb
 constructor <;> simp [go_sem]
theorem ArrW.stored {W:World} {n:Nat} {y0 y1 y2 y3:Int} (h:ArrW W n y0 y1 y2 y3) (x0 x1 x2 x3:Int):ArrW ((((W.setCell ⟨n,0,none⟩ (.int .u64 x0)).setCell ⟨n,1,none⟩ (.int .u64 x1)).setCell ⟨n,2,none⟩ (.int .u64 x2)).setCell ⟨n,3,none⟩ (.int .u64 x3)) n x0 x1 x2 x3:=by
 obtain ⟨h,h0,h1,h2,h3,f0,f1,f2,f3⟩:=h
 constructor
 ·simpa using h
 all_goals simp [go_sem,h0,h1,h2,h3,f0,f1,f2,f3]
theorem set4_other {W:World} {n b o:Nat} {v:Value} (hn:b≠n) (x0 x1 x2 x3:Int) (h:W.cell? ⟨b,o,none⟩=some v):((((W.setCell ⟨n,0,none⟩ (.int .u64 x0)).setCell ⟨n,1,none⟩ (.int .u64 x1)).setCell ⟨n,2,none⟩ (.int .u64 x2)).setCell ⟨n,3,none⟩ (.int .u64 x3)).cell? ⟨b,o,none⟩=some v:=by
 simp [go_sem,h]
theorem set4_frozen {W:World} {n:Nat} (p:Addr) (x0 x1 x2 x3:Int):((((W.setCell ⟨n,0,none⟩ (.int .u64 x0)).setCell ⟨n,1,none⟩ (.int .u64 x1)).setCell ⟨n,2,none⟩ (.int .u64 x2)).setCell ⟨n,3,none⟩ (.int .u64 x3)).frozen? p=W.frozen? p:=by
 simp [World.frozen?_setCell]
theorem Arr.set4 {W:World} {n b:Nat} {y0 y1 y2 y3:Int} (h:Arr W b y0 y1 y2 y3) (hn:b≠n) (x0 x1 x2 x3:Int):Arr ((((W.setCell ⟨n,0,none⟩ (.int .u64 x0)).setCell ⟨n,1,none⟩ (.int .u64 x1)).setCell ⟨n,2,none⟩ (.int .u64 x2)).setCell ⟨n,3,none⟩ (.int .u64 x3)) b y0 y1 y2 y3 :=
 ⟨by have:=h.lt;simpa using this,set4_other hn _ _ _ _ h.c0,set4_other hn _ _ _ _ h.c1,set4_other hn _ _ _ _ h.c2,set4_other hn _ _ _ _ h.c3⟩
theorem ArrW.set4 {W:World} {n b:Nat} {y0 y1 y2 y3:Int} (h:ArrW W b y0 y1 y2 y3) (hn:b≠n) (x0 x1 x2 x3:Int):ArrW ((((W.setCell ⟨n,0,none⟩ (.int .u64 x0)).setCell ⟨n,1,none⟩ (.int .u64 x1)).setCell ⟨n,2,none⟩ (.int .u64 x2)).setCell ⟨n,3,none⟩ (.int .u64 x3)) b y0 y1 y2 y3 :=
 ⟨by have:=h.lt;simpa using this,set4_other hn _ _ _ _ h.c0,set4_other hn _ _ _ _ h.c1,set4_other hn _ _ _ _ h.c2,set4_other hn _ _ _ _ h.c3,(set4_frozen _ _ _ _ _).trans h.f0,(set4_frozen _ _ _ _ _).trans h.f1,(set4_frozen _ _ _ _ _).trans h.f2,(set4_frozen _ _ _ _ _).trans h.f3⟩
theorem K.set4 {w W:World} {n:Nat} (h:Below w.heap.size w W) (hn:w.heap.size≤n) (x0 x1 x2 x3:Int):Below w.heap.size w ((((W.setCell ⟨n,0,none⟩ (.int .u64 x0)).setCell ⟨n,1,none⟩ (.int .u64 x1)).setCell ⟨n,2,none⟩ (.int .u64 x2)).setCell ⟨n,3,none⟩ (.int .u64 x3)) :=
 K.set (K.set (K.set (K.set h hn _) hn _) hn _) hn _
end Go.Proofs.YtjaahnlpnkcimaaDoor

namespace Go.Proofs.YtjaahnlpnkcimaaDoor
set_option maxRecDepth 100000
open Go.RowKit
structure Rd (w:World) (b o n:Nat) (f:Nat→Int):Prop where
 c:∀ i,i<n→w.cell? ⟨b,o+i,none⟩=some (.int .u8 (f i))
structure Row8 (w:World) (b n:Nat) (f:Nat→Int):Prop where
 lt:b<w.heap.size
 c:∀ i,i<n→w.cell? ⟨b,i,none⟩=some (.int .u8 (f i))
 z:∀ i,i<n→w.frozen? ⟨b,i,none⟩=false
theorem Rd.keep {W w1:World} {b o n:Nat} {f:Nat→Int} (h:Rd W b o n f) (hb:Below W.heap.size W w1):Rd w1 b o n f :=
 ⟨fun i hi=>later hb (h.c i hi)⟩
theorem Rd.part {w:World} {b o n:Nat} {f:Nat→Int} (h:Rd w b o n f) (k m:Nat) (hk:k+m≤n):Rd w b (o+k) m (fun i=>f (k+i)) :=
 ⟨fun i hi=>by have:=h.c (k+i) (by omega);rwa [← Nat.add_assoc] at this⟩
theorem Rd.congr {w:World} {b o n:Nat} {f g:Nat→Int} (h:Rd w b o n f) (e:∀ i,i<n→f i=g i):Rd w b o n g :=
 ⟨fun i hi=>by rw [← e i hi];exact h.c i hi⟩
theorem Row8.rd {w:World} {b n:Nat} {f:Nat→Int} (h:Row8 w b n f):Rd w b 0 n f:=⟨fun i hi=>by rw [Nat.zero_add];exact h.c i hi⟩
theorem Row8.congr {w:World} {b n:Nat} {f g:Nat→Int} (h:Row8 w b n f) (e:∀ i,i<n→f i=g i):Row8 w b n g :=
 ⟨h.lt,fun i hi=>by rw [← e i hi];exact h.c i hi,h.z⟩
theorem Row8.store {w:World} {b n:Nat} {f:Nat→Int} (h:Row8 w b n f) (k:Nat) (hk:k<n) (v:Int):Row8 (w.setCell ⟨b,k,none⟩ (.int .u8 v)) b n (fun i=>if i=k then v else f i):=by
 refine ⟨by simpa using h.lt,fun i hi=>?_,fun i hi=>by rw [World.frozen?_setCell];exact h.z i hi⟩
 have hc:=h.c i hi
 have hcs:=h.c k hk
 by_cases e:i=k
 ·subst e;simp [go_sem,hc]
 ·simp [go_sem,hc,e]
end Go.Proofs.YtjaahnlpnkcimaaDoor
namespace Go.Proofs.YtjaahnlpnkcimaaDoor
set_option maxRecDepth 100000
open Go.RowKit
theorem info8:(Tryd.prog.info? 5).map (fun i=>(i.zero,i.size,i.bytes))=some (some (.int .u8 0),1,1):=by kernel_rfl
def cells8 (l:List Nat):List Value:=l.map (fun (x:Nat)=>Value.int .u8 (x:Int))
theorem own_rd {w:World} {base n:Nat} {v:Value} {f:Nat→Int} {xs:List Value} (h:w.ownsRow base 5 1 v n xs) (hx:∀ j,j<n→xs[j]?=some (.int .u8 (f j))) (hn:0<n):∃ g cap,v=.slice (some ⟨g,0,none⟩) n cap∧base≤g∧Row8 w g n f:=by
 rcases h.2 with ⟨_,h0⟩ | ⟨g,cap,cur,rfl,hg,_⟩
 ·omega
 ·refine ⟨g,cap,rfl,hg,(h.lt g rfl).2,fun j hj=>?_,fun j _=>h.frozenAt j⟩
  rw [h.cellAt j (by omega)];exact hx j hj
theorem own_cap {w:World} {base n g cap:Nat} {xs:List Value} (h:w.ownsRow base 5 1 (.slice (some ⟨g,0,none⟩) n cap) n xs):n≤cap:=by
 rcases h.2 with ⟨h1,_⟩ | ⟨g',cap',cur,h1,_,_,hle,_⟩
 ·cases h1
 ·cases h1;exact hle
theorem cells8_at (l:List Nat) (i:Nat) (h:i<l.length):(cells8 l)[i]?=some (Value.int .u8 ((l.getD i 0:Nat):Int)):=by
 simp [cells8,h]
end Go.Proofs.YtjaahnlpnkcimaaDoor
namespace Go.Proofs.YtjaahnlpnkcimaaDoor
set_option maxRecDepth 100000
open Go.RowKit
structure BA (w:World) (a:Option Addr) (n:Nat) (f:Nat→Nat):Prop where
 lt:∀ i,f i<256
 at_:n=0∨∃ b o,a=some ⟨b,o,none⟩∧Rd w b o n (fun i=>((f i:Nat):Int))
theorem BA.keep {W w1:World} {a:Option Addr} {n:Nat} {f:Nat→Nat} (h:BA W a n f) (hb:Below W.heap.size W w1):BA w1 a n f :=
 ⟨h.lt,h.at_.elim Or.inl fun ⟨b,o,e,hr⟩=>Or.inr ⟨b,o,e,hr.keep hb⟩⟩
def fl (f:Nat→Nat) (n:Nat):List Nat:=(List.range n).map f
theorem fl_len (f:Nat→Nat) (n:Nat):(fl f n).length=n:=by simp [fl]
theorem fl_at (f:Nat→Nat) {n i:Nat} (h:i<n):(fl f n)[i]?=some (f i):=by simp [fl,h]
theorem fl_lt {f:Nat→Nat} (hf:∀ i,f i<256) (n:Nat):∀ x ∈ fl f n,x<256:=by
 intro x hx
 simp only [fl,List.mem_map] at hx
 obtain ⟨i,_,rfl⟩:=hx
 exact hf i
theorem cells8_len (l:List Nat):(cells8 l).length=l.length:=by simp [cells8]
theorem cells8_one (l:List Nat):∀ u ∈ cells8 l,u.oneCell'=true:=by
 intro u hu
 simp only [cells8,List.mem_map] at hu
 obtain ⟨i,_,rfl⟩:=hu
 rfl
theorem run_append_zero {P:Program} (w:World) (base:Nat) (t ty e:TypeId) (i:TypeInfo) (size:Nat) (ht:P.underlying t=some (.slice e)) (hi:P.info? e=some i)
  (v:Value) (n:Nat) (xs:List Value) (hown:w.ownsRow base e size v n xs) (x:Option Addr) (c:Nat) :
  (Builtin.append_ #[t,t] ty #[v,.slice x 0 c]).run P w=.ok v w:=by
 rcases hown.2 with ⟨rfl,rfl⟩ | ⟨g,cap,cur,rfl,_,_,hnc,_⟩
 ·cases x <;> simp [Builtin.append_,run_underlying ht,sizeOf,typeInfo,hi,Builtin.lenOf,Builtin.firstCells,loadCells,loadCellsFrom]
 ·cases x <;> simp [Builtin.append_,run_underlying ht,sizeOf,typeInfo,hi,Builtin.lenOf,Builtin.firstCells,hnc,storeCells,loadCells,loadCellsFrom]
theorem run_app {W:World} {base:Nat} {v:Value} {n:Nat} {l:List Nat} (hown:W.ownsRow base 5 1 v n (cells8 l)) {x:Option Addr} {m c:Nat} {f:Nat→Nat} (hx:BA W x m f) (hb:n+m≤1000000) (hbase:base≤W.heap.size) (ty:TypeId) :
  ∃ v' w',(Builtin.append_ #[24,24] ty #[v,.slice x m c]).run Tryd.prog W=.ok v' w'∧w'.ownsRow base 5 1 v' (n+m) (cells8 (l++fl f m))∧W.grownBy w' v.ownBlock:=by
 obtain ⟨i0,hi,hz0,hz1,hz2⟩:=info_parts info8
 rcases hx.at_ with rfl | ⟨b,o,rfl,hr⟩
 ·refine ⟨v,W,run_append_zero W base _ _ 5 i0 1 Tryd.underlying24 hi v n _ hown x c,?_,World.grownBy.refl _ _⟩
  rw [show fl f 0=[] from rfl,List.append_nil]
  exact hown
 ·obtain ⟨v',w',h1,h2,h3,_⟩:=run_append_own (P:=Tryd.prog) W base 24 ty 5 i0 (.int .u8 0) 1 1 Tryd.underlying24 hi hz0 hz1 hz2 rfl (by decide) v n _ hown ⟨b,o,none⟩ m c (cells8 (fl f m)) (by rw [cells8_len,fl_len];omega) (fun j u hu=>by
   have hj:j<m:=by
    rcases Nat.lt_or_ge j m with h' | h'
    ·exact h'
    ·rw [List.getElem?_eq_none (by rw [cells8_len,fl_len];exact h')] at hu;cases hu
   have hc:=hr.c j hj
   rw [cells8_at _ j (by rw [fl_len];exact hj),List.getD_eq_getElem?_getD,fl_at f hj] at hu
   have ea:(⟨b,o,none⟩:Addr).add j=⟨b,o+j,none⟩:=by unfold Addr.add;split <;> simp_all
   rw [ea,hc]
   simpa using hu) (cells8_one _) (by unfold maxLen;omega) (by omega) hbase
  refine ⟨v',w',h1,?_,h3⟩
  rw [show cells8 (l++fl f m)=cells8 l++cells8 (fl f m) from List.map_append]
  exact h2
end Go.Proofs.YtjaahnlpnkcimaaDoor
namespace Go.Proofs.YtjaahnlpnkcimaaDoor
set_option maxRecDepth 100000
open Go.RowKit
def seqFrom:Nat→List Oper→Bool
 | _,[]=>true
 | k,o :: os=>lessAll k (deps o) && seqFrom (k+1) os
theorem seq_spec:∀ {k:Nat} {os:List Oper},seqFrom k os=true→∀ j o,os[j]?=some o→∀ d ∈ deps o,d<k+j
 | k,[],_,j,o,ho,_,_=>by simp at ho
 | k,o' :: os,h,j,o,ho,d,hd=>by
  simp only [seqFrom,Bool.and_eq_true] at h
  cases j with
  | zero =>
   simp at ho
   subst ho
   exact lessAll_spec h.1 d hd
  | succ j =>
   have:=seq_spec h.2 j o (by simpa using ho) d hd
   omega
theorem up_seq {ops:Array Oper} {i:Nat} {o:Oper} (hs:seqFrom 0 ops.toList=true) (ho:ops[i]?=some o):Up ops i o (fun j=>decide (j<i)):=by
 refine ⟨by simp,fun j hj=>?_,fun k ok hk hLk j hj=>?_⟩
 ·have:=seq_spec hs i o (by simpa using ho) j hj
  simp;omega
 ·have:=seq_spec hs k ok (by simpa using hk) j hj
  simp only [decide_eq_true_eq] at hLk ⊢
  omega
section
variable {P:Program} {W:Bs} {n:Nat} {ops:Array Oper} {i:Nat} {o:Oper} {σ σ':SS} {Q:Exit→Act→World→Prop} {rest:List Nat} {a:Act} {w:World}
theorem sq_begin {id:Nat} (l:List Nat) (hl:List.range ops.size=l) (h:wpOps P ops Q l a w):(Code.region id ops false).wp P Q a w:=wp_region (by rw [hl];exact h)
theorem sq_end (h:Q .normal a w):wpOps P ops Q [] a w:=h
theorem sq_step (h:Rp W n σ a w) (ho:ops[i]?=some o) (hg:GStep P W n ops o σ σ') (hk:∀ a w,Rp W n σ' a w→wpOps P ops Q rest a w):wpOps P ops Q (i :: rest) a w:=by
 rw [wpOps_cons]
 refine wpOp_step ho (fun K' hK=>?_)
 have g:=hg a w Q h
 split
 ·rename_i hw
  rw [if_pos hw] at g
  exact Oper.wp_mono (fun a' w' hR'=>hK a' w' (hk a' w' hR')) g
 ·rename_i hw
  rw [if_neg hw] at g
  exact hK _ _ (hk _ _ g)
end
section
variable {P:Program} {W:Bs} {n:Nat} {ops:Array Oper} {i:Nat} {o:Oper} {σ:SS} {Q:Exit→Act→World→Prop} {rest:List Nat} {a:Act} {w:World}
theorem gq0 (h:o.guard=none):Gd ops n o σ:=fun j b e=>by rw [h] at e;cases e
theorem gq1 (j:Nat) (b:Bool) (h:o.guard=some (j,b)) (hy:σ.yes ops n j=some b):Gd ops n o σ:=fun j' b' e=>by rw [h] at e;cases e;exact hy
end
end Go.Proofs.YtjaahnlpnkcimaaDoor
namespace Go.Proofs.YtjaahnlpnkcimaaDoor
set_option maxRecDepth 100000
open Go.RowKit
def cat (f:Nat→Nat) (n:Nat) (g:Nat→Nat) (i:Nat):Nat:=if i<n then f i else g (i-n)
theorem own_max {w:World} {base n:Nat} {v:Value} {xs:List Value} (h:w.ownsRow base 5 1 v n xs):∃ a cap,v=.slice a n cap∧n≤cap∧cap≤maxLen:=by
 rcases h.2 with ⟨rfl,rfl⟩ | ⟨g,cap,cur,rfl,_,_,h1,h2,_⟩
 ·exact ⟨_,_,rfl,Nat.le_refl _,by unfold maxLen;omega⟩
 ·exact ⟨_,_,rfl,h1,h2⟩
theorem own_ba {w:World} {base n cap:Nat} {a:Option Addr} {f:Nat→Nat} (h:w.ownsRow base 5 1 (.slice a n cap) n (cells8 (fl f n))) (hf:∀ i,f i<256):BA w a n f:=by
 refine ⟨hf,?_⟩
 by_cases h0:n=0
 ·exact Or.inl h0
 ·obtain ⟨g,cap',hv,hg,hr⟩:=own_rd (f:=fun i=>((f i:Nat):Int)) h (fun j hj=>by rw [cells8_at _ j (by rw [fl_len];exact hj),List.getD_eq_getElem?_getD,fl_at f hj];rfl) (by omega)
  cases hv
  exact Or.inr ⟨g,0,rfl,hr.rd⟩
end Go.Proofs.YtjaahnlpnkcimaaDoor
namespace Go.Proofs.YtjaahnlpnkcimaaDoor
set_option maxRecDepth 100000
open Go.RowKit
def goneO (x:OE) (y:Nat):Bool:=isSlot (x.l) y || isSlot (x.l2) y
theorem goneO_f {x:OE} {y:Nat} (h:goneO x y=false):¬ x.l=some y∧¬ x.l2=some y:=by
 simp only [goneO,Bool.or_eq_false_iff] at h
 exact ⟨fun e=>(by rw [isSlot_iff.2 e] at h;cases h.1),fun e=>(by rw [isSlot_iff.2 e] at h;cases h.2)⟩
theorem goneO_t {x:OE} {y:Nat} (h:goneO x y=true):x.l=some y∨x.l2=some y:=by
 simp only [goneO,Bool.or_eq_true] at h
 exact h.imp isSlot_iff.1 isSlot_iff.1
def lookQ (ds:List Nat) (i:Nat):Nat→List Oper→List OE→Nat→Option (Option Pd)→Option (Option Pd)
 | _,_,[],_,v=>v
 | _,[],_ :: _,_,_=>none
 | k,o :: os,x :: r,y,v=>lookQ ds i (k+1) os r y (bif goneO x y || isSlot (x.take) y then (bif has ds k then some (some (bif goneO x y then pd0 else x.pd)) else bif Nat.beq k i || has (deps o) i then v else none) else v)
theorem lookQ_ok {ds:List Nat} {y i:Nat} {L:Nat→Bool} (hL:∀ i ∈ ds,L i=true) (hi:L i=false):∀ (os:List Oper) (xs:List OE) (k:Nat) {v0:Option (Option Pd)} {v:Option Pd} {σ:SS},(∀ j o,os[j]?=some o→L (k+j)=true→∀ e ∈ deps o,L e=true) →
  lookQ ds i k os xs y v0=some v→(∀ u,v0=some u→σ.q y=u)→(run L k xs σ).q y=v
 | os,[],k,v0,v,σ,_,h,h0=>by
  rw [lookQ] at h
  exact h0 v h
 | [],x :: r,k,v0,v,σ,_,h,_=>by
  rw [lookQ] at h
  cases h
 | o :: os,x :: r,k,v0,v,σ,hc,h,h0=>by
  rw [lookQ] at h
  rw [run]
  refine lookQ_ok hL hi os r (k+1) (fun j o' ho hj=>hc (j+1) o' (by simpa using ho) (by rw [show k+(j+1)=k+1+j by omega];exact hj)) h (fun u hu=>?_)
  cases hs:goneO x y || isSlot (x.take) y with
  | false =>
   simp only [hs,cond_false] at hu
   rw [← h0 u hu]
   split
   ·rw [Bool.or_eq_false_iff] at hs
    rw [OE.app_q,if_neg (goneO_f hs.1).1,if_neg (goneO_f hs.1).2,if_neg (fun e=>by rw [isSlot_iff.2 e] at hs;cases hs.2)]
   ·rfl
  | true =>
   simp only [hs,cond_true] at hu
   cases hk:has ds k with
   | true =>
    simp only [hk,cond_true,Option.some.injEq] at hu
    rw [hL k (has_mem hk),if_pos rfl,OE.app_q,← hu]
    cases hl:goneO x y with
    | true =>
     rcases goneO_t hl with e | e
     ·rw [if_pos e];rfl
     ·by_cases e1:x.l=some y
      ·rw [if_pos e1];rfl
      ·rw [if_neg e1,if_pos e];rfl
    | false =>
     rw [hl,Bool.false_or] at hs
     rw [if_neg (goneO_f hl).1,if_neg (goneO_f hl).2,if_pos (isSlot_iff.1 hs)]
     rfl
   | false =>
    simp only [hk,cond_false] at hu
    cases hb:Nat.beq k i || has (deps o) i with
    | false=>simp [hb] at hu
    | true =>
     simp only [hb,cond_true] at hu
     have hk0:L k=false:=by
      simp only [Bool.or_eq_true] at hb
      rcases hb with hb | hb
      ·rw [Nat.eq_of_beq_eq_true hb];exact hi
      ·cases hLk:L k with
       | false=>rfl
       | true =>
        have:=hc 0 o rfl hLk i (has_mem hb)
        rw [hi] at this
        cases this
     rw [hk0]
     simp only [Bool.false_eq_true,if_false]
     exact h0 u hu
theorem Up.q {ops:Array Oper} {i:Nat} {o:Oper} {L:Nat→Bool} (u:Up ops i o L) {xs:List OE} {σ:SS} {y:Nat} {v:Option Pd} (h:lookQ (Proofs.YtjaahnlpnkcimaaDoor.deps o) i 0 ops.toList xs y (some (σ.q y))=some v):(run L 0 xs σ).q y=v :=
 lookQ_ok u.deps u.no ops.toList xs 0 (fun j o' ho hj e he=>u.cl j o' (by simpa using ho) (by simpa using hj) e he) h (fun u hu=>by cases hu;rfl)
theorem Rep.thing {W:Bs} {n:Nat} {β:Nat→Loc} {σ:SS} {a:Act} {w:World} (h:Rep W n β σ a w) {x:Nat} {p:Pd} (hx:σ.q x=some p):p.p (β x).v (β x).F w:=(h.qk.qa x p hx).1
theorem Rep.gets {W:Bs} {n:Nat} {β:Nat→Loc} {τ:SS} {a:Act} {w w':World} (h:Rep W n β τ a w) (hb:Below w.heap.size w w') (x:Nat) (hx:τ.q x=none) (p:Pd) (v:Value) (F:Nat→Bool) (hp:p.p v F w') (hF:∀ b,F b=true→w.heap.size≤b∧b<w'.heap.size) :
  Rep W n (fun y=>if y=x then ⟨(β x).b,v,F⟩ else β y) ((τ.obj x p).set (some x) (.unk x id)) (a.put (some x) v) w':=by
 have g:=(h.other (β':=fun y=>if y=x then ⟨(β x).b,v,F⟩ else β y) (fun y hy=>by
  by_cases e:y=x
  ·subst e;simp
  ·simp [e]) (fun y hy=>by
  have:y≠x:=fun e=>by rw [e,hx] at hy;cases hy
  simp [this])).grow hb
 have far:∀ y,y≠x→(τ.q y).isSome=true→∀ b,(β y).F b=true→b<w.heap.size:=fun y _ hy b hb'=>by
  obtain ⟨q,hq⟩:=Option.isSome_iff_exists.1 hy
  exact ((h.qk.qa y q hq).2 b hb').2
 have g2:Rep W n (fun y=>if y=x then ⟨(β x).b,v,F⟩ else β y) (τ.obj x p) a w':=by
  refine ⟨g.df,g.sz,g.sl,g.bl,g.va,g.ne,g.pt,⟨fun y q hy=>?_,fun y z hy hz=>?_,fun y z hy hz hn b hbb=>?_,fun j u y gg hj hu e=>?_⟩⟩
  ·by_cases e:y=x
   ·subst e
    simp only [SS.obj,if_true,Option.some.injEq] at hy
    subst hy
    simp only [if_true]
    exact ⟨hp,fun b hbb=>⟨Or.inl (Nat.le_trans (Kp.size h.bl) (hF b hbb).1),(hF b hbb).2⟩⟩
   ·simp only [SS.obj,if_neg e] at hy
    exact g.qk.qa y q hy
  ·by_cases e:y=x
   ·subst e
    obtain ⟨cz,hcz⟩:=Option.isSome_iff_exists.1 hz
    have hlt:=(h.va z cz hcz).2.1
    have hz2:(if z=y then (⟨(β y).b,v,F⟩:Loc) else β z).b=(β z).b:=by
     by_cases e2:z=y
     ·subst e2;simp
     ·simp [e2]
    simp only [if_true]
    rw [hz2]
    cases hFz:F (β z).b with
    | false=>rfl
    | true=>have:=(hF _ hFz).1;omega
   ·simp only [SS.obj,if_neg e] at hy
    exact g.qk.qm y z hy hz
  ·by_cases ey:y=x
   ·subst ey
    have ez:z≠y:=Ne.symm hn
    simp only [SS.obj,if_neg ez] at hz
    simp only [if_true] at hbb
    simp only [if_neg ez]
    cases hFz:(β z).F b with
    | false=>rfl
    | true=>have:=far z ez hz b hFz;have:=(hF b hbb).1;omega
   ·simp only [SS.obj,if_neg ey] at hy
    simp only [if_neg ey] at hbb
    by_cases ez:z=x
    ·subst ez
     simp only [if_true]
     cases hFz:F b with
     | false=>rfl
     | true=>have:=far y ey hy b hbb;have:=(hF b hFz).1;omega
    ·simp only [SS.obj,if_neg ez] at hz
     simp only [if_neg ez]
     exact h.qk.qq y z hy hz hn b hbb
  ·have:=g.qk.qt j u y gg hj hu e
   by_cases ey:y=x
   ·subst ey;simp [SS.obj]
   ·simpa [SS.obj,ey] using this
 have g3:=g2.put (some x) (.unk x id) (fun _ _ e=>by cases e) (fun y gg e=>by cases e;simp [SS.obj])
 have e:(SV.unk x id).at (fun y=>if y=x then (⟨(β x).b,v,F⟩:Loc) else β y)=v:=by simp [SV.at]
 rw [e] at g3
 exact g3
end Go.Proofs.YtjaahnlpnkcimaaDoor
namespace Go.Proofs.YtjaahnlpnkcimaaDoor
set_option maxRecDepth 100000
open Go.RowKit
section
variable {P:Program} {W:Bs} {n:Nat} {ops:Array Oper} {i:Nat} {o:Oper} {L:Nat→Bool} {xs:List OE} {σ:SS}
theorem u_anyQ (u:Up ops i o L) (hg:Gd ops n o (run L 0 xs σ)) (dd:Nat) (hdd:o.dst=some dd) (x:Nat) {p:Pd} (hq:lookQ (deps o) i 0 ops.toList xs x (some (σ.q x))=some (some p)) (g:Value→Value) (h:∀ (β:Nat→Loc) (a:Act) (w:World),Rep W n β (run L 0 xs σ) a w→p.p (β x).v (β x).F w→(execOp a.eval o).run P w=.ok (.value (g (β x).v)) w):GStep P W n ops o (run L 0 xs σ) ((eS dd (.unk x g)).app (run L 0 xs σ)):=by
 have e:(eS dd (.unk x g)).app (run L 0 xs σ)=(run L 0 xs σ).set o.dst (.unk x g):=by rw [hdd];rfl
 rw [e]
 refine Step.gd hg (v_val _ (fun _ _ e=>by cases e) (fun y g' e=>by cases e;rw [u.q hq];rfl) fun β a w hr=>?_)
 exact h β a w hr (hr.thing (u.q hq))
theorem u_valQ (u:Up ops i o L) (hg:Gd ops n o (run L 0 xs σ)) (dd:Nat) (hdd:o.dst=some dd) (x:Nat) {p:Pd} (hq:lookQ (deps o) i 0 ops.toList xs x (some (σ.q x))=some (some p)) (v:Value) (h:∀ (β:Nat→Loc) (a:Act) (w:World),Rep W n β (run L 0 xs σ) a w→p.p (β x).v (β x).F w→(execOp a.eval o).run P w=.ok (.value v) w):GStep P W n ops o (run L 0 xs σ) ((eS dd (.val v)).app (run L 0 xs σ)):=by
 refine u_any u hg dd hdd _ (fun _ _ e=>by cases e) fun β a w hr=>?_
 exact h β a w hr (hr.thing (u.q hq))
theorem u_copyQ (u:Up ops i o L) (hg:Gd ops n o (run L 0 xs σ)) (dd:Nat) (hdd:o.dst=some dd) (x:Operand) (ho:o.op=.move x∨o.op=.assign x) {y:Nat} {g:Value→Value} (hx:lookO n ops i o xs σ x=some (.unk y g)) {p:Pd} (hq:lookQ (deps o) i 0 ops.toList xs y (some (σ.q y))=some (some p)):GStep P W n ops o (run L 0 xs σ) ((eS dd (.unk y g)).app (run L 0 xs σ)):=by
 refine u_anyQ u hg dd hdd y hq g fun β a w hr _=>?_
 unfold execOp
 rcases ho with ho | ho <;> simp only [ho,hr.eval (u.ev hx),Sem.run_pure] <;> rfl
theorem u_callQ (u:Up ops i o L) (hg:Gd ops n o (run L 0 xs σ)) (dd:Nat) (hdd:o.dst=some dd) (hn:lookQ (deps o) i 0 ops.toList xs dd (some (σ.q dd))=some none) (F:Nat) (ar:Array Operand) (ts:Array TypeId) (ho:o.op=.call { callee:=.value (.func F),args:=ar,argTypes:=ts }) (ss:List SV) (hx:ar.toList.map (lookO n ops i o xs σ)=ss.map some) (hE:∀ (vs:Array Value) (w:World),(callFunc F vs).run P w=.ok (.enter F vs) w) (p:Pd)
  (hC:∀ (β:Nat→Loc) (a:Act) (w:World),Rep W n β (run L 0 xs σ) a w→Calls P F (ss.map (SV.at β)).toArray w fun e w'=>∃ v Fp,e=.returned v∧p.p v Fp w'∧(∀ b,Fp b=true→w.heap.size≤b∧b<w'.heap.size)∧Below w.heap.size w w'):GStep P W n ops o (run L 0 xs σ) ((eQ dd p).app (run L 0 xs σ)):=by
 refine u_callG u hg F ar ts ho ss hx hE _ fun β a w hr=>Calls.mono (hC β a w hr) ?_
 rintro e w' ⟨v,Fp,rfl,hp,hF,hb⟩
 refine ⟨v,rfl,fun y=>if y=dd then ⟨(β dd).b,v,Fp⟩ else β y,?_⟩
 have g:=hr.gets hb dd (u.q hn) p v Fp hp hF
 rw [hdd]
 exact g
end
def rowPd (e:TypeId) (size n:Nat) (cs:List Value):Pd:=⟨fun v F w=>w.ownsRow 0 e size v n cs∧∀ b,F b=true ↔ v.ownBlock=some b,fun {v F w w'} _ hb ⟨ho,hF⟩=>by
 refine ⟨⟨ho.1,?_⟩,hF⟩
 rcases ho.2 with h | ⟨g,cap,cur,hv,h0,hg,h1⟩
 ·exact Or.inl h
 ·exact Or.inr ⟨g,cap,cur,hv,h0,by rw [hb g ((hF g).2 (by rw [hv];rfl))];exact hg,h1⟩⟩
theorem row_of {e:TypeId} {size n:Nat} {cs:List Value} {w:World} {base:Nat} {v:Value} (h:w.ownsRow base e size v n cs):(rowPd e size n cs).p v (fun b=>decide (v.ownBlock=some b)) w∧∀ b,(fun b=>decide (v.ownBlock=some b)) b=true→base≤b∧b<w.heap.size :=
 ⟨⟨⟨h.1,h.2.imp id fun ⟨g,cap,cur,a1,_,a3⟩=>⟨g,cap,cur,a1,Nat.zero_le _,a3⟩⟩,fun b=>by simp⟩,fun b hb=>h.lt b (by simpa using hb)⟩
theorem row_ba {w:World} {v:Value} {F:Nat→Bool} {n:Nat} {l:List Nat} (h:(rowPd 5 1 n (cells8 l)).p v F w) (hl:∀ x ∈ l,x<256):∃ z c,v=.slice z n c∧n≤c∧l.length=n∧BA w z n (fun i=>l.getD i 0):=by
 have hlen:l.length=n:=by have:=h.1.1;rw [cells8_len] at this;omega
 obtain ⟨z,c,rfl,h1,_⟩:=own_max h.1
 have e:l=fl (fun i=>l.getD i 0) n:=by
  apply List.ext_getElem?
  intro i
  rcases Nat.lt_or_ge i n with hi | hi
  ·rw [fl_at _ hi,List.getElem?_eq_getElem (by omega)]
   simp [List.getD_eq_getElem?_getD,List.getElem?_eq_getElem (show i<l.length by omega)]
  ·rw [List.getElem?_eq_none (by omega),List.getElem?_eq_none (by rw [fl_len];exact hi)]
 refine ⟨z,c,rfl,h1,hlen,own_ba (by rw [← e];exact h.1) (fun i=>?_)⟩
 rw [List.getD_eq_getElem?_getD]
 cases hi:l[i]? with
 | none=>simp
 | some x=>simpa using hl x (List.mem_of_getElem? hi)
section
variable {W:Bs} {n:Nat} {ops:Array Oper} {i:Nat} {o:Oper} {σ:SS} {Q:Exit→Act→World→Prop} {rest:List Nat} {a:Act} {w:World}
end
section
variable {W:Bs} {n:Nat} {ops:Array Oper} {i:Nat} {o:Oper} {L:Nat→Bool} {xs:List OE} {σ:SS}
end
theorem ret_thing {P:Program} {w0:World} {n:Nat} {σ:SS} {a:Act} {w:World} {fn:Func} {R:Ending→World→Prop} (h:Rp (Bs.of w0) n σ a w) (d:Nat) (hres:fn.results=#[.tmp d]) (hd:d<n) (x:Nat) (g:Value→Value) (hs:σ.s d=some (.unk x g)) {p:Pd} (hx:σ.q x=some p) (hR:∀ v F,p.p v F w→(∀ b,F b=true→w0.heap.size≤b∧b<w.heap.size)→R (.returned (g v)) w):bodyPost P fn R .ret a w:=by
 obtain ⟨β,hp⟩:=h
 obtain ⟨h1,h2⟩:=hp.qk.qa x p hx
 refine ⟨hp.df,g (β x).v,?_,hR _ _ h1 (fun b hb=>⟨?_,(h2 b hb).2⟩)⟩
 ·have e:a.tmps[d]?=some (g (β x).v):=by
   rw [hp.sl d _ hd hs]
   rfl
  simp [results,hres,e]
 ·rcases (h2 b hb).1 with h3 | h3
  ·exact h3
  ·cases h3
end Go.Proofs.YtjaahnlpnkcimaaDoor
namespace Go.Proofs.YtjaahnlpnkcimaaDoor
set_option maxRecDepth 100000
open Go.RowKit
section
variable {P:Program} {W:Bs} {n:Nat} {ops:Array Oper} {i:Nat} {o:Oper} {L:Nat→Bool} {xs:List OE} {σ:SS}
theorem u_lenV (u:Up ops i o L) (hg:Gd ops n o (run L 0 xs σ)) (dd:Nat) (hdd:o.dst=some dd) (x:Operand) (t:TypeId) (ho:o.op=.call { callee:=.builtin .len,args:=#[x],argTypes:=#[t] }) {a:Option Addr} {m c:Nat} (hx:lookO n ops i o xs σ x=some (.val (.slice a m c))) {e:TypeId} (hu:P.underlying t=some (.slice e)):GStep P W n ops o (run L 0 xs σ) ((eS dd (.val (.int .i64 (m:Int)))).app (run L 0 xs σ)):=by
 refine u_any u hg dd hdd _ (fun x c hp=>by cases hp) fun β a w hr=>?_
 unfold execOp
 simp [ho,resolve,invoke,builtin,hr.eval (u.ev hx),SV.at,Builtin.len_,goInt,run_underlying hu]
end
def cutA (a:Option Addr) (c k:Nat):Option Addr:=if c=k then a else a.map (·.add k)
theorem run_fromS {a:Option Addr} {n c k:Nat} (hk:k≤n) (W:World):(Instr.sliceAt 24 (.slice a n c) (some (.int .i64 (k:Int))) none none).run Tryd.prog W=.ok (.slice (cutA a c k) (n-k) (c-k)) W:=by
 have hu:Tryd.prog.underlying 24=some (.slice (Tryd.prog.elem 24)):=by kernel_rfl
 have he:Tryd.prog.elem 24=5:=by kernel_rfl
 have h1:(sizeOf 5).run Tryd.prog W=.ok 1 W:=by
  obtain ⟨i,hi⟩:=Option.isSome_iff_exists.1 (show (Tryd.prog.info? 5).isSome=true by kernel_rfl)
  have:(Tryd.prog.info? 5).map (·.size)=some 1:=by kernel_rfl
  rw [hi] at this
  simp [sizeOf,typeInfo,hi]
  simpa using this
 rw [run_sliceAt_slice W 24 _ _ _ _ hu,run_slice_l W 24 _ n c hu .i64 (k:Int) (by omega) (by omega),he,h1]
 simp only [Result.andThen_ok,sliced,Int.toNat_natCast,Nat.mul_one,cutA]
theorem run_toS {a:Option Addr} {n c m:Nat} (hc:m≤c) (W:World):(Instr.sliceAt 24 (.slice a n c) none (some (.int .i64 (m:Int))) none).run Tryd.prog W=.ok (.slice (cutA a c 0) m c) W:=by
 have hu:Tryd.prog.underlying 24=some (.slice (Tryd.prog.elem 24)):=by kernel_rfl
 have he:Tryd.prog.elem 24=5:=by kernel_rfl
 have h1:(sizeOf 5).run Tryd.prog W=.ok 1 W:=by
  obtain ⟨i,hi⟩:=Option.isSome_iff_exists.1 (show (Tryd.prog.info? 5).isSome=true by kernel_rfl)
  have:(Tryd.prog.info? 5).map (·.size)=some 1:=by kernel_rfl
  rw [hi] at this
  simp [sizeOf,typeInfo,hi]
  simpa using this
 rw [run_sliceAt_slice W 24 _ _ _ _ hu,run_slice_h W 24 _ n c hu .i64 (m:Int) (by omega) (by omega),he,h1]
 simp only [Result.andThen_ok,sliced,Int.toNat_natCast,Nat.mul_one,cutA,Nat.sub_zero]
theorem BA.cut {w:World} {a:Option Addr} {n:Nat} {f:Nat→Nat} (h:BA w a n f) (c k m:Nat) (hk:k+m≤n) (hc:n≤c):BA w (cutA a c k) m (fun i=>f (k+i)):=by
 refine ⟨fun i=>h.lt _,?_⟩
 by_cases h0:m=0
 ·exact Or.inl h0
 ·rcases h.at_ with hn | ⟨b,o,rfl,hr⟩
  ·omega
  ·refine Or.inr ⟨b,o+k,?_,hr.part k m hk⟩
   unfold cutA
   rw [if_neg (by omega),Option.map_some,Addr.add_mid]
end Go.Proofs.YtjaahnlpnkcimaaDoor
namespace Go.Proofs.YtjaahnlpnkcimaaDoor
set_option maxRecDepth 100000
open Go.RowKit
section
variable {W:Bs} {n:Nat} {ops:Array Oper} {i:Nat} {o:Oper} {L:Nat→Bool} {xs:List OE} {σ:SS}
end
end Go.Proofs.YtjaahnlpnkcimaaDoor
namespace Go.Proofs.YtjaahnlpnkcimaaDoor
set_option maxRecDepth 100000
open Go.RowKit
def tailV (k:Nat):Value→Value
 | .slice a n c=>.slice (cutA a c k) (n-k) (c-k)
 | v=>v
section
variable {W:Bs} {n:Nat} {ops:Array Oper} {i:Nat} {o:Oper} {L:Nat→Bool} {xs:List OE} {σ:SS}
end
end Go.Proofs.YtjaahnlpnkcimaaDoor
namespace Go.Proofs.YtjaahnlpnkcimaaDoor
set_option maxRecDepth 100000
open Go.RowKit
def elemV (k:Nat):Value→Value
 | .slice (some ⟨b,o,none⟩) _ _=>.pointer (some ⟨b,o+k,none⟩)
 | v=>v
def headV (k:Nat):Value→Value
 | .slice a _ c=>.slice (cutA a c 0) k c
 | v=>v
section
variable {W:Bs} {n:Nat} {ops:Array Oper} {i:Nat} {o:Oper} {L:Nat→Bool} {xs:List OE} {σ:SS}
end
end Go.Proofs.YtjaahnlpnkcimaaDoor
namespace Go.Proofs.YtjaahnlpnkcimaaDoor
set_option maxRecDepth 100000
open Go.RowKit
section
variable {P:Program} {W:Bs} {n:Nat} {ops:Array Oper} {i:Nat} {o:Oper} {σ:SS} {Q:Exit→Act→World→Prop} {rest:List Nat} {a:Act} {w:World}
end
section
variable {P:Program} {K:Act→World→Prop} {Q:Exit→Act→World→Prop} {a:Act} {w:World} {ch:List PanicEntry}
end
section
variable {P:Program} {W:Bs} {n:Nat} {ops:Array Oper} {i:Nat} {o:Oper} {L:Nat→Bool} {xs:List OE} {σ:SS}
end
end Go.Proofs.YtjaahnlpnkcimaaDoor
