/- What field.Reduce answers. Numbers of four words as they lie in memory. Plain arithmetic: a number whose powers of some g have the full order is a prime, and every number that it doesn't divide has a power 1. Polynomials whose identities are told by one number: sums of products of powers are held against their value at great powers of two2. Numbers modulo p as a type, and the codes of polynomials that stand for them. The formula by which points of the first curve are added, and what it does on the curve: told by the codes of polynomials. What the formula does on the first curve, as identities: told by the codes of polynomials. The points of the first curve are a group. The points of the first curve are a group: the sum's laws. Multiples in a group, and how they are reckoned bit by bit. The formula by which points of the second curve are added, with one denominator of X and one of Y: identities, told by the codes of polynomials. The points of the second curve are a group. -/
import Derived.Test.YtjaahnlpnkcimaaDoorAB17
import Derived.Test.YtjaahnlpnkcimaaDoorAB01
import Derived.Test.YtjaahnlpnkcimaaDoorAB14
import Derived.Test.YtjaahnlpnkcimaaDoorAB02
import Derived.Below
set_option maxHeartbeats 2000000
namespace Go.Proofs.YtjaahnlpnkcimaaDoor
set_option maxRecDepth 100000
open Go.RowKit
attribute [local go_sem ↓] Go.wp_at_zero Go.wp_at_succ
theorem f_reduce {k x:Int} (hkk:0≤k∧k≤3) (hx:Wide x) {w:World} (hT:Tab w):Calls Tryd.prog 43 #[.int .i64 k,.agg #[.int .u64 (L 0 x),.int .u64 (L 1 x),.int .u64 (L 2 x),.int .u64 (L 3 x),.int .u64 (L 4 x),.int .u64 (L 5 x),.int .u64 (L 6 x),.int .u64 (L 7 x)]] w fun e w'=>e=.returned (.agg #[.int .u64 (L 0 (x % md k)),.int .u64 (L 1 (x % md k)),.int .u64 (L 2 (x % md k)),.int .u64 (L 3 (x % md k))])∧Below w.heap.size w w':=by
 go_enter Tryd.func43,Tryd.ntmps43
 go_wp2
 have hR:=(ArrW.new (w.alloc (.cells #[.int .u64 (L 0 x),.int .u64 (L 1 x),.int .u64 (L 2 x),.int .u64 (L 3 x),.int .u64 (L 4 x),.int .u64 (L 5 x),.int .u64 (L 6 x),.int .u64 (L 7 x)] 63)) (w.heap.size+1) (by simp) 33 0 0 0 0).keep (Below.refl _ _).drew
 go_region_held3 (fun w'=>Below w.heap.size w w'∧w'.cell? ⟨w.heap.size,0,none⟩=some (.int .u64 (L 0 x))∧w'.cell? ⟨w.heap.size,1,none⟩=some (.int .u64 (L 1 x))∧w'.cell? ⟨w.heap.size,2,none⟩=some (.int .u64 (L 2 x))∧w'.cell? ⟨w.heap.size,3,none⟩=some (.int .u64 (L 3 x))∧w'.cell? ⟨w.heap.size,4,none⟩=some (.int .u64 (L 4 x))∧w'.cell? ⟨w.heap.size,5,none⟩=some (.int .u64 (L 5 x))∧w'.cell? ⟨w.heap.size,6,none⟩=some (.int .u64 (L 6 x))∧w'.cell? ⟨w.heap.size,7,none⟩=some (.int .u64 (L 7 x)))
  ((go_split_ands;(repeat' apply And.intro) <;> first | (with_reducible assumption) | (with_reducible exact later hk (by assumption)) | (with_reducible exact K.call (by assumption) hk) | (with_reducible exact later_a (by assumption)) | (with_reducible exact later_ad (by assumption)) | (with_reducible exact set4_other (by omega) _ _ _ _ (by assumption)) | (with_reducible exact K.set4 (by assumption) (by omega) _ _ _ _) | (simp [go_sem];done) | (repeat' (first | (with_reducible assumption) | (with_reducible exact Below.refl _ _) | (with_reducible refine K.drewN ?_ _) | (with_reducible refine K.drew ?_) | (with_reducible refine K.alloc ?_ _)))))
  (first
   | (go_at_call 45;with_reducible refine Calls.mono (modOf_any k (hT.keep (by go_split_ands;assumption))) ?_;rintro e w' ⟨rfl,hk⟩;have hR:=hR.keep hk;have ⟨kr,kr0,kr1,kr2,kr3,kf0,kf1,kf2,kf3⟩:=hR)
   | (go_at_call 74;with_reducible refine Calls.mono (red_any hkk hx _) ?_;rintro e w' ⟨rfl,hk⟩;have hR:=hR.keep hk;have ⟨kr,kr0,kr1,kr2,kr3,kf0,kf1,kf2,kf3⟩:=hR))
 have hH:=‹Below _ _ _∧_›
 go_wp2
 exact bodyPost_ret (v:=.agg #[.int .u64 (L 0 (x % md k)),.int .u64 (L 1 (x % md k)),.int .u64 (L 2 (x % md k)),.int .u64 (L 3 (x % md k))]) (by simp [results,Tryd.results43,go_sem,kr0,kr1,kr2,kr3]) rfl ⟨rfl,hH.1⟩
end Go.Proofs.YtjaahnlpnkcimaaDoor
namespace Go.Proofs.YtjaahnlpnkcimaaDoor
set_option maxRecDepth 100000
open Go.RowKit
def nc (a:Int):List Value:=[.int .u64 (L 0 a),.int .u64 (L 1 a),.int .u64 (L 2 a),.int .u64 (L 3 a)]
def nz:List Value:=[.int .u64 0,.int .u64 0,.int .u64 0,.int .u64 0]
theorem nc_eq {a b:Int} (ha:Num a) (hb:Num b):(L 0 a == L 0 b && (L 1 a == L 1 b && (L 2 a == L 2 b && (L 3 a == L 3 b && true))))=decide (a=b):=by
 by_cases h:a=b
 ·subst h;simp
 ·rw [decide_eq_false h]
  cases hh:(L 0 a == L 0 b && (L 1 a == L 1 b && (L 2 a == L 2 b && (L 3 a == L 3 b && true)))) with
  | false=>rfl
  | true =>
   simp only [Bool.and_eq_true,beq_iff_eq,and_true] at hh
   exact absurd (num_ext ha hb hh.1 hh.2.1 hh.2.2.1 hh.2.2.2) h
theorem eq_nc {a b:Int} (ha:Num a) (hb:Num b) (w:World):(Op.equalIn 10000 33 (.agg (nc a).toArray) (.agg (nc b).toArray)).run Tryd.prog w=.ok (decide (a=b)) w:=by
 rw [← nc_eq ha hb]
 exact eq4 _ _ _ _ _ _ _ _ w
end Go.Proofs.YtjaahnlpnkcimaaDoor
namespace Go.Proofs.YtjaahnlpnkcimaaDoor
set_option maxRecDepth 100000
structure Prm (p:Nat):Prop where
 two:2≤p
 only:∀ d,d ∣ p→d=1∨d=p
theorem prm_dvd_mul {p a b:Nat} (hp:Prm p) (h:p ∣ a*b):p ∣ a∨p ∣ b:=by
 rcases hp.only (Nat.gcd p a) (Nat.gcd_dvd_left p a) with h1 | h1
 ·exact Or.inr (Nat.Coprime.dvd_of_dvd_mul_left h1 h)
 ·exact Or.inl (h1 ▸ Nat.gcd_dvd_right p a)
theorem prm_factor (n:Nat):2≤n→∃ p,Prm p∧p ∣ n:=by
 induction n using Nat.strongRecOn with
 | ind n ih =>
  intro h
  by_cases hp:∀ d,d ∣ n→d=1∨d=n
  ·exact ⟨n,⟨h,hp⟩,Nat.dvd_refl n⟩
  ·have ⟨d,hd⟩:∃ d,¬ (d ∣ n→d=1∨d=n):=Classical.not_forall.1 hp
   have hd1:d ∣ n:=Classical.byContradiction fun hc=>hd fun h=>(hc h).elim
   have hd2:¬ (d=1∨d=n):=fun hc=>hd fun _=>hc
   have hle:d≤n:=Nat.le_of_dvd (by omega) hd1
   have h0:d≠0:=fun e=>by rw [e] at hd1;have:=Nat.eq_zero_of_zero_dvd hd1;omega
   obtain ⟨p,hp,hpd⟩:=ih d (by omega) (by omega)
   exact ⟨p,hp,Nat.dvd_trans hpd hd1⟩
def prodL:List Nat→Nat
 | []=>1
 | q :: qs=>q*prodL qs
theorem prm_mem {p:Nat} (hp:Prm p):∀ (qs:List Nat),(∀ q ∈ qs,Prm q)→p ∣ prodL qs→p ∈ qs
 | [],_,h=>by
  have:=Nat.le_of_dvd (by decide) h
  have:=hp.two
  simp [prodL] at *
  omega
 | q :: qs,hq,h=>by
  rcases prm_dvd_mul hp h with h1 | h1
  ·rcases (hq q (by simp)).only p h1 with h2 | h2
   ·have:=hp.two
    omega
   ·simp [h2]
  ·have:=prm_mem hp qs (fun q hq'=>hq q (by simp [hq'])) h1
   simp [this]
theorem pigeon:∀ (n:Nat) (f:Nat→Nat),(∀ i,i<n→f i<n)→(∀ i j,i<n→j<n→f i=f j→i=j)→∀ v,v<n→∃ i,i<n∧f i=v
 | 0,_,_,_,v,hv=>by omega
 | n+1,f,hr,hi,v,hv=>by
  have hc:=hr n (by omega)
  have ih:=pigeon n (fun i=>if f i=n then f n else f i) (fun i h=>by
   have h1:=hr i (by omega)
   show (if f i=n then f n else f i)<n
   split
   ·have:f n≠n:=fun e=>by have:=hi i n (by omega) (by omega) (by omega);omega
    omega
   ·omega) (fun i j h1 h2 e=>by
   have e':(if f i=n then f n else f i)=(if f j=n then f n else f j):=e
   split at e' <;> split at e'
   ·exact hi i j (by omega) (by omega) (by omega)
   ·have:=hi n j (by omega) (by omega) e';omega
   ·have:=hi i n (by omega) (by omega) e';omega
   ·exact hi i j (by omega) (by omega) e')
  by_cases h1:v=f n
  ·exact ⟨n,by omega,h1.symm⟩
  ·by_cases h2:v=n
   ·obtain ⟨i,hin,he⟩:=ih (f n) (by omega)
    have he':(if f i=n then f n else f i)=f n:=he
    split at he'
    ·exact ⟨i,by omega,by omega⟩
    ·have:=hi i n (by omega) (by omega) he'
     omega
   ·obtain ⟨i,hin,he⟩:=ih v (by omega)
    have he':(if f i=n then f n else f i)=v:=he
    split at he'
    ·exact absurd he'.symm h1
    ·exact ⟨i,by omega,he'⟩
theorem pow_one_mod {m x:Nat} (hm:1<m) (h:x % m=1) (k:Nat):x ^ k % m=1:=by
 rw [Nat.pow_mod,h,Nat.one_pow,Nat.mod_eq_of_lt hm]
theorem order_full {m g:Nat} {qs:List Nat} (hm:2<m) (hN:m-1=prodL qs) (hq:∀ q ∈ qs,Prm q) (h1:g ^ (m-1) % m=1) (h2:∀ q ∈ qs,g ^ ((m-1) / q) % m≠1) (d:Nat):0<d→d<m-1→g ^ d % m≠1:=by
 induction d using Nat.strongRecOn with
 | ind d ih =>
  intro h0 hd he
  by_cases hr:(m-1) % d=0
  ·obtain ⟨k,hk⟩:=Nat.dvd_of_mod_eq_zero hr
   have hk2:2≤k:=by
    rcases k with _ | _ | k
    ·omega
    ·omega
    ·omega
   obtain ⟨p,hp,hpk⟩:=prm_factor k hk2
   obtain ⟨j,hj⟩:=hpk
   have hmem:=prm_mem hp qs hq (hN ▸ ⟨d*j,by rw [hk,hj,Nat.mul_left_comm]⟩)
   refine h2 p hmem ?_
   have e:(m-1) / p=d*j:=by
    rw [hk,hj,Nat.mul_left_comm,Nat.mul_div_cancel_left _ (by have:=hp.two;omega)]
   rw [e,Nat.pow_mul]
   exact pow_one_mod (by omega) he j
  ·have hlt:=Nat.mod_lt (m-1) h0
   refine ih ((m-1) % d) hlt (by omega) (by omega) ?_
   have e:g ^ (m-1)=(g ^ d) ^ ((m-1) / d)*g ^ ((m-1) % d):=by
    rw [← Nat.pow_mul,← Nat.pow_add,Nat.div_add_mod]
   rw [e,Nat.mul_mod,pow_one_mod (by omega) he,Nat.one_mul,Nat.mod_mod] at h1
   exact h1
theorem lucas {m g:Nat} {qs:List Nat} (hm:2<m) (hN:m-1=prodL qs) (hq:∀ q ∈ qs,Prm q) (h1:g ^ (m-1) % m=1) (h2:∀ q ∈ qs,g ^ ((m-1) / q) % m≠1) :
  (∀ a,¬ m ∣ a→a ^ (m-1) % m=1)∧Prm m:=by
 have ord:=order_full hm hN hq h1 h2
 have unit:∀ i,i<m-1→g ^ i % m≠0:=by
  intro i hi h0
  have e:g ^ (m-1)=g ^ i*g ^ (m-1-i):=by rw [← Nat.pow_add];congr 1;omega
  rw [e,Nat.mul_mod,h0,Nat.zero_mul,Nat.zero_mod] at h1
  omega
 have inj:∀ i j,i<j→j<m-1→g ^ i % m=g ^ j % m→False:=by
  intro i j hij hj he
  refine ord (j-i) (by omega) (by omega) ?_
  have e1:g ^ (m-1)=g ^ i*g ^ (m-1-i):=by rw [← Nat.pow_add];congr 1;omega
  have e2:g ^ (m-1)*g ^ (j-i)=g ^ j*g ^ (m-1-i):=by rw [← Nat.pow_add,← Nat.pow_add];congr 1;omega
  have e3:g ^ (m-1)*g ^ (j-i) % m=g ^ (m-1) % m:=by
   rw [e2,e1,Nat.mul_mod,← he,← Nat.mul_mod]
  rw [Nat.mul_mod,h1,Nat.one_mul,Nat.mod_mod] at e3
  exact e3
 have surj:=pigeon (m-1) (fun i=>g ^ i % m-1) (fun i hi=>by
   have h3:=unit i hi
   have h4:=Nat.mod_lt (g ^ i) (show 0<m by omega)
   show g ^ i % m-1<m-1
   omega) (fun i j hi hj e=>by
   have h3:=unit i hi
   have h4:=unit j hj
   have e':g ^ i % m-1=g ^ j % m-1:=e
   have e2:g ^ i % m=g ^ j % m:=by omega
   rcases Nat.lt_trichotomy i j with h | h | h
   ·exact (inj i j h hj e2).elim
   ·exact h
   ·exact (inj j i h hi e2.symm).elim)
 have fermat:∀ a,¬ m ∣ a→a ^ (m-1) % m=1:=by
  intro a ha
  have h3:a % m≠0:=fun e=>ha (Nat.dvd_of_mod_eq_zero e)
  have h4:=Nat.mod_lt a (show 0<m by omega)
  obtain ⟨i,hi,he⟩:=surj (a % m-1) (by omega)
  have he':g ^ i % m-1=a % m-1:=he
  have h5:=unit i hi
  have e:a % m=g ^ i % m:=by omega
  rw [Nat.pow_mod,e,← Nat.pow_mod,← Nat.pow_mul,Nat.mul_comm,Nat.pow_mul]
  exact pow_one_mod (by omega) h1 i
 refine ⟨fermat,by omega,fun d hd=>?_⟩
 have hle:=Nat.le_of_dvd (by omega) hd
 by_cases h3:d=m
 ·exact Or.inr h3
 ·refine Or.inl ?_
  have h0:d≠0:=fun e=>by rw [e] at hd;have:=Nat.eq_zero_of_zero_dvd hd;omega
  have h4:=fermat d (fun h=>by have:=Nat.le_of_dvd (by omega) h;omega)
  have h5:d ∣ d ^ (m-1):=⟨d ^ (m-2),by rw [← Nat.pow_succ'];congr 1;omega⟩
  have h6:d ∣ d ^ (m-1) % m:=(Nat.dvd_mod_iff hd).2 h5
  rw [h4] at h6
  exact Nat.dvd_one.1 h6
def pm:Nat→Nat→Nat→Nat→Nat
 | 0,_,_,m=>1 % m
 | n+1,b,e,m=>if e % 2=1 then b*pm n (b*b % m) (e / 2) m % m else pm n (b*b % m) (e / 2) m
theorem pm_eq:∀ (n b e m:Nat),e<2 ^ n→pm n b e m=b ^ e % m
 | 0,b,e,m,h=>by
  have:e=0:=by simpa using h
  subst this
  simp [pm]
 | n+1,b,e,m,h=>by
  have ih:=pm_eq n (b*b % m) (e / 2) m (by rw [Nat.pow_succ] at h;omega)
  have e1:(b*b % m) ^ (e / 2) % m=b ^ (2*(e / 2)) % m:=by
   rw [← Nat.pow_mod,Nat.pow_mul,Nat.pow_two]
  unfold pm
  rw [ih,e1]
  split
  ·rw [Nat.mul_mod,Nat.mod_mod,← Nat.mul_mod,← Nat.pow_succ']
   congr 2
   omega
  ·congr 2
   omega
def rec1 (m g:Nat) (qs:List Nat):Bool :=
 decide (2<m) && decide (m-1<2 ^ 256) && (m-1 == prodL qs) && (pm 256 g (m-1) m == 1) && qs.all fun q=>pm 256 g ((m-1) / q) m != 1
structure Full (m:Nat):Prop where
 fermat:∀ a,¬ m ∣ a→a ^ (m-1) % m=1
 prm:Prm m
theorem lucas_rec {m:Nat} (g:Nat) (qs:List Nat) (h:rec1 m g qs=true) (hq:∀ q ∈ qs,Prm q):Full m:=by
 unfold rec1 at h
 simp only [Bool.and_eq_true,decide_eq_true_eq,beq_iff_eq,List.all_eq_true,bne_iff_ne] at h
 obtain ⟨⟨⟨⟨a1,a2⟩,a3⟩,a4⟩,a5⟩:=h
 have key:=lucas (g:=g) a1 a3 hq ?_ (fun q hm=>?_)
 ·exact ⟨key.1,key.2⟩
 ·rw [← pm_eq 256 g (m-1) m a2];exact a4
 ·rw [← pm_eq 256 g ((m-1) / q) m (Nat.lt_of_le_of_lt (Nat.div_le_self _ _) a2)];exact a5 q hm
def small (p:Nat):Bool:=decide (2≤p) && (List.range p).all fun d=>decide (d<2) || decide (p % d≠0)
theorem prm_small {p:Nat} (h:small p=true):Prm p:=by
 unfold small at h
 simp only [Bool.and_eq_true,decide_eq_true_eq,List.all_eq_true,List.mem_range,Bool.or_eq_true] at h
 refine ⟨h.1,fun d hd=>?_⟩
 have hle:=Nat.le_of_dvd (by omega) hd
 by_cases e:d=p
 ·exact Or.inr e
 ·rcases h.2 d (by omega) with h1 | h1
  ·have h0:d≠0:=fun e=>by rw [e] at hd;have:=Nat.eq_zero_of_zero_dvd hd;omega
   exact Or.inl (by omega)
  ·exact absurd (Nat.mod_eq_zero_of_dvd hd) h1
end Go.Proofs.YtjaahnlpnkcimaaDoor
namespace Go.Proofs.YtjaahnlpnkcimaaDoor
set_option maxRecDepth 100000
structure Mo:Type where
 c:Int
 i:Nat
 j:Nat
 k:Nat
 l:Nat
def Mo.chi (x:Nat→Int) (m:Mo):Int:=x 0 ^ m.i*(x 1 ^ m.j*(x 2 ^ m.k*x 3 ^ m.l))
def sv (x:Nat→Int):List Mo→Int
 | []=>0
 | m :: g=>m.c*m.chi x+sv x g
def sa:List Mo→Nat
 | []=>0
 | m :: g=>m.c.natAbs+sa g
def Mo.mul (m n:Mo):Mo:=⟨m.c*n.c,m.i+n.i,m.j+n.j,m.k+n.k,m.l+n.l⟩
def mulM (m:Mo):List Mo→List Mo
 | []=>[]
 | n :: g=>m.mul n :: mulM m g
def mulL:List Mo→List Mo→List Mo
 | [],_=>[]
 | m :: g,h=>mulM m h++mulL g h
def negL:List Mo→List Mo
 | []=>[]
 | m :: g=>⟨- m.c,m.i,m.j,m.k,m.l⟩ :: negL g
def Dg (a b c:Nat) (g:List Mo):Prop:=∀ m ∈ g,m.i≤a∧m.j≤b∧m.k≤c
theorem chi_mul (x:Nat→Int) (m n:Mo):(m.mul n).chi x=m.chi x*n.chi x:=by
 simp only [Mo.chi,Mo.mul,Int.pow_add]
 grind
theorem sv_append (x:Nat→Int):∀ g h:List Mo,sv x (g++h)=sv x g+sv x h
 | [],h=>by simp [sv]
 | m :: g,h=>by simp only [List.cons_append,sv,sv_append x g h];omega
theorem sv_mulM (x:Nat→Int) (m:Mo):∀ g:List Mo,sv x (mulM m g)=m.c*m.chi x*sv x g
 | []=>by simp [sv,mulM]
 | n :: g=>by
  simp only [mulM,sv,sv_mulM x m g,chi_mul]
  simp only [Mo.mul]
  grind
theorem sv_mulL (x:Nat→Int):∀ g h:List Mo,sv x (mulL g h)=sv x g*sv x h
 | [],h=>by simp [sv,mulL]
 | m :: g,h=>by simp only [mulL,sv,sv_append,sv_mulM,sv_mulL x g h,Int.add_mul]
theorem sv_negL (x:Nat→Int):∀ g:List Mo,sv x (negL g)=- sv x g
 | []=>by simp [sv,negL]
 | m :: g=>by
  simp only [negL,sv,sv_negL x g,Int.neg_mul,Int.neg_add]
  rfl
theorem sa_append:∀ g h:List Mo,sa (g++h)=sa g+sa h
 | [],h=>by simp [sa]
 | m :: g,h=>by simp only [List.cons_append,sa,sa_append g h];omega
theorem sa_mulM (m:Mo):∀ g:List Mo,sa (mulM m g)=m.c.natAbs*sa g
 | []=>by simp [sa,mulM]
 | n :: g=>by simp only [mulM,sa,sa_mulM m g,Mo.mul,Int.natAbs_mul,Nat.mul_add]
theorem sa_mulL:∀ g h:List Mo,sa (mulL g h)=sa g*sa h
 | [],h=>by simp [sa,mulL]
 | m :: g,h=>by simp only [mulL,sa,sa_append,sa_mulM,sa_mulL g h,Nat.add_mul]
theorem sa_negL:∀ g:List Mo,sa (negL g)=sa g
 | []=>by simp [sa,negL]
 | m :: g=>by simp only [negL,sa,sa_negL g,Int.natAbs_neg]
theorem sv_none (x:Nat→Int):∀ g:List Mo,sa g=0→sv x g=0
 | [],_=>rfl
 | m :: g,h=>by
  simp only [sa] at h
  have e:m.c=0:=by omega
  rw [sv,e,sv_none x g (by omega)]
  simp
theorem Dg.append {a b c a' b' c':Nat} {g h:List Mo} (h1:Dg a b c g) (h2:Dg a' b' c' h):Dg (max a a') (max b b') (max c c') (g++h):=by
 intro m hm
 rcases List.mem_append.1 hm with h | h
 ·have:=h1 m h;omega
 ·have:=h2 m h;omega
theorem mem_mulM {m q:Mo}:∀ {g:List Mo},q ∈ mulM m g→∃ n ∈ g,q=m.mul n
 | n :: g,h=>by
  rcases List.mem_cons.1 h with h | h
  ·exact ⟨n,by simp,h⟩
  ·obtain ⟨n',h1,h2⟩:=mem_mulM h
   exact ⟨n',by simp [h1],h2⟩
theorem mem_mulL {q:Mo}:∀ {g h:List Mo},q ∈ mulL g h→∃ m ∈ g,∃ n ∈ h,q=m.mul n
 | m :: g,h,hq=>by
  rcases List.mem_append.1 hq with h1 | h1
  ·obtain ⟨n,h2,h3⟩:=mem_mulM h1
   exact ⟨m,by simp,n,h2,h3⟩
  ·obtain ⟨m',h2,n,h3,h4⟩:=mem_mulL h1
   exact ⟨m',by simp [h2],n,h3,h4⟩
theorem Dg.mul {a b c a' b' c':Nat} {g h:List Mo} (h1:Dg a b c g) (h2:Dg a' b' c' h):Dg (a+a') (b+b') (c+c') (mulL g h):=by
 intro q hq
 obtain ⟨m,hm,n,hn,rfl⟩:=mem_mulL hq
 have:=h1 m hm
 have:=h2 n hn
 simp only [Mo.mul]
 omega
theorem mem_negL {q:Mo}:∀ {g:List Mo},q ∈ negL g→∃ m ∈ g,q.i=m.i∧q.j=m.j∧q.k=m.k
 | m :: g,h=>by
  rcases List.mem_cons.1 h with h | h
  ·exact ⟨m,by simp,by simp [h]⟩
  ·obtain ⟨n,h1,h2⟩:=mem_negL h
   exact ⟨n,by simp [h1],h2⟩
theorem Dg.neg {a b c:Nat} {g:List Mo} (h1:Dg a b c g):Dg a b c (negL g):=by
 intro q hq
 obtain ⟨m,hm,e1,e2,e3⟩:=mem_negL hq
 have:=h1 m hm
 omega
/-! One variable: numbers that are all less than the base are told by the value. -/
def s1 (F:Nat→Int):List (Int × Nat)→Int
 | []=>0
 | m :: g=>m.1*F m.2+s1 F g
def a1:List (Int × Nat)→Nat
 | []=>0
 | m :: g=>m.1.natAbs+a1 g
def low:List (Int × Nat)→Int
 | []=>0
 | (c,0) :: g=>c+low g
 | (_,_+1) :: g=>low g
def high:List (Int × Nat)→List (Int × Nat)
 | []=>[]
 | (_,0) :: g=>high g
 | (c,n+1) :: g=>(c,n) :: high g
theorem s1_split (F:Nat→Int):∀ g,s1 F g=low g*F 0+s1 (fun n=>F (n+1)) (high g)
 | []=>by simp [s1,low,high]
 | (c,0) :: g=>by simp only [s1,low,high,s1_split F g,Int.add_mul];omega
 | (c,n+1) :: g=>by simp only [s1,low,high,s1_split F g];omega
theorem low_le:∀ g,(low g).natAbs≤a1 g
 | []=>by simp [low,a1]
 | (c,0) :: g=>by have:=low_le g;simp only [low,a1];omega
 | (c,n+1) :: g=>by have:=low_le g;simp only [low,a1];omega
theorem high_le:∀ g,a1 (high g)≤a1 g
 | []=>by simp [high,a1]
 | (c,0) :: g=>by have:=high_le g;simp only [high,a1];omega
 | (c,n+1) :: g=>by have:=high_le g;simp only [high,a1];omega
theorem high_lt (K:Nat):∀ g,(∀ m ∈ g,m.2<K+1)→∀ m ∈ high g,m.2<K
 | [],_,m,h=>by simp [high] at h
 | (c,0) :: g,hg,m,h=>high_lt K g (fun m hm=>hg m (by simp [hm])) m (by simpa [high] using h)
 | (c,n+1) :: g,hg,m,h=>by
  rcases (by simpa [high] using h:m=(c,n)∨m ∈ high g) with h | h
  ·have:=hg (c,n+1) (by simp)
   rw [h]
   simpa using this
  ·exact high_lt K g (fun m hm=>hg m (by simp [hm])) m h
theorem s1_scale (B:Int) (F:Nat→Int):∀ g,s1 (fun n=>B*F n) g=B*s1 F g
 | []=>by simp [s1]
 | (c,n) :: g=>by simp only [s1,s1_scale B F g];grind
theorem tell (B:Int) (K:Nat):∀ (g:List (Int × Nat)) (F:Nat→Int),(∀ m ∈ g,m.2<K)→(a1 g:Int)<B→s1 (fun n=>B ^ n) g=0→s1 F g=0:=by
 induction K with
 | zero =>
  intro g F hg _ _
  match g with
  | []=>simp [s1]
  | m :: g=>exact absurd (hg m (by simp)) (by omega)
 | succ K ih =>
  intro g F hg hB h0
  have e:=s1_split (fun n=>B ^ n) g
  have e2:s1 (fun n=>B ^ (n+1)) (high g)=B*s1 (fun n=>B ^ n) (high g):=by
   rw [← s1_scale]
   congr 1
   funext n
   rw [Int.pow_succ,Int.mul_comm]
  rw [h0,e2] at e
  simp only [Int.pow_zero,Int.mul_one] at e
  have h1:=low_le g
  have h2:=high_le g
  have hl:low g=0:=by
   have hd:B ∣ low g:=⟨- s1 (fun n=>B ^ n) (high g),by rw [Int.mul_neg];omega⟩
   exact Int.eq_zero_of_dvd_of_natAbs_lt_natAbs hd (by omega)
  have hp:0<B:=by omega
  have hh:s1 (fun n=>B ^ n) (high g)=0:=by
   have:B*s1 (fun n=>B ^ n) (high g)=0:=by omega
   rcases Int.mul_eq_zero.1 this with h | h
   ·omega
   ·exact h
  rw [s1_split F g,hl,ih (high g) (fun n=>F (n+1)) (high_lt K g hg) (by omega) hh]
  simp
/-! Four variables as one: the powers as the places of a number. -/
structure Sz:Type where
 a:Nat
 b:Nat
 c:Nat
 e:Nat
def Sz.code (z:Sz) (m:Mo):Nat:=m.i+z.a*(m.j+z.b*(m.k+z.c*m.l))
def two2 (n:Nat):Int:=Int.ofNat (2 ^ n)
theorem two_mul (a b:Nat):two2 (a*b)=two2 a ^ b:=by
 show ((2 ^ (a*b):Nat):Int)=((2 ^ a:Nat):Int) ^ b
 rw [Nat.pow_mul,Int.natCast_pow (2 ^ a) b]
def Sz.base (z:Sz):Int:=two2 z.e
def Sz.at (z:Sz):Nat→Int
 | 0=>two2 z.e
 | 1=>two2 (z.e*z.a)
 | 2=>two2 (z.e*(z.a*z.b))
 | _=>two2 (z.e*(z.a*z.b*z.c))
theorem chi_at (z:Sz) (m:Mo):m.chi z.at=z.base ^ z.code m:=by
 simp only [Mo.chi,Sz.at,Sz.code,Sz.base,two_mul z.e,← Int.pow_mul,← Int.pow_add]
 congr 1
 grind
def Sz.back (z:Sz) (x:Nat→Int) (n:Nat):Int:=x 0 ^ (n % z.a)*(x 1 ^ (n / z.a % z.b)*(x 2 ^ (n / z.a / z.b % z.c)*x 3 ^ (n / z.a / z.b / z.c)))
theorem back_code (z:Sz) (x:Nat→Int) (m:Mo) (h:m.i<z.a∧m.j<z.b∧m.k<z.c):z.back x (z.code m)=m.chi x:=by
 have e1:z.code m / z.a=m.j+z.b*(m.k+z.c*m.l):=by
  rw [Sz.code,Nat.add_mul_div_left _ _ (by omega),Nat.div_eq_of_lt h.1,Nat.zero_add]
 have e2:(m.j+z.b*(m.k+z.c*m.l)) / z.b=m.k+z.c*m.l:=by
  rw [Nat.add_mul_div_left _ _ (by omega),Nat.div_eq_of_lt h.2.1,Nat.zero_add]
 have e3:(m.k+z.c*m.l) / z.c=m.l:=by
  rw [Nat.add_mul_div_left _ _ (by omega),Nat.div_eq_of_lt h.2.2,Nat.zero_add]
 rw [Sz.back,e1,e2,e3]
 rw [Sz.code,Nat.add_mul_mod_self_left,Nat.mod_eq_of_lt h.1,Nat.add_mul_mod_self_left,Nat.mod_eq_of_lt h.2.1,Nat.add_mul_mod_self_left,Nat.mod_eq_of_lt h.2.2]
 rfl
def flat (z:Sz):List Mo→List (Int × Nat)
 | []=>[]
 | m :: g=>(m.c,z.code m) :: flat z g
theorem flat_at (z:Sz):∀ g,s1 (fun n=>z.base ^ n) (flat z g)=sv z.at g
 | []=>rfl
 | m :: g=>by simp only [flat,s1,sv,flat_at z g,chi_at]
theorem flat_back (z:Sz) (x:Nat→Int):∀ g,(∀ m ∈ g,m.i<z.a∧m.j<z.b∧m.k<z.c)→s1 (z.back x) (flat z g)=sv x g
 | [],_=>rfl
 | m :: g,h=>by
  simp only [flat,s1,sv,flat_back z x g (fun m hm=>h m (by simp [hm])),back_code z x m (h m (by simp))]
theorem flat_a (z:Sz):∀ g,a1 (flat z g)=sa g
 | []=>rfl
 | m :: g=>by simp only [flat,a1,sa,flat_a z g]
theorem bound:∀ g:List (Int × Nat),∃ K,∀ m ∈ g,m.2<K
 | []=>⟨0,by simp⟩
 | m :: g=>by
  obtain ⟨K,h⟩:=bound g
  refine ⟨max (m.2+1) K,fun n hn=>?_⟩
  rcases List.mem_cons.1 hn with e | e
  ·rw [e];omega
  ·have:=h n e;omega
theorem all_zero (z:Sz) (g:List Mo) (h0:sv z.at g=0) (hd:∀ m ∈ g,m.i<z.a∧m.j<z.b∧m.k<z.c) (hn:(sa g:Int)<z.base) (x:Nat→Int):sv x g=0:=by
 obtain ⟨K,hK⟩:=bound (flat z g)
 rw [← flat_back z x g hd]
 exact tell z.base K (flat z g) (z.back x) hK (by rw [flat_a];exact hn) (by rw [flat_at];exact h0)
/-! The codes of such sums, and what is reckoned with them. -/
structure Cd:Type where
 v:Int
 n:Nat
 a:Nat
 b:Nat
 c:Nat
def frcN {β:Type} (n:Nat) (k:Nat→β):β:=Nat.rec (k 0) (fun m _=>k (m+1)) n
def frcI {β:Type} (n:Int) (k:Int→β):β:=match n with
 | .ofNat m=>frcN m fun m=>k (.ofNat m)
 | .negSucc m=>frcN m fun m=>k (.negSucc m)
theorem frcN_eq {β:Type} (n:Nat) (k:Nat→β):frcN n k=k n:=by cases n <;> rfl
theorem frcI_eq {β:Type} (n:Int) (k:Int→β):frcI n k=k n:=by cases n <;> simp only [frcI,frcN_eq]
def Cd.mk' (v:Int) (n a b c:Nat):Cd:=frcI v fun v=>frcN n fun n=>frcN a fun a=>frcN b fun b=>frcN c fun c=>⟨v,n,a,b,c⟩
theorem Cd.mk'_eq (v:Int) (n a b c:Nat):Cd.mk' v n a b c=⟨v,n,a,b,c⟩:=by simp only [Cd.mk',frcI_eq,frcN_eq]
structure Op (α:Type):Type 1 where
 num:Int→α
 add:α→α→α
 sub:α→α→α
 mul:α→α→α
 frc:{β:Type}→α→(α→β)→β
 nil:α→Bool
structure Ok {α:Type} (p:Int) (R:Int→α→Prop) (o:Op α):Prop where
 num:∀ n,R n (o.num n)
 add:∀ {a b s t},R a s→R b t→R (a+b) (o.add s t)
 sub:∀ {a b s t},R a s→R b t→R (a-b) (o.sub s t)
 mul:∀ {a b s t},R a s→R b t→R (a*b) (o.mul s t)
 same:∀ {a b s},a % p=b % p→R a s→R b s
 frc:∀ {β:Type} (s:α) (k:α→β),o.frc s k=k s
 nil:∀ {a s},o.nil s=true→R a s→a % p=0
def cdOp (z:Sz):Op Cd where
 num n:=Cd.mk' n n.natAbs 0 0 0
 add s t:=Cd.mk' (s.v+t.v) (s.n+t.n) (max s.a t.a) (max s.b t.b) (max s.c t.c)
 sub s t:=Cd.mk' (s.v-t.v) (s.n+t.n) (max s.a t.a) (max s.b t.b) (max s.c t.c)
 mul s t:=match s.n with
  | 0=>⟨0,0,0,0,0⟩
  | _+1=>match t.n with
   | 0=>⟨0,0,0,0,0⟩
   | _+1=>Cd.mk' (s.v*t.v) (s.n*t.n) (s.a+t.a) (s.b+t.b) (s.c+t.c)
 frc s k:=match s with
  | ⟨v,n,a,b,c⟩=>k ⟨v,n,a,b,c⟩
 nil s:=(s.v == 0) && decide ((s.n:Int)<z.base) && decide (s.a<z.a) && decide (s.b<z.b) && decide (s.c<z.c)
def Rc (p:Int) (z:Sz) (x:Nat→Int) (v:Int) (t:Cd):Prop:=∃ g:List Mo,Dg t.a t.b t.c g∧sa g≤t.n∧sv z.at g=t.v∧v % p=sv x g % p
theorem ok_cd (p:Int) (z:Sz) (x:Nat→Int):Ok p (Rc p z x) (cdOp z) where
 num n:=⟨[⟨n,0,0,0,0⟩],by intro m hm;simp [cdOp,Cd.mk'_eq] at *;simp [hm],by simp [cdOp,Cd.mk'_eq,sa],by simp [cdOp,Cd.mk'_eq,sv,Mo.chi],by simp [sv,Mo.chi]⟩
 add:=by
  rintro a b s t ⟨g,g1,g2,g3,g4⟩ ⟨h,h1,h2,h3,h4⟩
  refine ⟨g++h,?_,?_,?_,?_⟩
  ·simp only [cdOp,Cd.mk'_eq];exact g1.append h1
  ·simp only [cdOp,Cd.mk'_eq,sa_append];omega
  ·simp only [cdOp,Cd.mk'_eq,sv_append];omega
  ·rw [sv_append,Int.add_emod,g4,h4,← Int.add_emod]
 sub:=by
  rintro a b s t ⟨g,g1,g2,g3,g4⟩ ⟨h,h1,h2,h3,h4⟩
  refine ⟨g++negL h,?_,?_,?_,?_⟩
  ·simp only [cdOp,Cd.mk'_eq];exact g1.append h1.neg
  ·simp only [cdOp,Cd.mk'_eq,sa_append,sa_negL];omega
  ·simp only [cdOp,Cd.mk'_eq,sv_append,sv_negL];omega
  ·rw [sv_append,sv_negL,← Int.sub_eq_add_neg,Int.sub_emod,g4,h4,← Int.sub_emod]
 mul:=by
  rintro a b s t ⟨g,g1,g2,g3,g4⟩ ⟨h,h1,h2,h3,h4⟩
  have none:∀ v,v % p=0→Rc p z x v ⟨0,0,0,0,0⟩:=fun v e=>⟨[],by intro m hm;simp at hm,by simp [sa],by simp [sv],by simp [sv,e]⟩
  simp only [cdOp]
  split
  ·rename_i e
   refine none _ ?_
   rw [Int.mul_emod,g4,sv_none x g (by omega)]
   simp
  ·split
   ·rename_i e
    refine none _ ?_
    rw [Int.mul_emod,h4,sv_none x h (by omega)]
    simp
   ·refine ⟨mulL g h,?_,?_,?_,?_⟩
    ·simp only [Cd.mk'_eq];exact g1.mul h1
    ·simp only [Cd.mk'_eq,sa_mulL];exact Nat.mul_le_mul g2 h2
    ·simp only [Cd.mk'_eq,sv_mulL,g3,h3]
    ·rw [sv_mulL,Int.mul_emod,g4,h4,← Int.mul_emod]
 same:=by
  rintro a b s e ⟨g,g1,g2,g3,g4⟩
  exact ⟨g,g1,g2,g3,e ▸ g4⟩
 frc s k:=by cases s;rfl
 nil:=by
  rintro a s e ⟨g,g1,g2,g3,g4⟩
  simp only [cdOp,Bool.and_eq_true,beq_iff_eq,decide_eq_true_eq] at e
  have key:=all_zero z g (by omega) (fun m hm=>by have:=g1 m hm;omega) (by omega) x
  rw [g4,key,Int.zero_emod]
theorem pow1 (a:Int):a ^ 1=a:=by rw [Int.pow_succ,Int.pow_zero,Int.one_mul]
def Sz.var (z:Sz):Nat→Cd
 | 0=>Cd.mk' (z.at 0) 1 1 0 0
 | 1=>Cd.mk' (z.at 1) 1 0 1 0
 | 2=>Cd.mk' (z.at 2) 1 0 0 1
 | _=>Cd.mk' (z.at 3) 1 0 0 0
theorem rc_var (p:Int) (z:Sz) (x:Nat→Int) {n:Nat} (h:n<4):Rc p z x (x n) (z.var n):=by
 rcases n with _ | _ | _ | _ | n
 ·exact ⟨[⟨1,1,0,0,0⟩],by intro m hm;simp [Sz.var,Cd.mk'_eq] at *;simp [hm],by simp [Sz.var,Cd.mk'_eq,sa],by simp [Sz.var,Cd.mk'_eq,sv,Mo.chi,pow1],by simp [sv,Mo.chi,pow1]⟩
 ·exact ⟨[⟨1,0,1,0,0⟩],by intro m hm;simp [Sz.var,Cd.mk'_eq] at *;simp [hm],by simp [Sz.var,Cd.mk'_eq,sa],by simp [Sz.var,Cd.mk'_eq,sv,Mo.chi,pow1],by simp [sv,Mo.chi,pow1]⟩
 ·exact ⟨[⟨1,0,0,1,0⟩],by intro m hm;simp [Sz.var,Cd.mk'_eq] at *;simp [hm],by simp [Sz.var,Cd.mk'_eq,sa],by simp [Sz.var,Cd.mk'_eq,sv,Mo.chi,pow1],by simp [sv,Mo.chi,pow1]⟩
 ·exact ⟨[⟨1,0,0,0,1⟩],by intro m hm;simp [Sz.var,Cd.mk'_eq] at *;simp [hm],by simp [Sz.var,Cd.mk'_eq,sa],by simp [Sz.var,Cd.mk'_eq,sv,Mo.chi,pow1],by simp [sv,Mo.chi,pow1]⟩
 ·omega
/-! One number more, whose square is told. -/
structure Pr (α:Type):Type where
 a:α
 b:α
def upOp {α:Type} (o:Op α) (q:α):Op (Pr α) where
 num n:=⟨o.num n,o.num 0⟩
 add s t:=o.frc (o.add s.a t.a) fun u=>o.frc (o.add s.b t.b) fun v=>⟨u,v⟩
 sub s t:=o.frc (o.sub s.a t.a) fun u=>o.frc (o.sub s.b t.b) fun v=>⟨u,v⟩
 mul s t:=o.frc (o.add (o.mul s.a t.a) (o.mul q (o.mul s.b t.b))) fun u=>o.frc (o.add (o.mul s.a t.b) (o.mul s.b t.a)) fun v=>⟨u,v⟩
 frc s k:=match s with
  | ⟨u,v⟩=>o.frc u fun u=>o.frc v fun v=>k ⟨u,v⟩
 nil s:=o.nil s.a && o.nil s.b
def Ru {α:Type} (p:Int) (R:Int→α→Prop) (y:Int) (v:Int) (t:Pr α):Prop:=∃ a b,R a t.a∧R b t.b∧v % p=(a+b*y) % p
theorem ok_up {α:Type} {p:Int} {R:Int→α→Prop} {o:Op α} (h:Ok p R o) {y f:Int} {q:α} (hq:R f q) (hy:y*y % p=f % p):Ok p (Ru p R y) (upOp o q) where
 num n:=⟨n,0,h.num n,h.num 0,by simp⟩
 add:=by
  rintro a b s t ⟨a1,b1,g1,g2,g3⟩ ⟨a2,b2,h1,h2,h3⟩
  refine ⟨a1+a2,b1+b2,?_,?_,?_⟩
  ·simp only [upOp,h.frc];exact h.add g1 h1
  ·simp only [upOp,h.frc];exact h.add g2 h2
  ·rw [Int.add_emod,g3,h3,← Int.add_emod]
   congr 1
   grind
 sub:=by
  rintro a b s t ⟨a1,b1,g1,g2,g3⟩ ⟨a2,b2,h1,h2,h3⟩
  refine ⟨a1-a2,b1-b2,?_,?_,?_⟩
  ·simp only [upOp,h.frc];exact h.sub g1 h1
  ·simp only [upOp,h.frc];exact h.sub g2 h2
  ·rw [Int.sub_emod,g3,h3,← Int.sub_emod]
   congr 1
   grind
 mul:=by
  rintro a b s t ⟨a1,b1,g1,g2,g3⟩ ⟨a2,b2,h1,h2,h3⟩
  refine ⟨a1*a2+f*(b1*b2),a1*b2+b1*a2,?_,?_,?_⟩
  ·simp only [upOp,h.frc];exact h.add (h.mul g1 h1) (h.mul hq (h.mul g2 h2))
  ·simp only [upOp,h.frc];exact h.add (h.mul g1 h2) (h.mul g2 h1)
  ·rw [Int.mul_emod,g3,h3,← Int.mul_emod]
   have e:(a1+b1*y)*(a2+b2*y)=(a1*a2+(a1*b2+b1*a2)*y)+y*y*(b1*b2):=by grind
   have e2:a1*a2+f*(b1*b2)+(a1*b2+b1*a2)*y=(a1*a2+(a1*b2+b1*a2)*y)+f*(b1*b2):=by grind
   rw [e,e2,Int.add_emod,Int.mul_emod (y*y),hy,← Int.mul_emod,← Int.add_emod]
 same:=by
  rintro a b s e ⟨a1,b1,g1,g2,g3⟩
  exact ⟨a1,b1,g1,g2,e ▸ g3⟩
 frc s k:=by cases s;simp only [upOp,h.frc]
 nil:=by
  rintro a s e ⟨a1,b1,g1,g2,g3⟩
  simp only [upOp,Bool.and_eq_true] at e
  have k1:=h.nil e.1 g1
  have k2:=h.nil e.2 g2
  rw [g3,Int.add_emod,Int.mul_emod,k1,k2]
  simp
theorem ru_up {α:Type} {p:Int} {R:Int→α→Prop} {o:Op α} (h:Ok p R o) (y:Int) {v:Int} {t:α} (hv:R v t):Ru p R y v ⟨t,o.num 0⟩:=⟨v,0,hv,h.num 0,by simp⟩
theorem ru_y {α:Type} {p:Int} {R:Int→α→Prop} {o:Op α} (h:Ok p R o) (y:Int):Ru p R y y ⟨o.num 0,o.num 1⟩:=⟨0,1,h.num 0,h.num 1,by simp⟩
def kc {p:Nat} [hp:NeZero p] (n:Int):Fin p:=⟨(n % p).toNat,by
 have:=hp.out
 have h1:=Int.emod_nonneg n (show (p:Int)≠0 by omega)
 have h2:=Int.emod_lt_of_pos n (show (0:Int)<p by omega)
 omega⟩
theorem kc_val {p:Nat} [hp:NeZero p] (n:Int):((kc n:Fin p).val:Int)=n % p:=by
 have:=hp.out
 have h1:=Int.emod_nonneg n (show (p:Int)≠0 by omega)
 simp only [kc]
 omega
theorem fin_int {p:Nat} {a b:Fin p} (h:(a.val:Int)=b.val):a=b:=Fin.ext (by omega)
theorem kc_self {p:Nat} [hp:NeZero p] (a:Fin p):kc (a.val:Int)=a:=by
 apply fin_int
 rw [kc_val]
 have:=a.isLt
 exact Int.emod_eq_of_lt (by omega) (by omega)
theorem kc_add {p:Nat} [hp:NeZero p] (a b:Int):(kc (a+b):Fin p)=kc a+kc b:=by
 apply fin_int
 rw [kc_val,Fin.val_add,Int.natCast_emod,Int.natCast_add,kc_val,kc_val,← Int.add_emod]
theorem kc_mul {p:Nat} [hp:NeZero p] (a b:Int):(kc (a*b):Fin p)=kc a*kc b:=by
 apply fin_int
 rw [kc_val,Fin.val_mul,Int.natCast_emod,Int.natCast_mul,kc_val,kc_val,← Int.mul_emod]
theorem kc_eq {p:Nat} [hp:NeZero p] {a b:Int} (h:a % p=b % p):(kc a:Fin p)=kc b:=fin_int (by rw [kc_val,kc_val,h])
theorem kc_inj {p:Nat} [hp:NeZero p] {a b:Int} (h:(kc a:Fin p)=kc b):a % p=b % p:=by rw [← kc_val,← kc_val,h]
theorem kc_ofNat {p:Nat} [hp:NeZero p] (n:Nat):(kc (n:Int):Fin p)=Fin.ofNat p n:=fin_int (by rw [kc_val];simp [Fin.ofNat])
theorem kc_zero {p:Nat} [hp:NeZero p]:(kc 0:Fin p)=0:=kc_ofNat 0
theorem kc_one {p:Nat} [hp:NeZero p]:(kc 1:Fin p)=1:=kc_ofNat 1
theorem kc_two {p:Nat} [hp:NeZero p]:(kc 2:Fin p)=2:=kc_ofNat 2
theorem kc_sub {p:Nat} [hp:NeZero p] (a b:Int):(kc (a-b):Fin p)=kc a-kc b:=by
 have h:=kc_add (p:=p) (a-b) b
 rw [Int.sub_add_cancel] at h
 rw [h]
 grind
theorem kc_nil {p:Nat} [hp:NeZero p] {a:Int}:(kc a:Fin p)=0 ↔ a % p=0:=by
 rw [← kc_zero]
 constructor
 ·intro h;simpa using kc_inj h
 ·intro h;exact kc_eq (by simpa using h)
def finOp (p:Nat) [NeZero p]:Op (Fin p):=⟨fun n=>kc n,fun a b=>a+b,fun a b=>a-b,fun a b=>a*b,fun a k=>k a,fun a=>a == 0⟩
structure Par {α β:Type} (R:α→β→Prop) (o:Op α) (o':Op β):Prop where
 num:∀ n,R (o.num n) (o'.num n)
 add:∀ {a b s t},R a s→R b t→R (o.add a b) (o'.add s t)
 sub:∀ {a b s t},R a s→R b t→R (o.sub a b) (o'.sub s t)
 mul:∀ {a b s t},R a s→R b t→R (o.mul a b) (o'.mul s t)
def Rk {α:Type} (p:Nat) [NeZero p] (R:Int→α→Prop) (v:Fin p) (t:α):Prop:=∃ n:Int,kc n=v∧R n t
theorem par_of {α:Type} {p:Nat} [NeZero p] {R:Int→α→Prop} {o:Op α} (h:Ok p R o):Par (Rk p R) (finOp p) o where
 num n:=⟨n,rfl,h.num n⟩
 add:=by
  rintro a b s t ⟨n,rfl,hn⟩ ⟨m,rfl,hm⟩
  exact ⟨n+m,kc_add n m,h.add hn hm⟩
 sub:=by
  rintro a b s t ⟨n,rfl,hn⟩ ⟨m,rfl,hm⟩
  exact ⟨n-m,kc_sub n m,h.sub hn hm⟩
 mul:=by
  rintro a b s t ⟨n,rfl,hn⟩ ⟨m,rfl,hm⟩
  exact ⟨n*m,kc_mul n m,h.mul hn hm⟩
theorem nil_of {α:Type} {p:Nat} [NeZero p] {R:Int→α→Prop} {o:Op α} (h:Ok p R o) {v:Fin p} {t:α} (e:o.nil t=true) (r:Rk p R v t):v=0:=by
 obtain ⟨n,rfl,hn⟩:=r
 exact kc_nil.2 (h.nil e hn)
structure Tk:Type where
 k:Nat
 i:Nat
 c:Int
def Ex:Type:=List Tk
def Ex.v (i:Nat):Ex:=[(⟨0,i,0⟩:Tk)]
def Ex.n (c:Int):Ex:=[(⟨1,0,c⟩:Tk)]
def Ex.two (k:Nat) (a b:List Tk):Ex:=a++(b++[(⟨k,0,0⟩:Tk)])
def Ex.add (a b:Ex):Ex:=Ex.two 2 a b
def Ex.sub (a b:Ex):Ex:=Ex.two 3 a b
def Ex.mul (a b:Ex):Ex:=Ex.two 4 a b
def nth {α:Type} (d:α):List α→Nat→α
 | [],_=>d
 | a :: _,0=>a
 | _ :: l,i+1=>nth d l i
def Tk.act {α:Type} (o:Op α) (l:List α) (t:Tk) (st:List α):List α:=match t.k,st with
 | 0,st=>nth (o.num 0) l t.i :: st
 | 1,st=>o.num t.c :: st
 | 2,b :: a :: st=>o.add a b :: st
 | 3,b :: a :: st=>o.sub a b :: st
 | 4,b :: a :: st=>o.mul a b :: st
 | _,st=>st
def acts {α:Type} (o:Op α) (l:List α):List Tk→List α→List α
 | [],st=>st
 | t :: r,st=>acts o l r (t.act o l st)
def Ex.ev {α:Type} (o:Op α) (l:List α) (e:Ex):α:=nth (o.num 0) (acts o l e []) 0
def Rl {α β:Type} (R:α→β→Prop):List α→List β→Prop
 | [],[]=>True
 | a :: l,b :: k=>R a b∧Rl R l k
 | _,_=>False
theorem Rl.nil {α β:Type} {R:α→β→Prop}:Rl R [] []:=trivial
theorem Rl.cons {α β:Type} {R:α→β→Prop} {a:α} {b:β} {l:List α} {k:List β} (h:R a b) (t:Rl R l k):Rl R (a :: l) (b :: k):=⟨h,t⟩
theorem Rl.nth {α β:Type} {R:α→β→Prop} {d:α} {d':β} (hd:R d d'):∀ {l:List α} {k:List β},Rl R l k→∀ i,R (Go.Proofs.YtjaahnlpnkcimaaDoor.nth d l i) (Go.Proofs.YtjaahnlpnkcimaaDoor.nth d' k i)
 | [],[],_,_=>hd
 | [],_ :: _,h,_=>h.elim
 | _ :: _,[],h,_=>h.elim
 | _ :: _,_ :: _,h,0=>h.1
 | _ :: _,_ :: _,h,i+1=>Rl.nth hd h.2 i
theorem act_par {α β:Type} {R:α→β→Prop} {o:Op α} {o':Op β} (h:Par R o o') {l:List α} {k:List β} (hl:Rl R l k) (t:Tk) {s:List α} {s':List β} (hs:Rl R s s'):Rl R (t.act o l s) (t.act o' k s'):=by
 obtain ⟨n,i,c⟩:=t
 unfold Tk.act
 rcases n with _ | _ | _ | _ | _ | n
 ·exact ⟨hl.nth (h.num 0) i,hs⟩
 ·exact ⟨h.num c,hs⟩
 ·match s,s',hs with
  | [],[],hs=>exact hs
  | [_],[_],hs=>exact hs
  | _ :: _ :: _,_ :: _ :: _,hs=>exact ⟨h.add hs.2.1 hs.1,hs.2.2⟩
 ·match s,s',hs with
  | [],[],hs=>exact hs
  | [_],[_],hs=>exact hs
  | _ :: _ :: _,_ :: _ :: _,hs=>exact ⟨h.sub hs.2.1 hs.1,hs.2.2⟩
 ·match s,s',hs with
  | [],[],hs=>exact hs
  | [_],[_],hs=>exact hs
  | _ :: _ :: _,_ :: _ :: _,hs=>exact ⟨h.mul hs.2.1 hs.1,hs.2.2⟩
 ·exact hs
theorem acts_par {α β:Type} {R:α→β→Prop} {o:Op α} {o':Op β} (h:Par R o o') {l:List α} {k:List β} (hl:Rl R l k):∀ (e:List Tk) {s:List α} {s':List β},Rl R s s'→Rl R (acts o l e s) (acts o' k e s')
 | [],_,_,hs=>hs
 | t :: r,_,_,hs=>acts_par h hl r (act_par h hl t hs)
theorem Ex.par {α β:Type} {R:α→β→Prop} {o:Op α} {o':Op β} (h:Par R o o') {l:List α} {k:List β} (hl:Rl R l k) (e:Ex):R (e.ev o l) (e.ev o' k) :=
 Rl.nth (h.num 0) (acts_par h hl e (s:=[]) (s':=[]) trivial) 0
structure P3 (α:Type):Type where
 x:α
 y:α
 z:α
def wf {α:Type} (o:Op α) (b:α) (P Q:P3 α):P3 α :=
 let xx:=o.mul P.x Q.x
 let yy:=o.mul P.y Q.y
 let zz:=o.mul P.z Q.z
 let xy:=o.add (o.mul P.x Q.y) (o.mul Q.x P.y)
 let xz:=o.add (o.mul P.x Q.z) (o.mul Q.x P.z)
 let yz:=o.add (o.mul P.y Q.z) (o.mul Q.y P.z)
 let u:=o.sub xz (o.mul b zz)
 let u3:=o.add u (o.add u u)
 let t:=o.sub (o.sub (o.mul b xz) xx) (o.add zz (o.add zz zz))
 let t3:=o.add t (o.add t t)
 let m:=o.sub xx zz
 let m3:=o.add m (o.add m m)
 ⟨o.sub (o.mul xy (o.add yy u3)) (o.mul yz t3),o.add (o.mul m3 t3) (o.mul (o.sub yy u3) (o.add yy u3)),o.add (o.mul yz (o.sub yy u3)) (o.mul xy m3)⟩
/-! Three points of a curve y y = q(x): their codes. -/
abbrev T8:=Pr (Pr (Pr Cd))
def wz:Sz:=⟨14,14,11,56⟩
def wq (i:Nat):Cd:=(cdOp wz).add ((cdOp wz).sub ((cdOp wz).mul (wz.var i) ((cdOp wz).mul (wz.var i) (wz.var i))) ((cdOp wz).mul ((cdOp wz).num 3) (wz.var i))) (wz.var 3)
def o2:Op (Pr Cd):=upOp (cdOp wz) (wq 0)
structure Fld (p:Nat) [NeZero p] (iv:Fin p→Fin p):Prop where
 one:(1:Fin p)≠0
 two:(2:Fin p)≠0
 inv:∀ a:Fin p,a≠0→a*iv a=1
theorem Fld.dom {p:Nat} [NeZero p] {iv:Fin p→Fin p} (h:Fld p iv) {a b:Fin p} (e:a*b=0):a=0∨b=0:=by
 by_cases ha:a=0
 ·exact Or.inl ha
 ·have:=h.inv a ha
  exact Or.inr (by grobner)
theorem Fld.ne {p:Nat} [NeZero p] {iv:Fin p→Fin p} (h:Fld p iv) {a b:Fin p} (ha:a≠0) (hb:b≠0):a*b≠0:=fun e=>by
 rcases h.dom e with e | e
 ·exact ha e
 ·exact hb e
abbrev Wp (p:Nat):Type:=Option (Fin p × Fin p)
abbrev Wp.o {p:Nat}:Wp p:=none
abbrev Wp.pt {p:Nat} (x y:Fin p):Wp p:=some (x,y)
def Wp.on {p:Nat} [NeZero p] (b:Fin p):Wp p→Prop
 | none=>True
 | some (x,y)=>y*y=x*x*x-3*x+b
def Wp.lift {p:Nat} [NeZero p]:Wp p→P3 (Fin p)
 | none=>⟨0,1,0⟩
 | some (x,y)=>⟨x,y,1⟩
def nm {p:Nat} [NeZero p] (iv:Fin p→Fin p) (P:P3 (Fin p)):Wp p:=if P.z=0 then Wp.o else Wp.pt (P.x*iv P.z) (P.y*iv P.z)
def wa {p:Nat} [NeZero p] (b:Fin p) (P Q:P3 (Fin p)):P3 (Fin p):=wf (finOp p) b P Q
theorem sub0 {p:Nat} [NeZero p] {a c:Fin p} (h:a-c=0):a=c:=by grobner
/-! The identities that were told, written out. -/
def Wp.add {p:Nat} [NeZero p] (iv:Fin p→Fin p) (b:Fin p) (a c:Wp p):Wp p:=nm iv (wa b a.lift c.lift)
def Wp.neg {p:Nat} [NeZero p]:Wp p→Wp p
 | none=>none
 | some (x,y)=>some (x,- y)
structure Gr {α:Type} (S:α→Prop) (add:α→α→α) (o:α):Prop where
 mem:∀ {a b},S a→S b→S (add a b)
 zero:S o
 comm:∀ a b,add a b=add b a
 ass:∀ {a b c},S a→S b→S c→add (add a b) c=add a (add b c)
 add_o:∀ {a},S a→add a o=a
def mt {α:Type} (add:α→α→α) (o a:α):Nat→α
 | 0=>o
 | n+1=>add (mt add o a n) a
theorem mt_on {α:Type} {S:α→Prop} {add:α→α→α} {o:α} (h:Gr S add o) {a:α} (ha:S a):∀ n,S (mt add o a n)
 | 0=>h.zero
 | n+1=>h.mem (mt_on h ha n) ha
theorem mt_add {α:Type} {S:α→Prop} {add:α→α→α} {o:α} (h:Gr S add o) {a:α} (ha:S a) (m:Nat):∀ n,mt add o a (m+n)=add (mt add o a m) (mt add o a n)
 | 0=>(h.add_o (mt_on h ha m)).symm
 | n+1=>by
  show add (mt add o a (m+n)) a=add (mt add o a m) (add (mt add o a n) a)
  rw [mt_add h ha m n,h.ass (mt_on h ha m) (mt_on h ha n) ha]
theorem mt_two {α:Type} {S:α→Prop} {add:α→α→α} {o:α} (h:Gr S add o) {a:α} (ha:S a) (n:Nat):mt add o a (2*n)=add (mt add o a n) (mt add o a n):=by
 rw [show 2*n=n+n by omega,mt_add h ha]
/-! A prime's numbers have inverses. -/
def fiv {p:Nat} [NeZero p] (a:Fin p):Fin p:=kc ((a.val:Int) ^ (p-2))
theorem kc_pow {p:Nat} [NeZero p] (a:Int) (n:Nat):(kc (a ^ n):Fin p)=(kc a) ^ n:=by
 induction n with
 | zero =>
  rw [Int.pow_zero,kc_one]
  grobner
 | succ n ih =>
  rw [Int.pow_succ,kc_mul,ih]
  grobner
theorem fermat_fin {p:Nat} [NeZero p] (h:Full p) {a:Fin p} (ha:a≠0):a ^ (p-1)=1:=by
 have hd:¬ p ∣ a.val:=by
  intro hd
  have h1:=a.isLt
  have h0:a.val≠0:=fun e=>ha (Fin.ext e)
  have:=Nat.le_of_dvd (by omega) hd
  omega
 have e:=h.fermat a.val hd
 have e2:(kc ((a.val:Int) ^ (p-1)):Fin p)=kc 1:=kc_eq (by
  have h2:=h.prm.two
  rw [Int.emod_eq_of_lt (a:=1) (by omega) (by omega)]
  have e3:((a.val ^ (p-1) % p:Nat):Int)=1:=by rw [e];rfl
  rw [Int.natCast_emod,Int.natCast_pow] at e3
  exact e3)
 rw [kc_pow,kc_self,kc_one] at e2
 exact e2
theorem fld_of {p:Nat} [NeZero p] (h:Full p) (h2:2<p):(1:Fin p)≠0∧(2:Fin p)≠0∧∀ a:Fin p,a≠0→a*fiv a=1:=by
 refine ⟨?_,?_,?_⟩
 ·rw [← kc_one,Ne,kc_nil,Int.emod_eq_of_lt (by omega) (by omega)]
  omega
 ·rw [← kc_two,Ne,kc_nil,Int.emod_eq_of_lt (by omega) (by omega)]
  omega
 ·intro a ha
  have e:=fermat_fin h ha
  rw [show p-1=(p-2)+1 by omega] at e
  rw [fiv,kc_pow,kc_self]
  generalize p-2=n at e
  have e1:a*a ^ n=a ^ (n+1):=by clear e;grobner
  rw [e1,e]
/-! The same in plain numbers, for the kernel. -/
end Go.Proofs.YtjaahnlpnkcimaaDoor
namespace Go.Proofs.YtjaahnlpnkcimaaDoor
set_option maxRecDepth 100000
structure P4 (α:Type):Type where
 x:α
 z:α
 y:α
 t:α
def ef {α:Type} (o:Op α) (d:α) (P Q:P4 α):P4 α :=
 let xt:=o.mul P.x P.t
 let xt':=o.mul Q.x Q.t
 let yz:=o.mul P.y P.z
 let yz':=o.mul Q.y Q.z
 let zt:=o.mul (o.mul P.z P.t) (o.mul Q.z Q.t)
 let e:=o.mul d (o.mul (o.mul P.x P.y) (o.mul Q.x Q.y))
 ⟨o.add (o.mul xt yz') (o.mul xt' yz),o.add zt e,o.add (o.mul yz yz') (o.mul xt xt'),o.sub zt e⟩
structure Rq {α β:Type} (R:α→β→Prop) (P:P4 α) (Q:P4 β):Prop where
 x:R P.x Q.x
 z:R P.z Q.z
 y:R P.y Q.y
 t:R P.t Q.t
theorem ef_par {α β:Type} {R:α→β→Prop} {o:Op α} {o':Op β} (h:Par R o o') {d:α} {d':β} (hd:R d d') {P Q:P4 α} {P' Q':P4 β} (hP:Rq R P P') (hQ:Rq R Q Q'):Rq R (ef o d P Q) (ef o' d' P' Q'):=by
 have xt:=h.mul hP.x hP.t
 have xt':=h.mul hQ.x hQ.t
 have yz:=h.mul hP.y hP.z
 have yz':=h.mul hQ.y hQ.z
 have zt:=h.mul (h.mul hP.z hP.t) (h.mul hQ.z hQ.t)
 have e:=h.mul hd (h.mul (h.mul hP.x hP.y) (h.mul hQ.x hQ.y))
 exact ⟨h.add (h.mul xt yz') (h.mul xt' yz),h.add zt e,h.add (h.mul yz yz') (h.mul xt xt'),h.sub zt e⟩
def ez:Sz:=⟨13,13,10,20⟩
def ev (i:Nat):Cd:=(cdOp ez).sub ((cdOp ez).num 1) ((cdOp ez).mul (ez.var 3) ((cdOp ez).mul (ez.var i) (ez.var i)))
def eq' (i:Nat):Cd:=(cdOp ez).mul ((cdOp ez).add ((cdOp ez).num 1) ((cdOp ez).mul (ez.var i) (ez.var i))) (ev i)
def e2:Op (Pr Cd):=upOp (cdOp ez) (eq' 0)
def e4:Op (Pr (Pr Cd)):=upOp e2 ⟨eq' 1,(cdOp ez).num 0⟩
def e8:Op T8:=upOp e4 ⟨⟨eq' 2,(cdOp ez).num 0⟩,e2.num 0⟩
def eup (t:Cd):T8:=⟨⟨⟨t,(cdOp ez).num 0⟩,e2.num 0⟩,e4.num 0⟩
def le8:List T8:=[eup (ez.var 0),eup (ez.var 1),eup (ez.var 2),eup (ez.var 3),⟨⟨⟨(cdOp ez).num 0,(cdOp ez).num 1⟩,e2.num 0⟩,e4.num 0⟩,⟨⟨e2.num 0,e2.num 1⟩,e4.num 0⟩,⟨e4.num 0,e4.num 1⟩]
theorem esq_int {p:Nat} [NeZero p] {x w d:Fin p} (h:w*w=(1+x*x)*(1-d*(x*x))):(w.val:Int)*w.val % p=((1+x.val*x.val)*(1-d.val*(x.val*x.val)):Int) % p:=by
 apply kc_inj
 rw [kc_mul,kc_mul,kc_add,kc_sub,kc_mul,kc_mul,kc_mul,kc_self,kc_self,kc_self,kc_one]
 exact h
theorem ecodes {p:Nat} [NeZero p] {x1 x2 x3 d w1 w2 w3:Fin p} (h1:w1*w1=(1+x1*x1)*(1-d*(x1*x1))) (h2:w2*w2=(1+x2*x2)*(1-d*(x2*x2))) (h3:w3*w3=(1+x3*x3)*(1-d*(x3*x3))) :
  ∃ R:Int→T8→Prop,Ok p R e8∧Rl (Rk p R) [x1,x2,x3,d,w1,w2,w3] le8:=by
 let X:Nat→Int:=fun i=>match i with
  | 0=>x1.val
  | 1=>x2.val
  | 2=>x3.val
  | _=>d.val
 have k0:=ok_cd p ez X
 have v0:Rc p ez X x1.val (ez.var 0):=rc_var p ez X (n:=0) (by omega)
 have v1:Rc p ez X x2.val (ez.var 1):=rc_var p ez X (n:=1) (by omega)
 have v2:Rc p ez X x3.val (ez.var 2):=rc_var p ez X (n:=2) (by omega)
 have v3:Rc p ez X d.val (ez.var 3):=rc_var p ez X (n:=3) (by omega)
 have q0:Rc p ez X ((1+x1.val*x1.val)*(1-d.val*(x1.val*x1.val)):Int) (eq' 0):=by
  unfold eq' ev
  exact k0.mul (k0.add (k0.num 1) (k0.mul v0 v0)) (k0.sub (k0.num 1) (k0.mul v3 (k0.mul v0 v0)))
 have q1:Rc p ez X ((1+x2.val*x2.val)*(1-d.val*(x2.val*x2.val)):Int) (eq' 1):=by
  unfold eq' ev
  exact k0.mul (k0.add (k0.num 1) (k0.mul v1 v1)) (k0.sub (k0.num 1) (k0.mul v3 (k0.mul v1 v1)))
 have q2:Rc p ez X ((1+x3.val*x3.val)*(1-d.val*(x3.val*x3.val)):Int) (eq' 2):=by
  unfold eq' ev
  exact k0.mul (k0.add (k0.num 1) (k0.mul v2 v2)) (k0.sub (k0.num 1) (k0.mul v3 (k0.mul v2 v2)))
 have k2:Ok p _ e2:=ok_up k0 q0 (esq_int h1)
 have k4:Ok p _ e4:=ok_up k2 (ru_up k0 w1.val q1) (esq_int h2)
 have k8:Ok p _ e8:=ok_up k4 (ru_up k2 w2.val (ru_up k0 w1.val q2)) (esq_int h3)
 have w:∀ {v:Int} {t:Cd},Rc p ez X v t→Ru p (Ru p (Ru p (Rc p ez X) w1.val) w2.val) w3.val v (eup t):=fun h=>ru_up k4 _ (ru_up k2 _ (ru_up k0 _ h))
 refine ⟨_,k8,?_⟩
 exact .cons ⟨_,kc_self _,w v0⟩ (.cons ⟨_,kc_self _,w v1⟩ (.cons ⟨_,kc_self _,w v2⟩ (.cons ⟨_,kc_self _,w v3⟩
  (.cons ⟨_,kc_self _,ru_up k4 _ (ru_up k2 _ (ru_y k0 _))⟩ (.cons ⟨_,kc_self _,ru_up k4 _ (ru_y k2 _)⟩ (.cons ⟨_,kc_self _,ru_y k4 _⟩ .nil))))))
def eregs {α:Type} (o:Op α) (x1 x2 x3 d w1 w2 w3:α):List α :=
 let P:P4 α:=⟨x1,o.num 1,w1,o.sub (o.num 1) (o.mul d (o.mul x1 x1))⟩
 let Q:P4 α:=⟨x2,o.num 1,w2,o.sub (o.num 1) (o.mul d (o.mul x2 x2))⟩
 let R:P4 α:=⟨x3,o.num 1,w3,o.sub (o.num 1) (o.mul d (o.mul x3 x3))⟩
 let A:=ef o d P Q
 let L:=ef o d A R
 let M:=ef o d P (ef o d Q R)
 [d,A.x,A.z,A.y,A.t,L.x,L.z,L.y,L.t,M.x,M.z,M.y,M.t]
theorem eregs_par {α β:Type} {R:α→β→Prop} {o:Op α} {o':Op β} (h:Par R o o') {x1 x2 x3 b y1 y2 y3:α} {x1' x2' x3' b' y1' y2' y3':β} (h1:R x1 x1') (h2:R x2 x2') (h3:R x3 x3') (hb:R b b') (k1:R y1 y1') (k2:R y2 y2') (k3:R y3 y3') :
  Rl R (eregs o x1 x2 x3 b y1 y2 y3) (eregs o' x1' x2' x3' b' y1' y2' y3'):=by
 have P:Rq R ⟨x1,o.num 1,y1,o.sub (o.num 1) (o.mul b (o.mul x1 x1))⟩ ⟨x1',o'.num 1,y1',o'.sub (o'.num 1) (o'.mul b' (o'.mul x1' x1'))⟩:=⟨h1,h.num 1,k1,h.sub (h.num 1) (h.mul hb (h.mul h1 h1))⟩
 have Q:Rq R ⟨x2,o.num 1,y2,o.sub (o.num 1) (o.mul b (o.mul x2 x2))⟩ ⟨x2',o'.num 1,y2',o'.sub (o'.num 1) (o'.mul b' (o'.mul x2' x2'))⟩:=⟨h2,h.num 1,k2,h.sub (h.num 1) (h.mul hb (h.mul h2 h2))⟩
 have T:Rq R ⟨x3,o.num 1,y3,o.sub (o.num 1) (o.mul b (o.mul x3 x3))⟩ ⟨x3',o'.num 1,y3',o'.sub (o'.num 1) (o'.mul b' (o'.mul x3' x3'))⟩:=⟨h3,h.num 1,k3,h.sub (h.num 1) (h.mul hb (h.mul h3 h3))⟩
 have A:=ef_par h hb P Q
 have L:=ef_par h hb A T
 have M:=ef_par h hb P (ef_par h hb Q T)
 exact .cons hb (.cons A.x (.cons A.z (.cons A.y (.cons A.t (.cons L.x (.cons L.z (.cons L.y (.cons L.t (.cons M.x (.cons M.z (.cons M.y (.cons M.t .nil))))))))))))
def eids:List Ex:=[
 .sub (.mul (.v 5) (.v 10)) (.mul (.v 9) (.v 6)),.sub (.mul (.v 7) (.v 12)) (.mul (.v 11) (.v 8)),
 .sub (.sub (.mul (.mul (.v 3) (.v 2)) (.mul (.v 3) (.v 2))) (.mul (.mul (.v 1) (.v 4)) (.mul (.v 1) (.v 4)))) (.add (.mul (.mul (.v 2) (.v 4)) (.mul (.v 2) (.v 4))) (.mul (.v 0) (.mul (.mul (.v 1) (.v 3)) (.mul (.v 1) (.v 3)))))]
def le8n (i:Nat):T8:=nth (e8.num 0) le8 i
def eregs8:List T8:=eregs e8 (le8n 0) (le8n 1) (le8n 2) (le8n 3) (le8n 4) (le8n 5) (le8n 6)
theorem eids_ok:(eids.all fun e=>e8.nil (e.ev e8 eregs8))=true:=by decide +kernel
theorem etells {p:Nat} [NeZero p] {x1 x2 x3 d w1 w2 w3:Fin p} (h1:w1*w1=(1+x1*x1)*(1-d*(x1*x1))) (h2:w2*w2=(1+x2*x2)*(1-d*(x2*x2))) (h3:w3*w3=(1+x3*x3)*(1-d*(x3*x3))) (i:Nat) (hi:i<3) :
  (nth (.n 0) eids i).ev (finOp p) (eregs (finOp p) x1 x2 x3 d w1 w2 w3)=0:=by
 obtain ⟨R,k,hl⟩:=ecodes h1 h2 h3
 have hp:=par_of k
 have hn:=fun i=>hl.nth (hp.num 0) i
 have hr:=eregs_par hp (hn 0) (hn 1) (hn 2) (hn 3) (hn 4) (hn 5) (hn 6)
 have hm:nth (.n 0) eids i ∈ eids:=by
  have:i=0∨i=1∨i=2:=by omega
  rcases this with rfl | rfl | rfl <;> simp [eids,nth]
 exact nil_of k (List.all_eq_true.1 eids_ok _ hm) (Ex.par hp hr _)
structure Ek (p:Nat) [NeZero p] (iv:Fin p→Fin p) (d:Fin p):Prop extends Fld p iv where
 im:∃ i:Fin p,i*i=- 1
 ns:∀ s:Fin p,s*s≠d
structure Ep (p:Nat):Type where
 x:Fin p
 y:Fin p
def Ep.on {p:Nat} [NeZero p] (d:Fin p) (a:Ep p):Prop:=a.y*a.y-a.x*a.x=1+d*(a.x*a.x*(a.y*a.y))
def Ep.t {p:Nat} [NeZero p] (d:Fin p) (a c:Ep p):Fin p:=d*(a.x*c.x*(a.y*c.y))
def Ep.add {p:Nat} [NeZero p] (iv:Fin p→Fin p) (d:Fin p) (a c:Ep p):Ep p:=⟨(a.x*c.y+c.x*a.y)*iv (1+a.t d c),(a.y*c.y+a.x*c.x)*iv (1-a.t d c)⟩
def Ep.o (p:Nat) [NeZero p]:Ep p:=⟨0,1⟩
def Ep.neg {p:Nat} [NeZero p] (a:Ep p):Ep p:=⟨- a.x,a.y⟩
theorem ns_frac {p:Nat} [NeZero p] {iv:Fin p→Fin p} {d:Fin p} (h:Ek p iv d) {u v:Fin p} (hv:v≠0) (e:d*(v*v)=u*u):False:=by
 have hi:=h.inv v hv
 refine h.ns (u*iv v) ?_
 generalize iv v=i at hi
 have e1:u*i*(u*i)=u*u*(i*i):=by clear e hi;grobner
 rw [e1,← e]
 clear e e1
 grobner
theorem den {p:Nat} [NeZero p] {iv:Fin p→Fin p} {d:Fin p} (h:Ek p iv d) {a c:Ep p} (ha:a.on d) (hc:c.on d) (ht:a.t d c*a.t d c=1):False:=by
 obtain ⟨i,hi⟩:=h.im
 obtain ⟨x1,y1⟩:=a
 obtain ⟨x2,y2⟩:=c
 simp only [Ep.on,Ep.t] at ha hc ht
 obtain ⟨t,et⟩:∃ t,t=d*(x1*x2*(y1*y2)):=⟨_,rfl⟩
 rw [← et] at ht
 have n1:x1≠0:=by
  rintro rfl
  have:t=0:=by rw [et];clear ha hc ht et;grobner
  rw [this] at ht
  exact h.one (by clear ha hc et;grobner)
 have n2:y1≠0:=by
  rintro rfl
  have:t=0:=by rw [et];clear ha hc ht et;grobner
  rw [this] at ht
  exact h.one (by clear ha hc et;grobner)
 have n3:y2≠0:=by
  rintro rfl
  have:t=0:=by rw [et];clear ha hc ht et;grobner
  rw [this] at ht
  exact h.one (by clear ha hc et;grobner)
 have k1:d*(x1*y1*(i*x2+y2)*(x1*y1*(i*x2+y2)))=(i*x1+t*y1)*(i*x1+t*y1):=by
  have e1:d*(x1*y1*(i*x2+y2)*(x1*y1*(i*x2+y2)))=d*(x1*x1*(y1*y1))*(i*i*(x2*x2)+y2*y2)+2*i*(x1*y1)*(d*(x1*x2*(y1*y2))):=by clear ha hc et ht hi;grobner
  have e2:i*i*(x2*x2)+y2*y2=1+d*(x2*x2*(y2*y2)):=by rw [hi,← hc];clear ha hc et ht hi e1;grobner
  have e3:d*(x1*x1*(y1*y1))*(1+d*(x2*x2*(y2*y2)))=d*(x1*x1*(y1*y1))+(d*(x1*x2*(y1*y2)))*(d*(x1*x2*(y1*y2))):=by clear ha hc et ht hi e1 e2;grobner
  rw [e1,e2,e3,← et,ht]
  have e4:(i*x1+t*y1)*(i*x1+t*y1)=i*i*(x1*x1)+t*t*(y1*y1)+2*i*(x1*y1)*t:=by clear ha hc et ht hi e1 e2 e3;grobner
  rw [e4,ht,hi]
  clear e1 e2 e3 e4 et ht hi hc
  grobner
 have k2:d*(x1*y1*(i*x2-y2)*(x1*y1*(i*x2-y2)))=(i*x1-t*y1)*(i*x1-t*y1):=by
  have e1:d*(x1*y1*(i*x2-y2)*(x1*y1*(i*x2-y2)))=d*(x1*x1*(y1*y1))*(i*i*(x2*x2)+y2*y2)-2*i*(x1*y1)*(d*(x1*x2*(y1*y2))):=by clear ha hc et ht hi k1;grobner
  have e2:i*i*(x2*x2)+y2*y2=1+d*(x2*x2*(y2*y2)):=by rw [hi,← hc];clear ha hc et ht hi e1 k1;grobner
  have e3:d*(x1*x1*(y1*y1))*(1+d*(x2*x2*(y2*y2)))=d*(x1*x1*(y1*y1))+(d*(x1*x2*(y1*y2)))*(d*(x1*x2*(y1*y2))):=by clear ha hc et ht hi e1 e2 k1;grobner
  rw [e1,e2,e3,← et,ht]
  have e4:(i*x1-t*y1)*(i*x1-t*y1)=i*i*(x1*x1)+t*t*(y1*y1)-2*i*(x1*y1)*t:=by clear ha hc et ht hi e1 e2 e3 k1;grobner
  rw [e4,ht,hi]
  clear e1 e2 e3 e4 et ht hi hc k1
  grobner
 have hxy:=h.ne n1 n2
 by_cases z1:i*x2+y2=0
 ·by_cases z2:i*x2-y2=0
  ·have e:2*y2=0:=by
    have e0:2*y2=(i*x2+y2)-(i*x2-y2):=by clear ha hc et ht hi k1 k2 z1 z2;grobner
    rw [e0,z1,z2]
    clear ha hc et ht hi k1 k2 z1 z2 e0
    grobner
   exact h.ne h.two n3 e
  ·exact ns_frac h (h.ne hxy z2) k2
 ·exact ns_frac h (h.ne hxy z1) k1
theorem den_add {p:Nat} [NeZero p] {iv:Fin p→Fin p} {d:Fin p} (h:Ek p iv d) {a c:Ep p} (ha:a.on d) (hc:c.on d):1+a.t d c≠0:=by
 intro e
 refine den h ha hc ?_
 generalize a.t d c=t at *
 clear ha hc
 grobner
theorem den_sub {p:Nat} [NeZero p] {iv:Fin p→Fin p} {d:Fin p} (h:Ek p iv d) {a c:Ep p} (ha:a.on d) (hc:c.on d):1-a.t d c≠0:=by
 intro e
 refine den h ha hc ?_
 generalize a.t d c=t at *
 clear ha hc
 grobner
theorem vee {p:Nat} [NeZero p] {iv:Fin p→Fin p} {d:Fin p} (h:Ek p iv d) {a:Ep p} (ha:a.on d):1-d*(a.x*a.x)≠0:=by
 intro e
 obtain ⟨i,hi⟩:=h.im
 obtain ⟨x,y⟩:=a
 simp only [Ep.on] at ha e
 have e1:1+x*x=0:=by
  have:y*y*(1-d*(x*x))=1+x*x:=by clear e hi;grobner
  rw [← this,e]
  clear this ha e hi
  grobner
 refine h.ns i ?_
 rw [hi]
 clear ha hi
 grobner
def ea {p:Nat} [NeZero p] (d:Fin p) (P Q:P4 (Fin p)):P4 (Fin p):=ef (finOp p) d P Q
theorem ea_eq {p:Nat} [NeZero p] (d:Fin p) (P Q:P4 (Fin p)):ea d P Q=⟨P.x*P.t*(Q.y*Q.z)+Q.x*Q.t*(P.y*P.z),P.z*P.t*(Q.z*Q.t)+d*(P.x*P.y*(Q.x*Q.y)),P.y*P.z*(Q.y*Q.z)+P.x*P.t*(Q.x*Q.t),P.z*P.t*(Q.z*Q.t)-d*(P.x*P.y*(Q.x*Q.y))⟩:=rfl
def sd {p:Nat} (k m:Fin p) (P:P4 (Fin p)):P4 (Fin p):=⟨k*P.x,k*P.z,m*P.y,m*P.t⟩
theorem ea_sd {p:Nat} [NeZero p] (d k m k' m':Fin p) (P Q:P4 (Fin p)):ea d (sd k m P) (sd k' m' Q)=sd (k*m*(k'*m')) (k*m*(k'*m')) (ea d P Q):=by
 simp only [ea_eq,sd]
 congr 1 <;> grobner
def Ep.lift {p:Nat} [NeZero p] (a:Ep p):P4 (Fin p):=⟨a.x,1,a.y,1⟩
def em {p:Nat} (iv:Fin p→Fin p) (P:P4 (Fin p)):Ep p:=⟨P.x*iv P.z,P.y*iv P.t⟩
structure Dn {p:Nat} [NeZero p] (P:P4 (Fin p)):Prop where
 z:P.z≠0
 t:P.t≠0
theorem em_lift {p:Nat} [NeZero p] {iv:Fin p→Fin p} (h:Fld p iv) (a:Ep p):em iv a.lift=a:=by
 have hi:=h.inv 1 h.one
 have e:iv 1=1:=by grobner
 obtain ⟨x,y⟩:=a
 simp only [em,Ep.lift,e]
 congr 1 <;> grobner
theorem lift_em {p:Nat} [NeZero p] {iv:Fin p→Fin p} (h:Fld p iv) {P:P4 (Fin p)} (hP:Dn P):P=sd P.z P.t (em iv P).lift:=by
 have h1:=h.inv _ hP.z
 have h2:=h.inv _ hP.t
 obtain ⟨x,z,y,t⟩:=P
 simp only at h1 h2
 simp only [sd,em,Ep.lift]
 congr 1 <;> grobner
theorem em_sd {p:Nat} [NeZero p] {iv:Fin p→Fin p} (h:Fld p iv) {k m:Fin p} (hk:k≠0) (hm:m≠0) {P:P4 (Fin p)} (hP:Dn P):em iv (sd k m P)=em iv P:=by
 have h1:=h.inv _ hP.z
 have h2:=h.inv _ hP.t
 have h3:=h.inv _ (h.ne hk hP.z)
 have h4:=h.inv _ (h.ne hm hP.t)
 simp only [em,sd]
 generalize iv (k*P.z)=i3 at *
 generalize iv (m*P.t)=i4 at *
 generalize iv P.z=i1 at *
 generalize iv P.t=i2 at *
 congr 1
 ·have e:k*P.x*i3=P.x*(k*P.z*i3)*i1:=by clear h2 h3 h4;grobner
  rw [e,h3]
  clear h1 h2 h3 h4 e
  grobner
 ·have e:m*P.y*i4=P.y*(m*P.t*i4)*i2:=by clear h1 h3 h4;grobner
  rw [e,h4]
  clear h1 h2 h3 h4 e
  grobner
theorem ea_lift {p:Nat} [NeZero p] (d:Fin p) (a c:Ep p):ea d a.lift c.lift=⟨a.x*c.y+c.x*a.y,1+a.t d c,a.y*c.y+a.x*c.x,1-a.t d c⟩:=by
 simp only [ea_eq,Ep.lift,Ep.t]
 congr 1 <;> grobner
theorem dn_lift {p:Nat} [NeZero p] {iv:Fin p→Fin p} {d:Fin p} (h:Ek p iv d) {a c:Ep p} (ha:a.on d) (hc:c.on d):Dn (ea d a.lift c.lift):=by
 rw [ea_lift]
 exact ⟨den_add h ha hc,den_sub h ha hc⟩
theorem em_ea {p:Nat} [NeZero p] {iv:Fin p→Fin p} {d:Fin p} (h:Ek p iv d) {P Q:P4 (Fin p)} (hP:Dn P) (hQ:Dn Q) (oP:(em iv P).on d) (oQ:(em iv Q).on d):Dn (ea d P Q)∧em iv (ea d P Q)=(em iv P).add iv d (em iv Q):=by
 have k:=h.ne (h.ne hP.z hP.t) (h.ne hQ.z hQ.t)
 have D:=dn_lift h oP oQ
 have e:=ea_sd d P.z P.t Q.z Q.t (em iv P).lift (em iv Q).lift
 rw [← lift_em h.toFld hP,← lift_em h.toFld hQ] at e
 rw [e]
 refine ⟨⟨h.ne k D.z,h.ne k D.t⟩,?_⟩
 rw [em_sd h.toFld k k D,ea_lift]
 rfl
theorem wee {p:Nat} [NeZero p] {d:Fin p} {a:Ep p} (ha:a.on d):(1-d*(a.x*a.x))*a.y*((1-d*(a.x*a.x))*a.y)=(1+a.x*a.x)*(1-d*(a.x*a.x)):=by
 obtain ⟨x,y⟩:=a
 simp only [Ep.on] at ha
 have:y*y*(1-d*(x*x))=1+x*x:=by grobner
 rw [← this]
 clear this ha
 grobner
theorem wlift {p:Nat} [NeZero p] (d:Fin p) (a:Ep p):(⟨a.x,1,(1-d*(a.x*a.x))*a.y,1-d*(a.x*a.x)⟩:P4 (Fin p))=sd 1 (1-d*(a.x*a.x)) a.lift:=by
 simp only [sd,Ep.lift]
 congr 1 <;> grobner
theorem Ep.add_on {p:Nat} [NeZero p] {iv:Fin p→Fin p} {d:Fin p} (h:Ek p iv d) {a c:Ep p} (ha:a.on d) (hc:c.on d):(a.add iv d c).on d:=by
 have T:=etells (wee ha) (wee hc) (wee hc) 2 (by omega)
 have T2:∀ A:P4 (Fin p),A=ea d ⟨a.x,kc 1,(1-d*(a.x*a.x))*a.y,kc 1-d*(a.x*a.x)⟩ ⟨c.x,kc 1,(1-d*(c.x*c.x))*c.y,kc 1-d*(c.x*c.x)⟩ →
   A.y*A.z*(A.y*A.z)-A.x*A.t*(A.x*A.t)-(A.z*A.t*(A.z*A.t)+d*(A.x*A.y*(A.x*A.y)))=0:=by
  rintro A rfl
  exact T
 clear T
 rw [kc_one,wlift,wlift,ea_sd] at T2
 have va:=vee h ha
 have vc:=vee h hc
 have k:=h.ne (h.ne h.one va) (h.ne h.one vc)
 have D:=dn_lift h ha hc
 have D2:Dn (sd (1*(1-d*(a.x*a.x))*(1*(1-d*(c.x*c.x)))) (1*(1-d*(a.x*a.x))*(1*(1-d*(c.x*c.x)))) (ea d a.lift c.lift)):=⟨h.ne k D.z,h.ne k D.t⟩
 have e:a.add iv d c=em iv (sd (1*(1-d*(a.x*a.x))*(1*(1-d*(c.x*c.x)))) (1*(1-d*(a.x*a.x))*(1*(1-d*(c.x*c.x)))) (ea d a.lift c.lift)):=by
  rw [em_sd h.toFld k k D,ea_lift]
  rfl
 rw [e]
 have t:=T2 _ rfl
 generalize sd (1*(1-d*(a.x*a.x))*(1*(1-d*(c.x*c.x)))) (1*(1-d*(a.x*a.x))*(1*(1-d*(c.x*c.x)))) (ea d a.lift c.lift)=A at *
 have h1:=h.inv _ D2.z
 have h2:=h.inv _ D2.t
 clear T2 e va vc k D D2 ha hc
 obtain ⟨x,z,y,t'⟩:=A
 simp only at t h1 h2
 simp only [Ep.on,em]
 generalize iv z=i at *
 generalize iv t'=j at *
 have t2:=sub0 t
 have e1:y*j*(y*j)-x*i*(x*i)=(y*z*(y*z)-x*t'*(x*t'))*(i*i*(j*j)):=by clear t t2;grobner
 rw [e1,t2]
 clear t t2 e1
 grobner
theorem Ep.add_comm {p:Nat} [NeZero p] (iv:Fin p→Fin p) (d:Fin p) (a c:Ep p):a.add iv d c=c.add iv d a:=by
 have e:a.t d c=c.t d a:=by simp only [Ep.t];grobner
 simp only [Ep.add,e]
 congr 1
 ·have:a.x*c.y+c.x*a.y=c.x*a.y+a.x*c.y:=by clear e;grobner
  rw [this]
 ·have:a.y*c.y+a.x*c.x=c.y*a.y+c.x*a.x:=by clear e;grobner
  rw [this]
theorem Ep.o_on {p:Nat} [NeZero p] (d:Fin p):(Ep.o p).on d:=by
 simp only [Ep.on,Ep.o]
 grobner
theorem iv_one {p:Nat} [NeZero p] {iv:Fin p→Fin p} (h:Fld p iv):iv 1=1:=by
 have hi:=h.inv 1 h.one
 grobner
theorem Ep.add_o {p:Nat} [NeZero p] {iv:Fin p→Fin p} (h:Fld p iv) (d:Fin p) (a:Ep p):a.add iv d (Ep.o p)=a:=by
 have e1:(1:Fin p)+a.t d (Ep.o p)=1:=by simp only [Ep.t,Ep.o];grobner
 have e2:(1:Fin p)-a.t d (Ep.o p)=1:=by simp only [Ep.t,Ep.o];grobner
 simp only [Ep.add,e1,e2,iv_one h]
 obtain ⟨x,y⟩:=a
 simp only [Ep.o]
 clear e1 e2
 congr 1 <;> grobner
theorem Ep.add_assoc {p:Nat} [NeZero p] {iv:Fin p→Fin p} {d:Fin p} (h:Ek p iv d) {a b c:Ep p} (ha:a.on d) (hb:b.on d) (hc:c.on d):(a.add iv d b).add iv d c=a.add iv d (b.add iv d c):=by
 have la:Dn a.lift:=⟨h.one,h.one⟩
 have lb:Dn b.lift:=⟨h.one,h.one⟩
 have lc:Dn c.lift:=⟨h.one,h.one⟩
 have oa:(em iv a.lift).on d:=by rw [em_lift h.toFld];exact ha
 have ob:(em iv b.lift).on d:=by rw [em_lift h.toFld];exact hb
 have oc:(em iv c.lift).on d:=by rw [em_lift h.toFld];exact hc
 have m1:=em_ea h la lb oa ob
 have m2:=em_ea h lb lc ob oc
 rw [em_lift h.toFld,em_lift h.toFld] at m1 m2
 have m3:=em_ea h m1.1 lc (by rw [m1.2];exact Ep.add_on h ha hb) oc
 have m4:=em_ea h la m2.1 oa (by rw [m2.2];exact Ep.add_on h hb hc)
 rw [m1.2,em_lift h.toFld] at m3
 rw [m2.2,em_lift h.toFld] at m4
 rw [← m3.2,← m4.2]
 have va:=vee h ha
 have vb:=vee h hb
 have vc:=vee h hc
 have T0:=etells (wee ha) (wee hb) (wee hc) 0 (by omega)
 have T1:=etells (wee ha) (wee hb) (wee hc) 1 (by omega)
 have T:∀ L M:P4 (Fin p),L=ea d (ea d ⟨a.x,kc 1,(1-d*(a.x*a.x))*a.y,kc 1-d*(a.x*a.x)⟩ ⟨b.x,kc 1,(1-d*(b.x*b.x))*b.y,kc 1-d*(b.x*b.x)⟩) ⟨c.x,kc 1,(1-d*(c.x*c.x))*c.y,kc 1-d*(c.x*c.x)⟩ →
   M=ea d ⟨a.x,kc 1,(1-d*(a.x*a.x))*a.y,kc 1-d*(a.x*a.x)⟩ (ea d ⟨b.x,kc 1,(1-d*(b.x*b.x))*b.y,kc 1-d*(b.x*b.x)⟩ ⟨c.x,kc 1,(1-d*(c.x*c.x))*c.y,kc 1-d*(c.x*c.x)⟩) →
   L.x*M.z-M.x*L.z=0∧L.y*M.t-M.y*L.t=0:=by
  rintro L M rfl rfl
  exact ⟨T0,T1⟩
 clear T0 T1
 rw [kc_one,wlift,wlift,wlift,ea_sd,ea_sd,ea_sd,ea_sd] at T
 have kab:=h.ne (h.ne h.one va) (h.ne h.one vb)
 have kbc:=h.ne (h.ne h.one vb) (h.ne h.one vc)
 have kl:=h.ne (h.ne kab kab) (h.ne h.one vc)
 have km:=h.ne (h.ne h.one va) (h.ne kbc kbc)
 have t:=T _ _ rfl rfl
 rw [← em_sd h.toFld kl kl m3.1,← em_sd h.toFld km km m4.1]
 have D3:Dn (sd (1*(1-d*(a.x*a.x))*(1*(1-d*(b.x*b.x)))*(1*(1-d*(a.x*a.x))*(1*(1-d*(b.x*b.x))))*(1*(1-d*(c.x*c.x)))) (1*(1-d*(a.x*a.x))*(1*(1-d*(b.x*b.x)))*(1*(1-d*(a.x*a.x))*(1*(1-d*(b.x*b.x))))*(1*(1-d*(c.x*c.x)))) (ea d (ea d a.lift b.lift) c.lift)):=⟨h.ne kl m3.1.z,h.ne kl m3.1.t⟩
 have D4:Dn (sd (1*(1-d*(a.x*a.x))*(1*(1-d*(b.x*b.x))*(1*(1-d*(c.x*c.x)))*(1*(1-d*(b.x*b.x))*(1*(1-d*(c.x*c.x)))))) (1*(1-d*(a.x*a.x))*(1*(1-d*(b.x*b.x))*(1*(1-d*(c.x*c.x)))*(1*(1-d*(b.x*b.x))*(1*(1-d*(c.x*c.x)))))) (ea d a.lift (ea d b.lift c.lift))):=⟨h.ne km m4.1.z,h.ne km m4.1.t⟩
 generalize sd _ _ (ea d (ea d a.lift b.lift) c.lift)=L at *
 generalize sd _ _ (ea d a.lift (ea d b.lift c.lift))=M at *
 have i1:=h.inv _ D3.z
 have i2:=h.inv _ D3.t
 have i3:=h.inv _ D4.z
 have i4:=h.inv _ D4.t
 have t1:=sub0 t.1
 have t2:=sub0 t.2
 simp only [em]
 clear t T m1 m2 m3 m4 ha hb hc oa ob oc D3 D4 kab kbc kl km va vb vc la lb lc
 generalize iv L.z=j1 at *
 generalize iv L.t=j2 at *
 generalize iv M.z=j3 at *
 generalize iv M.t=j4 at *
 congr 1
 ·have e1:L.x*j1=L.x*M.z*(j1*j3):=by clear t1 t2 i1 i2 i4;grobner
  rw [e1,t1]
  clear e1 t1 t2 i2 i3 i4
  grobner
 ·have e1:L.y*j2=L.y*M.t*(j2*j4):=by clear t1 t2 i1 i2 i3;grobner
  rw [e1,t2]
  clear e1 t1 t2 i1 i3 i4
  grobner
end Go.Proofs.YtjaahnlpnkcimaaDoor
