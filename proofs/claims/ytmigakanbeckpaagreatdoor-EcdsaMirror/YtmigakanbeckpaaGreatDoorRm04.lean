/- What is to be known of the program's types. Numbers of four words as they lie in memory. Plain arithmetic: a number whose powers of some g have the full order is a prime, and every number that it doesn't divide has a power 1. Polynomials whose identities are told by one number: sums of products of powers are held against their value at great powers of two2. Numbers modulo p as a type, and the codes of polynomials that stand for them. The formula by which points of the first curve are added, and what it does on the curve: told by the codes of polynomials. What the formula does on the first curve, as identities: told by the codes of polynomials. The points of the first curve are a group. The points of the first curve are a group: the sum's laws. Multiples in a group, and how they are reckoned bit by bit. -/
import Derived.Test.YtmigakanbeckpaaGreatDoorRm03
import Derived.Test.YtmigakanbeckpaaGreatDoorRm01
import Derived.Test.YtmigakanbeckpaaGreatDoorRm02
import Derived.Test.YtmigakanbeckpaaGreatDoorProg
import Derived.Below
namespace Go.Proofs.YtmigakanbeckpaaGreatDoor
open Go.RowKit
theorem ti24:(Tryz.prog.info? 24).map (·.size)=some 4:=by kernel_rfl
theorem tz24:(Tryz.prog.info? 24).map (·.zero)=some (some (.agg [Value.int .u64 0,Value.int .u64 0,Value.int .u64 0,Value.int .u64 0].toArray)):=by kernel_rfl
theorem ti132:(Tryz.prog.info? 132).map (·.size)=some 8:=by kernel_rfl
theorem tz132:(Tryz.prog.info? 132).map (·.zero)=some (some (.agg [Value.int .u64 0,Value.int .u64 0,Value.int .u64 0,Value.int .u64 0,Value.int .u64 0,Value.int .u64 0,Value.int .u64 0,Value.int .u64 0].toArray)):=by kernel_rfl
theorem ti44:(Tryz.prog.info? 44).map (·.size)=some 9:=by kernel_rfl
theorem tz44:(Tryz.prog.info? 44).map (·.zero)=some (some (.agg [Value.int .u64 0,Value.int .u64 0,Value.int .u64 0,Value.int .u64 0,Value.int .u64 0,Value.int .u64 0,Value.int .u64 0,Value.int .u64 0,Value.bool false].toArray)):=by kernel_rfl
theorem ti75:(Tryz.prog.info? 75).map (·.size)=some 12:=by kernel_rfl
theorem tz75:(Tryz.prog.info? 75).map (·.zero)=some (some (.agg [Value.int .u64 0,Value.int .u64 0,Value.int .u64 0,Value.int .u64 0,Value.int .u64 0,Value.int .u64 0,Value.int .u64 0,Value.int .u64 0,Value.int .u64 0,Value.int .u64 0,Value.int .u64 0,Value.int .u64 0].toArray)):=by kernel_rfl
theorem ti96:(Tryz.prog.info? 96).map (·.size)=some 12:=by kernel_rfl
theorem tz96:(Tryz.prog.info? 96).map (·.zero)=some (some (.agg [Value.int .u64 0,Value.int .u64 0,Value.int .u64 0,Value.int .u64 0,Value.int .u64 0,Value.int .u64 0,Value.int .u64 0,Value.int .u64 0,Value.int .u64 0,Value.int .u64 0,Value.int .u64 0,Value.int .u64 0].toArray)):=by kernel_rfl
theorem ti4:(Tryz.prog.info? 4).map (·.size)=some 1:=by kernel_rfl
theorem tz4:(Tryz.prog.info? 4).map (·.zero)=some (some (Value.bool false)):=by kernel_rfl
theorem ti5:(Tryz.prog.info? 5).map (·.size)=some 1:=by kernel_rfl
theorem tz5:(Tryz.prog.info? 5).map (·.zero)=some (some (Value.int .u8 0)):=by kernel_rfl
theorem ti22:(Tryz.prog.info? 22).map (·.size)=some 1:=by kernel_rfl
theorem tz22:(Tryz.prog.info? 22).map (·.zero)=some (some (Value.int .u64 0)):=by kernel_rfl
theorem ti109:(Tryz.prog.info? 109).map (·.size)=some 1:=by kernel_rfl
theorem tz109:(Tryz.prog.info? 109).map (·.zero)=some (some (Value.int .u32 0)):=by kernel_rfl
theorem ti3:(Tryz.prog.info? 3).map (·.size)=some 1:=by kernel_rfl
theorem tz3:(Tryz.prog.info? 3).map (·.zero)=some (some (Value.int .i64 0)):=by kernel_rfl
theorem ti25:(Tryz.prog.info? 25).map (·.size)=some 1:=by kernel_rfl
theorem tz25:(Tryz.prog.info? 25).map (·.zero)=some (some (Value.slice none 0 0)):=by kernel_rfl
theorem ti121:(Tryz.prog.info? 121).map (·.size)=some 1:=by kernel_rfl
theorem tz121:(Tryz.prog.info? 121).map (·.zero)=some (some (.agg [Value.slice none 0 0].toArray)):=by kernel_rfl
theorem ti59:(Tryz.prog.info? 59).map (·.size)=some 32:=by kernel_rfl
theorem tz59:(Tryz.prog.info? 59).map (·.zero)=some (some (.agg [Value.int .u8 0,Value.int .u8 0,Value.int .u8 0,Value.int .u8 0,Value.int .u8 0,Value.int .u8 0,Value.int .u8 0,Value.int .u8 0,Value.int .u8 0,Value.int .u8 0,Value.int .u8 0,Value.int .u8 0,Value.int .u8 0,Value.int .u8 0,Value.int .u8 0,Value.int .u8 0,Value.int .u8 0,Value.int .u8 0,Value.int .u8 0,Value.int .u8 0,Value.int .u8 0,Value.int .u8 0,Value.int .u8 0,Value.int .u8 0,Value.int .u8 0,Value.int .u8 0,Value.int .u8 0,Value.int .u8 0,Value.int .u8 0,Value.int .u8 0,Value.int .u8 0,Value.int .u8 0].toArray)):=by kernel_rfl
theorem ti60:(Tryz.prog.info? 60).map (·.size)=some 32:=by kernel_rfl
theorem tz60:(Tryz.prog.info? 60).map (·.zero)=some (some (.agg [Value.int .u8 0,Value.int .u8 0,Value.int .u8 0,Value.int .u8 0,Value.int .u8 0,Value.int .u8 0,Value.int .u8 0,Value.int .u8 0,Value.int .u8 0,Value.int .u8 0,Value.int .u8 0,Value.int .u8 0,Value.int .u8 0,Value.int .u8 0,Value.int .u8 0,Value.int .u8 0,Value.int .u8 0,Value.int .u8 0,Value.int .u8 0,Value.int .u8 0,Value.int .u8 0,Value.int .u8 0,Value.int .u8 0,Value.int .u8 0,Value.int .u8 0,Value.int .u8 0,Value.int .u8 0,Value.int .u8 0,Value.int .u8 0,Value.int .u8 0,Value.int .u8 0,Value.int .u8 0].toArray)):=by kernel_rfl
def tts:List (TypeId × TyE):=[(24,⟨true,4,some [Value.int .u64 0,Value.int .u64 0,Value.int .u64 0,Value.int .u64 0],[],some (4,1)⟩),(132,⟨true,8,some [Value.int .u64 0,Value.int .u64 0,Value.int .u64 0,Value.int .u64 0,Value.int .u64 0,Value.int .u64 0,Value.int .u64 0,Value.int .u64 0],[],some (8,1)⟩),(44,⟨true,9,some [Value.int .u64 0,Value.int .u64 0,Value.int .u64 0,Value.int .u64 0,Value.int .u64 0,Value.int .u64 0,Value.int .u64 0,Value.int .u64 0,Value.bool false],[0,4,8],none⟩),(75,⟨true,12,some [Value.int .u64 0,Value.int .u64 0,Value.int .u64 0,Value.int .u64 0,Value.int .u64 0,Value.int .u64 0,Value.int .u64 0,Value.int .u64 0,Value.int .u64 0,Value.int .u64 0,Value.int .u64 0,Value.int .u64 0],[0,4,8],none⟩),(96,⟨true,12,some [Value.int .u64 0,Value.int .u64 0,Value.int .u64 0,Value.int .u64 0,Value.int .u64 0,Value.int .u64 0,Value.int .u64 0,Value.int .u64 0,Value.int .u64 0,Value.int .u64 0,Value.int .u64 0,Value.int .u64 0],[0,4,8],none⟩),(4,⟨false,1,some [Value.bool false],[],none⟩),(5,⟨false,1,some [Value.int .u8 0],[],none⟩),(22,⟨false,1,some [Value.int .u64 0],[],none⟩),(109,⟨false,1,some [Value.int .u32 0],[],none⟩),(3,⟨false,1,some [Value.int .i64 0],[],none⟩),(25,⟨false,1,some [Value.slice none 0 0],[],none⟩),(121,⟨true,1,some [Value.slice none 0 0],[0],none⟩),(59,⟨true,32,some [Value.int .u8 0,Value.int .u8 0,Value.int .u8 0,Value.int .u8 0,Value.int .u8 0,Value.int .u8 0,Value.int .u8 0,Value.int .u8 0,Value.int .u8 0,Value.int .u8 0,Value.int .u8 0,Value.int .u8 0,Value.int .u8 0,Value.int .u8 0,Value.int .u8 0,Value.int .u8 0,Value.int .u8 0,Value.int .u8 0,Value.int .u8 0,Value.int .u8 0,Value.int .u8 0,Value.int .u8 0,Value.int .u8 0,Value.int .u8 0,Value.int .u8 0,Value.int .u8 0,Value.int .u8 0,Value.int .u8 0,Value.int .u8 0,Value.int .u8 0,Value.int .u8 0,Value.int .u8 0],[],some (32,1)⟩),(60,⟨true,32,some [Value.int .u8 0,Value.int .u8 0,Value.int .u8 0,Value.int .u8 0,Value.int .u8 0,Value.int .u8 0,Value.int .u8 0,Value.int .u8 0,Value.int .u8 0,Value.int .u8 0,Value.int .u8 0,Value.int .u8 0,Value.int .u8 0,Value.int .u8 0,Value.int .u8 0,Value.int .u8 0,Value.int .u8 0,Value.int .u8 0,Value.int .u8 0,Value.int .u8 0,Value.int .u8 0,Value.int .u8 0,Value.int .u8 0,Value.int .u8 0,Value.int .u8 0,Value.int .u8 0,Value.int .u8 0,Value.int .u8 0,Value.int .u8 0,Value.int .u8 0,Value.int .u8 0,Value.int .u8 0],[],some (32,1)⟩)]
theorem TT:AllT Tryz.prog tts:=⟨⟨⟨_,Tryz.underlying24,rfl⟩,ti24,fun z h=>(by cases h;exact ⟨_,tz24,rfl⟩),fun i off h=>(match i,h with | _+0,h=>by cases h),fun len z h=>(by cases h;exact ⟨_,Tryz.underlying24,ti22⟩)⟩,
 ⟨⟨_,Tryz.underlying132,rfl⟩,ti132,fun z h=>(by cases h;exact ⟨_,tz132,rfl⟩),fun i off h=>(match i,h with | _+0,h=>by cases h),fun len z h=>(by cases h;exact ⟨_,Tryz.underlying132,ti22⟩)⟩,
 ⟨⟨_,Tryz.underlying44,rfl⟩,ti44,fun z h=>(by cases h;exact ⟨_,tz44,rfl⟩),fun i off h=>(match i,h with | 0,h=>(by cases h;exact ⟨_,_,_,Tryz.underlying44,rfl,rfl,ti24⟩) | 1,h=>(by cases h;exact ⟨_,_,_,Tryz.underlying44,rfl,rfl,ti24⟩) | 2,h=>(by cases h;exact ⟨_,_,_,Tryz.underlying44,rfl,rfl,ti4⟩) | _+3,h=>by cases h),fun len z h=>(by cases h)⟩,
 ⟨⟨_,Tryz.underlying75,rfl⟩,ti75,fun z h=>(by cases h;exact ⟨_,tz75,rfl⟩),fun i off h=>(match i,h with | 0,h=>(by cases h;exact ⟨_,_,_,Tryz.underlying75,rfl,rfl,ti24⟩) | 1,h=>(by cases h;exact ⟨_,_,_,Tryz.underlying75,rfl,rfl,ti24⟩) | 2,h=>(by cases h;exact ⟨_,_,_,Tryz.underlying75,rfl,rfl,ti24⟩) | _+3,h=>by cases h),fun len z h=>(by cases h)⟩,
 ⟨⟨_,Tryz.underlying96,rfl⟩,ti96,fun z h=>(by cases h;exact ⟨_,tz96,rfl⟩),fun i off h=>(match i,h with | 0,h=>(by cases h;exact ⟨_,_,_,Tryz.underlying96,rfl,rfl,ti24⟩) | 1,h=>(by cases h;exact ⟨_,_,_,Tryz.underlying96,rfl,rfl,ti24⟩) | 2,h=>(by cases h;exact ⟨_,_,_,Tryz.underlying96,rfl,rfl,ti24⟩) | _+3,h=>by cases h),fun len z h=>(by cases h)⟩,
 ⟨⟨_,Tryz.underlying4,rfl⟩,ti4,fun z h=>(by cases h;exact ⟨_,tz4,rfl⟩),fun i off h=>(match i,h with | _+0,h=>by cases h),fun len z h=>(by cases h)⟩,
 ⟨⟨_,Tryz.underlying5,rfl⟩,ti5,fun z h=>(by cases h;exact ⟨_,tz5,rfl⟩),fun i off h=>(match i,h with | _+0,h=>by cases h),fun len z h=>(by cases h)⟩,
 ⟨⟨_,Tryz.underlying22,rfl⟩,ti22,fun z h=>(by cases h;exact ⟨_,tz22,rfl⟩),fun i off h=>(match i,h with | _+0,h=>by cases h),fun len z h=>(by cases h)⟩,
 ⟨⟨_,Tryz.underlying109,rfl⟩,ti109,fun z h=>(by cases h;exact ⟨_,tz109,rfl⟩),fun i off h=>(match i,h with | _+0,h=>by cases h),fun len z h=>(by cases h)⟩,
 ⟨⟨_,Tryz.underlying3,rfl⟩,ti3,fun z h=>(by cases h;exact ⟨_,tz3,rfl⟩),fun i off h=>(match i,h with | _+0,h=>by cases h),fun len z h=>(by cases h)⟩,
 ⟨⟨_,Tryz.underlying25,rfl⟩,ti25,fun z h=>(by cases h;exact ⟨_,tz25,rfl⟩),fun i off h=>(match i,h with | _+0,h=>by cases h),fun len z h=>(by cases h)⟩,
 ⟨⟨_,Tryz.underlying121,rfl⟩,ti121,fun z h=>(by cases h;exact ⟨_,tz121,rfl⟩),fun i off h=>(match i,h with | 0,h=>(by cases h;exact ⟨_,_,_,Tryz.underlying121,rfl,rfl,ti25⟩) | _+1,h=>by cases h),fun len z h=>(by cases h)⟩,
 ⟨⟨_,Tryz.underlying59,rfl⟩,ti59,fun z h=>(by cases h;exact ⟨_,tz59,rfl⟩),fun i off h=>(match i,h with | _+0,h=>by cases h),fun len z h=>(by cases h;exact ⟨_,Tryz.underlying59,ti5⟩)⟩,
 ⟨⟨_,Tryz.underlying60,rfl⟩,ti60,fun z h=>(by cases h;exact ⟨_,tz60,rfl⟩),fun i off h=>(match i,h with | _+0,h=>by cases h),fun len z h=>(by cases h;exact ⟨_,Tryz.underlying60,ti5⟩)⟩,trivial⟩
theorem T0:True:=trivial
theorem hmT:Tryz.prog.follows .mixedOrders=true:=by kernel_rfl
theorem aX {y:Code} {W:Bs} {n:Nat} {id:Nat} {ops:Array Oper} {b:Bool} {Q:Exit→Act→World→Prop} {σ:SS} {a:Act} {w:World} (h:Rp W n σ a w) (ks:List Nat) (xs:List OE) (hstep:AllA Tryz.prog W n tts ks ops xs σ 0 ops.toList xs) (s:List (Nat × SV)) (m:List (Nat × List Value)) (hk:∀ a' w',Rp W n (SS.mk' s m) a' w'→y.wp Tryz.prog Q a' w') (hok:orderOk ops xs=true:=by kernel_rfl) (h1:AllS (run (fun _=>true) 0 xs σ).s s:=by repeat' (first | exact trivial | refine ⟨rfl,?_⟩)) (h2:AllM (run (fun _=>true) 0 xs σ).m m:=by repeat' (first | exact trivial | refine ⟨rfl,?_⟩)) (h3:aimed m s=true:=by exact rfl):(Code.seq (Code.region id ops b) y).wp Tryz.prog Q a w:=a_region TT h hmT ks xs hok hstep s m h1 h2 h3 hk
theorem aE {W:Bs} {n:Nat} {id:Nat} {ops:Array Oper} {b:Bool} {Q:Exit→Act→World→Prop} {σ:SS} {a:Act} {w:World} (h:Rp W n σ a w) (ks:List Nat) (xs:List OE) (hstep:AllA Tryz.prog W n tts ks ops xs σ 0 ops.toList xs) (s:List (Nat × SV)) (m:List (Nat × List Value)) (hk:∀ a' w',Rp W n (SS.mk' s m) a' w'→Q .normal a' w') (hok:orderOk ops xs=true:=by kernel_rfl) (h1:AllS (run (fun _=>true) 0 xs σ).s s:=by repeat' (first | exact trivial | refine ⟨rfl,?_⟩)) (h2:AllM (run (fun _=>true) 0 xs σ).m m:=by repeat' (first | exact trivial | refine ⟨rfl,?_⟩)) (h3:aimed m s=true:=by exact rfl):(Code.region id ops b).wp Tryz.prog Q a w:=a_end TT h hmT ks xs hok hstep s m h1 h2 h3 hk
theorem aXQ {y:Code} {W:Bs} {n:Nat} {id:Nat} {ops:Array Oper} {b:Bool} {Q:Exit→Act→World→Prop} {σ:SS} {a:Act} {w:World} (h:Rp W n σ a w) (ks:List Nat) (xs:List OE) (hstep:AllA Tryz.prog W n tts ks ops xs σ 0 ops.toList xs) (s:List (Nat × SV)) (m:List (Nat × List Value)) (q:List (Nat × Pd)) (hk:∀ a' w',Rp W n (SS.mkQ s m q) a' w'→y.wp Tryz.prog Q a' w') (hok:orderOk ops xs=true:=by kernel_rfl) (h1:AllS (run (fun _=>true) 0 xs σ).s s:=by repeat' (first | exact trivial | refine ⟨rfl,?_⟩)) (h2:AllM (run (fun _=>true) 0 xs σ).m m:=by repeat' (first | exact trivial | refine ⟨rfl,?_⟩)) (hq:AllQ (run (fun _=>true) 0 xs σ).q q:=by repeat' (first | exact trivial | refine ⟨rfl,?_⟩)) (h3:aimQ m q s=true:=by exact rfl):(Code.seq (Code.region id ops b) y).wp Tryz.prog Q a w:=a_regionQ TT h hmT ks xs hok hstep s m q h1 h2 hq h3 hk
theorem aEQ {W:Bs} {n:Nat} {id:Nat} {ops:Array Oper} {b:Bool} {Q:Exit→Act→World→Prop} {σ:SS} {a:Act} {w:World} (h:Rp W n σ a w) (ks:List Nat) (xs:List OE) (hstep:AllA Tryz.prog W n tts ks ops xs σ 0 ops.toList xs) (s:List (Nat × SV)) (m:List (Nat × List Value)) (q:List (Nat × Pd)) (hk:∀ a' w',Rp W n (SS.mkQ s m q) a' w'→Q .normal a' w') (hok:orderOk ops xs=true:=by kernel_rfl) (h1:AllS (run (fun _=>true) 0 xs σ).s s:=by repeat' (first | exact trivial | refine ⟨rfl,?_⟩)) (h2:AllM (run (fun _=>true) 0 xs σ).m m:=by repeat' (first | exact trivial | refine ⟨rfl,?_⟩)) (hq:AllQ (run (fun _=>true) 0 xs σ).q q:=by repeat' (first | exact trivial | refine ⟨rfl,?_⟩)) (h3:aimQ m q s=true:=by exact rfl):(Code.region id ops b).wp Tryz.prog Q a w:=a_endQ TT h hmT ks xs hok hstep s m q h1 h2 hq h3 hk
end Go.Proofs.YtmigakanbeckpaaGreatDoor
namespace Go.Proofs.YtmigakanbeckpaaGreatDoor
set_option maxRecDepth 100000
open Go.RowKit
def nc (a:Int):List Value:=[.int .u64 (L 0 a),.int .u64 (L 1 a),.int .u64 (L 2 a),.int .u64 (L 3 a)]
def nz:List Value:=[.int .u64 0,.int .u64 0,.int .u64 0,.int .u64 0]
theorem nz_nc:nz=nc 0:=by kernel_rfl
theorem nc_eq {a b:Int} (ha:Num a) (hb:Num b):(L 0 a == L 0 b && (L 1 a == L 1 b && (L 2 a == L 2 b && (L 3 a == L 3 b && true))))=decide (a=b):=by
 by_cases h:a=b
 ·subst h;simp
 ·rw [decide_eq_false h]
  cases hh:(L 0 a == L 0 b && (L 1 a == L 1 b && (L 2 a == L 2 b && (L 3 a == L 3 b && true)))) with
  | false=>rfl
  | true =>
   simp only [Bool.and_eq_true,beq_iff_eq,and_true] at hh
   exact absurd (num_ext ha hb hh.1 hh.2.1 hh.2.2.1 hh.2.2.2) h
theorem eq_nc {a b:Int} (ha:Num a) (hb:Num b) (w:World):(Op.equalIn 10000 24 (.agg (nc a).toArray) (.agg (nc b).toArray)).run Tryz.prog w=.ok (decide (a=b)) w:=by
 rw [← nc_eq ha hb]
 exact eq4 _ _ _ _ _ _ _ _ w
end Go.Proofs.YtmigakanbeckpaaGreatDoor
namespace Go.Proofs.YtmigakanbeckpaaGreatDoor
set_option maxRecDepth 100000
structure Prm (p:Nat):Prop where
 two:2≤p
 only:∀ d,d ∣ p→d=1∨d=p
theorem prm_dvd_mul {p a b:Nat} (hp:Prm p) (h:p ∣ a*b):p ∣ a∨p ∣ b:=by
 rcases hp.only (Nat.gcd p a) (Nat.gcd_dvd_left p a) with h1 | h1
 ·exact Or.inr (Nat.Coprime.dvd_of_dvd_mul_left h1 h)
 ·exact Or.inl (h1 ▸ Nat.gcd_dvd_right p a)
theorem prm_factor (n:Nat):2≤n→∃ p,Prm p∧p ∣ n:=by
 induction n using Nat.strongRecOn with
 | ind n ih =>
  intro h
  by_cases hp:∀ d,d ∣ n→d=1∨d=n
  ·exact ⟨n,⟨h,hp⟩,Nat.dvd_refl n⟩
  ·have ⟨d,hd⟩:∃ d,¬ (d ∣ n→d=1∨d=n):=Classical.not_forall.1 hp
   have hd1:d ∣ n:=Classical.byContradiction fun hc=>hd fun h=>(hc h).elim
   have hd2:¬ (d=1∨d=n):=fun hc=>hd fun _=>hc
   have hle:d≤n:=Nat.le_of_dvd (by omega) hd1
   have h0:d≠0:=fun e=>by rw [e] at hd1;have:=Nat.eq_zero_of_zero_dvd hd1;omega
   obtain ⟨p,hp,hpd⟩:=ih d (by omega) (by omega)
   exact ⟨p,hp,Nat.dvd_trans hpd hd1⟩
def prodL:List Nat→Nat
 | []=>1
 | q :: qs=>q*prodL qs
theorem prm_mem {p:Nat} (hp:Prm p):∀ (qs:List Nat),(∀ q ∈ qs,Prm q)→p ∣ prodL qs→p ∈ qs
 | [],_,h=>by
  have:=Nat.le_of_dvd (by decide) h
  have:=hp.two
  simp [prodL] at *
  omega
 | q :: qs,hq,h=>by
  rcases prm_dvd_mul hp h with h1 | h1
  ·rcases (hq q (by simp)).only p h1 with h2 | h2
   ·have:=hp.two
    omega
   ·simp [h2]
  ·have:=prm_mem hp qs (fun q hq'=>hq q (by simp [hq'])) h1
   simp [this]
theorem pigeon:∀ (n:Nat) (f:Nat→Nat),(∀ i,i<n→f i<n)→(∀ i j,i<n→j<n→f i=f j→i=j)→∀ v,v<n→∃ i,i<n∧f i=v
 | 0,_,_,_,v,hv=>by omega
 | n+1,f,hr,hi,v,hv=>by
  have hc:=hr n (by omega)
  have ih:=pigeon n (fun i=>if f i=n then f n else f i) (fun i h=>by
   have h1:=hr i (by omega)
   show (if f i=n then f n else f i)<n
   split
   ·have:f n≠n:=fun e=>by have:=hi i n (by omega) (by omega) (by omega);omega
    omega
   ·omega) (fun i j h1 h2 e=>by
   have e':(if f i=n then f n else f i)=(if f j=n then f n else f j):=e
   split at e' <;> split at e'
   ·exact hi i j (by omega) (by omega) (by omega)
   ·have:=hi n j (by omega) (by omega) e';omega
   ·have:=hi i n (by omega) (by omega) e';omega
   ·exact hi i j (by omega) (by omega) e')
  by_cases h1:v=f n
  ·exact ⟨n,by omega,h1.symm⟩
  ·by_cases h2:v=n
   ·obtain ⟨i,hin,he⟩:=ih (f n) (by omega)
    have he':(if f i=n then f n else f i)=f n:=he
    split at he'
    ·exact ⟨i,by omega,by omega⟩
    ·have:=hi i n (by omega) (by omega) he'
     omega
   ·obtain ⟨i,hin,he⟩:=ih v (by omega)
    have he':(if f i=n then f n else f i)=v:=he
    split at he'
    ·exact absurd he'.symm h1
    ·exact ⟨i,by omega,he'⟩
theorem pow_one_mod {m x:Nat} (hm:1<m) (h:x % m=1) (k:Nat):x ^ k % m=1:=by
 rw [Nat.pow_mod,h,Nat.one_pow,Nat.mod_eq_of_lt hm]
theorem order_full {m g:Nat} {qs:List Nat} (hm:2<m) (hN:m-1=prodL qs) (hq:∀ q ∈ qs,Prm q) (h1:g ^ (m-1) % m=1) (h2:∀ q ∈ qs,g ^ ((m-1) / q) % m≠1) (d:Nat):0<d→d<m-1→g ^ d % m≠1:=by
 induction d using Nat.strongRecOn with
 | ind d ih =>
  intro h0 hd he
  by_cases hr:(m-1) % d=0
  ·obtain ⟨k,hk⟩:=Nat.dvd_of_mod_eq_zero hr
   have hk2:2≤k:=by
    rcases k with _ | _ | k
    ·omega
    ·omega
    ·omega
   obtain ⟨p,hp,hpk⟩:=prm_factor k hk2
   obtain ⟨j,hj⟩:=hpk
   have hmem:=prm_mem hp qs hq (hN ▸ ⟨d*j,by rw [hk,hj,Nat.mul_left_comm]⟩)
   refine h2 p hmem ?_
   have e:(m-1) / p=d*j:=by
    rw [hk,hj,Nat.mul_left_comm,Nat.mul_div_cancel_left _ (by have:=hp.two;omega)]
   rw [e,Nat.pow_mul]
   exact pow_one_mod (by omega) he j
  ·have hlt:=Nat.mod_lt (m-1) h0
   refine ih ((m-1) % d) hlt (by omega) (by omega) ?_
   have e:g ^ (m-1)=(g ^ d) ^ ((m-1) / d)*g ^ ((m-1) % d):=by
    rw [← Nat.pow_mul,← Nat.pow_add,Nat.div_add_mod]
   rw [e,Nat.mul_mod,pow_one_mod (by omega) he,Nat.one_mul,Nat.mod_mod] at h1
   exact h1
theorem lucas {m g:Nat} {qs:List Nat} (hm:2<m) (hN:m-1=prodL qs) (hq:∀ q ∈ qs,Prm q) (h1:g ^ (m-1) % m=1) (h2:∀ q ∈ qs,g ^ ((m-1) / q) % m≠1) :
  (∀ a,¬ m ∣ a→a ^ (m-1) % m=1)∧Prm m:=by
 have ord:=order_full hm hN hq h1 h2
 have unit:∀ i,i<m-1→g ^ i % m≠0:=by
  intro i hi h0
  have e:g ^ (m-1)=g ^ i*g ^ (m-1-i):=by rw [← Nat.pow_add];congr 1;omega
  rw [e,Nat.mul_mod,h0,Nat.zero_mul,Nat.zero_mod] at h1
  omega
 have inj:∀ i j,i<j→j<m-1→g ^ i % m=g ^ j % m→False:=by
  intro i j hij hj he
  refine ord (j-i) (by omega) (by omega) ?_
  have e1:g ^ (m-1)=g ^ i*g ^ (m-1-i):=by rw [← Nat.pow_add];congr 1;omega
  have e2:g ^ (m-1)*g ^ (j-i)=g ^ j*g ^ (m-1-i):=by rw [← Nat.pow_add,← Nat.pow_add];congr 1;omega
  have e3:g ^ (m-1)*g ^ (j-i) % m=g ^ (m-1) % m:=by
   rw [e2,e1,Nat.mul_mod,← he,← Nat.mul_mod]
  rw [Nat.mul_mod,h1,Nat.one_mul,Nat.mod_mod] at e3
  exact e3
 have surj:=pigeon (m-1) (fun i=>g ^ i % m-1) (fun i hi=>by
   have h3:=unit i hi
   have h4:=Nat.mod_lt (g ^ i) (show 0<m by omega)
   show g ^ i % m-1<m-1
   omega) (fun i j hi hj e=>by
   have h3:=unit i hi
   have h4:=unit j hj
   have e':g ^ i % m-1=g ^ j % m-1:=e
   have e2:g ^ i % m=g ^ j % m:=by omega
   rcases Nat.lt_trichotomy i j with h | h | h
   ·exact (inj i j h hj e2).elim
   ·exact h
   ·exact (inj j i h hi e2.symm).elim)
 have fermat:∀ a,¬ m ∣ a→a ^ (m-1) % m=1:=by
  intro a ha
  have h3:a % m≠0:=fun e=>ha (Nat.dvd_of_mod_eq_zero e)
  have h4:=Nat.mod_lt a (show 0<m by omega)
  obtain ⟨i,hi,he⟩:=surj (a % m-1) (by omega)
  have he':g ^ i % m-1=a % m-1:=he
  have h5:=unit i hi
  have e:a % m=g ^ i % m:=by omega
  rw [Nat.pow_mod,e,← Nat.pow_mod,← Nat.pow_mul,Nat.mul_comm,Nat.pow_mul]
  exact pow_one_mod (by omega) h1 i
 refine ⟨fermat,by omega,fun d hd=>?_⟩
 have hle:=Nat.le_of_dvd (by omega) hd
 by_cases h3:d=m
 ·exact Or.inr h3
 ·refine Or.inl ?_
  have h0:d≠0:=fun e=>by rw [e] at hd;have:=Nat.eq_zero_of_zero_dvd hd;omega
  have h4:=fermat d (fun h=>by have:=Nat.le_of_dvd (by omega) h;omega)
  have h5:d ∣ d ^ (m-1):=⟨d ^ (m-2),by rw [← Nat.pow_succ'];congr 1;omega⟩
  have h6:d ∣ d ^ (m-1) % m:=(Nat.dvd_mod_iff hd).2 h5
  rw [h4] at h6
  exact Nat.dvd_one.1 h6
def pm:Nat→Nat→Nat→Nat→Nat
 | 0,_,_,m=>1 % m
 | n+1,b,e,m=>if e % 2=1 then b*pm n (b*b % m) (e / 2) m % m else pm n (b*b % m) (e / 2) m
theorem pm_eq:∀ (n b e m:Nat),e<2 ^ n→pm n b e m=b ^ e % m
 | 0,b,e,m,h=>by
  have:e=0:=by simpa using h
  subst this
  simp [pm]
 | n+1,b,e,m,h=>by
  have ih:=pm_eq n (b*b % m) (e / 2) m (by rw [Nat.pow_succ] at h;omega)
  have e1:(b*b % m) ^ (e / 2) % m=b ^ (2*(e / 2)) % m:=by
   rw [← Nat.pow_mod,Nat.pow_mul,Nat.pow_two]
  unfold pm
  rw [ih,e1]
  split
  ·rw [Nat.mul_mod,Nat.mod_mod,← Nat.mul_mod,← Nat.pow_succ']
   congr 2
   omega
  ·congr 2
   omega
def rec1 (m g:Nat) (qs:List Nat):Bool :=
 decide (2<m) && decide (m-1<2 ^ 256) && (m-1 == prodL qs) && (pm 256 g (m-1) m == 1) && qs.all fun q=>pm 256 g ((m-1) / q) m != 1
structure Full (m:Nat):Prop where
 fermat:∀ a,¬ m ∣ a→a ^ (m-1) % m=1
 prm:Prm m
theorem lucas_rec {m:Nat} (g:Nat) (qs:List Nat) (h:rec1 m g qs=true) (hq:∀ q ∈ qs,Prm q):Full m:=by
 unfold rec1 at h
 simp only [Bool.and_eq_true,decide_eq_true_eq,beq_iff_eq,List.all_eq_true,bne_iff_ne] at h
 obtain ⟨⟨⟨⟨a1,a2⟩,a3⟩,a4⟩,a5⟩:=h
 have key:=lucas (g:=g) a1 a3 hq ?_ (fun q hm=>?_)
 ·exact ⟨key.1,key.2⟩
 ·rw [← pm_eq 256 g (m-1) m a2];exact a4
 ·rw [← pm_eq 256 g ((m-1) / q) m (Nat.lt_of_le_of_lt (Nat.div_le_self _ _) a2)];exact a5 q hm
def small (p:Nat):Bool:=decide (2≤p) && (List.range p).all fun d=>decide (d<2) || decide (p % d≠0)
theorem prm_small {p:Nat} (h:small p=true):Prm p:=by
 unfold small at h
 simp only [Bool.and_eq_true,decide_eq_true_eq,List.all_eq_true,List.mem_range,Bool.or_eq_true] at h
 refine ⟨h.1,fun d hd=>?_⟩
 have hle:=Nat.le_of_dvd (by omega) hd
 by_cases e:d=p
 ·exact Or.inr e
 ·rcases h.2 d (by omega) with h1 | h1
  ·have h0:d≠0:=fun e=>by rw [e] at hd;have:=Nat.eq_zero_of_zero_dvd hd;omega
   exact Or.inl (by omega)
  ·exact absurd (Nat.mod_eq_zero_of_dvd hd) h1
end Go.Proofs.YtmigakanbeckpaaGreatDoor
namespace Go.Proofs.YtmigakanbeckpaaGreatDoor
set_option maxRecDepth 100000
structure Mo:Type where
 c:Int
 i:Nat
 j:Nat
 k:Nat
 l:Nat
def Mo.chi (x:Nat→Int) (m:Mo):Int:=x 0 ^ m.i*(x 1 ^ m.j*(x 2 ^ m.k*x 3 ^ m.l))
def sv (x:Nat→Int):List Mo→Int
 | []=>0
 | m :: g=>m.c*m.chi x+sv x g
def sa:List Mo→Nat
 | []=>0
 | m :: g=>m.c.natAbs+sa g
def Mo.mul (m n:Mo):Mo:=⟨m.c*n.c,m.i+n.i,m.j+n.j,m.k+n.k,m.l+n.l⟩
def mulM (m:Mo):List Mo→List Mo
 | []=>[]
 | n :: g=>m.mul n :: mulM m g
def mulL:List Mo→List Mo→List Mo
 | [],_=>[]
 | m :: g,h=>mulM m h++mulL g h
def negL:List Mo→List Mo
 | []=>[]
 | m :: g=>⟨- m.c,m.i,m.j,m.k,m.l⟩ :: negL g
def Dg (a b c:Nat) (g:List Mo):Prop:=∀ m ∈ g,m.i≤a∧m.j≤b∧m.k≤c
theorem chi_mul (x:Nat→Int) (m n:Mo):(m.mul n).chi x=m.chi x*n.chi x:=by
 simp only [Mo.chi,Mo.mul,Int.pow_add]
 grind
theorem sv_append (x:Nat→Int):∀ g h:List Mo,sv x (g++h)=sv x g+sv x h
 | [],h=>by simp [sv]
 | m :: g,h=>by simp only [List.cons_append,sv,sv_append x g h];omega
theorem sv_mulM (x:Nat→Int) (m:Mo):∀ g:List Mo,sv x (mulM m g)=m.c*m.chi x*sv x g
 | []=>by simp [sv,mulM]
 | n :: g=>by
  simp only [mulM,sv,sv_mulM x m g,chi_mul]
  simp only [Mo.mul]
  grind
theorem sv_mulL (x:Nat→Int):∀ g h:List Mo,sv x (mulL g h)=sv x g*sv x h
 | [],h=>by simp [sv,mulL]
 | m :: g,h=>by simp only [mulL,sv,sv_append,sv_mulM,sv_mulL x g h,Int.add_mul]
theorem sv_negL (x:Nat→Int):∀ g:List Mo,sv x (negL g)=- sv x g
 | []=>by simp [sv,negL]
 | m :: g=>by
  simp only [negL,sv,sv_negL x g,Int.neg_mul,Int.neg_add]
  rfl
theorem sa_append:∀ g h:List Mo,sa (g++h)=sa g+sa h
 | [],h=>by simp [sa]
 | m :: g,h=>by simp only [List.cons_append,sa,sa_append g h];omega
theorem sa_mulM (m:Mo):∀ g:List Mo,sa (mulM m g)=m.c.natAbs*sa g
 | []=>by simp [sa,mulM]
 | n :: g=>by simp only [mulM,sa,sa_mulM m g,Mo.mul,Int.natAbs_mul,Nat.mul_add]
theorem sa_mulL:∀ g h:List Mo,sa (mulL g h)=sa g*sa h
 | [],h=>by simp [sa,mulL]
 | m :: g,h=>by simp only [mulL,sa,sa_append,sa_mulM,sa_mulL g h,Nat.add_mul]
theorem sa_negL:∀ g:List Mo,sa (negL g)=sa g
 | []=>by simp [sa,negL]
 | m :: g=>by simp only [negL,sa,sa_negL g,Int.natAbs_neg]
theorem sv_none (x:Nat→Int):∀ g:List Mo,sa g=0→sv x g=0
 | [],_=>rfl
 | m :: g,h=>by
  simp only [sa] at h
  have e:m.c=0:=by omega
  rw [sv,e,sv_none x g (by omega)]
  simp
theorem Dg.append {a b c a' b' c':Nat} {g h:List Mo} (h1:Dg a b c g) (h2:Dg a' b' c' h):Dg (max a a') (max b b') (max c c') (g++h):=by
 intro m hm
 rcases List.mem_append.1 hm with h | h
 ·have:=h1 m h;omega
 ·have:=h2 m h;omega
theorem mem_mulM {m q:Mo}:∀ {g:List Mo},q ∈ mulM m g→∃ n ∈ g,q=m.mul n
 | n :: g,h=>by
  rcases List.mem_cons.1 h with h | h
  ·exact ⟨n,by simp,h⟩
  ·obtain ⟨n',h1,h2⟩:=mem_mulM h
   exact ⟨n',by simp [h1],h2⟩
theorem mem_mulL {q:Mo}:∀ {g h:List Mo},q ∈ mulL g h→∃ m ∈ g,∃ n ∈ h,q=m.mul n
 | m :: g,h,hq=>by
  rcases List.mem_append.1 hq with h1 | h1
  ·obtain ⟨n,h2,h3⟩:=mem_mulM h1
   exact ⟨m,by simp,n,h2,h3⟩
  ·obtain ⟨m',h2,n,h3,h4⟩:=mem_mulL h1
   exact ⟨m',by simp [h2],n,h3,h4⟩
theorem Dg.mul {a b c a' b' c':Nat} {g h:List Mo} (h1:Dg a b c g) (h2:Dg a' b' c' h):Dg (a+a') (b+b') (c+c') (mulL g h):=by
 intro q hq
 obtain ⟨m,hm,n,hn,rfl⟩:=mem_mulL hq
 have:=h1 m hm
 have:=h2 n hn
 simp only [Mo.mul]
 omega
theorem mem_negL {q:Mo}:∀ {g:List Mo},q ∈ negL g→∃ m ∈ g,q.i=m.i∧q.j=m.j∧q.k=m.k
 | m :: g,h=>by
  rcases List.mem_cons.1 h with h | h
  ·exact ⟨m,by simp,by simp [h]⟩
  ·obtain ⟨n,h1,h2⟩:=mem_negL h
   exact ⟨n,by simp [h1],h2⟩
theorem Dg.neg {a b c:Nat} {g:List Mo} (h1:Dg a b c g):Dg a b c (negL g):=by
 intro q hq
 obtain ⟨m,hm,e1,e2,e3⟩:=mem_negL hq
 have:=h1 m hm
 omega
/-! One variable: numbers that are all less than the base are told by the value. -/
def s1 (F:Nat→Int):List (Int × Nat)→Int
 | []=>0
 | m :: g=>m.1*F m.2+s1 F g
def a1:List (Int × Nat)→Nat
 | []=>0
 | m :: g=>m.1.natAbs+a1 g
def low:List (Int × Nat)→Int
 | []=>0
 | (c,0) :: g=>c+low g
 | (_,_+1) :: g=>low g
def high:List (Int × Nat)→List (Int × Nat)
 | []=>[]
 | (_,0) :: g=>high g
 | (c,n+1) :: g=>(c,n) :: high g
theorem s1_split (F:Nat→Int):∀ g,s1 F g=low g*F 0+s1 (fun n=>F (n+1)) (high g)
 | []=>by simp [s1,low,high]
 | (c,0) :: g=>by simp only [s1,low,high,s1_split F g,Int.add_mul];omega
 | (c,n+1) :: g=>by simp only [s1,low,high,s1_split F g];omega
theorem low_le:∀ g,(low g).natAbs≤a1 g
 | []=>by simp [low,a1]
 | (c,0) :: g=>by have:=low_le g;simp only [low,a1];omega
 | (c,n+1) :: g=>by have:=low_le g;simp only [low,a1];omega
theorem high_le:∀ g,a1 (high g)≤a1 g
 | []=>by simp [high,a1]
 | (c,0) :: g=>by have:=high_le g;simp only [high,a1];omega
 | (c,n+1) :: g=>by have:=high_le g;simp only [high,a1];omega
theorem high_lt (K:Nat):∀ g,(∀ m ∈ g,m.2<K+1)→∀ m ∈ high g,m.2<K
 | [],_,m,h=>by simp [high] at h
 | (c,0) :: g,hg,m,h=>high_lt K g (fun m hm=>hg m (by simp [hm])) m (by simpa [high] using h)
 | (c,n+1) :: g,hg,m,h=>by
  rcases (by simpa [high] using h:m=(c,n)∨m ∈ high g) with h | h
  ·have:=hg (c,n+1) (by simp)
   rw [h]
   simpa using this
  ·exact high_lt K g (fun m hm=>hg m (by simp [hm])) m h
theorem s1_scale (B:Int) (F:Nat→Int):∀ g,s1 (fun n=>B*F n) g=B*s1 F g
 | []=>by simp [s1]
 | (c,n) :: g=>by simp only [s1,s1_scale B F g];grind
theorem tell (B:Int) (K:Nat):∀ (g:List (Int × Nat)) (F:Nat→Int),(∀ m ∈ g,m.2<K)→(a1 g:Int)<B→s1 (fun n=>B ^ n) g=0→s1 F g=0:=by
 induction K with
 | zero =>
  intro g F hg _ _
  match g with
  | []=>simp [s1]
  | m :: g=>exact absurd (hg m (by simp)) (by omega)
 | succ K ih =>
  intro g F hg hB h0
  have e:=s1_split (fun n=>B ^ n) g
  have e2:s1 (fun n=>B ^ (n+1)) (high g)=B*s1 (fun n=>B ^ n) (high g):=by
   rw [← s1_scale]
   congr 1
   funext n
   rw [Int.pow_succ,Int.mul_comm]
  rw [h0,e2] at e
  simp only [Int.pow_zero,Int.mul_one] at e
  have h1:=low_le g
  have h2:=high_le g
  have hl:low g=0:=by
   have hd:B ∣ low g:=⟨- s1 (fun n=>B ^ n) (high g),by rw [Int.mul_neg];omega⟩
   exact Int.eq_zero_of_dvd_of_natAbs_lt_natAbs hd (by omega)
  have hp:0<B:=by omega
  have hh:s1 (fun n=>B ^ n) (high g)=0:=by
   have:B*s1 (fun n=>B ^ n) (high g)=0:=by omega
   rcases Int.mul_eq_zero.1 this with h | h
   ·omega
   ·exact h
  rw [s1_split F g,hl,ih (high g) (fun n=>F (n+1)) (high_lt K g hg) (by omega) hh]
  simp
/-! Four variables as one: the powers as the places of a number. -/
structure Sz:Type where
 a:Nat
 b:Nat
 c:Nat
 e:Nat
def Sz.code (z:Sz) (m:Mo):Nat:=m.i+z.a*(m.j+z.b*(m.k+z.c*m.l))
def two2 (n:Nat):Int:=Int.ofNat (2 ^ n)
theorem two_mul (a b:Nat):two2 (a*b)=two2 a ^ b:=by
 show ((2 ^ (a*b):Nat):Int)=((2 ^ a:Nat):Int) ^ b
 rw [Nat.pow_mul,Int.natCast_pow (2 ^ a) b]
def Sz.base (z:Sz):Int:=two2 z.e
def Sz.at (z:Sz):Nat→Int
 | 0=>two2 z.e
 | 1=>two2 (z.e*z.a)
 | 2=>two2 (z.e*(z.a*z.b))
 | _=>two2 (z.e*(z.a*z.b*z.c))
theorem chi_at (z:Sz) (m:Mo):m.chi z.at=z.base ^ z.code m:=by
 simp only [Mo.chi,Sz.at,Sz.code,Sz.base,two_mul z.e,← Int.pow_mul,← Int.pow_add]
 congr 1
 grind
def Sz.back (z:Sz) (x:Nat→Int) (n:Nat):Int:=x 0 ^ (n % z.a)*(x 1 ^ (n / z.a % z.b)*(x 2 ^ (n / z.a / z.b % z.c)*x 3 ^ (n / z.a / z.b / z.c)))
theorem back_code (z:Sz) (x:Nat→Int) (m:Mo) (h:m.i<z.a∧m.j<z.b∧m.k<z.c):z.back x (z.code m)=m.chi x:=by
 have e1:z.code m / z.a=m.j+z.b*(m.k+z.c*m.l):=by
  rw [Sz.code,Nat.add_mul_div_left _ _ (by omega),Nat.div_eq_of_lt h.1,Nat.zero_add]
 have e2:(m.j+z.b*(m.k+z.c*m.l)) / z.b=m.k+z.c*m.l:=by
  rw [Nat.add_mul_div_left _ _ (by omega),Nat.div_eq_of_lt h.2.1,Nat.zero_add]
 have e3:(m.k+z.c*m.l) / z.c=m.l:=by
  rw [Nat.add_mul_div_left _ _ (by omega),Nat.div_eq_of_lt h.2.2,Nat.zero_add]
 rw [Sz.back,e1,e2,e3]
 rw [Sz.code,Nat.add_mul_mod_self_left,Nat.mod_eq_of_lt h.1,Nat.add_mul_mod_self_left,Nat.mod_eq_of_lt h.2.1,Nat.add_mul_mod_self_left,Nat.mod_eq_of_lt h.2.2]
 rfl
def flat (z:Sz):List Mo→List (Int × Nat)
 | []=>[]
 | m :: g=>(m.c,z.code m) :: flat z g
theorem flat_at (z:Sz):∀ g,s1 (fun n=>z.base ^ n) (flat z g)=sv z.at g
 | []=>rfl
 | m :: g=>by simp only [flat,s1,sv,flat_at z g,chi_at]
theorem flat_back (z:Sz) (x:Nat→Int):∀ g,(∀ m ∈ g,m.i<z.a∧m.j<z.b∧m.k<z.c)→s1 (z.back x) (flat z g)=sv x g
 | [],_=>rfl
 | m :: g,h=>by
  simp only [flat,s1,sv,flat_back z x g (fun m hm=>h m (by simp [hm])),back_code z x m (h m (by simp))]
theorem flat_a (z:Sz):∀ g,a1 (flat z g)=sa g
 | []=>rfl
 | m :: g=>by simp only [flat,a1,sa,flat_a z g]
theorem bound:∀ g:List (Int × Nat),∃ K,∀ m ∈ g,m.2<K
 | []=>⟨0,by simp⟩
 | m :: g=>by
  obtain ⟨K,h⟩:=bound g
  refine ⟨max (m.2+1) K,fun n hn=>?_⟩
  rcases List.mem_cons.1 hn with e | e
  ·rw [e];omega
  ·have:=h n e;omega
theorem all_zero (z:Sz) (g:List Mo) (h0:sv z.at g=0) (hd:∀ m ∈ g,m.i<z.a∧m.j<z.b∧m.k<z.c) (hn:(sa g:Int)<z.base) (x:Nat→Int):sv x g=0:=by
 obtain ⟨K,hK⟩:=bound (flat z g)
 rw [← flat_back z x g hd]
 exact tell z.base K (flat z g) (z.back x) hK (by rw [flat_a];exact hn) (by rw [flat_at];exact h0)
/-! The codes of such sums, and what is reckoned with them. -/
structure Cd:Type where
 v:Int
 n:Nat
 a:Nat
 b:Nat
 c:Nat
def frcN {β:Type} (n:Nat) (k:Nat→β):β:=Nat.rec (k 0) (fun m _=>k (m+1)) n
def frcI {β:Type} (n:Int) (k:Int→β):β:=match n with
 | .ofNat m=>frcN m fun m=>k (.ofNat m)
 | .negSucc m=>frcN m fun m=>k (.negSucc m)
theorem frcN_eq {β:Type} (n:Nat) (k:Nat→β):frcN n k=k n:=by cases n <;> rfl
theorem frcI_eq {β:Type} (n:Int) (k:Int→β):frcI n k=k n:=by cases n <;> simp only [frcI,frcN_eq]
def Cd.mk' (v:Int) (n a b c:Nat):Cd:=frcI v fun v=>frcN n fun n=>frcN a fun a=>frcN b fun b=>frcN c fun c=>⟨v,n,a,b,c⟩
theorem Cd.mk'_eq (v:Int) (n a b c:Nat):Cd.mk' v n a b c=⟨v,n,a,b,c⟩:=by simp only [Cd.mk',frcI_eq,frcN_eq]
structure Op (α:Type):Type 1 where
 num:Int→α
 add:α→α→α
 sub:α→α→α
 mul:α→α→α
 frc:{β:Type}→α→(α→β)→β
 nil:α→Bool
structure Ok {α:Type} (p:Int) (R:Int→α→Prop) (o:Op α):Prop where
 num:∀ n,R n (o.num n)
 add:∀ {a b s t},R a s→R b t→R (a+b) (o.add s t)
 sub:∀ {a b s t},R a s→R b t→R (a-b) (o.sub s t)
 mul:∀ {a b s t},R a s→R b t→R (a*b) (o.mul s t)
 same:∀ {a b s},a % p=b % p→R a s→R b s
 frc:∀ {β:Type} (s:α) (k:α→β),o.frc s k=k s
 nil:∀ {a s},o.nil s=true→R a s→a % p=0
def cdOp (z:Sz):Op Cd where
 num n:=Cd.mk' n n.natAbs 0 0 0
 add s t:=Cd.mk' (s.v+t.v) (s.n+t.n) (max s.a t.a) (max s.b t.b) (max s.c t.c)
 sub s t:=Cd.mk' (s.v-t.v) (s.n+t.n) (max s.a t.a) (max s.b t.b) (max s.c t.c)
 mul s t:=match s.n with
  | 0=>⟨0,0,0,0,0⟩
  | _+1=>match t.n with
   | 0=>⟨0,0,0,0,0⟩
   | _+1=>Cd.mk' (s.v*t.v) (s.n*t.n) (s.a+t.a) (s.b+t.b) (s.c+t.c)
 frc s k:=match s with
  | ⟨v,n,a,b,c⟩=>k ⟨v,n,a,b,c⟩
 nil s:=(s.v == 0) && decide ((s.n:Int)<z.base) && decide (s.a<z.a) && decide (s.b<z.b) && decide (s.c<z.c)
def Rc (p:Int) (z:Sz) (x:Nat→Int) (v:Int) (t:Cd):Prop:=∃ g:List Mo,Dg t.a t.b t.c g∧sa g≤t.n∧sv z.at g=t.v∧v % p=sv x g % p
theorem ok_cd (p:Int) (z:Sz) (x:Nat→Int):Ok p (Rc p z x) (cdOp z) where
 num n:=⟨[⟨n,0,0,0,0⟩],by intro m hm;simp [cdOp,Cd.mk'_eq] at *;simp [hm],by simp [cdOp,Cd.mk'_eq,sa],by simp [cdOp,Cd.mk'_eq,sv,Mo.chi],by simp [sv,Mo.chi]⟩
 add:=by
  rintro a b s t ⟨g,g1,g2,g3,g4⟩ ⟨h,h1,h2,h3,h4⟩
  refine ⟨g++h,?_,?_,?_,?_⟩
  ·simp only [cdOp,Cd.mk'_eq];exact g1.append h1
  ·simp only [cdOp,Cd.mk'_eq,sa_append];omega
  ·simp only [cdOp,Cd.mk'_eq,sv_append];omega
  ·rw [sv_append,Int.add_emod,g4,h4,← Int.add_emod]
 sub:=by
  rintro a b s t ⟨g,g1,g2,g3,g4⟩ ⟨h,h1,h2,h3,h4⟩
  refine ⟨g++negL h,?_,?_,?_,?_⟩
  ·simp only [cdOp,Cd.mk'_eq];exact g1.append h1.neg
  ·simp only [cdOp,Cd.mk'_eq,sa_append,sa_negL];omega
  ·simp only [cdOp,Cd.mk'_eq,sv_append,sv_negL];omega
  ·rw [sv_append,sv_negL,← Int.sub_eq_add_neg,Int.sub_emod,g4,h4,← Int.sub_emod]
 mul:=by
  rintro a b s t ⟨g,g1,g2,g3,g4⟩ ⟨h,h1,h2,h3,h4⟩
  have none:∀ v,v % p=0→Rc p z x v ⟨0,0,0,0,0⟩:=fun v e=>⟨[],by intro m hm;simp at hm,by simp [sa],by simp [sv],by simp [sv,e]⟩
  simp only [cdOp]
  split
  ·rename_i e
   refine none _ ?_
   rw [Int.mul_emod,g4,sv_none x g (by omega)]
   simp
  ·split
   ·rename_i e
    refine none _ ?_
    rw [Int.mul_emod,h4,sv_none x h (by omega)]
    simp
   ·refine ⟨mulL g h,?_,?_,?_,?_⟩
    ·simp only [Cd.mk'_eq];exact g1.mul h1
    ·simp only [Cd.mk'_eq,sa_mulL];exact Nat.mul_le_mul g2 h2
    ·simp only [Cd.mk'_eq,sv_mulL,g3,h3]
    ·rw [sv_mulL,Int.mul_emod,g4,h4,← Int.mul_emod]
 same:=by
  rintro a b s e ⟨g,g1,g2,g3,g4⟩
  exact ⟨g,g1,g2,g3,e ▸ g4⟩
 frc s k:=by cases s;rfl
 nil:=by
  rintro a s e ⟨g,g1,g2,g3,g4⟩
  simp only [cdOp,Bool.and_eq_true,beq_iff_eq,decide_eq_true_eq] at e
  have key:=all_zero z g (by omega) (fun m hm=>by have:=g1 m hm;omega) (by omega) x
  rw [g4,key,Int.zero_emod]
theorem pow1 (a:Int):a ^ 1=a:=by rw [Int.pow_succ,Int.pow_zero,Int.one_mul]
def Sz.var (z:Sz):Nat→Cd
 | 0=>Cd.mk' (z.at 0) 1 1 0 0
 | 1=>Cd.mk' (z.at 1) 1 0 1 0
 | 2=>Cd.mk' (z.at 2) 1 0 0 1
 | _=>Cd.mk' (z.at 3) 1 0 0 0
theorem rc_var (p:Int) (z:Sz) (x:Nat→Int) {n:Nat} (h:n<4):Rc p z x (x n) (z.var n):=by
 rcases n with _ | _ | _ | _ | n
 ·exact ⟨[⟨1,1,0,0,0⟩],by intro m hm;simp [Sz.var,Cd.mk'_eq] at *;simp [hm],by simp [Sz.var,Cd.mk'_eq,sa],by simp [Sz.var,Cd.mk'_eq,sv,Mo.chi,pow1],by simp [sv,Mo.chi,pow1]⟩
 ·exact ⟨[⟨1,0,1,0,0⟩],by intro m hm;simp [Sz.var,Cd.mk'_eq] at *;simp [hm],by simp [Sz.var,Cd.mk'_eq,sa],by simp [Sz.var,Cd.mk'_eq,sv,Mo.chi,pow1],by simp [sv,Mo.chi,pow1]⟩
 ·exact ⟨[⟨1,0,0,1,0⟩],by intro m hm;simp [Sz.var,Cd.mk'_eq] at *;simp [hm],by simp [Sz.var,Cd.mk'_eq,sa],by simp [Sz.var,Cd.mk'_eq,sv,Mo.chi,pow1],by simp [sv,Mo.chi,pow1]⟩
 ·exact ⟨[⟨1,0,0,0,1⟩],by intro m hm;simp [Sz.var,Cd.mk'_eq] at *;simp [hm],by simp [Sz.var,Cd.mk'_eq,sa],by simp [Sz.var,Cd.mk'_eq,sv,Mo.chi,pow1],by simp [sv,Mo.chi,pow1]⟩
 ·omega
/-! One number more, whose square is told. -/
structure Pr (α:Type):Type where
 a:α
 b:α
def upOp {α:Type} (o:Op α) (q:α):Op (Pr α) where
 num n:=⟨o.num n,o.num 0⟩
 add s t:=o.frc (o.add s.a t.a) fun u=>o.frc (o.add s.b t.b) fun v=>⟨u,v⟩
 sub s t:=o.frc (o.sub s.a t.a) fun u=>o.frc (o.sub s.b t.b) fun v=>⟨u,v⟩
 mul s t:=o.frc (o.add (o.mul s.a t.a) (o.mul q (o.mul s.b t.b))) fun u=>o.frc (o.add (o.mul s.a t.b) (o.mul s.b t.a)) fun v=>⟨u,v⟩
 frc s k:=match s with
  | ⟨u,v⟩=>o.frc u fun u=>o.frc v fun v=>k ⟨u,v⟩
 nil s:=o.nil s.a && o.nil s.b
def Ru {α:Type} (p:Int) (R:Int→α→Prop) (y:Int) (v:Int) (t:Pr α):Prop:=∃ a b,R a t.a∧R b t.b∧v % p=(a+b*y) % p
theorem ok_up {α:Type} {p:Int} {R:Int→α→Prop} {o:Op α} (h:Ok p R o) {y f:Int} {q:α} (hq:R f q) (hy:y*y % p=f % p):Ok p (Ru p R y) (upOp o q) where
 num n:=⟨n,0,h.num n,h.num 0,by simp⟩
 add:=by
  rintro a b s t ⟨a1,b1,g1,g2,g3⟩ ⟨a2,b2,h1,h2,h3⟩
  refine ⟨a1+a2,b1+b2,?_,?_,?_⟩
  ·simp only [upOp,h.frc];exact h.add g1 h1
  ·simp only [upOp,h.frc];exact h.add g2 h2
  ·rw [Int.add_emod,g3,h3,← Int.add_emod]
   congr 1
   grind
 sub:=by
  rintro a b s t ⟨a1,b1,g1,g2,g3⟩ ⟨a2,b2,h1,h2,h3⟩
  refine ⟨a1-a2,b1-b2,?_,?_,?_⟩
  ·simp only [upOp,h.frc];exact h.sub g1 h1
  ·simp only [upOp,h.frc];exact h.sub g2 h2
  ·rw [Int.sub_emod,g3,h3,← Int.sub_emod]
   congr 1
   grind
 mul:=by
  rintro a b s t ⟨a1,b1,g1,g2,g3⟩ ⟨a2,b2,h1,h2,h3⟩
  refine ⟨a1*a2+f*(b1*b2),a1*b2+b1*a2,?_,?_,?_⟩
  ·simp only [upOp,h.frc];exact h.add (h.mul g1 h1) (h.mul hq (h.mul g2 h2))
  ·simp only [upOp,h.frc];exact h.add (h.mul g1 h2) (h.mul g2 h1)
  ·rw [Int.mul_emod,g3,h3,← Int.mul_emod]
   have e:(a1+b1*y)*(a2+b2*y)=(a1*a2+(a1*b2+b1*a2)*y)+y*y*(b1*b2):=by grind
   have e2:a1*a2+f*(b1*b2)+(a1*b2+b1*a2)*y=(a1*a2+(a1*b2+b1*a2)*y)+f*(b1*b2):=by grind
   rw [e,e2,Int.add_emod,Int.mul_emod (y*y),hy,← Int.mul_emod,← Int.add_emod]
 same:=by
  rintro a b s e ⟨a1,b1,g1,g2,g3⟩
  exact ⟨a1,b1,g1,g2,e ▸ g3⟩
 frc s k:=by cases s;simp only [upOp,h.frc]
 nil:=by
  rintro a s e ⟨a1,b1,g1,g2,g3⟩
  simp only [upOp,Bool.and_eq_true] at e
  have k1:=h.nil e.1 g1
  have k2:=h.nil e.2 g2
  rw [g3,Int.add_emod,Int.mul_emod,k1,k2]
  simp
theorem ru_up {α:Type} {p:Int} {R:Int→α→Prop} {o:Op α} (h:Ok p R o) (y:Int) {v:Int} {t:α} (hv:R v t):Ru p R y v ⟨t,o.num 0⟩:=⟨v,0,hv,h.num 0,by simp⟩
theorem ru_y {α:Type} {p:Int} {R:Int→α→Prop} {o:Op α} (h:Ok p R o) (y:Int):Ru p R y y ⟨o.num 0,o.num 1⟩:=⟨0,1,h.num 0,h.num 1,by simp⟩
def kc {p:Nat} [hp:NeZero p] (n:Int):Fin p:=⟨(n % p).toNat,by
 have:=hp.out
 have h1:=Int.emod_nonneg n (show (p:Int)≠0 by omega)
 have h2:=Int.emod_lt_of_pos n (show (0:Int)<p by omega)
 omega⟩
theorem kc_val {p:Nat} [hp:NeZero p] (n:Int):((kc n:Fin p).val:Int)=n % p:=by
 have:=hp.out
 have h1:=Int.emod_nonneg n (show (p:Int)≠0 by omega)
 simp only [kc]
 omega
theorem fin_int {p:Nat} {a b:Fin p} (h:(a.val:Int)=b.val):a=b:=Fin.ext (by omega)
theorem kc_self {p:Nat} [hp:NeZero p] (a:Fin p):kc (a.val:Int)=a:=by
 apply fin_int
 rw [kc_val]
 have:=a.isLt
 exact Int.emod_eq_of_lt (by omega) (by omega)
theorem kc_add {p:Nat} [hp:NeZero p] (a b:Int):(kc (a+b):Fin p)=kc a+kc b:=by
 apply fin_int
 rw [kc_val,Fin.val_add,Int.natCast_emod,Int.natCast_add,kc_val,kc_val,← Int.add_emod]
theorem kc_mul {p:Nat} [hp:NeZero p] (a b:Int):(kc (a*b):Fin p)=kc a*kc b:=by
 apply fin_int
 rw [kc_val,Fin.val_mul,Int.natCast_emod,Int.natCast_mul,kc_val,kc_val,← Int.mul_emod]
theorem kc_eq {p:Nat} [hp:NeZero p] {a b:Int} (h:a % p=b % p):(kc a:Fin p)=kc b:=fin_int (by rw [kc_val,kc_val,h])
theorem kc_inj {p:Nat} [hp:NeZero p] {a b:Int} (h:(kc a:Fin p)=kc b):a % p=b % p:=by rw [← kc_val,← kc_val,h]
theorem kc_ofNat {p:Nat} [hp:NeZero p] (n:Nat):(kc (n:Int):Fin p)=Fin.ofNat p n:=fin_int (by rw [kc_val];simp [Fin.ofNat])
theorem kc_zero {p:Nat} [hp:NeZero p]:(kc 0:Fin p)=0:=kc_ofNat 0
theorem kc_one {p:Nat} [hp:NeZero p]:(kc 1:Fin p)=1:=kc_ofNat 1
theorem kc_two {p:Nat} [hp:NeZero p]:(kc 2:Fin p)=2:=kc_ofNat 2
theorem kc_three {p:Nat} [hp:NeZero p]:(kc 3:Fin p)=3:=kc_ofNat 3
theorem kc_sub {p:Nat} [hp:NeZero p] (a b:Int):(kc (a-b):Fin p)=kc a-kc b:=by
 have h:=kc_add (p:=p) (a-b) b
 rw [Int.sub_add_cancel] at h
 rw [h]
 grind
theorem kc_nil {p:Nat} [hp:NeZero p] {a:Int}:(kc a:Fin p)=0 ↔ a % p=0:=by
 rw [← kc_zero]
 constructor
 ·intro h;simpa using kc_inj h
 ·intro h;exact kc_eq (by simpa using h)
def finOp (p:Nat) [NeZero p]:Op (Fin p):=⟨fun n=>kc n,fun a b=>a+b,fun a b=>a-b,fun a b=>a*b,fun a k=>k a,fun a=>a == 0⟩
structure Par {α β:Type} (R:α→β→Prop) (o:Op α) (o':Op β):Prop where
 num:∀ n,R (o.num n) (o'.num n)
 add:∀ {a b s t},R a s→R b t→R (o.add a b) (o'.add s t)
 sub:∀ {a b s t},R a s→R b t→R (o.sub a b) (o'.sub s t)
 mul:∀ {a b s t},R a s→R b t→R (o.mul a b) (o'.mul s t)
def Rk {α:Type} (p:Nat) [NeZero p] (R:Int→α→Prop) (v:Fin p) (t:α):Prop:=∃ n:Int,kc n=v∧R n t
theorem par_of {α:Type} {p:Nat} [NeZero p] {R:Int→α→Prop} {o:Op α} (h:Ok p R o):Par (Rk p R) (finOp p) o where
 num n:=⟨n,rfl,h.num n⟩
 add:=by
  rintro a b s t ⟨n,rfl,hn⟩ ⟨m,rfl,hm⟩
  exact ⟨n+m,kc_add n m,h.add hn hm⟩
 sub:=by
  rintro a b s t ⟨n,rfl,hn⟩ ⟨m,rfl,hm⟩
  exact ⟨n-m,kc_sub n m,h.sub hn hm⟩
 mul:=by
  rintro a b s t ⟨n,rfl,hn⟩ ⟨m,rfl,hm⟩
  exact ⟨n*m,kc_mul n m,h.mul hn hm⟩
theorem nil_of {α:Type} {p:Nat} [NeZero p] {R:Int→α→Prop} {o:Op α} (h:Ok p R o) {v:Fin p} {t:α} (e:o.nil t=true) (r:Rk p R v t):v=0:=by
 obtain ⟨n,rfl,hn⟩:=r
 exact kc_nil.2 (h.nil e hn)
structure Tk:Type where
 k:Nat
 i:Nat
 c:Int
def Ex:Type:=List Tk
def Ex.v (i:Nat):Ex:=[(⟨0,i,0⟩:Tk)]
def Ex.n (c:Int):Ex:=[(⟨1,0,c⟩:Tk)]
def Ex.two (k:Nat) (a b:List Tk):Ex:=a++(b++[(⟨k,0,0⟩:Tk)])
def Ex.add (a b:Ex):Ex:=Ex.two 2 a b
def Ex.sub (a b:Ex):Ex:=Ex.two 3 a b
def Ex.mul (a b:Ex):Ex:=Ex.two 4 a b
def nth {α:Type} (d:α):List α→Nat→α
 | [],_=>d
 | a :: _,0=>a
 | _ :: l,i+1=>nth d l i
def Tk.act {α:Type} (o:Op α) (l:List α) (t:Tk) (st:List α):List α:=match t.k,st with
 | 0,st=>nth (o.num 0) l t.i :: st
 | 1,st=>o.num t.c :: st
 | 2,b :: a :: st=>o.add a b :: st
 | 3,b :: a :: st=>o.sub a b :: st
 | 4,b :: a :: st=>o.mul a b :: st
 | _,st=>st
def acts {α:Type} (o:Op α) (l:List α):List Tk→List α→List α
 | [],st=>st
 | t :: r,st=>acts o l r (t.act o l st)
def Ex.ev {α:Type} (o:Op α) (l:List α) (e:Ex):α:=nth (o.num 0) (acts o l e []) 0
def Rl {α β:Type} (R:α→β→Prop):List α→List β→Prop
 | [],[]=>True
 | a :: l,b :: k=>R a b∧Rl R l k
 | _,_=>False
theorem Rl.nil {α β:Type} {R:α→β→Prop}:Rl R [] []:=trivial
theorem Rl.cons {α β:Type} {R:α→β→Prop} {a:α} {b:β} {l:List α} {k:List β} (h:R a b) (t:Rl R l k):Rl R (a :: l) (b :: k):=⟨h,t⟩
theorem Rl.nth {α β:Type} {R:α→β→Prop} {d:α} {d':β} (hd:R d d'):∀ {l:List α} {k:List β},Rl R l k→∀ i,R (Go.Proofs.YtmigakanbeckpaaGreatDoor.nth d l i) (Go.Proofs.YtmigakanbeckpaaGreatDoor.nth d' k i)
 | [],[],_,_=>hd
 | [],_ :: _,h,_=>h.elim
 | _ :: _,[],h,_=>h.elim
 | _ :: _,_ :: _,h,0=>h.1
 | _ :: _,_ :: _,h,i+1=>Rl.nth hd h.2 i
theorem act_par {α β:Type} {R:α→β→Prop} {o:Op α} {o':Op β} (h:Par R o o') {l:List α} {k:List β} (hl:Rl R l k) (t:Tk) {s:List α} {s':List β} (hs:Rl R s s'):Rl R (t.act o l s) (t.act o' k s'):=by
 obtain ⟨n,i,c⟩:=t
 unfold Tk.act
 rcases n with _ | _ | _ | _ | _ | n
 ·exact ⟨hl.nth (h.num 0) i,hs⟩
 ·exact ⟨h.num c,hs⟩
 ·match s,s',hs with
  | [],[],hs=>exact hs
  | [_],[_],hs=>exact hs
  | _ :: _ :: _,_ :: _ :: _,hs=>exact ⟨h.add hs.2.1 hs.1,hs.2.2⟩
 ·match s,s',hs with
  | [],[],hs=>exact hs
  | [_],[_],hs=>exact hs
  | _ :: _ :: _,_ :: _ :: _,hs=>exact ⟨h.sub hs.2.1 hs.1,hs.2.2⟩
 ·match s,s',hs with
  | [],[],hs=>exact hs
  | [_],[_],hs=>exact hs
  | _ :: _ :: _,_ :: _ :: _,hs=>exact ⟨h.mul hs.2.1 hs.1,hs.2.2⟩
 ·exact hs
theorem acts_par {α β:Type} {R:α→β→Prop} {o:Op α} {o':Op β} (h:Par R o o') {l:List α} {k:List β} (hl:Rl R l k):∀ (e:List Tk) {s:List α} {s':List β},Rl R s s'→Rl R (acts o l e s) (acts o' k e s')
 | [],_,_,hs=>hs
 | t :: r,_,_,hs=>acts_par h hl r (act_par h hl t hs)
theorem Ex.par {α β:Type} {R:α→β→Prop} {o:Op α} {o':Op β} (h:Par R o o') {l:List α} {k:List β} (hl:Rl R l k) (e:Ex):R (e.ev o l) (e.ev o' k) :=
 Rl.nth (h.num 0) (acts_par h hl e (s:=[]) (s':=[]) trivial) 0
structure P3 (α:Type):Type where
 x:α
 y:α
 z:α
def wf {α:Type} (o:Op α) (b:α) (P Q:P3 α):P3 α :=
 let xx:=o.mul P.x Q.x
 let yy:=o.mul P.y Q.y
 let zz:=o.mul P.z Q.z
 let xy:=o.add (o.mul P.x Q.y) (o.mul Q.x P.y)
 let xz:=o.add (o.mul P.x Q.z) (o.mul Q.x P.z)
 let yz:=o.add (o.mul P.y Q.z) (o.mul Q.y P.z)
 let u:=o.sub xz (o.mul b zz)
 let u3:=o.add u (o.add u u)
 let t:=o.sub (o.sub (o.mul b xz) xx) (o.add zz (o.add zz zz))
 let t3:=o.add t (o.add t t)
 let m:=o.sub xx zz
 let m3:=o.add m (o.add m m)
 ⟨o.sub (o.mul xy (o.add yy u3)) (o.mul yz t3),o.add (o.mul m3 t3) (o.mul (o.sub yy u3) (o.add yy u3)),o.add (o.mul yz (o.sub yy u3)) (o.mul xy m3)⟩
structure Rp3 {α β:Type} (R:α→β→Prop) (P:P3 α) (Q:P3 β):Prop where
 x:R P.x Q.x
 y:R P.y Q.y
 z:R P.z Q.z
theorem wf_par {α β:Type} {R:α→β→Prop} {o:Op α} {o':Op β} (h:Par R o o') {b:α} {b':β} (hb:R b b') {P Q:P3 α} {P' Q':P3 β} (hP:Rp3 R P P') (hQ:Rp3 R Q Q'):Rp3 R (wf o b P Q) (wf o' b' P' Q'):=by
 have xx:=h.mul hP.x hQ.x
 have yy:=h.mul hP.y hQ.y
 have zz:=h.mul hP.z hQ.z
 have xy:=h.add (h.mul hP.x hQ.y) (h.mul hQ.x hP.y)
 have xz:=h.add (h.mul hP.x hQ.z) (h.mul hQ.x hP.z)
 have yz:=h.add (h.mul hP.y hQ.z) (h.mul hQ.y hP.z)
 have u:=h.sub xz (h.mul hb zz)
 have u3:=h.add u (h.add u u)
 have t:=h.sub (h.sub (h.mul hb xz) xx) (h.add zz (h.add zz zz))
 have t3:=h.add t (h.add t t)
 have m:=h.sub xx zz
 have m3:=h.add m (h.add m m)
 exact ⟨h.sub (h.mul xy (h.add yy u3)) (h.mul yz t3),h.add (h.mul m3 t3) (h.mul (h.sub yy u3) (h.add yy u3)),h.add (h.mul yz (h.sub yy u3)) (h.mul xy m3)⟩
/-! Three points of a curve y y = q(x): their codes. -/
abbrev T8:=Pr (Pr (Pr Cd))
def wz:Sz:=⟨14,14,11,56⟩
def wq (i:Nat):Cd:=(cdOp wz).add ((cdOp wz).sub ((cdOp wz).mul (wz.var i) ((cdOp wz).mul (wz.var i) (wz.var i))) ((cdOp wz).mul ((cdOp wz).num 3) (wz.var i))) (wz.var 3)
def o2:Op (Pr Cd):=upOp (cdOp wz) (wq 0)
def o4:Op (Pr (Pr Cd)):=upOp o2 ⟨wq 1,(cdOp wz).num 0⟩
def o8:Op T8:=upOp o4 ⟨⟨wq 2,(cdOp wz).num 0⟩,o2.num 0⟩
def up8 (t:Cd):T8:=⟨⟨⟨t,(cdOp wz).num 0⟩,o2.num 0⟩,o4.num 0⟩
def l8:List T8:=[up8 (wz.var 0),up8 (wz.var 1),up8 (wz.var 2),up8 (wz.var 3),⟨⟨⟨(cdOp wz).num 0,(cdOp wz).num 1⟩,o2.num 0⟩,o4.num 0⟩,⟨⟨o2.num 0,o2.num 1⟩,o4.num 0⟩,⟨o4.num 0,o4.num 1⟩]
theorem sq_int {p:Nat} [NeZero p] {x y b:Fin p} (h:y*y=x*x*x-3*x+b):(y.val:Int)*y.val % p=(x.val*(x.val*x.val)-3*x.val+b.val:Int) % p:=by
 apply kc_inj
 rw [kc_mul,kc_add,kc_sub,kc_mul,kc_mul,kc_mul,kc_self,kc_self,kc_self,kc_three]
 grind
theorem codes {p:Nat} [NeZero p] {x1 x2 x3 b y1 y2 y3:Fin p} (h1:y1*y1=x1*x1*x1-3*x1+b) (h2:y2*y2=x2*x2*x2-3*x2+b) (h3:y3*y3=x3*x3*x3-3*x3+b) :
  ∃ R:Int→T8→Prop,Ok p R o8∧Rl (Rk p R) [x1,x2,x3,b,y1,y2,y3] l8:=by
 let X:Nat→Int:=fun i=>match i with
  | 0=>x1.val
  | 1=>x2.val
  | 2=>x3.val
  | _=>b.val
 have k0:=ok_cd p wz X
 have v0:Rc p wz X x1.val (wz.var 0):=rc_var p wz X (n:=0) (by omega)
 have v1:Rc p wz X x2.val (wz.var 1):=rc_var p wz X (n:=1) (by omega)
 have v2:Rc p wz X x3.val (wz.var 2):=rc_var p wz X (n:=2) (by omega)
 have v3:Rc p wz X b.val (wz.var 3):=rc_var p wz X (n:=3) (by omega)
 have q0:=k0.add (k0.sub (k0.mul v0 (k0.mul v0 v0)) (k0.mul (k0.num 3) v0)) v3
 have q1:=k0.add (k0.sub (k0.mul v1 (k0.mul v1 v1)) (k0.mul (k0.num 3) v1)) v3
 have q2:=k0.add (k0.sub (k0.mul v2 (k0.mul v2 v2)) (k0.mul (k0.num 3) v2)) v3
 have k2:Ok p _ o2:=ok_up k0 q0 (sq_int h1)
 have k4:Ok p _ o4:=ok_up k2 (ru_up k0 y1.val q1) (sq_int h2)
 have k8:Ok p _ o8:=ok_up k4 (ru_up k2 y2.val (ru_up k0 y1.val q2)) (sq_int h3)
 have w:∀ {v:Int} {t:Cd},Rc p wz X v t→Ru p (Ru p (Ru p (Rc p wz X) y1.val) y2.val) y3.val v (up8 t):=fun h=>ru_up k4 _ (ru_up k2 _ (ru_up k0 _ h))
 refine ⟨_,k8,?_⟩
 exact .cons ⟨_,kc_self _,w v0⟩ (.cons ⟨_,kc_self _,w v1⟩ (.cons ⟨_,kc_self _,w v2⟩ (.cons ⟨_,kc_self _,w v3⟩
  (.cons ⟨_,kc_self _,ru_up k4 _ (ru_up k2 _ (ru_y k0 _))⟩ (.cons ⟨_,kc_self _,ru_up k4 _ (ru_y k2 _)⟩ (.cons ⟨_,kc_self _,ru_y k4 _⟩ .nil))))))
def regs {α:Type} (o:Op α) (x1 x2 x3 b y1 y2 y3:α):List α :=
 let P:P3 α:=⟨x1,y1,o.num 1⟩
 let Q:P3 α:=⟨x2,y2,o.num 1⟩
 let R:P3 α:=⟨x3,y3,o.num 1⟩
 let A:=wf o b P Q
 let L:=wf o b A R
 let M:=wf o b P (wf o b Q R)
 let D:=wf o b P P
 let V:=wf o b P ⟨x1,o.sub (o.num 0) y1,o.num 1⟩
 [x1,x2,x3,b,y1,y2,y3,A.x,A.y,A.z,L.x,L.y,L.z,M.x,M.y,M.z,D.x,D.y,D.z,V.x,V.y,V.z]
theorem regs_par {α β:Type} {R:α→β→Prop} {o:Op α} {o':Op β} (h:Par R o o') {x1 x2 x3 b y1 y2 y3:α} {x1' x2' x3' b' y1' y2' y3':β} (h1:R x1 x1') (h2:R x2 x2') (h3:R x3 x3') (hb:R b b') (k1:R y1 y1') (k2:R y2 y2') (k3:R y3 y3') :
  Rl R (regs o x1 x2 x3 b y1 y2 y3) (regs o' x1' x2' x3' b' y1' y2' y3'):=by
 have P:Rp3 R ⟨x1,y1,o.num 1⟩ ⟨x1',y1',o'.num 1⟩:=⟨h1,k1,h.num 1⟩
 have Q:Rp3 R ⟨x2,y2,o.num 1⟩ ⟨x2',y2',o'.num 1⟩:=⟨h2,k2,h.num 1⟩
 have T:Rp3 R ⟨x3,y3,o.num 1⟩ ⟨x3',y3',o'.num 1⟩:=⟨h3,k3,h.num 1⟩
 have A:=wf_par h hb P Q
 have L:=wf_par h hb A T
 have M:=wf_par h hb P (wf_par h hb Q T)
 have D:=wf_par h hb P P
 have V:=wf_par h hb P (Q:=⟨x1,o.sub (o.num 0) y1,o.num 1⟩) (Q':=⟨x1',o'.sub (o'.num 0) y1',o'.num 1⟩) ⟨h1,h.sub (h.num 0) k1,h.num 1⟩
 exact .cons h1 (.cons h2 (.cons h3 (.cons hb (.cons k1 (.cons k2 (.cons k3 (.cons A.x (.cons A.y (.cons A.z (.cons L.x (.cons L.y (.cons L.z (.cons M.x (.cons M.y (.cons M.z (.cons D.x (.cons D.y (.cons D.z (.cons V.x (.cons V.y (.cons V.z .nil)))))))))))))))))))))
def ex2 (i j k l:Nat):Ex:=.sub (.mul (.v i) (.v j)) (.mul (.v k) (.v l))
def exOn (x y z:Ex):Ex:=.sub (.mul (.mul y y) z) (.add (.sub (.mul (.mul x x) x) (.mul (.n 3) (.mul x (.mul z z)))) (.mul (.v 3) (.mul (.mul z z) z)))
def exE (x x' l d:Ex):Ex:=.sub (.mul l l) (.mul (.add x x') (.mul d d))
def exF (x y x' l d:Ex):Ex:=.sub (.mul l (.sub (.mul x (.mul d d)) (exE x x' l d))) (.mul y (.mul (.mul d d) d))
def exG (e f d:Ex):Ex:=.sub (.mul f f) (.add (.sub (.mul (.mul e e) e) (.mul (.n 3) (.mul e (.mul (.mul d d) (.mul d d))))) (.mul (.v 3) (.mul (.mul d d) (.mul (.mul d d) (.mul d d)))))
def exD (d:Ex):Ex:=.mul (.mul d d) d
def exSum:Ex:=.add (.v 4) (.v 5)
def exDif:Ex:=.sub (.v 0) (.v 1)
def exTan:Ex:=.sub (.mul (.n 3) (.mul (.v 0) (.v 0))) (.n 3)
def exDbl:Ex:=.add (.v 4) (.v 4)
def exCh:Ex:=.sub (.v 5) (.v 4)
def exCd:Ex:=.sub (.v 1) (.v 0)
def ids:List Ex:=[
 ex2 10 15 13 12,ex2 11 15 14 12,ex2 10 14 13 11,
 exOn (.v 7) (.v 8) (.v 9),
 .add (.v 9) (exF (.v 0) (.v 4) (.v 1) exSum exDif),
 exG (exE (.v 0) (.v 1) exSum exDif) (exF (.v 0) (.v 4) (.v 1) exSum exDif) exDif,
 .sub (.v 16) (.mul (exE (.v 0) (.v 0) exTan exDbl) exDbl),
 .sub (.v 17) (exF (.v 0) (.v 4) (.v 0) exTan exDbl),
 .sub (.v 18) (exD exDbl),
 exG (exE (.v 0) (.v 0) exTan exDbl) (exF (.v 0) (.v 4) (.v 0) exTan exDbl) exDbl,
 .v 19,.v 21,
 .sub (.v 20) (.v 17),
 .sub (.mul (.v 7) (exD exCd)) (.mul (.mul (exE (.v 0) (.v 1) exCh exCd) exCd) (.v 9)),
 .sub (.mul (.v 8) (exD exCd)) (.mul (exF (.v 0) (.v 4) (.v 1) exCh exCd) (.v 9))]
def l8n (i:Nat):T8:=nth (o8.num 0) l8 i
def regs8:List T8:=regs o8 (l8n 0) (l8n 1) (l8n 2) (l8n 3) (l8n 4) (l8n 5) (l8n 6)
theorem ids_ok:(ids.all fun e=>o8.nil (e.ev o8 regs8))=true:=by decide +kernel
theorem tells {p:Nat} [NeZero p] {x1 x2 x3 b y1 y2 y3:Fin p} (h1:y1*y1=x1*x1*x1-3*x1+b) (h2:y2*y2=x2*x2*x2-3*x2+b) (h3:y3*y3=x3*x3*x3-3*x3+b) (i:Nat) (hi:i<15) :
  (nth (.n 0) ids i).ev (finOp p) (regs (finOp p) x1 x2 x3 b y1 y2 y3)=0:=by
 obtain ⟨R,k,hl⟩:=codes h1 h2 h3
 have hp:=par_of k
 have hn:=fun i=>hl.nth (hp.num 0) i
 have hr:=regs_par hp (hn 0) (hn 1) (hn 2) (hn 3) (hn 4) (hn 5) (hn 6)
 have hm:nth (.n 0) ids i ∈ ids:=by
  have:i=0∨i=1∨i=2∨i=3∨i=4∨i=5∨i=6∨i=7∨i=8∨i=9∨i=10∨i=11∨i=12∨i=13∨i=14:=by omega
  rcases this with rfl | rfl | rfl | rfl | rfl | rfl | rfl | rfl | rfl | rfl | rfl | rfl | rfl | rfl | rfl <;> simp [ids,nth]
 exact nil_of k (List.all_eq_true.1 ids_ok _ hm) (Ex.par hp hr _)
structure Fld (p:Nat) [NeZero p] (iv:Fin p→Fin p):Prop where
 one:(1:Fin p)≠0
 two:(2:Fin p)≠0
 inv:∀ a:Fin p,a≠0→a*iv a=1
theorem Fld.dom {p:Nat} [NeZero p] {iv:Fin p→Fin p} (h:Fld p iv) {a b:Fin p} (e:a*b=0):a=0∨b=0:=by
 by_cases ha:a=0
 ·exact Or.inl ha
 ·have:=h.inv a ha
  exact Or.inr (by grobner)
theorem Fld.ne {p:Nat} [NeZero p] {iv:Fin p→Fin p} (h:Fld p iv) {a b:Fin p} (ha:a≠0) (hb:b≠0):a*b≠0:=fun e=>by
 rcases h.dom e with e | e
 ·exact ha e
 ·exact hb e
structure Wk (p:Nat) [NeZero p] (iv:Fin p→Fin p) (b:Fin p):Prop extends Fld p iv where
 root:∀ x:Fin p,x*x*x-3*x+b≠0
abbrev Wp (p:Nat):Type:=Option (Fin p × Fin p)
abbrev Wp.o {p:Nat}:Wp p:=none
abbrev Wp.pt {p:Nat} (x y:Fin p):Wp p:=some (x,y)
def Wp.on {p:Nat} [NeZero p] (b:Fin p):Wp p→Prop
 | none=>True
 | some (x,y)=>y*y=x*x*x-3*x+b
def Wp.lift {p:Nat} [NeZero p]:Wp p→P3 (Fin p)
 | none=>⟨0,1,0⟩
 | some (x,y)=>⟨x,y,1⟩
def nm {p:Nat} [NeZero p] (iv:Fin p→Fin p) (P:P3 (Fin p)):Wp p:=if P.z=0 then Wp.o else Wp.pt (P.x*iv P.z) (P.y*iv P.z)
structure On {p:Nat} [NeZero p] (b:Fin p) (P:P3 (Fin p)):Prop where
 eq:P.y*P.y*P.z=P.x*P.x*P.x-3*P.x*P.z*P.z+b*P.z*P.z*P.z
 ne:P.y≠0
def sc {p:Nat} (k:Fin p) (P:P3 (Fin p)):P3 (Fin p):=⟨k*P.x,k*P.y,k*P.z⟩
def wa {p:Nat} [NeZero p] (b:Fin p) (P Q:P3 (Fin p)):P3 (Fin p):=wf (finOp p) b P Q
theorem sub0 {p:Nat} [NeZero p] {a c:Fin p} (h:a-c=0):a=c:=by grobner
theorem wa_eq {p:Nat} [NeZero p] (b:Fin p) (P Q:P3 (Fin p)):wa b P Q=⟨
  (P.x*Q.y+Q.x*P.y)*(P.y*Q.y+3*(P.x*Q.z+Q.x*P.z-b*(P.z*Q.z)))-(P.y*Q.z+Q.y*P.z)*(3*(b*(P.x*Q.z+Q.x*P.z)-P.x*Q.x-3*(P.z*Q.z))),
  (3*(P.x*Q.x-P.z*Q.z))*(3*(b*(P.x*Q.z+Q.x*P.z)-P.x*Q.x-3*(P.z*Q.z)))+(P.y*Q.y-3*(P.x*Q.z+Q.x*P.z-b*(P.z*Q.z)))*(P.y*Q.y+3*(P.x*Q.z+Q.x*P.z-b*(P.z*Q.z))),
  (P.y*Q.z+Q.y*P.z)*(P.y*Q.y-3*(P.x*Q.z+Q.x*P.z-b*(P.z*Q.z)))+(P.x*Q.y+Q.x*P.y)*(3*(P.x*Q.x-P.z*Q.z))⟩:=by
 simp only [wa,wf,finOp]
 congr 1 <;> grobner
theorem wa_comm {p:Nat} [NeZero p] (b:Fin p) (P Q:P3 (Fin p)):wa b P Q=wa b Q P:=by
 rw [wa_eq,wa_eq]
 congr 1 <;> grobner
theorem wa_sc {p:Nat} [NeZero p] (b k m:Fin p) (P Q:P3 (Fin p)):wa b (sc k P) (sc m Q)=sc (k*k*(m*m)) (wa b P Q):=by
 simp only [wa_eq,sc]
 congr 1 <;> grobner
theorem root_frac {p:Nat} [NeZero p] {iv:Fin p→Fin p} {b:Fin p} (h:Wk p iv b) {e d:Fin p} (hd:d≠0) (h0:e*e*e-3*e*d*d+b*d*d*d=0):False:=by
 have hi:=h.inv d hd
 refine h.root (e*iv d) ?_
 generalize iv d=i at hi
 have e1:(e*i)*(e*i)*(e*i)-3*(e*i)+b=i*i*i*(e*e*e-3*e*d*d+b*d*d*d):=by grobner
 rw [e1,h0]
 grobner
theorem on_y {p:Nat} [NeZero p] {iv:Fin p→Fin p} {b:Fin p} (h:Wk p iv b) {x y:Fin p} (hc:y*y=x*x*x-3*x+b):y≠0:=by
 rintro rfl
 exact h.root x (by grobner)
theorem on_of {p:Nat} [NeZero p] {iv:Fin p→Fin p} {b:Fin p} (h:Wk p iv b) {P:P3 (Fin p)} (e:P.y*P.y*P.z=P.x*P.x*P.x-3*P.x*P.z*P.z+b*P.z*P.z*P.z) (hn:¬ (P.x=0∧P.y=0∧P.z=0)):On b P:=by
 refine ⟨e,fun hy=>?_⟩
 by_cases hz:P.z=0
 ·have:P.x*(P.x*P.x)=0:=by grobner
  rcases h.dom this with h1 | h1
  ·exact hn ⟨h1,hy,hz⟩
  ·rcases h.dom h1 with h1 | h1 <;> exact hn ⟨h1,hy,hz⟩
 ·exact root_frac h (e:=P.x) hz (by grobner)
theorem on_lift {p:Nat} [NeZero p] {iv:Fin p→Fin p} {b:Fin p} (h:Wk p iv b) {a:Wp p} (ha:a.on b):On b a.lift:=by
 cases a with
 | none=>exact ⟨by simp only [Wp.lift];grobner,h.one⟩
 | some q =>
  obtain ⟨x,y⟩:=q
  have ha':y*y=x*x*x-3*x+b:=ha
  exact ⟨by simp only [Wp.lift];grobner,on_y h ha'⟩
theorem on_nm {p:Nat} [NeZero p] {iv:Fin p→Fin p} {b:Fin p} (h:Wk p iv b) {P:P3 (Fin p)} (hP:On b P):(nm iv P).on b:=by
 unfold nm
 split
 ·trivial
 ·rename_i hz
  have hi:=h.inv _ hz
  have:=hP.eq
  simp only [Wp.on]
  generalize iv P.z=i at hi
  have e1:P.y*i*(P.y*i)=i*i*i*(P.y*P.y*P.z):=by grobner
  rw [e1,this]
  grobner
theorem nm_lift {p:Nat} [NeZero p] {iv:Fin p→Fin p} (h:Fld p iv) (a:Wp p):nm iv a.lift=a:=by
 cases a with
 | none=>simp [nm,Wp.lift]
 | some q =>
  obtain ⟨x,y⟩:=q
  have hi:=h.inv 1 h.one
  have e:iv 1=1:=by grobner
  simp only [nm,Wp.lift,h.one,if_false,e]
  congr 1 <;> grobner
theorem scaled {p:Nat} [NeZero p] {iv:Fin p→Fin p} {b:Fin p} (h:Wk p iv b) {P:P3 (Fin p)} (hP:On b P):∃ k,k≠0∧P=sc k (nm iv P).lift:=by
 obtain ⟨x,y,z⟩:=P
 have e:=hP.eq
 have hy:=hP.ne
 simp only at e hy
 by_cases hz:z=0
 ·subst hz
  have hx:x*(x*x)=0:=by grobner
  have hx:x=0:=by
   rcases h.dom hx with h1 | h1
   ·exact h1
   ·rcases h.dom h1 with h1 | h1 <;> exact h1
  subst hx
  refine ⟨y,hy,?_⟩
  simp only [nm,if_true,Wp.lift,sc]
  congr 1 <;> grobner
 ·have hi:=h.inv z hz
  refine ⟨z,hz,?_⟩
  simp only [nm,hz,if_false,Wp.lift,sc]
  congr 1 <;> grobner
theorem nm_sc {p:Nat} [NeZero p] {iv:Fin p→Fin p} (h:Fld p iv) {k:Fin p} (hk:k≠0) (P:P3 (Fin p)):nm iv (sc k P)=nm iv P:=by
 by_cases hz:P.z=0
 ·have e:k*(0:Fin p)=0:=by grobner
  simp only [nm,sc,hz,e,if_true]
 ·have h1:=h.inv P.z hz
  have h2:=h.inv (k*P.z) (h.ne hk hz)
  have h3:=h.ne hk hz
  simp only [nm,sc,hz,h3,if_false]
  congr 1 <;> grobner
theorem on_sc {p:Nat} [NeZero p] {iv:Fin p→Fin p} {b:Fin p} (h:Wk p iv b) {k:Fin p} (hk:k≠0) {P:P3 (Fin p)} (hP:On b P):On b (sc k P):=by
 refine ⟨?_,h.ne hk hP.ne⟩
 have:=hP.eq
 simp only [sc]
 grobner
def lE {p:Nat} (x x' l d:Fin p):Fin p:=l*l-(x+x')*(d*d)
def lF {p:Nat} (x y x' l d:Fin p):Fin p:=l*(x*(d*d)-lE x x' l d)-y*(d*d*d)
/-! The identities that were told, written out. -/
theorem w_on {p:Nat} [NeZero p] {b x1 y1 x2 y2:Fin p} (h1:y1*y1=x1*x1*x1-3*x1+b) (h2:y2*y2=x2*x2*x2-3*x2+b) {A:P3 (Fin p)} (hA:A=wa b ⟨x1,y1,1⟩ ⟨x2,y2,1⟩) :
  A.y*A.y*A.z=A.x*A.x*A.x-3*A.x*A.z*A.z+b*A.z*A.z*A.z:=by
 have t:A.y*A.y*A.z-(A.x*A.x*A.x-kc 3*(A.x*(A.z*A.z))+b*(A.z*A.z*A.z))=0:=by
  rw [hA,← kc_one]
  exact tells h1 h2 h2 3 (by omega)
 rw [kc_three] at t
 rw [sub0 t]
 clear t h1 h2 hA
 grobner
theorem w_z {p:Nat} [NeZero p] {b x1 y1 x2 y2:Fin p} (h1:y1*y1=x1*x1*x1-3*x1+b) (h2:y2*y2=x2*x2*x2-3*x2+b):(wa b ⟨x1,y1,1⟩ ⟨x2,y2,1⟩).z+lF x1 y1 x2 (y1+y2) (x1-x2)=0:=by
 rw [← kc_one]
 exact tells h1 h2 h2 4 (by omega)
theorem w_line {p:Nat} [NeZero p] {b x1 y1 x2 y2:Fin p} (h1:y1*y1=x1*x1*x1-3*x1+b) (h2:y2*y2=x2*x2*x2-3*x2+b) {e f d:Fin p} (hd:d=x1-x2) (he:e=lE x1 x2 (y1+y2) (x1-x2)) (hf:f=lF x1 y1 x2 (y1+y2) (x1-x2)) :
  f*f=e*e*e-3*(e*(d*d*(d*d)))+b*(d*d*(d*d*(d*d))):=by
 have t:f*f-(e*e*e-kc 3*(e*(d*d*(d*d)))+b*(d*d*(d*d*(d*d))))=0:=by
  rw [hd,he,hf]
  exact tells h1 h2 h2 5 (by omega)
 rw [kc_three] at t
 exact sub0 t
theorem w_tan {p:Nat} [NeZero p] {b x y:Fin p} (h1:y*y=x*x*x-3*x+b) {e f d:Fin p} (hd:d=y+y) (he:e=lE x x (3*(x*x)-3) (y+y)) (hf:f=lF x y x (3*(x*x)-3) (y+y)) :
  f*f=e*e*e-3*(e*(d*d*(d*d)))+b*(d*d*(d*d*(d*d))):=by
 have t:f*f-(e*e*e-kc 3*(e*(d*d*(d*d)))+b*(d*d*(d*d*(d*d))))=0:=by
  rw [hd,he,hf,← kc_three]
  exact tells h1 h1 h1 9 (by omega)
 rw [kc_three] at t
 exact sub0 t
theorem w_dbl {p:Nat} [NeZero p] {b x y:Fin p} (h1:y*y=x*x*x-3*x+b):wa b ⟨x,y,1⟩ ⟨x,y,1⟩=⟨lE x x (3*(x*x)-3) (y+y)*(y+y),lF x y x (3*(x*x)-3) (y+y),(y+y)*(y+y)*(y+y)⟩:=by
 have t6:(wa b ⟨x,y,kc 1⟩ ⟨x,y,kc 1⟩).x-lE x x (kc 3*(x*x)-kc 3) (y+y)*(y+y)=0:=tells h1 h1 h1 6 (by omega)
 have t7:(wa b ⟨x,y,kc 1⟩ ⟨x,y,kc 1⟩).y-lF x y x (kc 3*(x*x)-kc 3) (y+y)=0:=tells h1 h1 h1 7 (by omega)
 have t8:(wa b ⟨x,y,kc 1⟩ ⟨x,y,kc 1⟩).z-(y+y)*(y+y)*(y+y)=0:=tells h1 h1 h1 8 (by omega)
 rw [kc_one,kc_three] at t6 t7
 rw [kc_one] at t8
 generalize wa b ⟨x,y,1⟩ ⟨x,y,1⟩=A at *
 obtain ⟨ax,ay,az⟩:=A
 rw [← sub0 t6,← sub0 t7,← sub0 t8]
theorem w_mir {p:Nat} [NeZero p] {b x y:Fin p} (h1:y*y=x*x*x-3*x+b):wa b ⟨x,y,1⟩ ⟨x,- y,1⟩=⟨0,lF x y x (3*(x*x)-3) (y+y),0⟩:=by
 have t10:(wa b ⟨x,y,kc 1⟩ ⟨x,kc 0-y,kc 1⟩).x=0:=tells h1 h1 h1 10 (by omega)
 have t11:(wa b ⟨x,y,kc 1⟩ ⟨x,kc 0-y,kc 1⟩).z=0:=tells h1 h1 h1 11 (by omega)
 have t12:(wa b ⟨x,y,kc 1⟩ ⟨x,kc 0-y,kc 1⟩).y-(wa b ⟨x,y,kc 1⟩ ⟨x,y,kc 1⟩).y=0:=tells h1 h1 h1 12 (by omega)
 have e:(0:Fin p)-y=- y:=by grobner
 rw [kc_one,kc_zero,e] at t10 t11 t12
 rw [w_dbl h1] at t12
 generalize wa b ⟨x,y,1⟩ ⟨x,- y,1⟩=A at *
 obtain ⟨ax,ay,az⟩:=A
 rw [show ax=0 from t10,show az=0 from t11,show ay=_ from sub0 t12]
theorem w_ass {p:Nat} [NeZero p] {b x1 y1 x2 y2 x3 y3:Fin p} (h1:y1*y1=x1*x1*x1-3*x1+b) (h2:y2*y2=x2*x2*x2-3*x2+b) (h3:y3*y3=x3*x3*x3-3*x3+b) {L M:P3 (Fin p)} (hL:L=wa b (wa b ⟨x1,y1,1⟩ ⟨x2,y2,1⟩) ⟨x3,y3,1⟩) (hM:M=wa b ⟨x1,y1,1⟩ (wa b ⟨x2,y2,1⟩ ⟨x3,y3,1⟩)) :
  L.x*M.z=M.x*L.z∧L.y*M.z=M.y*L.z∧L.x*M.y=M.x*L.y:=by
 have t0:L.x*M.z-M.x*L.z=0:=by
  rw [hL,hM,← kc_one]
  exact tells h1 h2 h3 0 (by omega)
 have t1:L.y*M.z-M.y*L.z=0:=by
  rw [hL,hM,← kc_one]
  exact tells h1 h2 h3 1 (by omega)
 have t2:L.x*M.y-M.x*L.y=0:=by
  rw [hL,hM,← kc_one]
  exact tells h1 h2 h3 2 (by omega)
 exact ⟨sub0 t0,sub0 t1,sub0 t2⟩
theorem no_g {p:Nat} [NeZero p] {iv:Fin p→Fin p} {b:Fin p} (h:Wk p iv b) {e d f:Fin p} (hd:d≠0) (hg:f*f=e*e*e-3*(e*(d*d*(d*d)))+b*(d*d*(d*d*(d*d)))):f≠0:=by
 rintro rfl
 refine root_frac h (e:=e) (h.ne hd hd) ?_
 have e1:e*e*e-3*e*(d*d)*(d*d)+b*(d*d)*(d*d)*(d*d)=e*e*e-3*(e*(d*d*(d*d)))+b*(d*d*(d*d*(d*d))):=by clear hg;grobner
 rw [e1,← hg]
 grobner
theorem dbl_ne {p:Nat} [NeZero p] {iv:Fin p→Fin p} (h:Fld p iv) {y:Fin p} (hy:y≠0):y+y≠0:=by
 have e:y+y=2*y:=by grobner
 rw [e]
 exact h.ne h.two hy
theorem same_x {p:Nat} [NeZero p] {iv:Fin p→Fin p} {b:Fin p} (h:Fld p iv) {x y z:Fin p} (h1:y*y=x*x*x-3*x+b) (h2:z*z=x*x*x-3*x+b):z=y∨z=- y:=by
 have e:(z-y)*(z+y)=0:=by grobner
 rcases h.dom e with e | e
 ·exact Or.inl (sub0 e)
 ·exact Or.inr (by grobner)
theorem on_wa1 {p:Nat} [NeZero p] {iv:Fin p→Fin p} {b:Fin p} (h:Wk p iv b) {x1 y1 x2 y2:Fin p} (h1:y1*y1=x1*x1*x1-3*x1+b) (h2:y2*y2=x2*x2*x2-3*x2+b):On b (wa b ⟨x1,y1,1⟩ ⟨x2,y2,1⟩):=by
 refine on_of h (w_on h1 h2 rfl) ?_
 rintro ⟨ex,ey,ez⟩
 by_cases hx:x1=x2
 ·subst hx
  rcases same_x h.toFld h1 h2 with rfl | rfl
  ·rw [w_dbl h1] at ez
   have hy:=dbl_ne h.toFld (on_y h h1)
   exact h.ne (h.ne hy hy) hy ez
  ·rw [w_mir h1] at ey
   exact no_g h (dbl_ne h.toFld (on_y h h1)) (w_tan h1 rfl rfl rfl) ey
 ·have hd:x1-x2≠0:=fun e=>hx (sub0 e)
  have hz:=w_z h1 h2
  rw [ez] at hz
  refine no_g h hd (w_line h1 h2 rfl rfl rfl) ?_
  generalize lF x1 y1 x2 (y1+y2) (x1-x2)=f at hz
  clear h1 h2
  grobner
theorem wa_o {p:Nat} [NeZero p] (b:Fin p) (Q:P3 (Fin p)):wa b ⟨0,1,0⟩ Q=sc Q.y Q:=by
 rw [wa_eq]
 obtain ⟨x,y,z⟩:=Q
 simp only [sc]
 congr 1 <;> grobner
theorem on_wa2 {p:Nat} [NeZero p] {iv:Fin p→Fin p} {b:Fin p} (h:Wk p iv b) {a c:Wp p} (ha:a.on b) (hc:c.on b):On b (wa b a.lift c.lift):=by
 cases a with
 | none =>
  show On b (wa b ⟨0,1,0⟩ c.lift)
  rw [wa_o]
  exact on_sc h (on_lift h hc).ne (on_lift h hc)
 | some q =>
  obtain ⟨x,y⟩:=q
  cases c with
  | none =>
   rw [wa_comm]
   show On b (wa b ⟨0,1,0⟩ _)
   rw [wa_o]
   exact on_sc h (on_lift h ha).ne (on_lift h ha)
  | some q =>
   obtain ⟨x2,y2⟩:=q
   exact on_wa1 h ha hc
theorem sq4 {p:Nat} [NeZero p] {iv:Fin p→Fin p} (h:Fld p iv) {k m:Fin p} (hk:k≠0) (hm:m≠0):k*k*(m*m)≠0:=h.ne (h.ne hk hk) (h.ne hm hm)
theorem on_wa {p:Nat} [NeZero p] {iv:Fin p→Fin p} {b:Fin p} (h:Wk p iv b) {P Q:P3 (Fin p)} (hP:On b P) (hQ:On b Q):On b (wa b P Q):=by
 obtain ⟨k,hk,eP⟩:=scaled h hP
 obtain ⟨m,hm,eQ⟩:=scaled h hQ
 rw [eP,eQ,wa_sc]
 exact on_sc h (sq4 h.toFld hk hm) (on_wa2 h (on_nm h hP) (on_nm h hQ))
def Wp.add {p:Nat} [NeZero p] (iv:Fin p→Fin p) (b:Fin p) (a c:Wp p):Wp p:=nm iv (wa b a.lift c.lift)
theorem nm_wa {p:Nat} [NeZero p] {iv:Fin p→Fin p} {b:Fin p} (h:Wk p iv b) {P Q:P3 (Fin p)} (hP:On b P) (hQ:On b Q):nm iv (wa b P Q)=(nm iv P).add iv b (nm iv Q):=by
 obtain ⟨k,hk,eP⟩:=scaled h hP
 obtain ⟨m,hm,eQ⟩:=scaled h hQ
 rw [Wp.add]
 conv=>lhs;rw [eP,eQ,wa_sc]
 exact nm_sc h.toFld (sq4 h.toFld hk hm) _
theorem Wp.add_on {p:Nat} [NeZero p] {iv:Fin p→Fin p} {b:Fin p} (h:Wk p iv b) {a c:Wp p} (ha:a.on b) (hc:c.on b):(a.add iv b c).on b:=on_nm h (on_wa2 h ha hc)
theorem Wp.add_comm {p:Nat} [NeZero p] (iv:Fin p→Fin p) (b:Fin p) (a c:Wp p):a.add iv b c=c.add iv b a:=by
 rw [Wp.add,Wp.add,wa_comm]
theorem Wp.o_add {p:Nat} [NeZero p] {iv:Fin p→Fin p} {b:Fin p} (h:Wk p iv b) {a:Wp p} (ha:a.on b):Wp.add iv b Wp.o a=a:=by
 show nm iv (wa b ⟨0,1,0⟩ a.lift)=a
 rw [wa_o,nm_sc h.toFld (on_lift h ha).ne,nm_lift h.toFld]
theorem Wp.add_o {p:Nat} [NeZero p] {iv:Fin p→Fin p} {b:Fin p} (h:Wk p iv b) {a:Wp p} (ha:a.on b):Wp.add iv b a Wp.o=a:=by rw [Wp.add_comm,Wp.o_add h ha]
theorem nm_same {p:Nat} [NeZero p] {iv:Fin p→Fin p} {b:Fin p} (h:Wk p iv b) {P Q:P3 (Fin p)} (hP:On b P) (hQ:On b Q) (h1:P.x*Q.z=Q.x*P.z) (h2:P.y*Q.z=Q.y*P.z):nm iv P=nm iv Q:=by
 by_cases hz:P.z=0
 ·have e:P.y*Q.z=0:=by rw [h2,hz];grobner
  have hq:Q.z=0:=by
   rcases h.dom e with e | e
   ·exact absurd e hP.ne
   ·exact e
  simp only [nm,hz,hq,if_true]
 ·have hq:Q.z≠0:=by
   intro hq
   have e:Q.y*P.z=0:=by rw [← h2,hq];grobner
   rcases h.dom e with e | e
   ·exact absurd e hQ.ne
   ·exact hz e
  have i1:=h.inv _ hz
  have i2:=h.inv _ hq
  simp only [nm,hz,hq,if_false]
  generalize iv P.z=i at *
  generalize iv Q.z=j at *
  have e1:P.x*i=P.x*Q.z*(i*j):=by clear h1 h2;grobner
  have e2:P.y*i=P.y*Q.z*(i*j):=by clear h1 h2;grobner
  rw [e1,e2,h1,h2]
  clear h1 h2 e1 e2
  congr 1 <;> grobner
theorem Wp.add_assoc {p:Nat} [NeZero p] {iv:Fin p→Fin p} {b:Fin p} (h:Wk p iv b) {a c d:Wp p} (ha:a.on b) (hc:c.on b) (hd:d.on b):(a.add iv b c).add iv b d=a.add iv b (c.add iv b d):=by
 cases a with
 | none=>rw [Wp.o_add h hc,Wp.o_add h (Wp.add_on h hc hd)]
 | some q =>
  obtain ⟨x1,y1⟩:=q
  cases c with
  | none=>rw [Wp.add_o h ha,Wp.o_add h hd]
  | some q =>
   obtain ⟨x2,y2⟩:=q
   cases d with
   | none=>rw [Wp.add_o h hc,Wp.add_o h (Wp.add_on h ha hc)]
   | some q =>
    obtain ⟨x3,y3⟩:=q
    have o1:=on_wa2 h ha hc
    have o2:=on_wa2 h hc hd
    have l1:=on_lift h ha
    have l3:=on_lift h hd
    have e1:(Wp.add iv b (Wp.pt x1 y1) (Wp.pt x2 y2)).add iv b (Wp.pt x3 y3)=nm iv (wa b (wa b (Wp.pt x1 y1).lift (Wp.pt x2 y2).lift) (Wp.pt x3 y3).lift):=by
     rw [nm_wa h o1 l3,nm_lift h.toFld]
     rfl
    have e2:Wp.add iv b (Wp.pt x1 y1) (Wp.add iv b (Wp.pt x2 y2) (Wp.pt x3 y3))=nm iv (wa b (Wp.pt x1 y1).lift (wa b (Wp.pt x2 y2).lift (Wp.pt x3 y3).lift)):=by
     rw [nm_wa h l1 o2,nm_lift h.toFld]
     rfl
    rw [e1,e2]
    have t:=w_ass ha hc hd rfl rfl
    exact nm_same h (on_wa h o1 l3) (on_wa h l1 o2) t.1 t.2.1
def Wp.neg {p:Nat} [NeZero p]:Wp p→Wp p
 | none=>none
 | some (x,y)=>some (x,- y)
structure Gr {α:Type} (S:α→Prop) (add:α→α→α) (o:α):Prop where
 mem:∀ {a b},S a→S b→S (add a b)
 zero:S o
 comm:∀ a b,add a b=add b a
 ass:∀ {a b c},S a→S b→S c→add (add a b) c=add a (add b c)
 add_o:∀ {a},S a→add a o=a
def mt {α:Type} (add:α→α→α) (o a:α):Nat→α
 | 0=>o
 | n+1=>add (mt add o a n) a
theorem mt_on {α:Type} {S:α→Prop} {add:α→α→α} {o:α} (h:Gr S add o) {a:α} (ha:S a):∀ n,S (mt add o a n)
 | 0=>h.zero
 | n+1=>h.mem (mt_on h ha n) ha
theorem mt_one {α:Type} {S:α→Prop} {add:α→α→α} {o:α} (h:Gr S add o) {a:α} (ha:S a):mt add o a 1=a:=by
 show add o a=a
 rw [h.comm,h.add_o ha]
theorem mt_add {α:Type} {S:α→Prop} {add:α→α→α} {o:α} (h:Gr S add o) {a:α} (ha:S a) (m:Nat):∀ n,mt add o a (m+n)=add (mt add o a m) (mt add o a n)
 | 0=>(h.add_o (mt_on h ha m)).symm
 | n+1=>by
  show add (mt add o a (m+n)) a=add (mt add o a m) (add (mt add o a n) a)
  rw [mt_add h ha m n,h.ass (mt_on h ha m) (mt_on h ha n) ha]
theorem mt_mul {α:Type} {S:α→Prop} {add:α→α→α} {o:α} (h:Gr S add o) {a:α} (ha:S a) (m:Nat):∀ n,mt add o a (m*n)=mt add o (mt add o a m) n
 | 0=>rfl
 | n+1=>by
  show mt add o a (m*n+m)=add (mt add o (mt add o a m) n) (mt add o a m)
  rw [mt_add h ha,mt_mul h ha m n]
theorem mt_o {α:Type} {S:α→Prop} {add:α→α→α} {o:α} (h:Gr S add o):∀ n,mt add o o n=o
 | 0=>rfl
 | n+1=>by
  show add (mt add o o n) o=o
  rw [mt_o h n,h.add_o h.zero]
theorem mt_mod {α:Type} {S:α→Prop} {add:α→α→α} {o:α} (h:Gr S add o) {a:α} (ha:S a) {n:Nat} (hn:mt add o a n=o) (k:Nat):mt add o a (k % n)=mt add o a k:=by
 conv=>rhs;rw [← Nat.mod_add_div k n]
 rw [mt_add h ha,mt_mul h ha,hn,mt_o h,h.add_o (mt_on h ha _)]
theorem mt_two {α:Type} {S:α→Prop} {add:α→α→α} {o:α} (h:Gr S add o) {a:α} (ha:S a) (n:Nat):mt add o a (2*n)=add (mt add o a n) (mt add o a n):=by
 rw [show 2*n=n+n by omega,mt_add h ha]
/-! A prime's numbers have inverses. -/
def fiv {p:Nat} [NeZero p] (a:Fin p):Fin p:=kc ((a.val:Int) ^ (p-2))
theorem kc_pow {p:Nat} [NeZero p] (a:Int) (n:Nat):(kc (a ^ n):Fin p)=(kc a) ^ n:=by
 induction n with
 | zero =>
  rw [Int.pow_zero,kc_one]
  grobner
 | succ n ih =>
  rw [Int.pow_succ,kc_mul,ih]
  grobner
theorem fermat_fin {p:Nat} [NeZero p] (h:Full p) {a:Fin p} (ha:a≠0):a ^ (p-1)=1:=by
 have hd:¬ p ∣ a.val:=by
  intro hd
  have h1:=a.isLt
  have h0:a.val≠0:=fun e=>ha (Fin.ext e)
  have:=Nat.le_of_dvd (by omega) hd
  omega
 have e:=h.fermat a.val hd
 have e2:(kc ((a.val:Int) ^ (p-1)):Fin p)=kc 1:=kc_eq (by
  have h2:=h.prm.two
  rw [Int.emod_eq_of_lt (a:=1) (by omega) (by omega)]
  have e3:((a.val ^ (p-1) % p:Nat):Int)=1:=by rw [e];rfl
  rw [Int.natCast_emod,Int.natCast_pow] at e3
  exact e3)
 rw [kc_pow,kc_self,kc_one] at e2
 exact e2
theorem fld_of {p:Nat} [NeZero p] (h:Full p) (h2:2<p):(1:Fin p)≠0∧(2:Fin p)≠0∧∀ a:Fin p,a≠0→a*fiv a=1:=by
 refine ⟨?_,?_,?_⟩
 ·rw [← kc_one,Ne,kc_nil,Int.emod_eq_of_lt (by omega) (by omega)]
  omega
 ·rw [← kc_two,Ne,kc_nil,Int.emod_eq_of_lt (by omega) (by omega)]
  omega
 ·intro a ha
  have e:=fermat_fin h ha
  rw [show p-1=(p-2)+1 by omega] at e
  rw [fiv,kc_pow,kc_self]
  generalize p-2=n at e
  have e1:a*a ^ n=a ^ (n+1):=by clear e;grobner
  rw [e1,e]
/-! The same in plain numbers, for the kernel. -/
def natOp (p:Nat):Op Nat:=⟨fun n=>(n % p).toNat,fun a b=>(a+b) % p,fun a b=>(a+(p-b)) % p,fun a b=>a*b % p,fun a k=>k a,fun a=>a == 0⟩
def Rn {p:Nat} (a:Fin p) (n:Nat):Prop:=a.val=n
theorem par_nat (p:Nat) [NeZero p]:Par (Rn (p:=p)) (finOp p) (natOp p) where
 num n:=rfl
 add:=by rintro a b s t rfl rfl;exact Fin.val_add a b
 sub:=by
  rintro a b s t rfl rfl
  show (a-b).val=_
  rw [Fin.sub_def,Nat.add_comm]
  rfl
 mul:=by rintro a b s t rfl rfl;exact Fin.val_mul a b
end Go.Proofs.YtmigakanbeckpaaGreatDoor
