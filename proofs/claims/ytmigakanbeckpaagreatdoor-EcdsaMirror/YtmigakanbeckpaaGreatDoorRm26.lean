/- What the program's own PutBig and Big answer. Two numbers as bytes (DER), by themselves: what a pair's bytes are, that they tell the pair, and what else they tell. What the document's own integer of layer 10 answers. What the document's own integer of layer 10 answers. What the document's own Encode of layer 10 answers. Numbers and their bytes, there and back. The number of bytes: what the last 32 of them make. Two lists of bytes are the same. What the document's own Same answers, of all lists of bytes. Two lists of bytes held against each other by the document's own Same. What the document's own number of layer 10 answers. The program's own PutBig and Big, as things and lists. What slices.Concat answers: the parts, one behind the other. -/
import Derived.Test.YtmigakanbeckpaaGreatDoorRm25
import Derived.Test.YtmigakanbeckpaaGreatDoorRm02
import Derived.Test.YtmigakanbeckpaaGreatDoorRm04
import Derived.Test.YtmigakanbeckpaaGreatDoorRm24
import Derived.Test.YtmigakanbeckpaaGreatDoorRm03
import Derived.OwnWalk
import Derived.Deep.LoopGhost
import Derived.Deep.DeepCutAuto
set_option maxRecDepth 100000
set_option maxHeartbeats 4000000
namespace Go.Proofs.YtmigakanbeckpaaGreatDoor
set_option maxRecDepth 100000
open Go.RowKit
attribute [local go_sem ↓] Go.wp_at_zero Go.wp_at_succ
theorem rest8 (k:Nat):k % 8=0∨k % 8=1∨k % 8=2∨k % 8=3∨k % 8=4∨k % 8=5∨k % 8=6∨k % 8=7:=by omega
theorem drop_any (x:Int) (h0:0≤x) (h1:x<18446744073709551616) (k:Nat) (hk:k<64) (w:World) :
  Calls Tryz.prog 92 #[.int .u64 x,.int .i64 k] w fun e w'=>e=.returned (.int .u8 (x / 256 ^ (k % 8) % 256))∧w'=w:=by
 rcases rest8 k with hr | hr | hr | hr | hr | hr | hr | hr
 all_goals
  rw [hr]
  have hri:(k:Int) % 8=((k % 8:Nat):Int):=by omega
  rw [hr] at hri
  clear hr
  go_enter Tryz.func92,Tryz.ntmps92
  go_wp2
  go_ret
  exact ⟨ret_int (by first | (simp;done) | (simp;omega)),rfl⟩
theorem lift_any (x:Int) (h0:0≤x) (h1:x<256) (k:Nat) (hk:k<64) (w:World) :
  Calls Tryz.prog 109 #[.int .u8 x,.int .i64 k] w fun e w'=>e=.returned (.int .u64 (x*256 ^ (k % 8)))∧w'=w:=by
 rcases rest8 k with hr | hr | hr | hr | hr | hr | hr | hr
 all_goals
  rw [hr]
  have hri:(k:Int) % 8=((k % 8:Nat):Int):=by omega
  rw [hr] at hri
  clear hr
  go_enter Tryz.func109,Tryz.ntmps109
  go_wp2
  go_ret
  exact ⟨ret_int (by simp),rfl⟩
theorem row_made {w:World} {base b n:Nat} (h:w.ownsRow base 5 1 (.slice (some ⟨b,0,none⟩) n n) n (madeCells (Value.int .u8 0).cells (n*1)).toList):Row8 w b n (fun _=>0):=by
 have hlt:=h.lt b rfl
 refine ⟨hlt.2,fun i hi=>?_,fun i _=>h.frozenAt i⟩
 rw [h.cellAt i (by omega),Nat.mul_one,show (Value.int .u8 0).cells=#[.int .u8 0] from rfl,toList_madeCells_one,List.getElem?_replicate,if_pos hi]
theorem Arr.set1 {W:World} {n b o:Nat} {y0 y1 y2 y3:Int} {v:Value} (h:Arr W b y0 y1 y2 y3) (hn:b≠n):Arr (W.setCell ⟨n,o,none⟩ v) b y0 y1 y2 y3 :=
 ⟨by have:=h.lt;simpa using this,by simp [go_sem,h.c0],by simp [go_sem,h.c1],by simp [go_sem,h.c2],by simp [go_sem,h.c3]⟩
theorem size_alloc1 (w:World) (o:Obj):(w.alloc o).heap.size=w.heap.size+1:=by simp
theorem below_grown {w w0 w1:World} (h:Below w.heap.size w w0) (hg:w0.grownBy w1 none):Below w.heap.size w w1 :=
 h.grown hg h.size (fun k hk=>by cases hk)
theorem putBig_any (a:Int) (w:World) :
  Calls Tryz.prog 52 #[.agg #[.int .u64 (L 0 a),.int .u64 (L 1 a),.int .u64 (L 2 a),.int .u64 (L 3 a)]] w fun e w'=>e=.returned (.slice (some ⟨w.heap.size+1,0,none⟩) 32 32)∧Row8 w' (w.heap.size+1) 32 (fun i=>Y (31-i) a)∧Below w.heap.size w w':=by
 obtain ⟨i0,hi,hz0,hz1,hz2⟩:=info_parts info8
 have hA0:=Arr.new w w.heap.size rfl 24 (L 0 a) (L 1 a) (L 2 a) (L 3 a)
 go_enter Tryz.func52,Tryz.ntmps52
 go_wp2_with (at_make;refine wpList_make_full _ rfl _ _ 25 rfl (w.heap.size+1) 5 i0 (.int .u8 0) 1 Tryz.underlying25 hi hz0 hz1 .i64 .i64 32 32 32 rfl rfl rfl rfl (by rw [hz2];decide) (by decide) (by simp) ?_;intro w1 hown hgrow)
 have hR1:Row8 w1 (w.heap.size+1) 32 (fun _=>0):=by have h:=row_made hown;rw [size_alloc1] at h;exact h
 have hB1:Below w.heap.size w w1:=below_grown (K.alloc (Below.refl _ w) _) hgrow
 have hA1:=hA0.keep ((Below.refl _ _).grown hgrow (Nat.le_refl _) (fun k hk=>by cases hk))
 clear hown hgrow hA0 hi hz0 hz1 hz2
 go_loopg [6] 32 (fun g s6 wr=>∃ k:Nat,g=32-k∧k≤32∧s6=.int .i64 k∧Row8 wr (w.heap.size+1) 32 (fun i=>if 31-i<k then Y (31-i) a else 0)∧Arr wr w.heap.size (L 0 a) (L 1 a) (L 2 a) (L 3 a)∧Below w.heap.size w wr)
 case atStart=>exact ⟨0,rfl,by omega,rfl,hR1.congr (fun i hi=>by simp),hA1,hB1⟩
 case round =>
  clear hR1 hA1 hB1 w1
  obtain ⟨k,rfl,hk,rfl,hR,hA,hB⟩:=hrel
  by_cases hlt:k<32
  ·have HR:Hid (Row8 wr (w.heap.size+1) 32 (fun i=>if 31-i<k then Y (31-i) a else 0)):=hR
   have HA:Hid (Arr wr w.heap.size (L 0 a) (L 1 a) (L 2 a) (L 3 a)):=hA
   have HB:Hid (Below w.heap.size w wr):=hB
   have hcell:=hR.c (31-k) (by omega)
   have hfree:=hR.z (31-k) (by omega)
   have ⟨al,a0,a1,a2,a3⟩:=hA
   have hrl:=hR.lt
   have hj:(31:Int)-k=((31-k:Nat):Int):=by omega
   have hq:(k:Int) / 8=0∨(k:Int) / 8=1∨(k:Int) / 8=2∨(k:Int) / 8=3:=by omega
   clear hR hA hB
   rcases hq with hq | hq | hq | hq
   ·have l1:=L_lo 0 a
    have l2:=L_hi 0 a
    go_wp2_with (go_at_call 92;with_reducible refine Calls.mono (drop_any (L 0 a) (by omega) (by omega) k (by omega) _) ?_;rintro e w' ⟨rfl,rfl⟩)
    go_roundg (32-(k+1))
    case measure=>omega
    case rel=>exact ⟨k+1,rfl,by omega,by go_num,(HR.out.store (31-k) (by omega) _).congr (fun i hi=>by rw [byte_word a 0 (k % 8) (by omega),show 8*0+k % 8=k by omega];(repeat' split) <;> first | rfl | (congr 1;omega) | omega),HA.out.set1 (by omega),K.set HB.out (by simp) _⟩
   ·have l1:=L_lo 1 a
    have l2:=L_hi 1 a
    go_wp2_with (go_at_call 92;with_reducible refine Calls.mono (drop_any (L 1 a) (by omega) (by omega) k (by omega) _) ?_;rintro e w' ⟨rfl,rfl⟩)
    go_roundg (32-(k+1))
    case measure=>omega
    case rel=>exact ⟨k+1,rfl,by omega,by go_num,(HR.out.store (31-k) (by omega) _).congr (fun i hi=>by rw [byte_word a 1 (k % 8) (by omega),show 8*1+k % 8=k by omega];(repeat' split) <;> first | rfl | (congr 1;omega) | omega),HA.out.set1 (by omega),K.set HB.out (by simp) _⟩
   ·have l1:=L_lo 2 a
    have l2:=L_hi 2 a
    go_wp2_with (go_at_call 92;with_reducible refine Calls.mono (drop_any (L 2 a) (by omega) (by omega) k (by omega) _) ?_;rintro e w' ⟨rfl,rfl⟩)
    go_roundg (32-(k+1))
    case measure=>omega
    case rel=>exact ⟨k+1,rfl,by omega,by go_num,(HR.out.store (31-k) (by omega) _).congr (fun i hi=>by rw [byte_word a 2 (k % 8) (by omega),show 8*2+k % 8=k by omega];(repeat' split) <;> first | rfl | (congr 1;omega) | omega),HA.out.set1 (by omega),K.set HB.out (by simp) _⟩
   ·have l1:=L_lo 3 a
    have l2:=L_hi 3 a
    go_wp2_with (go_at_call 92;with_reducible refine Calls.mono (drop_any (L 3 a) (by omega) (by omega) k (by omega) _) ?_;rintro e w' ⟨rfl,rfl⟩)
    go_roundg (32-(k+1))
    case measure=>omega
    case rel=>exact ⟨k+1,rfl,by omega,by go_num,(HR.out.store (31-k) (by omega) _).congr (fun i hi=>by rw [byte_word a 3 (k % 8) (by omega),show 8*3+k % 8=k by omega];(repeat' split) <;> first | rfl | (congr 1;omega) | omega),HA.out.set1 (by omega),K.set HB.out (by simp) _⟩
  ·go_wp2_with fail
   obtain rfl:k=32:=by omega
   go_ret
   exact ⟨rfl,hR.congr (fun i hi=>if_pos (by omega)),hB⟩
structure RowQ (w:World) (b n:Nat) (g:Nat→Int):Prop where
 lt:b<w.heap.size
 c:∀ i,i<n→w.cell? ⟨b,i,none⟩=some (.int .u64 (g i))
 z:∀ i,i<n→w.frozen? ⟨b,i,none⟩=false
theorem RowQ.keep {W w1:World} {b n:Nat} {g:Nat→Int} (h:RowQ W b n g) (hb:Below W.heap.size W w1):RowQ w1 b n g :=
 ⟨Nat.lt_of_lt_of_le h.lt hb.size,fun i hi=>later hb (h.c i hi),fun i hi=>(hb.frozen (p:=⟨b,i,none⟩) h.lt).trans (h.z i hi)⟩
theorem RowQ.congr {w:World} {b n:Nat} {f g:Nat→Int} (h:RowQ w b n f) (e:∀ i,i<n→f i=g i):RowQ w b n g :=
 ⟨h.lt,fun i hi=>by rw [← e i hi];exact h.c i hi,h.z⟩
theorem RowQ.store {w:World} {b n:Nat} {f:Nat→Int} (h:RowQ w b n f) (k:Nat) (hk:k<n) (v:Int):RowQ (w.setCell ⟨b,k,none⟩ (.int .u64 v)) b n (fun i=>if i=k then v else f i):=by
 refine ⟨by simpa using h.lt,fun i hi=>?_,fun i hi=>by rw [World.frozen?_setCell];exact h.z i hi⟩
 have hc:=h.c i hi
 have hcs:=h.c k hk
 by_cases e:i=k
 ·subst e;simp [go_sem,hc]
 ·simp [go_sem,hc,e]
theorem RowQ.other {w:World} {b n m o:Nat} {f:Nat→Int} {v:Value} (h:RowQ w b n f) (hb:b≠m):RowQ (w.setCell ⟨m,o,none⟩ v) b n f:=by
 refine ⟨by simpa using h.lt,fun i hi=>?_,fun i hi=>by rw [World.frozen?_setCell];exact h.z i hi⟩
 have hc:=h.c i hi
 simp [go_sem,hc]
theorem RowQ.drew {W:World} {b n:Nat} {g:Nat→Int} (h:RowQ W b n g):RowQ W.drew b n g:=h.keep (Below.refl _ _).drew
theorem RowQ.new4 (W:World) (b:Nat) (hb:b=W.heap.size):RowQ (W.alloc (.cells #[.int .u64 0,.int .u64 0,.int .u64 0,.int .u64 0] 24)) b 4 (fun _=>0):=by
 subst hb
 refine ⟨by simp,fun i hi=>?_,fun i hi=>by simp [go_sem]⟩
 match i,hi with
 | 0,_=>simp [go_sem]
 | 1,_=>simp [go_sem]
 | 2,_=>simp [go_sem]
 | 3,_=>simp [go_sem]
theorem or_byte {x y:Int} {r:Nat} (hr:r<8) (hx:0≤x) (hx2:x<256 ^ r) (hy:0≤y) (hy2:y<256):bits .or .u64 x (y*256 ^ r)=x+y*256 ^ r:=by
 have e:(256:Int) ^ r=((2 ^ (8*r):Nat):Int):=by rw [Nat.pow_mul];simp
 have h7:(2:Nat) ^ (8*r)≤2 ^ 56:=Nat.pow_le_pow_right (by omega) (by omega)
 rw [e] at hx2 ⊢
 obtain ⟨n,rfl⟩:=Int.eq_ofNat_of_zero_le hx
 obtain ⟨m,rfl⟩:=Int.eq_ofNat_of_zero_le hy
 have hn:n<2 ^ (8*r):=by omega
 have hm:m*2 ^ (8*r)≤255*2 ^ 56:=Nat.mul_le_mul (by omega) h7
 have hmi:(m:Int)*((2 ^ (8*r):Nat):Int)=((m*2 ^ (8*r):Nat):Int):=by simp
 rw [hmi]
 generalize hp:2 ^ (8*r)=p at *
 rw [u64_or _ _ (by omega) (by omega) (by omega) (by omega),Int.toNat_natCast,Int.toNat_natCast,Nat.or_comm,Nat.mul_comm,← hp,← Nat.two_pow_add_eq_or_of_lt (by omega)]
 omega
def G (f:Nat→Int) (k j:Nat):Int:=E f (8*j) (min 8 (k-8*j))
theorem G_zero (f:Nat→Int) (j:Nat):G f 0 j=0:=by unfold G;rw [show min 8 (0-8*j)=0 by omega];rfl
theorem G_bd {f:Nat→Int} (hf:∀ i,0≤f i∧f i<256) (k j:Nat):0≤G f k j∧G f k j<18446744073709551616:=by
 have h:=E_bd hf (8*j) (min 8 (k-8*j))
 have h8:(256:Int) ^ min 8 (k-8*j)≤256 ^ 8:=by
  have:(256:Nat) ^ min 8 (k-8*j)≤256 ^ 8:=Nat.pow_le_pow_right (by omega) (by omega)
  have h':=Int.ofNat_le.2 this
  rw [Int.natCast_pow,Int.natCast_pow] at h'
  exact h'
 exact ⟨h.1,Int.lt_of_lt_of_le h.2 (Int.le_trans h8 (by decide))⟩
theorem G_step {f:Nat→Int} (hf:∀ i,0≤f i∧f i<256) (k:Nat):bits .or .u64 (G f k (k / 8)) (f k*256 ^ (k % 8))=G f (k+1) (k / 8):=by
 have h:=E_bd hf (8*(k / 8)) (k % 8)
 unfold G
 rw [show min 8 (k-8*(k / 8))=k % 8 by omega,show min 8 (k+1-8*(k / 8))=k % 8+1 by omega,or_byte (by omega) h.1 h.2 (hf k).1 (hf k).2]
 simp only [E]
 rw [show 8*(k / 8)+k % 8=k by omega]
theorem G_other (f:Nat→Int) {k j:Nat} (h:j≠k / 8):G f k j=G f (k+1) j:=by
 unfold G
 rw [show min 8 (k-8*j)=min 8 (k+1-8*j) by omega]
theorem word_step {g h:Nat→Int} {n q:Nat} {v:Int} (hv:v=h q) (ho:∀ {i},i≠q→g i=h i):∀ i,i<n→(if i=q then v else g i)=h i:=by
 intro i _
 split
 ·next e=>rw [e];exact hv
 ·next e=>exact ho e
theorem G_full (f:Nat→Int) {n j:Nat} (h:8*j+8≤n):G f n j=E f (8*j) 8:=by
 unfold G
 rw [show min 8 (n-8*j)=8 by omega]
theorem big_any {b o cap:Nat} {f:Nat→Int} (hf:∀ i,0≤f i∧f i<256) {w:World} (hD:Rd w b o 32 f) :
  Calls Tryz.prog 70 #[.slice (some ⟨b,o,none⟩) 32 cap] w fun e w'=>e=.returned (.tuple #[.agg #[.int .u64 (E (fun i=>f (31-i)) 0 8),.int .u64 (E (fun i=>f (31-i)) 8 8),.int .u64 (E (fun i=>f (31-i)) 16 8),.int .u64 (E (fun i=>f (31-i)) 24 8)],.bool true])∧Below w.heap.size w w':=by
 have HF:Hid (∀ i,0≤f i∧f i<256):=hf
 have HD:Hid (Rd w b o 32 f):=hD
 clear hf hD
 go_enter Tryz.func70,Tryz.ntmps70
 go_wp2_with fail
 go_loopg [10] 32 (fun g s wr=>∃ k:Nat,g=32-k∧k≤32∧s=.int .i64 k∧RowQ wr (w.heap.size+1) 4 (G (fun i=>f (31-i)) k)∧RowQ wr w.heap.size 4 (fun _=>0)∧Below w.heap.size w wr)
 case atStart=>exact ⟨0,rfl,by omega,rfl,(RowQ.new4 _ _ (by simp)).congr (fun i _=>(G_zero _ i).symm),(RowQ.new4 w _ rfl).keep ((Below.refl _ _).alloc (Nat.le_refl _) _),K.alloc (K.alloc (Below.refl _ w) _) _⟩
 case round =>
  obtain ⟨k,rfl,hk,rfl,hR,hZ,hB⟩:=hrel
  by_cases hlt:k<32
  ·have hx:=HF.out (31-k)
   have hd:=(HD.out.keep hB).c (31-k) (by omega)
   have HR:Hid (RowQ wr (w.heap.size+1) 4 (G (fun i=>f (31-i)) k)):=hR
   have HZ:Hid (RowQ wr w.heap.size 4 (fun _=>0)):=hZ
   have HB:Hid (Below w.heap.size w wr):=hB
   have hrl:=hR.lt
   obtain ⟨j,hjj⟩:∃ j,j=31-k:=⟨_,rfl⟩
   have HJ:Hid (j=31-k):=hjj
   have hj:(31:Int)-k=(j:Int):=by omega
   have hw:IntKind.i64.wrap (j:Int)=(j:Int):=IntWalk.i64_in _ (by omega)
   have hj0:(0:Int)≤(j:Int):=by omega
   have hj1:(j:Int)<32:=by omega
   rw [← hjj] at hx hd
   clear hjj
   have hq:k / 8=0∨k / 8=1∨k / 8=2∨k / 8=3:=by omega
   clear hR hZ hB
   rcases hq with hq | hq | hq | hq
   ·have HQ:Hid (k / 8=0):=hq
    have hqi:(k:Int) / 8=0:=by omega
    have hg:=G_bd (f:=(fun i=>f (31-i))) (fun i=>HF.out _) k 0
    have hc:=HR.out.c 0 (by omega)
    have hz:=HR.out.z 0 (by omega)
    clear hq
    go_upto_region 7 with fail
    apply wp_mono (Q:=Only _ _)
    ·go_region_with (go_at_call 109;with_reducible refine Calls.mono (lift_any (f j) hx.1 hx.2 k (by omega) _) ?_;rintro e w' ⟨rfl,rfl⟩)
     all_goals exact Only.intro _ _
    refine Only.out ?_
    have HG:Hid (bits .or .u64 (G (fun i=>f (31-i)) k 0) ((f j)*256 ^ (k % 8))=G (fun i=>f (31-i)) (k+1) 0):=by have h:=G_step (f:=(fun i=>f (31-i))) (fun i=>HF.out _) k;rw [HQ.out] at h;rw [HJ.out];exact h
    clear hc hz hd hx hg
    go_wp2_with fail
    go_roundg (32-(k+1))
    case measure=>omega
    case rel=>exact ⟨k+1,rfl,by omega,by go_num,((HR.out.store 0 (by omega) _).congr (word_step HG.out (fun e=>G_other _ (by rw [HQ.out];exact e)))).drew,(HZ.out.other (by omega)).drew,K.drew (K.set HB.out (by simp) _)⟩
   ·have HQ:Hid (k / 8=1):=hq
    have hqi:(k:Int) / 8=1:=by omega
    have hg:=G_bd (f:=(fun i=>f (31-i))) (fun i=>HF.out _) k 1
    have hc:=HR.out.c 1 (by omega)
    have hz:=HR.out.z 1 (by omega)
    clear hq
    go_upto_region 7 with fail
    apply wp_mono (Q:=Only _ _)
    ·go_region_with (go_at_call 109;with_reducible refine Calls.mono (lift_any (f j) hx.1 hx.2 k (by omega) _) ?_;rintro e w' ⟨rfl,rfl⟩)
     all_goals exact Only.intro _ _
    refine Only.out ?_
    have HG:Hid (bits .or .u64 (G (fun i=>f (31-i)) k 1) ((f j)*256 ^ (k % 8))=G (fun i=>f (31-i)) (k+1) 1):=by have h:=G_step (f:=(fun i=>f (31-i))) (fun i=>HF.out _) k;rw [HQ.out] at h;rw [HJ.out];exact h
    clear hc hz hd hx hg
    go_wp2_with fail
    go_roundg (32-(k+1))
    case measure=>omega
    case rel=>exact ⟨k+1,rfl,by omega,by go_num,((HR.out.store 1 (by omega) _).congr (word_step HG.out (fun e=>G_other _ (by rw [HQ.out];exact e)))).drew,(HZ.out.other (by omega)).drew,K.drew (K.set HB.out (by simp) _)⟩
   ·have HQ:Hid (k / 8=2):=hq
    have hqi:(k:Int) / 8=2:=by omega
    have hg:=G_bd (f:=(fun i=>f (31-i))) (fun i=>HF.out _) k 2
    have hc:=HR.out.c 2 (by omega)
    have hz:=HR.out.z 2 (by omega)
    clear hq
    go_upto_region 7 with fail
    apply wp_mono (Q:=Only _ _)
    ·go_region_with (go_at_call 109;with_reducible refine Calls.mono (lift_any (f j) hx.1 hx.2 k (by omega) _) ?_;rintro e w' ⟨rfl,rfl⟩)
     all_goals exact Only.intro _ _
    refine Only.out ?_
    have HG:Hid (bits .or .u64 (G (fun i=>f (31-i)) k 2) ((f j)*256 ^ (k % 8))=G (fun i=>f (31-i)) (k+1) 2):=by have h:=G_step (f:=(fun i=>f (31-i))) (fun i=>HF.out _) k;rw [HQ.out] at h;rw [HJ.out];exact h
    clear hc hz hd hx hg
    go_wp2_with fail
    go_roundg (32-(k+1))
    case measure=>omega
    case rel=>exact ⟨k+1,rfl,by omega,by go_num,((HR.out.store 2 (by omega) _).congr (word_step HG.out (fun e=>G_other _ (by rw [HQ.out];exact e)))).drew,(HZ.out.other (by omega)).drew,K.drew (K.set HB.out (by simp) _)⟩
   ·have HQ:Hid (k / 8=3):=hq
    have hqi:(k:Int) / 8=3:=by omega
    have hg:=G_bd (f:=(fun i=>f (31-i))) (fun i=>HF.out _) k 3
    have hc:=HR.out.c 3 (by omega)
    have hz:=HR.out.z 3 (by omega)
    clear hq
    go_upto_region 7 with fail
    apply wp_mono (Q:=Only _ _)
    ·go_region_with (go_at_call 109;with_reducible refine Calls.mono (lift_any (f j) hx.1 hx.2 k (by omega) _) ?_;rintro e w' ⟨rfl,rfl⟩)
     all_goals exact Only.intro _ _
    refine Only.out ?_
    have HG:Hid (bits .or .u64 (G (fun i=>f (31-i)) k 3) ((f j)*256 ^ (k % 8))=G (fun i=>f (31-i)) (k+1) 3):=by have h:=G_step (f:=(fun i=>f (31-i))) (fun i=>HF.out _) k;rw [HQ.out] at h;rw [HJ.out];exact h
    clear hc hz hd hx hg
    go_wp2_with fail
    go_roundg (32-(k+1))
    case measure=>omega
    case rel=>exact ⟨k+1,rfl,by omega,by go_num,((HR.out.store 3 (by omega) _).congr (word_step HG.out (fun e=>G_other _ (by rw [HQ.out];exact e)))).drew,(HZ.out.other (by omega)).drew,K.drew (K.set HB.out (by simp) _)⟩
  ·obtain rfl:k=32:=by omega
   have c0:=hR.c 0 (by omega)
   have c1:=hR.c 1 (by omega)
   have c2:=hR.c 2 (by omega)
   have c3:=hR.c 3 (by omega)
   have z0:=hZ.c 0 (by omega)
   have z1:=hZ.c 1 (by omega)
   have z2:=hZ.c 2 (by omega)
   have z3:=hZ.c 3 (by omega)
   have y0:=hZ.z 0 (by omega)
   have y1:=hZ.z 1 (by omega)
   have y2:=hZ.z 2 (by omega)
   have y3:=hZ.z 3 (by omega)
   have zl:=hZ.lt
   have cl:=hR.lt
   rw [G_full _ (show 8*0+8≤32 by omega)] at c0
   rw [G_full _ (show 8*1+8≤32 by omega)] at c1
   rw [G_full _ (show 8*2+8≤32 by omega)] at c2
   rw [G_full _ (show 8*3+8≤32 by omega)] at c3
   clear hR hZ
   go_wp2_with fail
   exact bodyPost_ret (v:=.tuple #[.agg #[.int .u64 (E (fun i=>f (31-i)) 0 8),.int .u64 (E (fun i=>f (31-i)) 8 8),.int .u64 (E (fun i=>f (31-i)) 16 8),.int .u64 (E (fun i=>f (31-i)) 24 8)],.bool true]) (by simp [results,Tryz.results70,go_sem,z0,z1,z2,z3]) rfl ⟨rfl,K.set (K.set (K.set (K.set (hB) (by simp) _) (by simp) _) (by simp) _) (by simp) _⟩
end Go.Proofs.YtmigakanbeckpaaGreatDoor
namespace Go.Proofs.YtmigakanbeckpaaGreatDoor.De
set_option maxRecDepth 100000
def msz (a:Nat):Nat:=((List.range 33).find? (fun k=>decide (a<128*256 ^ k))).getD 32+1
def be (a:Nat):Nat→List Nat
 | 0=>[]
 | m+1=>be (a / 256) m++[a % 256]
def num (l:List Nat):Nat:=l.foldl (fun x b=>256*x+b) 0
def dI (a:Nat):List Nat:=2 :: msz a :: be a (msz a)
def dE (r s:Nat):List Nat:=48 :: (dI r++dI s).length :: (dI r++dI s)
def ddec (l:List Nat):Option (Nat × Nat) :=
 let m:=l.getD 3 0
 let r:=num ((l.drop 4).take m) % 2 ^ 256
 let s:=num (l.drop (6+m)) % 2 ^ 256
 if dE r s=l then some (r,s) else none
theorem be_len (a m:Nat):(be a m).length=m:=by
 induction m generalizing a with
 | zero=>rfl
 | succ m ih=>simp [be,ih]
theorem be_lt (a m:Nat):∀ x ∈ be a m,x<256:=by
 induction m generalizing a with
 | zero=>intro x hx;cases hx
 | succ m ih =>
  intro x hx
  simp only [be,List.mem_append,List.mem_singleton] at hx
  rcases hx with hx | rfl
  ·exact ih _ x hx
  ·exact Nat.mod_lt _ (by decide)
theorem num_snoc (l:List Nat) (b:Nat):num (l++[b])=256*num l+b:=by simp [num]
theorem num_be (a m:Nat):num (be a m)=a % 256 ^ m:=by
 induction m generalizing a with
 | zero=>simp [be,num,Nat.mod_one]
 | succ m ih =>
  rw [be,num_snoc,ih,Nat.pow_succ,Nat.mul_comm (256 ^ m) 256,Nat.mod_mul]
  omega
theorem be_num {l:List Nat} (h:∀ x ∈ l,x<256):be (num l) l.length=l:=by
 have key:∀ (n:Nat) (l:List Nat),l.length=n→(∀ x ∈ l,x<256)→be (num l) n=l:=by
  intro n
  induction n with
  | zero=>intro l hl _;rw [List.eq_nil_of_length_eq_zero hl];rfl
  | succ n ih =>
   intro l hl hx
   obtain ⟨q,b,rfl⟩:∃ q b,l=q++[b]:=by
    refine ⟨l.dropLast,l.getLast (by intro e;subst e;cases hl),?_⟩
    exact (List.dropLast_concat_getLast _).symm
   have hb:b<256:=hx b (by simp)
   rw [num_snoc,be,show (256*num q+b) / 256=num q by omega,show (256*num q+b) % 256=b by omega,ih q (by simpa using hl) (fun x hq=>hx x (by simp [hq]))]
 exact key _ l rfl h
theorem be_at (a m:Nat):∀ i,i<m→(be a m)[i]?=some (a / 256 ^ (m-1-i) % 256):=by
 induction m generalizing a with
 | zero=>intro i hi;omega
 | succ m ih =>
  intro i hi
  rw [be]
  by_cases h:i<m
  ·rw [List.getElem?_append_left (by rw [be_len];exact h),ih _ i h,Nat.div_div_eq_div_mul,Nat.mul_comm 256,← Nat.pow_succ,show (m-1-i).succ=m+1-1-i by omega]
  ·obtain rfl:i=m:=by omega
   rw [List.getElem?_append_right (by rw [be_len];exact Nat.le_refl _),be_len]
   simp
theorem be_head (a m:Nat) (h:a<256 ^ m):be a (m+1)=0 :: be a m:=by
 induction m generalizing a with
 | zero=>simp only [be,List.nil_append];rw [show a=0 by simpa using h]
 | succ m ih =>
  rw [be,ih (a / 256) (by rw [Nat.pow_succ] at h;omega),be]
  rfl
theorem msz_spec {a:Nat} (h:a<2 ^ 256):a<128*256 ^ (msz a-1)∧(∀ k,k<msz a-1→128*256 ^ k≤a)∧1≤msz a∧msz a≤33:=by
 have h33:a<128*256 ^ 32:=Nat.lt_of_lt_of_le h (by decide)
 unfold msz
 cases hf:(List.range 33).find? (fun k=>decide (a<128*256 ^ k)) with
 | none =>
  have:=List.find?_eq_none.1 hf 32 (by simp)
  simp at this
  omega
 | some k =>
  have h1:=List.find?_some hf
  have hk:k<33:=List.mem_range.1 (List.mem_of_find?_eq_some hf)
  refine ⟨of_decide_eq_true h1,fun j hj=>?_,by omega,by simp;omega⟩
  have hj2:j<k:=by simpa using hj
  rw [List.find?_range_eq_some] at hf
  have:=hf.2.2 j hj2
  simpa using this
theorem msz_of {a n:Nat} (ha:a<2 ^ 256) (h1:a<128*256 ^ (n-1)) (h2:n=1∨128*256 ^ (n-2)≤a) (hn:1≤n):msz a=n:=by
 obtain ⟨s1,s2,s3,s4⟩:=msz_spec ha
 rcases Nat.lt_trichotomy (msz a) n with h | h | h
 ·exfalso
  rcases h2 with h2 | h2
  ·omega
  ·have:256 ^ (msz a-1)≤256 ^ (n-2):=Nat.pow_le_pow_right (by decide) (by omega)
   have:=Nat.mul_le_mul_left 128 this
   omega
 ·exact h
 ·have:=s2 (n-1) (by omega)
  omega
theorem be_msz {a:Nat} (h:a<2 ^ 256):num (be a (msz a))=a:=by
 obtain ⟨s1,_,s3,_⟩:=msz_spec h
 rw [num_be,Nat.mod_eq_of_lt]
 have:256 ^ msz a=256*256 ^ (msz a-1):=by
  rw [← Nat.pow_succ',show (msz a-1).succ=msz a by omega]
 omega
theorem dI_len (a:Nat):(dI a).length=msz a+2:=by simp [dI,be_len]
theorem dE_len (r s:Nat):(dE r s).length=msz r+msz s+6:=by simp [dE,dI_len];omega
theorem dE_bd {r s:Nat} (hr:r<2 ^ 256) (hs:s<2 ^ 256):8≤(dE r s).length∧(dE r s).length≤72:=by
 obtain ⟨_,_,a,b⟩:=msz_spec hr
 obtain ⟨_,_,c,d⟩:=msz_spec hs
 rw [dE_len]
 omega
theorem dE_eq (r s:Nat):dE r s=48 :: (msz r+msz s+4) :: 2 :: msz r :: (be r (msz r)++2 :: msz s :: be s (msz s)):=by
 have e:(dI r++dI s).length=msz r+msz s+4:=by simp [dI_len];omega
 unfold dE
 rw [e]
 rfl
theorem dE_r (r s:Nat):((dE r s).drop 4).take (msz r)=be r (msz r):=by
 rw [dE_eq]
 show (be r (msz r)++2 :: msz s :: be s (msz s)).take (msz r)=_
 rw [List.take_append_of_le_length (by rw [be_len];exact Nat.le_refl _),List.take_of_length_le (by rw [be_len];exact Nat.le_refl _)]
theorem dE_s (r s:Nat):(dE r s).drop (6+msz r)=be s (msz s):=by
 rw [dE_eq,show 6+msz r=4+(msz r+2) by omega,← List.drop_drop]
 show List.drop (msz r+2) (be r (msz r)++2 :: msz s :: be s (msz s))=_
 rw [← List.drop_drop,List.drop_left' (be_len _ _)]
 rfl
theorem dE_lt {r s:Nat} (hr:r<2 ^ 256) (hs:s<2 ^ 256):∀ x ∈ dE r s,x<256:=by
 obtain ⟨_,_,_,a⟩:=msz_spec hr
 obtain ⟨_,_,_,b⟩:=msz_spec hs
 rw [dE_eq]
 intro x hx
 simp only [List.mem_cons,List.mem_append] at hx
 rcases hx with rfl | rfl | rfl | rfl | hx | rfl | rfl | hx
 ·omega
 ·omega
 ·omega
 ·omega
 ·exact be_lt _ _ x hx
 ·omega
 ·omega
 ·exact be_lt _ _ x hx
theorem ddec_of {r s:Nat} (hr:r<2 ^ 256) (hs:s<2 ^ 256):ddec (dE r s)=some (r,s):=by
 have e3:(dE r s).getD 3 0=msz r:=by rw [dE_eq];rfl
 unfold ddec
 simp only [e3,dE_r,dE_s,be_msz hr,be_msz hs,Nat.mod_eq_of_lt hr,Nat.mod_eq_of_lt hs,if_true]
theorem ddec_is {l:List Nat} {r s:Nat} (h:ddec l=some (r,s)):dE r s=l∧r<2 ^ 256∧s<2 ^ 256:=by
 unfold ddec at h
 simp only at h
 split at h
 ·rename_i he
  cases h
  exact ⟨he,Nat.mod_lt _ (by decide),Nat.mod_lt _ (by decide)⟩
 ·cases h
theorem ddec_none {l:List Nat} (h:∀ r s,r<2 ^ 256→s<2 ^ 256→dE r s≠l):ddec l=none:=by
 cases hd:ddec l with
 | none=>rfl
 | some p =>
  obtain ⟨e,hr,hs⟩:=ddec_is (r:=p.1) (s:=p.2) hd
  exact absurd e (h _ _ hr hs)
theorem dI_way {a n:Nat} (h:a<2 ^ 256) (hn:1≤n) (h1:a<256 ^ n) (h2:n=1∨256 ^ (n-1)≤a):dI a=if 128≤a / 256 ^ (n-1) then 2 :: (n+1) :: 0 :: be a n else 2 :: n :: be a n:=by
 have hp:0<256 ^ (n-1):=Nat.pow_pos (by decide)
 split
 ·rename_i hq
  have hq2:128*256 ^ (n-1)≤a:=(Nat.le_div_iff_mul_le hp).1 hq
  have e:msz a=n+1:=msz_of h (by
   show a<128*256 ^ n
   omega) (Or.inr (by rw [show n+1-2=n-1 by omega];exact hq2)) (by omega)
  unfold dI
  rw [e,be_head a n h1]
 ·rename_i hq
  have hq2:a<128*256 ^ (n-1):=by
   rcases Nat.lt_or_ge a (128*256 ^ (n-1)) with q | q
   ·exact q
   ·exact absurd ((Nat.le_div_iff_mul_le hp).2 q) hq
  have e:msz a=n:=msz_of h hq2 (by
   rcases h2 with h2 | h2
   ·exact Or.inl h2
   ·by_cases h9:n=1
    ·exact Or.inl h9
    ·right
     have e:256 ^ (n-1)=256 ^ (n-2)*256:=by rw [← Nat.pow_succ,show (n-2).succ=n-1 by omega]
     omega) hn
  unfold dI
  rw [e]
end Go.Proofs.YtmigakanbeckpaaGreatDoor.De
namespace Go.Proofs.YtmigakanbeckpaaGreatDoor.De
set_option maxRecDepth 100000
open Go.RowKit
attribute [local go_sem ↓] Go.wp_at_zero Go.wp_at_succ
theorem Y_nat (k A:Nat):Y k (A:Int)=((A / 256 ^ k % 256:Nat):Int):=by
 unfold Y
 rw [Int.natCast_emod,Int.natCast_ediv,Int.natCast_pow]
 rfl
theorem lead_lt {A:Nat} (hA:A<2 ^ 256):∀ k,k≤31→(∀ i,i<k→A / 256 ^ (31-i) % 256=0)→A<256 ^ (32-k)
 | 0,_,_=>by rw [show (256:Nat) ^ (32-0)=2 ^ 256 by decide];exact hA
 | k+1,hk,h=>by
  have ih:=lead_lt hA k (by omega) (fun i hi=>h i (by omega))
  have h1:=h k (by omega)
  have e:256 ^ (32-k)=256 ^ (31-k)*256:=by rw [← Nat.pow_succ,show (31-k).succ=32-k by omega]
  rw [e] at ih
  have h2:A / 256 ^ (31-k)<256:=Nat.div_lt_of_lt_mul ih
  rw [Nat.mod_eq_of_lt h2] at h1
  rw [show 32-(k+1)=31-k by omega]
  rcases Nat.lt_or_ge A (256 ^ (31-k)) with q | q
  ·exact q
  ·have:=Nat.div_pos q (Nat.pow_pos (by decide));omega
theorem lead_ge {A k:Nat} (h:A / 256 ^ (31-k) % 256≠0):256 ^ (31-k)≤A:=by
 rcases Nat.lt_or_ge A (256 ^ (31-k)) with q | q
 ·rw [Nat.div_eq_of_lt q] at h
  exact absurd rfl h
 ·exact q
theorem be_fl (A n:Nat):be A n=fl (fun i=>A / 256 ^ (n-1-i) % 256) n:=by
 apply List.ext_getElem?
 intro i
 by_cases h:i<n
 ·rw [be_at A n i h,fl_at _ h]
 ·rw [List.getElem?_eq_none (by rw [be_len];omega),List.getElem?_eq_none (by rw [fl_len];omega)]
theorem dI_lead {A k:Nat} (hA:A<2 ^ 256) (hk:k≤31) (h0:∀ i,i<k→A / 256 ^ (31-i) % 256=0) (h1:k=31∨A / 256 ^ (31-k) % 256≠0):dI A=if 128≤A / 256 ^ (31-k) % 256 then [2,33-k,0]++fl (fun i=>A / 256 ^ (31-(k+i)) % 256) (32-k) else [2,32-k]++fl (fun i=>A / 256 ^ (31-(k+i)) % 256) (32-k):=by
 have hl:=lead_lt hA k hk h0
 have e:256 ^ (32-k)=256 ^ (31-k)*256:=by rw [← Nat.pow_succ,show (31-k).succ=32-k by omega]
 have hs:A / 256 ^ (31-k)<256:=Nat.div_lt_of_lt_mul (by rw [e] at hl;exact hl)
 have hw:=dI_way (n:=32-k) hA (by omega) hl (by
  rcases h1 with h1 | h1
  ·exact Or.inl (by omega)
  ·exact Or.inr (by rw [show 32-k-1=31-k by omega];exact lead_ge h1))
 have eb:be A (32-k)=fl (fun i=>A / 256 ^ (31-(k+i)) % 256) (32-k):=by
  rw [be_fl]
  congr 1
  funext i
  rw [show 32-k-1-i=31-(k+i) by omega]
 rw [hw,show 32-k-1=31-k by omega,Nat.mod_eq_of_lt hs,eb,show 32-k+1=33-k by omega]
 rfl
end Go.Proofs.YtmigakanbeckpaaGreatDoor.De
namespace Go.Proofs.YtmigakanbeckpaaGreatDoor.De
set_option maxRecDepth 100000
open Go.RowKit
attribute [local go_sem ↓] Go.wp_at_zero Go.wp_at_succ
theorem refPutBig_own (a:Int) (w:World) :
  Calls Tryz.prog 49 #[.agg #[.int .u64 (L 0 a),.int .u64 (L 1 a),.int .u64 (L 2 a),.int .u64 (L 3 a)]] w fun e w'=>∃ g cap,e=.returned (.slice (some ⟨g,0,none⟩) 32 cap)∧32≤cap∧Row8 w' g 32 (fun i=>Y (31-i) a)∧Below w.heap.size w w':=by
 go_enter Tryz.func49,Tryz.ntmps49
 go_wp2_with fail
 with_reducible refine Calls.mono (refPutLittle_any a _) ?_
 rintro e w1 ⟨g,cap,rfl,hR,hb1⟩
 have hB1:Below w.heap.size w w1:=K.call (K.alloc (Below.refl _ _) _) hb1
 clear hb1
 go_wp2_with fail
 with_reducible refine Calls.mono (turned_any (by omega) hR.rd) ?_
 rintro e w2 ⟨v,rfl,hown,hb2⟩
 have hown2:=hown
 obtain ⟨g2,cap2,rfl,_,hR2⟩:=own_rd (f:=fun i=>Y (31-i) a) hown (fun j hj=>rv_at _ 32 32 j hj) (by omega)
 have hcp:=own_cap hown2
 clear hown hown2
 go_wp2_with fail
 go_ret
 exact ⟨g2,cap2,rfl,hcp,hR2,K.call hB1 hb2⟩
theorem made3 (w:World) (x:Nat) (h:x<256):BA (w.alloc (.cells #[.int .u8 2,.int .u8 (x:Int),.int .u8 0] 5)) (some ⟨w.heap.size,0,none⟩) 3 (fun i=>if i=1 then x else if i=0 then 2 else 0) :=
 ⟨fun i=>by
  show (if i=1 then x else if i=0 then 2 else 0)<256
  split
  ·exact h
  ·split <;> omega,Or.inr ⟨_,_,rfl,⟨fun i hi=>by
  rw [cell_of_row _ _ _ _ _ _ (heap_alloc_new w _)]
  match i,hi with
  | 0,_=>rfl
  | 1,_=>rfl
  | 2,_=>rfl⟩⟩⟩
theorem made2 (w:World) (y x:Nat) (hy:y<256) (h:x<256):BA (w.alloc (.cells #[.int .u8 (y:Int),.int .u8 (x:Int)] 5)) (some ⟨w.heap.size,0,none⟩) 2 (fun i=>if i=0 then y else x) :=
 ⟨fun i=>by show (if i=0 then y else x)<256;split <;> omega,Or.inr ⟨_,_,rfl,⟨fun i hi=>by
  rw [cell_of_row _ _ _ _ _ _ (heap_alloc_new w _)]
  match i,hi with
  | 0,_=>rfl
  | 1,_=>rfl⟩⟩⟩
theorem refInt_any {A:Nat} (hA:A<2 ^ 256) (w:World) :
  Calls Tryz.prog 46 #[.agg #[.int .u64 (L 0 (A:Int)),.int .u64 (L 1 (A:Int)),.int .u64 (L 2 (A:Int)),.int .u64 (L 3 (A:Int))]] w fun e w'=>∃ v,e=.returned v∧w'.ownsRow w.heap.size 5 1 v (msz A+2) (cells8 (dI A))∧Below w.heap.size w w':=by
 have hw:Below w.heap.size w (w.alloc (.cells #[.int .u64 (L 0 (A:Int)),.int .u64 (L 1 (A:Int)),.int .u64 (L 2 (A:Int)),.int .u64 (L 3 (A:Int))] 24)):=K.alloc (Below.refl _ _) _
 have HW:=hide hw
 clear hw
 go_enter Tryz.func46,Tryz.ntmps46
 go_wp2_with fail
 with_reducible refine Calls.mono (refPutBig_own (A:Int) _) ?_
 rintro e W1 ⟨g,cap,rfl,hcp,hR,hb⟩
 have HB:Hid (Below w.heap.size w W1):=K.call HW.out hb
 have HR:Hid (Row8 W1 g 32 (fun i=>Y (31-i) (A:Int))):=hR
 have HA:Hid (A<2 ^ 256):=hA
 have HC:Hid (32≤cap):=hcp
 clear HW hb hA hR hcp
 go_wp2_with fail
 go_loopg [4] 31 (fun gm s4 wr=>wr=W1∧∃ k:Nat,gm=31-k∧k≤31∧s4=.int .i64 k∧∀ i,i<k→A / 256 ^ (31-i) % 256=0)
 case atStart=>exact ⟨rfl,0,rfl,by omega,rfl,fun i hi=>by omega⟩
 case round =>
  obtain ⟨rfl,k,rfl,hk,rfl,h0⟩:=hrel
  have H0:Hid (∀ i,i<k→A / 256 ^ (31-i) % 256=0):=h0
  have hc:=HR.out.c k (by omega)
  rw [Y_nat] at hc
  have HK:Hid (A / 256 ^ (31-k) % 256<256):=Nat.mod_lt _ (by decide)
  obtain ⟨y,hy⟩:∃ y,y=A / 256 ^ (31-k) % 256:=⟨_,rfl⟩
  rw [← hy] at hc HK
  have HY:=hide hy
  clear h0 hy
  have hki:(k:Int)≤31:=by omega
  have hy256:=HK.out
  by_cases hlt:k<31
  ·have hlti:(k:Int)<31:=by omega
   by_cases h0:y=0
   ·subst h0
    go_wp2_with fail
    go_roundg (31-(k+1))
    case measure=>omega
    case rel=>exact ⟨rfl,k+1,rfl,by omega,by go_num,fun i hi=>by
     rcases Nat.lt_or_ge i k with hl | hl
     ·exact H0.out i hl
     ·obtain rfl:i=k:=by omega
      exact HY.out.symm⟩
   ·have h0i:¬ (y:Int)=0:=by omega
    by_cases hq:128≤y
    ·have hqi:(128:Int)≤(y:Int):=by omega
     have HL:Hid (dI A=[2,33-k,0]++fl (fun i=>A / 256 ^ (31-(k+i)) % 256) (32-k)):=by
      show dI A=_
      rw [dI_lead HA.out (by omega) H0.out (Or.inr (by rw [← HY.out];exact h0)),if_pos (by rw [← HY.out];exact hq)]
     obtain ⟨xk,hxk⟩:∃ xk,xk=33-k:=⟨_,rfl⟩
     have hx1:(32:Int)-(k:Int)+1=((xk:Nat):Int):=by omega
     have HB1:=hide (K.alloc HB.out (.cells #[.int .u8 2,.int .u8 ((xk:Nat):Int),.int .u8 0] 5))
     have hsl:∀ W:World,(Instr.sliceAt 25 (.slice (some ⟨g,0,none⟩) 32 cap) (some (.int .i64 (k:Int))) none none).run Tryz.prog W=.ok (.slice (some ⟨g,k,none⟩) (32-k) (cap-k)) W:=fun W=>by
      have ea:(⟨g,0,none⟩:Addr).add k=⟨g,0+k,none⟩:=by unfold Addr.add;split <;> simp_all
      rw [run_fromS (by omega) W,cutA,if_neg (by have:=HC.out;omega),Option.map_some,ea,Nat.zero_add]
     have HX:Hid (xk=33-k∧xk<256):=⟨hxk,by omega⟩
     have HO:Hid ((wr.alloc (.cells #[.int .u8 2,.int .u8 ((xk:Nat):Int),.int .u8 0] 5)).ownsRow w.heap.size 5 1 (.slice none 0 0) 0 (cells8 [])):=World.ownsRow_nil _ _ _ _
     have HM:Hid (BA (wr.alloc (.cells #[.int .u8 2,.int .u8 ((xk:Nat):Int),.int .u8 0] 5)) (some ⟨wr.heap.size,0,none⟩) 3 _):=made3 wr xk (by omega)
     clear hxk
     go_upto_region 10 with (at_builtin;refine wpList_app rfl _ _ rfl rfl HO.out rfl HM.out (by omega) HB1.out.size ?_;intro v1 w1 hO1 hg1)
     have hB1:Below w.heap.size w w1:=HB1.out.grown hg1 HB1.out.size (fun k hk=>by cases hk)
     have hB2:Below wr.heap.size wr w1:=(K.alloc (Below.refl _ wr) _).grown hg1 (K.alloc (Below.refl _ wr) _).size (fun k hk=>by cases hk)
     have HBA:Hid (BA w1 (some ⟨g,k,none⟩) (32-k) (fun i=>A / 256 ^ (31-(k+i)) % 256)):=by
      refine ⟨fun i=>Nat.mod_lt _ (by decide),Or.inr ⟨g,k,rfl,?_⟩⟩
      have hp:=(HR.out.rd.keep hB2).part k (32-k) (by omega)
      rw [Nat.zero_add] at hp
      exact hp.congr (fun i _=>Y_nat _ _)
     have HO1:=hide hO1
     have HBB:=hide hB1
     clear hO1 hg1 hB1 hB2 HB1 HO HM HR hc HB
     go_wp2_with (at_builtin;refine wpList_app rfl _ _ rfl rfl HO1.out rfl HBA.out (by omega) HBB.out.size ?_;intro v2 w2 hO2 hg2)
     have hB3:Below w.heap.size w w2:=below_append HBB.out HO1.out hg2
     have hO3:w2.ownsRow w.heap.size 5 1 v2 (msz A+2) (cells8 (dI A)):=by
      have e1:3+(32-k)=msz A+2:=by
       have:=congrArg List.length HL.out
       rw [dI_len,List.length_append,fl_len] at this
       simp at this
       omega
      have e2:dI A=[]++fl (fun i=>if i=1 then xk else if i=0 then 2 else 0) 3++fl (fun i=>A / 256 ^ (31-(k+i)) % 256) (32-k):=by
       rw [HL.out,← HX.out.1]
       rfl
      rw [e2,← e1]
      exact hO2
     clear hO2 hg2
     go_ret
     exact ⟨_,rfl,hO3,hB3⟩
    ·have hqi:¬ (128:Int)≤(y:Int):=by omega
     have HL:Hid (dI A=[2,32-k]++fl (fun i=>A / 256 ^ (31-(k+i)) % 256) (32-k)):=by
      show dI A=_
      rw [dI_lead HA.out (by omega) H0.out (Or.inr (by rw [← HY.out];exact h0)),if_neg (by rw [← HY.out];exact hq)]
     obtain ⟨xk,hxk⟩:∃ xk,xk=32-k:=⟨_,rfl⟩
     have hx1:(32:Int)-(k:Int)=((xk:Nat):Int):=by omega
     have HB1:=hide (K.alloc HB.out (.cells #[.int .u8 ((2:Nat):Int),.int .u8 ((xk:Nat):Int)] 5))
     have hsl:∀ W:World,(Instr.sliceAt 25 (.slice (some ⟨g,0,none⟩) 32 cap) (some (.int .i64 (k:Int))) none none).run Tryz.prog W=.ok (.slice (some ⟨g,k,none⟩) (32-k) (cap-k)) W:=fun W=>by
      have ea:(⟨g,0,none⟩:Addr).add k=⟨g,0+k,none⟩:=by unfold Addr.add;split <;> simp_all
      rw [run_fromS (by omega) W,cutA,if_neg (by have:=HC.out;omega),Option.map_some,ea,Nat.zero_add]
     have HX:Hid (xk=32-k∧xk<256):=⟨hxk,by omega⟩
     have HO:Hid ((wr.alloc (.cells #[.int .u8 ((2:Nat):Int),.int .u8 ((xk:Nat):Int)] 5)).ownsRow w.heap.size 5 1 (.slice none 0 0) 0 (cells8 [])):=World.ownsRow_nil _ _ _ _
     have HM:Hid (BA (wr.alloc (.cells #[.int .u8 ((2:Nat):Int),.int .u8 ((xk:Nat):Int)] 5)) (some ⟨wr.heap.size,0,none⟩) 2 _):=made2 wr 2 xk (by omega) (by omega)
     clear hxk
     go_upto_region 10 with (at_builtin;refine wpList_app rfl _ _ rfl rfl HO.out rfl HM.out (by omega) HB1.out.size ?_;intro v1 w1 hO1 hg1)
     have hB1:Below w.heap.size w w1:=HB1.out.grown hg1 HB1.out.size (fun k hk=>by cases hk)
     have hB2:Below wr.heap.size wr w1:=(K.alloc (Below.refl _ wr) _).grown hg1 (K.alloc (Below.refl _ wr) _).size (fun k hk=>by cases hk)
     have HBA:Hid (BA w1 (some ⟨g,k,none⟩) (32-k) (fun i=>A / 256 ^ (31-(k+i)) % 256)):=by
      refine ⟨fun i=>Nat.mod_lt _ (by decide),Or.inr ⟨g,k,rfl,?_⟩⟩
      have hp:=(HR.out.rd.keep hB2).part k (32-k) (by omega)
      rw [Nat.zero_add] at hp
      exact hp.congr (fun i _=>Y_nat _ _)
     have HO1:=hide hO1
     have HBB:=hide hB1
     clear hO1 hg1 hB1 hB2 HB1 HO HM HR hc HB
     go_wp2_with (at_builtin;refine wpList_app rfl _ _ rfl rfl HO1.out rfl HBA.out (by omega) HBB.out.size ?_;intro v2 w2 hO2 hg2)
     have hB3:Below w.heap.size w w2:=below_append HBB.out HO1.out hg2
     have hO3:w2.ownsRow w.heap.size 5 1 v2 (msz A+2) (cells8 (dI A)):=by
      have e1:2+(32-k)=msz A+2:=by
       have:=congrArg List.length HL.out
       rw [dI_len,List.length_append,fl_len] at this
       simp at this
       omega
      have e2:dI A=[]++fl (fun i=>if i=0 then 2 else xk) 2++fl (fun i=>A / 256 ^ (31-(k+i)) % 256) (32-k):=by
       rw [HL.out,← HX.out.1]
       rfl
      rw [e2,← e1]
      exact hO2
     clear hO2 hg2
     go_ret
     exact ⟨_,rfl,hO3,hB3⟩
  ·have hlti:¬ (k:Int)<31:=by omega
   have HK31:Hid (k=31):=by show k=31;omega
   by_cases hq:128≤y
   ·have hqi:(128:Int)≤(y:Int):=by omega
    have HL:Hid (dI A=[2,33-k,0]++fl (fun i=>A / 256 ^ (31-(k+i)) % 256) (32-k)):=by
     show dI A=_
     rw [dI_lead HA.out (by omega) H0.out (Or.inl HK31.out),if_pos (by rw [← HY.out];exact hq)]
    obtain ⟨xk,hxk⟩:∃ xk,xk=33-k:=⟨_,rfl⟩
    have hx1:(32:Int)-(k:Int)+1=((xk:Nat):Int):=by omega
    have HB1:=hide (K.alloc HB.out (.cells #[.int .u8 2,.int .u8 ((xk:Nat):Int),.int .u8 0] 5))
    have hsl:∀ W:World,(Instr.sliceAt 25 (.slice (some ⟨g,0,none⟩) 32 cap) (some (.int .i64 (k:Int))) none none).run Tryz.prog W=.ok (.slice (some ⟨g,k,none⟩) (32-k) (cap-k)) W:=fun W=>by
     have ea:(⟨g,0,none⟩:Addr).add k=⟨g,0+k,none⟩:=by unfold Addr.add;split <;> simp_all
     rw [run_fromS (by omega) W,cutA,if_neg (by have:=HC.out;omega),Option.map_some,ea,Nat.zero_add]
    have HX:Hid (xk=33-k∧xk<256):=⟨hxk,by omega⟩
    have HO:Hid ((wr.alloc (.cells #[.int .u8 2,.int .u8 ((xk:Nat):Int),.int .u8 0] 5)).ownsRow w.heap.size 5 1 (.slice none 0 0) 0 (cells8 [])):=World.ownsRow_nil _ _ _ _
    have HM:Hid (BA (wr.alloc (.cells #[.int .u8 2,.int .u8 ((xk:Nat):Int),.int .u8 0] 5)) (some ⟨wr.heap.size,0,none⟩) 3 _):=made3 wr xk (by omega)
    clear hxk
    go_upto_region 10 with (at_builtin;refine wpList_app rfl _ _ rfl rfl HO.out rfl HM.out (by omega) HB1.out.size ?_;intro v1 w1 hO1 hg1)
    have hB1:Below w.heap.size w w1:=HB1.out.grown hg1 HB1.out.size (fun k hk=>by cases hk)
    have hB2:Below wr.heap.size wr w1:=(K.alloc (Below.refl _ wr) _).grown hg1 (K.alloc (Below.refl _ wr) _).size (fun k hk=>by cases hk)
    have HBA:Hid (BA w1 (some ⟨g,k,none⟩) (32-k) (fun i=>A / 256 ^ (31-(k+i)) % 256)):=by
     refine ⟨fun i=>Nat.mod_lt _ (by decide),Or.inr ⟨g,k,rfl,?_⟩⟩
     have hp:=(HR.out.rd.keep hB2).part k (32-k) (by omega)
     rw [Nat.zero_add] at hp
     exact hp.congr (fun i _=>Y_nat _ _)
    have HO1:=hide hO1
    have HBB:=hide hB1
    clear hO1 hg1 hB1 hB2 HB1 HO HM HR hc HB
    go_wp2_with (at_builtin;refine wpList_app rfl _ _ rfl rfl HO1.out rfl HBA.out (by omega) HBB.out.size ?_;intro v2 w2 hO2 hg2)
    have hB3:Below w.heap.size w w2:=below_append HBB.out HO1.out hg2
    have hO3:w2.ownsRow w.heap.size 5 1 v2 (msz A+2) (cells8 (dI A)):=by
     have e1:3+(32-k)=msz A+2:=by
      have:=congrArg List.length HL.out
      rw [dI_len,List.length_append,fl_len] at this
      simp at this
      omega
     have e2:dI A=[]++fl (fun i=>if i=1 then xk else if i=0 then 2 else 0) 3++fl (fun i=>A / 256 ^ (31-(k+i)) % 256) (32-k):=by
      rw [HL.out,← HX.out.1]
      rfl
     rw [e2,← e1]
     exact hO2
    clear hO2 hg2
    go_ret
    exact ⟨_,rfl,hO3,hB3⟩
   ·have hqi:¬ (128:Int)≤(y:Int):=by omega
    have HL:Hid (dI A=[2,32-k]++fl (fun i=>A / 256 ^ (31-(k+i)) % 256) (32-k)):=by
     show dI A=_
     rw [dI_lead HA.out (by omega) H0.out (Or.inl HK31.out),if_neg (by rw [← HY.out];exact hq)]
    obtain ⟨xk,hxk⟩:∃ xk,xk=32-k:=⟨_,rfl⟩
    have hx1:(32:Int)-(k:Int)=((xk:Nat):Int):=by omega
    have HB1:=hide (K.alloc HB.out (.cells #[.int .u8 ((2:Nat):Int),.int .u8 ((xk:Nat):Int)] 5))
    have hsl:∀ W:World,(Instr.sliceAt 25 (.slice (some ⟨g,0,none⟩) 32 cap) (some (.int .i64 (k:Int))) none none).run Tryz.prog W=.ok (.slice (some ⟨g,k,none⟩) (32-k) (cap-k)) W:=fun W=>by
     have ea:(⟨g,0,none⟩:Addr).add k=⟨g,0+k,none⟩:=by unfold Addr.add;split <;> simp_all
     rw [run_fromS (by omega) W,cutA,if_neg (by have:=HC.out;omega),Option.map_some,ea,Nat.zero_add]
    have HX:Hid (xk=32-k∧xk<256):=⟨hxk,by omega⟩
    have HO:Hid ((wr.alloc (.cells #[.int .u8 ((2:Nat):Int),.int .u8 ((xk:Nat):Int)] 5)).ownsRow w.heap.size 5 1 (.slice none 0 0) 0 (cells8 [])):=World.ownsRow_nil _ _ _ _
    have HM:Hid (BA (wr.alloc (.cells #[.int .u8 ((2:Nat):Int),.int .u8 ((xk:Nat):Int)] 5)) (some ⟨wr.heap.size,0,none⟩) 2 _):=made2 wr 2 xk (by omega) (by omega)
    clear hxk
    go_upto_region 10 with (at_builtin;refine wpList_app rfl _ _ rfl rfl HO.out rfl HM.out (by omega) HB1.out.size ?_;intro v1 w1 hO1 hg1)
    have hB1:Below w.heap.size w w1:=HB1.out.grown hg1 HB1.out.size (fun k hk=>by cases hk)
    have hB2:Below wr.heap.size wr w1:=(K.alloc (Below.refl _ wr) _).grown hg1 (K.alloc (Below.refl _ wr) _).size (fun k hk=>by cases hk)
    have HBA:Hid (BA w1 (some ⟨g,k,none⟩) (32-k) (fun i=>A / 256 ^ (31-(k+i)) % 256)):=by
     refine ⟨fun i=>Nat.mod_lt _ (by decide),Or.inr ⟨g,k,rfl,?_⟩⟩
     have hp:=(HR.out.rd.keep hB2).part k (32-k) (by omega)
     rw [Nat.zero_add] at hp
     exact hp.congr (fun i _=>Y_nat _ _)
    have HO1:=hide hO1
    have HBB:=hide hB1
    clear hO1 hg1 hB1 hB2 HB1 HO HM HR hc HB
    go_wp2_with (at_builtin;refine wpList_app rfl _ _ rfl rfl HO1.out rfl HBA.out (by omega) HBB.out.size ?_;intro v2 w2 hO2 hg2)
    have hB3:Below w.heap.size w w2:=below_append HBB.out HO1.out hg2
    have hO3:w2.ownsRow w.heap.size 5 1 v2 (msz A+2) (cells8 (dI A)):=by
     have e1:2+(32-k)=msz A+2:=by
      have:=congrArg List.length HL.out
      rw [dI_len,List.length_append,fl_len] at this
      simp at this
      omega
     have e2:dI A=[]++fl (fun i=>if i=0 then 2 else xk) 2++fl (fun i=>A / 256 ^ (31-(k+i)) % 256) (32-k):=by
      rw [HL.out,← HX.out.1]
      rfl
     rw [e2,← e1]
     exact hO2
    clear hO2 hg2
    go_ret
    exact ⟨_,rfl,hO3,hB3⟩
end Go.Proofs.YtmigakanbeckpaaGreatDoor.De
namespace Go.Proofs.YtmigakanbeckpaaGreatDoor.De
set_option maxRecDepth 100000
open Go.RowKit
theorem i24:(Tryz.prog.info? 24).map (·.size)=some 4:=by kernel_rfl
theorem i4:(Tryz.prog.info? 4).map (·.size)=some 1:=by kernel_rfl
theorem i5:(Tryz.prog.info? 5).map (·.size)=some 1:=by kernel_rfl
theorem hm:Tryz.prog.follows .mixedOrders=true:=by kernel_rfl
theorem n_b0:Tryz.prog.built 24 []=some nz.toArray:=by kernel_rfl
theorem fl_getD {l:List Nat} {n:Nat} (h:l.length=n):fl (fun i=>l.getD i 0) n=l:=by
 apply List.ext_getElem?
 intro i
 rcases Nat.lt_or_ge i n with hi | hi
 ·rw [fl_at _ hi,List.getElem?_eq_getElem (by omega)]
  simp [List.getD_eq_getElem?_getD,List.getElem?_eq_getElem (show i<l.length by omega)]
 ·rw [List.getElem?_eq_none (by rw [fl_len];exact hi),List.getElem?_eq_none (by omega)]
theorem dI_lt {a:Nat} (h:a<2 ^ 256):∀ x ∈ dI a,x<256:=by
 intro x hx
 have:=msz_spec h
 simp only [dI,List.mem_cons] at hx
 rcases hx with rfl | rfl | hx
 ·decide
 ·omega
 ·exact be_lt _ _ x hx
theorem refEnc_any {A B:Nat} (hA:A<2 ^ 256) (hB:B<2 ^ 256) (w:World):Calls Tryz.prog 21 [.agg (nc (A:Int)).toArray,.agg (nc (B:Int)).toArray].toArray w fun e w'=>∃ v,e=.returned v∧w'.ownsRow w.heap.size 5 1 v (msz A+msz B+6) (cells8 (dE A B))∧Below w.heap.size w w':=by
 have hmA:=msz_spec hA
 have hmB:=msz_spec hB
 obtain ⟨xk,hxk⟩:∃ xk,xk=msz A+2+(msz B+2):=⟨_,rfl⟩
 have HN:2+(msz A+2)+(msz B+2)=msz A+msz B+6:=by omega
 have HL:[48,xk]++dI A++dI B=dE A B:=by
  rw [hxk]
  simp [dE,dI_len]
 refine enter (args:=[.agg (nc (((A:Nat):Int))).toArray,.agg (nc (((B:Nat):Int))).toArray]) Tryz.func21 rfl 25 rfl (lk rfl) (fun a h=>?_)
 refine aX h [] [eN 2 _,eN 3 _,eS 4 _] ⟨rfl,rfl,rfl,T0⟩ [(2,.ptr 2 0),(3,.ptr 3 0)] [(2,nc (((A:Nat):Int))),(3,nc (((B:Nat):Int)))] (fun a w h=>?_)
 refine aXQ h [1,3,4,5] [eS 8 _,eQ 9 (rowPd 5 1 (msz A+2) (cells8 (dI A))),eS 10 _,eQ 11 (rowPd 5 1 (msz B+2) (cells8 (dI B))),eS 5 (.unk 9 id),eS 6 (.unk 11 id)] ⟨rfl,fun L u=>u_callQ u (gd0 rfl) 9 rfl rfl 46 #[(.tmp 8)] #[24] rfl [.val (.agg (nc (((A:Nat):Int))).toArray)] rfl (fun vs w=>callFunc_enter Tryz.func46 (by kernel_rfl) (by kernel_rfl) vs w) (rowPd 5 1 (msz A+2) (cells8 (dI A))) (fun β a w hr=>thing_of (refInt_any hA _)),rfl,fun L u=>u_callQ u (gd0 rfl) 11 rfl rfl 46 #[(.tmp 10)] #[24] rfl [.val (.agg (nc (((B:Nat):Int))).toArray)] rfl (fun vs w=>callFunc_enter Tryz.func46 (by kernel_rfl) (by kernel_rfl) vs w) (rowPd 5 1 (msz B+2) (cells8 (dI B))) (fun β a w hr=>thing_of (refInt_any hB _)),fun L u=>u_copyQ u (gd0 rfl) 5 rfl (.tmp 9) (Or.inr rfl) rfl rfl,fun L u=>u_copyQ u (gd0 rfl) 6 rfl (.tmp 11) (Or.inr rfl) rfl rfl,T0⟩ [(5,.unk 9 id),(6,.unk 11 id)] [] [(9,rowPd 5 1 (msz A+2) (cells8 (dI A))),(11,rowPd 5 1 (msz B+2) (cells8 (dI B)))] (fun a w h=>?_)
 refine aXQ h [0,1,2,3,4,5,6,7] [eS 12 (.unk 9 id),eS 13 (.val (Value.int .i64 ((msz A+2:Nat):Int))),eS 14 (.unk 11 id),eS 15 (.val (Value.int .i64 ((msz B+2:Nat):Int))),eS 16 (.val (Value.int .i64 ((xk:Nat):Int))),eS 17 (.val (Value.int .u8 ((xk:Nat):Int))),eQ 18 (rowPd 5 1 (2) (cells8 ([48,xk]))),eS 7 (.unk 18 id)] ⟨fun L u=>u_copyQ u (gd0 rfl) 12 rfl (.tmp 5) (Or.inl rfl) rfl rfl,fun L u=>u_lenQ u (gd0 rfl) 13 rfl (.tmp 12) 25 rfl rfl rfl Tryz.underlying25,fun L u=>u_copyQ u (gd0 rfl) 14 rfl (.tmp 6) (Or.inl rfl) rfl rfl,fun L u=>u_lenQ u (gd0 rfl) 15 rfl (.tmp 14) 25 rfl rfl rfl Tryz.underlying25,fun L u=>u_bin u (gd0 rfl) _ rfl _ _ _ _ _ rfl rfl rfl (eqg_int _ _ _ _ _ _ _ _) _ (fun w=>i_add _ _ _ _ (by omega) ⟨by omega,by omega⟩ w),fun L u=>u_conv u (gd0 rfl) 17 rfl 3 5 (.tmp 16) rfl rfl (Value.int .u8 ((xk:Nat):Int)) (fun w=>c_u8 _ ⟨by omega,by omega⟩ w),fun L u=>u_litQ u (gd0 rfl) 18 rfl rfl 2 #[(0,(.const (.int .u8 48))),(1,(.tmp 17))] rfl [(0,(Value.int IntKind.u8 48)),(1,Value.int .u8 ((xk:Nat):Int))] rfl (cells8 [48,xk]) (by decide) rfl (by kernel_rfl),fun L u=>u_copyQ u (gd0 rfl) 7 rfl (.tmp 18) (Or.inr rfl) rfl rfl,T0⟩ [(5,_),(6,_),(7,.unk 18 id)] [] [(9,rowPd 5 1 (msz A+2) (cells8 (dI A))),(11,rowPd 5 1 (msz B+2) (cells8 (dI B))),(18,rowPd 5 1 (2) (cells8 ([48,xk])))] (fun a w h=>?_)
 refine wp_seq ?_
 refine sq_begin [0,1,2,3] rfl ?_
 refine sq_step h (i:=0) rfl (u_copyQ (xs:=[]) (up_seq (i:=0) (by kernel_rfl) rfl) (gd0 rfl) 19 rfl (.tmp 7) (Or.inl rfl) rfl rfl) (fun a w h=>?_)
 refine sq_step h (i:=1) rfl (u_copyQ (xs:=[]) (up_seq (i:=1) (by kernel_rfl) rfl) (gd0 rfl) 20 rfl (.tmp 5) (Or.inl rfl) rfl rfl) (fun a w h=>?_)
 refine sq_appQ (k:=2) (l:=[48,xk]) h (i:=2) rfl (gq0 rfl) 21 rfl (.tmp 19) (.tmp 20) rfl 18 rfl rfl (Or.inr rfl) (m:=(msz A+2)) (f:=(fun i=>(dI A).getD i 0)) (fun β hr=>by obtain ⟨z,c,hv,_,_,hb⟩:=row_ba (hr.thing (x:=9) (p:=rowPd 5 1 (msz A+2) (cells8 (dI A))) rfl) (dI_lt hA);exact ⟨z,c,(hr.eval (v:=.unk 9 id) rfl).trans hv,hb⟩) (by omega) [(6,.unk 11 id)] ⟨rfl,T0⟩ rfl (fun a w h=>?_)
 replace h:=h.keepQ [(6,.unk 11 id),(21,.unk 21 id)] [] [(11,rowPd 5 1 (msz B+2) (cells8 (dI B))),(21,rowPd 5 1 (2+(msz A+2)) (cells8 ([48,xk]++dI A)))] ⟨rfl,rfl,trivial⟩ trivial ⟨rfl,(congrArg (fun z=>some (rowPd 5 1 (2+(msz A+2)) (cells8 ([48,xk]++z)))) (fl_getD (dI_len _))),trivial⟩ rfl
 refine sq_step h (i:=3) rfl (u_copyQ (xs:=[]) (up_seq (i:=3) (by kernel_rfl) rfl) (gd0 rfl) 7 rfl (.tmp 21) (Or.inr rfl) rfl rfl) (fun a w h=>?_)
 replace h:=h.keepQ [(6,.unk 11 id),(7,.unk 21 id)] [] [(11,rowPd 5 1 (msz B+2) (cells8 (dI B))),(21,rowPd 5 1 (2+(msz A+2)) (cells8 ([48,xk]++dI A)))] ⟨rfl,rfl,trivial⟩ trivial ⟨rfl,rfl,trivial⟩ rfl
 refine sq_end ?_
 refine then_norm ?_
 refine wp_seq ?_
 refine sq_begin [0,1,2,3] rfl ?_
 refine sq_step h (i:=0) rfl (u_copyQ (xs:=[]) (up_seq (i:=0) (by kernel_rfl) rfl) (gd0 rfl) 22 rfl (.tmp 7) (Or.inl rfl) rfl rfl) (fun a w h=>?_)
 refine sq_step h (i:=1) rfl (u_copyQ (xs:=[]) (up_seq (i:=1) (by kernel_rfl) rfl) (gd0 rfl) 23 rfl (.tmp 6) (Or.inl rfl) rfl rfl) (fun a w h=>?_)
 refine sq_appQ (k:=2+(msz A+2)) (l:=[48,xk]++dI A) h (i:=2) rfl (gq0 rfl) 24 rfl (.tmp 22) (.tmp 23) rfl 21 rfl rfl (Or.inr rfl) (m:=(msz B+2)) (f:=(fun i=>(dI B).getD i 0)) (fun β hr=>by obtain ⟨z,c,hv,_,_,hb⟩:=row_ba (hr.thing (x:=11) (p:=rowPd 5 1 (msz B+2) (cells8 (dI B))) rfl) (dI_lt hB);exact ⟨z,c,(hr.eval (v:=.unk 11 id) rfl).trans hv,hb⟩) (by omega) [] T0 rfl (fun a w h=>?_)
 replace h:=h.keepQ [(24,.unk 24 id)] [] [(24,rowPd 5 1 (2+(msz A+2)+(msz B+2)) (cells8 ([48,xk]++dI A++dI B)))] ⟨rfl,trivial⟩ trivial ⟨(congrArg (fun z=>some (rowPd 5 1 (2+(msz A+2)+(msz B+2)) (cells8 ([48,xk]++dI A++z)))) (fl_getD (dI_len _))),trivial⟩ rfl
 refine sq_step h (i:=3) rfl (u_copyQ (xs:=[]) (up_seq (i:=3) (by kernel_rfl) rfl) (gd0 rfl) 4 rfl (.tmp 24) (Or.inr rfl) rfl rfl) (fun a w h=>?_)
 replace h:=h.keepQ [(4,.unk 24 id)] [] [(24,rowPd 5 1 (2+(msz A+2)+(msz B+2)) (cells8 ([48,xk]++dI A++dI B)))] ⟨rfl,trivial⟩ trivial ⟨rfl,trivial⟩ rfl
 refine sq_end ?_
 refine then_norm ?_
 refine wp_ret ?_
 refine ret_thing h 4 rfl (lk rfl) 24 id rfl rfl (fun v F hp hF=>?_)
 exact ⟨v,rfl,by have q:=row_back hp hF;rw [HN,HL] at q;exact q,h.grows⟩
end Go.Proofs.YtmigakanbeckpaaGreatDoor.De
namespace Go.Proofs.YtmigakanbeckpaaGreatDoor
set_option maxRecDepth 100000
open Go.RowKit
theorem E_words (a:Int):E (fun i=>Y i a) 0 8=L 0 a∧E (fun i=>Y i a) 8 8=L 1 a∧E (fun i=>Y i a) 16 8=L 2 a∧E (fun i=>Y i a) 24 8=L 3 a :=
 ⟨E_word a 0,E_word a 1,E_word a 2,E_word a 3⟩
end Go.Proofs.YtmigakanbeckpaaGreatDoor
namespace Go.Proofs.YtmigakanbeckpaaGreatDoor.De
set_option maxRecDepth 100000
open Go.RowKit
theorem foldl_num (b:List Nat):∀ x:Nat,b.foldl (fun x b=>256*x+b) x=x*256 ^ b.length+b.foldl (fun x b=>256*x+b) 0:=by
 induction b with
 | nil=>intro x;simp
 | cons y b ih =>
  intro x
  rw [List.foldl_cons,List.foldl_cons,ih (256*x+y),ih (256*0+y),List.length_cons,Nat.pow_succ]
  generalize 256 ^ b.length=p
  rw [Nat.add_mul,Nat.mul_zero,Nat.zero_add,Nat.mul_comm 256 x,Nat.mul_assoc,Nat.mul_comm 256 p]
  omega
theorem num_app (a b:List Nat):num (a++b)=num a*256 ^ b.length+num b:=by
 unfold num
 rw [List.foldl_append]
 exact foldl_num b _
theorem num_zeros (k:Nat):num (List.replicate k 0)=0:=by
 induction k with
 | zero=>rfl
 | succ k ih=>rw [List.replicate_succ',num_snoc,ih]
theorem num_lt {l:List Nat} (h:∀ x ∈ l,x<256):num l<256 ^ l.length:=by
 have h1:=num_be (num l) l.length
 rw [be_num h] at h1
 rw [h1]
 exact Nat.mod_lt _ (Nat.pow_pos (by decide))
theorem num_last {l:List Nat} (h:∀ x ∈ l,x<256) (h32:32≤l.length):num (l.drop (l.length-32))=num l % 2 ^ 256:=by
 have e:=num_app (l.take (l.length-32)) (l.drop (l.length-32))
 rw [List.take_append_drop,List.length_drop,show l.length-(l.length-32)=32 by omega] at e
 have hb:num (l.drop (l.length-32))<256 ^ 32:=by
  have:=num_lt (l:=l.drop (l.length-32)) (fun x hx=>h x (List.mem_of_mem_drop hx))
  rw [List.length_drop,show l.length-(l.length-32)=32 by omega] at this
  exact this
 have h6:(2:Nat) ^ 256=256 ^ 32:=by decide
 rw [e,h6,Nat.mul_comm,Nat.mul_add_mod,Nat.mod_eq_of_lt hb]
theorem refBig_num {z:Option Addr} {c:Nat} {w:World} {l:List Nat} (hl:l.length=32) (hlt:∀ x ∈ l,x<256) (h:BA w z 32 (fun i=>l.getD i 0)) :
  Calls Tryz.prog 34 [.slice z 32 c].toArray w fun e w'=>e=.returned (.tuple [.agg (nc ((num l:Nat):Int)).toArray,.bool true].toArray)∧Below w.heap.size w w':=by
 rcases h.at_ with h0 | ⟨b,o,rfl,hr⟩
 ·omega
 have hg:=refBig_any (cap:=c) (fun i=>⟨by omega,by have:=h.lt i;omega⟩) hr
 have hb:=be_num hlt
 rw [hl] at hb
 have key:∀ i,i<32→((l.getD (31-i) 0:Nat):Int)=Y i ((num l:Nat):Int):=fun i hi=>by
  have e:=be_at (num l) 32 (31-i) (by omega)
  rw [hb] at e
  rw [List.getD_eq_getElem?_getD,e,Y_nat]
  simp only [Option.getD_some]
  rw [show 32-1-(31-i)=i by omega]
 have e:∀ o,o+8≤32→E (fun i=>(fun i=>((l.getD i 0:Nat):Int)) (31-i)) o 8=E (fun i=>Y i ((num l:Nat):Int)) o 8:=fun o ho=>E_congr o 8 (fun i hi=>key _ (by omega))
 have w4:=E_words ((num l:Nat):Int)
 rw [e 0 (by omega),e 8 (by omega),e 16 (by omega),e 24 (by omega),w4.1,w4.2.1,w4.2.2.1,w4.2.2.2] at hg
 exact hg
end Go.Proofs.YtmigakanbeckpaaGreatDoor.De
namespace Go.Proofs.YtmigakanbeckpaaGreatDoor
set_option maxRecDepth 100000
def sameB (f g:Nat→Int) (n:Nat):Bool:=decide (∀ i,i<n→f i=g i)
theorem same_no {f g:Nat→Int} {n k:Nat} (h:k<n) (hne:f k≠g k):sameB f g n=false:=by
 unfold sameB
 rw [decide_eq_false_iff_not]
 exact fun hh=>hne (hh k h)
theorem same_yes {f g:Nat→Int} {n:Nat} (h:∀ i,i<n→f i=g i):sameB f g n=true:=decide_eq_true h
end Go.Proofs.YtmigakanbeckpaaGreatDoor
namespace Go.Proofs.YtmigakanbeckpaaGreatDoor
set_option maxRecDepth 100000
open Go.RowKit
attribute [local go_sem ↓] Go.wp_at_zero Go.wp_at_succ
theorem same_len (a1 a2:Option Addr) (n1 n2 c1 c2:Nat) (h:n1≠n2) (w:World) :
  Calls Tryz.prog 11 #[.slice a1 n1 c1,.slice a2 n2 c2] w fun e w'=>e=.returned (.bool false)∧w'=w:=by
 have hb:((n1:Int) == (n2:Int))=false:=beq_eq_false_iff_ne.2 (by omega)
 go_enter Tryz.func11,Tryz.ntmps11
 go_wp2_with fail
 go_ret
 exact ⟨rfl,rfl⟩
theorem same_none (a1 a2:Option Addr) (c1 c2:Nat) (w:World) :
  Calls Tryz.prog 11 #[.slice a1 0 c1,.slice a2 0 c2] w fun e w'=>e=.returned (.bool true)∧w'=w:=by
 go_enter Tryz.func11,Tryz.ntmps11
 go_wp2_with fail
 refine wp_loop_rounds 1 ?_
 rw [rounds_succ]
 go_wp2_with fail
 go_ret
 exact ⟨rfl,rfl⟩
theorem same_any {b o c b2 o2 c2 n:Nat} {f g:Nat→Int} (hn:n≤1000000) {w:World} (h1:Rd w b o n f) (h2:Rd w b2 o2 n g) :
  Calls Tryz.prog 11 #[.slice (some ⟨b,o,none⟩) n c,.slice (some ⟨b2,o2,none⟩) n c2] w fun e w'=>e=.returned (.bool (sameB f g n))∧Below w.heap.size w w':=by
 have H1:Hid (Rd w b o n f):=h1
 have H2:Hid (Rd w b2 o2 n g):=h2
 clear h1 h2
 go_enter Tryz.func11,Tryz.ntmps11
 go_wp2_with fail
 go_loopg [5] n (fun gh s wr=>∃ k:Nat,gh=n-k∧k≤n∧s=.int .i64 k∧(∀ i,i<k→f i=g i)∧Below w.heap.size w wr)
 case atStart=>exact ⟨0,rfl,by omega,rfl,fun i h=>by omega,Below.refl _ _⟩
 case round =>
  obtain ⟨k,rfl,hk,rfl,hall,hB⟩:=hrel
  have HA:Hid (∀ i,i<k→f i=g i):=hall
  have HB:Hid (Below w.heap.size w wr):=hB
  by_cases hlt:k<n
  ·have hc1:=(H1.out.keep hB).c k hlt
   have hc2:=(H2.out.keep hB).c k hlt
   clear hB hall
   by_cases he:f k=g k
   ·have HS:Hid (∀ i,i<k+1→f i=g i):=fun i hi=>by
     by_cases e:i=k
     ·rw [e];exact he
     ·exact HA.out i (by omega)
    rw [← he] at hc2
    clear he
    go_upto_region 6 with fail
    go_quiet (fail)
    go_wp2_with fail
    go_roundg (n-(k+1))
    case measure=>omega
    case rel=>exact ⟨k+1,rfl,by omega,by go_num,HS.out,K.drewN HB.out _⟩
   ·have hb:(f k == g k)=false:=beq_eq_false_iff_ne.2 he
    have HS:Hid (sameB f g n=false):=same_no hlt he
    clear he
    go_upto_region 6 with fail
    go_quiet (fail)
    go_wp2_with fail
    go_ret
    exact ⟨ret_bool HS.out.symm,K.drewN HB.out _⟩
  ·obtain rfl:k=n:=by omega
   clear hall hB
   go_wp2_with fail
   go_ret
   exact ⟨ret_bool (same_yes HA.out).symm,HB.out⟩
end Go.Proofs.YtmigakanbeckpaaGreatDoor
namespace Go.Proofs.YtmigakanbeckpaaGreatDoor.De
set_option maxRecDepth 100000
open Go.RowKit
theorem same_ba {a a2:Option Addr} {n n2 c c2:Nat} {f g:Nat→Nat} {w:World} (h:BA w a n f) (h2:BA w a2 n2 g) (hn:n≤1000000) :
  Calls Tryz.prog 11 #[.slice a n c,.slice a2 n2 c2] w fun e w'=>e=.returned (.bool (decide (n=n2∧∀ i,i<n→f i=g i)))∧Below w.heap.size w w':=by
 by_cases e:n=n2
 ·subst e
  by_cases e0:n=0
  ·subst e0
   refine (same_none a a2 c c2 w).mono ?_
   rintro e w1 ⟨rfl,rfl⟩
   exact ⟨ret_bool (decide_eq_true ⟨rfl,fun i hi=>by omega⟩).symm,Below.refl _ _⟩
  ·rcases h.at_ with h0 | ⟨b,o,rfl,hr⟩
   ·omega
   rcases h2.at_ with h0 | ⟨b2,o2,rfl,hr2⟩
   ·omega
   refine (same_any hn hr hr2).mono ?_
   rintro e w1 ⟨rfl,hb⟩
   refine ⟨ret_bool ?_,hb⟩
   unfold sameB
   rw [Bool.eq_iff_iff,decide_eq_true_eq,decide_eq_true_eq]
   exact ⟨fun hh=>⟨rfl,fun i hi=>Int.ofNat_inj.1 (hh i hi)⟩,fun hh i hi=>congrArg (fun (x:Nat)=>(x:Int)) (hh.2 i hi)⟩
 ·refine (same_len a a2 n n2 c c2 e w).mono ?_
  rintro e w1 ⟨rfl,rfl⟩
  exact ⟨ret_bool (decide_eq_false (fun hh=>e hh.1)).symm,Below.refl _ _⟩
theorem same_fl {a a2:Option Addr} {n n2 c c2:Nat} {f g:Nat→Nat} {w:World} (h:BA w a n f) (h2:BA w a2 n2 g) (hn:n≤1000000) :
  Calls Tryz.prog 11 #[.slice a n c,.slice a2 n2 c2] w fun e w'=>e=.returned (.bool (decide (fl f n=fl g n2)))∧Below w.heap.size w w':=by
 have e:decide (fl f n=fl g n2)=decide (n=n2∧∀ i,i<n→f i=g i):=by
  rw [decide_eq_decide]
  constructor
  ·intro hh
   have e1:n=n2:=by
    have:=congrArg List.length hh
    rwa [fl_len,fl_len] at this
   subst e1
   refine ⟨rfl,fun i hi=>?_⟩
   have:=congrArg (fun l=>l[i]?) hh
   simpa [fl_at _ hi] using this
  ·rintro ⟨e1,hh⟩
   subst e1
   apply List.ext_getElem?
   intro i
   rcases Nat.lt_or_ge i n with hi | hi
   ·rw [fl_at _ hi,fl_at _ hi,hh i hi]
   ·rw [List.getElem?_eq_none (by rw [fl_len];exact hi),List.getElem?_eq_none (by rw [fl_len];exact hi)]
 rw [e]
 exact same_ba h h2 hn
end Go.Proofs.YtmigakanbeckpaaGreatDoor.De
namespace Go.Proofs.YtmigakanbeckpaaGreatDoor.De
set_option maxRecDepth 100000
open Go.RowKit
theorem fl_cut {f:Nat→Nat} {n k m:Nat} (h:k+m≤n):((fl f n).drop k).take m=fl (fun i=>f (k+i)) m:=by
 apply List.ext_getElem?
 intro i
 rcases Nat.lt_or_ge i m with hi | hi
 ·rw [fl_at _ hi,List.getElem?_take_of_lt hi,List.getElem?_drop,fl_at _ (by omega)]
 ·rw [List.getElem?_eq_none (by rw [List.length_take];omega),List.getElem?_eq_none (by rw [fl_len];exact hi)]
theorem fl_tail {f:Nat→Nat} {n k:Nat} (h:k≤n):(fl f n).drop k=fl (fun i=>f (k+i)) (n-k):=by
 rw [← fl_cut (n:=n) (by omega),List.take_of_length_le (by rw [List.length_drop,fl_len];omega)]
theorem pad_lt {f:Nat→Nat} (hf:∀ i,f i<256) (k n:Nat):∀ x ∈ List.replicate k 0++fl f n,x<256:=by
 intro x hx
 rcases List.mem_append.1 hx with h | h
 ·rw [(List.mem_replicate.1 h).2];decide
 ·exact fl_lt hf n x h
theorem refBig_tail {f:Nat→Nat} {n k c:Nat} {z:Option Addr} {w:World} (hf:∀ i,f i<256) (hk:32≤k+n) (hb:BA w z (k+n-(k+n-32)) (fun i=>(List.replicate k 0++fl f n).getD (k+n-32+i) 0)):Calls Tryz.prog 34 [.slice z (k+n-(k+n-32)) c].toArray w fun e w'=>e=.returned (.tuple [.agg (nc ((num (fl f n) % 2 ^ 256:Nat):Int)).toArray,.bool true].toArray)∧Below w.heap.size w w':=by
 have e32:k+n-(k+n-32)=32:=by omega
 have hlen:(List.replicate k 0++fl f n).length=k+n:=by rw [List.length_append,List.length_replicate,fl_len]
 have hlt:=pad_lt hf k n
 have hn:num ((List.replicate k 0++fl f n).drop (k+n-32))=num (fl f n) % 2 ^ 256:=by
  rw [← hlen,num_last hlt (by omega),num_app,num_zeros,Nat.zero_mul,Nat.zero_add]
 rw [e32] at hb ⊢
 rw [← hn]
 have e:(fun i=>(List.replicate k 0++fl f n).getD (k+n-32+i) 0)=fun i=>((List.replicate k 0++fl f n).drop (k+n-32)).getD i 0:=by
  funext i
  rw [List.getD_eq_getElem?_getD,List.getD_eq_getElem?_getD,List.getElem?_drop]
 rw [e] at hb
 exact refBig_num (by rw [List.length_drop,hlen];omega) (fun x hx=>hlt x (List.mem_of_mem_drop hx)) hb
theorem refNum_any {A:Option Addr} {n c:Nat} {f:Nat→Nat} {w:World} (hba:BA w A n f) (hn:n≤1000):Calls Tryz.prog 41 [.slice A n c].toArray w fun e w'=>e=.returned (.agg (nc ((num (fl f n) % 2 ^ 256:Nat):Int)).toArray)∧Below w.heap.size w w':=by
 refine enter (args:=[Value.slice (A) (n) (c)]) Tryz.func41 rfl 29 rfl (lk rfl) (fun a h=>?_)
 refine aX h [] [eN 2 _] ⟨rfl,T0⟩ [(0,.val (Value.slice (A) (n) (c))),(2,.ptr 2 0)] [(2,nz)] (fun a w h=>?_)
 refine aX h [] [eS 3 _] ⟨rfl,T0⟩ [(0,_),(2,_),(3,.val ((Value.slice none 0 0)))] [(2,_)] (fun a w h=>?_)
 refine wp_seq ?_
 refine aX h [1] [eS 7 _,eS 8 (.val (Value.int .i64 ((n:Nat):Int))),eS 4 _] ⟨rfl,fun L u=>u_lenV u (gd0 rfl) 8 rfl (.tmp 7) 25 rfl rfl Tryz.underlying25,rfl,T0⟩ [(0,_),(2,_),(3,_),(4,.val (Value.int .i64 ((n:Nat):Int)))] [(2,_)] (fun a w h=>?_)
 refine wp_block ?_
 replace h:=(h.nil 5 1 15 3 rfl rfl).keepQ [(0,.val (Value.slice (A) (n) (c))),(2,.ptr 2 0),(3,.unk 15 id),(4,.val (Value.int .i64 ((n:Nat):Int)))] [(2,nz)] [(15,rowPd 5 1 0 [])] ⟨rfl,rfl,rfl,rfl,trivial⟩ ⟨rfl,trivial⟩ ⟨rfl,trivial⟩ rfl
 refine go_loop (fun (k:Nat)=>SS.mkQ [(0,.val (Value.slice (A) (n) (c))),(2,.ptr 2 0),(3,.unk 15 id),(4,.val (Value.int .i64 ((n+k:Nat):Int)))] [(2,nz)] [(15,rowPd 5 1 (k) (cells8 (List.replicate (k) 0)))]) (fun k=>n+k≤33∨k=0) (fun k=>33-(n+k)) (i:=0) (h.keepQ [(0,.val (Value.slice (A) (n) (c))),(2,.ptr 2 0),(3,.unk 15 id),(4,.val (Value.int .i64 ((n+0:Nat):Int)))] [(2,nz)] [(15,rowPd 5 1 (0) (cells8 (List.replicate (0) 0)))] ⟨rfl,rfl,rfl,rfl,T0⟩ ⟨rfl,T0⟩ ⟨rfl,T0⟩ rfl) (Or.inr rfl) (fun k a w hG h=>?_)
 by_cases hs:n+k<33
 ·skip
  refine wp_seq ?_
  refine aXQ h [1] [eS 9 _,eS 10 (.val (Value.bool true))] ⟨rfl,fun L u=>u_bin u (gd0 rfl) _ rfl _ _ _ _ _ rfl rfl rfl (eqg_int _ _ _ _ _ _ _ _) _ (yes_of (fun w=>i_lss _ _ _ _ w) (by omega)),T0⟩ [(0,_),(2,_),(3,_),(4,_),(10,.val (Value.bool true))] [(2,_)] [(15,rowPd 5 1 (k) (cells8 (List.replicate (k) 0)))] (fun a w h=>?_)
  refine go_cond h true rfl (fun ht=>?_) (fun hf=>?_)
  case refine_2=>cases hf
  refine wp_skip ?_
  refine then_norm ?_
  refine wp_seq ?_
  refine wp_block ?_
  refine sq_begin [0,1,2,3] rfl ?_
  refine sq_step h (i:=0) rfl (u_copyQ (xs:=[]) (up_seq (i:=0) (by kernel_rfl) rfl) (gd0 rfl) 13 rfl (.tmp 3) (Or.inl rfl) rfl rfl) (fun a w h=>?_)
  refine sq_step h (i:=1) rfl (u_litQ (xs:=[]) (up_seq (i:=1) (by kernel_rfl) rfl) (gd0 rfl) 14 rfl rfl 1 #[(0,(.const (.int .u8 0)))] rfl [(0,(Value.int IntKind.u8 0))] rfl (cells8 [0]) (by decide) rfl (by kernel_rfl)) (fun a w h=>?_)
  refine sq_appQ (k:=k) (l:=List.replicate (k) 0) h (i:=2) rfl (gq0 rfl) 15 rfl (.tmp 13) (.tmp 14) rfl 15 rfl rfl (Or.inl rfl) (m:=1) (f:=(fun i=>[0].getD i 0)) (fun β hr=>by obtain ⟨z,c,hv,_,_,hb⟩:=row_ba (l:=[0]) (hr.thing (x:=14) (p:=rowPd 5 1 (1) (cells8 ([0]))) rfl) (fun x hx=>by rw [List.mem_singleton.1 hx];decide);exact ⟨z,c,(hr.eval (v:=.unk 14 id) rfl).trans hv,hb⟩) (by omega) [(0,.val (Value.slice (A) (n) (c))),(2,.ptr 2 0),(4,.val (Value.int .i64 ((n+k:Nat):Int)))] ⟨rfl,rfl,rfl,T0⟩ rfl (fun a w h=>?_)
  replace h:=h.keepQ [(0,.val (Value.slice (A) (n) (c))),(2,.ptr 2 0),(4,.val (Value.int .i64 ((n+k:Nat):Int))),(15,.unk 15 id)] [(2,nz)] [(15,rowPd 5 1 (k+1) (cells8 (List.replicate (k+1) 0)))] ⟨rfl,rfl,rfl,rfl,trivial⟩ ⟨rfl,trivial⟩ ⟨(congrArg (fun z=>some (rowPd 5 1 (k+1) (cells8 z))) (show List.replicate (k) 0++fl (fun i=>[0].getD i 0) 1=List.replicate (k+1) 0 by rw [List.replicate_succ'];rfl)),trivial⟩ rfl
  refine sq_step h (i:=3) rfl (u_copyQ (xs:=[]) (up_seq (i:=3) (by kernel_rfl) rfl) (gd0 rfl) 3 rfl (.tmp 15) (Or.inr rfl) rfl rfl) (fun a w h=>?_)
  replace h:=h.keepQ [(0,.val (Value.slice (A) (n) (c))),(2,.ptr 2 0),(3,.unk 15 id),(4,.val (Value.int .i64 ((n+k:Nat):Int)))] [(2,nz)] [(15,rowPd 5 1 (k+1) (cells8 (List.replicate (k+1) 0)))] ⟨rfl,rfl,rfl,rfl,trivial⟩ ⟨rfl,trivial⟩ ⟨rfl,trivial⟩ rfl
  refine sq_end ?_
  refine blk_norm ?_
  refine then_norm ?_
  refine aEQ h [1] [eS 11 _,eS 12 (.val (Value.int .i64 ((n+(k+1):Nat):Int))),eS 4 _] ⟨rfl,fun L u=>u_bin u (gd0 rfl) _ rfl _ _ _ _ _ rfl rfl rfl (eqg_int _ _ _ _ _ _ _ _) _ (fun w=>i_add _ _ _ _ (by omega) ⟨by omega,by omega⟩ w),rfl,T0⟩ [(0,_),(2,_),(3,_),(4,.val (Value.int .i64 ((n+(k+1):Nat):Int)))] [(2,_)] [(15,rowPd 5 1 (k+1) (cells8 (List.replicate (k+1) 0)))] (fun a w h=>?_)
  refine then_norm ?_
  exact ⟨k+1,(Or.inl (by omega)),(by omega),h.keepQ [(0,.val (Value.slice (A) (n) (c))),(2,.ptr 2 0),(3,.unk 15 id),(4,.val (Value.int .i64 ((n+k+1:Nat):Int)))] [(2,nz)] [(15,rowPd 5 1 (k+1) (cells8 (List.replicate (k+1) 0)))] ⟨rfl,rfl,rfl,rfl,trivial⟩ ⟨rfl,trivial⟩ ⟨rfl,trivial⟩ rfl⟩
 ·skip
  refine wp_seq ?_
  refine aXQ h [1] [eS 9 _,eS 10 (.val (Value.bool false))] ⟨rfl,fun L u=>u_bin u (gd0 rfl) _ rfl _ _ _ _ _ rfl rfl rfl (eqg_int _ _ _ _ _ _ _ _) _ (no_of (fun w=>i_lss _ _ _ _ w) (by omega)),T0⟩ [(0,_),(2,_),(3,_),(4,_),(10,.val (Value.bool false))] [(2,_)] [(15,rowPd 5 1 (k) (cells8 (List.replicate (k) 0)))] (fun a w h=>?_)
  refine go_cond h false rfl (fun ht=>?_) (fun hf=>?_)
  case refine_1=>cases ht
  refine wp_exit ?_
  refine then_exit ?_
  refine then_exit ?_
  refine blk_exit ?_
  refine then_norm ?_
  refine wp_seq ?_
  refine sq_begin [0,1,2,3] rfl ?_
  refine sq_step h (i:=0) rfl (u_copyQ (xs:=[]) (up_seq (i:=0) (by kernel_rfl) rfl) (gd0 rfl) 16 rfl (.tmp 3) (Or.inl rfl) rfl rfl) (fun a w h=>?_)
  refine sq_step h (i:=1) rfl (u_move (xs:=[]) (up_seq (i:=1) (by kernel_rfl) rfl) (gd0 rfl) 17 rfl (.tmp 0) (Or.inl rfl) rfl) (fun a w h=>?_)
  refine sq_appQ (k:=k) (l:=List.replicate (k) 0) h (i:=2) rfl (gq0 rfl) 18 rfl (.tmp 16) (.tmp 17) rfl 15 rfl rfl (Or.inr rfl) (m:=n) (f:=f) (fun β hr=>⟨A,c,hr.eval (v:=.val (.slice A n c)) rfl,hba.keep (Bs.kp_of hr.bl)⟩) (by omega) [(2,.ptr 2 0)] ⟨rfl,T0⟩ rfl (fun a w h=>?_)
  replace h:=h.keepQ [(2,.ptr 2 0),(18,.unk 18 id)] [(2,nz)] [(18,rowPd 5 1 (k+n) (cells8 (List.replicate k 0++fl f n)))] ⟨rfl,rfl,trivial⟩ ⟨rfl,trivial⟩ ⟨rfl,trivial⟩ rfl
  refine sq_step h (i:=3) rfl (u_copyQ (xs:=[]) (up_seq (i:=3) (by kernel_rfl) rfl) (gd0 rfl) 3 rfl (.tmp 18) (Or.inr rfl) rfl rfl) (fun a w h=>?_)
  replace h:=h.keepQ [(2,.ptr 2 0),(3,.unk 18 id)] [(2,nz)] [(18,rowPd 5 1 (k+n) (cells8 (List.replicate k 0++fl f n)))] ⟨rfl,rfl,trivial⟩ ⟨rfl,trivial⟩ ⟨rfl,trivial⟩ rfl
  refine sq_end ?_
  refine then_norm ?_
  refine aX h [0,1,2,3,4,5] [eS 20 (.unk 18 id),eS 21 (.unk 18 id),eS 22 (.val (Value.int .i64 ((k+n:Nat):Int))),eS 23 (.val (Value.int .i64 ((k+n-32:Nat):Int))),eS 24 (.unk 18 (tailV (k+n-32))),eS 25 (.val (.tuple [Value.agg (nc (((num (fl f n) % 2 ^ 256:Nat):Int))).toArray,Value.bool true].toArray)),eS 19 _,eS 26 _,eS 27 _,eN 5 _,eM 5 _,eS 6 _] ⟨fun L u=>u_copyQ u (gd0 rfl) 20 rfl (.tmp 3) (Or.inl rfl) rfl rfl,fun L u=>u_copyQ u (gd0 rfl) 21 rfl (.tmp 3) (Or.inl rfl) rfl rfl,fun L u=>u_lenQ u (gd0 rfl) 22 rfl (.tmp 21) 25 rfl rfl rfl Tryz.underlying25,fun L u=>u_bin u (gd0 rfl) _ rfl _ _ _ _ _ rfl rfl rfl (eqg_int _ _ _ _ _ _ _ _) _ (fun w=>i_sub _ _ _ _ (by omega) ⟨by omega,by omega⟩ w),fun L u=>u_tailQ u (gd0 rfl) 24 rfl (.tmp 20) (.tmp 23) rfl rfl rfl (k+n-32) rfl (by omega),fun L u=>u_callR u (gd0 rfl) 25 rfl 34 #[(.tmp 24)] #[25] rfl [.unk 18 (tailV (k+n-32))] rfl (fun vs w=>callFunc_enter Tryz.func34 (by kernel_rfl) (by kernel_rfl) vs w) (.tuple [.agg (nc (((num (fl f n) % 2 ^ 256:Nat):Int))).toArray,Value.bool true].toArray) (fun β a w hr=>by obtain ⟨z,c,hv,hb⟩:=row_tail (hr.thing (x:=18) (p:=rowPd 5 1 (k+n) (cells8 (List.replicate k 0++fl f n))) (u.q rfl)) (pad_lt hba.lt k n) (k+n-32) (by omega);show Calls _ _ [tailV (k+n-32) (β 18).v].toArray _ _;rw [hv];exact refBig_tail hba.lt (by omega) hb),rfl,rfl,rfl,rfl,rfl,rfl,T0⟩ [(2,_),(5,.ptr 5 0)] [(2,_),(5,nc (((num (fl f n) % 2 ^ 256:Nat):Int)))] (fun a w h=>?_)
  refine aX h [] [eS 28 _,eM 2 _] ⟨rfl,rfl,T0⟩ [(2,_)] [(2,nc (((num (fl f n) % 2 ^ 256:Nat):Int)))] (fun a w h=>?_)
  refine wp_ret ?_
  refine ret_row h 2 24 rfl (lk rfl) 2 rfl (nc (((num (fl f n) % 2 ^ 256:Nat):Int))) rfl _ Tryz.underlying24 rfl i24 ?_
  exact ⟨rfl,h.grows⟩
end Go.Proofs.YtmigakanbeckpaaGreatDoor.De
namespace Go.Proofs.YtmigakanbeckpaaGreatDoor.De
set_option maxRecDepth 100000
open Go.RowKit
theorem lt_lit {l:List Nat} (h:∀ x ∈ l,x<256):∀ x ∈ l,x<256:=h
theorem lt_app {a b:List Nat} (ha:∀ x ∈ a,x<256) (hb:∀ x ∈ b,x<256):∀ x ∈ a++b,x<256:=fun x hx=>(List.mem_append.1 hx).elim (ha x) (hb x)
theorem be_getD (A:Nat) {n i:Nat} (h:i<n):(be A n).getD i 0=A / 256 ^ (n-1-i) % 256:=by
 rw [List.getD_eq_getElem?_getD,be_at A n i h]
 rfl
theorem putBig_rd (A:Nat) (w:World):Calls Tryz.prog 52 [.agg (nc (A:Int)).toArray].toArray w fun r w'=>∃ v Fp,r=.returned v∧(rdPd 32 (be A 32)).p v Fp w'∧(∀ b,Fp b=true→w.heap.size≤b∧b<w'.heap.size)∧Below w.heap.size w w':=by
 refine rd_of (be_len A 32) (Calls.mono (putBig_any (A:Int) w) ?_)
 rintro e w' ⟨rfl,hR,hb⟩
 refine ⟨_,32,rfl,Nat.le_refl _,by omega,hR.lt,⟨fun i=>?_,Or.inr ⟨_,_,rfl,hR.rd.congr (fun i hi=>?_)⟩⟩,hb⟩
 ·rcases Nat.lt_or_ge i 32 with hi | hi
  ·show (be A 32).getD i 0<256
   rw [be_getD A hi]
   exact Nat.mod_lt _ (by decide)
  ·show (be A 32).getD i 0<256
   rw [List.getD_eq_getElem?_getD,List.getElem?_eq_none (by rw [be_len];exact hi)]
   decide
 ·show Y (31-i) (A:Int)=(((be A 32).getD i 0:Nat):Int)
  rw [Y_nat,be_getD A hi,show 32-1-i=31-i by omega]
theorem big_num {z:Option Addr} {c:Nat} {w:World} {l:List Nat} (hl:l.length=32) (hlt:∀ x ∈ l,x<256) (h:BA w z 32 (fun i=>l.getD i 0)) :
  Calls Tryz.prog 70 [.slice z 32 c].toArray w fun e w'=>e=.returned (.tuple [.agg (nc ((num l:Nat):Int)).toArray,.bool true].toArray)∧Below w.heap.size w w':=by
 rcases h.at_ with h0 | ⟨b,o,rfl,hr⟩
 ·omega
 have hg:=big_any (cap:=c) (fun i=>⟨by omega,by have:=h.lt i;omega⟩) hr
 have hb:=be_num hlt
 rw [hl] at hb
 have key:∀ i,i<32→((l.getD (31-i) 0:Nat):Int)=Y i ((num l:Nat):Int):=fun i hi=>by
  have e:=be_at (num l) 32 (31-i) (by omega)
  rw [hb] at e
  rw [List.getD_eq_getElem?_getD,e,Y_nat]
  simp only [Option.getD_some]
  rw [show 32-1-(31-i)=i by omega]
 have e:∀ o,o+8≤32→E (fun i=>(fun i=>((l.getD i 0:Nat):Int)) (31-i)) o 8=E (fun i=>Y i ((num l:Nat):Int)) o 8:=fun o ho=>E_congr o 8 (fun i hi=>key _ (by omega))
 have w4:=E_words ((num l:Nat):Int)
 rw [e 0 (by omega),e 8 (by omega),e 16 (by omega),e 24 (by omega),w4.1,w4.2.1,w4.2.2.1,w4.2.2.2] at hg
 exact hg
end Go.Proofs.YtmigakanbeckpaaGreatDoor.De
namespace Go.Proofs.YtmigakanbeckpaaGreatDoor.De
set_option maxRecDepth 100000
open Go.RowKit
theorem i25:(Tryz.prog.info? 25).map (·.size)=some 1:=by kernel_rfl
def sumN (N:Nat→Nat):Nat→Nat
 | 0=>0
 | k+1=>sumN N k+N k
def catN (f:Nat→Nat→Nat) (N:Nat→Nat):Nat→List Nat
 | 0=>[]
 | k+1=>catN f N k++fl (f k) (N k)
theorem sumN_le {N:Nat→Nat} {k m:Nat} (h:k≤m):sumN N k≤sumN N m:=by
 induction m with
 | zero=>rw [show k=0 by omega];exact Nat.le_refl _
 | succ m ih =>
  by_cases e:k=m+1
  ·rw [e];exact Nat.le_refl _
  ·exact Nat.le_trans (ih (by omega)) (Nat.le_add_right _ _)
theorem concat_any {g m c:Nat} {Z:Nat→Option Addr} {N C:Nat→Nat} {f:Nat→Nat→Nat} {w:World} (hm2:m≤1000) (hcell:∀ i,i<m→w.cell? ⟨g,0+i,none⟩=some (.slice (Z i) (N i) (C i))) (hba:∀ i,i<m→BA w (Z i) (N i) (f i)) (h0:0<sumN N m) (hS:sumN N m≤1000000):Calls Tryz.prog 120 [.slice (some ⟨g,0,none⟩) m c].toArray w fun e w'=>∃ v,e=.returned v∧w'.ownsRow w.heap.size 5 1 v (sumN N m) (cells8 (catN f N m))∧Below w.heap.size w w':=by
 refine enter (args:=[Value.slice (some ⟨g,0,none⟩) (m) (c)]) Tryz.func120 rfl 36 rfl (lk rfl) (fun a h=>?_)
 refine aX h [] [eS 2 _] ⟨rfl,T0⟩ [(0,.val (Value.slice (some ⟨g,0,none⟩) (m) (c)))] [] (fun a w h=>?_)
 refine aX h [] [eS 3 _] ⟨rfl,T0⟩ [(0,_),(3,.val ((Value.int IntKind.i64 0)))] [] (fun a w h=>?_)
 refine wp_seq ?_
 refine aX h [1] [eS 9 _,eS 10 (.val (Value.int .i64 ((m:Nat):Int))),eS 11 _] ⟨rfl,fun L u=>u_lenV u (gd0 rfl) 10 rfl (.tmp 9) 103 rfl rfl Tryz.underlying103,rfl,T0⟩ [(0,_),(3,_),(9,.val (Value.slice (some ⟨g,0,none⟩) (m) (c))),(10,.val (Value.int .i64 ((m:Nat):Int))),(11,.val ((Value.int IntKind.i64 0)))] [] (fun a w h=>?_)
 refine wp_block ?_
 refine go_loop (fun (k:Nat)=>SS.mk' [(0,.val (Value.slice (some ⟨g,0,none⟩) (m) (c))),(3,.val (Value.int .i64 ((sumN N k:Nat):Int))),(9,.val (Value.slice (some ⟨g,0,none⟩) (m) (c))),(10,.val (Value.int .i64 ((m:Nat):Int))),(11,.val (Value.int .i64 ((k:Nat):Int)))] []) (fun k=>k≤m) (fun k=>m-k) (i:=0) (h.keep [(0,.val (Value.slice (some ⟨g,0,none⟩) (m) (c))),(3,.val (Value.int .i64 ((sumN N (0):Nat):Int))),(9,.val (Value.slice (some ⟨g,0,none⟩) (m) (c))),(10,.val (Value.int .i64 ((m:Nat):Int))),(11,.val (Value.int .i64 ((0:Nat):Int)))] [] ⟨rfl,rfl,rfl,rfl,rfl,T0⟩ T0 rfl) (Nat.zero_le _) (fun k a w hG h=>?_)
 by_cases hs:k<m
 ·skip
  have hS1:sumN N (k+1)=sumN N k+N k:=rfl
  have hle:=sumN_le (N:=N) (show k+1≤m by omega)
  refine aX h [0] [eS 12 (.val (Value.bool true))] ⟨fun L u=>u_bin u (gd0 rfl) _ rfl _ _ _ _ _ rfl rfl rfl (eqg_int _ _ _ _ _ _ _ _) _ (yes_of (fun w=>i_lss _ _ _ _ w) (by omega)),T0⟩ [(0,_),(3,_),(9,_),(10,_),(11,_),(12,.val (Value.bool true))] [] (fun a w h=>?_)
  refine wp_seq ?_
  refine go_cond h true rfl (fun ht=>?_) (fun hf=>?_)
  case refine_2=>cases hf
  refine wp_skip ?_
  refine then_norm ?_
  refine wp_seq ?_
  refine wp_block ?_
  refine aX h [0,1] [eS 13 (.val (Value.pointer (some ⟨g,0+(k),none⟩))),eS 14 (.val (Value.slice (Z k) (N k) (C k))),eS 5 _] ⟨fun L u=>u_atX u (gd0 rfl) 13 rfl 103 (.tmp 9) (.tmp 11) rfl rfl (k:=k) rfl Tryz.underlying103 i25 (by omega) (0+(k)) (by omega),fun L u=>u_loadX u (gd0 rfl) 14 rfl 25 (.tmp 13) rfl rfl Tryz.underlying25 rfl (Value.slice (Z k) (N k) (C k)) (hcell k hs) rfl,rfl,T0⟩ [(0,_),(3,_),(5,.val (Value.slice (Z k) (N k) (C k))),(9,_),(10,_),(11,_)] [] (fun a w h=>?_)
  refine aX h [2,3] [eS 15 _,eS 16 _,eS 17 (.val (Value.int .i64 ((N k:Nat):Int))),eS 18 (.val (Value.int .i64 ((sumN N (k+1):Nat):Int))),eS 3 _] ⟨rfl,rfl,fun L u=>u_lenV u (gd0 rfl) 17 rfl (.tmp 16) 25 rfl rfl Tryz.underlying25,fun L u=>u_bin u (gd0 rfl) _ rfl _ _ _ _ _ rfl rfl rfl (eqg_int _ _ _ _ _ _ _ _) _ (fun w=>i_add _ _ _ _ (by omega) ⟨by omega,by omega⟩ w),rfl,T0⟩ [(0,_),(3,.val (Value.int .i64 ((sumN N (k+1):Nat):Int))),(9,_),(10,_),(11,_)] [] (fun a w h=>?_)
  refine aX h [1] [eS 19 _,eS 20 (.val (Value.bool false))] ⟨rfl,fun L u=>u_bin u (gd0 rfl) _ rfl _ _ _ _ _ rfl rfl rfl (eqg_int _ _ _ _ _ _ _ _) _ (no_of (fun w=>i_lss _ _ _ _ w) (by omega)),T0⟩ [(0,_),(3,_),(9,_),(10,_),(11,_),(20,.val (Value.bool false))] [] (fun a w h=>?_)
  refine go_cond h false rfl (fun ht=>?_) (fun hf=>?_)
  case refine_1=>cases ht
  refine wp_skip ?_
  refine blk_norm ?_
  refine then_norm ?_
  refine aE h [0] [eS 22 (.val (Value.int .i64 ((k+1:Nat):Int))),eS 11 _] ⟨fun L u=>u_bin u (gd0 rfl) _ rfl _ _ _ _ _ rfl rfl rfl (eqg_int _ _ _ _ _ _ _ _) _ (fun w=>i_add _ _ _ _ (by omega) ⟨by omega,by omega⟩ w),rfl,T0⟩ [(0,_),(3,_),(9,_),(10,_),(11,.val (Value.int .i64 ((k+1:Nat):Int)))] [] (fun a w h=>?_)
  refine then_norm ?_
  exact ⟨k+1,(by omega),(by omega),h.keep [(0,.val (Value.slice (some ⟨g,0,none⟩) (m) (c))),(3,.val (Value.int .i64 ((sumN N (k+1):Nat):Int))),(9,.val (Value.slice (some ⟨g,0,none⟩) (m) (c))),(10,.val (Value.int .i64 ((m:Nat):Int))),(11,.val (Value.int .i64 ((k+1:Nat):Int)))] [] ⟨rfl,rfl,rfl,rfl,rfl,trivial⟩ trivial rfl⟩
 ·skip
  have hkm:k=m:=by omega
  refine aX h [0] [eS 12 (.val (Value.bool false))] ⟨fun L u=>u_bin u (gd0 rfl) _ rfl _ _ _ _ _ rfl rfl rfl (eqg_int _ _ _ _ _ _ _ _) _ (no_of (fun w=>i_lss _ _ _ _ w) (by omega)),T0⟩ [(0,_),(3,_),(9,_),(10,_),(11,_),(12,.val (Value.bool false))] [] (fun a w h=>?_)
  refine wp_seq ?_
  refine go_cond h false rfl (fun ht=>?_) (fun hf=>?_)
  case refine_1=>cases ht
  refine wp_exit ?_
  refine then_exit ?_
  refine then_exit ?_
  refine blk_exit ?_
  refine then_norm ?_
  refine aXQ h [1,2] [eS 23 _,eQ 24 (rowPd 5 1 (0) (cells8 ([]))),eS 6 (.unk 24 id)] ⟨rfl,fun L u=>u_callQ u (gd0 rfl) 24 rfl rfl 144 #[(.const (.slice none 0 0)),(.tmp 23)] #[25,3] rfl [.val ((Value.slice none 0 0)),.val (Value.int .i64 ((sumN N k:Nat):Int))] rfl (fun vs w=>callFunc_enter Tryz.func144 (by kernel_rfl) (by kernel_rfl) vs w) (rowPd 5 1 (0) (cells8 ([]))) (fun β a w hr=>thing_of (grow_nil (by rw [hkm];exact h0) (by rw [hkm];exact hS) _)),fun L u=>u_copyQ u (gd0 rfl) 6 rfl (.tmp 24) (Or.inr rfl) rfl rfl,T0⟩ [(0,_),(3,_),(6,.unk 24 id),(9,_),(10,_),(11,_)] [] [(24,rowPd 5 1 (0) (cells8 ([])))] (fun a w h=>?_)
  refine wp_seq ?_
  refine aXQ h [1] [eS 25 _,eS 26 (.val (Value.int .i64 ((m:Nat):Int))),eS 27 _] ⟨rfl,fun L u=>u_lenV u (gd0 rfl) 26 rfl (.tmp 25) 103 rfl rfl Tryz.underlying103,rfl,T0⟩ [(0,_),(3,_),(6,_),(9,_),(10,_),(11,_),(25,.val (Value.slice (some ⟨g,0,none⟩) (m) (c))),(26,.val (Value.int .i64 ((m:Nat):Int))),(27,.val ((Value.int IntKind.i64 0)))] [] [(24,rowPd 5 1 (0) (cells8 ([])))] (fun a w h=>?_)
  refine wp_block ?_
  replace h:=(h.rename 24 33 rfl rfl).keepQ [(0,.val (Value.slice (some ⟨g,0,none⟩) (m) (c))),(3,.val (Value.int .i64 ((sumN N k:Nat):Int))),(6,.unk 33 id),(9,.val (Value.slice (some ⟨g,0,none⟩) (m) (c))),(10,.val (Value.int .i64 ((m:Nat):Int))),(11,.val (Value.int .i64 ((k:Nat):Int))),(25,.val (Value.slice (some ⟨g,0,none⟩) (m) (c))),(26,.val (Value.int .i64 ((m:Nat):Int))),(27,.val ((Value.int IntKind.i64 0)))] [] [(33,rowPd 5 1 (0) (cells8 ([])))] ⟨rfl,rfl,rfl,rfl,rfl,rfl,rfl,rfl,rfl,trivial⟩ trivial ⟨rfl,trivial⟩ rfl
  refine go_loop (fun (k2:Nat)=>SS.mkQ [(6,.unk 33 id),(25,.val (Value.slice (some ⟨g,0,none⟩) (m) (c))),(26,.val (Value.int .i64 ((m:Nat):Int))),(27,.val (Value.int .i64 ((k2:Nat):Int)))] [] [(33,rowPd 5 1 (sumN N (k2)) (cells8 (catN f N (k2))))]) (fun k2=>k2≤m) (fun k2=>m-k2) (i:=0) (h.keepQ [(6,.unk 33 id),(25,.val (Value.slice (some ⟨g,0,none⟩) (m) (c))),(26,.val (Value.int .i64 ((m:Nat):Int))),(27,.val (Value.int .i64 ((0:Nat):Int)))] [] [(33,rowPd 5 1 (sumN N (0)) (cells8 (catN f N (0))))] ⟨rfl,rfl,rfl,rfl,T0⟩ T0 ⟨rfl,T0⟩ rfl) (Nat.zero_le _) (fun k2 a w hG h=>?_)
  by_cases hs2:k2<m
  ·skip
   have hS2:sumN N (k2+1)=sumN N k2+N k2:=rfl
   have hle2:=sumN_le (N:=N) (show k2+1≤m by omega)
   refine aXQ h [0] [eS 28 (.val (Value.bool true))] ⟨fun L u=>u_bin u (gd0 rfl) _ rfl _ _ _ _ _ rfl rfl rfl (eqg_int _ _ _ _ _ _ _ _) _ (yes_of (fun w=>i_lss _ _ _ _ w) (by omega)),T0⟩ [(6,_),(25,_),(26,_),(27,_),(28,.val (Value.bool true))] [] [(33,rowPd 5 1 (sumN N (k2)) (cells8 (catN f N (k2))))] (fun a w h=>?_)
   refine wp_seq ?_
   refine go_cond h true rfl (fun ht=>?_) (fun hf=>?_)
   case refine_2=>cases hf
   refine wp_skip ?_
   refine then_norm ?_
   refine wp_seq ?_
   refine wp_block ?_
   refine aXQ h [0,1] [eS 29 (.val (Value.pointer (some ⟨g,0+(k2),none⟩))),eS 30 (.val (Value.slice (Z k2) (N k2) (C k2))),eS 8 _] ⟨fun L u=>u_atX u (gd0 rfl) 29 rfl 103 (.tmp 25) (.tmp 27) rfl rfl (k:=k2) rfl Tryz.underlying103 i25 (by omega) (0+(k2)) (by omega),fun L u=>u_loadX u (gd0 rfl) 30 rfl 25 (.tmp 29) rfl rfl Tryz.underlying25 rfl (Value.slice (Z k2) (N k2) (C k2)) (hcell k2 hs2) rfl,rfl,T0⟩ [(6,_),(8,.val (Value.slice (Z k2) (N k2) (C k2))),(25,_),(26,_),(27,_)] [] [(33,rowPd 5 1 (sumN N (k2)) (cells8 (catN f N (k2))))] (fun a w h=>?_)
   refine sq_begin [0,1,2,3] rfl ?_
   refine sq_step h (i:=0) rfl (u_copyQ (xs:=[]) (up_seq (i:=0) (by kernel_rfl) rfl) (gd0 rfl) 31 rfl (.tmp 6) (Or.inl rfl) rfl rfl) (fun a w h=>?_)
   refine sq_step h (i:=1) rfl (u_move (xs:=[]) (up_seq (i:=1) (by kernel_rfl) rfl) (gd0 rfl) 32 rfl (.tmp 8) (Or.inl rfl) rfl) (fun a w h=>?_)
   refine sq_appQ (k:=sumN N (k2)) (l:=catN f N (k2)) h (i:=2) rfl (gq0 rfl) 33 rfl (.tmp 31) (.tmp 32) rfl 33 rfl rfl (Or.inl rfl) (m:=(N k2)) (f:=(f k2)) (fun β hr=>⟨Z k2,C k2,hr.eval (v:=.val (.slice (Z k2) (N k2) (C k2))) rfl,(hba k2 hs2).keep (Bs.kp_of hr.bl)⟩) (by omega) [(25,.val (Value.slice (some ⟨g,0,none⟩) (m) (c))),(26,.val (Value.int .i64 ((m:Nat):Int))),(27,.val (Value.int .i64 ((k2:Nat):Int)))] ⟨rfl,rfl,rfl,T0⟩ rfl (fun a w h=>?_)
   replace h:=h.keepQ [(25,.val (Value.slice (some ⟨g,0,none⟩) (m) (c))),(26,.val (Value.int .i64 ((m:Nat):Int))),(27,.val (Value.int .i64 ((k2:Nat):Int))),(33,.unk 33 id)] [] [(33,rowPd 5 1 (sumN N (k2+1)) (cells8 (catN f N (k2+1))))] ⟨rfl,rfl,rfl,rfl,trivial⟩ trivial ⟨rfl,trivial⟩ rfl
   refine sq_step h (i:=3) rfl (u_copyQ (xs:=[]) (up_seq (i:=3) (by kernel_rfl) rfl) (gd0 rfl) 6 rfl (.tmp 33) (Or.inr rfl) rfl rfl) (fun a w h=>?_)
   replace h:=h.keepQ [(6,.unk 33 id),(25,.val (Value.slice (some ⟨g,0,none⟩) (m) (c))),(26,.val (Value.int .i64 ((m:Nat):Int))),(27,.val (Value.int .i64 ((k2:Nat):Int)))] [] [(33,rowPd 5 1 (sumN N (k2+1)) (cells8 (catN f N (k2+1))))] ⟨rfl,rfl,rfl,rfl,trivial⟩ trivial ⟨rfl,trivial⟩ rfl
   refine sq_end ?_
   refine blk_norm ?_
   refine then_norm ?_
   refine aEQ h [0] [eS 34 (.val (Value.int .i64 ((k2+1:Nat):Int))),eS 27 _] ⟨fun L u=>u_bin u (gd0 rfl) _ rfl _ _ _ _ _ rfl rfl rfl (eqg_int _ _ _ _ _ _ _ _) _ (fun w=>i_add _ _ _ _ (by omega) ⟨by omega,by omega⟩ w),rfl,T0⟩ [(6,_),(25,_),(26,_),(27,.val (Value.int .i64 ((k2+1:Nat):Int)))] [] [(33,rowPd 5 1 (sumN N (k2+1)) (cells8 (catN f N (k2+1))))] (fun a w h=>?_)
   refine then_norm ?_
   exact ⟨k2+1,(by omega),(by omega),h.keepQ [(6,.unk 33 id),(25,.val (Value.slice (some ⟨g,0,none⟩) (m) (c))),(26,.val (Value.int .i64 ((m:Nat):Int))),(27,.val (Value.int .i64 ((k2+1:Nat):Int)))] [] [(33,rowPd 5 1 (sumN N (k2+1)) (cells8 (catN f N (k2+1))))] ⟨rfl,rfl,rfl,rfl,trivial⟩ trivial ⟨rfl,trivial⟩ rfl⟩
  ·skip
   have hkm2:k2=m:=by omega
   refine aXQ h [0] [eS 28 (.val (Value.bool false))] ⟨fun L u=>u_bin u (gd0 rfl) _ rfl _ _ _ _ _ rfl rfl rfl (eqg_int _ _ _ _ _ _ _ _) _ (no_of (fun w=>i_lss _ _ _ _ w) (by omega)),T0⟩ [(6,_),(25,_),(26,_),(27,_),(28,.val (Value.bool false))] [] [(33,rowPd 5 1 (sumN N (k2)) (cells8 (catN f N (k2))))] (fun a w h=>?_)
   refine wp_seq ?_
   refine go_cond h false rfl (fun ht=>?_) (fun hf=>?_)
   case refine_1=>cases ht
   refine wp_exit ?_
   refine then_exit ?_
   refine then_exit ?_
   refine blk_exit ?_
   refine then_norm ?_
   refine aXQ h [0,1] [eS 35 (.unk 33 id),eS 2 (.unk 33 id)] ⟨fun L u=>u_copyQ u (gd0 rfl) 35 rfl (.tmp 6) (Or.inl rfl) rfl rfl,fun L u=>u_copyQ u (gd0 rfl) 2 rfl (.tmp 35) (Or.inr rfl) rfl rfl,T0⟩ [(2,.unk 33 id)] [] [(33,rowPd 5 1 (sumN N (k2)) (cells8 (catN f N (k2))))] (fun a w h=>?_)
   refine wp_ret ?_
   refine ret_thing h 2 rfl (lk rfl) 33 id rfl rfl (fun v F hp hF=>?_)
   exact ⟨v,rfl,by have q:=row_back hp hF;rw [hkm2] at q;exact q,h.grows⟩
theorem con_two {n1 n2:Nat} {l1 l2:List Nat} {v:Value} {F:Nat→Bool} {w:World} (h0:0<n1+n2) (hS:n1+n2≤1000000) (h:(twoPd n1 l1 n2 l2).p v F w):Calls Tryz.prog 120 [v].toArray w fun r w'=>∃ v Fp,r=.returned v∧(rowPd 5 1 (n1+n2) (cells8 (l1++l2))).p v Fp w'∧(∀ b,Fp b=true→w.heap.size≤b∧b<w'.heap.size)∧Below w.heap.size w w':=by
 obtain ⟨g,v1,v2,rfl,_,k1,k2,⟨z1,c1,rfl,_,e1,b1,_⟩,⟨z2,c2,rfl,_,e2,b2,_⟩⟩:=h
 have hs:sumN (fun i=>if i=0 then n1 else n2) 2=n1+n2:=by simp [sumN]
 have hc:catN (fun i=>if i=0 then (fun j=>l1.getD j 0) else fun j=>l2.getD j 0) (fun i=>if i=0 then n1 else n2) 2=l1++l2:=by
  show []++fl (fun j=>l1.getD j 0) n1++fl (fun j=>l2.getD j 0) n2=_
  rw [fl_getD e1,fl_getD e2]
  rfl
 have hh:=concat_any (g:=g) (m:=2) (c:=2) (w:=w) (Z:=fun i=>if i=0 then z1 else z2) (N:=fun i=>if i=0 then n1 else n2) (C:=fun i=>if i=0 then c1 else c2) (f:=fun i=>if i=0 then (fun j=>l1.getD j 0) else fun j=>l2.getD j 0) (by decide) (fun i hi=>by
  match i,hi with
  | 0,_=>exact k1
  | 1,_=>exact k2) (fun i hi=>by
  match i,hi with
  | 0,_=>exact b1
  | 1,_=>exact b2) (by rw [hs];exact h0) (by rw [hs];exact hS)
 rw [hs,hc] at hh
 exact thing_of hh
end Go.Proofs.YtmigakanbeckpaaGreatDoor.De
