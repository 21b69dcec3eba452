/- What the program's own PutBig and Big answer. Two numbers as bytes (DER), by themselves: what a pair's bytes are, that they tell the pair, and what else they tell. What the document's own integer of layer 10 answers. What the document's own integer of layer 10 answers. What the document's own Encode of layer 10 answers. Numbers and their bytes, there and back. The number of bytes: what the last 32 of them make. Two lists of bytes are the same. What the document's own Same answers, of all lists of bytes. Two lists of bytes held against each other by the document's own Same. What the document's own number of layer 10 answers. The program's own PutBig and Big, as things and lists. What slices.Concat answers: the parts, one behind the other. -/
import Derived.Test.YtmigakanbeckpaaGreatDoorKm25
import Derived.Test.YtmigakanbeckpaaGreatDoorKm02
import Derived.Test.YtmigakanbeckpaaGreatDoorKm04
import Derived.Test.YtmigakanbeckpaaGreatDoorKm24
import Derived.Test.YtmigakanbeckpaaGreatDoorKm03
import Derived.OwnWalk
import Derived.Deep.LoopGhost
import Derived.Deep.DeepCutAuto
set_option maxHeartbeats 4000000
namespace Go.Proofs.YtmigakanbeckpaaGreatDoor
set_option maxRecDepth 100000
open Go.RowKit
attribute [local go_sem ↓] Go.wp_at_zero Go.wp_at_succ
theorem rest8 (k:Nat):k % 8=0∨k % 8=1∨k % 8=2∨k % 8=3∨k % 8=4∨k % 8=5∨k % 8=6∨k % 8=7:=by omega
theorem drop_any (x:Int) (h0:0≤x) (h1:x<18446744073709551616) (k:Nat) (hk:k<64) (w:World) :
  Calls Tryz.prog 92 #[.int .u64 x,.int .i64 k] w fun e w'=>e=.returned (.int .u8 (x / 256 ^ (k % 8) % 256))∧w'=w:=by
 rcases rest8 k with hr | hr | hr | hr | hr | hr | hr | hr
 all_goals
  rw [hr]
  have hri:(k:Int) % 8=((k % 8:Nat):Int):=by omega
  rw [hr] at hri
  clear hr
  go_enter Tryz.func92,Tryz.ntmps92
  go_wp2
  go_ret
  exact ⟨ret_int (by first | (simp;done) | (simp;omega)),rfl⟩
theorem lift_any (x:Int) (h0:0≤x) (h1:x<256) (k:Nat) (hk:k<64) (w:World) :
  Calls Tryz.prog 109 #[.int .u8 x,.int .i64 k] w fun e w'=>e=.returned (.int .u64 (x*256 ^ (k % 8)))∧w'=w:=by
 rcases rest8 k with hr | hr | hr | hr | hr | hr | hr | hr
 all_goals
  rw [hr]
  have hri:(k:Int) % 8=((k % 8:Nat):Int):=by omega
  rw [hr] at hri
  clear hr
  go_enter Tryz.func109,Tryz.ntmps109
  go_wp2
  go_ret
  exact ⟨ret_int (by simp),rfl⟩
theorem row_made {w:World} {base b n:Nat} (h:w.ownsRow base 5 1 (.slice (some ⟨b,0,none⟩) n n) n (madeCells (Value.int .u8 0).cells (n*1)).toList):Row8 w b n (fun _=>0):=by
 have hlt:=h.lt b rfl
 refine ⟨hlt.2,fun i hi=>?_,fun i _=>h.frozenAt i⟩
 rw [h.cellAt i (by omega),Nat.mul_one,show (Value.int .u8 0).cells=#[.int .u8 0] from rfl,toList_madeCells_one,List.getElem?_replicate,if_pos hi]
theorem Arr.set1 {W:World} {n b o:Nat} {y0 y1 y2 y3:Int} {v:Value} (h:Arr W b y0 y1 y2 y3) (hn:b≠n):Arr (W.setCell ⟨n,o,none⟩ v) b y0 y1 y2 y3 :=
 ⟨by have:=h.lt;simpa using this,by simp [go_sem,h.c0],by simp [go_sem,h.c1],by simp [go_sem,h.c2],by simp [go_sem,h.c3]⟩
theorem size_alloc1 (w:World) (o:Obj):(w.alloc o).heap.size=w.heap.size+1:=by simp
theorem below_grown {w w0 w1:World} (h:Below w.heap.size w w0) (hg:w0.grownBy w1 none):Below w.heap.size w w1 :=
 h.grown hg h.size (fun k hk=>by cases hk)
theorem putBig_any (a:Int) (w:World) :
  Calls Tryz.prog 52 #[.agg #[.int .u64 (L 0 a),.int .u64 (L 1 a),.int .u64 (L 2 a),.int .u64 (L 3 a)]] w fun e w'=>e=.returned (.slice (some ⟨w.heap.size+1,0,none⟩) 32 32)∧Row8 w' (w.heap.size+1) 32 (fun i=>Y (31-i) a)∧Below w.heap.size w w':=by
 obtain ⟨i0,hi,hz0,hz1,hz2⟩:=info_parts info8
 have hA0:=Arr.new w w.heap.size rfl 24 (L 0 a) (L 1 a) (L 2 a) (L 3 a)
 go_enter Tryz.func52,Tryz.ntmps52
 go_wp2_with (at_make;refine wpList_make_full _ rfl _ _ 25 rfl (w.heap.size+1) 5 i0 (.int .u8 0) 1 Tryz.underlying25 hi hz0 hz1 .i64 .i64 32 32 32 rfl rfl rfl rfl (by rw [hz2];decide) (by decide) (by simp) ?_;intro w1 hown hgrow)
 have hR1:Row8 w1 (w.heap.size+1) 32 (fun _=>0):=by have h:=row_made hown;rw [size_alloc1] at h;exact h
 have hB1:Below w.heap.size w w1:=below_grown (K.alloc (Below.refl _ w) _) hgrow
 have hA1:=hA0.keep ((Below.refl _ _).grown hgrow (Nat.le_refl _) (fun k hk=>by cases hk))
 clear hown hgrow hA0 hi hz0 hz1 hz2
 go_loopg [6] 32 (fun g s6 wr=>∃ k:Nat,g=32-k∧k≤32∧s6=.int .i64 k∧Row8 wr (w.heap.size+1) 32 (fun i=>if 31-i<k then Y (31-i) a else 0)∧Arr wr w.heap.size (L 0 a) (L 1 a) (L 2 a) (L 3 a)∧Below w.heap.size w wr)
 case atStart=>exact ⟨0,rfl,by omega,rfl,hR1.congr (fun i hi=>by simp),hA1,hB1⟩
 case round =>
  clear hR1 hA1 hB1 w1
  obtain ⟨k,rfl,hk,rfl,hR,hA,hB⟩:=hrel
  by_cases hlt:k<32
  ·have HR:Hid (Row8 wr (w.heap.size+1) 32 (fun i=>if 31-i<k then Y (31-i) a else 0)):=hR
   have HA:Hid (Arr wr w.heap.size (L 0 a) (L 1 a) (L 2 a) (L 3 a)):=hA
   have HB:Hid (Below w.heap.size w wr):=hB
   have hcell:=hR.c (31-k) (by omega)
   have hfree:=hR.z (31-k) (by omega)
   have ⟨al,a0,a1,a2,a3⟩:=hA
   have hrl:=hR.lt
   have hj:(31:Int)-k=((31-k:Nat):Int):=by omega
   have hq:(k:Int) / 8=0∨(k:Int) / 8=1∨(k:Int) / 8=2∨(k:Int) / 8=3:=by omega
   clear hR hA hB
   rcases hq with hq | hq | hq | hq
   ·have l1:=L_lo 0 a
    have l2:=L_hi 0 a
    go_wp2_with (go_at_call 92;with_reducible refine Calls.mono (drop_any (L 0 a) (by omega) (by omega) k (by omega) _) ?_;rintro e w' ⟨rfl,rfl⟩)
    go_roundg (32-(k+1))
    case measure=>omega
    case rel=>exact ⟨k+1,rfl,by omega,by go_num,(HR.out.store (31-k) (by omega) _).congr (fun i hi=>by rw [byte_word a 0 (k % 8) (by omega),show 8*0+k % 8=k by omega];(repeat' split) <;> first | rfl | (congr 1;omega) | omega),HA.out.set1 (by omega),K.set HB.out (by simp) _⟩
   ·have l1:=L_lo 1 a
    have l2:=L_hi 1 a
    go_wp2_with (go_at_call 92;with_reducible refine Calls.mono (drop_any (L 1 a) (by omega) (by omega) k (by omega) _) ?_;rintro e w' ⟨rfl,rfl⟩)
    go_roundg (32-(k+1))
    case measure=>omega
    case rel=>exact ⟨k+1,rfl,by omega,by go_num,(HR.out.store (31-k) (by omega) _).congr (fun i hi=>by rw [byte_word a 1 (k % 8) (by omega),show 8*1+k % 8=k by omega];(repeat' split) <;> first | rfl | (congr 1;omega) | omega),HA.out.set1 (by omega),K.set HB.out (by simp) _⟩
   ·have l1:=L_lo 2 a
    have l2:=L_hi 2 a
    go_wp2_with (go_at_call 92;with_reducible refine Calls.mono (drop_any (L 2 a) (by omega) (by omega) k (by omega) _) ?_;rintro e w' ⟨rfl,rfl⟩)
    go_roundg (32-(k+1))
    case measure=>omega
    case rel=>exact ⟨k+1,rfl,by omega,by go_num,(HR.out.store (31-k) (by omega) _).congr (fun i hi=>by rw [byte_word a 2 (k % 8) (by omega),show 8*2+k % 8=k by omega];(repeat' split) <;> first | rfl | (congr 1;omega) | omega),HA.out.set1 (by omega),K.set HB.out (by simp) _⟩
   ·have l1:=L_lo 3 a
    have l2:=L_hi 3 a
    go_wp2_with (go_at_call 92;with_reducible refine Calls.mono (drop_any (L 3 a) (by omega) (by omega) k (by omega) _) ?_;rintro e w' ⟨rfl,rfl⟩)
    go_roundg (32-(k+1))
    case measure=>omega
    case rel=>exact ⟨k+1,rfl,by omega,by go_num,(HR.out.store (31-k) (by omega) _).congr (fun i hi=>by rw [byte_word a 3 (k % 8) (by omega),show 8*3+k % 8=k by omega];(repeat' split) <;> first | rfl | (congr 1;omega) | omega),HA.out.set1 (by omega),K.set HB.out (by simp) _⟩
  ·go_wp2_with fail
   obtain rfl:k=32:=by omega
   go_ret
   exact ⟨rfl,hR.congr (fun i hi=>if_pos (by omega)),hB⟩
structure RowQ (w:World) (b n:Nat) (g:Nat→Int):Prop where
 lt:b<w.heap.size
 c:∀ i,i<n→w.cell? ⟨b,i,none⟩=some (.int .u64 (g i))
 z:∀ i,i<n→w.frozen? ⟨b,i,none⟩=false
theorem RowQ.keep {W w1:World} {b n:Nat} {g:Nat→Int} (h:RowQ W b n g) (hb:Below W.heap.size W w1):RowQ w1 b n g :=
 ⟨Nat.lt_of_lt_of_le h.lt hb.size,fun i hi=>later hb (h.c i hi),fun i hi=>(hb.frozen (p:=⟨b,i,none⟩) h.lt).trans (h.z i hi)⟩
theorem RowQ.congr {w:World} {b n:Nat} {f g:Nat→Int} (h:RowQ w b n f) (e:∀ i,i<n→f i=g i):RowQ w b n g :=
 ⟨h.lt,fun i hi=>by rw [← e i hi];exact h.c i hi,h.z⟩
theorem RowQ.store {w:World} {b n:Nat} {f:Nat→Int} (h:RowQ w b n f) (k:Nat) (hk:k<n) (v:Int):RowQ (w.setCell ⟨b,k,none⟩ (.int .u64 v)) b n (fun i=>if i=k then v else f i):=by
 refine ⟨by simpa using h.lt,fun i hi=>?_,fun i hi=>by rw [World.frozen?_setCell];exact h.z i hi⟩
 have hc:=h.c i hi
 have hcs:=h.c k hk
 by_cases e:i=k
 ·subst e;simp [go_sem,hc]
 ·simp [go_sem,hc,e]
theorem RowQ.other {w:World} {b n m o:Nat} {f:Nat→Int} {v:Value} (h:RowQ w b n f) (hb:b≠m):RowQ (w.setCell ⟨m,o,none⟩ v) b n f:=by
 refine ⟨by simpa using h.lt,fun i hi=>?_,fun i hi=>by rw [World.frozen?_setCell];exact h.z i hi⟩
 have hc:=h.c i hi
 simp [go_sem,hc]
theorem RowQ.drew {W:World} {b n:Nat} {g:Nat→Int} (h:RowQ W b n g):RowQ W.drew b n g:=h.keep (Below.refl _ _).drew
theorem RowQ.new4 (W:World) (b:Nat) (hb:b=W.heap.size):RowQ (W.alloc (.cells #[.int .u64 0,.int .u64 0,.int .u64 0,.int .u64 0] 24)) b 4 (fun _=>0):=by
 subst hb
 refine ⟨by simp,fun i hi=>?_,fun i hi=>by simp [go_sem]⟩
 match i,hi with
 | 0,_=>simp [go_sem]
 | 1,_=>simp [go_sem]
 | 2,_=>simp [go_sem]
 | 3,_=>simp [go_sem]
theorem or_byte {x y:Int} {r:Nat} (hr:r<8) (hx:0≤x) (hx2:x<256 ^ r) (hy:0≤y) (hy2:y<256):bits .or .u64 x (y*256 ^ r)=x+y*256 ^ r:=by
 have e:(256:Int) ^ r=((2 ^ (8*r):Nat):Int):=by rw [Nat.pow_mul];simp
 have h7:(2:Nat) ^ (8*r)≤2 ^ 56:=Nat.pow_le_pow_right (by omega) (by omega)
 rw [e] at hx2 ⊢
 obtain ⟨n,rfl⟩:=Int.eq_ofNat_of_zero_le hx
 obtain ⟨m,rfl⟩:=Int.eq_ofNat_of_zero_le hy
 have hn:n<2 ^ (8*r):=by omega
 have hm:m*2 ^ (8*r)≤255*2 ^ 56:=Nat.mul_le_mul (by omega) h7
 have hmi:(m:Int)*((2 ^ (8*r):Nat):Int)=((m*2 ^ (8*r):Nat):Int):=by simp
 rw [hmi]
 generalize hp:2 ^ (8*r)=p at *
 rw [u64_or _ _ (by omega) (by omega) (by omega) (by omega),Int.toNat_natCast,Int.toNat_natCast,Nat.or_comm,Nat.mul_comm,← hp,← Nat.two_pow_add_eq_or_of_lt (by omega)]
 omega
def G (f:Nat→Int) (k j:Nat):Int:=E f (8*j) (min 8 (k-8*j))
theorem G_zero (f:Nat→Int) (j:Nat):G f 0 j=0:=by unfold G;rw [show min 8 (0-8*j)=0 by omega];rfl
theorem G_bd {f:Nat→Int} (hf:∀ i,0≤f i∧f i<256) (k j:Nat):0≤G f k j∧G f k j<18446744073709551616:=by
 have h:=E_bd hf (8*j) (min 8 (k-8*j))
 have h8:(256:Int) ^ min 8 (k-8*j)≤256 ^ 8:=by
  have:(256:Nat) ^ min 8 (k-8*j)≤256 ^ 8:=Nat.pow_le_pow_right (by omega) (by omega)
  have h':=Int.ofNat_le.2 this
  rw [Int.natCast_pow,Int.natCast_pow] at h'
  exact h'
 exact ⟨h.1,Int.lt_of_lt_of_le h.2 (Int.le_trans h8 (by decide))⟩
theorem G_step {f:Nat→Int} (hf:∀ i,0≤f i∧f i<256) (k:Nat):bits .or .u64 (G f k (k / 8)) (f k*256 ^ (k % 8))=G f (k+1) (k / 8):=by
 have h:=E_bd hf (8*(k / 8)) (k % 8)
 unfold G
 rw [show min 8 (k-8*(k / 8))=k % 8 by omega,show min 8 (k+1-8*(k / 8))=k % 8+1 by omega,or_byte (by omega) h.1 h.2 (hf k).1 (hf k).2]
 simp only [E]
 rw [show 8*(k / 8)+k % 8=k by omega]
theorem G_other (f:Nat→Int) {k j:Nat} (h:j≠k / 8):G f k j=G f (k+1) j:=by
 unfold G
 rw [show min 8 (k-8*j)=min 8 (k+1-8*j) by omega]
theorem word_step {g h:Nat→Int} {n q:Nat} {v:Int} (hv:v=h q) (ho:∀ {i},i≠q→g i=h i):∀ i,i<n→(if i=q then v else g i)=h i:=by
 intro i _
 split
 ·next e=>rw [e];exact hv
 ·next e=>exact ho e
theorem G_full (f:Nat→Int) {n j:Nat} (h:8*j+8≤n):G f n j=E f (8*j) 8:=by
 unfold G
 rw [show min 8 (n-8*j)=8 by omega]
theorem big_any {b o cap:Nat} {f:Nat→Int} (hf:∀ i,0≤f i∧f i<256) {w:World} (hD:Rd w b o 32 f) :
  Calls Tryz.prog 70 #[.slice (some ⟨b,o,none⟩) 32 cap] w fun e w'=>e=.returned (.tuple #[.agg #[.int .u64 (E (fun i=>f (31-i)) 0 8),.int .u64 (E (fun i=>f (31-i)) 8 8),.int .u64 (E (fun i=>f (31-i)) 16 8),.int .u64 (E (fun i=>f (31-i)) 24 8)],.bool true])∧Below w.heap.size w w':=by
 have HF:Hid (∀ i,0≤f i∧f i<256):=hf
 have HD:Hid (Rd w b o 32 f):=hD
 clear hf hD
 go_enter Tryz.func70,Tryz.ntmps70
 go_wp2_with fail
 go_loopg [10] 32 (fun g s wr=>∃ k:Nat,g=32-k∧k≤32∧s=.int .i64 k∧RowQ wr (w.heap.size+1) 4 (G (fun i=>f (31-i)) k)∧RowQ wr w.heap.size 4 (fun _=>0)∧Below w.heap.size w wr)
 case atStart=>exact ⟨0,rfl,by omega,rfl,(RowQ.new4 _ _ (by simp)).congr (fun i _=>(G_zero _ i).symm),(RowQ.new4 w _ rfl).keep ((Below.refl _ _).alloc (Nat.le_refl _) _),K.alloc (K.alloc (Below.refl _ w) _) _⟩
 case round =>
  obtain ⟨k,rfl,hk,rfl,hR,hZ,hB⟩:=hrel
  by_cases hlt:k<32
  ·have hx:=HF.out (31-k)
   have hd:=(HD.out.keep hB).c (31-k) (by omega)
   have HR:Hid (RowQ wr (w.heap.size+1) 4 (G (fun i=>f (31-i)) k)):=hR
   have HZ:Hid (RowQ wr w.heap.size 4 (fun _=>0)):=hZ
   have HB:Hid (Below w.heap.size w wr):=hB
   have hrl:=hR.lt
   obtain ⟨j,hjj⟩:∃ j,j=31-k:=⟨_,rfl⟩
   have HJ:Hid (j=31-k):=hjj
   have hj:(31:Int)-k=(j:Int):=by omega
   have hw:IntKind.i64.wrap (j:Int)=(j:Int):=IntWalk.i64_in _ (by omega)
   have hj0:(0:Int)≤(j:Int):=by omega
   have hj1:(j:Int)<32:=by omega
   rw [← hjj] at hx hd
   clear hjj
   have hq:k / 8=0∨k / 8=1∨k / 8=2∨k / 8=3:=by omega
   clear hR hZ hB
   rcases hq with hq | hq | hq | hq
   ·have HQ:Hid (k / 8=0):=hq
    have hqi:(k:Int) / 8=0:=by omega
    have hg:=G_bd (f:=(fun i=>f (31-i))) (fun i=>HF.out _) k 0
    have hc:=HR.out.c 0 (by omega)
    have hz:=HR.out.z 0 (by omega)
    clear hq
    go_upto_region 7 with fail
    apply wp_mono (Q:=Only _ _)
    ·go_region_with (go_at_call 109;with_reducible refine Calls.mono (lift_any (f j) hx.1 hx.2 k (by omega) _) ?_;rintro e w' ⟨rfl,rfl⟩)
     all_goals exact Only.intro _ _
    refine Only.out ?_
    have HG:Hid (bits .or .u64 (G (fun i=>f (31-i)) k 0) ((f j)*256 ^ (k % 8))=G (fun i=>f (31-i)) (k+1) 0):=by have h:=G_step (f:=(fun i=>f (31-i))) (fun i=>HF.out _) k;rw [HQ.out] at h;rw [HJ.out];exact h
    clear hc hz hd hx hg
    go_wp2_with fail
    go_roundg (32-(k+1))
    case measure=>omega
    case rel=>exact ⟨k+1,rfl,by omega,by go_num,((HR.out.store 0 (by omega) _).congr (word_step HG.out (fun e=>G_other _ (by rw [HQ.out];exact e)))).drew,(HZ.out.other (by omega)).drew,K.drew (K.set HB.out (by simp) _)⟩
   ·have HQ:Hid (k / 8=1):=hq
    have hqi:(k:Int) / 8=1:=by omega
    have hg:=G_bd (f:=(fun i=>f (31-i))) (fun i=>HF.out _) k 1
    have hc:=HR.out.c 1 (by omega)
    have hz:=HR.out.z 1 (by omega)
    clear hq
    go_upto_region 7 with fail
    apply wp_mono (Q:=Only _ _)
    ·go_region_with (go_at_call 109;with_reducible refine Calls.mono (lift_any (f j) hx.1 hx.2 k (by omega) _) ?_;rintro e w' ⟨rfl,rfl⟩)
     all_goals exact Only.intro _ _
    refine Only.out ?_
    have HG:Hid (bits .or .u64 (G (fun i=>f (31-i)) k 1) ((f j)*256 ^ (k % 8))=G (fun i=>f (31-i)) (k+1) 1):=by have h:=G_step (f:=(fun i=>f (31-i))) (fun i=>HF.out _) k;rw [HQ.out] at h;rw [HJ.out];exact h
    clear hc hz hd hx hg
    go_wp2_with fail
    go_roundg (32-(k+1))
    case measure=>omega
    case rel=>exact ⟨k+1,rfl,by omega,by go_num,((HR.out.store 1 (by omega) _).congr (word_step HG.out (fun e=>G_other _ (by rw [HQ.out];exact e)))).drew,(HZ.out.other (by omega)).drew,K.drew (K.set HB.out (by simp) _)⟩
   ·have HQ:Hid (k / 8=2):=hq
    have hqi:(k:Int) / 8=2:=by omega
    have hg:=G_bd (f:=(fun i=>f (31-i))) (fun i=>HF.out _) k 2
    have hc:=HR.out.c 2 (by omega)
    have hz:=HR.out.z 2 (by omega)
    clear hq
    go_upto_region 7 with fail
    apply wp_mono (Q:=Only _ _)
    ·go_region_with (go_at_call 109;with_reducible refine Calls.mono (lift_any (f j) hx.1 hx.2 k (by omega) _) ?_;rintro e w' ⟨rfl,rfl⟩)
     all_goals exact Only.intro _ _
    refine Only.out ?_
    have HG:Hid (bits .or .u64 (G (fun i=>f (31-i)) k 2) ((f j)*256 ^ (k % 8))=G (fun i=>f (31-i)) (k+1) 2):=by have h:=G_step (f:=(fun i=>f (31-i))) (fun i=>HF.out _) k;rw [HQ.out] at h;rw [HJ.out];exact h
    clear hc hz hd hx hg
    go_wp2_with fail
    go_roundg (32-(k+1))
    case measure=>omega
    case rel=>exact ⟨k+1,rfl,by omega,by go_num,((HR.out.store 2 (by omega) _).congr (word_step HG.out (fun e=>G_other _ (by rw [HQ.out];exact e)))).drew,(HZ.out.other (by omega)).drew,K.drew (K.set HB.out (by simp) _)⟩
   ·have HQ:Hid (k / 8=3):=hq
    have hqi:(k:Int) / 8=3:=by omega
    have hg:=G_bd (f:=(fun i=>f (31-i))) (fun i=>HF.out _) k 3
    have hc:=HR.out.c 3 (by omega)
    have hz:=HR.out.z 3 (by omega)
    clear hq
    go_upto_region 7 with fail
    apply wp_mono (Q:=Only _ _)
    ·go_region_with (go_at_call 109;with_reducible refine Calls.mono (lift_any (f j) hx.1 hx.2 k (by omega) _) ?_;rintro e w' ⟨rfl,rfl⟩)
     all_goals exact Only.intro _ _
    refine Only.out ?_
    have HG:Hid (bits .or .u64 (G (fun i=>f (31-i)) k 3) ((f j)*256 ^ (k % 8))=G (fun i=>f (31-i)) (k+1) 3):=by have h:=G_step (f:=(fun i=>f (31-i))) (fun i=>HF.out _) k;rw [HQ.out] at h;rw [HJ.out];exact h
    clear hc hz hd hx hg
    go_wp2_with fail
    go_roundg (32-(k+1))
    case measure=>omega
    case rel=>exact ⟨k+1,rfl,by omega,by go_num,((HR.out.store 3 (by omega) _).congr (word_step HG.out (fun e=>G_other _ (by rw [HQ.out];exact e)))).drew,(HZ.out.other (by omega)).drew,K.drew (K.set HB.out (by simp) _)⟩
  ·obtain rfl:k=32:=by omega
   have c0:=hR.c 0 (by omega)
   have c1:=hR.c 1 (by omega)
   have c2:=hR.c 2 (by omega)
   have c3:=hR.c 3 (by omega)
   have z0:=hZ.c 0 (by omega)
   have z1:=hZ.c 1 (by omega)
   have z2:=hZ.c 2 (by omega)
   have z3:=hZ.c 3 (by omega)
   have y0:=hZ.z 0 (by omega)
   have y1:=hZ.z 1 (by omega)
   have y2:=hZ.z 2 (by omega)
   have y3:=hZ.z 3 (by omega)
   have zl:=hZ.lt
   have cl:=hR.lt
   rw [G_full _ (show 8*0+8≤32 by omega)] at c0
   rw [G_full _ (show 8*1+8≤32 by omega)] at c1
   rw [G_full _ (show 8*2+8≤32 by omega)] at c2
   rw [G_full _ (show 8*3+8≤32 by omega)] at c3
   clear hR hZ
   go_wp2_with fail
   exact bodyPost_ret (v:=.tuple #[.agg #[.int .u64 (E (fun i=>f (31-i)) 0 8),.int .u64 (E (fun i=>f (31-i)) 8 8),.int .u64 (E (fun i=>f (31-i)) 16 8),.int .u64 (E (fun i=>f (31-i)) 24 8)],.bool true]) (by simp [results,Tryz.results70,go_sem,z0,z1,z2,z3]) rfl ⟨rfl,K.set (K.set (K.set (K.set (hB) (by simp) _) (by simp) _) (by simp) _) (by simp) _⟩
end Go.Proofs.YtmigakanbeckpaaGreatDoor
namespace Go.Proofs.YtmigakanbeckpaaGreatDoor.De
set_option maxRecDepth 100000
def be (a:Nat):Nat→List Nat
 | 0=>[]
 | m+1=>be (a / 256) m++[a % 256]
def num (l:List Nat):Nat:=l.foldl (fun x b=>256*x+b) 0
theorem be_len (a m:Nat):(be a m).length=m:=by
 induction m generalizing a with
 | zero=>rfl
 | succ m ih=>simp [be,ih]
theorem be_lt (a m:Nat):∀ x ∈ be a m,x<256:=by
 induction m generalizing a with
 | zero=>intro x hx;cases hx
 | succ m ih =>
  intro x hx
  simp only [be,List.mem_append,List.mem_singleton] at hx
  rcases hx with hx | rfl
  ·exact ih _ x hx
  ·exact Nat.mod_lt _ (by decide)
theorem num_snoc (l:List Nat) (b:Nat):num (l++[b])=256*num l+b:=by simp [num]
theorem num_be (a m:Nat):num (be a m)=a % 256 ^ m:=by
 induction m generalizing a with
 | zero=>simp [be,num,Nat.mod_one]
 | succ m ih =>
  rw [be,num_snoc,ih,Nat.pow_succ,Nat.mul_comm (256 ^ m) 256,Nat.mod_mul]
  omega
theorem be_num {l:List Nat} (h:∀ x ∈ l,x<256):be (num l) l.length=l:=by
 have key:∀ (n:Nat) (l:List Nat),l.length=n→(∀ x ∈ l,x<256)→be (num l) n=l:=by
  intro n
  induction n with
  | zero=>intro l hl _;rw [List.eq_nil_of_length_eq_zero hl];rfl
  | succ n ih =>
   intro l hl hx
   obtain ⟨q,b,rfl⟩:∃ q b,l=q++[b]:=by
    refine ⟨l.dropLast,l.getLast (by intro e;subst e;cases hl),?_⟩
    exact (List.dropLast_concat_getLast _).symm
   have hb:b<256:=hx b (by simp)
   rw [num_snoc,be,show (256*num q+b) / 256=num q by omega,show (256*num q+b) % 256=b by omega,ih q (by simpa using hl) (fun x hq=>hx x (by simp [hq]))]
 exact key _ l rfl h
theorem be_at (a m:Nat):∀ i,i<m→(be a m)[i]?=some (a / 256 ^ (m-1-i) % 256):=by
 induction m generalizing a with
 | zero=>intro i hi;omega
 | succ m ih =>
  intro i hi
  rw [be]
  by_cases h:i<m
  ·rw [List.getElem?_append_left (by rw [be_len];exact h),ih _ i h,Nat.div_div_eq_div_mul,Nat.mul_comm 256,← Nat.pow_succ,show (m-1-i).succ=m+1-1-i by omega]
  ·obtain rfl:i=m:=by omega
   rw [List.getElem?_append_right (by rw [be_len];exact Nat.le_refl _),be_len]
   simp
end Go.Proofs.YtmigakanbeckpaaGreatDoor.De
namespace Go.Proofs.YtmigakanbeckpaaGreatDoor.De
set_option maxRecDepth 100000
open Go.RowKit
attribute [local go_sem ↓] Go.wp_at_zero Go.wp_at_succ
theorem Y_nat (k A:Nat):Y k (A:Int)=((A / 256 ^ k % 256:Nat):Int):=by
 unfold Y
 rw [Int.natCast_emod,Int.natCast_ediv,Int.natCast_pow]
 rfl
end Go.Proofs.YtmigakanbeckpaaGreatDoor.De
namespace Go.Proofs.YtmigakanbeckpaaGreatDoor.De
set_option maxRecDepth 100000
open Go.RowKit
attribute [local go_sem ↓] Go.wp_at_zero Go.wp_at_succ
end Go.Proofs.YtmigakanbeckpaaGreatDoor.De
namespace Go.Proofs.YtmigakanbeckpaaGreatDoor.De
set_option maxRecDepth 100000
open Go.RowKit
theorem hm:Tryz.prog.follows .mixedOrders=true:=by kernel_rfl
theorem fl_getD {l:List Nat} {n:Nat} (h:l.length=n):fl (fun i=>l.getD i 0) n=l:=by
 apply List.ext_getElem?
 intro i
 rcases Nat.lt_or_ge i n with hi | hi
 ·rw [fl_at _ hi,List.getElem?_eq_getElem (by omega)]
  simp [List.getD_eq_getElem?_getD,List.getElem?_eq_getElem (show i<l.length by omega)]
 ·rw [List.getElem?_eq_none (by rw [fl_len];exact hi),List.getElem?_eq_none (by omega)]
end Go.Proofs.YtmigakanbeckpaaGreatDoor.De
namespace Go.Proofs.YtmigakanbeckpaaGreatDoor
set_option maxRecDepth 100000
open Go.RowKit
theorem E_words (a:Int):E (fun i=>Y i a) 0 8=L 0 a∧E (fun i=>Y i a) 8 8=L 1 a∧E (fun i=>Y i a) 16 8=L 2 a∧E (fun i=>Y i a) 24 8=L 3 a :=
 ⟨E_word a 0,E_word a 1,E_word a 2,E_word a 3⟩
end Go.Proofs.YtmigakanbeckpaaGreatDoor
namespace Go.Proofs.YtmigakanbeckpaaGreatDoor.De
set_option maxRecDepth 100000
open Go.RowKit
theorem num_lt {l:List Nat} (h:∀ x ∈ l,x<256):num l<256 ^ l.length:=by
 have h1:=num_be (num l) l.length
 rw [be_num h] at h1
 rw [h1]
 exact Nat.mod_lt _ (Nat.pow_pos (by decide))
theorem refBig_num {z:Option Addr} {c:Nat} {w:World} {l:List Nat} (hl:l.length=32) (hlt:∀ x ∈ l,x<256) (h:BA w z 32 (fun i=>l.getD i 0)) :
  Calls Tryz.prog 34 [.slice z 32 c].toArray w fun e w'=>e=.returned (.tuple [.agg (nc ((num l:Nat):Int)).toArray,.bool true].toArray)∧Below w.heap.size w w':=by
 rcases h.at_ with h0 | ⟨b,o,rfl,hr⟩
 ·omega
 have hg:=refBig_any (cap:=c) (fun i=>⟨by omega,by have:=h.lt i;omega⟩) hr
 have hb:=be_num hlt
 rw [hl] at hb
 have key:∀ i,i<32→((l.getD (31-i) 0:Nat):Int)=Y i ((num l:Nat):Int):=fun i hi=>by
  have e:=be_at (num l) 32 (31-i) (by omega)
  rw [hb] at e
  rw [List.getD_eq_getElem?_getD,e,Y_nat]
  simp only [Option.getD_some]
  rw [show 32-1-(31-i)=i by omega]
 have e:∀ o,o+8≤32→E (fun i=>(fun i=>((l.getD i 0:Nat):Int)) (31-i)) o 8=E (fun i=>Y i ((num l:Nat):Int)) o 8:=fun o ho=>E_congr o 8 (fun i hi=>key _ (by omega))
 have w4:=E_words ((num l:Nat):Int)
 rw [e 0 (by omega),e 8 (by omega),e 16 (by omega),e 24 (by omega),w4.1,w4.2.1,w4.2.2.1,w4.2.2.2] at hg
 exact hg
end Go.Proofs.YtmigakanbeckpaaGreatDoor.De
namespace Go.Proofs.YtmigakanbeckpaaGreatDoor
set_option maxRecDepth 100000
def sameB (f g:Nat→Int) (n:Nat):Bool:=decide (∀ i,i<n→f i=g i)
theorem same_no {f g:Nat→Int} {n k:Nat} (h:k<n) (hne:f k≠g k):sameB f g n=false:=by
 unfold sameB
 rw [decide_eq_false_iff_not]
 exact fun hh=>hne (hh k h)
theorem same_yes {f g:Nat→Int} {n:Nat} (h:∀ i,i<n→f i=g i):sameB f g n=true:=decide_eq_true h
end Go.Proofs.YtmigakanbeckpaaGreatDoor
namespace Go.Proofs.YtmigakanbeckpaaGreatDoor
set_option maxRecDepth 100000
open Go.RowKit
attribute [local go_sem ↓] Go.wp_at_zero Go.wp_at_succ
theorem same_none (a1 a2:Option Addr) (c1 c2:Nat) (w:World) :
  Calls Tryz.prog 11 #[.slice a1 0 c1,.slice a2 0 c2] w fun e w'=>e=.returned (.bool true)∧w'=w:=by
 go_enter Tryz.func11,Tryz.ntmps11
 go_wp2_with fail
 refine wp_loop_rounds 1 ?_
 rw [rounds_succ]
 go_wp2_with fail
 go_ret
 exact ⟨rfl,rfl⟩
theorem same_any {b o c b2 o2 c2 n:Nat} {f g:Nat→Int} (hn:n≤1000000) {w:World} (h1:Rd w b o n f) (h2:Rd w b2 o2 n g) :
  Calls Tryz.prog 11 #[.slice (some ⟨b,o,none⟩) n c,.slice (some ⟨b2,o2,none⟩) n c2] w fun e w'=>e=.returned (.bool (sameB f g n))∧Below w.heap.size w w':=by
 have H1:Hid (Rd w b o n f):=h1
 have H2:Hid (Rd w b2 o2 n g):=h2
 clear h1 h2
 go_enter Tryz.func11,Tryz.ntmps11
 go_wp2_with fail
 go_loopg [5] n (fun gh s wr=>∃ k:Nat,gh=n-k∧k≤n∧s=.int .i64 k∧(∀ i,i<k→f i=g i)∧Below w.heap.size w wr)
 case atStart=>exact ⟨0,rfl,by omega,rfl,fun i h=>by omega,Below.refl _ _⟩
 case round =>
  obtain ⟨k,rfl,hk,rfl,hall,hB⟩:=hrel
  have HA:Hid (∀ i,i<k→f i=g i):=hall
  have HB:Hid (Below w.heap.size w wr):=hB
  by_cases hlt:k<n
  ·have hc1:=(H1.out.keep hB).c k hlt
   have hc2:=(H2.out.keep hB).c k hlt
   clear hB hall
   by_cases he:f k=g k
   ·have HS:Hid (∀ i,i<k+1→f i=g i):=fun i hi=>by
     by_cases e:i=k
     ·rw [e];exact he
     ·exact HA.out i (by omega)
    rw [← he] at hc2
    clear he
    go_upto_region 6 with fail
    go_quiet (fail)
    go_wp2_with fail
    go_roundg (n-(k+1))
    case measure=>omega
    case rel=>exact ⟨k+1,rfl,by omega,by go_num,HS.out,K.drewN HB.out _⟩
   ·have hb:(f k == g k)=false:=beq_eq_false_iff_ne.2 he
    have HS:Hid (sameB f g n=false):=same_no hlt he
    clear he
    go_upto_region 6 with fail
    go_quiet (fail)
    go_wp2_with fail
    go_ret
    exact ⟨ret_bool HS.out.symm,K.drewN HB.out _⟩
  ·obtain rfl:k=n:=by omega
   clear hall hB
   go_wp2_with fail
   go_ret
   exact ⟨ret_bool (same_yes HA.out).symm,HB.out⟩
end Go.Proofs.YtmigakanbeckpaaGreatDoor
namespace Go.Proofs.YtmigakanbeckpaaGreatDoor.De
set_option maxRecDepth 100000
open Go.RowKit
end Go.Proofs.YtmigakanbeckpaaGreatDoor.De
namespace Go.Proofs.YtmigakanbeckpaaGreatDoor.De
set_option maxRecDepth 100000
open Go.RowKit
end Go.Proofs.YtmigakanbeckpaaGreatDoor.De
namespace Go.Proofs.YtmigakanbeckpaaGreatDoor.De
set_option maxRecDepth 100000
open Go.RowKit
theorem be_getD (A:Nat) {n i:Nat} (h:i<n):(be A n).getD i 0=A / 256 ^ (n-1-i) % 256:=by
 rw [List.getD_eq_getElem?_getD,be_at A n i h]
 rfl
theorem big_num {z:Option Addr} {c:Nat} {w:World} {l:List Nat} (hl:l.length=32) (hlt:∀ x ∈ l,x<256) (h:BA w z 32 (fun i=>l.getD i 0)) :
  Calls Tryz.prog 70 [.slice z 32 c].toArray w fun e w'=>e=.returned (.tuple [.agg (nc ((num l:Nat):Int)).toArray,.bool true].toArray)∧Below w.heap.size w w':=by
 rcases h.at_ with h0 | ⟨b,o,rfl,hr⟩
 ·omega
 have hg:=big_any (cap:=c) (fun i=>⟨by omega,by have:=h.lt i;omega⟩) hr
 have hb:=be_num hlt
 rw [hl] at hb
 have key:∀ i,i<32→((l.getD (31-i) 0:Nat):Int)=Y i ((num l:Nat):Int):=fun i hi=>by
  have e:=be_at (num l) 32 (31-i) (by omega)
  rw [hb] at e
  rw [List.getD_eq_getElem?_getD,e,Y_nat]
  simp only [Option.getD_some]
  rw [show 32-1-(31-i)=i by omega]
 have e:∀ o,o+8≤32→E (fun i=>(fun i=>((l.getD i 0:Nat):Int)) (31-i)) o 8=E (fun i=>Y i ((num l:Nat):Int)) o 8:=fun o ho=>E_congr o 8 (fun i hi=>key _ (by omega))
 have w4:=E_words ((num l:Nat):Int)
 rw [e 0 (by omega),e 8 (by omega),e 16 (by omega),e 24 (by omega),w4.1,w4.2.1,w4.2.2.1,w4.2.2.2] at hg
 exact hg
end Go.Proofs.YtmigakanbeckpaaGreatDoor.De
namespace Go.Proofs.YtmigakanbeckpaaGreatDoor.De
set_option maxRecDepth 100000
open Go.RowKit
end Go.Proofs.YtmigakanbeckpaaGreatDoor.De
