/- What the document's own take answers. What the document's own Padded answers. What the document's own Sum answers. Two hashes are compared. Rows of bytes of one's own, as bytes that are handed on. What slices.Grow answers of nothing: a row of one's own with no bytes. Bytes of numbers. -/
import Derived.Test.YtmigakanbeckpaaGreatDoorRm23
import Derived.Test.YtmigakanbeckpaaGreatDoorRm03
import Derived.Test.YtmigakanbeckpaaGreatDoorRm02
import Derived.Deep.RegionHeld3
import Derived.Deep.LoopGhost
import Derived.Deep.DeepCutAuto
import Derived.Deep.RegionWith
set_option maxRecDepth 100000
set_option maxHeartbeats 4000000
namespace Go.Proofs.YtmigakanbeckpaaGreatDoor.Sh
set_option maxRecDepth 100000
open Go.RowKit
attribute [local go_sem ↓] Go.wp_at_zero Go.wp_at_succ
attribute [local go_sem] wn_add wn_xor wn_wrap wn_mod wn_add' wn_and wn_or
theorem RowW.apart {w:World} {b n:Nat} {f:Nat→Wd} (h:RowW w b n f) {g:Nat} (hg:b≠g) (o:Nat) (vs:List Value):RowW (w.setCells g o vs) b n f :=
 ⟨by rw [size_setCells];exact h.lt,fun i hi=>by rw [World.cell?_setCells_out g vs o w ⟨b,i,none⟩ (fun e _=>absurd e hg)];exact h.c i hi,fun i hi=>by rw [World.frozen?_setCells];exact h.z i hi⟩
theorem zeros8:(#[.int .u32 0,.int .u32 0,.int .u32 0,.int .u32 0,.int .u32 0,.int .u32 0,.int .u32 0,.int .u32 0]:Array Value)=(aw (fun _=>0) 8).toArray:=by kernel_rfl
theorem aw8 (f:Nat→Wd):(aw f 8).toArray=#[.int .u32 (wn (f 0)),.int .u32 (wn (f 1)),.int .u32 (wn (f 2)),.int .u32 (wn (f 3)),.int .u32 (wn (f 4)),.int .u32 (wn (f 5)),.int .u32 (wn (f 6)),.int .u32 (wn (f 7))]:=rfl
theorem all8 (f:Nat→Wd):(aw f 8).toArray.all (·.oneCell')=true:=all_oneCell_toArray (aw_one f 8)
theorem wp_world {P:Program} {c:Code} {Q:Exit→Act→World→Prop} {a:Act} {w:World} (h:∀ w',w'=w→Code.wp P c Q a w'):Code.wp P c Q a w:=h w rfl
theorem size8 (f:Nat→Wd):(aw f 8).toArray.size=8:=by rw [List.size_toArray,aw_len]
theorem there8 {w:World} {b:Nat} {f:Nat→Wd} (h:RowW w b 8 f) (g:Nat→Wd):w.there b 0 (aw g 8).toArray.size:=by rw [size8];exact h.there
end Go.Proofs.YtmigakanbeckpaaGreatDoor.Sh
namespace Go.Proofs.YtmigakanbeckpaaGreatDoor.Sh
set_option maxRecDepth 100000
open Go.RowKit
attribute [local go_sem ↓] Go.wp_at_zero Go.wp_at_succ
end Go.Proofs.YtmigakanbeckpaaGreatDoor.Sh
namespace Go.Proofs.YtmigakanbeckpaaGreatDoor.Sh
set_option maxRecDepth 100000
open Go.RowKit
attribute [local go_sem ↓] Go.wp_at_zero Go.wp_at_succ
end Go.Proofs.YtmigakanbeckpaaGreatDoor.Sh
namespace Go.Proofs.YtmigakanbeckpaaGreatDoor.Sh
set_option maxRecDepth 100000
open Go.RowKit
end Go.Proofs.YtmigakanbeckpaaGreatDoor.Sh
namespace Go.Proofs.YtmigakanbeckpaaGreatDoor.Sh
set_option maxRecDepth 100000
open Go.RowKit
theorem RowB.ba {w:World} {b n:Nat} {f:Nat→Nat} (h:RowB w b n f) (hf:∀ i,f i<256):BA w (some ⟨b,0,none⟩) n f:=⟨hf,Or.inr ⟨b,0,rfl,Row8.rd h⟩⟩
theorem hByte_lt (s:St) (i:Nat):hByte s i<256:=Nat.mod_lt _ (by omega)
end Go.Proofs.YtmigakanbeckpaaGreatDoor.Sh
namespace Go.Proofs.YtmigakanbeckpaaGreatDoor.De
set_option maxRecDepth 100000
open Go.RowKit
theorem row_zero {w w':World} {g cap:Nat} {cur:Array Value} (hg:w.heap.size≤g) (h:w'.heap[g]?=some (.cells cur 5 (0,0))) (hc:cap≤maxLen) (hs:cur.size=cap*1):w'.ownsRow w.heap.size 5 1 (.slice (some ⟨g,0,none⟩) 0 cap) 0 [] :=
 ⟨rfl,Or.inr ⟨g,cap,cur,rfl,hg,h,Nat.zero_le _,hc,hs,by simp⟩⟩
theorem grow_nil {k:Nat} (h0:0<k) (hk:k≤1000000) (w:World):Calls Tryz.prog 144 #[.slice none 0 0,.int .i64 (k:Int)] w fun e w'=>∃ v,e=.returned v∧w'.ownsRow w.heap.size 5 1 v 0 (cells8 [])∧Below w.heap.size w w':=by
 obtain ⟨i0,hi,hz0,hz1,hz2⟩:=info_parts info8
 have h1:¬ ((k:Int)<0):=by omega
 have h3:wrap64 ((k:Int))=(k:Int):=by unfold wrap64;omega
 have h4:(k:Int) > 0:=by omega
 have hrz:∀ ty,(Builtin.append_ #[25,3] ty #[.slice none 0 0,.int .i64 (k:Int)]).run Tryz.prog w =
   .ok (.slice (some ⟨w.heap.size,0,none⟩) (0+k) (grownCap w (0+k) 0 5)) (w.drew.alloc (.cells (([]:List Value).toArray++Builtin.zeroCells (Value.int .u8 0).cells k++Builtin.zeroCells (Value.int .u8 0).cells (grownCap w (0+k) 0 5-(0+k))) 5)):=fun ty =>
  Lib.run_append_grow_zeros w 25 3 ty 5 i0 (.int .u8 0) .i64 .i64 Tryz.underlying25 Tryz.underlying3 hi hz0 none 0 0 [] (run_firstCells_none w.drew i0.size 0 0 0) k h0 (by rw [hz1];decide) (by omega) (by omega) (by rw [hz2];omega) (growslice_fits (by omega) (by rw [hz2];omega))
 have hG63:grownCap w (0+k) 0 5≤maxLen:=grownCap_le_maxLen w (0+k) 0 5 (by unfold maxLen;omega)
 have hGn:0+k≤grownCap w (0+k) 0 5:=grownCap_ge w _ _ _
 obtain ⟨G,hG⟩:∃ G,G=grownCap w (0+k) 0 5:=⟨_,rfl⟩
 rw [← hG] at hrz hGn hG63
 have hsz:(([]:List Value).toArray++Builtin.zeroCells (Value.int .u8 0).cells k++Builtin.zeroCells (Value.int .u8 0).cells (G-(0+k))).size=G*1:=by
  simp [Builtin.zeroCells,Value.cells]
  omega
 obtain ⟨C,hC⟩:∃ C,C=(([]:List Value).toArray++Builtin.zeroCells (Value.int .u8 0).cells k++Builtin.zeroCells (Value.int .u8 0).cells (G-(0+k))):=⟨_,rfl⟩
 rw [← hC] at hrz hsz
 have hG64:G≤9223372036854775807:=by unfold maxLen at hG63;omega
 clear hC hG
 go_enter Tryz.func144,Tryz.ntmps144
 go_wp2_with (at_builtin;refine Lib.wpList_append_run _ rfl _ _ _ _ rfl _ _ rfl rfl _ _ (hrz _) ?_)
 all_goals
  go_ret
  exact ⟨_,rfl,row_zero (Nat.le_refl _) (Array.getElem?_push_size ..) hG63 hsz,Below.alloc (Below.refl _ w).drew (by simp) _⟩
end Go.Proofs.YtmigakanbeckpaaGreatDoor.De
namespace Go.Proofs.YtmigakanbeckpaaGreatDoor
set_option maxRecDepth 100000
open Go.RowKit
def Y (k:Nat) (a:Int):Int:=a / 256 ^ k % 256
theorem Y_lo (k:Nat) (a:Int):0≤Y k a:=Int.emod_nonneg _ (by omega)
theorem Y_hi (k:Nat) (a:Int):Y k a<256:=Int.emod_lt_of_pos _ (by omega)
theorem B_pow (q:Nat):B ^ q=256 ^ (8*q):=by rw [Int.pow_mul];rfl
theorem byte_word (a:Int) (q r:Nat) (hr:r<8):L q a / 256 ^ r % 256=Y (8*q+r) a:=by
 unfold L Y
 rw [Int.pow_add,← B_pow,← Int.ediv_ediv_of_nonneg (Int.le_of_lt (Bk_pos q))]
 generalize a / B ^ q=x
 unfold B
 match r,hr with
 | 0,_=>simp
 | 1,_=>simp;omega
 | 2,_=>simp;omega
 | 3,_=>simp;omega
 | 4,_=>simp;omega
 | 5,_=>simp;omega
 | 6,_=>simp;omega
 | 7,_=>simp;omega
 | n+8,h=>omega
def E (f:Nat→Int) (o:Nat):Nat→Int
 | 0=>0
 | r+1=>E f o r+f (o+r)*256 ^ r
theorem E_bd {f:Nat→Int} (hf:∀ i,0≤f i∧f i<256) (o:Nat):∀ r,0≤E f o r∧E f o r<256 ^ r
 | 0=>by simp [E]
 | r+1=>by
  have h:=E_bd hf o r
  have hp:(0:Int)<256 ^ r:=Int.pow_pos (by omega)
  have h1:=(hf (o+r)).1
  have h2:f (o+r)*256 ^ r≤255*256 ^ r:=Int.mul_le_mul_of_nonneg_right (by have:=(hf (o+r)).2;omega) (Int.le_of_lt hp)
  have h3:0≤f (o+r)*256 ^ r:=Int.mul_nonneg h1 (Int.le_of_lt hp)
  simp only [E,Int.pow_succ]
  omega
theorem E_word (a:Int) (j:Nat):E (fun i=>Y i a) (8*j) 8=L j a:=by
 have h1:=L_lo j a
 have h2:=L_hi j a
 simp only [E,← byte_word a j _ (show 0<8 by omega),← byte_word a j _ (show 1<8 by omega),← byte_word a j _ (show 2<8 by omega),← byte_word a j _ (show 3<8 by omega),← byte_word a j _ (show 4<8 by omega),← byte_word a j _ (show 5<8 by omega),← byte_word a j _ (show 6<8 by omega),← byte_word a j _ (show 7<8 by omega)]
 generalize L j a=x at *
 simp
 omega
theorem E_congr {f g:Nat→Int} (o:Nat):∀ r,(∀ i,i<r→f (o+i)=g (o+i))→E f o r=E g o r
 | 0,_=>rfl
 | r+1,h=>by simp only [E];rw [E_congr o r (fun i hi=>h i (by omega)),h r (by omega)]
end Go.Proofs.YtmigakanbeckpaaGreatDoor
