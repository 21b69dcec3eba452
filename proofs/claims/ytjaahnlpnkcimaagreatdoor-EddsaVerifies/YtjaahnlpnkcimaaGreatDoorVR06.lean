/- What the document's own PutLittle and Little answer. What the program's own Little answers. What the program's own Wide answers. The moduli by their numbers, and plain facts on what is left of a number. What math/bits.LeadingZeros64 and Div64 answer at the greatest words of the moduli. -/
import Derived.Test.YtjaahnlpnkcimaaGreatDoorVR04
import Derived.Test.YtjaahnlpnkcimaaGreatDoorVR05
import Derived.Test.YtjaahnlpnkcimaaGreatDoorVR02
import Derived.Deep.LoopGhost
import Derived.Deep.DeepCutAuto
import Derived.Deep.RegionWith
import Derived.OwnWalk
import Derived.Laws.MathBits
set_option maxRecDepth 100000
set_option maxHeartbeats 4000000
namespace Go.Proofs.YtjaahnlpnkcimaaGreatDoor
set_option maxRecDepth 100000
open Go.RowKit
attribute [local go_sem ↓] Go.wp_at_zero Go.wp_at_succ
def Only (A:Act) (W:World):Exit→Act→World→Prop
 | .normal,a,w=>a=A∧w=W
 | _,_,_=>False
theorem Only.intro (A:Act) (W:World):Only A W .normal A W:=⟨rfl,rfl⟩
theorem Only.out {A:Act} {W:World} {Q:Exit→Act→World→Prop} (h:Q .normal A W):∀ e a w,Only A W e a w→Q e a w:=by
 intro e a w hq
 cases e <;> first | exact (hq:False).elim | (obtain ⟨rfl,rfl⟩:=hq;exact h)
def pl (a:Int) (m:Nat):List Value:=(List.range m).map (fun j=>Value.int .u8 (Y j a))
theorem pl_succ (a:Int) (m:Nat):pl a (m+1)=pl a m++[Value.int .u8 (Y m a)]:=by simp [pl,List.range_succ]
theorem pl_at (a:Int) (m j:Nat) (h:j<m):(pl a m)[j]?=some (Value.int .u8 (Y j a)):=by simp [pl,h]
theorem arr_at {w:World} {b:Nat} {a:Int} (h:Arr w b (L 0 a) (L 1 a) (L 2 a) (L 3 a)) (i:Nat) (hi:i<4):w.cell? ⟨b,i,none⟩=some (.int .u64 (L i a)):=by
 match i,hi with
 | 0,_=>exact h.c0
 | 1,_=>exact h.c1
 | 2,_=>exact h.c2
 | 3,_=>exact h.c3
theorem div_next (x:Int) (k:Nat):x / 256 ^ k / 256=x / 256 ^ (k+1):=by
 rw [Int.pow_succ,← Int.ediv_ediv_of_nonneg (Int.le_of_lt (Int.pow_pos (by omega)))]
theorem div_bd {x:Int} (h0:0≤x) (h1:x<18446744073709551616) (k:Nat):0≤x / 256 ^ k∧x / 256 ^ k<18446744073709551616 :=
 ⟨Int.ediv_nonneg h0 (Int.le_of_lt (Int.pow_pos (by omega))),Int.lt_of_le_of_lt (Int.ediv_le_self _ h0) h1⟩
theorem refPutLittle_any (a:Int) (w:World) :
  Calls Tryz.prog 24 #[.agg #[.int .u64 (L 0 a),.int .u64 (L 1 a),.int .u64 (L 2 a),.int .u64 (L 3 a)]] w fun e w'=>New32 (fun i=>Y i a) w e w':=by
 obtain ⟨i0,hi,hz0,hz1,hz2⟩:=info_parts info8
 have hA:=Arr.new w w.heap.size rfl 34 (L 0 a) (L 1 a) (L 2 a) (L 3 a)
 have hw:Below w.heap.size w (w.alloc (.cells #[.int .u64 (L 0 a),.int .u64 (L 1 a),.int .u64 (L 2 a),.int .u64 (L 3 a)] 34)):=K.alloc (Below.refl _ _) _
 go_enter Tryz.func24,Tryz.ntmps24
 go_wp2_with fail
 generalize w.alloc (.cells #[.int .u64 (L 0 a),.int .u64 (L 1 a),.int .u64 (L 2 a),.int .u64 (L 3 a)] 34)=W0 at *
 go_loopg [3,4] 4 (fun g v s wr=>∃ i:Nat,g=4-i∧i≤4∧s=.int .i64 i∧wr.ownsRow W0.heap.size 5 1 v (8*i) (pl a (8*i))∧Below W0.heap.size W0 wr)
 case atStart=>exact ⟨0,rfl,by omega,rfl,World.ownsRow_nil _ _ _ _,Below.refl _ _⟩
 case round =>
  obtain ⟨i,rfl,hle,rfl,hO,hB⟩:=hrel
  by_cases hlt:i<4
  ·have hc:=arr_at (hA.keep hB) i hlt
   have hii:(i:Int)<4:=by omega
   have HL:Hid (0≤L i a∧L i a<18446744073709551616):=⟨L_lo _ _,L_hi _ _⟩
   have HI:Hid (i<4):=hlt
   clear hlt hle
   go_wp2_with fail
   go_loopg [3,5,6] 8 (fun g v x s wr=>∃ k:Nat,g=8-k∧k≤8∧s=.int .i64 k∧x=.int .u64 (L i a / 256 ^ k)∧wr.ownsRow W0.heap.size 5 1 v (8*i+k) (pl a (8*i+k))∧Below W0.heap.size W0 wr)
   case atStart=>exact ⟨0,rfl,by omega,rfl,by simp,hO,hB⟩
   case round =>
    clear hO hB hc
    obtain ⟨k,rfl,hle,rfl,rfl,hO,hB⟩:=hrel
    by_cases hlt:k<8
    ·have hbd:=div_bd HL.out.1 HL.out.2 k
     have HD:Hid (L i a / 256 ^ k % 256=Y (8*i+k) a∧L i a / 256 ^ k / 256=L i a / 256 ^ (k+1)):=⟨byte_word a i k hlt,div_next _ _⟩
     generalize L i a / 256 ^ k=x at *
     go_wp2_with (at_builtin;refine wpList_append_own _ rfl _ _ 24 rfl W0.heap.size 5 i0 (.int .u8 0) 1 1 Tryz.underlying24 hi hz0 hz1 hz2 rfl (by decide) _ _ _ rfl (hO.alloc _) ⟨wr.heap.size,0,none⟩ 1 1 [.int .u8 (x % 256)] rfl rfl ?c1 ?c2 ?c3 ?c4 ?c5 ?_)
     case c1 =>
      intro j u hu
      match j,hu with
      | 0,hu=>simp at hu;subst hu;simp [Addr.add]
     case c2=>intro u hu;simp at hu;subst hu;rfl
     case c3=>have:=HI.out;unfold maxLen;omega
     case c4=>have:=HI.out;omega
     case c5=>have:=hB.size;simp;omega
     intro v' w1 hown' hgrow _
     have R1:Below W0.heap.size W0 w1:=(K.alloc hB _).grown hgrow (K.alloc hB _).size (fun k hk=>(hO.lt k hk).1)
     have R2:w1.ownsRow W0.heap.size 5 1 v' (8*i+(k+1)) (pl a (8*i+(k+1))):=by rw [← Nat.add_assoc,pl_succ,← HD.out.1];exact hown'
     clear hown' hgrow hO hB
     go_wp2_with fail
     go_roundg (8-(k+1))
     case measure=>omega
     case rel=>exact ⟨k+1,rfl,by omega,by go_num,by rw [← HD.out.2],R2,R1⟩
    ·obtain rfl:k=8:=by omega
     go_wp2_with fail
     go_roundg (4-(i+1))
     case measure=>have:=HI.out;omega
     case rel=>exact ⟨i+1,rfl,by have:=HI.out;omega,by go_num,hO,hB⟩
  ·obtain rfl:i=4:=by omega
   go_wp2_with fail
   have hcp:=hO
   obtain ⟨g,cap,rfl,hge,hR⟩:=own_rd (f:=fun i=>Y i a) hO (fun j hj=>pl_at a _ j hj) (by omega)
   go_ret
   exact new32_row rfl (Nat.le_trans hw.size hge) (own_cap hcp) hR (K.call hw hB)
theorem eight_any {b o cap:Nat} {f:Nat→Int} (hf:∀ i,0≤f i∧f i<256) {w:World} (hD:Rd w b o 8 f) :
  Calls Tryz.prog 75 #[.slice (some ⟨b,o,none⟩) 8 cap] w fun e w'=>e=.returned (.int .u64 (E f 0 8))∧w'=w:=by
 have c0:=hD.c 0 (by omega)
 have l0:=(hf 0).1
 have u0:=(hf 0).2
 have c1:=hD.c 1 (by omega)
 have l1:=(hf 1).1
 have u1:=(hf 1).2
 have c2:=hD.c 2 (by omega)
 have l2:=(hf 2).1
 have u2:=(hf 2).2
 have c3:=hD.c 3 (by omega)
 have l3:=(hf 3).1
 have u3:=(hf 3).2
 have c4:=hD.c 4 (by omega)
 have l4:=(hf 4).1
 have u4:=(hf 4).2
 have c5:=hD.c 5 (by omega)
 have l5:=(hf 5).1
 have u5:=(hf 5).2
 have c6:=hD.c 6 (by omega)
 have l6:=(hf 6).1
 have u6:=(hf 6).2
 have c7:=hD.c 7 (by omega)
 have l7:=(hf 7).1
 have u7:=(hf 7).2
 rw [Nat.add_zero] at c0
 have HE:Hid (E f 0 8=f 0+256*(f 1+256*(f 2+256*(f 3+256*(f 4+256*(f 5+256*(f 6+256*f 7))))))):=by
  show _=_
  simp [E]
  omega
 clear hf hD
 generalize f 0=x0 at *
 generalize f 1=x1 at *
 generalize f 2=x2 at *
 generalize f 3=x3 at *
 generalize f 4=x4 at *
 generalize f 5=x5 at *
 generalize f 6=x6 at *
 generalize f 7=x7 at *
 go_enter Tryz.func75,Tryz.ntmps75
 go_wp2_with fail
 refine wp_loop_rounds 9 ?_
 rw [rounds_succ]
 go_wp2_with fail
 rw [rounds_succ]
 go_wp2_with fail
 rw [rounds_succ]
 go_wp2_with fail
 rw [rounds_succ]
 go_wp2_with fail
 rw [rounds_succ]
 go_wp2_with fail
 rw [rounds_succ]
 go_wp2_with fail
 rw [rounds_succ]
 go_wp2_with fail
 rw [rounds_succ]
 go_wp2_with fail
 rw [rounds_succ]
 go_wp2_with fail
 go_ret
 exact ⟨ret_int (by rw [HE.out];omega),rfl⟩
theorem E_shift (f:Nat→Int) (k:Nat):∀ r,E (fun i=>f (k+i)) 0 r=E f k r
 | 0=>rfl
 | r+1=>by simp only [E];rw [E_shift f k r,Nat.zero_add]
theorem eight_at {b o n cap:Nat} (k:Nat) {f:Nat→Int} (hf:∀ i,0≤f i∧f i<256) (hk:k+8≤n) {w:World} (hD:Rd w b o n f) :
  Calls Tryz.prog 75 #[.slice (some ⟨b,o+k,none⟩) 8 cap] w fun e w'=>e=.returned (.int .u64 (E f k 8))∧w'=w:=by
 have h:=eight_any (cap:=cap) (fun i=>hf (k+i)) (hD.part k 8 hk)
 rw [E_shift] at h
 exact h
theorem eight_at0 {b o n cap:Nat} {f:Nat→Int} (hf:∀ i,0≤f i∧f i<256) (hk:8≤n) {w:World} (hD:Rd w b o n f) :
  Calls Tryz.prog 75 #[.slice (some ⟨b,o,none⟩) 8 cap] w fun e w'=>e=.returned (.int .u64 (E f 0 8))∧w'=w :=
 eight_at (cap:=cap) 0 hf (by omega) hD
theorem refLittle_any {b o cap:Nat} {f:Nat→Int} (hcap:32≤cap) (hf:∀ i,0≤f i∧f i<256) {w:World} (hD:Rd w b o 32 f) :
  Calls Tryz.prog 32 #[.slice (some ⟨b,o,none⟩) 32 cap] w fun e w'=>e=.returned (.tuple #[.agg #[.int .u64 (E f 0 8),.int .u64 (E f 8 8),.int .u64 (E f 16 8),.int .u64 (E f 24 8)],.bool true])∧Below w.heap.size w w':=by
 have HF:Hid (∀ i,0≤f i∧f i<256):=hf
 have HD:Hid (∀ w1,Below w.heap.size w w1→Rd w1 b o 32 f):=fun w1 hb=>hD.keep hb
 have hci:(32:Int)≤cap:=by omega
 clear hf hD
 go_enter Tryz.func32,Tryz.ntmps32
 go_wp2_with fail
 apply wp_mono (Q:=Only _ _)
 ·go_region_with (first
   | (go_at_call 75;with_reducible refine Calls.mono (eight_at0 HF.out (by omega) (HD.out _ (K.drew (K.alloc (Below.refl _ _) _)))) ?_;rintro e w' ⟨rfl,rfl⟩)
   | (go_at_call 75;with_reducible refine Calls.mono (eight_at 8 HF.out (by omega) (HD.out _ (K.drew (K.alloc (Below.refl _ _) _)))) ?_;rintro e w' ⟨rfl,rfl⟩)
   | (go_at_call 75;with_reducible refine Calls.mono (eight_at 16 HF.out (by omega) (HD.out _ (K.drew (K.alloc (Below.refl _ _) _)))) ?_;rintro e w' ⟨rfl,rfl⟩)
   | (go_at_call 75;with_reducible refine Calls.mono (eight_at 24 HF.out (by omega) (HD.out _ (K.drew (K.alloc (Below.refl _ _) _)))) ?_;rintro e w' ⟨rfl,rfl⟩))
  all_goals exact Only.intro _ _
 refine Only.out ?_
 go_wp2_with fail
 exact bodyPost_ret (v:=.tuple #[.agg #[.int .u64 (E f 0 8),.int .u64 (E f 8 8),.int .u64 (E f 16 8),.int .u64 (E f 24 8)],.bool true]) (by simp [results,Tryz.results32,go_sem]) rfl ⟨rfl,K.drew (K.alloc (Below.refl _ _) _)⟩
end Go.Proofs.YtjaahnlpnkcimaaGreatDoor
namespace Go.Proofs.YtjaahnlpnkcimaaGreatDoor
set_option maxRecDepth 100000
open Go.RowKit
attribute [local go_sem ↓] Go.wp_at_zero Go.wp_at_succ
theorem lift_any (x:Int) (h0:0≤x) (h1:x<256) (k:Nat) (hk:k<64) (w:World) :
  Calls Tryz.prog 60 #[.int .u8 x,.int .i64 k] w fun e w'=>e=.returned (.int .u64 (x*256 ^ (k % 8)))∧w'=w:=by
 rcases rest8 k with hr | hr | hr | hr | hr | hr | hr | hr
 all_goals
  rw [hr]
  have hri:(k:Int) % 8=((k % 8:Nat):Int):=by omega
  rw [hr] at hri
  clear hr
  go_enter Tryz.func60,Tryz.ntmps60
  go_wp2
  go_ret
  exact ⟨ret_int (by simp),rfl⟩
structure RowQ (w:World) (b n:Nat) (g:Nat→Int):Prop where
 lt:b<w.heap.size
 c:∀ i,i<n→w.cell? ⟨b,i,none⟩=some (.int .u64 (g i))
 z:∀ i,i<n→w.frozen? ⟨b,i,none⟩=false
theorem RowQ.keep {W w1:World} {b n:Nat} {g:Nat→Int} (h:RowQ W b n g) (hb:Below W.heap.size W w1):RowQ w1 b n g :=
 ⟨Nat.lt_of_lt_of_le h.lt hb.size,fun i hi=>later hb (h.c i hi),fun i hi=>(hb.frozen (p:=⟨b,i,none⟩) h.lt).trans (h.z i hi)⟩
theorem RowQ.congr {w:World} {b n:Nat} {f g:Nat→Int} (h:RowQ w b n f) (e:∀ i,i<n→f i=g i):RowQ w b n g :=
 ⟨h.lt,fun i hi=>by rw [← e i hi];exact h.c i hi,h.z⟩
theorem RowQ.store {w:World} {b n:Nat} {f:Nat→Int} (h:RowQ w b n f) (k:Nat) (hk:k<n) (v:Int):RowQ (w.setCell ⟨b,k,none⟩ (.int .u64 v)) b n (fun i=>if i=k then v else f i):=by
 refine ⟨by simpa using h.lt,fun i hi=>?_,fun i hi=>by rw [World.frozen?_setCell];exact h.z i hi⟩
 have hc:=h.c i hi
 have hcs:=h.c k hk
 by_cases e:i=k
 ·subst e;simp [go_sem,hc]
 ·simp [go_sem,hc,e]
theorem RowQ.other {w:World} {b n m o:Nat} {f:Nat→Int} {v:Value} (h:RowQ w b n f) (hb:b≠m):RowQ (w.setCell ⟨m,o,none⟩ v) b n f:=by
 refine ⟨by simpa using h.lt,fun i hi=>?_,fun i hi=>by rw [World.frozen?_setCell];exact h.z i hi⟩
 have hc:=h.c i hi
 simp [go_sem,hc]
theorem RowQ.drew {W:World} {b n:Nat} {g:Nat→Int} (h:RowQ W b n g):RowQ W.drew b n g:=h.keep (Below.refl _ _).drew
theorem RowQ.new4 (W:World) (b:Nat) (hb:b=W.heap.size):RowQ (W.alloc (.cells #[.int .u64 0,.int .u64 0,.int .u64 0,.int .u64 0] 34)) b 4 (fun _=>0):=by
 subst hb
 refine ⟨by simp,fun i hi=>?_,fun i hi=>by simp [go_sem]⟩
 match i,hi with
 | 0,_=>simp [go_sem]
 | 1,_=>simp [go_sem]
 | 2,_=>simp [go_sem]
 | 3,_=>simp [go_sem]
theorem or_byte {x y:Int} {r:Nat} (hr:r<8) (hx:0≤x) (hx2:x<256 ^ r) (hy:0≤y) (hy2:y<256):bits .or .u64 x (y*256 ^ r)=x+y*256 ^ r:=by
 have e:(256:Int) ^ r=((2 ^ (8*r):Nat):Int):=by rw [Nat.pow_mul];simp
 have h7:(2:Nat) ^ (8*r)≤2 ^ 56:=Nat.pow_le_pow_right (by omega) (by omega)
 rw [e] at hx2 ⊢
 obtain ⟨n,rfl⟩:=Int.eq_ofNat_of_zero_le hx
 obtain ⟨m,rfl⟩:=Int.eq_ofNat_of_zero_le hy
 have hn:n<2 ^ (8*r):=by omega
 have hm:m*2 ^ (8*r)≤255*2 ^ 56:=Nat.mul_le_mul (by omega) h7
 have hmi:(m:Int)*((2 ^ (8*r):Nat):Int)=((m*2 ^ (8*r):Nat):Int):=by simp
 rw [hmi]
 generalize hp:2 ^ (8*r)=p at *
 rw [u64_or _ _ (by omega) (by omega) (by omega) (by omega),Int.toNat_natCast,Int.toNat_natCast,Nat.or_comm,Nat.mul_comm,← hp,← Nat.two_pow_add_eq_or_of_lt (by omega)]
 omega
def G (f:Nat→Int) (k j:Nat):Int:=E f (8*j) (min 8 (k-8*j))
theorem G_zero (f:Nat→Int) (j:Nat):G f 0 j=0:=by unfold G;rw [show min 8 (0-8*j)=0 by omega];rfl
theorem G_bd {f:Nat→Int} (hf:∀ i,0≤f i∧f i<256) (k j:Nat):0≤G f k j∧G f k j<18446744073709551616:=by
 have h:=E_bd hf (8*j) (min 8 (k-8*j))
 have h8:(256:Int) ^ min 8 (k-8*j)≤256 ^ 8:=by
  have:(256:Nat) ^ min 8 (k-8*j)≤256 ^ 8:=Nat.pow_le_pow_right (by omega) (by omega)
  have h':=Int.ofNat_le.2 this
  rw [Int.natCast_pow,Int.natCast_pow] at h'
  exact h'
 exact ⟨h.1,Int.lt_of_lt_of_le h.2 (Int.le_trans h8 (by decide))⟩
theorem G_step {f:Nat→Int} (hf:∀ i,0≤f i∧f i<256) (k:Nat):bits .or .u64 (G f k (k / 8)) (f k*256 ^ (k % 8))=G f (k+1) (k / 8):=by
 have h:=E_bd hf (8*(k / 8)) (k % 8)
 unfold G
 rw [show min 8 (k-8*(k / 8))=k % 8 by omega,show min 8 (k+1-8*(k / 8))=k % 8+1 by omega,or_byte (by omega) h.1 h.2 (hf k).1 (hf k).2]
 simp only [E]
 rw [show 8*(k / 8)+k % 8=k by omega]
theorem G_other (f:Nat→Int) {k j:Nat} (h:j≠k / 8):G f k j=G f (k+1) j:=by
 unfold G
 rw [show min 8 (k-8*j)=min 8 (k+1-8*j) by omega]
theorem word_step {g h:Nat→Int} {n q:Nat} {v:Int} (hv:v=h q) (ho:∀ {i},i≠q→g i=h i):∀ i,i<n→(if i=q then v else g i)=h i:=by
 intro i _
 split
 ·next e=>rw [e];exact hv
 ·next e=>exact ho e
theorem G_full (f:Nat→Int) {n j:Nat} (h:8*j+8≤n):G f n j=E f (8*j) 8:=by
 unfold G
 rw [show min 8 (n-8*j)=8 by omega]
theorem little_not (v:Option Addr) (n cap:Nat) (h:n≠32) (w:World) :
  Calls Tryz.prog 26 #[.slice v n cap] w fun e w'=>e=.returned (.tuple #[.agg #[.int .u64 0,.int .u64 0,.int .u64 0,.int .u64 0],.bool false])∧Below w.heap.size w w':=by
 have hb:((n:Int) == 32)=false:=beq_eq_false_iff_ne.2 (by omega)
 go_enter Tryz.func26,Tryz.ntmps26
 go_wp2
 exact bodyPost_ret (v:=.tuple #[.agg #[.int .u64 0,.int .u64 0,.int .u64 0,.int .u64 0],.bool false]) (by simp [results,Tryz.results26,go_sem]) rfl ⟨rfl,by go_grown⟩
theorem little_any {b o cap:Nat} {f:Nat→Int} (hf:∀ i,0≤f i∧f i<256) {w:World} (hD:Rd w b o 32 f) :
  Calls Tryz.prog 26 #[.slice (some ⟨b,o,none⟩) 32 cap] w fun e w'=>e=.returned (.tuple #[.agg #[.int .u64 (E f 0 8),.int .u64 (E f 8 8),.int .u64 (E f 16 8),.int .u64 (E f 24 8)],.bool true])∧Below w.heap.size w w':=by
 have HF:Hid (∀ i,0≤f i∧f i<256):=hf
 have HD:Hid (Rd w b o 32 f):=hD
 clear hf hD
 go_enter Tryz.func26,Tryz.ntmps26
 go_wp2_with fail
 go_loopg [13] 32 (fun g s wr=>∃ k:Nat,g=32-k∧k≤32∧s=.int .i64 k∧RowQ wr (w.heap.size+1) 4 (G f k)∧RowQ wr w.heap.size 4 (fun _=>0)∧Below w.heap.size w wr)
 case atStart=>exact ⟨0,rfl,by omega,rfl,(RowQ.new4 _ _ (by simp)).congr (fun i _=>(G_zero _ i).symm),(RowQ.new4 w _ rfl).keep ((Below.refl _ _).alloc (Nat.le_refl _) _),K.alloc (K.alloc (Below.refl _ w) _) _⟩
 case round =>
  obtain ⟨k,rfl,hk,rfl,hR,hZ,hB⟩:=hrel
  by_cases hlt:k<32
  ·have hx:=HF.out k
   have hd:=(HD.out.keep hB).c k (by omega)
   have HR:Hid (RowQ wr (w.heap.size+1) 4 (G f k)):=hR
   have HZ:Hid (RowQ wr w.heap.size 4 (fun _=>0)):=hZ
   have HB:Hid (Below w.heap.size w wr):=hB
   have hrl:=hR.lt
   have hq:k / 8=0∨k / 8=1∨k / 8=2∨k / 8=3:=by omega
   clear hR hZ hB
   rcases hq with hq | hq | hq | hq
   ·have HQ:Hid (k / 8=0):=hq
    have hqi:(k:Int) / 8=0:=by omega
    have hg:=G_bd (f:=f) (fun i=>HF.out _) k 0
    have hc:=HR.out.c 0 (by omega)
    have hz:=HR.out.z 0 (by omega)
    clear hq
    go_upto_region 7 with fail
    apply wp_mono (Q:=Only _ _)
    ·go_region_with (go_at_call 60;with_reducible refine Calls.mono (lift_any (f k) hx.1 hx.2 k (by omega) _) ?_;rintro e w' ⟨rfl,rfl⟩)
     all_goals exact Only.intro _ _
    refine Only.out ?_
    have HG:Hid (bits .or .u64 (G f k 0) ((f k)*256 ^ (k % 8))=G f (k+1) 0):=by have h:=G_step (f:=f) (fun i=>HF.out _) k;rw [HQ.out] at h;exact h
    clear hc hz hd hx hg
    go_wp2_with fail
    go_roundg (32-(k+1))
    case measure=>omega
    case rel=>exact ⟨k+1,rfl,by omega,by go_num,((HR.out.store 0 (by omega) _).congr (word_step HG.out (fun e=>G_other _ (by rw [HQ.out];exact e)))).drew,(HZ.out.other (by omega)).drew,K.drew (K.set HB.out (by simp) _)⟩
   ·have HQ:Hid (k / 8=1):=hq
    have hqi:(k:Int) / 8=1:=by omega
    have hg:=G_bd (f:=f) (fun i=>HF.out _) k 1
    have hc:=HR.out.c 1 (by omega)
    have hz:=HR.out.z 1 (by omega)
    clear hq
    go_upto_region 7 with fail
    apply wp_mono (Q:=Only _ _)
    ·go_region_with (go_at_call 60;with_reducible refine Calls.mono (lift_any (f k) hx.1 hx.2 k (by omega) _) ?_;rintro e w' ⟨rfl,rfl⟩)
     all_goals exact Only.intro _ _
    refine Only.out ?_
    have HG:Hid (bits .or .u64 (G f k 1) ((f k)*256 ^ (k % 8))=G f (k+1) 1):=by have h:=G_step (f:=f) (fun i=>HF.out _) k;rw [HQ.out] at h;exact h
    clear hc hz hd hx hg
    go_wp2_with fail
    go_roundg (32-(k+1))
    case measure=>omega
    case rel=>exact ⟨k+1,rfl,by omega,by go_num,((HR.out.store 1 (by omega) _).congr (word_step HG.out (fun e=>G_other _ (by rw [HQ.out];exact e)))).drew,(HZ.out.other (by omega)).drew,K.drew (K.set HB.out (by simp) _)⟩
   ·have HQ:Hid (k / 8=2):=hq
    have hqi:(k:Int) / 8=2:=by omega
    have hg:=G_bd (f:=f) (fun i=>HF.out _) k 2
    have hc:=HR.out.c 2 (by omega)
    have hz:=HR.out.z 2 (by omega)
    clear hq
    go_upto_region 7 with fail
    apply wp_mono (Q:=Only _ _)
    ·go_region_with (go_at_call 60;with_reducible refine Calls.mono (lift_any (f k) hx.1 hx.2 k (by omega) _) ?_;rintro e w' ⟨rfl,rfl⟩)
     all_goals exact Only.intro _ _
    refine Only.out ?_
    have HG:Hid (bits .or .u64 (G f k 2) ((f k)*256 ^ (k % 8))=G f (k+1) 2):=by have h:=G_step (f:=f) (fun i=>HF.out _) k;rw [HQ.out] at h;exact h
    clear hc hz hd hx hg
    go_wp2_with fail
    go_roundg (32-(k+1))
    case measure=>omega
    case rel=>exact ⟨k+1,rfl,by omega,by go_num,((HR.out.store 2 (by omega) _).congr (word_step HG.out (fun e=>G_other _ (by rw [HQ.out];exact e)))).drew,(HZ.out.other (by omega)).drew,K.drew (K.set HB.out (by simp) _)⟩
   ·have HQ:Hid (k / 8=3):=hq
    have hqi:(k:Int) / 8=3:=by omega
    have hg:=G_bd (f:=f) (fun i=>HF.out _) k 3
    have hc:=HR.out.c 3 (by omega)
    have hz:=HR.out.z 3 (by omega)
    clear hq
    go_upto_region 7 with fail
    apply wp_mono (Q:=Only _ _)
    ·go_region_with (go_at_call 60;with_reducible refine Calls.mono (lift_any (f k) hx.1 hx.2 k (by omega) _) ?_;rintro e w' ⟨rfl,rfl⟩)
     all_goals exact Only.intro _ _
    refine Only.out ?_
    have HG:Hid (bits .or .u64 (G f k 3) ((f k)*256 ^ (k % 8))=G f (k+1) 3):=by have h:=G_step (f:=f) (fun i=>HF.out _) k;rw [HQ.out] at h;exact h
    clear hc hz hd hx hg
    go_wp2_with fail
    go_roundg (32-(k+1))
    case measure=>omega
    case rel=>exact ⟨k+1,rfl,by omega,by go_num,((HR.out.store 3 (by omega) _).congr (word_step HG.out (fun e=>G_other _ (by rw [HQ.out];exact e)))).drew,(HZ.out.other (by omega)).drew,K.drew (K.set HB.out (by simp) _)⟩
  ·obtain rfl:k=32:=by omega
   have c0:=hR.c 0 (by omega)
   have c1:=hR.c 1 (by omega)
   have c2:=hR.c 2 (by omega)
   have c3:=hR.c 3 (by omega)
   have z0:=hZ.c 0 (by omega)
   have z1:=hZ.c 1 (by omega)
   have z2:=hZ.c 2 (by omega)
   have z3:=hZ.c 3 (by omega)
   have y0:=hZ.z 0 (by omega)
   have y1:=hZ.z 1 (by omega)
   have y2:=hZ.z 2 (by omega)
   have y3:=hZ.z 3 (by omega)
   have zl:=hZ.lt
   have cl:=hR.lt
   rw [G_full _ (show 8*0+8≤32 by omega)] at c0
   rw [G_full _ (show 8*1+8≤32 by omega)] at c1
   rw [G_full _ (show 8*2+8≤32 by omega)] at c2
   rw [G_full _ (show 8*3+8≤32 by omega)] at c3
   clear hR hZ
   go_wp2_with fail
   exact bodyPost_ret (v:=.tuple #[.agg #[.int .u64 (E f 0 8),.int .u64 (E f 8 8),.int .u64 (E f 16 8),.int .u64 (E f 24 8)],.bool true]) (by simp [results,Tryz.results26,go_sem,z0,z1,z2,z3]) rfl ⟨rfl,K.set (K.set (K.set (K.set (hB) (by simp) _) (by simp) _) (by simp) _) (by simp) _⟩
end Go.Proofs.YtjaahnlpnkcimaaGreatDoor
namespace Go.Proofs.YtjaahnlpnkcimaaGreatDoor
set_option maxRecDepth 100000
open Go.RowKit
attribute [local go_sem ↓] Go.wp_at_zero Go.wp_at_succ
theorem RowQ.new8 (W:World) (b:Nat) (hb:b=W.heap.size):RowQ (W.alloc (.cells #[.int .u64 0,.int .u64 0,.int .u64 0,.int .u64 0,.int .u64 0,.int .u64 0,.int .u64 0,.int .u64 0] 63)) b 8 (fun _=>0):=by
 subst hb
 refine ⟨by simp,fun i hi=>?_,fun i hi=>by simp [go_sem]⟩
 match i,hi with
 | 0,_=>simp [go_sem]
 | 1,_=>simp [go_sem]
 | 2,_=>simp [go_sem]
 | 3,_=>simp [go_sem]
 | 4,_=>simp [go_sem]
 | 5,_=>simp [go_sem]
 | 6,_=>simp [go_sem]
 | 7,_=>simp [go_sem]
theorem wide_any {b o cap:Nat} {f:Nat→Int} (hf:∀ i,0≤f i∧f i<256) {w:World} (hD:Rd w b o 64 f) :
  Calls Tryz.prog 43 #[.slice (some ⟨b,o,none⟩) 64 cap] w fun e w'=>e=.returned (.tuple #[.agg #[.int .u64 (E f 0 8),.int .u64 (E f 8 8),.int .u64 (E f 16 8),.int .u64 (E f 24 8),.int .u64 (E f 32 8),.int .u64 (E f 40 8),.int .u64 (E f 48 8),.int .u64 (E f 56 8)],.bool true])∧Below w.heap.size w w':=by
 have HF:Hid (∀ i,0≤f i∧f i<256):=hf
 have HD:Hid (Rd w b o 64 f):=hD
 clear hf hD
 go_enter Tryz.func43,Tryz.ntmps43
 go_wp2_with fail
 go_loopg [13] 64 (fun g s wr=>∃ k:Nat,g=64-k∧k≤64∧s=.int .i64 k∧RowQ wr (w.heap.size+1) 8 (G f k)∧RowQ wr w.heap.size 8 (fun _=>0)∧Below w.heap.size w wr)
 case atStart=>exact ⟨0,rfl,by omega,rfl,(RowQ.new8 _ _ (by simp)).congr (fun i _=>(G_zero _ i).symm),(RowQ.new8 w _ rfl).keep ((Below.refl _ _).alloc (Nat.le_refl _) _),K.alloc (K.alloc (Below.refl _ w) _) _⟩
 case round =>
  obtain ⟨k,rfl,hk,rfl,hR,hZ,hB⟩:=hrel
  by_cases hlt:k<64
  ·have hx:=HF.out k
   have hd:=(HD.out.keep hB).c k (by omega)
   have HR:Hid (RowQ wr (w.heap.size+1) 8 (G f k)):=hR
   have HZ:Hid (RowQ wr w.heap.size 8 (fun _=>0)):=hZ
   have HB:Hid (Below w.heap.size w wr):=hB
   have hrl:=hR.lt
   have hq:k / 8=0∨k / 8=1∨k / 8=2∨k / 8=3∨k / 8=4∨k / 8=5∨k / 8=6∨k / 8=7:=by omega
   clear hR hZ hB
   rcases hq with hq | hq | hq | hq | hq | hq | hq | hq
   ·have HQ:Hid (k / 8=0):=hq
    have hqi:(k:Int) / 8=0:=by omega
    have hg:=G_bd (f:=f) (fun i=>HF.out _) k 0
    have hc:=HR.out.c 0 (by omega)
    have hz:=HR.out.z 0 (by omega)
    clear hq
    go_upto_region 7 with fail
    apply wp_mono (Q:=Only _ _)
    ·go_region_with (go_at_call 60;with_reducible refine Calls.mono (lift_any (f k) hx.1 hx.2 k (by omega) _) ?_;rintro e w' ⟨rfl,rfl⟩)
     all_goals exact Only.intro _ _
    refine Only.out ?_
    have HG:Hid (bits .or .u64 (G f k 0) ((f k)*256 ^ (k % 8))=G f (k+1) 0):=by have h:=G_step (f:=f) (fun i=>HF.out _) k;rw [HQ.out] at h;exact h
    clear hc hz hd hx hg
    go_wp2_with fail
    go_roundg (64-(k+1))
    case measure=>omega
    case rel=>exact ⟨k+1,rfl,by omega,by go_num,((HR.out.store 0 (by omega) _).congr (word_step HG.out (fun e=>G_other _ (by rw [HQ.out];exact e)))).drew,(HZ.out.other (by omega)).drew,K.drew (K.set HB.out (by simp) _)⟩
   ·have HQ:Hid (k / 8=1):=hq
    have hqi:(k:Int) / 8=1:=by omega
    have hg:=G_bd (f:=f) (fun i=>HF.out _) k 1
    have hc:=HR.out.c 1 (by omega)
    have hz:=HR.out.z 1 (by omega)
    clear hq
    go_upto_region 7 with fail
    apply wp_mono (Q:=Only _ _)
    ·go_region_with (go_at_call 60;with_reducible refine Calls.mono (lift_any (f k) hx.1 hx.2 k (by omega) _) ?_;rintro e w' ⟨rfl,rfl⟩)
     all_goals exact Only.intro _ _
    refine Only.out ?_
    have HG:Hid (bits .or .u64 (G f k 1) ((f k)*256 ^ (k % 8))=G f (k+1) 1):=by have h:=G_step (f:=f) (fun i=>HF.out _) k;rw [HQ.out] at h;exact h
    clear hc hz hd hx hg
    go_wp2_with fail
    go_roundg (64-(k+1))
    case measure=>omega
    case rel=>exact ⟨k+1,rfl,by omega,by go_num,((HR.out.store 1 (by omega) _).congr (word_step HG.out (fun e=>G_other _ (by rw [HQ.out];exact e)))).drew,(HZ.out.other (by omega)).drew,K.drew (K.set HB.out (by simp) _)⟩
   ·have HQ:Hid (k / 8=2):=hq
    have hqi:(k:Int) / 8=2:=by omega
    have hg:=G_bd (f:=f) (fun i=>HF.out _) k 2
    have hc:=HR.out.c 2 (by omega)
    have hz:=HR.out.z 2 (by omega)
    clear hq
    go_upto_region 7 with fail
    apply wp_mono (Q:=Only _ _)
    ·go_region_with (go_at_call 60;with_reducible refine Calls.mono (lift_any (f k) hx.1 hx.2 k (by omega) _) ?_;rintro e w' ⟨rfl,rfl⟩)
     all_goals exact Only.intro _ _
    refine Only.out ?_
    have HG:Hid (bits .or .u64 (G f k 2) ((f k)*256 ^ (k % 8))=G f (k+1) 2):=by have h:=G_step (f:=f) (fun i=>HF.out _) k;rw [HQ.out] at h;exact h
    clear hc hz hd hx hg
    go_wp2_with fail
    go_roundg (64-(k+1))
    case measure=>omega
    case rel=>exact ⟨k+1,rfl,by omega,by go_num,((HR.out.store 2 (by omega) _).congr (word_step HG.out (fun e=>G_other _ (by rw [HQ.out];exact e)))).drew,(HZ.out.other (by omega)).drew,K.drew (K.set HB.out (by simp) _)⟩
   ·have HQ:Hid (k / 8=3):=hq
    have hqi:(k:Int) / 8=3:=by omega
    have hg:=G_bd (f:=f) (fun i=>HF.out _) k 3
    have hc:=HR.out.c 3 (by omega)
    have hz:=HR.out.z 3 (by omega)
    clear hq
    go_upto_region 7 with fail
    apply wp_mono (Q:=Only _ _)
    ·go_region_with (go_at_call 60;with_reducible refine Calls.mono (lift_any (f k) hx.1 hx.2 k (by omega) _) ?_;rintro e w' ⟨rfl,rfl⟩)
     all_goals exact Only.intro _ _
    refine Only.out ?_
    have HG:Hid (bits .or .u64 (G f k 3) ((f k)*256 ^ (k % 8))=G f (k+1) 3):=by have h:=G_step (f:=f) (fun i=>HF.out _) k;rw [HQ.out] at h;exact h
    clear hc hz hd hx hg
    go_wp2_with fail
    go_roundg (64-(k+1))
    case measure=>omega
    case rel=>exact ⟨k+1,rfl,by omega,by go_num,((HR.out.store 3 (by omega) _).congr (word_step HG.out (fun e=>G_other _ (by rw [HQ.out];exact e)))).drew,(HZ.out.other (by omega)).drew,K.drew (K.set HB.out (by simp) _)⟩
   ·have HQ:Hid (k / 8=4):=hq
    have hqi:(k:Int) / 8=4:=by omega
    have hg:=G_bd (f:=f) (fun i=>HF.out _) k 4
    have hc:=HR.out.c 4 (by omega)
    have hz:=HR.out.z 4 (by omega)
    clear hq
    go_upto_region 7 with fail
    apply wp_mono (Q:=Only _ _)
    ·go_region_with (go_at_call 60;with_reducible refine Calls.mono (lift_any (f k) hx.1 hx.2 k (by omega) _) ?_;rintro e w' ⟨rfl,rfl⟩)
     all_goals exact Only.intro _ _
    refine Only.out ?_
    have HG:Hid (bits .or .u64 (G f k 4) ((f k)*256 ^ (k % 8))=G f (k+1) 4):=by have h:=G_step (f:=f) (fun i=>HF.out _) k;rw [HQ.out] at h;exact h
    clear hc hz hd hx hg
    go_wp2_with fail
    go_roundg (64-(k+1))
    case measure=>omega
    case rel=>exact ⟨k+1,rfl,by omega,by go_num,((HR.out.store 4 (by omega) _).congr (word_step HG.out (fun e=>G_other _ (by rw [HQ.out];exact e)))).drew,(HZ.out.other (by omega)).drew,K.drew (K.set HB.out (by simp) _)⟩
   ·have HQ:Hid (k / 8=5):=hq
    have hqi:(k:Int) / 8=5:=by omega
    have hg:=G_bd (f:=f) (fun i=>HF.out _) k 5
    have hc:=HR.out.c 5 (by omega)
    have hz:=HR.out.z 5 (by omega)
    clear hq
    go_upto_region 7 with fail
    apply wp_mono (Q:=Only _ _)
    ·go_region_with (go_at_call 60;with_reducible refine Calls.mono (lift_any (f k) hx.1 hx.2 k (by omega) _) ?_;rintro e w' ⟨rfl,rfl⟩)
     all_goals exact Only.intro _ _
    refine Only.out ?_
    have HG:Hid (bits .or .u64 (G f k 5) ((f k)*256 ^ (k % 8))=G f (k+1) 5):=by have h:=G_step (f:=f) (fun i=>HF.out _) k;rw [HQ.out] at h;exact h
    clear hc hz hd hx hg
    go_wp2_with fail
    go_roundg (64-(k+1))
    case measure=>omega
    case rel=>exact ⟨k+1,rfl,by omega,by go_num,((HR.out.store 5 (by omega) _).congr (word_step HG.out (fun e=>G_other _ (by rw [HQ.out];exact e)))).drew,(HZ.out.other (by omega)).drew,K.drew (K.set HB.out (by simp) _)⟩
   ·have HQ:Hid (k / 8=6):=hq
    have hqi:(k:Int) / 8=6:=by omega
    have hg:=G_bd (f:=f) (fun i=>HF.out _) k 6
    have hc:=HR.out.c 6 (by omega)
    have hz:=HR.out.z 6 (by omega)
    clear hq
    go_upto_region 7 with fail
    apply wp_mono (Q:=Only _ _)
    ·go_region_with (go_at_call 60;with_reducible refine Calls.mono (lift_any (f k) hx.1 hx.2 k (by omega) _) ?_;rintro e w' ⟨rfl,rfl⟩)
     all_goals exact Only.intro _ _
    refine Only.out ?_
    have HG:Hid (bits .or .u64 (G f k 6) ((f k)*256 ^ (k % 8))=G f (k+1) 6):=by have h:=G_step (f:=f) (fun i=>HF.out _) k;rw [HQ.out] at h;exact h
    clear hc hz hd hx hg
    go_wp2_with fail
    go_roundg (64-(k+1))
    case measure=>omega
    case rel=>exact ⟨k+1,rfl,by omega,by go_num,((HR.out.store 6 (by omega) _).congr (word_step HG.out (fun e=>G_other _ (by rw [HQ.out];exact e)))).drew,(HZ.out.other (by omega)).drew,K.drew (K.set HB.out (by simp) _)⟩
   ·have HQ:Hid (k / 8=7):=hq
    have hqi:(k:Int) / 8=7:=by omega
    have hg:=G_bd (f:=f) (fun i=>HF.out _) k 7
    have hc:=HR.out.c 7 (by omega)
    have hz:=HR.out.z 7 (by omega)
    clear hq
    go_upto_region 7 with fail
    apply wp_mono (Q:=Only _ _)
    ·go_region_with (go_at_call 60;with_reducible refine Calls.mono (lift_any (f k) hx.1 hx.2 k (by omega) _) ?_;rintro e w' ⟨rfl,rfl⟩)
     all_goals exact Only.intro _ _
    refine Only.out ?_
    have HG:Hid (bits .or .u64 (G f k 7) ((f k)*256 ^ (k % 8))=G f (k+1) 7):=by have h:=G_step (f:=f) (fun i=>HF.out _) k;rw [HQ.out] at h;exact h
    clear hc hz hd hx hg
    go_wp2_with fail
    go_roundg (64-(k+1))
    case measure=>omega
    case rel=>exact ⟨k+1,rfl,by omega,by go_num,((HR.out.store 7 (by omega) _).congr (word_step HG.out (fun e=>G_other _ (by rw [HQ.out];exact e)))).drew,(HZ.out.other (by omega)).drew,K.drew (K.set HB.out (by simp) _)⟩
  ·obtain rfl:k=64:=by omega
   have c0:=hR.c 0 (by omega)
   have c1:=hR.c 1 (by omega)
   have c2:=hR.c 2 (by omega)
   have c3:=hR.c 3 (by omega)
   have c4:=hR.c 4 (by omega)
   have c5:=hR.c 5 (by omega)
   have c6:=hR.c 6 (by omega)
   have c7:=hR.c 7 (by omega)
   have z0:=hZ.c 0 (by omega)
   have z1:=hZ.c 1 (by omega)
   have z2:=hZ.c 2 (by omega)
   have z3:=hZ.c 3 (by omega)
   have z4:=hZ.c 4 (by omega)
   have z5:=hZ.c 5 (by omega)
   have z6:=hZ.c 6 (by omega)
   have z7:=hZ.c 7 (by omega)
   have y0:=hZ.z 0 (by omega)
   have y1:=hZ.z 1 (by omega)
   have y2:=hZ.z 2 (by omega)
   have y3:=hZ.z 3 (by omega)
   have y4:=hZ.z 4 (by omega)
   have y5:=hZ.z 5 (by omega)
   have y6:=hZ.z 6 (by omega)
   have y7:=hZ.z 7 (by omega)
   have zl:=hZ.lt
   have cl:=hR.lt
   rw [G_full _ (show 8*0+8≤64 by omega)] at c0
   rw [G_full _ (show 8*1+8≤64 by omega)] at c1
   rw [G_full _ (show 8*2+8≤64 by omega)] at c2
   rw [G_full _ (show 8*3+8≤64 by omega)] at c3
   rw [G_full _ (show 8*4+8≤64 by omega)] at c4
   rw [G_full _ (show 8*5+8≤64 by omega)] at c5
   rw [G_full _ (show 8*6+8≤64 by omega)] at c6
   rw [G_full _ (show 8*7+8≤64 by omega)] at c7
   clear hR hZ
   go_wp2_with fail
   exact bodyPost_ret (v:=.tuple #[.agg #[.int .u64 (E f 0 8),.int .u64 (E f 8 8),.int .u64 (E f 16 8),.int .u64 (E f 24 8),.int .u64 (E f 32 8),.int .u64 (E f 40 8),.int .u64 (E f 48 8),.int .u64 (E f 56 8)],.bool true]) (by simp [results,Tryz.results43,go_sem,z0,z1,z2,z3,z4,z5,z6,z7]) rfl ⟨rfl,K.set (K.set (K.set (K.set (K.set (K.set (K.set (K.set (hB) (by simp) _) (by simp) _) (by simp) _) (by simp) _) (by simp) _) (by simp) _) (by simp) _) (by simp) _⟩
end Go.Proofs.YtjaahnlpnkcimaaGreatDoor
namespace Go.Proofs.YtjaahnlpnkcimaaGreatDoor
set_option maxRecDepth 100000
def md (k:Int):Int:=if k=0 then 115792089210356248762697446949407573530086143415290314195533631308867097853951 else if k=1 then 115792089210356248762697446949407573529996955224135760342422259061068512044369 else if k=2 then 57896044618658097711785492504343953926634992332820282019728792003956564819949 else if k=3 then 7237005577332262213973186563042994240857116359379907606001950938285454250989 else 0
theorem md_num (k:Int):Num (md k):=by
 unfold md
 (repeat' split) <;> exact ⟨by omega,by unfold M;omega⟩
theorem mod_low {s m:Int} (h0:0≤s) (h:s<m):s % m=s:=Int.emod_eq_of_lt h0 h
theorem mod_once {s m:Int} (h0:m≤s) (h:s<m+m):s % m=s-m:=by
 have e:s % m=(s-m) % m:=by rw [Int.sub_emod_right]
 rw [e];exact Int.emod_eq_of_lt (by omega) (by omega)
theorem md_0_0:L 0 (md 0)=18446744073709551615:=by decide
theorem md_0_1:L 1 (md 0)=4294967295:=by decide
theorem md_0_2:L 2 (md 0)=0:=by decide
theorem md_0_3:L 3 (md 0)=18446744069414584321:=by decide
theorem md_1_0:L 0 (md 1)=17562291160714782033:=by decide
theorem md_1_1:L 1 (md 1)=13611842547513532036:=by decide
theorem md_1_2:L 2 (md 1)=18446744073709551615:=by decide
theorem md_1_3:L 3 (md 1)=18446744069414584320:=by decide
theorem md_2_0:L 0 (md 2)=18446744073709551597:=by decide
theorem md_2_1:L 1 (md 2)=18446744073709551615:=by decide
theorem md_2_2:L 2 (md 2)=18446744073709551615:=by decide
theorem md_2_3:L 3 (md 2)=9223372036854775807:=by decide
theorem md_3_0:L 0 (md 3)=6346243789798364141:=by decide
theorem md_3_1:L 1 (md 3)=1503914060200516822:=by decide
theorem md_3_2:L 2 (md 3)=0:=by decide
theorem md_3_3:L 3 (md 3)=1152921504606846976:=by decide
theorem md_none {k:Int} (h:k<0∨3<k):md k=0:=by unfold md;(repeat' split) <;> omega
theorem L_zero (i:Nat):L i 0=0:=by simp [L]
theorem md_cases {k:Int} (h:0≤k∧k≤3):k=0∨k=1∨k=2∨k=3:=by omega
theorem md_pos {k:Int} (h:0≤k∧k≤3):0<md k:=by
 rcases md_cases h with rfl | rfl | rfl | rfl <;> decide
theorem md_odd {k:Int} (h:0≤k∧k≤3):(L 0 (md k) == 0)=false:=by
 rcases md_cases h with rfl | rfl | rfl | rfl <;> decide
end Go.Proofs.YtjaahnlpnkcimaaGreatDoor
namespace Go.Proofs.YtjaahnlpnkcimaaGreatDoor
set_option maxRecDepth 100000
open Go.RowKit
attribute [local go_sem ↓] Go.wp_at_zero Go.wp_at_succ
theorem lead_0 (w:World):Calls Tryz.prog 114 #[.int .u64 18446744069414584321] w fun e w'=>e=.returned (.int .i64 0)∧w'=w:=by
 go_enter Tryz.func114,Tryz.ntmps114
 go_wp2
 go_ret
 exact ⟨by kernel_rfl,rfl⟩
theorem lead_1 (w:World):Calls Tryz.prog 114 #[.int .u64 18446744069414584320] w fun e w'=>e=.returned (.int .i64 0)∧w'=w:=by
 go_enter Tryz.func114,Tryz.ntmps114
 go_wp2
 go_ret
 exact ⟨by kernel_rfl,rfl⟩
theorem lead_2 (w:World):Calls Tryz.prog 114 #[.int .u64 9223372036854775807] w fun e w'=>e=.returned (.int .i64 1)∧w'=w:=by
 go_enter Tryz.func114,Tryz.ntmps114
 go_wp2
 go_ret
 exact ⟨by kernel_rfl,rfl⟩
theorem lead_3 (w:World):Calls Tryz.prog 114 #[.int .u64 1152921504606846976] w fun e w'=>e=.returned (.int .i64 3)∧w'=w:=by
 go_enter Tryz.func114,Tryz.ntmps114
 go_wp2
 go_ret
 exact ⟨by kernel_rfl,rfl⟩
theorem or_apart (x d:Int) (s:Nat) (hx:0≤x) (hd:0≤d) (hd2:d<2 ^ s) (h:x*2 ^ s+d<18446744073709551616):bits .or .u64 (x*2 ^ s) d=x*2 ^ s+d:=by
 obtain ⟨x,rfl⟩:=Int.eq_ofNat_of_zero_le hx
 obtain ⟨d,rfl⟩:=Int.eq_ofNat_of_zero_le hd
 have hd3:d<2 ^ s:=by exact_mod_cast hd2
 have e:((x:Int)*2 ^ s)=((x*2 ^ s:Nat):Int):=by simp
 rw [e] at h ⊢
 have h3:x*2 ^ s+d<18446744073709551616:=by omega
 rw [u64_or_nat _ _ (by omega) (by omega),Nat.mul_comm,← Nat.two_pow_add_eq_or_of_lt hd3]
 simp
theorem or_nothing (x:Int) (hx:0≤x) (h:x<18446744073709551616):bits .or .u64 x 0=x:=by
 obtain ⟨x,rfl⟩:=Int.eq_ofNat_of_zero_le hx
 have:=u64_or_nat x 0 (by omega) (by omega)
 rwa [Nat.or_zero] at this
theorem tdiv_pos {u y:Int} (hu:0≤u):u.tdiv y=u / y:=Int.tdiv_eq_ediv_of_nonneg hu
end Go.Proofs.YtjaahnlpnkcimaaGreatDoor
