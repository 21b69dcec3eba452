/- What the document's own PutBig and Big answer. -/
import Derived.Test.YtmigakanbeckpaaGreatDoorRm24
import Derived.Test.YtmigakanbeckpaaGreatDoorRm02
import Derived.Deep.LoopGhost
import Derived.Deep.DeepCutAuto
import Derived.Deep.RegionWith
set_option maxRecDepth 100000
set_option maxHeartbeats 4000000
namespace Go.Proofs.YtmigakanbeckpaaGreatDoor
set_option maxRecDepth 100000
open Go.RowKit
attribute [local go_sem ↓] Go.wp_at_zero Go.wp_at_succ
def Only (A:Act) (W:World):Exit→Act→World→Prop
 | .normal,a,w=>a=A∧w=W
 | _,_,_=>False
theorem Only.intro (A:Act) (W:World):Only A W .normal A W:=⟨rfl,rfl⟩
theorem Only.out {A:Act} {W:World} {Q:Exit→Act→World→Prop} (h:Q .normal A W):∀ e a w,Only A W e a w→Q e a w:=by
 intro e a w hq
 cases e <;> first | exact (hq:False).elim | (obtain ⟨rfl,rfl⟩:=hq;exact h)
def rv (f:Nat→Int) (n k:Nat):List Value:=(List.range k).map (fun j=>Value.int .u8 (f (n-1-j)))
theorem rv_succ (f:Nat→Int) (n k:Nat):rv f n (k+1)=rv f n k++[Value.int .u8 (f (n-1-k))]:=by simp [rv,List.range_succ]
theorem rv_at (f:Nat→Int) (n k j:Nat) (h:j<k):(rv f n k)[j]?=some (Value.int .u8 (f (n-1-j))):=by simp [rv,h]
theorem below_own {w wr w1:World} {n:Nat} {v:Value} {xs:List Value} {o:Obj} (hB:Below w.heap.size w wr) (hown:wr.ownsRow w.heap.size 5 1 v n xs) (hg:(wr.alloc o).grownBy w1 v.ownBlock):Below w.heap.size w w1 :=
 (K.alloc hB o).grown hg (K.alloc hB o).size (fun k hk=>(hown.lt k hk).1)
theorem turned_any {b o cap n:Nat} {f:Nat→Int} (hn:n≤100) {w:World} (hD:Rd w b o n f) :
  Calls Tryz.prog 68 #[.slice (some ⟨b,o,none⟩) n cap] w fun e w'=>∃ v,e=.returned v∧w'.ownsRow w.heap.size 5 1 v n (rv f n n)∧Below w.heap.size w w':=by
 obtain ⟨i0,hi,hz0,hz1,hz2⟩:=info_parts info8
 have HD:Hid (Rd w b o n f):=hD
 clear hD
 go_enter Tryz.func68,Tryz.ntmps68
 go_wp2_with fail
 go_loopg [3,4] n (fun g v s wr=>∃ k:Nat,g=n-k∧k≤n∧s=.int .i64 ((n:Int)-1-k)∧wr.ownsRow w.heap.size 5 1 v k (rv f n k)∧Below w.heap.size w wr)
 case atStart=>exact ⟨0,rfl,by omega,by go_num,World.ownsRow_nil _ _ _ _,Below.refl _ _⟩
 case round =>
  obtain ⟨k,rfl,hk,rfl,hown,hB⟩:=hrel
  by_cases hlt:k<n
  ·obtain ⟨j,hj⟩:∃ j,j=n-1-k:=⟨_,rfl⟩
   have hji:(n:Int)-1-k=(j:Int):=by omega
   have hc:=(HD.out.keep hB).c j (by omega)
   have HJ:Hid (j=n-1-k∧k<n):=⟨hj,hlt⟩
   have hjn:(j:Int)<n:=by omega
   have HB:Hid (Below w.heap.size w wr):=hB
   have hnn:(n:Int)≤100:=by omega
   clear hj hlt hk
   rw [hji]
   clear hji
   go_wp2_with (at_builtin;refine wpList_append_own _ rfl _ _ 25 rfl w.heap.size 5 i0 (.int .u8 0) 1 1 Tryz.underlying25 hi hz0 hz1 hz2 rfl (by decide) _ _ _ rfl (hown.alloc _) ⟨wr.heap.size,0,none⟩ 1 1 [.int .u8 (f j)] rfl rfl ?c1 ?c2 ?c3 ?c4 ?c5 ?_)
   case c1 =>
    intro i u hu
    match i,hu with
    | 0,hu=>simp at hu;subst hu;simp [Addr.add]
   case c2=>intro u hu;simp at hu;subst hu;rfl
   case c3=>have:=HJ.out;unfold maxLen;omega
   case c4=>have:=HJ.out;omega
   case c5=>have:=hB.size;simp;omega
   intro v' w1 hown' hgrow _
   have R1:=below_own hB hown hgrow
   have R2:w1.ownsRow w.heap.size 5 1 v' (k+1) (rv f n (k+1)):=by rw [rv_succ,← HJ.out.1];exact hown'
   clear hown' hgrow hown hB hc
   go_wp2_with fail
   go_roundg (n-(k+1))
   case measure=>have:=HJ.out;omega
   case rel=>exact ⟨k+1,rfl,by have:=HJ.out;omega,by have:=HJ.out;go_num,R2,R1⟩
  ·obtain rfl:k=n:=by omega
   have hs:(k:Int)-1-k=-1:=by omega
   rw [hs]
   go_wp2_with fail
   go_ret
   exact ⟨_,rfl,hown,hB⟩
def pl (a:Int) (m:Nat):List Value:=(List.range m).map (fun j=>Value.int .u8 (Y j a))
theorem pl_succ (a:Int) (m:Nat):pl a (m+1)=pl a m++[Value.int .u8 (Y m a)]:=by simp [pl,List.range_succ]
theorem pl_at (a:Int) (m j:Nat) (h:j<m):(pl a m)[j]?=some (Value.int .u8 (Y j a)):=by simp [pl,h]
theorem arr_at {w:World} {b:Nat} {a:Int} (h:Arr w b (L 0 a) (L 1 a) (L 2 a) (L 3 a)) (i:Nat) (hi:i<4):w.cell? ⟨b,i,none⟩=some (.int .u64 (L i a)):=by
 match i,hi with
 | 0,_=>exact h.c0
 | 1,_=>exact h.c1
 | 2,_=>exact h.c2
 | 3,_=>exact h.c3
theorem div_next (x:Int) (k:Nat):x / 256 ^ k / 256=x / 256 ^ (k+1):=by
 rw [Int.pow_succ,← Int.ediv_ediv_of_nonneg (Int.le_of_lt (Int.pow_pos (by omega)))]
theorem div_bd {x:Int} (h0:0≤x) (h1:x<18446744073709551616) (k:Nat):0≤x / 256 ^ k∧x / 256 ^ k<18446744073709551616 :=
 ⟨Int.ediv_nonneg h0 (Int.le_of_lt (Int.pow_pos (by omega))),Int.lt_of_le_of_lt (Int.ediv_le_self _ h0) h1⟩
theorem refPutLittle_any (a:Int) (w:World) :
  Calls Tryz.prog 87 #[.agg #[.int .u64 (L 0 a),.int .u64 (L 1 a),.int .u64 (L 2 a),.int .u64 (L 3 a)]] w fun e w'=>∃ g cap,e=.returned (.slice (some ⟨g,0,none⟩) 32 cap)∧Row8 w' g 32 (fun i=>Y i a)∧Below w.heap.size w w':=by
 obtain ⟨i0,hi,hz0,hz1,hz2⟩:=info_parts info8
 have hA:=Arr.new w w.heap.size rfl 24 (L 0 a) (L 1 a) (L 2 a) (L 3 a)
 have hw:Below w.heap.size w (w.alloc (.cells #[.int .u64 (L 0 a),.int .u64 (L 1 a),.int .u64 (L 2 a),.int .u64 (L 3 a)] 24)):=K.alloc (Below.refl _ _) _
 go_enter Tryz.func87,Tryz.ntmps87
 go_wp2_with fail
 generalize w.alloc (.cells #[.int .u64 (L 0 a),.int .u64 (L 1 a),.int .u64 (L 2 a),.int .u64 (L 3 a)] 24)=W0 at *
 go_loopg [3,4] 4 (fun g v s wr=>∃ i:Nat,g=4-i∧i≤4∧s=.int .i64 i∧wr.ownsRow W0.heap.size 5 1 v (8*i) (pl a (8*i))∧Below W0.heap.size W0 wr)
 case atStart=>exact ⟨0,rfl,by omega,rfl,World.ownsRow_nil _ _ _ _,Below.refl _ _⟩
 case round =>
  obtain ⟨i,rfl,hle,rfl,hO,hB⟩:=hrel
  by_cases hlt:i<4
  ·have hc:=arr_at (hA.keep hB) i hlt
   have hii:(i:Int)<4:=by omega
   have HL:Hid (0≤L i a∧L i a<18446744073709551616):=⟨L_lo _ _,L_hi _ _⟩
   have HI:Hid (i<4):=hlt
   clear hlt hle
   go_wp2_with fail
   go_loopg [3,5,6] 8 (fun g v x s wr=>∃ k:Nat,g=8-k∧k≤8∧s=.int .i64 k∧x=.int .u64 (L i a / 256 ^ k)∧wr.ownsRow W0.heap.size 5 1 v (8*i+k) (pl a (8*i+k))∧Below W0.heap.size W0 wr)
   case atStart=>exact ⟨0,rfl,by omega,rfl,by simp,hO,hB⟩
   case round =>
    clear hO hB hc
    obtain ⟨k,rfl,hle,rfl,rfl,hO,hB⟩:=hrel
    by_cases hlt:k<8
    ·have hbd:=div_bd HL.out.1 HL.out.2 k
     have HD:Hid (L i a / 256 ^ k % 256=Y (8*i+k) a∧L i a / 256 ^ k / 256=L i a / 256 ^ (k+1)):=⟨byte_word a i k hlt,div_next _ _⟩
     generalize L i a / 256 ^ k=x at *
     go_wp2_with (at_builtin;refine wpList_append_own _ rfl _ _ 25 rfl W0.heap.size 5 i0 (.int .u8 0) 1 1 Tryz.underlying25 hi hz0 hz1 hz2 rfl (by decide) _ _ _ rfl (hO.alloc _) ⟨wr.heap.size,0,none⟩ 1 1 [.int .u8 (x % 256)] rfl rfl ?c1 ?c2 ?c3 ?c4 ?c5 ?_)
     case c1 =>
      intro j u hu
      match j,hu with
      | 0,hu=>simp at hu;subst hu;simp [Addr.add]
     case c2=>intro u hu;simp at hu;subst hu;rfl
     case c3=>have:=HI.out;unfold maxLen;omega
     case c4=>have:=HI.out;omega
     case c5=>have:=hB.size;simp;omega
     intro v' w1 hown' hgrow _
     have R1:Below W0.heap.size W0 w1:=(K.alloc hB _).grown hgrow (K.alloc hB _).size (fun k hk=>(hO.lt k hk).1)
     have R2:w1.ownsRow W0.heap.size 5 1 v' (8*i+(k+1)) (pl a (8*i+(k+1))):=by rw [← Nat.add_assoc,pl_succ,← HD.out.1];exact hown'
     clear hown' hgrow hO hB
     go_wp2_with fail
     go_roundg (8-(k+1))
     case measure=>omega
     case rel=>exact ⟨k+1,rfl,by omega,by go_num,by rw [← HD.out.2],R2,R1⟩
    ·obtain rfl:k=8:=by omega
     go_wp2_with fail
     go_roundg (4-(i+1))
     case measure=>have:=HI.out;omega
     case rel=>exact ⟨i+1,rfl,by have:=HI.out;omega,by go_num,hO,hB⟩
  ·obtain rfl:i=4:=by omega
   go_wp2_with fail
   obtain ⟨g,cap,rfl,_,hR⟩:=own_rd (f:=fun i=>Y i a) hO (fun j hj=>pl_at a _ j hj) (by omega)
   go_ret
   exact ⟨g,cap,rfl,hR,K.call hw hB⟩
theorem refPutBig_any (a:Int) (w:World) :
  Calls Tryz.prog 49 #[.agg #[.int .u64 (L 0 a),.int .u64 (L 1 a),.int .u64 (L 2 a),.int .u64 (L 3 a)]] w fun e w'=>∃ g cap,e=.returned (.slice (some ⟨g,0,none⟩) 32 cap)∧Row8 w' g 32 (fun i=>Y (31-i) a)∧Below w.heap.size w w':=by
 go_enter Tryz.func49,Tryz.ntmps49
 go_wp2_with fail
 with_reducible refine Calls.mono (refPutLittle_any a _) ?_
 rintro e w1 ⟨g,cap,rfl,hR,hb1⟩
 have hB1:Below w.heap.size w w1:=K.call (K.alloc (Below.refl _ _) _) hb1
 clear hb1
 go_wp2_with fail
 with_reducible refine Calls.mono (turned_any (by omega) hR.rd) ?_
 rintro e w2 ⟨v,rfl,hown,hb2⟩
 obtain ⟨g2,cap2,rfl,_,hR2⟩:=own_rd (f:=fun i=>Y (31-i) a) hown (fun j hj=>rv_at _ 32 32 j hj) (by omega)
 clear hown
 go_wp2_with fail
 go_ret
 exact ⟨g2,cap2,rfl,hR2,K.call hB1 hb2⟩
theorem eight_any {b o cap:Nat} {f:Nat→Int} (hf:∀ i,0≤f i∧f i<256) {w:World} (hD:Rd w b o 8 f) :
  Calls Tryz.prog 108 #[.slice (some ⟨b,o,none⟩) 8 cap] w fun e w'=>e=.returned (.int .u64 (E f 0 8))∧w'=w:=by
 have c0:=hD.c 0 (by omega)
 have l0:=(hf 0).1
 have u0:=(hf 0).2
 have c1:=hD.c 1 (by omega)
 have l1:=(hf 1).1
 have u1:=(hf 1).2
 have c2:=hD.c 2 (by omega)
 have l2:=(hf 2).1
 have u2:=(hf 2).2
 have c3:=hD.c 3 (by omega)
 have l3:=(hf 3).1
 have u3:=(hf 3).2
 have c4:=hD.c 4 (by omega)
 have l4:=(hf 4).1
 have u4:=(hf 4).2
 have c5:=hD.c 5 (by omega)
 have l5:=(hf 5).1
 have u5:=(hf 5).2
 have c6:=hD.c 6 (by omega)
 have l6:=(hf 6).1
 have u6:=(hf 6).2
 have c7:=hD.c 7 (by omega)
 have l7:=(hf 7).1
 have u7:=(hf 7).2
 rw [Nat.add_zero] at c0
 have HE:Hid (E f 0 8=f 0+256*(f 1+256*(f 2+256*(f 3+256*(f 4+256*(f 5+256*(f 6+256*f 7))))))):=by
  show _=_
  simp [E]
  omega
 clear hf hD
 generalize f 0=x0 at *
 generalize f 1=x1 at *
 generalize f 2=x2 at *
 generalize f 3=x3 at *
 generalize f 4=x4 at *
 generalize f 5=x5 at *
 generalize f 6=x6 at *
 generalize f 7=x7 at *
 go_enter Tryz.func108,Tryz.ntmps108
 go_wp2_with fail
 refine wp_loop_rounds 9 ?_
 rw [rounds_succ]
 go_wp2_with fail
 rw [rounds_succ]
 go_wp2_with fail
 rw [rounds_succ]
 go_wp2_with fail
 rw [rounds_succ]
 go_wp2_with fail
 rw [rounds_succ]
 go_wp2_with fail
 rw [rounds_succ]
 go_wp2_with fail
 rw [rounds_succ]
 go_wp2_with fail
 rw [rounds_succ]
 go_wp2_with fail
 rw [rounds_succ]
 go_wp2_with fail
 go_ret
 exact ⟨ret_int (by rw [HE.out];omega),rfl⟩
theorem E_shift (f:Nat→Int) (k:Nat):∀ r,E (fun i=>f (k+i)) 0 r=E f k r
 | 0=>rfl
 | r+1=>by simp only [E];rw [E_shift f k r,Nat.zero_add]
theorem eight_at {b o n cap:Nat} (k:Nat) {f:Nat→Int} (hf:∀ i,0≤f i∧f i<256) (hk:k+8≤n) {w:World} (hD:Rd w b o n f) :
  Calls Tryz.prog 108 #[.slice (some ⟨b,o+k,none⟩) 8 cap] w fun e w'=>e=.returned (.int .u64 (E f k 8))∧w'=w:=by
 have h:=eight_any (cap:=cap) (fun i=>hf (k+i)) (hD.part k 8 hk)
 rw [E_shift] at h
 exact h
theorem eight_at0 {b o n cap:Nat} {f:Nat→Int} (hf:∀ i,0≤f i∧f i<256) (hk:8≤n) {w:World} (hD:Rd w b o n f) :
  Calls Tryz.prog 108 #[.slice (some ⟨b,o,none⟩) 8 cap] w fun e w'=>e=.returned (.int .u64 (E f 0 8))∧w'=w :=
 eight_at (cap:=cap) 0 hf (by omega) hD
theorem refLittle_any {b o cap:Nat} {f:Nat→Int} (hcap:32≤cap) (hf:∀ i,0≤f i∧f i<256) {w:World} (hD:Rd w b o 32 f) :
  Calls Tryz.prog 67 #[.slice (some ⟨b,o,none⟩) 32 cap] w fun e w'=>e=.returned (.tuple #[.agg #[.int .u64 (E f 0 8),.int .u64 (E f 8 8),.int .u64 (E f 16 8),.int .u64 (E f 24 8)],.bool true])∧Below w.heap.size w w':=by
 have HF:Hid (∀ i,0≤f i∧f i<256):=hf
 have HD:Hid (∀ w1,Below w.heap.size w w1→Rd w1 b o 32 f):=fun w1 hb=>hD.keep hb
 have hci:(32:Int)≤cap:=by omega
 clear hf hD
 go_enter Tryz.func67,Tryz.ntmps67
 go_wp2_with fail
 apply wp_mono (Q:=Only _ _)
 ·go_region_with (first
   | (go_at_call 108;with_reducible refine Calls.mono (eight_at0 HF.out (by omega) (HD.out _ (K.drew (K.alloc (Below.refl _ _) _)))) ?_;rintro e w' ⟨rfl,rfl⟩)
   | (go_at_call 108;with_reducible refine Calls.mono (eight_at 8 HF.out (by omega) (HD.out _ (K.drew (K.alloc (Below.refl _ _) _)))) ?_;rintro e w' ⟨rfl,rfl⟩)
   | (go_at_call 108;with_reducible refine Calls.mono (eight_at 16 HF.out (by omega) (HD.out _ (K.drew (K.alloc (Below.refl _ _) _)))) ?_;rintro e w' ⟨rfl,rfl⟩)
   | (go_at_call 108;with_reducible refine Calls.mono (eight_at 24 HF.out (by omega) (HD.out _ (K.drew (K.alloc (Below.refl _ _) _)))) ?_;rintro e w' ⟨rfl,rfl⟩))
  all_goals exact Only.intro _ _
 refine Only.out ?_
 go_wp2_with fail
 exact bodyPost_ret (v:=.tuple #[.agg #[.int .u64 (E f 0 8),.int .u64 (E f 8 8),.int .u64 (E f 16 8),.int .u64 (E f 24 8)],.bool true]) (by simp [results,Tryz.results67,go_sem]) rfl ⟨rfl,K.drew (K.alloc (Below.refl _ _) _)⟩
theorem refBig_any {b o cap:Nat} {f:Nat→Int} (hf:∀ i,0≤f i∧f i<256) {w:World} (hD:Rd w b o 32 f) :
  Calls Tryz.prog 34 #[.slice (some ⟨b,o,none⟩) 32 cap] w fun e w'=>e=.returned (.tuple #[.agg #[.int .u64 (E (fun i=>f (31-i)) 0 8),.int .u64 (E (fun i=>f (31-i)) 8 8),.int .u64 (E (fun i=>f (31-i)) 16 8),.int .u64 (E (fun i=>f (31-i)) 24 8)],.bool true])∧Below w.heap.size w w':=by
 have HF:Hid (∀ i,0≤f i∧f i<256):=hf
 clear hf
 go_enter Tryz.func34,Tryz.ntmps34
 go_wp2_with fail
 with_reducible refine Calls.mono (turned_any (cap:=cap) (by omega) (hD.keep (K.alloc (Below.refl _ _) _))) ?_
 rintro e w1 ⟨v,rfl,hown,hb1⟩
 obtain ⟨g,c,rfl,_,hrow⟩:=own_rd (f:=fun i=>f (31-i)) hown (fun j hj=>rv_at f 32 32 j hj) (by omega)
 have hc:=own_cap hown
 have HRow:Hid (Row8 w1 g 32 (fun i=>f (31-i))):=hrow
 have hR1:=(ArrW.new w w.heap.size rfl 24 0 0 0 0).keep hb1
 have hB1:Below w.heap.size w w1:=K.call (K.alloc (Below.refl _ _) _) hb1
 clear hb1 hown hrow hD
 go_wp2_with fail
 with_reducible refine Calls.mono (refLittle_any hc (fun i=>HF.out _) HRow.out.rd) ?_
 rintro e w2 ⟨rfl,hb⟩
 have ⟨kr,kr0,kr1,kr2,kr3,kf0,kf1,kf2,kf3⟩:=hR1.keep hb
 have hB:Below w.heap.size w w2:=K.call hB1 hb
 clear hR1 hB1 hb
 go_wp2_with fail
 exact bodyPost_ret (v:=.tuple #[.agg #[.int .u64 (E (fun i=>f (31-i)) 0 8),.int .u64 (E (fun i=>f (31-i)) 8 8),.int .u64 (E (fun i=>f (31-i)) 16 8),.int .u64 (E (fun i=>f (31-i)) 24 8)],.bool true]) (by simp [results,Tryz.results34,go_sem,kr0,kr1,kr2,kr3]) rfl ⟨rfl,K.set4 hB (by omega) _ _ _ _⟩
end Go.Proofs.YtmigakanbeckpaaGreatDoor
