/- What field.Add and Sub answer. -/
import Derived.Test.YtjaahnlpnkcimaaDoorAB19
import Derived.Deep.DeepCutAuto
set_option maxHeartbeats 4000000
namespace Go.Proofs.YtjaahnlpnkcimaaDoor
set_option maxRecDepth 100000
open Go.RowKit
attribute [local go_sem ↓] Go.wp_at_zero Go.wp_at_succ
theorem wp_world {P:Program} {c:Code} {Q:Exit→Act→World→Prop} {a:Act} {w:World} (F:World→Prop) (hf:F w) (h:∀ W,F W→Code.wp P c Q a W):Code.wp P c Q a w:=h w hf
theorem f_add {k a b:Int} (hkk:0≤k∧k≤3) (ha:Num a) (hb:Num b) {w:World} (hT:Tab w):Calls Tryd.prog 20 #[.int .i64 k,.agg #[.int .u64 (L 0 a),.int .u64 (L 1 a),.int .u64 (L 2 a),.int .u64 (L 3 a)],.agg #[.int .u64 (L 0 b),.int .u64 (L 1 b),.int .u64 (L 2 b),.int .u64 (L 3 b)]] w fun e w'=>e=.returned (.agg #[.int .u64 (L 0 ((a+b) % md k)),.int .u64 (L 1 ((a+b) % md k)),.int .u64 (L 2 ((a+b) % md k)),.int .u64 (L 3 ((a+b) % md k))])∧Below w.heap.size w w':=by
 have nm:=md_num k
 have hp:=md_pos hkk
 go_enter Tryd.func20,Tryd.ntmps20
 go_wp2_with fail
 with_reducible refine Calls.mono (modOf_any k (hT.keep (K.alloc (K.alloc (K.alloc (Below.refl _ _) _) _) _))) ?_
 rintro e w1 ⟨rfl,hb1⟩
 have A1:=(((Arr.new w w.heap.size rfl 33 (L 0 a) (L 1 a) (L 2 a) (L 3 a)).alloc _).alloc _).keep hb1 |>.alloc (.cells #[.int .u64 (L 0 (md k)),.int .u64 (L 1 (md k)),.int .u64 (L 2 (md k)),.int .u64 (L 3 (md k))] 67)
 have B1:=((Arr.new _ (w.heap.size+1) (by simp) 33 (L 0 b) (L 1 b) (L 2 b) (L 3 b)).alloc _).keep hb1 |>.alloc (.cells #[.int .u64 (L 0 (md k)),.int .u64 (L 1 (md k)),.int .u64 (L 2 (md k)),.int .u64 (L 3 (md k))] 67)
 have R1:=(ArrW.new _ (w.heap.size+1+1) (by simp) 33 0 0 0 0).keep hb1 |>.alloc (.cells #[.int .u64 (L 0 (md k)),.int .u64 (L 1 (md k)),.int .u64 (L 2 (md k)),.int .u64 (L 3 (md k))] 67)
 have M1:=Arr.new w1 w1.heap.size rfl 67 (L 0 (md k)) (L 1 (md k)) (L 2 (md k)) (L 3 (md k))
 have hw1:Below w.heap.size w (w1.alloc (.cells #[.int .u64 (L 0 (md k)),.int .u64 (L 1 (md k)),.int .u64 (L 2 (md k)),.int .u64 (L 3 (md k))] 67)):=K.alloc (K.call (K.alloc (K.alloc (K.alloc (Below.refl _ w) _) _) _) hb1) _
 clear hb1
 go_wp2_with fail
 generalize hbm:w1.heap.size=bm at *
 clear hbm
 generalize w1.alloc (.cells #[.int .u64 (L 0 (md k)),.int .u64 (L 1 (md k)),.int .u64 (L 2 (md k)),.int .u64 (L 3 (md k))] 67)=W0 at *
 clear w1
 have ⟨ka,ka0,ka1,ka2,ka3⟩:=A1
 have ⟨kb,kb0,kb1,kb2,kb3⟩:=B1
 have ⟨km,km0,km1,km2,km3⟩:=M1
 have hS:Hid (∀ w',Below W0.heap.size W0 w'→(Below W0.heap.size W0 w'∧w'.cell? ⟨w.heap.size,0,none⟩=some (.int .u64 (L 0 a))∧w'.cell? ⟨w.heap.size,1,none⟩=some (.int .u64 (L 1 a))∧w'.cell? ⟨w.heap.size,2,none⟩=some (.int .u64 (L 2 a))∧w'.cell? ⟨w.heap.size,3,none⟩=some (.int .u64 (L 3 a))∧w'.cell? ⟨w.heap.size+1,0,none⟩=some (.int .u64 (L 0 b))∧w'.cell? ⟨w.heap.size+1,1,none⟩=some (.int .u64 (L 1 b))∧w'.cell? ⟨w.heap.size+1,2,none⟩=some (.int .u64 (L 2 b))∧w'.cell? ⟨w.heap.size+1,3,none⟩=some (.int .u64 (L 3 b))∧w'.cell? ⟨bm,0,none⟩=some (.int .u64 (L 0 (md k)))∧w'.cell? ⟨bm,1,none⟩=some (.int .u64 (L 1 (md k)))∧w'.cell? ⟨bm,2,none⟩=some (.int .u64 (L 2 (md k)))∧w'.cell? ⟨bm,3,none⟩=some (.int .u64 (L 3 (md k))))):=fun w' hB=>⟨hB,later hB ka0,later hB ka1,later hB ka2,later hB ka3,later hB kb0,later hB kb1,later hB kb2,later hB kb3,later hB km0,later hB km1,later hB km2,later hB km3⟩
 clear ka ka0 ka1 ka2 ka3 kb kb0 kb1 kb2 kb3 km km0 km1 km2 km3
 go_cut [8,9] (fun s8 s9 wc=>∃ n,s8=.pointer (some ⟨n,0,none⟩)∧s9=.bool (over (a % md k) (b % md k))∧Below w.heap.size w wc∧Arr wc bm (L 0 (md k)) (L 1 (md k)) (L 2 (md k)) (L 3 (md k))∧ArrW wc (w.heap.size+1+1) 0 0 0 0∧ArrW wc n (L 0 (a % md k+b % md k)) (L 1 (a % md k+b % md k)) (L 2 (a % md k+b % md k)) (L 3 (a % md k+b % md k)))
 case first =>
  go_region_held3 (fun w'=>Below W0.heap.size W0 w'∧w'.cell? ⟨w.heap.size,0,none⟩=some (.int .u64 (L 0 a))∧w'.cell? ⟨w.heap.size,1,none⟩=some (.int .u64 (L 1 a))∧w'.cell? ⟨w.heap.size,2,none⟩=some (.int .u64 (L 2 a))∧w'.cell? ⟨w.heap.size,3,none⟩=some (.int .u64 (L 3 a))∧w'.cell? ⟨w.heap.size+1,0,none⟩=some (.int .u64 (L 0 b))∧w'.cell? ⟨w.heap.size+1,1,none⟩=some (.int .u64 (L 1 b))∧w'.cell? ⟨w.heap.size+1,2,none⟩=some (.int .u64 (L 2 b))∧w'.cell? ⟨w.heap.size+1,3,none⟩=some (.int .u64 (L 3 b))∧w'.cell? ⟨bm,0,none⟩=some (.int .u64 (L 0 (md k)))∧w'.cell? ⟨bm,1,none⟩=some (.int .u64 (L 1 (md k)))∧w'.cell? ⟨bm,2,none⟩=some (.int .u64 (L 2 (md k)))∧w'.cell? ⟨bm,3,none⟩=some (.int .u64 (L 3 (md k))))
   ((refine hS.out _ ?_;first | (with_reducible exact K.drew (Below.refl _ _)) | (with_reducible exact K.drew (K.alloc (Below.refl _ _) _)) | (with_reducible exact Below.refl _ _) | (with_reducible exact K.call (by go_split_ands;assumption) hk) | (with_reducible exact K.alloc (by go_split_ands;assumption) _) | (with_reducible exact K.again (by go_split_ands;assumption) (by omega) _) | (with_reducible exact K.set (by go_split_ands;assumption) (by first | omega | (simp;done) | (simp;omega)) _) | (with_reducible exact K.set (K.set (K.set (K.set (by go_split_ands;assumption) (by first | omega | (simp;done) | (simp;omega)) _) (by first | omega | (simp;done) | (simp;omega)) _) (by first | omega | (simp;done) | (simp;omega)) _) (by first | omega | (simp;done) | (simp;omega)) _)))
   (first
    | (go_at_call 47;with_reducible refine Calls.mono (fold_any hkk ha _) ?_;rintro e w' ⟨rfl,hk⟩;have hz:=hk.size;(try simp at hz);obtain ⟨hc,hf⟩:=bcell hk;have hl:=lt_keep hk;(try have hlz:W0.heap.size<w'.heap.size:=(by omega));(first | have hX:=hX.keep hk | have hX:=(ArrW.new _ _ rfl 33 0 0 0 0).keep hk | have hX:=(ArrW.new _ _ rfl 33 0 0 0 0).drew.keep hk | skip);(try have ⟨kx,kx0,kx1,kx2,kx3,kxf0,kxf1,kxf2,kxf3⟩:=hX))
    | (go_at_call 47;with_reducible refine Calls.mono (fold_any hkk hb _) ?_;rintro e w' ⟨rfl,hk⟩;have hz:=hk.size;(try simp at hz);obtain ⟨hc,hf⟩:=bcell hk;have hl:=lt_keep hk;(try have hlz:W0.heap.size<w'.heap.size:=(by omega));(first | have hX:=hX.keep hk | have hX:=(ArrW.new _ _ rfl 33 0 0 0 0).keep hk | have hX:=(ArrW.new _ _ rfl 33 0 0 0 0).drew.keep hk | skip);(try have ⟨kx,kx0,kx1,kx2,kx3,kxf0,kxf1,kxf2,kxf3⟩:=hX))
    | (go_at_call 46;with_reducible refine Calls.mono (add_any (num_mod (a:=a) nm hp) (num_mod (a:=b) nm hp) _) ?_;rintro e w' ⟨rfl,hk⟩;have hz:=hk.size;(try simp at hz);obtain ⟨hc,hf⟩:=bcell hk;have hl:=lt_keep hk;(try have hlz:W0.heap.size<w'.heap.size:=(by omega));(first | have hX:=hX.keep hk | have hX:=(ArrW.new _ _ rfl 33 0 0 0 0).keep hk | have hX:=(ArrW.new _ _ rfl 33 0 0 0 0).drew.keep hk | skip);(try have ⟨kx,kx0,kx1,kx2,kx3,kxf0,kxf1,kxf2,kxf3⟩:=hX)))
  all_goals
   have hH:=‹Below _ _ _∧_›
   (try go_wp2_with fail)
   go_meet
   first
    | exact ⟨_,rfl,rfl,K.call hw1 hH.1,M1.keep hH.1,R1.keep hH.1,hX.stored _ _ _ _⟩
    | exact ⟨_,rfl,rfl,K.call hw1 hH.1,M1.keep hH.1,R1.keep hH.1,ArrW.new _ _ rfl _ _ _ _ _⟩
    | exact ⟨_,rfl,rfl,K.call hw1 hH.1,M1.keep hH.1,R1.keep hH.1,(ArrW.new _ _ rfl _ _ _ _ _).drew⟩
 case rest =>
 obtain ⟨nx,rfl,rfl,hW,hM,hR,hX⟩:=hcut
 clear A1 B1 R1 M1 hw1 hS
 have ⟨km,km0,km1,km2,km3⟩:=hM
 have ⟨kx,kx0,kx1,kx2,kx3,kxf0,kxf1,kxf2,kxf3⟩:=hX
 have x0:=Int.emod_nonneg a (b:=md k) (by omega)
 have x1:=Int.emod_lt_of_pos a hp
 have y0:=Int.emod_nonneg b (b:=md k) (by omega)
 have y1:=Int.emod_lt_of_pos b hp
 have hmod:=Int.add_emod a b (md k)
 have hmh:=nm.hi
 by_cases o:M≤a % md k+b % md k
 ·have ho:over (a % md k) (b % md k)=true:=by unfold over;simpa using o
  have HV:Hid ((a+b) % md k=a % md k+b % md k-md k):=by rw [hmod];exact mod_once (by omega) (by omega)
  rw [ho]
  clear hmod o x0 x1 y0 y1 hmh ho hkk
  generalize a % md k+b % md k=s at *
  go_wp2_with fail
  with_reducible refine Calls.mono (sub_walk s (md k) _) ?_
  clear km km0 km1 km2 km3 kx kx0 kx1 kx2 kx3 kxf0 kxf1 kxf2 kxf3
  rintro e w2 ⟨rfl,hb2⟩
  have Y2:=Arr.new w2 w2.heap.size rfl 33 (L 0 (s-md k)) (L 1 (s-md k)) (L 2 (s-md k)) (L 3 (s-md k))
  have X2:=(hX.keep hb2).alloc (.cells #[.int .u64 (L 0 (s-md k)),.int .u64 (L 1 (s-md k)),.int .u64 (L 2 (s-md k)),.int .u64 (L 3 (s-md k))] 33)
  have R2:=(hR.keep hb2).alloc (.cells #[.int .u64 (L 0 (s-md k)),.int .u64 (L 1 (s-md k)),.int .u64 (L 2 (s-md k)),.int .u64 (L 3 (s-md k))] 33)
  have hw2:Below w.heap.size w (w2.alloc (.cells #[.int .u64 (L 0 (s-md k)),.int .u64 (L 1 (s-md k)),.int .u64 (L 2 (s-md k)),.int .u64 (L 3 (s-md k))] 33)):=K.alloc (K.call hW hb2) _
  clear hb2 hX hR hW hM
  have ⟨ky,ky0,ky1,ky2,ky3⟩:=Y2
  have ⟨kx,kx0,kx1,kx2,kx3,kxf0,kxf1,kxf2,kxf3⟩:=X2
  go_wp2_with fail
  with_reducible refine Calls.mono (pick_true _ _ _ _ _ _ _ _ _) ?_
  clear ky ky0 ky1 ky2 ky3 kx kx0 kx1 kx2 kx3 kxf0 kxf1 kxf2 kxf3
  rintro e w3 ⟨rfl,hb3⟩
  have ⟨kr,kr0,kr1,kr2,kr3,kf0,kf1,kf2,kf3⟩:=R2.keep hb3
  have hw3:Below w.heap.size w w3:=K.call hw2 hb3
  go_wp2_with fail
  exact bodyPost_ret (v:=.agg #[.int .u64 (L 0 (s-md k)),.int .u64 (L 1 (s-md k)),.int .u64 (L 2 (s-md k)),.int .u64 (L 3 (s-md k))]) (by simp [results,Tryd.results20,go_sem,kr0,kr1,kr2,kr3]) rfl ⟨by rw [HV.out],K.set4 hw3 (by omega) _ _ _ _⟩
 ·have ho:over (a % md k) (b % md k)=false:=by unfold over;simpa using o
  have ns:Num (a % md k+b % md k):=⟨by omega,by omega⟩
  rw [ho]
  by_cases l:a % md k+b % md k<md k
  ·have HV:Hid ((a+b) % md k=a % md k+b % md k):=by rw [hmod];exact mod_low (by omega) l
   have hD:(D (a % md k+b % md k) (md k) 4 == 1)=true:=by rw [D_four ns nm];unfold under;simpa using l
   clear hmod o x0 x1 y0 y1 hmh ho hkk ns l
   generalize a % md k+b % md k=s at *
   go_wp2_with fail
   with_reducible refine Calls.mono (sub_walk s (md k) _) ?_
   clear km km0 km1 km2 km3 kx kx0 kx1 kx2 kx3 kxf0 kxf1 kxf2 kxf3
   rw [hD]
   clear hD
   rintro e w2 ⟨rfl,hb2⟩
   have Y2:=Arr.new w2 w2.heap.size rfl 33 (L 0 (s-md k)) (L 1 (s-md k)) (L 2 (s-md k)) (L 3 (s-md k))
   have X2:=(hX.keep hb2).alloc (.cells #[.int .u64 (L 0 (s-md k)),.int .u64 (L 1 (s-md k)),.int .u64 (L 2 (s-md k)),.int .u64 (L 3 (s-md k))] 33)
   have R2:=(hR.keep hb2).alloc (.cells #[.int .u64 (L 0 (s-md k)),.int .u64 (L 1 (s-md k)),.int .u64 (L 2 (s-md k)),.int .u64 (L 3 (s-md k))] 33)
   have hw2:Below w.heap.size w (w2.alloc (.cells #[.int .u64 (L 0 (s-md k)),.int .u64 (L 1 (s-md k)),.int .u64 (L 2 (s-md k)),.int .u64 (L 3 (s-md k))] 33)):=K.alloc (K.call hW hb2) _
   clear hb2 hX hR hW hM
   have ⟨ky,ky0,ky1,ky2,ky3⟩:=Y2
   have ⟨kx,kx0,kx1,kx2,kx3,kxf0,kxf1,kxf2,kxf3⟩:=X2
   go_wp2_with fail
   with_reducible refine Calls.mono (pick_false _ _ _ _ _ _ _ _ _) ?_
   clear ky ky0 ky1 ky2 ky3 kx kx0 kx1 kx2 kx3 kxf0 kxf1 kxf2 kxf3
   rintro e w3 ⟨rfl,hb3⟩
   have ⟨kr,kr0,kr1,kr2,kr3,kf0,kf1,kf2,kf3⟩:=R2.keep hb3
   have hw3:Below w.heap.size w w3:=K.call hw2 hb3
   go_wp2_with fail
   exact bodyPost_ret (v:=.agg #[.int .u64 (L 0 s),.int .u64 (L 1 s),.int .u64 (L 2 s),.int .u64 (L 3 s)]) (by simp [results,Tryd.results20,go_sem,kr0,kr1,kr2,kr3]) rfl ⟨by rw [HV.out],K.set4 hw3 (by omega) _ _ _ _⟩
  ·have HV:Hid ((a+b) % md k=a % md k+b % md k-md k):=by rw [hmod];exact mod_once (by omega) (by omega)
   have hD:(D (a % md k+b % md k) (md k) 4 == 1)=false:=by rw [D_four ns nm];unfold under;simpa using l
   clear hmod o x0 x1 y0 y1 hmh ho hkk ns l
   generalize a % md k+b % md k=s at *
   go_wp2_with fail
   with_reducible refine Calls.mono (sub_walk s (md k) _) ?_
   clear km km0 km1 km2 km3 kx kx0 kx1 kx2 kx3 kxf0 kxf1 kxf2 kxf3
   rw [hD]
   clear hD
   rintro e w2 ⟨rfl,hb2⟩
   have Y2:=Arr.new w2 w2.heap.size rfl 33 (L 0 (s-md k)) (L 1 (s-md k)) (L 2 (s-md k)) (L 3 (s-md k))
   have X2:=(hX.keep hb2).alloc (.cells #[.int .u64 (L 0 (s-md k)),.int .u64 (L 1 (s-md k)),.int .u64 (L 2 (s-md k)),.int .u64 (L 3 (s-md k))] 33)
   have R2:=(hR.keep hb2).alloc (.cells #[.int .u64 (L 0 (s-md k)),.int .u64 (L 1 (s-md k)),.int .u64 (L 2 (s-md k)),.int .u64 (L 3 (s-md k))] 33)
   have hw2:Below w.heap.size w (w2.alloc (.cells #[.int .u64 (L 0 (s-md k)),.int .u64 (L 1 (s-md k)),.int .u64 (L 2 (s-md k)),.int .u64 (L 3 (s-md k))] 33)):=K.alloc (K.call hW hb2) _
   clear hb2 hX hR hW hM
   have ⟨ky,ky0,ky1,ky2,ky3⟩:=Y2
   have ⟨kx,kx0,kx1,kx2,kx3,kxf0,kxf1,kxf2,kxf3⟩:=X2
   go_wp2_with fail
   with_reducible refine Calls.mono (pick_true _ _ _ _ _ _ _ _ _) ?_
   clear ky ky0 ky1 ky2 ky3 kx kx0 kx1 kx2 kx3 kxf0 kxf1 kxf2 kxf3
   rintro e w3 ⟨rfl,hb3⟩
   have ⟨kr,kr0,kr1,kr2,kr3,kf0,kf1,kf2,kf3⟩:=R2.keep hb3
   have hw3:Below w.heap.size w w3:=K.call hw2 hb3
   go_wp2_with fail
   exact bodyPost_ret (v:=.agg #[.int .u64 (L 0 (s-md k)),.int .u64 (L 1 (s-md k)),.int .u64 (L 2 (s-md k)),.int .u64 (L 3 (s-md k))]) (by simp [results,Tryd.results20,go_sem,kr0,kr1,kr2,kr3]) rfl ⟨by rw [HV.out],K.set4 hw3 (by omega) _ _ _ _⟩
theorem f_sub {k a b:Int} (hkk:0≤k∧k≤3) (ha:Num a) (hb:Num b) {w:World} (hT:Tab w):Calls Tryd.prog 66 #[.int .i64 k,.agg #[.int .u64 (L 0 a),.int .u64 (L 1 a),.int .u64 (L 2 a),.int .u64 (L 3 a)],.agg #[.int .u64 (L 0 b),.int .u64 (L 1 b),.int .u64 (L 2 b),.int .u64 (L 3 b)]] w fun e w'=>e=.returned (.agg #[.int .u64 (L 0 ((a-b) % md k)),.int .u64 (L 1 ((a-b) % md k)),.int .u64 (L 2 ((a-b) % md k)),.int .u64 (L 3 ((a-b) % md k))])∧Below w.heap.size w w':=by
 have nm:=md_num k
 have hp:=md_pos hkk
 go_enter Tryd.func66,Tryd.ntmps66
 go_wp2_with fail
 with_reducible refine Calls.mono (modOf_any k (hT.keep (K.alloc (K.alloc (K.alloc (Below.refl _ _) _) _) _))) ?_
 rintro e w1 ⟨rfl,hb1⟩
 have A1:=(((Arr.new w w.heap.size rfl 33 (L 0 a) (L 1 a) (L 2 a) (L 3 a)).alloc _).alloc _).keep hb1 |>.alloc (.cells #[.int .u64 (L 0 (md k)),.int .u64 (L 1 (md k)),.int .u64 (L 2 (md k)),.int .u64 (L 3 (md k))] 67)
 have B1:=((Arr.new _ (w.heap.size+1) (by simp) 33 (L 0 b) (L 1 b) (L 2 b) (L 3 b)).alloc _).keep hb1 |>.alloc (.cells #[.int .u64 (L 0 (md k)),.int .u64 (L 1 (md k)),.int .u64 (L 2 (md k)),.int .u64 (L 3 (md k))] 67)
 have R1:=(ArrW.new _ (w.heap.size+1+1) (by simp) 33 0 0 0 0).keep hb1 |>.alloc (.cells #[.int .u64 (L 0 (md k)),.int .u64 (L 1 (md k)),.int .u64 (L 2 (md k)),.int .u64 (L 3 (md k))] 67)
 have M1:=Arr.new w1 w1.heap.size rfl 67 (L 0 (md k)) (L 1 (md k)) (L 2 (md k)) (L 3 (md k))
 have hw1:Below w.heap.size w (w1.alloc (.cells #[.int .u64 (L 0 (md k)),.int .u64 (L 1 (md k)),.int .u64 (L 2 (md k)),.int .u64 (L 3 (md k))] 67)):=K.alloc (K.call (K.alloc (K.alloc (K.alloc (Below.refl _ w) _) _) _) hb1) _
 clear hb1
 go_wp2_with fail
 generalize hbm:w1.heap.size=bm at *
 clear hbm
 generalize w1.alloc (.cells #[.int .u64 (L 0 (md k)),.int .u64 (L 1 (md k)),.int .u64 (L 2 (md k)),.int .u64 (L 3 (md k))] 67)=W0 at *
 clear w1
 have ⟨ka,ka0,ka1,ka2,ka3⟩:=A1
 have ⟨kb,kb0,kb1,kb2,kb3⟩:=B1
 have ⟨km,km0,km1,km2,km3⟩:=M1
 have hS:Hid (∀ w',Below W0.heap.size W0 w'→(Below W0.heap.size W0 w'∧w'.cell? ⟨w.heap.size,0,none⟩=some (.int .u64 (L 0 a))∧w'.cell? ⟨w.heap.size,1,none⟩=some (.int .u64 (L 1 a))∧w'.cell? ⟨w.heap.size,2,none⟩=some (.int .u64 (L 2 a))∧w'.cell? ⟨w.heap.size,3,none⟩=some (.int .u64 (L 3 a))∧w'.cell? ⟨w.heap.size+1,0,none⟩=some (.int .u64 (L 0 b))∧w'.cell? ⟨w.heap.size+1,1,none⟩=some (.int .u64 (L 1 b))∧w'.cell? ⟨w.heap.size+1,2,none⟩=some (.int .u64 (L 2 b))∧w'.cell? ⟨w.heap.size+1,3,none⟩=some (.int .u64 (L 3 b))∧w'.cell? ⟨bm,0,none⟩=some (.int .u64 (L 0 (md k)))∧w'.cell? ⟨bm,1,none⟩=some (.int .u64 (L 1 (md k)))∧w'.cell? ⟨bm,2,none⟩=some (.int .u64 (L 2 (md k)))∧w'.cell? ⟨bm,3,none⟩=some (.int .u64 (L 3 (md k))))):=fun w' hB=>⟨hB,later hB ka0,later hB ka1,later hB ka2,later hB ka3,later hB kb0,later hB kb1,later hB kb2,later hB kb3,later hB km0,later hB km1,later hB km2,later hB km3⟩
 clear ka ka0 ka1 ka2 ka3 kb kb0 kb1 kb2 kb3 km km0 km1 km2 km3
 go_cut [8,9] (fun s8 s9 wc=>∃ n,s8=.pointer (some ⟨n,0,none⟩)∧s9=.bool (under (a % md k) (b % md k))∧Below w.heap.size w wc∧Arr wc bm (L 0 (md k)) (L 1 (md k)) (L 2 (md k)) (L 3 (md k))∧ArrW wc (w.heap.size+1+1) 0 0 0 0∧ArrW wc n (L 0 (a % md k-b % md k)) (L 1 (a % md k-b % md k)) (L 2 (a % md k-b % md k)) (L 3 (a % md k-b % md k)))
 case first =>
  go_region_held3 (fun w'=>Below W0.heap.size W0 w'∧w'.cell? ⟨w.heap.size,0,none⟩=some (.int .u64 (L 0 a))∧w'.cell? ⟨w.heap.size,1,none⟩=some (.int .u64 (L 1 a))∧w'.cell? ⟨w.heap.size,2,none⟩=some (.int .u64 (L 2 a))∧w'.cell? ⟨w.heap.size,3,none⟩=some (.int .u64 (L 3 a))∧w'.cell? ⟨w.heap.size+1,0,none⟩=some (.int .u64 (L 0 b))∧w'.cell? ⟨w.heap.size+1,1,none⟩=some (.int .u64 (L 1 b))∧w'.cell? ⟨w.heap.size+1,2,none⟩=some (.int .u64 (L 2 b))∧w'.cell? ⟨w.heap.size+1,3,none⟩=some (.int .u64 (L 3 b))∧w'.cell? ⟨bm,0,none⟩=some (.int .u64 (L 0 (md k)))∧w'.cell? ⟨bm,1,none⟩=some (.int .u64 (L 1 (md k)))∧w'.cell? ⟨bm,2,none⟩=some (.int .u64 (L 2 (md k)))∧w'.cell? ⟨bm,3,none⟩=some (.int .u64 (L 3 (md k))))
   ((refine hS.out _ ?_;first | (with_reducible exact K.drew (Below.refl _ _)) | (with_reducible exact K.drew (K.alloc (Below.refl _ _) _)) | (with_reducible exact Below.refl _ _) | (with_reducible exact K.call (by go_split_ands;assumption) hk) | (with_reducible exact K.alloc (by go_split_ands;assumption) _) | (with_reducible exact K.again (by go_split_ands;assumption) (by omega) _) | (with_reducible exact K.set (by go_split_ands;assumption) (by first | omega | (simp;done) | (simp;omega)) _) | (with_reducible exact K.set (K.set (K.set (K.set (by go_split_ands;assumption) (by first | omega | (simp;done) | (simp;omega)) _) (by first | omega | (simp;done) | (simp;omega)) _) (by first | omega | (simp;done) | (simp;omega)) _) (by first | omega | (simp;done) | (simp;omega)) _)))
   (first
    | (go_at_call 47;with_reducible refine Calls.mono (fold_any hkk ha _) ?_;rintro e w' ⟨rfl,hk⟩;have hz:=hk.size;(try simp at hz);obtain ⟨hc,hf⟩:=bcell hk;have hl:=lt_keep hk;(try have hlz:W0.heap.size<w'.heap.size:=(by omega));(first | have hX:=hX.keep hk | have hX:=(ArrW.new _ _ rfl 33 0 0 0 0).keep hk | have hX:=(ArrW.new _ _ rfl 33 0 0 0 0).drew.keep hk | skip);(try have ⟨kx,kx0,kx1,kx2,kx3,kxf0,kxf1,kxf2,kxf3⟩:=hX))
    | (go_at_call 47;with_reducible refine Calls.mono (fold_any hkk hb _) ?_;rintro e w' ⟨rfl,hk⟩;have hz:=hk.size;(try simp at hz);obtain ⟨hc,hf⟩:=bcell hk;have hl:=lt_keep hk;(try have hlz:W0.heap.size<w'.heap.size:=(by omega));(first | have hX:=hX.keep hk | have hX:=(ArrW.new _ _ rfl 33 0 0 0 0).keep hk | have hX:=(ArrW.new _ _ rfl 33 0 0 0 0).drew.keep hk | skip);(try have ⟨kx,kx0,kx1,kx2,kx3,kxf0,kxf1,kxf2,kxf3⟩:=hX))
    | (go_at_call 48;with_reducible refine Calls.mono (sub_any (num_mod (a:=a) nm hp) (num_mod (a:=b) nm hp) _) ?_;rintro e w' ⟨rfl,hk⟩;have hz:=hk.size;(try simp at hz);obtain ⟨hc,hf⟩:=bcell hk;have hl:=lt_keep hk;(try have hlz:W0.heap.size<w'.heap.size:=(by omega));(first | have hX:=hX.keep hk | have hX:=(ArrW.new _ _ rfl 33 0 0 0 0).keep hk | have hX:=(ArrW.new _ _ rfl 33 0 0 0 0).drew.keep hk | skip);(try have ⟨kx,kx0,kx1,kx2,kx3,kxf0,kxf1,kxf2,kxf3⟩:=hX)))
  all_goals
   have hH:=‹Below _ _ _∧_›
   (try go_wp2_with fail)
   go_meet
   first
    | exact ⟨_,rfl,rfl,K.call hw1 hH.1,M1.keep hH.1,R1.keep hH.1,hX.stored _ _ _ _⟩
    | exact ⟨_,rfl,rfl,K.call hw1 hH.1,M1.keep hH.1,R1.keep hH.1,ArrW.new _ _ rfl _ _ _ _ _⟩
    | exact ⟨_,rfl,rfl,K.call hw1 hH.1,M1.keep hH.1,R1.keep hH.1,(ArrW.new _ _ rfl _ _ _ _ _).drew⟩
 case rest =>
 obtain ⟨nx,rfl,rfl,hW,hM,hR,hX⟩:=hcut
 clear A1 B1 R1 M1 hw1 hS
 have ⟨km,km0,km1,km2,km3⟩:=hM
 have ⟨kx,kx0,kx1,kx2,kx3,kxf0,kxf1,kxf2,kxf3⟩:=hX
 have x0:=Int.emod_nonneg a (b:=md k) (by omega)
 have x1:=Int.emod_lt_of_pos a hp
 have y0:=Int.emod_nonneg b (b:=md k) (by omega)
 have y1:=Int.emod_lt_of_pos b hp
 have hmod:=Int.sub_emod a b (md k)
 by_cases l:a % md k<b % md k
 ·have ho:under (a % md k) (b % md k)=true:=by unfold under;simpa using l
  have HV:Hid ((a-b) % md k=a % md k-b % md k+md k):=by
   rw [hmod,← Int.add_emod_right];exact mod_low (by omega) (by omega)
  rw [ho]
  clear hmod x0 x1 y0 y1 ho hkk l
  generalize a % md k-b % md k=s at *
  go_wp2_with fail
  with_reducible refine Calls.mono (add_walk s (md k) _) ?_
  clear km km0 km1 km2 km3 kx kx0 kx1 kx2 kx3 kxf0 kxf1 kxf2 kxf3
  rintro e w2 ⟨rfl,hb2⟩
  have Y2:=Arr.new w2 w2.heap.size rfl 33 (L 0 (s+md k)) (L 1 (s+md k)) (L 2 (s+md k)) (L 3 (s+md k))
  have X2:=(hX.keep hb2).alloc (.cells #[.int .u64 (L 0 (s+md k)),.int .u64 (L 1 (s+md k)),.int .u64 (L 2 (s+md k)),.int .u64 (L 3 (s+md k))] 33)
  have R2:=(hR.keep hb2).alloc (.cells #[.int .u64 (L 0 (s+md k)),.int .u64 (L 1 (s+md k)),.int .u64 (L 2 (s+md k)),.int .u64 (L 3 (s+md k))] 33)
  have hw2:Below w.heap.size w (w2.alloc (.cells #[.int .u64 (L 0 (s+md k)),.int .u64 (L 1 (s+md k)),.int .u64 (L 2 (s+md k)),.int .u64 (L 3 (s+md k))] 33)):=K.alloc (K.call hW hb2) _
  clear hb2 hX hR hW hM
  have ⟨ky,ky0,ky1,ky2,ky3⟩:=Y2
  have ⟨kx,kx0,kx1,kx2,kx3,kxf0,kxf1,kxf2,kxf3⟩:=X2
  go_wp2_with fail
  with_reducible refine Calls.mono (pick_true _ _ _ _ _ _ _ _ _) ?_
  clear ky ky0 ky1 ky2 ky3 kx kx0 kx1 kx2 kx3 kxf0 kxf1 kxf2 kxf3
  rintro e w3 ⟨rfl,hb3⟩
  have ⟨kr,kr0,kr1,kr2,kr3,kf0,kf1,kf2,kf3⟩:=R2.keep hb3
  have hw3:Below w.heap.size w w3:=K.call hw2 hb3
  go_wp2_with fail
  exact bodyPost_ret (v:=.agg #[.int .u64 (L 0 (s+md k)),.int .u64 (L 1 (s+md k)),.int .u64 (L 2 (s+md k)),.int .u64 (L 3 (s+md k))]) (by simp [results,Tryd.results66,go_sem,kr0,kr1,kr2,kr3]) rfl ⟨by rw [HV.out],K.set4 hw3 (by omega) _ _ _ _⟩
 ·have ho:under (a % md k) (b % md k)=false:=by unfold under;simpa using l
  have HV:Hid ((a-b) % md k=a % md k-b % md k):=by rw [hmod];exact mod_low (by omega) (by omega)
  rw [ho]
  clear hmod x0 x1 y0 y1 ho hkk l
  generalize a % md k-b % md k=s at *
  go_wp2_with fail
  with_reducible refine Calls.mono (add_walk s (md k) _) ?_
  clear km km0 km1 km2 km3 kx kx0 kx1 kx2 kx3 kxf0 kxf1 kxf2 kxf3
  rintro e w2 ⟨rfl,hb2⟩
  have Y2:=Arr.new w2 w2.heap.size rfl 33 (L 0 (s+md k)) (L 1 (s+md k)) (L 2 (s+md k)) (L 3 (s+md k))
  have X2:=(hX.keep hb2).alloc (.cells #[.int .u64 (L 0 (s+md k)),.int .u64 (L 1 (s+md k)),.int .u64 (L 2 (s+md k)),.int .u64 (L 3 (s+md k))] 33)
  have R2:=(hR.keep hb2).alloc (.cells #[.int .u64 (L 0 (s+md k)),.int .u64 (L 1 (s+md k)),.int .u64 (L 2 (s+md k)),.int .u64 (L 3 (s+md k))] 33)
  have hw2:Below w.heap.size w (w2.alloc (.cells #[.int .u64 (L 0 (s+md k)),.int .u64 (L 1 (s+md k)),.int .u64 (L 2 (s+md k)),.int .u64 (L 3 (s+md k))] 33)):=K.alloc (K.call hW hb2) _
  clear hb2 hX hR hW hM
  have ⟨ky,ky0,ky1,ky2,ky3⟩:=Y2
  have ⟨kx,kx0,kx1,kx2,kx3,kxf0,kxf1,kxf2,kxf3⟩:=X2
  go_wp2_with fail
  with_reducible refine Calls.mono (pick_false _ _ _ _ _ _ _ _ _) ?_
  clear ky ky0 ky1 ky2 ky3 kx kx0 kx1 kx2 kx3 kxf0 kxf1 kxf2 kxf3
  rintro e w3 ⟨rfl,hb3⟩
  have ⟨kr,kr0,kr1,kr2,kr3,kf0,kf1,kf2,kf3⟩:=R2.keep hb3
  have hw3:Below w.heap.size w w3:=K.call hw2 hb3
  go_wp2_with fail
  exact bodyPost_ret (v:=.agg #[.int .u64 (L 0 s),.int .u64 (L 1 s),.int .u64 (L 2 s),.int .u64 (L 3 s)]) (by simp [results,Tryd.results66,go_sem,kr0,kr1,kr2,kr3]) rfl ⟨by rw [HV.out],K.set4 hw3 (by omega) _ _ _ _⟩
end Go.Proofs.YtjaahnlpnkcimaaDoor
