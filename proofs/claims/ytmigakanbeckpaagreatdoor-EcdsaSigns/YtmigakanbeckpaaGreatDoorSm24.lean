/- A part of the proof. -/
import Derived.Test.YtmigakanbeckpaaGreatDoorSm23
import Derived.Test.YtmigakanbeckpaaGreatDoorSm03
import Derived.Test.YtmigakanbeckpaaGreatDoorSm02
import Derived.Deep.RegionHeld3
import Derived.Deep.LoopGhost
import Derived.Deep.DeepCutAuto
import Derived.Deep.RegionWith
set_option maxRecDepth 100000
set_option maxHeartbeats 8000000
namespace Go.Proofs.YtmigakanbeckpaaGreatDoor.Sh
set_option maxRecDepth 100000
open Go.RowKit
attribute [local go_sem ↓] Go.wp_at_zero Go.wp_at_succ
attribute [local go_sem] wn_add wn_xor wn_wrap wn_mod wn_add' wn_and wn_or
theorem RowW.apart {w:World} {b n:Nat} {f:Nat→Wd} (h:RowW w b n f) {g:Nat} (hg:b≠g) (o:Nat) (vs:List Value):RowW (w.setCells g o vs) b n f :=
 ⟨by rw [qC];exact h.lt,fun i hi=>by rw [World.cell?_setCells_out g vs o w ⟨b,i,none⟩ (fun e _=>absurd e hg)];exact h.c i hi,fun i hi=>by rw [World.frozen?_setCells];exact h.z i hi⟩
theorem zeros8:(#[.int .u32 0,.int .u32 0,.int .u32 0,.int .u32 0,.int .u32 0,.int .u32 0,.int .u32 0,.int .u32 0]:Array Value)=(aw (fun _=>0) 8).toArray:=by kernel_rfl
theorem aw8 (f:Nat→Wd):(aw f 8).toArray=#[.int .u32 (wn (f 0)),.int .u32 (wn (f 1)),.int .u32 (wn (f 2)),.int .u32 (wn (f 3)),.int .u32 (wn (f 4)),.int .u32 (wn (f 5)),.int .u32 (wn (f 6)),.int .u32 (wn (f 7))]:=rfl
theorem all8 (f:Nat→Wd):(aw f 8).toArray.all (·.oneCell')=true:=all_oneCell_toArray (aw_one f 8)
theorem qH {P:Program} {c:Code} {Q:Exit→Act→World→Prop} {a:Act} {w:World} (h:∀ w',w'=w→Code.wp P c Q a w'):Code.wp P c Q a w:=h w rfl
theorem size8 (f:Nat→Wd):(aw f 8).toArray.size=8:=by rw [List.size_toArray,aw_len]
theorem in8 (f:Nat→Wd):(Tryz.prog.info? 110).map (·.size)=some (aw f 8).toArray.size:=by rw [size8];exact info8W
theorem il8 (f:Nat→Wd):(Tryz.prog.info? 110).map (·.size)=some (aw f 8).length:=by rw [aw_len];exact info8W
theorem there8 {w:World} {b:Nat} {f:Nat→Wd} (h:RowW w b 8 f) (g:Nat→Wd):w.there b 0 (aw g 8).toArray.size:=by rw [size8];exact h.there
def addP (s v:St) (i j:Nat):Wd:=if j<i then wadd (s.w j) (v.w j) else s.w j
theorem refTake_any {b o cap:Nat} {p:Nat→Nat} (hp:∀ i,p i<256) (s:St) {w:World} (hD:Rd w b o 64 (fun i=>((p i:Nat):Int))) :
  Calls Tryz.prog 134 #[.agg (aw s.w 8).toArray,.slice (some ⟨b,o,none⟩) 64 cap] w fun e w'=>e=.returned (.agg (aw (takeB s p).w 8).toArray)∧Below w.heap.size w w':=by
 have HP:Hid (∀ i,p i<256):=hp
 have HD:Hid (Rd w b o 64 (fun i=>((p i:Nat):Int))):=hD
 clear hp hD
 rw [aw8 s.w]
 go_enter Tryz.func134,Tryz.ntmps134
 go_wp2_with fail
 have hH:=(RowW.made w 110 8 s.w _ (aw8 s.w).symm).keep (K.alloc (Below.refl _ _) (.cells #[.int .u32 0,.int .u32 0,.int .u32 0,.int .u32 0,.int .u32 0,.int .u32 0,.int .u32 0,.int .u32 0] 110))
 have hZ:=RowW.made (w.alloc (.cells #[.int .u32 (wn (s.w 0)),.int .u32 (wn (s.w 1)),.int .u32 (wn (s.w 2)),.int .u32 (wn (s.w 3)),.int .u32 (wn (s.w 4)),.int .u32 (wn (s.w 5)),.int .u32 (wn (s.w 6)),.int .u32 (wn (s.w 7))] 110)) 110 8 (fun _=>0) _ zeros8
 have hBa:Below w.heap.size w ((w.alloc (.cells #[.int .u32 (wn (s.w 0)),.int .u32 (wn (s.w 1)),.int .u32 (wn (s.w 2)),.int .u32 (wn (s.w 3)),.int .u32 (wn (s.w 4)),.int .u32 (wn (s.w 5)),.int .u32 (wn (s.w 6)),.int .u32 (wn (s.w 7))] 110)).alloc (.cells #[.int .u32 0,.int .u32 0,.int .u32 0,.int .u32 0,.int .u32 0,.int .u32 0,.int .u32 0,.int .u32 0] 110)):=K.alloc (K.alloc (Below.refl _ _) _) _
 have hsz1:(w.alloc (.cells #[.int .u32 (wn (s.w 0)),.int .u32 (wn (s.w 1)),.int .u32 (wn (s.w 2)),.int .u32 (wn (s.w 3)),.int .u32 (wn (s.w 4)),.int .u32 (wn (s.w 5)),.int .u32 (wn (s.w 6)),.int .u32 (wn (s.w 7))] 110)).heap.size=w.heap.size+1:=by simp
 rw [hsz1] at hZ
 with_reducible refine Calls.mono (refWords_any HP.out (HD.out.keep hBa)) ?_
 rintro e W1 ⟨rfl,hb⟩
 have hH:=hH.keep hb
 have hZ:=hZ.keep hb
 have hB1:Below w.heap.size w W1:=K.call hBa hb
 clear hb hBa hsz1 HP HD
 have HTK:Hid (∀ v:St,v=rnds kW (sched (fun t=>wordP p t 4)) s 64→takeB s p=addS s v):=fun v e=>by rw [e];rfl
 obtain ⟨Wf,hWf⟩:∃ Wf:Nat→Wd,Wf=sched (fun t=>wordP p t 4):=⟨_,rfl⟩
 rw [← hWf] at HTK ⊢
 clear hWf
 have hsz:(aw Wf 64).toArray.size=64:=by rw [List.size_toArray,aw_len]
 have hin:(Tryz.prog.info? 151).map (·.size)=some (aw Wf 64).toArray.size:=by rw [hsz];exact info64W
 have h64:64=(aw Wf 64).toArray.size:=hsz.symm
 have HIN:=hide hin
 have H64:=hide h64
 clear hsz hin h64
 go_upto_region 2 with (refine qG rfl 151 _ _ rfl _ (aw Wf 64).toArray rfl rfl HIN.out H64.out (all_oneCell_toArray (aw_one _ _)) ?_)
 have hal:=K.alloc (Below.refl _ W1) (.cells (aw Wf 64).toArray 151)
 have hW:=RowW.made W1 151 64 Wf _ rfl
 have hH:=hH.keep hal
 have hn5:w.heap.size+1<W1.heap.size:=hZ.lt
 have hZ:=hZ.keep hal
 have hB2:Below w.heap.size w (W1.alloc (.cells (aw Wf 64).toArray 151)):=K.call hB1 hal
 clear hal hB1 HIN H64
 generalize W1.alloc (.cells (aw Wf 64).toArray 151)=X2 at *
 generalize W1.heap.size=n5 at *
 go_wp2_with fail
 with_reducible refine Calls.mono (refK_any _) ?_
 rintro e W2 ⟨rfl,hb⟩
 have hW:=hW.keep hb
 have hH:=hH.keep hb
 have hZ:=hZ.keep hb
 have hB3:Below w.heap.size w W2:=K.call hB2 hb
 clear hb hB2
 have hsz:(aw kW 64).toArray.size=64:=by rw [List.size_toArray,aw_len]
 have hin:(Tryz.prog.info? 151).map (·.size)=some (aw kW 64).toArray.size:=by rw [hsz];exact info64W
 have h64:64=(aw kW 64).toArray.size:=hsz.symm
 have HIN:=hide hin
 have H64:=hide h64
 clear hsz hin h64
 go_upto_region 3 with (refine qG rfl 151 _ _ rfl _ (aw kW 64).toArray rfl rfl HIN.out H64.out (all_oneCell_toArray (aw_one _ _)) ?_)
 have hal:=K.alloc (Below.refl _ W2) (.cells (aw kW 64).toArray 151)
 have hn6:n5<W2.heap.size:=hW.lt
 have hKr:=RowW.made W2 151 64 kW _ rfl
 have hH:=hH.keep hal
 have hW:=hW.keep hal
 have hZ:=hZ.keep hal
 have hB4:Below w.heap.size w (W2.alloc (.cells (aw kW 64).toArray 151)):=K.call hB3 hal
 clear hal hB3 HIN H64
 generalize W2.alloc (.cells (aw kW 64).toArray 151)=X3 at *
 generalize W2.heap.size=n6 at *
 have c0:=hH.c 0 (by omega)
 have c1:=hH.c 1 (by omega)
 have c2:=hH.c 2 (by omega)
 have c3:=hH.c 3 (by omega)
 have c4:=hH.c 4 (by omega)
 have c5:=hH.c 5 (by omega)
 have c6:=hH.c 6 (by omega)
 have c7:=hH.c 7 (by omega)
 have HH:=hide hH
 have HZ:=hide hZ
 have HW:=hide hW
 have HK:=hide hKr
 have HB:=hide hB4
 have hn7:n6<X3.heap.size:=hKr.lt
 clear hH hZ hW hKr hB4
 go_wp2_with fail
 clear c0 c1 c2 c3 c4 c5 c6 c7
 have hV:=RowW.made X3 110 8 s.w _ (aw8 s.w).symm
 have hal:=K.alloc (Below.refl _ X3) (.cells #[.int .u32 (wn (s.w 0)),.int .u32 (wn (s.w 1)),.int .u32 (wn (s.w 2)),.int .u32 (wn (s.w 3)),.int .u32 (wn (s.w 4)),.int .u32 (wn (s.w 5)),.int .u32 (wn (s.w 6)),.int .u32 (wn (s.w 7))] 110)
 have hH:=HH.out.keep hal
 have hW:=HW.out.keep hal
 have hZ:=HZ.out.keep hal
 have hKr:=HK.out.keep hal
 have hB5:Below w.heap.size w (X3.alloc (.cells #[.int .u32 (wn (s.w 0)),.int .u32 (wn (s.w 1)),.int .u32 (wn (s.w 2)),.int .u32 (wn (s.w 3)),.int .u32 (wn (s.w 4)),.int .u32 (wn (s.w 5)),.int .u32 (wn (s.w 6)),.int .u32 (wn (s.w 7))] 110)):=K.call HB.out hal
 clear HH HW HZ HK HB hal
 generalize X3.alloc (.cells #[.int .u32 (wn (s.w 0)),.int .u32 (wn (s.w 1)),.int .u32 (wn (s.w 2)),.int .u32 (wn (s.w 3)),.int .u32 (wn (s.w 4)),.int .u32 (wn (s.w 5)),.int .u32 (wn (s.w 6)),.int .u32 (wn (s.w 7))] 110)=X4 at *
 generalize X3.heap.size=n7 at *
 go_loopg [8] 64 (fun g s8 wr=>∃ t:Nat,g=64-t∧t≤64∧s8=.int .i64 t∧RowW wr n7 8 (rnds kW Wf s t).w∧RowW wr n5 64 Wf∧RowW wr n6 64 kW∧RowW wr w.heap.size 8 s.w∧RowW wr (w.heap.size+1) 8 (fun _=>0)∧Below w.heap.size w wr)
 case atStart=>exact ⟨0,rfl,by omega,rfl,hV,hW,hKr,hH,hZ,hB5⟩
 case round =>
  clear hV hW hKr hH hZ hB5
  obtain ⟨t,rfl,ht,rfl,hV,hW,hKr,hH,hZ,hB⟩:=hrel
  by_cases hlt:t<64
  ·have v0:=hV.c 0 (by omega)
   have v1:=hV.c 1 (by omega)
   have v2:=hV.c 2 (by omega)
   have v3:=hV.c 3 (by omega)
   have v4:=hV.c 4 (by omega)
   have v5:=hV.c 5 (by omega)
   have v6:=hV.c 6 (by omega)
   have v7:=hV.c 7 (by omega)
   have ck:=hKr.c t hlt
   have cw:=hW.c t hlt
   have HS:Hid (rnds kW Wf s (t+1)=rnd (rnds kW Wf s t) (kW t) (Wf t)):=rfl
   simp only [St.w] at v0 v1 v2 v3 v4 v5 v6 v7
   obtain ⟨q,hq⟩:∃ q,q=rnds kW Wf s t:=⟨_,rfl⟩
   have HQ:Hid (q=rnds kW Wf s t):=hq
   rw [← hq] at v0 v1 v2 v3 v4 v5 v6 v7 HS hV
   clear hq
   obtain ⟨qa,qb,qc,qd,qe,qf,qg,qh⟩:=q
   dsimp only at v0 v1 v2 v3 v4 v5 v6 v7
   have hti:(t:Int)<64:=by omega
   have HV:=hide hV
   have HW:=hide hW
   have HK:=hide hKr
   have HH:=hide hH
   have HZ:=hide hZ
   have HB:=hide hB
   have HT:=hide hlt
   have nt:(4294967295:Int)-wn qe=wn (wnot qe):=wn_not qe
   have hvl:=hV.lt
   clear hV hW hKr hH hZ hB ht
   generalize kW t=kt at *
   generalize Wf t=wt at *
   go_upto_region 9 with fail
   go_region_held3 (fun w'=>w'=wr.drew∧w'.cell? ⟨n7,7,none⟩=some (.int .u32 (wn qh))∧w'.cell? ⟨n7,4,none⟩=some (.int .u32 (wn qe))∧w'.cell? ⟨n6,t,none⟩=some (.int .u32 (wn kt))∧w'.cell? ⟨n5,t,none⟩=some (.int .u32 (wn wt)))
    (first | (with_reducible assumption) | exact ⟨rfl,v7,v4,ck,cw⟩)
    (first
    | (go_at_call 154;with_reducible refine Calls.mono (turned_6 qe _) ?_;rintro e w' ⟨rfl,rfl⟩)
    | (go_at_call 154;with_reducible refine Calls.mono (turned_11 qe _) ?_;rintro e w' ⟨rfl,rfl⟩)
    | (go_at_call 154;with_reducible refine Calls.mono (turned_25 qe _) ?_;rintro e w' ⟨rfl,rfl⟩))
   go_upto_region 10 with fail
   go_region_held3 (fun w'=>w'=wr.drew.drew∧w'.cell? ⟨n7,0,none⟩=some (.int .u32 (wn qa)))
    (first | (with_reducible assumption) | exact ⟨rfl,v0⟩)
    (first
    | (go_at_call 154;with_reducible refine Calls.mono (turned_2 qa _) ?_;rintro e w' ⟨rfl,rfl⟩)
    | (go_at_call 154;with_reducible refine Calls.mono (turned_13 qa _) ?_;rintro e w' ⟨rfl,rfl⟩)
    | (go_at_call 154;with_reducible refine Calls.mono (turned_22 qa _) ?_;rintro e w' ⟨rfl,rfl⟩))
   go_upto_region 11 with fail
   refine qH (fun X hX=>?_)
   have hbX:Below wr.heap.size wr X:=by rw [hX];exact K.drew (K.drew (Below.refl _ _))
   have hV:=HV.out.keep hbX
   have hW:=HW.out.keep hbX
   have hKr:=HK.out.keep hbX
   have hH:=HH.out.keep hbX
   have hZ:=HZ.out.keep hbX
   have hB:Below w.heap.size w X:=K.call HB.out hbX
   clear hX hbX HV HW HK HH HZ HB v0 v1 v2 v3 v4 v5 v6 v7 ck cw
   have v0:=hV.c 0 (by omega)
   have v1:=hV.c 1 (by omega)
   have v2:=hV.c 2 (by omega)
   have v3:=hV.c 3 (by omega)
   have v4:=hV.c 4 (by omega)
   have v5:=hV.c 5 (by omega)
   have v6:=hV.c 6 (by omega)
   simp only [St.w] at v0 v1 v2 v3 v4 v5 v6
   obtain ⟨q',hq'⟩:∃ q':St,q'=rnd ⟨qa,qb,qc,qd,qe,qf,qg,qh⟩ kt wt:=⟨_,rfl⟩
   have HTH:=hide (there8 hV q'.w)
   have HV:=hide (hV.stored q'.w)
   have HW:=hide (hW.apart (g:=n7) (by omega) 0 (aw q'.w 8).toArray.toList)
   have HK:=hide (hKr.apart (g:=n7) (by omega) 0 (aw q'.w 8).toArray.toList)
   have HH:=hide (hH.apart (g:=n7) (by omega) 0 (aw q'.w 8).toArray.toList)
   have HZ:=hide (hZ.apart (g:=n7) (by omega) 0 (aw q'.w 8).toArray.toList)
   have HB:Hid (Below w.heap.size w (X.setCells n7 0 (aw q'.w 8).toArray.toList)):=zK _ _ hB (by omega)
   have HQ':Hid (q'=rnds kW Wf s (t+1)):=by rw [hq',HS.out];rfl
   clear hV hW hKr hH hZ hB
   go_wp2_with (refine wpList_store_mid rfl 110 _ _ rfl n7 0 (aw q'.w 8).toArray rfl (by rw [hq'];rfl) HTH.out (in8 _) (all8 _) ?_;generalize X.setCells n7 0 (aw q'.w 8).toArray.toList=Y at HV HW HK HH HZ HB ⊢)
   go_roundg (64-(t+1))
   case measure=>have:=HT.out;omega
   case rel=>exact ⟨t+1,rfl,by have:=HT.out;omega,by go_num,by rw [← HQ'.out];exact HV.out,HW.out,HK.out,HH.out,HZ.out,HB.out⟩
  ·obtain rfl:t=64:=by omega
   obtain ⟨v,hv⟩:∃ v,v=rnds kW Wf s 64:=⟨_,rfl⟩
   have HE:=hide (HTK.out v hv)
   rw [← hv] at hV
   have HV:=hide hV
   have HH:=hide hH
   have HZ:=hide hZ
   have HB:=hide hB
   clear hV hW hKr hH hZ hB hlt ht hv
   go_wp2_with fail
   go_loopg [13] 8 (fun g s13 wr=>∃ i:Nat,g=8-i∧i≤8∧s13=.int .i64 i∧RowW wr n7 8 v.w∧RowW wr w.heap.size 8 (addP s v i)∧RowW wr (w.heap.size+1) 8 (fun _=>0)∧Below w.heap.size w wr)
   case atStart=>exact ⟨0,rfl,by omega,rfl,HV.out,HH.out.congr (fun j hj=>by unfold addP;rw [if_neg (by omega)]),HZ.out,HB.out⟩
   case round =>
    clear HV HH HZ HB
    obtain ⟨i,rfl,hi,rfl,hV,hH,hZ,hB⟩:=hrel
    by_cases hlt:i<8
    ·have ch:=hH.c i hlt
     have zh:=hH.z i hlt
     have cv:=hV.c i hlt
     have e1:addP s v i i=s.w i:=by unfold addP;rw [if_neg (by omega)]
     rw [e1] at ch
     have hii:(i:Int)<8:=by omega
     have HV:=hide hV
     have HH:=hide hH
     have HZ:=hide hZ
     have HB:=hide hB
     have HI:=hide hlt
     have hbl:=hH.lt
     generalize hx:s.w i=x at *
     generalize hy:v.w i=y at *
     have HXY:=hide (And.intro hx hy)
     clear hV hH hZ hB e1 hi hx hy
     go_upto_region 15 with fail
     apply wp_mono (Q:=Only _ _)
     ·go_region
      all_goals exact Only.intro _ _
     refine Only.out ?_
     clear ch zh cv
     go_wp2_with fail
     go_roundg (8-(i+1))
     case measure=>have:=HI.out;omega
     case rel=>exact ⟨i+1,rfl,by have:=HI.out;omega,by go_num,(HV.out.keep (K.drew (Below.refl _ _))).other (by omega) i _,by
      have h:=(HH.out.keep (K.drew (Below.refl _ _))).store i HI.out (wadd x y)
      exact h.congr (fun j hj=>by
       unfold addP
       by_cases e:j=i
       ·subst e;rw [if_pos rfl,if_pos (by omega),HXY.out.1,HXY.out.2]
       ·rw [if_neg e];(repeat' split) <;> first | rfl | omega),(HZ.out.keep (K.drew (Below.refl _ _))).other (by omega) i _,K.set (K.drew HB.out) (by simp) _⟩
    ·obtain rfl:i=8:=by omega
     have hH':RowW wr w.heap.size 8 (takeB s p).w:=hH.congr (fun j hj=>by
      unfold addP
      rw [if_pos hj,HE.out]
      rcases (show j=0∨j=1∨j=2∨j=3∨j=4∨j=5∨j=6∨j=7 by omega) with e | e | e | e | e | e | e | e <;> subst e <;> rfl)
     obtain ⟨r,hr⟩:∃ r,r=takeB s p:=⟨_,rfl⟩
     have HRE:=hide hr
     rw [← hr] at hH'
     clear hr
     have HRr:=hide hH'.range
     have HTH:=hide (there8 hZ r.w)
     have HS:=hide (hZ.stored r.w)
     have HB:Hid (Below w.heap.size w (wr.setCells (w.heap.size+1) 0 (aw r.w 8).toArray.toList)):=zK _ _ hB (by omega)
     clear hV hH hZ hB hlt hi hH'
     go_upto_region 16 with fail
     go_wp2_with (refine wpList_load_mid rfl 110 _ rfl _ 0 rfl (aw r.w 8) _ HRr.out Tryz.underlying110 rfl (il8 _) ?_;simp only [Act.put,List.setIfInBounds_toArray,List.set_cons_zero,List.set_cons_succ];refine wpList_store_mid rfl 110 _ _ rfl (w.heap.size+1) 0 (aw r.w 8).toArray rfl rfl HTH.out (in8 _) (all8 _) ?_;generalize wr.setCells (w.heap.size+1) 0 (aw r.w 8).toArray.toList=X at HS HB ⊢)
     refine bodyPost_ret (zV Tryz.results134 _ _ (w.heap.size+1) (aw r.w 8) _ rfl HS.out.range Tryz.underlying110 rfl (il8 _)) rfl ⟨?_,HB.out⟩
     rw [HRE.out]
end Go.Proofs.YtmigakanbeckpaaGreatDoor.Sh
namespace Go.Proofs.YtmigakanbeckpaaGreatDoor.Sh
set_option maxRecDepth 100000
open Go.RowKit
attribute [local go_sem ↓] Go.wp_at_zero Go.wp_at_succ
theorem refPadded_any {x:Option Addr} {n c:Nat} {f:Nat→Nat} {w:World} (h:BA w x n f) (hn:n≤100000) :
  Calls Tryz.prog 133 #[.slice x n c] w fun e w'=>∃ v,e=.returned v∧w'.ownsRow w.heap.size 5 1 v (padLen n) (cells8 (padL f n))∧Below w.heap.size w w':=by
 have H:Hid (BA w x n f):=h
 have hz:=zs_eq n
 have hni:(n:Int)≤100000:=by omega
 have hz64:zs n≤64:=by unfold zs padLen;omega
 clear h
 have hO0:w.ownsRow w.heap.size 5 1 (.slice none 0 0) 0 (cells8 []):=World.ownsRow_nil _ _ _ _
 go_enter Tryz.func133,Tryz.ntmps133
 go_upto_region 3 with (at_builtin;refine zU rfl _ _ rfl rfl hO0 rfl H.out (by omega) (Nat.le_refl _) ?_;intro v1 w1 hO1 hg1)
 have hB1:Below w.heap.size w w1:=(Below.refl _ w).grown hg1 (Nat.le_refl _) (fun k hk=>by cases hk)
 rw [Nat.zero_add,List.nil_append] at hO1
 clear hg1
 go_wp2_with (at_builtin;refine zU rfl _ _ rfl rfl (hO1.alloc _) rfl (one_made w1 128 (by decide)) (by omega) (by have:=hB1.size;simp;omega) ?_;intro v2 w2 hO2 hg2)
 have hB2:Below w.heap.size w w2:=(K.alloc hB1 _).grown hg2 (K.alloc hB1 _).size (fun k hk=>(hO1.lt k hk).1)
 clear hg2 hO1 hB1
 go_loopg [3] (zs n) (fun g v wr=>∃ (k:Nat) (u:Value),u=v∧g=zs n-k∧k≤zs n∧wr.ownsRow w.heap.size 5 1 u (n+1+k) (cells8 (fl f n++[128]++List.replicate k 0))∧Below w.heap.size w wr)
 case atStart=>exact ⟨0,_,rfl,rfl,by omega,by rw [List.replicate_zero,List.append_nil];exact hO2,hB2⟩
 case round =>
  clear hO2 hB2
  obtain ⟨k,u,hu,rfl,hk,hO,hB⟩:=hrel
  subst hu
  obtain ⟨a,cap,rfl⟩:=own_shape hO
  by_cases hlt:k<zs n
  ·have hne:(((n+1+k:Nat):Int) % 64 == 56)=false:=beq_eq_false_iff_ne.2 (by have:=zs_no hlt;omega)
   obtain ⟨L,hL⟩:∃ L,L=n+1+k:=⟨_,rfl⟩
   have HL:=hide hL
   rw [← hL] at hne hO ⊢
   have hLb:L≤200000:=by omega
   have HK:=hide hlt
   clear hL hlt hk
   go_wp2_with (at_builtin;refine zU rfl _ _ rfl rfl (hO.alloc _) rfl (one_made wr 0 (by decide)) (by omega) (by have:=hB.size;simp;omega) ?_;intro v2 w2 hO2 hg2)
   have hB2:Below w.heap.size w w2:=(K.alloc hB _).grown hg2 (K.alloc hB _).size (fun k hk=>(hO.lt k hk).1)
   have hO3:w2.ownsRow w.heap.size 5 1 v2 (n+1+(k+1)) (cells8 (fl f n++[128]++List.replicate (k+1) 0)):=by
    rw [List.replicate_succ',← List.append_assoc,show n+1+(k+1)=L+1 by have:=HL.out;omega]
    exact hO2
   clear hO2 hg2 hO hB
   go_wp2_with fail
   go_roundg (zs n-(k+1))
   case measure=>have:=HK.out;omega
   case rel=>exact ⟨k+1,_,rfl,rfl,by have:=HK.out;omega,hO3,hB2⟩
  ·obtain rfl:k=zs n:=by omega
   have heq:((n+1+zs n:Nat):Int) % 64=56:=by omega
   obtain ⟨L,hL⟩:∃ L,L=n+1+zs n:=⟨_,rfl⟩
   have HL:=hide hL
   rw [← hL] at heq hO ⊢
   have hLb:L≤200000:=by omega
   have HO:=hide hO
   have HB:=hide hB
   have HZ:=hide hz
   clear hL hlt hk hO hB hz
   go_wp2_with fail
   clear heq
   go_loopg [3,4,5] 8 (fun g v s4 s5 wr=>∃ (i:Nat) (u:Value),u=v∧g=8-i∧i≤8∧s5=.int .i64 i∧s4=.int .u64 (shN n i:Nat)∧wr.ownsRow w.heap.size 5 1 u (L+i) (cells8 (fl f n++[128]++List.replicate (zs n) 0++lenB n i))∧Below w.heap.size w wr)
   case atStart=>exact ⟨0,_,rfl,rfl,by omega,rfl,congrArg (Value.int .u64) (by simp only [shN];omega),by simp only [lenB,List.append_nil];exact HO.out,HB.out⟩
   case round =>
    clear HO HB
    obtain ⟨i,u,hu,rfl,hi,rfl,rfl,hO,hB⟩:=hrel
    subst hu
    by_cases hlt:i<8
    ·have hii:(i:Int)<8:=by omega
     have hsl:=shN_lt n hn i
     have htop:=shN_top n hn i hlt
     obtain ⟨bt,hbt⟩:∃ bt,bt=8*n / 256 ^ (7-i) % 256:=⟨_,rfl⟩
     have hb256:bt<256:=by rw [hbt];exact Nat.mod_lt _ (by omega)
     have HLB:Hid (lenB n (i+1)=lenB n i++[bt]):=by show _=_;rw [hbt];rfl
     have HSH:Hid (shN n (i+1)=shN n i*256 % 18446744073709551616):=rfl
     rw [← hbt] at htop
     generalize shN n i=q at *
     have h1:(q:Int) / 72057594037927936=(bt:Int):=by omega
     have hbi:(bt:Int)<256:=by omega
     have h2:(q:Int) <<< 8 % 18446744073709551616=((q*256 % 18446744073709551616:Nat):Int):=by rw [Int.shiftLeft_eq];omega
     have h3:(q:Int)*256 % 18446744073709551616=((q*256 % 18446744073709551616:Nat):Int):=by omega
     have hqi:(q:Int)<18446744073709551616:=by omega
     have HI:=hide hlt
     clear hbt htop hlt hi
     go_wp2_with (at_builtin;refine zU rfl _ _ rfl rfl (hO.alloc _) rfl (one_made wr bt hb256) (by omega) (by have:=hB.size;simp;omega) ?_;intro v2 w2 hO2 hg2)
     have hB2:Below w.heap.size w w2:=(K.alloc hB _).grown hg2 (K.alloc hB _).size (fun k hk=>(hO.lt k hk).1)
     have hO3:w2.ownsRow w.heap.size 5 1 v2 (L+(i+1)) (cells8 (fl f n++[128]++List.replicate (zs n) 0++lenB n (i+1))):=by
      rw [HLB.out,← List.append_assoc]
      exact hO2
     clear hO2 hg2 hO hB
     go_wp2_with fail
     go_roundg (8-(i+1))
     case measure=>have:=HI.out;omega
     case rel=>exact ⟨i+1,_,rfl,rfl,by have:=HI.out;omega,by go_num,congrArg (Value.int .u64) (by rw [HSH.out,IntKind.wrap_u64];omega),hO3,hB2⟩
    ·obtain rfl:i=8:=by omega
     have hO3:wr.ownsRow w.heap.size 5 1 u (padLen n) (cells8 (padL f n)):=by
      have e:L+8=padLen n:=by have:=HL.out;have:=HZ.out;omega
      rw [← e];exact hO
     clear hO hlt hi
     go_wp2_with fail
     go_ret
     exact ⟨_,rfl,hO3,hB⟩
theorem refTake8 {b o cap:Nat} {p:Nat→Nat} (hp:∀ i,p i<256) (s r:St) (hr:r=takeB s p) {w:World} (hD:Rd w b o 64 (fun i=>((p i:Nat):Int))) :
  Calls Tryz.prog 134 #[.agg #[.int .u32 (wn (s.w 0)),.int .u32 (wn (s.w 1)),.int .u32 (wn (s.w 2)),.int .u32 (wn (s.w 3)),.int .u32 (wn (s.w 4)),.int .u32 (wn (s.w 5)),.int .u32 (wn (s.w 6)),.int .u32 (wn (s.w 7))],.slice (some ⟨b,o,none⟩) 64 cap] w fun e w'=>e=.returned (.agg #[.int .u32 (wn (r.w 0)),.int .u32 (wn (r.w 1)),.int .u32 (wn (r.w 2)),.int .u32 (wn (r.w 3)),.int .u32 (wn (r.w 4)),.int .u32 (wn (r.w 5)),.int .u32 (wn (r.w 6)),.int .u32 (wn (r.w 7))])∧Below w.heap.size w w':=by
 have:=refTake_any (cap:=cap) hp s hD
 rw [← hr,aw8,aw8] at this
 exact this
theorem refSum_any {x:Option Addr} {n c:Nat} {f:Nat→Nat} {w:World} (h:BA w x n f) (hn:n≤100000) :
  Calls Tryz.prog 106 #[.slice x n c] w fun e w'=>e=.returned (.agg (ab (hByte (hashS f n)) 32).toArray)∧Below w.heap.size w w':=by
 have H:Hid (BA w x n f):=h
 clear h
 go_enter Tryz.func106,Tryz.ntmps106
 go_wp2_with fail
 with_reducible refine Calls.mono (refStart_any _) ?_
 rintro e W1 ⟨rfl,hb⟩
 have hR:=(RowB.made w 60 32 (fun _=>0) _ zeros32).keep hb
 have hB1:Below w.heap.size w W1:=K.call (K.alloc (Below.refl _ _) _) hb
 clear hb
 go_upto_region 2 with (refine qG rfl 110 _ _ rfl _ (aw start.w 8).toArray rfl rfl (in8 _) (by rw [size8];rfl) (all8 _) ?_)
 have hal:=K.alloc (Below.refl _ W1) (.cells (aw start.w 8).toArray 110)
 have hS:=RowW.made W1 110 8 start.w _ rfl
 have hn3:w.heap.size<W1.heap.size:=hR.lt
 have hR:=hR.keep hal
 have hB2:Below w.heap.size w (W1.alloc (.cells (aw start.w 8).toArray 110)):=K.call hB1 hal
 clear hal hB1
 generalize W1.alloc (.cells (aw start.w 8).toArray 110)=X1 at *
 generalize W1.heap.size=n3 at *
 have hn3X:n3<X1.heap.size:=hS.lt
 go_wp2_with fail
 with_reducible refine Calls.mono (refPadded_any (H.out.keep hB2) hn) ?_
 rintro e W2 ⟨v,rfl,hO,hb⟩
 have hS:=hS.keep hb
 have hR:=hR.keep hb
 have hB3:Below w.heap.size w W2:=K.call hB2 hb
 have hpl:=zs_eq n
 obtain ⟨g,cap,rfl,hg,hP⟩:=own_rd (f:=fun i=>((pad f n i:Nat):Int)) hO (fun i hi=>by rw [cells8_at _ i (by rw [padL_len];exact hi),padL_at f n i hi]) (by omega)
 have hcap:=own_cap hO
 have hgn:g≠n3:=by omega
 have hgN:g≠w.heap.size:=by omega
 have HPL:Hid (∀ i,pad f n i<256):=pad_lt H.out.lt n
 have hPd:=hP.rd
 obtain ⟨pl,hpl'⟩:∃ pl,pl=padLen n:=⟨_,rfl⟩
 obtain ⟨M,hM⟩:∃ M,M=padLen n / 64:=⟨_,rfl⟩
 have HM:Hid (pl=64*M∧hashS f n=hs (pad f n) M):=⟨by omega,by rw [hM];rfl⟩
 have hplb:pl≤200000:=by rw [hpl'];unfold padLen;omega
 rw [← hpl'] at hcap hPd ⊢
 clear hO hb hB2 hP hpl hM hpl' H
 have hpli:(pl:Int)≤200000:=by omega
 have HS:=hide hS
 have HR:=hide hR
 have HPd:=hide hPd
 have HB:=hide hB3
 clear hS hR hPd hB3
 go_wp2_with fail
 go_loopg [5] M (fun q s5 wr=>∃ k:Nat,q=M-k∧k≤M∧s5=.int .i64 ((64*k:Nat):Int)∧RowW wr n3 8 (hs (pad f n) k).w∧Rd wr g 0 pl (fun i=>((pad f n i:Nat):Int))∧RowB wr w.heap.size 32 (fun _=>0)∧Below w.heap.size w wr)
 case atStart=>exact ⟨0,rfl,by omega,rfl,HS.out,HPd.out,HR.out,HB.out⟩
 case round =>
  clear HS HPd HR HB
  obtain ⟨k,rfl,hk,rfl,hS,hP,hR,hB⟩:=hrel
  by_cases hlt:k<M
  ·obtain ⟨m,hm⟩:∃ m,m=64*k:=⟨_,rfl⟩
   have HK:Hid (m=64*k∧k<M∧m+64≤pl):=⟨hm,hlt,by have:=HM.out.1;omega⟩
   have hpart:=hP.part m 64 HK.out.2.2
   obtain ⟨r,hr⟩:∃ r,r=hs (pad f n) (k+1):=⟨_,rfl⟩
   obtain ⟨s,hs'⟩:∃ s,s=hs (pad f n) k:=⟨_,rfl⟩
   have HRK:Hid (r=takeB s (fun i=>pad f n (m+i))):=by show _=_;rw [hr,hs',hm];rfl
   have HRE:=hide hr
   rw [← hs'] at hS
   rw [← hm]
   have c0:=hS.c 0 (by omega)
   have c1:=hS.c 1 (by omega)
   have c2:=hS.c 2 (by omega)
   have c3:=hS.c 3 (by omega)
   have c4:=hS.c 4 (by omega)
   have c5:=hS.c 5 (by omega)
   have c6:=hS.c 6 (by omega)
   have c7:=hS.c 7 (by omega)
   have hmi:(m:Int)<pl:=by have:=HK.out;omega
   have hmi2:(m:Int)+64≤pl:=by have:=HK.out;omega
   have hw:IntKind.i64.wrap ((m:Int)+64)=(m:Int)+64:=by rw [IntKind.wrap_i64];omega
   have HPart:=hide hpart
   have HS:=hide hS
   have HP:=hide hP
   have HR:=hide hR
   have HB:=hide hB
   clear hm hr hs' hpart hS hP hR hB hlt hk
   go_upto_region 6 with fail
   rw [Nat.zero_add] at HPart
   have hl1:((m:Int)+64).toNat-m=64:=by omega
   have hl2:m+64-m=64:=by omega
   have hcm:(m:Int)+64≤cap:=by omega
   go_region_with (go_at_call 134;with_reducible refine Calls.mono (refTake8 (fun i=>HPL.out (m+i)) s r HRK.out (HPart.out.keep (K.drew (Below.refl _ _)))) ?_;rintro e w' ⟨rfl,hb⟩;have hS2:=(HS.out.keep (K.drew (Below.refl _ _))).keep hb;have d0:=hS2.c 0 (by omega);have z0:=hS2.z 0 (by omega);have d1:=hS2.c 1 (by omega);have z1:=hS2.z 1 (by omega);have d2:=hS2.c 2 (by omega);have z2:=hS2.z 2 (by omega);have d3:=hS2.c 3 (by omega);have z3:=hS2.z 3 (by omega);have d4:=hS2.c 4 (by omega);have z4:=hS2.z 4 (by omega);have d5:=hS2.c 5 (by omega);have z5:=hS2.z 5 (by omega);have d6:=hS2.c 6 (by omega);have z6:=hS2.z 6 (by omega);have d7:=hS2.c 7 (by omega);have z7:=hS2.z 7 (by omega))
   all_goals
    have hdb:Below wr.heap.size wr wr.drew:=K.drew (Below.refl _ _)
    have hS3:RowW (w'.setCells n3 0 (aw r.w 8)) n3 8 r.w:=hS2.stored r.w
    have hP3:=((HP.out.keep hdb).keep hb).apart hgn 0 (aw r.w 8)
    have hR3:=Row8.apart ((Row8.keep HR.out hdb).keep hb) (g:=n3) (by omega) 0 (aw r.w 8)
    have hB3:Below w.heap.size w (w'.setCells n3 0 (aw r.w 8)):=zK _ _ (K.call (K.call HB.out hdb) hb) (by omega)
    rw [show ((((((((w'.setCell ⟨n3,0,none⟩ (.int .u32 (wn (r.w 0)))).setCell ⟨n3,1,none⟩ (.int .u32 (wn (r.w 1)))).setCell ⟨n3,2,none⟩ (.int .u32 (wn (r.w 2)))).setCell ⟨n3,3,none⟩ (.int .u32 (wn (r.w 3)))).setCell ⟨n3,4,none⟩ (.int .u32 (wn (r.w 4)))).setCell ⟨n3,5,none⟩ (.int .u32 (wn (r.w 5)))).setCell ⟨n3,6,none⟩ (.int .u32 (wn (r.w 6)))).setCell ⟨n3,7,none⟩ (.int .u32 (wn (r.w 7))))=w'.setCells n3 0 (aw r.w 8) from rfl]
    clear d0 z0 c0 d1 z1 c1 d2 z2 c2 d3 z3 c3 d4 z4 c4 d5 z5 c5 d6 z6 c6 d7 z7 c7 hS2 hb hdb HS HP HR HB HPart
    generalize w'.setCells n3 0 (aw r.w 8)=X at *
    go_wp2_with fail
    go_roundg (M-(k+1))
    case measure=>have:=HK.out;omega
    case rel=>exact ⟨k+1,rfl,by have:=HK.out;omega,congrArg (Value.int .i64) (by have:=HK.out;omega),by rw [← HRE.out];exact hS3,hP3,hR3,hB3⟩
  ·obtain rfl:k=M:=by omega
   obtain ⟨s,hs'⟩:∃ s,s=hs (pad f n) k:=⟨_,rfl⟩
   have HSE:Hid (s=hashS f n):=by rw [hs',HM.out.2];rfl
   rw [← hs'] at hS
   obtain ⟨m,hm⟩:∃ m,m=64*k:=⟨_,rfl⟩
   have hmi:¬ (m:Int)<pl:=by have:=HM.out.1;omega
   rw [← hm]
   have HS:=hide hS
   have HR:=hide hR
   have HB:=hide hB
   clear hs' hm hS hP hR hB hlt hk
   go_wp2_with fail
   have hal:=K.alloc (Below.refl _ wr) (.cells #[.int .u8 0,.int .u8 0,.int .u8 0,.int .u8 0,.int .u8 0,.int .u8 0,.int .u8 0,.int .u8 0,.int .u8 0,.int .u8 0,.int .u8 0,.int .u8 0,.int .u8 0,.int .u8 0,.int .u8 0,.int .u8 0,.int .u8 0,.int .u8 0,.int .u8 0,.int .u8 0,.int .u8 0,.int .u8 0,.int .u8 0,.int .u8 0,.int .u8 0,.int .u8 0,.int .u8 0,.int .u8 0,.int .u8 0,.int .u8 0,.int .u8 0,.int .u8 0] 60)
   have hS:=HS.out.keep hal
   have hR:=Row8.keep HR.out hal
   have hO:=RowB.made wr 60 32 (fun _=>0) _ zeros32
   have hB:=K.call HB.out hal
   have hn6:n3<wr.heap.size:=HS.out.lt
   have hnN:w.heap.size<wr.heap.size:=HR.out.lt
   clear HS HR HB hal
   generalize wr.alloc (.cells #[.int .u8 0,.int .u8 0,.int .u8 0,.int .u8 0,.int .u8 0,.int .u8 0,.int .u8 0,.int .u8 0,.int .u8 0,.int .u8 0,.int .u8 0,.int .u8 0,.int .u8 0,.int .u8 0,.int .u8 0,.int .u8 0,.int .u8 0,.int .u8 0,.int .u8 0,.int .u8 0,.int .u8 0,.int .u8 0,.int .u8 0,.int .u8 0,.int .u8 0,.int .u8 0,.int .u8 0,.int .u8 0,.int .u8 0,.int .u8 0,.int .u8 0,.int .u8 0] 60)=X at *
   generalize wr.heap.size=n6 at *
   go_loopg [7] 32 (fun q s7 wr=>∃ i:Nat,q=32-i∧i≤32∧s7=.int .i64 i∧RowB wr n6 32 (fun j=>if j<i then hByte s j else 0)∧RowW wr n3 8 s.w∧RowB wr w.heap.size 32 (fun _=>0)∧Below w.heap.size w wr)
   case atStart=>exact ⟨0,rfl,by omega,rfl,hO.congr (fun j hj=>by simp),hS,hR,hB⟩
   case round =>
   clear hO hS hR hB
   obtain ⟨i,rfl,hi,rfl,hO,hS,hR,hB⟩:=hrel
   by_cases hlt:i<32
   ·have co:=hO.c i hlt
    have zo:=hO.z i hlt
    obtain ⟨j,hj⟩:∃ j,j=i / 4:=⟨_,rfl⟩
    have cs:=hS.c j (by omega)
    have hji:(i:Int) / 4=(j:Int):=by omega
    have hj8:(j:Int)<8:=by omega
    have hii:(i:Int)<32:=by omega
    obtain ⟨x,hx⟩:∃ x,x=s.w j:=⟨_,rfl⟩
    have HV:Hid (hByte s i=x.toNat / 256 ^ (3-i % 4) % 256):=by show _=_;unfold hByte;rw [hx,hj]
    rw [← hx] at cs
    have HO:=hide hO
    have HS:=hide hS
    have HR:=hide hR
    have HB:=hide hB
    have HI:=hide hlt
    have hol:=hO.lt
    clear hO hS hR hB hi hlt hx hj
    rcases (show i % 4=0∨i % 4=1∨i % 4=2∨i % 4=3 by omega) with hr | hr | hr | hr
    ·have hv:wn x / 16777216 % 256=((hByte s i:Nat):Int):=by rw [HV.out,hr];unfold wn;omega
     have hv2:IntKind.u8.wrap (wn x / 16777216)=((hByte s i:Nat):Int):=by rw [IntKind.wrap_u8',hv]
     have hlo:=wn_nn x
     have hhi:=wn_lt x
     have hri:(i:Int) % 4=0:=by omega
     clear hr
     go_wp2_with fail
     go_roundg (32-(i+1))
     case measure=>have:=HI.out;omega
     case rel=>exact ⟨i+1,rfl,by have:=HI.out;omega,by go_num,(Row8.store HO.out i HI.out _).congr (fun j hj=>by
      by_cases e:j=i
      ·subst e;simp
      ·simp only [if_neg e];(repeat' split) <;> first | rfl | omega),HS.out.other (by omega) i _,row8_other HR.out (by omega) i _,K.set HB.out (by show w.heap.size≤n6;omega) _⟩
    ·have hv:wn x / 65536 % 256=((hByte s i:Nat):Int):=by rw [HV.out,hr];unfold wn;omega
     have hv2:IntKind.u8.wrap (wn x / 65536)=((hByte s i:Nat):Int):=by rw [IntKind.wrap_u8',hv]
     have hlo:=wn_nn x
     have hhi:=wn_lt x
     have hri:(i:Int) % 4=1:=by omega
     clear hr
     go_wp2_with fail
     go_roundg (32-(i+1))
     case measure=>have:=HI.out;omega
     case rel=>exact ⟨i+1,rfl,by have:=HI.out;omega,by go_num,(Row8.store HO.out i HI.out _).congr (fun j hj=>by
      by_cases e:j=i
      ·subst e;simp
      ·simp only [if_neg e];(repeat' split) <;> first | rfl | omega),HS.out.other (by omega) i _,row8_other HR.out (by omega) i _,K.set HB.out (by show w.heap.size≤n6;omega) _⟩
    ·have hv:wn x / 256 % 256=((hByte s i:Nat):Int):=by rw [HV.out,hr];unfold wn;omega
     have hv2:IntKind.u8.wrap (wn x / 256)=((hByte s i:Nat):Int):=by rw [IntKind.wrap_u8',hv]
     have hlo:=wn_nn x
     have hhi:=wn_lt x
     have hri:(i:Int) % 4=2:=by omega
     clear hr
     go_wp2_with fail
     go_roundg (32-(i+1))
     case measure=>have:=HI.out;omega
     case rel=>exact ⟨i+1,rfl,by have:=HI.out;omega,by go_num,(Row8.store HO.out i HI.out _).congr (fun j hj=>by
      by_cases e:j=i
      ·subst e;simp
      ·simp only [if_neg e];(repeat' split) <;> first | rfl | omega),HS.out.other (by omega) i _,row8_other HR.out (by omega) i _,K.set HB.out (by show w.heap.size≤n6;omega) _⟩
    ·have hv:wn x % 256=((hByte s i:Nat):Int):=by rw [HV.out,hr];unfold wn;omega
     have hv2:IntKind.u8.wrap (wn x)=((hByte s i:Nat):Int):=by rw [IntKind.wrap_u8',hv]
     have hlo:=wn_nn x
     have hhi:=wn_lt x
     have hri:(i:Int) % 4=3:=by omega
     clear hr
     go_wp2_with fail
     go_roundg (32-(i+1))
     case measure=>have:=HI.out;omega
     case rel=>exact ⟨i+1,rfl,by have:=HI.out;omega,by go_num,(Row8.store HO.out i HI.out _).congr (fun j hj=>by
      by_cases e:j=i
      ·subst e;simp
      ·simp only [if_neg e];(repeat' split) <;> first | rfl | omega),HS.out.other (by omega) i _,row8_other HR.out (by omega) i _,K.set HB.out (by show w.heap.size≤n6;omega) _⟩
   ·obtain rfl:i=32:=by omega
    have hO':RowB wr n6 32 (hByte s):=hO.congr (fun j hj=>by simp only [if_pos hj])
    have HRr:=hide (RowB.range hO')
    have HTH:=hide (RowB.there hR (hByte s))
    have HS:=hide (RowB.stored hR (hByte s))
    have HB:Hid (Below w.heap.size w (wr.setCells w.heap.size 0 (ab (hByte s) 32).toArray.toList)):=zK _ _ hB (Nat.le_refl _)
    clear hO hO' hS hR hB hi hlt
    go_upto_region 12 with fail
    go_wp2_with (refine wpList_load_mid rfl 60 _ rfl _ 0 rfl (ab (hByte s) 32) _ HRr.out Tryz.underlying60 rfl (ilH _) ?_;simp only [Act.put,List.setIfInBounds_toArray,List.set_cons_zero,List.set_cons_succ];refine wpList_store_mid rfl 60 _ _ rfl w.heap.size 0 (ab (hByte s) 32).toArray rfl rfl HTH.out (inH _) (all_oneCell_toArray (ab_one _ _)) ?_;generalize wr.setCells w.heap.size 0 (ab (hByte s) 32).toArray.toList=X at HS HB ⊢)
    refine bodyPost_ret (zV Tryz.results106 _ _ w.heap.size (ab (hByte s) 32) _ rfl (RowB.range HS.out) Tryz.underlying60 rfl (ilH _)) rfl ⟨?_,HB.out⟩
    rw [HSE.out]
end Go.Proofs.YtmigakanbeckpaaGreatDoor.Sh
namespace Go.Proofs.YtmigakanbeckpaaGreatDoor.Sh
set_option maxRecDepth 100000
open Go.RowKit
theorem refSum_hA {x:Option Addr} {n c:Nat} {f:Nat→Nat} {w:World} (h:BA w x n f) (hn:n≤100000) :
  Calls Tryz.prog 106 #[.slice x n c] w fun e w'=>e=.returned (.agg (hA f n))∧Below w.heap.size w w':=by
 unfold hA
 exact refSum_any h hn
theorem RowB.ba {w:World} {b n:Nat} {f:Nat→Nat} (h:RowB w b n f) (hf:∀ i,f i<256):BA w (some ⟨b,0,none⟩) n f:=⟨hf,Or.inr ⟨b,0,rfl,Row8.rd h⟩⟩
theorem hByte_lt (s:St) (i:Nat):hByte s i<256:=Nat.mod_lt _ (by omega)
end Go.Proofs.YtmigakanbeckpaaGreatDoor.Sh
namespace Go.Proofs.YtmigakanbeckpaaGreatDoor.De
set_option maxRecDepth 100000
open Go.RowKit
theorem row_zero {w w':World} {g cap:Nat} {cur:Array Value} (hg:w.heap.size≤g) (h:w'.heap[g]?=some (.cells cur 5 (0,0))) (hc:cap≤maxLen) (hs:cur.size=cap*1):w'.ownsRow w.heap.size 5 1 (.slice (some ⟨g,0,none⟩) 0 cap) 0 [] :=
 ⟨rfl,Or.inr ⟨g,cap,cur,rfl,hg,h,Nat.zero_le _,hc,hs,by simp⟩⟩
theorem grow_nil {k:Nat} (h0:0<k) (hk:k≤1000000) (w:World):Calls Tryz.prog 144 #[.slice none 0 0,.int .i64 (k:Int)] w fun e w'=>∃ v,e=.returned v∧w'.ownsRow w.heap.size 5 1 v 0 (cells8 [])∧Below w.heap.size w w':=by
 obtain ⟨i0,hi,hz0,hz1,hz2⟩:=info_parts info8
 have h1:¬ ((k:Int)<0):=by omega
 have h3:wrap64 ((k:Int))=(k:Int):=by unfold wrap64;omega
 have h4:(k:Int) > 0:=by omega
 have hrz:∀ ty,(Builtin.append_ #[25,3] ty #[.slice none 0 0,.int .i64 (k:Int)]).run Tryz.prog w =
   .ok (.slice (some ⟨w.heap.size,0,none⟩) (0+k) (grownCap w (0+k) 0 5)) (w.drew.alloc (.cells (([]:List Value).toArray++Builtin.zeroCells (Value.int .u8 0).cells k++Builtin.zeroCells (Value.int .u8 0).cells (grownCap w (0+k) 0 5-(0+k))) 5)):=fun ty =>
  Lib.run_append_grow_zeros w 25 3 ty 5 i0 (.int .u8 0) .i64 .i64 Tryz.underlying25 Tryz.underlying3 hi hz0 none 0 0 [] (run_firstCells_none w.drew i0.size 0 0 0) k h0 (by rw [hz1];decide) (by omega) (by omega) (by rw [hz2];omega) (growslice_fits (by omega) (by rw [hz2];omega))
 have hG63:grownCap w (0+k) 0 5≤maxLen:=grownCap_le_maxLen w (0+k) 0 5 (by unfold maxLen;omega)
 have hGn:0+k≤grownCap w (0+k) 0 5:=grownCap_ge w _ _ _
 obtain ⟨G,hG⟩:∃ G,G=grownCap w (0+k) 0 5:=⟨_,rfl⟩
 rw [← hG] at hrz hGn hG63
 have hsz:(([]:List Value).toArray++Builtin.zeroCells (Value.int .u8 0).cells k++Builtin.zeroCells (Value.int .u8 0).cells (G-(0+k))).size=G*1:=by
  simp [Builtin.zeroCells,Value.cells]
  omega
 obtain ⟨C,hC⟩:∃ C,C=(([]:List Value).toArray++Builtin.zeroCells (Value.int .u8 0).cells k++Builtin.zeroCells (Value.int .u8 0).cells (G-(0+k))):=⟨_,rfl⟩
 rw [← hC] at hrz hsz
 have hG64:G≤9223372036854775807:=by unfold maxLen at hG63;omega
 clear hC hG
 go_enter Tryz.func144,Tryz.ntmps144
 go_wp2_with (at_builtin;refine Lib.wpList_append_run _ rfl _ _ _ _ rfl _ _ rfl rfl _ _ (hrz _) ?_)
 all_goals
  go_ret
  exact ⟨_,rfl,row_zero (Nat.le_refl _) (Array.getElem?_push_size ..) hG63 hsz,Below.alloc (Below.refl _ w).drew (by simp) _⟩
end Go.Proofs.YtmigakanbeckpaaGreatDoor.De
namespace Go.Proofs.YtmigakanbeckpaaGreatDoor
set_option maxRecDepth 100000
open Go.RowKit
def Y (k:Nat) (a:Int):Int:=a / 256 ^ k % 256
theorem Y_lo (k:Nat) (a:Int):0≤Y k a:=Int.emod_nonneg _ (by omega)
theorem Y_hi (k:Nat) (a:Int):Y k a<256:=Int.emod_lt_of_pos _ (by omega)
theorem B_pow (q:Nat):B ^ q=256 ^ (8*q):=by rw [Int.pow_mul];rfl
theorem byte_word (a:Int) (q r:Nat) (hr:r<8):L q a / 256 ^ r % 256=Y (8*q+r) a:=by
 unfold L Y
 rw [Int.pow_add,← B_pow,← Int.ediv_ediv_of_nonneg (Int.le_of_lt (Bk_pos q))]
 generalize a / B ^ q=x
 unfold B
 match r,hr with
 | 0,_=>simp
 | 1,_=>simp;omega
 | 2,_=>simp;omega
 | 3,_=>simp;omega
 | 4,_=>simp;omega
 | 5,_=>simp;omega
 | 6,_=>simp;omega
 | 7,_=>simp;omega
 | n+8,h=>omega
def E (f:Nat→Int) (o:Nat):Nat→Int
 | 0=>0
 | r+1=>E f o r+f (o+r)*256 ^ r
theorem E_bd {f:Nat→Int} (hf:∀ i,0≤f i∧f i<256) (o:Nat):∀ r,0≤E f o r∧E f o r<256 ^ r
 | 0=>by simp [E]
 | r+1=>by
  have h:=E_bd hf o r
  have hp:(0:Int)<256 ^ r:=Int.pow_pos (by omega)
  have h1:=(hf (o+r)).1
  have h2:f (o+r)*256 ^ r≤255*256 ^ r:=Int.mul_le_mul_of_nonneg_right (by have:=(hf (o+r)).2;omega) (Int.le_of_lt hp)
  have h3:0≤f (o+r)*256 ^ r:=Int.mul_nonneg h1 (Int.le_of_lt hp)
  simp only [E,Int.pow_succ]
  omega
theorem E_word (a:Int) (j:Nat):E (fun i=>Y i a) (8*j) 8=L j a:=by
 have h1:=L_lo j a
 have h2:=L_hi j a
 simp only [E,← byte_word a j _ (show 0<8 by omega),← byte_word a j _ (show 1<8 by omega),← byte_word a j _ (show 2<8 by omega),← byte_word a j _ (show 3<8 by omega),← byte_word a j _ (show 4<8 by omega),← byte_word a j _ (show 5<8 by omega),← byte_word a j _ (show 6<8 by omega),← byte_word a j _ (show 7<8 by omega)]
 generalize L j a=x at *
 simp
 omega
theorem E_congr {f g:Nat→Int} (o:Nat):∀ r,(∀ i,i<r→f (o+i)=g (o+i))→E f o r=E g o r
 | 0,_=>rfl
 | r+1,h=>by simp only [E];rw [E_congr o r (fun i hi=>h i (by omega)),h r (by omega)]
end Go.Proofs.YtmigakanbeckpaaGreatDoor
