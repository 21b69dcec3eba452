/- What the program's own spread answers. What the program's own takeIn answers. What the program's own ending answers. Worlds that part in one block alone. A digest in memory: its state, the bytes of its unfinished block, its size. What the program's own Write does. What the program's own hash answers. What the program's own Sum of a digest answers. What the program's own Sum answers. -/
import Derived.Test.YtmigakanbeckpaaGreatDoorRm29
import Derived.Test.YtmigakanbeckpaaGreatDoorRm24
import Derived.Test.YtmigakanbeckpaaGreatDoorRm23
import Derived.Deep.RegionHeld3
import Derived.Deep.LoopGhost
import Derived.Deep.DeepCutAuto
import Derived.Laws.IdiomCopy
import Derived.Laws.CopyOwn
set_option maxRecDepth 100000
set_option maxHeartbeats 8000000
namespace Go.Proofs.YtmigakanbeckpaaGreatDoor.Sh
set_option maxRecDepth 100000
open Go.RowKit
attribute [local go_sem ↓] Go.wp_at_zero Go.wp_at_succ
attribute [local go_sem] wn_add wn_xor wn_wrap wn_mod wn_add' wn_or
theorem infoBlk:(Tryz.prog.info? 113).map (·.size)=some 64:=by kernel_rfl
theorem ilBlk (f:Nat→Nat):(Tryz.prog.info? 113).map (·.size)=some (ab f 64).length:=by rw [ab_len];exact infoBlk
theorem run_index_ab (f:Nat→Nat) {i:Nat} (hi:i<64) (w:World):(Instr.index 113 (.agg (ab f 64).toArray) (.int .i64 (i:Int))).run Tryz.prog w=.ok (.int .u8 ((f i:Nat):Int)) w:=by
 have hx:(ab f 64).toArray[i]?=some (.int .u8 ((f i:Nat):Int)):=by have:=ab_at f hi;simpa using this
 have he:Tryz.prog.plainKey 5=true:=by kernel_rfl
 have h1:(sizeOf 5).run Tryz.prog w=.ok 1 w:=by
  obtain ⟨i,hi⟩:=Option.isSome_iff_exists.1 (show (Tryz.prog.info? 5).isSome=true by kernel_rfl)
  have:(Tryz.prog.info? 5).map (·.size)=some 1:=by kernel_rfl
  rw [hi] at this
  simp [sizeOf,typeInfo,hi]
  simpa using this
 have h2:=run_part_plain w he hx
 simp [Instr.index,asIntOf,run_underlying Tryz.underlying113,h1,h2,hi]
theorem wpList_index {P:Program} {w:World} {ops:Array Oper} {rest:List Oper} {op:Oper} {a:Act} {Q:Exit→Act→World→Prop} (hgd:op.guard=none) (t:TypeId) (x y:Operand) (ho:op.op=.index t x y)
  (X Y v:Value) (hx:a.eval x=X) (hy:a.eval y=Y) (hr:(Instr.index t X Y).run P w=.ok v w) (h:wpList P ops Q rest (a.put op.dst v) w):wpList P ops Q (op :: rest) a w:=by
 refine wpList_plain hgd fun K hK=>?_
 unfold Oper.wp execOp
 simp only [ho,hx,hy,Sem.run_bind,Sem.run_pure,Result.andThen_ok,hr]
 exact hK _ _ h
theorem spread_any {p:Nat→Nat} (hp:∀ i,p i<256) (w:World) :
  Calls Tryz.prog 148 #[.agg (ab p 64).toArray] w fun e w'=>e=.returned (.agg (aw (sched (fun t=>wordP p t 4)) 64).toArray)∧Below w.heap.size w w':=by
 have HP:Hid (∀ i,p i<256):=hp
 clear hp
 have HIX:Hid (∀ (i:Nat),i<64→∀ W:World,(Instr.index 113 (.agg (ab p 64).toArray) (.int .i64 (i:Int))).run Tryz.prog W=.ok (.int .u8 ((p i:Nat):Int)) W):=fun i hi W=>run_index_ab p hi W
 have HMA:Hid (∀ W:World,RowB (W.alloc (.cells (ab p 64).toArray 113)) W.heap.size 64 p):=fun W=>RowB.made W _ 64 p _ rfl
 have HRG:Hid (∀ (W:World) (b:Nat),RowB W b 64 p→W.rangeAt b 0 (ab p 64)):=fun W b h=>RowB.range h
 have HIL:=hide (ilBlk p)
 obtain ⟨A,hA⟩:∃ A,A=ab p 64:=⟨_,rfl⟩
 rw [← hA] at HIX HMA HRG HIL ⊢
 clear hA
 go_enter Tryz.func148,Tryz.ntmps148
 go_upto_region 2 with fail
 refine wp_world (fun X hX=>?_)
 have hB:Below w.heap.size w X:=by rw [hX];exact K.alloc (K.alloc (K.alloc (Below.refl _ _) _) _) _
 have hR:RowB X w.heap.size 64 p:=by rw [hX];exact (HMA.out w).keep (K.alloc (K.alloc (Below.refl _ _) _) _)
 have hZ:RowW X (w.heap.size+1) 64 (fun _=>0):=by
  have h:=(RowW.made (w.alloc (.cells A.toArray 113)) 151 64 (fun _=>0) _ zeros64).keep (K.alloc (Below.refl _ _) (.cells (aw (fun _=>0) 64).toArray 151))
  rw [← zeros64] at h
  rw [hX]
  simpa using h
 have hW:RowW X (w.heap.size+1+1) 64 (fun _=>0):=by
  have h:=RowW.made ((w.alloc (.cells A.toArray 113)).alloc (.cells (aw (fun _=>0) 64).toArray 151)) 151 64 (fun _=>0) _ zeros64
  rw [← zeros64] at h
  rw [hX]
  simpa using h
 clear hX
 have HRr:=hide (HRG.out X _ hR)
 have hW:=hW.congr (g:=w1 p 0 0) (fun i _=>by unfold w1;rw [if_neg (by omega)];split <;> rfl)
 generalize hb0:w.heap.size=b0 at *
 have HW:=hide hW
 have HZ:=hide hZ
 have HB:=hide hB
 clear hR hW hZ hB
 go_wp2_with (refine wpList_load_mid rfl 113 _ rfl _ 0 rfl A _ HRr.out Tryz.underlying113 rfl HIL.out ?_;simp only [Act.put,List.setIfInBounds_toArray,List.set_cons_zero,List.set_cons_succ])
 go_loopg [12] 64 (fun g s12 wr=>∃ t:Nat,g=64-t∧t≤64∧s12=.int .i64 t∧RowW wr (b0+1) 64 (fun _=>0)∧RowW wr (b0+1+1) 64 (w1 p (t / 4) (t % 4))∧Below b0 w wr)
 case atStart=>exact ⟨0,rfl,by omega,rfl,HZ.out,HW.out,HB.out⟩
 case round =>
  clear HW HZ HB HRr HIL HMA HRG
  obtain ⟨t,rfl,ht,rfl,hZ,hW,hB⟩:=hrel
  by_cases hlt:t<64
  ·obtain ⟨q,hq⟩:∃ q,q=t / 4:=⟨_,rfl⟩
   obtain ⟨r,hr⟩:∃ r,r=t % 4:=⟨_,rfl⟩
   have HQ:=hide (show t=4*q+r∧r<4∧q<16 from by omega)
   rw [← hq,← hr] at hW
   have cq:=hW.c q (by omega)
   have zq:=hW.z q (by omega)
   have e1:w1 p q r q=wordP p q r:=by unfold w1;rw [if_neg (by omega),if_pos rfl]
   rw [e1] at cq
   obtain ⟨y,hy⟩:∃ y:Wd,y=BitVec.ofNat 32 (p t):=⟨_,rfl⟩
   have hix:=HIX.out t hlt
   rw [← wn_of (p t) (by have:=HP.out t;omega),← hy] at hix
   have HX:Hid (wor (wshl (wordP p q r) 8) y=wordP p q (r+1)):=by
    show _=_
    rw [hy,shl8_or _ _ (HP.out t),HQ.out.1];rfl
   obtain ⟨x,hx'⟩:∃ x:Wd,x=wordP p q r:=⟨_,rfl⟩
   rw [← hx'] at cq HX
   have hti:(t:Int)<64:=by omega
   have q1:(t:Int) / 4=(q:Int):=by omega
   have q2:(t:Int).tdiv 4=(q:Int):=by rw [Int.tdiv_eq_ediv_of_nonneg (by omega)];omega
   have q3:(q:Int)<64:=by omega
   have q4:q<64:=by omega
   have q5:IntKind.i64.wrap (q:Int)=(q:Int):=by rw [IntKind.wrap_i64];omega
   have s1:wn x <<< 8 % 4294967296=wn (wshl x 8):=wn_shl' x 8
   have s2:wn x*256 % 4294967296=wn (wshl x 8):=wn_shl x 8
   have HZ:=hide hZ
   have HW:=hide hW
   have HB:=hide hB
   have hbl:=hW.lt
   have HT:=hide hlt
   have HIXt:=hide hix
   clear hZ hW hB hq hr e1 hy hx' ht hlt hix
   go_wp2_with (refine wpList_index rfl 113 _ _ rfl _ _ _ rfl rfl (HIXt.out _) ?_)
   go_roundg (64-(t+1))
   case measure=>have:=HT.out;omega
   case rel=>exact ⟨t+1,rfl,by have:=HT.out;omega,by go_num,HZ.out.other (by omega) q _,by
    have h:=HW.out.store q q4 (wor (wshl x 8) y)
    rw [HX.out] at h ⊢
    have hq:=HQ.out
    by_cases e:r=3
    ·refine h.congr (fun j hj=>?_)
     rw [show (t+1) / 4=q+1 by omega,show (t+1) % 4=0 by omega]
     unfold w1
     subst e
     (repeat' split) <;> first | rfl | omega | (subst_vars;rfl)
    ·refine h.congr (fun j hj=>?_)
     rw [show (t+1) / 4=q by omega,show (t+1) % 4=r+1 by omega]
     unfold w1
     (repeat' split) <;> first | rfl | omega | (subst_vars;rfl),by
    have:=hb0
    exact hb0 ▸ K.set (hb0 ▸ HB.out) (by simp;omega) _⟩
  ·obtain rfl:t=64:=by omega
   have HZ:=hide hZ
   have HW:Hid (RowW wr (b0+1+1) 64 (w2 (fun t=>wordP p t 4) 16)):=hW.congr (fun j hj=>by unfold w1 w2;(repeat' split) <;> first | rfl | omega | (rw [sched_low _ (by assumption)]))
   have HB:=hide hB
   clear hZ hW hB hlt ht HIX
   obtain ⟨m,hm⟩:∃ m:Nat→Wd,m=fun t=>wordP p t 4:=⟨_,rfl⟩
   have HM:Hid (m=fun t=>wordP p t 4):=hm
   rw [← hm] at HW
   clear hm
   go_wp2_with fail
   go_loopg [6] 48 (fun g s6 wr=>∃ t:Nat,g=64-t∧16≤t∧t≤64∧s6=.int .i64 t∧RowW wr (b0+1) 64 (fun _=>0)∧RowW wr (b0+1+1) 64 (w2 m t)∧Below b0 w wr)
   case atStart=>exact ⟨16,rfl,by omega,by omega,rfl,HZ.out,HW.out,HB.out⟩
   case round =>
    clear HZ HW HB
    obtain ⟨t,rfl,h16,ht,rfl,hZ,hW,hB⟩:=hrel
    by_cases hlt:t<64
    ·have c15:=hW.c (t-15) (by omega)
     have c2:=hW.c (t-2) (by omega)
     have c7:=hW.c (t-7) (by omega)
     have c16:=hW.c (t-16) (by omega)
     have ct:=hW.c t hlt
     have zt:=hW.z t hlt
     have e15:w2 m t (t-15)=sched m (t-15):=by unfold w2;rw [if_pos (by omega)]
     have e2:w2 m t (t-2)=sched m (t-2):=by unfold w2;rw [if_pos (by omega)]
     have e7:w2 m t (t-7)=sched m (t-7):=by unfold w2;rw [if_pos (by omega)]
     have e16:w2 m t (t-16)=sched m (t-16):=by unfold w2;rw [if_pos (by omega)]
     rw [e15] at c15
     rw [e2] at c2
     rw [e7] at c7
     rw [e16] at c16
     have HX:Hid (wadd (wadd (wadd (wxor (wxor (rotr (sched m (t-2)) 17) (rotr (sched m (t-2)) 19)) (wshr (sched m (t-2)) 10)) (sched m (t-7))) (wxor (wxor (rotr (sched m (t-15)) 7) (rotr (sched m (t-15)) 18)) (wshr (sched m (t-15)) 3))) (sched m (t-16))=sched m t):=by
      exact (sched_up m (t:=t) (by omega)).symm
     generalize sched m (t-15)=x at *
     generalize sched m (t-2)=y at *
     generalize sched m (t-7)=u at *
     generalize sched m (t-16)=v at *
     have i15:(t:Int)-15=((t-15:Nat):Int):=by omega
     have i2:(t:Int)-2=((t-2:Nat):Int):=by omega
     have i7:(t:Int)-7=((t-7:Nat):Int):=by omega
     have i16:(t:Int)-16=((t-16:Nat):Int):=by omega
     have b15:t-15<64:=by omega
     have b2:t-2<64:=by omega
     have b7:t-7<64:=by omega
     have b16:t-16<64:=by omega
     have hti:(t:Int)<64:=by omega
     have HT:Hid (t<64∧16≤t):=⟨hlt,h16⟩
     obtain ⟨t15,ht15⟩:∃ k,k=t-15:=⟨_,rfl⟩
     obtain ⟨t2,ht2⟩:∃ k,k=t-2:=⟨_,rfl⟩
     obtain ⟨t7,ht7⟩:∃ k,k=t-7:=⟨_,rfl⟩
     obtain ⟨t16,ht16⟩:∃ k,k=t-16:=⟨_,rfl⟩
     rw [← ht15] at c15 i15 b15
     rw [← ht2] at c2 i2 b2
     rw [← ht7] at c7 i7 b7
     rw [← ht16] at c16 i16 b16
     have j15:(t15:Int)<64:=by omega
     have j2:(t2:Int)<64:=by omega
     have j7:(t7:Int)<64:=by omega
     have j16:(t16:Int)<64:=by omega
     have k15:IntKind.i64.wrap (t15:Int)=(t15:Int):=by rw [IntKind.wrap_i64];omega
     have k2:IntKind.i64.wrap (t2:Int)=(t2:Int):=by rw [IntKind.wrap_i64];omega
     have k7:IntKind.i64.wrap (t7:Int)=(t7:Int):=by rw [IntKind.wrap_i64];omega
     have k16:IntKind.i64.wrap (t16:Int)=(t16:Int):=by rw [IntKind.wrap_i64];omega
     have d3:wn x / 8=wn (wshr x 3):=wn_shr x 3
     have d10:wn y / 1024=wn (wshr y 10):=wn_shr y 10
     have HZ:=hide hZ
     have HW:=hide hW
     have HB:=hide hB
     have hbl:=hW.lt
     clear hZ hW hB hlt ht h16 e15 e2 e7 e16 ht15 ht2 ht7 ht16
     go_upto_region 10 with fail
     apply wp_mono (Q:=Only _ _)
     ·go_region
      all_goals exact Only.intro _ _
     refine Only.out ?_
     go_upto_region 11 with fail
     refine wp_world (fun X hX=>?_)
     have hbX:Below wr.heap.size wr X:=by rw [hX];exact K.drew (Below.refl _ _)
     have HZ:=hide (HZ.out.keep hbX)
     have HW:=hide (HW.out.keep hbX)
     have HB:Hid (Below b0 w X):=by subst hb0;exact K.call HB.out hbX
     clear c15 c2
     have c7:=later hbX c7
     have c16:=later hbX c16
     have ct:=later hbX ct
     have zt:=HW.out.z t HT.out.1
     have hbl:=HW.out.lt
     clear hX hbX
     go_wp2_with (first
      | (go_at_call 149;with_reducible refine Calls.mono (right_7 x _) ?_;rintro e w' ⟨rfl,rfl⟩)
      | (go_at_call 149;with_reducible refine Calls.mono (right_18 x _) ?_;rintro e w' ⟨rfl,rfl⟩)
      | (go_at_call 149;with_reducible refine Calls.mono (right_17 y _) ?_;rintro e w' ⟨rfl,rfl⟩)
      | (go_at_call 149;with_reducible refine Calls.mono (right_19 y _) ?_;rintro e w' ⟨rfl,rfl⟩))
     apply wp_mono (Q:=Only _ _)
     ·go_region
      all_goals exact Only.intro _ _
     refine Only.out ?_
     clear c7 c16 ct zt
     go_wp2_with fail
     go_roundg (64-(t+1))
     case measure=>have:=HT.out;omega
     case rel=>exact ⟨t+1,rfl,by have:=HT.out;omega,by have:=HT.out;omega,by go_num,(HZ.out.keep (K.drew (Below.refl _ _))).other (by omega) t _,by
      have h:=(HW.out.keep (K.drew (Below.refl _ _))).store t HT.out.1 (wadd (wadd (wadd (wxor (wxor (rotr y 17) (rotr y 19)) (wshr y 10)) u) (wxor (wxor (rotr x 7) (rotr x 18)) (wshr x 3))) v)
      rw [HX.out] at h ⊢
      exact h.congr (fun j hj=>by unfold w2;(repeat' split) <;> first | rfl | omega | (subst_vars;rfl)),by
      subst hb0
      exact K.set (K.drew HB.out) (by simp;omega) _⟩
    ·obtain rfl:t=64:=by omega
     have hW':RowW wr (b0+1+1) 64 (sched m):=hW.congr (fun j hj=>by unfold w2;rw [if_pos hj])
     have hr:=hW'.range
     have hsz:(aw (sched m) 64).toArray.size=64:=by rw [List.size_toArray,aw_len]
     have hth:wr.there (b0+1) 0 (aw (sched m) 64).toArray.size:=by rw [hsz];exact hZ.there
     have hin:(Tryz.prog.info? 151).map (·.size)=some (aw (sched m) 64).toArray.size:=by rw [hsz];exact info64W
     have hil:(Tryz.prog.info? 151).map (·.size)=some (aw (sched m) 64).length:=by rw [aw_len];exact info64W
     have HH:=hide hth
     have HI:=hide hin
     have HL:=hide hil
     have HRr:=hide hr
     clear hth hin hil hr hsz
     have HS:Hid (RowW (wr.setCells (b0+1) 0 (aw (sched m) 64).toArray.toList) (b0+1) 64 (sched m)):=hZ.stored (sched m)
     have HB:Hid (Below b0 w (wr.setCells (b0+1) 0 (aw (sched m) 64).toArray.toList)):=by subst hb0;exact below_setCells _ _ hB (by omega)
     clear hZ hW hB hlt ht h16 hW'
     go_upto_region 14 with fail
     go_wp2_with (refine wpList_load_mid rfl 151 _ rfl _ 0 rfl (aw (sched m) 64) _ HRr.out Tryz.underlying151 rfl HL.out ?_;simp only [Act.put,List.setIfInBounds_toArray,List.set_cons_zero,List.set_cons_succ];refine wpList_store_mid rfl 151 _ _ rfl (b0+1) 0 (aw (sched m) 64).toArray rfl rfl HH.out HI.out (all_oneCell_toArray (aw_one _ _)) ?_;generalize wr.setCells (b0+1) 0 (aw (sched m) 64).toArray.toList=X at HS HB ⊢)
     refine bodyPost_ret (results_cell_mid Tryz.results148 _ _ (b0+1) (aw (sched m) 64) _ rfl HS.out.range Tryz.underlying151 rfl HL.out) rfl ⟨?_,by rw [hb0];exact HB.out⟩
     rw [HM.out]
end Go.Proofs.YtmigakanbeckpaaGreatDoor.Sh
namespace Go.Proofs.YtmigakanbeckpaaGreatDoor.Sh
set_option maxRecDepth 100000
open Go.RowKit
attribute [local go_sem ↓] Go.wp_at_zero Go.wp_at_succ
attribute [local go_sem] wn_add wn_xor wn_wrap wn_mod wn_add' wn_or
structure Tab (w:World):Prop where
 f:∀ i,i<8→w.cell? ⟨2,i,none⟩=some (.int .u32 (wn (start.w i)))
 k:∀ i,i<64→w.cell? ⟨4,i,none⟩=some (.int .u32 (wn (kW i)))
theorem Tab.keep {W w1:World} (h:Tab W) (hb:Below W.heap.size W w1):Tab w1 :=
 ⟨fun i hi=>later hb (h.f i hi),fun i hi=>later hb (h.k i hi)⟩
theorem infoSt:(Tryz.prog.info? 111).map (·.size)=some 8:=by kernel_rfl
theorem inSt (f:Nat→Wd):(Tryz.prog.info? 111).map (·.size)=some (aw f 8).toArray.size:=by rw [size8];exact infoSt
theorem ilSt (f:Nat→Wd):(Tryz.prog.info? 111).map (·.size)=some (aw f 8).length:=by rw [aw_len];exact infoSt
theorem addS_w (s v r:St) (hr:r=addS s v):r.w 0=wadd (s.w 0) v.a∧r.w 1=wadd (s.w 1) v.b∧r.w 2=wadd (s.w 2) v.c∧r.w 3=wadd (s.w 3) v.d∧r.w 4=wadd (s.w 4) v.e∧r.w 5=wadd (s.w 5) v.f∧r.w 6=wadd (s.w 6) v.g∧r.w 7=wadd (s.w 7) v.h:=by
 subst hr
 exact ⟨rfl,rfl,rfl,rfl,rfl,rfl,rfl,rfl⟩
theorem takeIn_any {p:Nat→Nat} (hp:∀ i,p i<256) (s:St) {w:World} (hT:Tab w) :
  Calls Tryz.prog 129 #[.agg (aw s.w 8).toArray,.agg (ab p 64).toArray] w fun e w'=>e=.returned (.agg (aw (takeB s p).w 8).toArray)∧Below w.heap.size w w':=by
 have HSP:Hid (∀ W:World,Calls Tryz.prog 148 #[.agg (ab p 64).toArray] W fun e w'=>e=.returned (.agg (aw (sched (fun t=>wordP p t 4)) 64).toArray)∧Below W.heap.size W w'):=fun W=>spread_any hp W
 have HT:Hid (Tab w):=hT
 clear hp hT
 have HMA:Hid (∀ W:World,RowB (W.alloc (.cells (ab p 64).toArray 113)) W.heap.size 64 p):=fun W=>RowB.made W _ 64 p _ rfl
 have HRG:Hid (∀ (W:World) (b:Nat),RowB W b 64 p→W.rangeAt b 0 (ab p 64)):=fun W b h=>RowB.range h
 have HIL:=hide (ilBlk p)
 obtain ⟨A,hA⟩:∃ A,A=ab p 64:=⟨_,rfl⟩
 rw [← hA] at HSP HMA HRG HIL ⊢
 clear hA
 have HTK:Hid (∀ v:St,v=rnds kW (sched (fun t=>wordP p t 4)) s 64→takeB s p=addS s v):=fun v e=>by rw [e];rfl
 obtain ⟨Wf,hWf⟩:∃ Wf:Nat→Wd,Wf=sched (fun t=>wordP p t 4):=⟨_,rfl⟩
 rw [← hWf] at HTK HSP
 clear hWf
 rw [aw8 s.w]
 go_enter Tryz.func129,Tryz.ntmps129
 go_upto_region 1 with fail
 refine wp_world (fun X hX=>?_)
 have hB:Below w.heap.size w X:=by rw [hX];exact K.alloc (K.alloc (K.alloc (Below.refl _ _) _) _) _
 have hH:RowW X w.heap.size 8 s.w:=by rw [hX];exact (RowW.made w 111 8 s.w _ (aw8 s.w).symm).keep (K.alloc (K.alloc (Below.refl _ _) _) _)
 have hR:RowB X (w.heap.size+1) 64 p:=by
  rw [hX]
  have h:=(HMA.out (w.alloc (.cells #[.int .u32 (wn (s.w 0)),.int .u32 (wn (s.w 1)),.int .u32 (wn (s.w 2)),.int .u32 (wn (s.w 3)),.int .u32 (wn (s.w 4)),.int .u32 (wn (s.w 5)),.int .u32 (wn (s.w 6)),.int .u32 (wn (s.w 7))] 111))).keep (K.alloc (Below.refl _ _) (.cells #[.int .u32 0,.int .u32 0,.int .u32 0,.int .u32 0,.int .u32 0,.int .u32 0,.int .u32 0,.int .u32 0] 111))
  simpa using h
 have hZ:RowW X (w.heap.size+1+1) 8 (fun _=>0):=by
  rw [hX]
  have h:=RowW.made ((w.alloc (.cells #[.int .u32 (wn (s.w 0)),.int .u32 (wn (s.w 1)),.int .u32 (wn (s.w 2)),.int .u32 (wn (s.w 3)),.int .u32 (wn (s.w 4)),.int .u32 (wn (s.w 5)),.int .u32 (wn (s.w 6)),.int .u32 (wn (s.w 7))] 111)).alloc (.cells A.toArray 113)) 111 8 (fun _=>0) _ zeros8
  simpa using h
 have hT:=HT.out.keep hB
 clear hX HT
 have HRr:=hide (HRG.out X _ hR)
 clear HMA HRG hR
 obtain ⟨b0,hb0⟩:∃ b0,w.heap.size=b0:=⟨_,rfl⟩
 rw [hb0] at hB hH hZ HRr ⊢
 have HH:=hide hH
 have HZ:=hide hZ
 have HB:=hide hB
 have HT:=hide hT
 clear hH hZ hB hT
 go_wp2_with (refine wpList_load_mid rfl 113 _ rfl _ 0 rfl A _ HRr.out Tryz.underlying113 rfl HIL.out ?_;simp only [Act.put,List.setIfInBounds_toArray,List.set_cons_zero,List.set_cons_succ])
 with_reducible refine Calls.mono (HSP.out _) ?_
 rintro e W1 ⟨rfl,hb⟩
 have hH:=HH.out.keep hb
 have hZ:=HZ.out.keep hb
 have hT:=HT.out.keep hb
 have hB1:Below b0 w W1:=by subst hb0;exact K.call HB.out hb
 clear hb HH HZ HB HT HRr HIL HSP
 have hsz:(aw Wf 64).toArray.size=64:=by rw [List.size_toArray,aw_len]
 have hin:(Tryz.prog.info? 151).map (·.size)=some (aw Wf 64).toArray.size:=by rw [hsz];exact info64W
 have h64:64=(aw Wf 64).toArray.size:=hsz.symm
 have HIN:=hide hin
 have H64:=hide h64
 clear hsz hin h64
 go_upto_region 2 with (refine wpList_store_new rfl 151 _ _ rfl _ (aw Wf 64).toArray rfl rfl HIN.out H64.out (all_oneCell_toArray (aw_one _ _)) ?_)
 have hal:=K.alloc (Below.refl _ W1) (.cells (aw Wf 64).toArray 151)
 have hW:=RowW.made W1 151 64 Wf _ rfl
 have hn5:b0+1+1<W1.heap.size:=hZ.lt
 have hH:=hH.keep hal
 have hZ:=hZ.keep hal
 have hT:=hT.keep hal
 have hB2:Below b0 w (W1.alloc (.cells (aw Wf 64).toArray 151)):=by subst hb0;exact K.call hB1 hal
 clear hal hB1 HIN H64
 generalize W1.alloc (.cells (aw Wf 64).toArray 151)=X2 at *
 generalize W1.heap.size=n5 at *
 have v0:=hH.c 0 (by omega)
 have v1:=hH.c 1 (by omega)
 have v2:=hH.c 2 (by omega)
 have v3:=hH.c 3 (by omega)
 have v4:=hH.c 4 (by omega)
 have v5:=hH.c 5 (by omega)
 have v6:=hH.c 6 (by omega)
 have v7:=hH.c 7 (by omega)
 have HH:=hide hH
 have HZ:=hide hZ
 have HB:=hide hB2
 have HT:=hide hT
 have HW:=hide hW
 clear hH hZ hB2 hT hW
 go_region_held3 (fun w'=>w'=X2.drew∧w'.cell? ⟨b0,0,none⟩=some (.int .u32 (wn (s.w 0)))∧w'.cell? ⟨b0,1,none⟩=some (.int .u32 (wn (s.w 1)))∧w'.cell? ⟨b0,2,none⟩=some (.int .u32 (wn (s.w 2)))∧w'.cell? ⟨b0,3,none⟩=some (.int .u32 (wn (s.w 3)))∧w'.cell? ⟨b0,4,none⟩=some (.int .u32 (wn (s.w 4)))∧w'.cell? ⟨b0,5,none⟩=some (.int .u32 (wn (s.w 5)))∧w'.cell? ⟨b0,6,none⟩=some (.int .u32 (wn (s.w 6)))∧w'.cell? ⟨b0,7,none⟩=some (.int .u32 (wn (s.w 7))))
  (first | (with_reducible assumption) | exact ⟨rfl,v0,v1,v2,v3,v4,v5,v6,v7⟩)
  (fail)
 clear v0 v1 v2 v3 v4 v5 v6 v7 hH hZ hT
 go_upto_region 3 with fail
 refine wp_world (fun Y hY=>?_)
 have hbY:Below X2.heap.size X2 Y:=by rw [hY];exact K.drew (Below.refl _ _)
 have HH:=hide (HH.out.keep hbY)
 have HZ:=hide (HZ.out.keep hbY)
 have HT:=hide (HT.out.keep hbY)
 have HW:=hide (HW.out.keep hbY)
 have HB:Hid (Below b0 w Y):=by subst hb0;exact K.call HB.out hbY
 clear hY hbY
 go_wp2_with fail
 go_loopg [6,7,8,9,10,11,12,13,35] 64 (fun g s6 s7 s8 s9 s10 s11 s12 s13 s35 wr=>∃ t:Nat,g=64-t∧t≤64∧s35=.int .i64 t∧s6=.int .u32 (wn (rnds kW Wf s t).a)∧s7=.int .u32 (wn (rnds kW Wf s t).b)∧s8=.int .u32 (wn (rnds kW Wf s t).c)∧s9=.int .u32 (wn (rnds kW Wf s t).d)∧s10=.int .u32 (wn (rnds kW Wf s t).e)∧s11=.int .u32 (wn (rnds kW Wf s t).f)∧s12=.int .u32 (wn (rnds kW Wf s t).g)∧s13=.int .u32 (wn (rnds kW Wf s t).h)∧RowW wr n5 64 Wf∧RowW wr b0 8 s.w∧RowW wr (b0+1+1) 8 (fun _=>0)∧Tab wr∧Below b0 w wr)
 case atStart=>exact ⟨0,rfl,by omega,rfl,rfl,rfl,rfl,rfl,rfl,rfl,rfl,rfl,HW.out,HH.out,HZ.out,HT.out,HB.out⟩
 case round =>
  clear HW HH HZ HT HB
  obtain ⟨t,rfl,ht,rfl,rfl,rfl,rfl,rfl,rfl,rfl,rfl,rfl,hW,hH,hZ,hT,hB⟩:=hrel
  by_cases hlt:t<64
  ·have ck:=hT.k t hlt
   have cw:=hW.c t hlt
   have HS:Hid (rnds kW Wf s (t+1)=rnd (rnds kW Wf s t) (kW t) (Wf t)):=rfl
   obtain ⟨q,hq⟩:∃ q,q=rnds kW Wf s t:=⟨_,rfl⟩
   rw [← hq] at HS ⊢
   clear hq
   obtain ⟨qa,qb,qc,qd,qe,qf,qg,qh⟩:=q
   dsimp only
   have hti:(t:Int)<64:=by omega
   have HW:=hide hW
   have HH:=hide hH
   have HZ:=hide hZ
   have HT:=hide hT
   have HB:=hide hB
   have HL:=hide hlt
   clear hW hH hZ hT hB ht
   generalize kW t=kt at *
   generalize Wf t=wt at *
   go_upto_region 6 with fail
   go_region_held3 (fun w'=>w'=wr.drew∧w'.cell? ⟨4,t,none⟩=some (.int .u32 (wn kt))∧w'.cell? ⟨n5,t,none⟩=some (.int .u32 (wn wt)))
    (first | (with_reducible assumption) | exact ⟨rfl,ck,cw⟩)
    (first
    | (go_at_call 149;with_reducible refine Calls.mono (right_6 qe _) ?_;rintro e w' ⟨rfl,rfl⟩)
    | (go_at_call 149;with_reducible refine Calls.mono (right_11 qe _) ?_;rintro e w' ⟨rfl,rfl⟩)
    | (go_at_call 149;with_reducible refine Calls.mono (right_25 qe _) ?_;rintro e w' ⟨rfl,rfl⟩)
    | (go_at_call 150;with_reducible refine Calls.mono (choice_any qe qf qg _) ?_;rintro e w' ⟨rfl,rfl⟩))
   clear ck cw
   go_wp2_with (first
    | (go_at_call 149;with_reducible refine Calls.mono (right_2 qa _) ?_;rintro e w' ⟨rfl,rfl⟩)
    | (go_at_call 149;with_reducible refine Calls.mono (right_13 qa _) ?_;rintro e w' ⟨rfl,rfl⟩)
    | (go_at_call 149;with_reducible refine Calls.mono (right_22 qa _) ?_;rintro e w' ⟨rfl,rfl⟩)
    | (go_at_call 151;with_reducible refine Calls.mono (majority_any qa qb qc _) ?_;rintro e w' ⟨rfl,rfl⟩))
   go_roundg (64-(t+1))
   case measure=>have:=HL.out;omega
   case rel =>
    have hbY:Below wr.heap.size wr wr.drew:=K.drew (Below.refl _ _)
    refine ⟨t+1,rfl,by have:=HL.out;omega,by go_num,?_,?_,?_,?_,?_,?_,?_,?_,HW.out.keep hbY,HH.out.keep hbY,HZ.out.keep hbY,HT.out.keep hbY,by subst hb0;exact K.call HB.out hbY⟩
    all_goals (rw [HS.out];rfl)
  ·obtain rfl:t=64:=by omega
   obtain ⟨v,hv⟩:∃ v,v=rnds kW Wf s 64:=⟨_,rfl⟩
   have HE:=hide (HTK.out v hv)
   rw [← hv]
   clear hv
   have v0:=hH.c 0 (by omega)
   have v1:=hH.c 1 (by omega)
   have v2:=hH.c 2 (by omega)
   have v3:=hH.c 3 (by omega)
   have v4:=hH.c 4 (by omega)
   have v5:=hH.c 5 (by omega)
   have v6:=hH.c 6 (by omega)
   have v7:=hH.c 7 (by omega)
   obtain ⟨r,hr⟩:∃ r,r=addS s v:=⟨_,rfl⟩
   have HRE:Hid (r=takeB s p):=by show _=_;rw [hr,HE.out]
   have HRW:=hide (addS_w s v r hr)
   have HTH:=hide (there8 hZ r.w)
   have HS:=hide (hZ.stored r.w)
   have HB:Hid (Below b0 w (wr.setCells (b0+1+1) 0 (aw r.w 8).toArray.toList)):=by subst hb0;exact below_setCells _ _ hB (by omega)
   clear hW hH hZ hT hB hlt ht hr
   go_wp2_with (refine wpList_store_mid rfl 111 _ _ rfl (b0+1+1) 0 (aw r.w 8).toArray rfl (by rw [aw8,HRW.out.1,HRW.out.2.1,HRW.out.2.2.1,HRW.out.2.2.2.1,HRW.out.2.2.2.2.1,HRW.out.2.2.2.2.2.1,HRW.out.2.2.2.2.2.2.1,HRW.out.2.2.2.2.2.2.2];rfl) HTH.out (inSt _) (all8 _) ?_;generalize wr.setCells (b0+1+1) 0 (aw r.w 8).toArray.toList=X at HS HB ⊢)
   refine bodyPost_ret (results_cell_mid Tryz.results129 _ _ (b0+1+1) (aw r.w 8) _ rfl HS.out.range Tryz.underlying111 rfl (ilSt _)) rfl ⟨?_,by rw [hb0];exact HB.out⟩
   rw [HRE.out]
end Go.Proofs.YtmigakanbeckpaaGreatDoor.Sh
namespace Go.Proofs.YtmigakanbeckpaaGreatDoor.Sh
set_option maxRecDepth 100000
open Go.RowKit
attribute [local go_sem ↓] Go.wp_at_zero Go.wp_at_succ
def endP (n i:Nat):List Nat:=128 :: (List.replicate (zs n) 0++lenB n i)
theorem endP_len (n i:Nat):(endP n i).length=1+zs n+i:=by simp [endP,lenB_len];omega
theorem own_room (w:World) {base:Nat} (hb:base≤w.heap.size) (n c:Nat) (hn:n≤c) (hc:c≤maxLen) :
  (w.alloc (.cells (madeCells #[.int .u8 0] (c*1)) 5)).ownsRow base 5 1 (.slice (some ⟨w.heap.size,0,none⟩) n c) n (cells8 (List.replicate n 0)):=by
 refine ⟨by simp [cells8],.inr ⟨w.heap.size,c,_,rfl,hb,heap_alloc_new w _,hn,hc,by rw [size_madeCells],?_⟩⟩
 apply List.ext_getElem?
 intro i
 simp only [cells8,Nat.mul_one,List.getElem?_take,madeCells,List.map_replicate,List.getElem?_replicate]
 by_cases h:i<n
 ·have h':i<c:=by omega
  simp [h,h',Nat.mod_one]
 ·simp [h]
theorem wpList_make_room (w:World) {ops:Array Oper} {rest:List Oper} {o:Oper} {a:Act} {Q:Exit→Act→World→Prop} (hgd:o.guard=none) (l c:Operand) (hop:o.op=Op.makeSlice 25 l c)
  {base:Nat} (kl kc:IntKind) (L C:Int) (n m:Nat) (hl:a.eval l=.int kl L) (hc:a.eval c=.int kc C) (hL:L=(n:Int)) (hC:C=(m:Int)) (hnm:n≤m) (hm:m≤1000000) (hb:base≤w.heap.size)
  (hK:∀ w',w'.ownsRow base 5 1 (.slice (some ⟨w.heap.size,0,none⟩) n m) n (cells8 (List.replicate n 0))→w.grownBy w' none→wpList Tryz.prog ops Q rest (a.put o.dst (.slice (some ⟨w.heap.size,0,none⟩) n m)) w') :
  wpList Tryz.prog ops Q (o :: rest) a w:=by
 refine wpList_plain hgd fun K hK'=>?_
 subst hL hC
 obtain ⟨i0,hi,hz0,hz1,hz2⟩:=info_parts info8
 have hr:=run_make (P:=Tryz.prog) w 25 5 i0 (.int .u8 0) Tryz.underlying25 hi hz0 kl kc n m (by omega) (by omega) (by rw [hz2];omega) (by omega)
 simp only [Int.toNat_natCast,hz1] at hr
 unfold Oper.wp
 simp [execOp,hop,hl,hc,hr,Result.andThen]
 exact hK' _ _ (hK _ (by have h:=own_room w hb n m hnm (by unfold maxLen;omega);rwa [Nat.mul_one] at h) (World.grownBy_alloc w _ none))
theorem ending_any (n:Nat) (hn:n≤9223372036854776000) (w:World) :
  Calls Tryz.prog 130 #[.int .u64 (n:Int)] w fun e w'=>∃ v,e=.returned v∧w'.ownsRow w.heap.size 5 1 v (1+zs n+8) (cells8 (endP n 8))∧Below w.heap.size w w':=by
 have hz:=zs_eq n
 have hz64:zs n≤64:=by unfold zs padLen;omega
 have hni:(n:Int)≤9223372036854776000:=by omega
 obtain ⟨z,hzz⟩:∃ z,z=zs n:=⟨_,rfl⟩
 have HZ:Hid (z=zs n):=hzz
 have hn1:(128-((n:Int) % 64+9)) % 64=(z:Int):=by rw [hzz];unfold zs padLen;omega
 have hn2:(128-((n:Int) % 64+1+8)) % 64=(z:Int):=by rw [hzz];unfold zs padLen;omega
 have hm:n % 64<64:=by omega
 obtain ⟨q,hq⟩:∃ q,q=n % 64:=⟨_,rfl⟩
 have hqi:(n:Int) % 64=(q:Int):=by omega
 rw [hqi] at hn1 hn2
 have hqb:(q:Int)<64:=by omega
 have hzb:(z:Int)≤64:=by omega
 obtain ⟨M,hM⟩:∃ M,M=8*n % 18446744073709551616:=⟨_,rfl⟩
 have hM1:(n:Int)*8 % 18446744073709551616=(M:Int):=by omega
 have hM2:IntKind.u64.wrap ((n:Int)*8)=(M:Int):=by simpa [IntKind.wrap,IntKind.bits,IntKind.signed] using hM1
 have hMb:(M:Int)<18446744073709551616:=by omega
 have HM:=hide hM
 clear hz hz64 hm hq hM hzz
 go_enter Tryz.func130,Tryz.ntmps130
 go_upto_region 4 with (at_make;refine wpList_make_room _ rfl _ _ rfl (base:=w.heap.size) _ _ _ _ (1+z) (1+z+8) rfl rfl (by omega) (by omega) (by omega) (by omega) (Nat.le_refl _) ?_;intro w1 hO1 hg1)
 have hB1:Below w.heap.size w w1:=(Below.refl _ w).grown hg1 (Nat.le_refl _) (fun k hk=>by cases hk)
 have hc0:=hO1.cellAt 0 (by omega)
 have hz0:=hO1.frozenAt 0
 rw [cells8_at _ 0 (by simp;omega)] at hc0
 have hO2:=(hO1.stored 0 (.int .u8 128)).1
 have hB2:Below w.heap.size w (w1.setCell ⟨w.heap.size,0,none⟩ (.int .u8 128)):=K.set hB1 (Nat.le_refl _) _
 have e0:(cells8 (List.replicate (1+z) 0)).set 0 (.int .u8 128)=cells8 (endP n 0):=by
  rw [Nat.add_comm 1 z,List.replicate_succ]
  unfold endP
  rw [← HZ.out]
  simp only [lenB,List.append_nil]
  rfl
 rw [e0] at hO2
 have HO:=hide hO2
 have HB:=hide hB2
 clear hO1 hg1 hB1 hO2 hB2 e0
 have h1z:(0:Int)<1+(z:Int):=by omega
 go_upto_region 5 with fail
 generalize w1.setCell ⟨w.heap.size,0,none⟩ (.int .u8 128)=X at HO HB ⊢
 clear hc0 hz0
 go_wp2_with fail
 go_loopg [5,25] 8 (fun g v s25 wr=>∃ (i:Nat) (u:Value),u=v∧g=8-i∧i≤8∧s25=.int .i64 i∧wr.ownsRow w.heap.size 5 1 u (1+z+i) (cells8 (endP n i))∧Below w.heap.size w wr)
 case atStart=>exact ⟨0,_,rfl,rfl,by omega,rfl,HO.out,HB.out⟩
 case round =>
  clear HO HB
  obtain ⟨i,u,hu,rfl,hi,rfl,hO,hB⟩:=hrel
  subst hu
  by_cases hlt:i<8
  ·obtain ⟨bt,hbt⟩:∃ bt,bt=8*n / 256 ^ (7-i) % 256:=⟨_,rfl⟩
   have hb256:bt<256:=by rw [hbt];exact Nat.mod_lt _ (by omega)
   have HLB:Hid (endP n (i+1)=endP n i++[bt]):=by show _=_;rw [hbt];unfold endP;simp [lenB]
   have HBT:Hid (bt=M / 256 ^ (7-i) % 256):=by show _=_;rw [hbt,HM.out];rcases (show i=0∨i=1∨i=2∨i=3∨i=4∨i=5∨i=6∨i=7 by omega) with e | e | e | e | e | e | e | e <;> subst e <;> simp only [Nat.sub_zero,Nat.reduceSub,Nat.reducePow] <;> omega
   have HL:=hide hlt
   have HO:=hide hO
   have HB:=hide hB
   have hbi:(bt:Int)<256:=by omega
   clear hbt hi hO hB
   rcases (show i=0∨i=1∨i=2∨i=3∨i=4∨i=5∨i=6∨i=7 by omega) with e | e | e | e | e | e | e | e
   ·have hv:(M:Int) / 72057594037927936 % 256=(bt:Int):=by rw [HBT.out,e];omega
    have hv2:IntKind.u8.wrap ((M:Int) / 72057594037927936)=(bt:Int):=by rw [IntKind.wrap_u8',hv]
    have hei:(i:Int)=0:=by omega
    clear e hlt
    go_wp2_with (at_builtin;refine wpList_app rfl _ _ rfl rfl (HO.out.alloc _) rfl (one_made wr bt hb256) (by have:=HL.out;omega) (by have:=HB.out.size;simp;omega) ?_;intro v2 w2 hO2 hg2)
    have hB2:Below w.heap.size w w2:=(K.alloc HB.out _).grown hg2 (K.alloc HB.out _).size (fun k hk=>(HO.out.lt k hk).1)
    have hO3:w2.ownsRow w.heap.size 5 1 v2 (1+z+(i+1)) (cells8 (endP n (i+1))):=by
     rw [HLB.out]
     exact hO2
    clear hO2 hg2 HO HB
    go_wp2_with fail
    go_roundg (8-(i+1))
    case measure=>have:=HL.out;omega
    case rel=>exact ⟨i+1,_,rfl,rfl,by have:=HL.out;omega,by go_num,hO3,hB2⟩
   ·have hv:(M:Int) / 281474976710656 % 256=(bt:Int):=by rw [HBT.out,e];omega
    have hv2:IntKind.u8.wrap ((M:Int) / 281474976710656)=(bt:Int):=by rw [IntKind.wrap_u8',hv]
    have hei:(i:Int)=1:=by omega
    clear e hlt
    go_wp2_with (at_builtin;refine wpList_app rfl _ _ rfl rfl (HO.out.alloc _) rfl (one_made wr bt hb256) (by have:=HL.out;omega) (by have:=HB.out.size;simp;omega) ?_;intro v2 w2 hO2 hg2)
    have hB2:Below w.heap.size w w2:=(K.alloc HB.out _).grown hg2 (K.alloc HB.out _).size (fun k hk=>(HO.out.lt k hk).1)
    have hO3:w2.ownsRow w.heap.size 5 1 v2 (1+z+(i+1)) (cells8 (endP n (i+1))):=by
     rw [HLB.out]
     exact hO2
    clear hO2 hg2 HO HB
    go_wp2_with fail
    go_roundg (8-(i+1))
    case measure=>have:=HL.out;omega
    case rel=>exact ⟨i+1,_,rfl,rfl,by have:=HL.out;omega,by go_num,hO3,hB2⟩
   ·have hv:(M:Int) / 1099511627776 % 256=(bt:Int):=by rw [HBT.out,e];omega
    have hv2:IntKind.u8.wrap ((M:Int) / 1099511627776)=(bt:Int):=by rw [IntKind.wrap_u8',hv]
    have hei:(i:Int)=2:=by omega
    clear e hlt
    go_wp2_with (at_builtin;refine wpList_app rfl _ _ rfl rfl (HO.out.alloc _) rfl (one_made wr bt hb256) (by have:=HL.out;omega) (by have:=HB.out.size;simp;omega) ?_;intro v2 w2 hO2 hg2)
    have hB2:Below w.heap.size w w2:=(K.alloc HB.out _).grown hg2 (K.alloc HB.out _).size (fun k hk=>(HO.out.lt k hk).1)
    have hO3:w2.ownsRow w.heap.size 5 1 v2 (1+z+(i+1)) (cells8 (endP n (i+1))):=by
     rw [HLB.out]
     exact hO2
    clear hO2 hg2 HO HB
    go_wp2_with fail
    go_roundg (8-(i+1))
    case measure=>have:=HL.out;omega
    case rel=>exact ⟨i+1,_,rfl,rfl,by have:=HL.out;omega,by go_num,hO3,hB2⟩
   ·have hv:(M:Int) / 4294967296 % 256=(bt:Int):=by rw [HBT.out,e];omega
    have hv2:IntKind.u8.wrap ((M:Int) / 4294967296)=(bt:Int):=by rw [IntKind.wrap_u8',hv]
    have hei:(i:Int)=3:=by omega
    clear e hlt
    go_wp2_with (at_builtin;refine wpList_app rfl _ _ rfl rfl (HO.out.alloc _) rfl (one_made wr bt hb256) (by have:=HL.out;omega) (by have:=HB.out.size;simp;omega) ?_;intro v2 w2 hO2 hg2)
    have hB2:Below w.heap.size w w2:=(K.alloc HB.out _).grown hg2 (K.alloc HB.out _).size (fun k hk=>(HO.out.lt k hk).1)
    have hO3:w2.ownsRow w.heap.size 5 1 v2 (1+z+(i+1)) (cells8 (endP n (i+1))):=by
     rw [HLB.out]
     exact hO2
    clear hO2 hg2 HO HB
    go_wp2_with fail
    go_roundg (8-(i+1))
    case measure=>have:=HL.out;omega
    case rel=>exact ⟨i+1,_,rfl,rfl,by have:=HL.out;omega,by go_num,hO3,hB2⟩
   ·have hv:(M:Int) / 16777216 % 256=(bt:Int):=by rw [HBT.out,e];omega
    have hv2:IntKind.u8.wrap ((M:Int) / 16777216)=(bt:Int):=by rw [IntKind.wrap_u8',hv]
    have hei:(i:Int)=4:=by omega
    clear e hlt
    go_wp2_with (at_builtin;refine wpList_app rfl _ _ rfl rfl (HO.out.alloc _) rfl (one_made wr bt hb256) (by have:=HL.out;omega) (by have:=HB.out.size;simp;omega) ?_;intro v2 w2 hO2 hg2)
    have hB2:Below w.heap.size w w2:=(K.alloc HB.out _).grown hg2 (K.alloc HB.out _).size (fun k hk=>(HO.out.lt k hk).1)
    have hO3:w2.ownsRow w.heap.size 5 1 v2 (1+z+(i+1)) (cells8 (endP n (i+1))):=by
     rw [HLB.out]
     exact hO2
    clear hO2 hg2 HO HB
    go_wp2_with fail
    go_roundg (8-(i+1))
    case measure=>have:=HL.out;omega
    case rel=>exact ⟨i+1,_,rfl,rfl,by have:=HL.out;omega,by go_num,hO3,hB2⟩
   ·have hv:(M:Int) / 65536 % 256=(bt:Int):=by rw [HBT.out,e];omega
    have hv2:IntKind.u8.wrap ((M:Int) / 65536)=(bt:Int):=by rw [IntKind.wrap_u8',hv]
    have hei:(i:Int)=5:=by omega
    clear e hlt
    go_wp2_with (at_builtin;refine wpList_app rfl _ _ rfl rfl (HO.out.alloc _) rfl (one_made wr bt hb256) (by have:=HL.out;omega) (by have:=HB.out.size;simp;omega) ?_;intro v2 w2 hO2 hg2)
    have hB2:Below w.heap.size w w2:=(K.alloc HB.out _).grown hg2 (K.alloc HB.out _).size (fun k hk=>(HO.out.lt k hk).1)
    have hO3:w2.ownsRow w.heap.size 5 1 v2 (1+z+(i+1)) (cells8 (endP n (i+1))):=by
     rw [HLB.out]
     exact hO2
    clear hO2 hg2 HO HB
    go_wp2_with fail
    go_roundg (8-(i+1))
    case measure=>have:=HL.out;omega
    case rel=>exact ⟨i+1,_,rfl,rfl,by have:=HL.out;omega,by go_num,hO3,hB2⟩
   ·have hv:(M:Int) / 256 % 256=(bt:Int):=by rw [HBT.out,e];omega
    have hv2:IntKind.u8.wrap ((M:Int) / 256)=(bt:Int):=by rw [IntKind.wrap_u8',hv]
    have hei:(i:Int)=6:=by omega
    clear e hlt
    go_wp2_with (at_builtin;refine wpList_app rfl _ _ rfl rfl (HO.out.alloc _) rfl (one_made wr bt hb256) (by have:=HL.out;omega) (by have:=HB.out.size;simp;omega) ?_;intro v2 w2 hO2 hg2)
    have hB2:Below w.heap.size w w2:=(K.alloc HB.out _).grown hg2 (K.alloc HB.out _).size (fun k hk=>(HO.out.lt k hk).1)
    have hO3:w2.ownsRow w.heap.size 5 1 v2 (1+z+(i+1)) (cells8 (endP n (i+1))):=by
     rw [HLB.out]
     exact hO2
    clear hO2 hg2 HO HB
    go_wp2_with fail
    go_roundg (8-(i+1))
    case measure=>have:=HL.out;omega
    case rel=>exact ⟨i+1,_,rfl,rfl,by have:=HL.out;omega,by go_num,hO3,hB2⟩
   ·have hv:(M:Int) % 256=(bt:Int):=by rw [HBT.out,e];omega
    have hv2:IntKind.u8.wrap ((M:Int))=(bt:Int):=by rw [IntKind.wrap_u8',hv]
    have hei:(i:Int)=7:=by omega
    clear e hlt
    go_wp2_with (at_builtin;refine wpList_app rfl _ _ rfl rfl (HO.out.alloc _) rfl (one_made wr bt hb256) (by have:=HL.out;omega) (by have:=HB.out.size;simp;omega) ?_;intro v2 w2 hO2 hg2)
    have hB2:Below w.heap.size w w2:=(K.alloc HB.out _).grown hg2 (K.alloc HB.out _).size (fun k hk=>(HO.out.lt k hk).1)
    have hO3:w2.ownsRow w.heap.size 5 1 v2 (1+z+(i+1)) (cells8 (endP n (i+1))):=by
     rw [HLB.out]
     exact hO2
    clear hO2 hg2 HO HB
    go_wp2_with fail
    go_roundg (8-(i+1))
    case measure=>have:=HL.out;omega
    case rel=>exact ⟨i+1,_,rfl,rfl,by have:=HL.out;omega,by go_num,hO3,hB2⟩
  ·obtain rfl:i=8:=by omega
   have hO3:wr.ownsRow w.heap.size 5 1 u (1+zs n+8) (cells8 (endP n 8)):=by rw [← HZ.out];exact hO
   clear hO hlt hi
   go_wp2_with fail
   go_ret
   exact ⟨_,rfl,hO3,hB⟩
end Go.Proofs.YtmigakanbeckpaaGreatDoor.Sh
namespace Go.Proofs.YtmigakanbeckpaaGreatDoor.Sh
set_option maxRecDepth 100000
open Go.RowKit
theorem grown_of {w w':World} (h:Below w.heap.size w w') (r:Option Nat):w.grownBy w' r:=⟨h.os,h.tape,h.output,h.size,fun k hk _=>h.block k hk⟩
theorem grown_trans {w w1 w2:World} {r:Option Nat} (h:w.grownBy w1 r) (k:w1.grownBy w2 r):w.grownBy w2 r :=
 ⟨k.os.trans h.os,k.tape.trans h.tape,k.output.trans h.output,Nat.le_trans h.size k.size,fun i hi hn=>(k.block i (Nat.lt_of_lt_of_le hi h.size) hn).trans (h.block i hi hn)⟩
theorem grown_set (w:World) (b o:Nat) (u:Value):w.grownBy (w.setCell ⟨b,o,none⟩ u) (some b) :=
 ⟨rfl,rfl,rfl,by simp [World.setCell],fun k _ hn=>Below.heap_setCell _ _ _ _ (fun e=>hn (by rw [e]))⟩
theorem grown_sets (b:Nat):∀ (vs:List Value) (o:Nat) (w:World),w.grownBy (w.setCells b o vs) (some b)
 | [],_,w=>World.grownBy.refl _ _
 | v :: r,o,w=>by rw [World.setCells];exact grown_trans (grown_set w b o v) (grown_sets b r (o+1) _)
end Go.Proofs.YtmigakanbeckpaaGreatDoor.Sh
namespace Go.Proofs.YtmigakanbeckpaaGreatDoor.Sh
set_option maxRecDepth 100000
open Go.RowKit
theorem lt_of_cell {w:World} {p:Addr} {v:Value} (h:w.cell? p=some v):p.block<w.heap.size:=World.block_lt_of_cell? w p h
theorem Tab.kept {W w1:World} {r:Nat} (h:Tab W) (hg:W.grownBy w1 (some r)) (hr:5≤r):Tab w1 :=
 ⟨fun i hi=>hg.cell (h.f i hi) (by simp;omega),fun i hi=>hg.cell (h.k i hi) (by simp;omega)⟩
theorem Rd.kept {W w1:World} {b o n r:Nat} {f:Nat→Int} (h:Rd W b o n f) (hg:W.grownBy w1 (some r)) (hr:b≠r):Rd w1 b o n f :=
 ⟨fun i hi=>hg.cell (h.c i hi) (by simpa using hr)⟩
theorem BA.kept {W w1:World} {a:Option Addr} {n r:Nat} {f:Nat→Nat} (h:BA W a n f) (hg:W.grownBy w1 (some r)) (hr:∀ p,a=some p→p.block≠r):BA w1 a n f :=
 ⟨h.lt,h.at_.elim Or.inl fun ⟨b,o,e,hd⟩=>Or.inr ⟨b,o,e,hd.kept hg (hr _ e)⟩⟩
structure DigR (w:World) (b:Nat) (s:St) (r:Nat→Nat) (n:Nat):Prop where
 lt:b<w.heap.size
 st:∀ i,i<8→w.cell? ⟨b,i,none⟩=some (.int .u32 (wn (s.w i)))
 rs:∀ i,i<64→w.cell? ⟨b,8+i,none⟩=some (.int .u8 ((r i:Nat):Int))
 sz:w.cell? ⟨b,72,none⟩=some (.int .u64 (n:Int))
 z:∀ i,i<73→w.frozen? ⟨b,i,none⟩=false
theorem DigR.keep {W w1:World} {b n:Nat} {s:St} {r:Nat→Nat} (h:DigR W b s r n) (hb:Below W.heap.size W w1):DigR w1 b s r n :=
 ⟨Nat.lt_of_lt_of_le h.lt hb.size,fun i hi=>later hb (h.st i hi),fun i hi=>later hb (h.rs i hi),later hb h.sz,fun i hi=>(hb.frozen (p:=⟨b,i,none⟩) h.lt).trans (h.z i hi)⟩
theorem DigR.there {w:World} {b n:Nat} {s:St} {r:Nat→Nat} (h:DigR w b s r n) (o m:Nat) (hm:o+m≤73):w.there b o m:=fun j hj=>by
 refine ⟨?_,h.z (o+j) (by omega)⟩
 rcases (show o+j<8∨(8≤o+j∧o+j<72)∨o+j=72 by omega) with e | e | e
 ·rw [h.st _ e];rfl
 ·have:=h.rs (o+j-8) (by omega)
  rw [show 8+(o+j-8)=o+j by omega] at this
  rw [this];rfl
 ·rw [e,h.sz];rfl
theorem DigR.rangeSt {w:World} {b n:Nat} {s:St} {r:Nat→Nat} (h:DigR w b s r n):w.rangeAt b 0 (aw s.w 8):=fun j v hv=>by
 have hj:j<8:=by
  rcases Nat.lt_or_ge j 8 with h' | h'
  ·exact h'
  ·rw [List.getElem?_eq_none (by rw [aw_len];exact h')] at hv;cases hv
 rw [aw_at _ hj] at hv
 rw [Nat.zero_add,h.st j hj];exact hv
theorem DigR.rangeRs {w:World} {b n:Nat} {s:St} {r:Nat→Nat} (h:DigR w b s r n):w.rangeAt b 8 (ab r 64):=fun j v hv=>by
 have hj:j<64:=by
  rcases Nat.lt_or_ge j 64 with h' | h'
  ·exact h'
  ·rw [List.getElem?_eq_none (by rw [ab_len];exact h')] at hv;cases hv
 rw [ab_at _ hj] at hv
 rw [h.rs j hj];exact hv
def dg (s:St) (r:Nat→Nat) (n:Nat):List Value:=aw s.w 8++(ab r 64++[.int .u64 (n:Int)])
theorem dg_len (s:St) (r:Nat→Nat) (n:Nat):(dg s r n).length=73:=by simp [dg,aw_len,ab_len]
theorem dg_one (s:St) (r:Nat→Nat) (n:Nat):∀ v ∈ dg s r n,v.oneCell'=true:=by
 intro v hv
 simp only [dg,List.mem_append,List.mem_singleton] at hv
 rcases hv with h | h | rfl
 ·exact aw_one _ _ v h
 ·exact ab_one _ _ v h
 ·rfl
theorem dg_st (s:St) (r:Nat→Nat) (n:Nat) {i:Nat} (h:i<8):(dg s r n)[i]?=some (.int .u32 (wn (s.w i))):=by
 rw [dg,List.getElem?_append_left (by rw [aw_len];exact h),aw_at _ h]
theorem dg_rs (s:St) (r:Nat→Nat) (n:Nat) {i:Nat} (h:i<64):(dg s r n)[8+i]?=some (.int .u8 ((r i:Nat):Int)):=by
 rw [dg,List.getElem?_append_right (by rw [aw_len];omega),aw_len,List.getElem?_append_left (by rw [ab_len];omega),show 8+i-8=i by omega,ab_at _ h]
theorem dg_sz (s:St) (r:Nat→Nat) (n:Nat):(dg s r n)[72]?=some (.int .u64 (n:Int)):=by
 rw [dg,List.getElem?_append_right (by rw [aw_len];omega),aw_len,List.getElem?_append_right (by rw [ab_len];omega),ab_len];rfl
theorem DigR.range {w:World} {b n:Nat} {s:St} {r:Nat→Nat} (h:DigR w b s r n):w.rangeAt b 0 (dg s r n):=fun j v hv=>by
 rw [Nat.zero_add]
 rcases (show j<8∨(8≤j∧j<72)∨j=72∨73≤j by omega) with e | e | e | e
 ·rw [dg_st s r n e] at hv;rw [h.st j e];exact hv
 ·obtain ⟨k,rfl⟩:∃ k,j=8+k:=⟨j-8,by omega⟩
  rw [dg_rs s r n (by omega)] at hv;rw [h.rs k (by omega)];exact hv
 ·subst e;rw [dg_sz] at hv;rw [h.sz];exact hv
 ·rw [List.getElem?_eq_none (by rw [dg_len];exact e)] at hv;cases hv
theorem DigR.of_range {w:World} {b n:Nat} {s:St} {r:Nat→Nat} (hl:b<w.heap.size) (h:w.rangeAt b 0 (dg s r n)) (hz:∀ i,i<73→w.frozen? ⟨b,i,none⟩=false):DigR w b s r n :=
 ⟨hl,fun i hi=>by have:=h i _ (dg_st s r n hi);rwa [Nat.zero_add] at this,fun i hi=>by have:=h _ _ (dg_rs s r n hi);rwa [Nat.zero_add] at this,by have:=h _ _ (dg_sz s r n);rwa [Nat.zero_add] at this,hz⟩
theorem DigR.stored {w:World} {b n:Nat} {s:St} {r:Nat→Nat} (h:DigR w b s r n) (s':St) (r':Nat→Nat) (n':Nat):DigR (w.setCells b 0 (dg s' r' n')) b s' r' n' :=
 DigR.of_range (by rw [size_setCells];exact h.lt) (World.rangeAt_setCells_same w b 0 _ (by rw [dg_len];exact h.there 0 73 (by omega))) (fun i hi=>by rw [World.frozen?_setCells];exact h.z i hi)
theorem DigR.made (w:World) (t:TypeId) (s:St) (r:Nat→Nat) (n:Nat) (cs:Array Value) (h:cs=(dg s r n).toArray):DigR (w.alloc (.cells cs t)) w.heap.size s r n:=by
 subst h
 refine DigR.of_range (by simp) (fun j v hv=>?_) (fun i _=>frozen_of_row _ _ _ _ _ (heap_alloc_new w _))
 rw [cell_of_row _ _ _ _ _ _ (heap_alloc_new w _),Nat.zero_add]
 simpa using hv
theorem DigR.state {w:World} {b n:Nat} {s:St} {r:Nat→Nat} (h:DigR w b s r n) (s':St):DigR (w.setCells b 0 (aw s'.w 8)) b s' r n:=by
 have hr:=World.rangeAt_setCells_same w b 0 (aw s'.w 8) (by rw [aw_len];exact h.there 0 8 (by omega))
 refine ⟨by rw [size_setCells];exact h.lt,fun i hi=>?_,fun i hi=>?_,?_,fun i hi=>by rw [World.frozen?_setCells];exact h.z i hi⟩
 ·have:=hr i _ (aw_at _ hi);rwa [Nat.zero_add] at this
 ·rw [World.cell?_setCells_out b _ 0 w _ (fun _ _=>Or.inr (by rw [aw_len];simp only;omega))];exact h.rs i hi
 ·rw [World.cell?_setCells_out b _ 0 w _ (fun _ _=>Or.inr (by rw [aw_len];simp only;omega))];exact h.sz
theorem DigR.size {w:World} {b n:Nat} {s:St} {r:Nat→Nat} (h:DigR w b s r n) (m:Nat):DigR (w.setCell ⟨b,72,none⟩ (.int .u64 (m:Int))) b s r m:=by
 refine ⟨by simpa using h.lt,fun i hi=>?_,fun i hi=>?_,World.cell?_setCell_same _ _ _ h.sz,fun i hi=>by rw [World.frozen?_setCell];exact h.z i hi⟩
 ·rw [World.cell?_setCell_other _ _ _ _ (by simp only [ne_eq,Addr.mk.injEq,not_and];omega)];exact h.st i hi
 ·rw [World.cell?_setCell_other _ _ _ _ (by simp only [ne_eq,Addr.mk.injEq,not_and];omega)];exact h.rs i hi
def put (r:Nat→Nat) (q k:Nat) (g:Nat→Nat) (i:Nat):Nat:=if q≤i∧i<q+k then g (i-q) else r i
theorem DigR.rest {w:World} {b n:Nat} {s:St} {r:Nat→Nat} (h:DigR w b s r n) (q k:Nat) (hk:q+k≤64) (g:Nat→Nat):DigR (w.setCells b (8+q) (ab g k)) b s (put r q k g) n:=by
 have hr:=World.rangeAt_setCells_same w b (8+q) (ab g k) (by rw [ab_len];exact h.there (8+q) k (by omega))
 refine ⟨by rw [size_setCells];exact h.lt,fun i hi=>?_,fun i hi=>?_,?_,fun i hi=>by rw [World.frozen?_setCells];exact h.z i hi⟩
 ·rw [World.cell?_setCells_out b _ (8+q) w _ (fun _ _=>Or.inl (by simp only;omega))];exact h.st i hi
 ·unfold put
  by_cases e:q≤i∧i<q+k
  ·rw [if_pos e]
   have:=hr (i-q) _ (ab_at g (by omega))
   rwa [show 8+q+(i-q)=8+i by omega] at this
  ·rw [if_neg e,World.cell?_setCells_out b _ (8+q) w _ (fun _ _=>by rw [ab_len];simp only;omega)];exact h.rs i hi
 ·rw [World.cell?_setCells_out b _ (8+q) w _ (fun _ _=>by rw [ab_len];simp only;omega)];exact h.sz
structure DigS (w:World) (b:Nat) (f:Nat→Nat) (n:Nat) (s:St) (r:Nat→Nat):Prop where
 d:DigR w b s r n
 st:s=hs f (n / 64)
 b:∀ i,r i<256
 rs:∀ i,i<n % 64→r i=f (n / 64*64+i)
def Dig (w:World) (b:Nat) (f:Nat→Nat) (n:Nat):Prop:=∃ s r,DigR w b s r n∧(n=0∨s=hs f (n / 64))∧(∀ i,r i<256)∧(∀ i,i<n % 64→r i=f (n / 64*64+i))
theorem Dig.keep {W w1:World} {b n:Nat} {f:Nat→Nat} (h:Dig W b f n) (hb:Below W.heap.size W w1):Dig w1 b f n:=by
 obtain ⟨s,r,h1,h2⟩:=h
 exact ⟨s,r,h1.keep hb,h2⟩
theorem Dig.congr {w:World} {b n:Nat} {f g:Nat→Nat} (h:Dig w b f n) (e:∀ i,i<n→f i=g i):Dig w b g n:=by
 obtain ⟨s,r,h1,h2,h3,h4⟩:=h
 exact ⟨s,r,h1,h2.imp id (fun h=>by rw [h];exact hs_congr _ (fun i hi=>e i (by omega))),h3,fun i hi=>by rw [h4 i hi,e _ (by omega)]⟩
theorem put_part {f g r:Nat→Nat} {n m:Nat} (h:n % 64+m<64) (hr:∀ i,i<n % 64→r i=f (n / 64*64+i)) :
  (n+m) / 64=n / 64∧hs (cat f n g) ((n+m) / 64)=hs f (n / 64)∧∀ i,i<(n+m) % 64→put r (n % 64) m g i=cat f n g ((n+m) / 64*64+i):=by
 have e:(n+m) / 64=n / 64:=by omega
 refine ⟨e,?_,fun i hi=>?_⟩
 ·rw [e];exact hs_congr _ (fun i hi=>by unfold cat;rw [if_pos (by omega)])
 ·rw [e]
  unfold put cat
  by_cases h1:n % 64≤i
  ·rw [if_pos (by omega),if_neg (by omega)]
   congr 1
   omega
  ·rw [if_neg (by omega),if_pos (by omega)]
   exact hr i (by omega)
theorem put_full {f g r:Nat→Nat} {n m:Nat} (h:n % 64+m=64) (hr:∀ i,i<n % 64→r i=f (n / 64*64+i)) :
  (n+m) % 64=0∧takeB (hs f (n / 64)) (put r (n % 64) m g)=hs (cat f n g) ((n+m) / 64):=by
 have e:(n+m) / 64=n / 64+1:=by omega
 refine ⟨by omega,?_⟩
 rw [e]
 simp only [hs]
 rw [hs_congr (p:=cat f n g) (q:=f) (n / 64) (fun i hi=>by unfold cat;rw [if_pos (by omega)])]
 refine takeB_congr _ (fun i hi=>?_)
 unfold put cat
 by_cases h1:n % 64≤i
 ·rw [if_pos (by omega),if_neg (by omega)]
  congr 1
  omega
 ·rw [if_neg (by omega),if_pos (by omega),hr i (by omega)]
  congr 1
  omega
theorem put_lt {r g:Nat→Nat} (hr:∀ i,r i<256) (hg:∀ i,g i<256) (q k i:Nat):put r q k g i<256:=by
 unfold put
 split
 ·exact hg _
 ·exact hr _
theorem digs_part {W Y:World} {b n j L q N:Nat} {f g r:Nat→Nat} {s:St} (hD:DigS W b (cat f n g) N s r) (hN:N=n+j) (hq:q=N % 64) (hfit:q+L<64) (hg:∀ i,g i<256) (hY:DigR Y b s (put r q L (fun i=>g (j+i))) (N+L)) :
  DigS Y b (cat f n g) (n+(j+L)) s (put r q L (fun i=>g (j+i))):=by
 subst hN hq
 obtain ⟨_,p2,p3⟩:=put_part (f:=cat f n g) (g:=fun i=>g (j+i)) (n:=n+j) (m:=L) hfit hD.rs
 rw [cat_cat] at p2 p3
 rw [show n+(j+L)=n+j+L by omega]
 exact ⟨hY,by rw [p2];exact hD.st,put_lt hD.b (fun i=>hg _) _ _,p3⟩
theorem digs_full {W Y:World} {b n j L q N:Nat} {f g r:Nat→Nat} {s s2:St} (hD:DigS W b (cat f n g) N s r) (hN:N=n+j) (hq:q=N % 64) (hfit:q+L=64) (hg:∀ i,g i<256) (h2:s2=takeB s (put r q L (fun i=>g (j+i)))) (hY:DigR Y b s2 (put r q L (fun i=>g (j+i))) (N+L)) :
  DigS Y b (cat f n g) (n+(j+L)) s2 (put r q L (fun i=>g (j+i))):=by
 subst hN hq
 obtain ⟨p1,p2⟩:=put_full (f:=cat f n g) (g:=fun i=>g (j+i)) (n:=n+j) (m:=L) hfit hD.rs
 rw [cat_cat] at p2
 rw [show n+(j+L)=n+j+L by omega]
 exact ⟨hY,by rw [h2,← p2,hD.st],put_lt hD.b (fun i=>hg _) _ _,fun i hi=>by omega⟩
end Go.Proofs.YtmigakanbeckpaaGreatDoor.Sh
namespace Go.Proofs.YtmigakanbeckpaaGreatDoor.Sh
set_option maxRecDepth 100000
open Go.RowKit
attribute [local go_sem ↓] Go.wp_at_zero Go.wp_at_succ
theorem step_copy {W:World} {ops:Array Oper} {op:Oper} {a:Act} {K:Act→World→Prop} {Q:Exit→Act→World→Prop} {E:Prop} (hgd:op.guard=none) (d s:Operand)
  (ho:op.op=.call { callee:=.builtin .copy,args:=#[d,s],argTypes:=#[25,25] })
  {b o dLen dCap sLen sCap x y:Nat} (hd:a.eval d=.slice (some ⟨b,o,none⟩) dLen dCap) (hs:a.eval s=.slice (some ⟨x,y,none⟩) sLen sCap) (k:Nat) (hk:k=Nat.min sLen dLen) (g:Nat→Nat)
  (hsrc:Rd W x y k (fun i=>((g i:Nat):Int))) (ht:W.there b o k) (h:K (a.put op.dst (goInt k)) (W.setCells b o (ab g k))) :
  if Region.wanted op (yielded ops a.tmps)=true then Oper.wp Tryz.prog op a W K Q else E:=by
 have hw:Region.wanted op (yielded ops a.tmps)=true:=by simp [Region.wanted,hgd]
 rw [if_pos hw]
 have hr:=run_copy_cells (P:=Tryz.prog) W 25 25 op.type 5 b o dLen dCap ⟨x,y,none⟩ sLen sCap (ab g k) Tryz.underlying25 (by kernel_rfl) (by rw [ab_len];exact hk) (fun j v hv=>by
  have hj:j<k:=by
   rcases Nat.lt_or_ge j k with h' | h'
   ·exact h'
   ·rw [List.getElem?_eq_none (by rw [ab_len];exact h')] at hv;cases hv
  rw [ab_at g hj] at hv
  rw [Addr.add_mid,hsrc.c j hj];exact hv) (fun j hj=>(ht j (by rw [ab_len] at hj;exact hj)).1) (fun j hj=>(ht j (by rw [ab_len] at hj;exact hj)).2) (ab_one _ _)
 rw [ab_len] at hr
 unfold Oper.wp execOp
 simp only [ho,resolve,invoke,builtin,Sem.run_bind,Sem.run_pure,Result.andThen_ok,List.map_toArray,List.map_cons,List.map_nil,hd,hs,hr]
 exact h
theorem run_slice_rest {b q:Nat} (hq:q<64) (W:World):(Instr.sliceAt 113 (.pointer (some ⟨b,8,none⟩)) (some (.int .u64 (q:Int))) none none).run Tryz.prog W=.ok (.slice (some ⟨b,8+q,none⟩) (64-q) (64-q)) W:=by
 have ha:Tryz.prog.arrayLen 113=64:=by kernel_rfl
 have hu:Tryz.prog.underlying 113=some (.array (Tryz.prog.arrayLen 113) (Tryz.prog.elem 113)):=by kernel_rfl
 rw [run_sliceAt_array_l W 113 ⟨b,8,none⟩ hu .u64 (q:Int) (by omega) (by rw [ha];omega)]
 have he:Tryz.prog.elem 113=5:=by kernel_rfl
 have h1:(sizeOf 5).run Tryz.prog W=.ok 1 W:=by
  obtain ⟨i,hi⟩:=Option.isSome_iff_exists.1 (show (Tryz.prog.info? 5).isSome=true by kernel_rfl)
  have:(Tryz.prog.info? 5).map (·.size)=some 1:=by kernel_rfl
  rw [hi] at this
  simp [sizeOf,typeInfo,hi]
  simpa using this
 rw [he,h1,ha]
 simp only [Result.andThen_ok,slicedAt,Int.toNat_natCast,if_neg (show ¬ 64=q by omega),Nat.mul_one,Addr.add_mid]
theorem run_cut {bb o L c k:Nat} (hk:k≤L) (W:World):(Instr.sliceAt 25 (.slice (some ⟨bb,o,none⟩) L c) (some (.int .i64 (k:Int))) none none).run Tryz.prog W=.ok (.slice (some (if c=k then ⟨bb,o,none⟩ else ⟨bb,o+k,none⟩)) (L-k) (c-k)) W:=by
 have hu:Tryz.prog.underlying 25=some (.slice (Tryz.prog.elem 25)):=by kernel_rfl
 have he:Tryz.prog.elem 25=5:=by kernel_rfl
 have h1:(sizeOf 5).run Tryz.prog W=.ok 1 W:=by
  obtain ⟨i,hi⟩:=Option.isSome_iff_exists.1 (show (Tryz.prog.info? 5).isSome=true by kernel_rfl)
  have:(Tryz.prog.info? 5).map (·.size)=some 1:=by kernel_rfl
  rw [hi] at this
  simp [sizeOf,typeInfo,hi]
  simpa using this
 rw [run_sliceAt_slice W 25 _ _ _ _ hu,run_slice_l W 25 _ L c hu .i64 (k:Int) (by omega) (by omega),he,h1]
 simp only [Result.andThen_ok,sliced,Int.toNat_natCast,Nat.mul_one,Option.map_some,Addr.add_mid]
 congr 2
 split <;> rfl
theorem wpList_cut {P:Program} {w:World} {ops:Array Oper} {rest:List Oper} {op:Oper} {a:Act} {Q:Exit→Act→World→Prop} (hgd:op.guard=none) (t:TypeId) (x l:Operand) (ho:op.op=.slice t x (some l) none none)
  (X Y v:Value) (hx:a.eval x=X) (hy:a.eval l=Y) (hr:(Instr.sliceAt t X (some Y) none none).run P w=.ok v w) (h:wpList P ops Q rest (a.put op.dst v) w):wpList P ops Q (op :: rest) a w:=by
 refine wpList_plain hgd fun K hK=>?_
 unfold Oper.wp execOp
 simp only [ho,Option.map,hx,hy,Sem.run_bind,Sem.run_pure,Result.andThen_ok,hr]
 exact hK _ _ h
theorem write_anyL {b n m c:Nat} {x:Option Addr} {f g:Nat→Nat} {w:World} (hT:Tab w) (h2:5≤b) (hG:BA w x m g) (hx:0<m→∀ p,x=some p→p.block≠b) (hmc:m≤c) (hc:c≤maxLen) (hD:Dig w b f n) (hnm:n+m≤9223372036854776000) :
  Calls Tryz.prog 104 #[.pointer (some ⟨b,0,none⟩),.slice x m c] w fun e w'=>(∃ v,e=.returned v)∧Dig w' b (cat f n g) (n+m)∧w.grownBy w' (some b):=by
 have HT:=hide hT
 have HG:=hide hG
 have HX:=hide hx
 have HC:=hide hc
 obtain ⟨s,r,hR,hs,hrb,hrr⟩:=hD
 have sz:=hR.sz
 have HR:=hide hR
 have HS:=hide hs
 have HRR:=hide (And.intro hrb hrr)
 have HN:=hide hnm
 clear hT hG hx hc hR hs hrb hrr hnm
 go_enter Tryz.func104,Tryz.ntmps104
 go_upto_if 11 with fail
 go_cut [11] (fun _ wc=>(∃ s r,DigS wc b f n s r)∧w.grownBy wc (some b))
 case first =>
  by_cases h0:n=0
  ·have h0i:(n:Int)=0:=by omega
   have HRg:Hid (w.rangeAt 2 0 (aw start.w 8)):=fun j v hv=>by
    have hj:j<8:=by
     rcases Nat.lt_or_ge j 8 with h' | h'
     ·exact h'
     ·rw [List.getElem?_eq_none (by rw [aw_len];exact h')] at hv;cases hv
    rw [aw_at _ hj] at hv
    rw [Nat.zero_add,HT.out.f j hj];exact hv
   have HTH:Hid (w.there b 0 (aw start.w 8).toArray.size):=by
    have h:=HR.out.there 0 8 (by omega)
    rw [size8]
    exact h
   have HD:=hide (HR.out.state start)
   have HGs:=hide (grown_sets b (aw start.w 8) 0 w)
   go_wp2_with (first
    | (refine wpList_load_mid rfl 111 _ rfl _ 0 rfl (aw start.w 8) _ HRg.out Tryz.underlying111 rfl (ilSt _) ?_;simp only [Act.put,List.setIfInBounds_toArray,List.set_cons_zero,List.set_cons_succ])
    | (refine wpList_store_mid rfl 111 _ _ rfl b 0 (aw start.w 8).toArray rfl rfl HTH.out (inSt _) (all8 _) ?_;generalize w.setCells b 0 (aw start.w 8).toArray.toList=X at HD HGs ⊢))
   go_meet
   case rel=>exact ⟨⟨start,r,HD.out,by rw [h0];rfl,HRR.out.1,HRR.out.2⟩,HGs.out⟩
  ·have h0b:((n:Int) == 0)=false:=beq_eq_false_iff_ne.2 (by omega)
   go_wp2_with fail
   go_meet
   case rel=>exact ⟨⟨s,r,HR.out,HS.out.resolve_left h0,HRR.out.1,HRR.out.2⟩,World.grownBy.refl _ _⟩
 case rest =>
  obtain ⟨⟨s1,r1,hD⟩,hg⟩:=hcut
  have HD:=hide hD
  have HW:=hide hg
  clear hD hg sz HR HS HRR
  go_wp2_with fail
  go_loopg [1] m (fun g' s1 wr=>∃ (j:Nat) (x':Option Addr) (c':Nat),g'=m-j∧j≤m∧s1=.slice x' (m-j) c'∧m-j≤c'∧c'≤maxLen∧(j<m→∃ bb o,x'=some ⟨bb,o,none⟩∧bb≠b∧Rd wr bb o (m-j) (fun i=>((g (j+i):Nat):Int)))∧(∃ s r,DigS wr b (cat f n g) (n+j) s r)∧w.grownBy wr (some b))
  case atStart =>
   refine ⟨0,x,c,by omega,by omega,rfl,by omega,HC.out,fun hm=>?_,⟨s1,r1,HD.out.d,?_,HD.out.b,fun i hi=>?_⟩,HW.out⟩
   ·rcases HG.out.at_ with h0 | ⟨bb,o,e,hr⟩
    ·omega
    ·refine ⟨bb,o,e,HX.out hm _ e,?_⟩
     have:=hr.kept HW.out (HX.out hm _ e)
     simpa using this
   ·rw [HD.out.st];exact hs_congr _ (fun i hi=>by unfold cat;rw [if_pos (by omega)])
   ·rw [HD.out.rs i hi];unfold cat;rw [if_pos (by omega)];rfl
  case round =>
   clear HD HW
   obtain ⟨j,x',c',rfl,hj,rfl,hc1,hc2,hsrc,⟨s1,r1,hD⟩,hg⟩:=hrel
   by_cases hlt:j<m
   ·obtain ⟨bb,o,rfl,hbb,hr⟩:=hsrc hlt
    obtain ⟨L,hL⟩:∃ L,L=m-j:=⟨_,rfl⟩
    obtain ⟨N,hN⟩:∃ N,N=n+j:=⟨_,rfl⟩
    obtain ⟨q,hq⟩:∃ q,q=N % 64:=⟨_,rfl⟩
    clear hsrc
    have hnm:=HN.out
    have HE:Hid (m=j+L∧N=n+j∧q=N % 64∧0<L∧L≤9223372036854775807∧N≤9223372036854776000∧N+L≤9223372036854776000):=⟨by omega,hN,hq,by omega,by unfold maxLen at hc2;omega,by omega,by omega⟩
    clear hnm
    have hLn:0<L:=by omega
    rw [← hL] at hr hc1 ⊢
    rw [← hN] at hD
    have sz:=hD.d.sz
    have qi:(N:Int) % 64=(q:Int):=by omega
    have qt:(N:Int).tmod 64=(q:Int):=by rw [Int.tmod_eq_emod_of_nonneg (by omega)];omega
    have qb:(q:Int)<64:=by omega
    have qn:q<64:=by omega
    have hsl:=fun W=>run_slice_rest (b:=b) qn W
    have hL0:(0:Int)<(L:Int):=by omega
    have HD:=hide hD
    have HR:=hide hr
    have HGR:=hide hg
    have hbN:(N:Int)≤9223372036854776000:=by have:=HE.out;omega
    have hbL:(L:Int)≤9223372036854775807:=by have:=HE.out;omega
    have hlc:(L:Int)≤(c':Int):=by omega
    clear hD hr hg hL hN hq hj hlt hc1
    by_cases hfit:q+L<64
    ·have HF:=hide hfit
     clear hfit
     go_upto_region 4 with fail
     go_region_held3 (fun w'=>w'.cell? ⟨b,72,none⟩=some (.int .u64 (N:Int)))
      (first | (with_reducible assumption) | exact sz | exact h72)
      (first
      | (refine step_copy rfl _ _ rfl rfl rfl L (by have:=HF.out;show L=min L (64-q);omega) (fun i=>g (j+i)) (HR.out.keep (K.drew (Below.refl _ _))) ((World.there_drew _ _ _ _).2 (HD.out.d.there (8+q) L (by have:=HF.out;omega))) ?_;have h72:=((HD.out.d.keep (K.drew (Below.refl _ _))).rest q L (by have:=HF.out;omega) (fun i=>g (j+i))).sz))
     go_upto_region 5 with fail
     refine wp_world (fun X hX=>?_)
     have hDX:DigR X b s1 (put r1 q L (fun i=>g (j+i))) N:=by rw [hX];exact (HD.out.d.keep (K.drew (Below.refl _ _))).rest q L (by have:=HF.out;omega) _
     have HGX:Hid (wr.grownBy X (some b)):=by rw [hX];exact grown_trans (grown_of (K.drew (Below.refl _ _)) _) (grown_sets _ _ _ _)
     clear hX h72 sz hsl
     obtain ⟨M,hM⟩:∃ M,M=N+L:=⟨_,rfl⟩
     have HM:=hide hM
     have c72:=hDX.sz
     have z72:=hDX.z 72 (by omega)
     have m1:(N:Int)+(L:Int)=(M:Int):=by omega
     have m2:(M:Int)≤9223372036854776000:=by have:=HE.out;omega
     have HDX:=hide hDX
     clear hM hDX
     go_upto_region 6 with fail
     refine wp_world (fun Y hY=>?_)
     have hDY:DigR Y b s1 (put r1 q L (fun i=>g (j+i))) M:=by rw [hY];exact HDX.out.size M
     have HGY:Hid (wr.grownBy Y (some b)):=by rw [hY];exact grown_trans HGX.out (grown_set _ _ _ _)
     have c72:=hDY.sz
     have HDY:=hide hDY
     obtain ⟨u,hu⟩:∃ u,u=q+L:=⟨_,rfl⟩
     have hFF:=HF.out
     have hEE:=HE.out
     have hMM:=HM.out
     have n1:(M:Int) % 64=(u:Int):=by omega
     have n2:(M:Int).tmod 64=(u:Int):=by rw [Int.tmod_eq_emod_of_nonneg (by omega)];omega
     have n3:((u:Int) == 0)=false:=beq_eq_false_iff_ne.2 (by omega)
     have n4:¬ u=0:=by omega
     clear hY hDY HDX HGX z72 hu hFF hEE hMM
     have HCT:=hide (fun W=>run_cut (bb:=bb) (o:=o) (L:=L) (c:=c') (k:=L) (by omega) W)
     obtain ⟨y,hy⟩:∃ y,y=some (if c'=L then (⟨bb,o,none⟩:Addr) else ⟨bb,o+L,none⟩):=⟨_,rfl⟩
     rw [← hy] at HCT
     clear hy
     go_wp2_with (refine wpList_cut rfl 25 _ _ rfl _ _ _ rfl rfl (HCT.out _) ?_)
     go_roundg (m-(j+L))
     case measure=>have:=HE.out;omega
     case rel =>
      have hEE:=HE.out
      have hFF:=HF.out
      have hMM:=HM.out
      refine ⟨j+L,y,c'-L,rfl,by omega,by rw [show m-(j+L)=0 by omega],by omega,by omega,fun h=>by omega,⟨s1,_,digs_part HD.out hEE.2.1 hEE.2.2.1 hFF HG.out.lt (by rw [← hMM];exact HDY.out)⟩,grown_trans HGR.out HGY.out⟩
    ·obtain ⟨k,hk⟩:∃ k,k=64-q:=⟨_,rfl⟩
     have HF:Hid (q+k=64∧k≤L∧0<k):=⟨by omega,by omega,by omega⟩
     have hke:64-q=k:=hk.symm
     have hki:(k:Int)≤64:=by omega
     have hkp:0<k:=by omega
     have hkl:(k:Int)≤(L:Int):=by omega
     clear hfit hk
     go_upto_region 4 with fail
     go_region_held3 (fun w'=>w'.cell? ⟨b,72,none⟩=some (.int .u64 (N:Int)))
      (first | (with_reducible assumption) | exact sz | exact h72)
      (first
      | (refine step_copy rfl _ _ rfl rfl rfl k (by have:=HF.out;show k=min L _;omega) (fun i=>g (j+i)) ((HR.out.first k HF.out.2.1).keep (K.drew (Below.refl _ _))) ((World.there_drew _ _ _ _).2 (HD.out.d.there (8+q) k (by have:=HF.out;omega))) ?_;have h72:=((HD.out.d.keep (K.drew (Below.refl _ _))).rest q k (by have:=HF.out;omega) (fun i=>g (j+i))).sz))
     go_upto_region 5 with fail
     refine wp_world (fun X hX=>?_)
     have hDX:DigR X b s1 (put r1 q k (fun i=>g (j+i))) N:=by rw [hX];exact (HD.out.d.keep (K.drew (Below.refl _ _))).rest q k (by have:=HF.out;omega) _
     have HGX:Hid (wr.grownBy X (some b)):=by rw [hX];exact grown_trans (grown_of (K.drew (Below.refl _ _)) _) (grown_sets _ _ _ _)
     clear hX h72 sz hsl
     obtain ⟨M,hM⟩:∃ M,M=N+k:=⟨_,rfl⟩
     have HM:=hide hM
     have c72:=hDX.sz
     have z72:=hDX.z 72 (by omega)
     have m1:(N:Int)+(k:Int)=(M:Int):=by omega
     have m2:(M:Int)≤9223372036854776000:=by have:=HE.out;omega
     have HDX:=hide hDX
     clear hM hDX
     go_upto_region 6 with fail
     refine wp_world (fun Y hY=>?_)
     have hDY:DigR Y b s1 (put r1 q k (fun i=>g (j+i))) M:=by rw [hY];exact HDX.out.size M
     have HGY:Hid (wr.grownBy Y (some b)):=by rw [hY];exact grown_trans HGX.out (grown_set _ _ _ _)
     have c72:=hDY.sz
     have hFF:=HF.out
     have hEE:=HE.out
     have hMM:=HM.out
     have n1:(M:Int) % 64=0:=by omega
     have n2:(M:Int).tmod 64=0:=by rw [Int.tmod_eq_emod_of_nonneg (by omega)];omega
     clear hY HDX HGX z72 hFF hEE hMM
     obtain ⟨r2,hr2⟩:∃ r2,r2=put r1 q k (fun i=>g (j+i)):=⟨_,rfl⟩
     have HR2:=hide hr2
     rw [← hr2] at hDY
     obtain ⟨s2,hs2⟩:∃ s2,s2=takeB s1 r2:=⟨_,rfl⟩
     have HS2:=hide hs2
     have HTI:Hid (∀ W:World,Tab W→Calls Tryz.prog 129 #[.agg (aw s1.w 8).toArray,.agg (ab r2 64).toArray] W fun e w'=>e=.returned (.agg (aw s2.w 8).toArray)∧Below W.heap.size W w'):=fun W hT=>by
      rw [hs2]
      exact takeIn_any (fun i=>by rw [hr2];exact put_lt HD.out.b (fun i=>HG.out.lt _) _ _ i) s1 hT
     have HTY:Hid (Tab Y):=(HT.out.kept (grown_trans HGR.out HGY.out) h2)
     have HDY:=hide hDY
     clear hr2 hs2 hDY
     go_upto_region 7 with fail
     go_cut [4] (fun s4 wc=>s4=.int .i64 (k:Int)∧DigR wc b s2 r2 M∧Y.grownBy wc (some b))
     case first =>
      have HTd:=hide (HTY.out.keep (K.drew (Below.refl _ _)))
      have HDd:=hide (HDY.out.keep (K.drew (Below.refl _ _)))
      refine wp_region_noPanic ?_
      refine wp_region_held_drew (S:=fun _=>True) (by kernel_rfl) trivial (fun hHeld=>?_)
      refine wpAnyH_take (i:=0) (v:=.pointer (some ⟨b,0,none⟩)) rfl (by kernel_rfl) (by kernel_rfl) (by kernel_rfl) (fun _ _ _ h=>h) (Or.inl ⟨by rfl,fun w' _=>by go_simp⟩) trivial ?_
      simp only [Act.put,List.getElem_toArray,List.getElem_cons_zero,List.setIfInBounds_toArray,List.set_cons_zero,List.set_cons_succ]
      refine wpAnyH_take (i:=1) (v:=.pointer (some ⟨b,0,none⟩)) rfl (by kernel_rfl) (by kernel_rfl) (by kernel_rfl) (fun _ _ _ h=>h) (Or.inl ⟨by rfl,fun w' _=>by go_simp⟩) trivial ?_
      simp only [Act.put,List.getElem_toArray,List.getElem_cons_zero,List.getElem_cons_succ,List.setIfInBounds_toArray,List.set_cons_zero,List.set_cons_succ]
      refine wpAnyH_take (i:=2) (v:=.pointer (some ⟨b,0,none⟩)) rfl (by kernel_rfl) (by kernel_rfl) (by kernel_rfl) (fun _ _ _ h=>h) (Or.inl ⟨by rfl,fun w' _=>by go_simp⟩) trivial ?_
      simp only [Act.put,List.getElem_toArray,List.getElem_cons_zero,List.getElem_cons_succ,List.setIfInBounds_toArray,List.set_cons_zero,List.set_cons_succ]
      refine wpAnyH_take (i:=3) (v:=.pointer (some ⟨b,0,none⟩)) rfl (by kernel_rfl) (by kernel_rfl) (by kernel_rfl) (fun _ _ _ h=>h) (Or.inl ⟨by rfl,fun w' _=>by go_simp⟩) trivial ?_
      simp only [Act.put,List.getElem_toArray,List.getElem_cons_zero,List.getElem_cons_succ,List.setIfInBounds_toArray,List.set_cons_zero,List.set_cons_succ]
      refine wpAnyH_take (i:=5) (v:=.pointer (some ⟨b,0,none⟩)) rfl (by kernel_rfl) (by kernel_rfl) (by kernel_rfl) (fun _ _ _ h=>h) (Or.inl ⟨by rfl,fun w' _=>by go_simp⟩) trivial ?_
      simp only [Act.put,List.getElem_toArray,List.getElem_cons_zero,List.getElem_cons_succ,List.setIfInBounds_toArray,List.set_cons_zero,List.set_cons_succ]
      refine wpAnyH_take (i:=6) (v:=.pointer (some ⟨b,0,none⟩)) rfl (by kernel_rfl) (by kernel_rfl) (by kernel_rfl) (fun _ _ _ h=>h) (Or.inl ⟨by rfl,fun w' _=>by go_simp⟩) trivial ?_
      simp only [Act.put,List.getElem_toArray,List.getElem_cons_zero,List.getElem_cons_succ,List.setIfInBounds_toArray,List.set_cons_zero,List.set_cons_succ]
      refine wpAnyH_take (i:=7) (v:=.pointer (some ⟨b,8,none⟩)) rfl (by kernel_rfl) (by kernel_rfl) (by kernel_rfl) (fun _ _ _ h=>h) (Or.inl ⟨by rfl,fun w' _=>by go_simp⟩) trivial ?_
      simp only [Act.put,List.getElem_toArray,List.getElem_cons_zero,List.getElem_cons_succ,List.setIfInBounds_toArray,List.set_cons_zero,List.set_cons_succ]
      refine wpAnyH_ready (rs:=[4,8]) (by kernel_rfl) (by simp) ?_
      refine AllReadyH.cons rfl (fun K hK=>?_) (AllReadyH.cons rfl (fun K hK=>?_) AllReadyH.nil)
      ·rw [if_pos (by rfl)]
       refine wp_load_mid 111 _ rfl b 0 rfl (aw s1.w 8) _ HDd.out.rangeSt Tryz.underlying111 rfl (ilSt _) ?_
       refine hK.out _ _ trivial (fun _=>?_)
       clear hK K
       simp only [Act.put,List.getElem_toArray,List.getElem_cons_zero,List.getElem_cons_succ,List.setIfInBounds_toArray,List.set_cons_zero,List.set_cons_succ]
       refine wpAnyH_ready (rs:=[8]) (by kernel_rfl) (by simp) ?_
       refine AllReadyH.cons rfl (fun K hK=>?_) AllReadyH.nil
       rw [if_pos (by rfl)]
       refine wp_load_mid 113 _ rfl b 8 rfl (ab r2 64) _ HDd.out.rangeRs Tryz.underlying113 rfl (ilBlk _) ?_
       refine hK.out _ _ trivial (fun _=>?_)
       clear hK K
       simp only [Act.put,List.getElem_toArray,List.getElem_cons_zero,List.getElem_cons_succ,List.setIfInBounds_toArray,List.set_cons_zero,List.set_cons_succ]
       refine wpAnyH_ready (rs:=[9]) (by kernel_rfl) (by simp) ?_
       refine AllReadyH.cons rfl (fun K hK=>?_) AllReadyH.nil
       go_simp
       with_reducible refine Calls.mono (HTI.out _ HTd.out) ?_
       rintro e w1 ⟨rfl,hkk⟩
       dsimp only
       refine hK.out _ _ trivial (fun _=>?_)
       clear hK K
       refine wpAnyH_take (i:=10) (v:=.pointer (some ⟨b,0,none⟩)) rfl (by kernel_rfl) (by kernel_rfl) (by kernel_rfl) (fun _ _ _ h=>h) (Or.inl ⟨by rfl,fun w' _=>by go_simp⟩) trivial ?_
       simp only [Act.put,List.getElem_toArray,List.getElem_cons_zero,List.getElem_cons_succ,List.setIfInBounds_toArray,List.set_cons_zero,List.set_cons_succ]
       refine wpAnyH_take (i:=11) (v:=.pointer (some ⟨b,0,none⟩)) rfl (by kernel_rfl) (by kernel_rfl) (by kernel_rfl) (fun _ _ _ h=>h) (Or.inl ⟨by rfl,fun w' _=>by go_simp⟩) trivial ?_
       simp only [Act.put,List.getElem_toArray,List.getElem_cons_zero,List.getElem_cons_succ,List.setIfInBounds_toArray,List.set_cons_zero,List.set_cons_succ]
       refine wpAnyH_ready (rs:=[12]) (by kernel_rfl) (by simp) ?_
       refine AllReadyH.cons rfl (fun K hK=>?_) AllReadyH.nil
       rw [if_pos (by rfl)]
       have hDw:=HDd.out.keep hkk
       refine wp_store_mid 111 _ _ rfl b 0 (aw s2.w 8).toArray rfl rfl (by rw [size8];exact hDw.there 0 8 (by omega)) (inSt _) (all8 _) ?_
       refine hK.out _ _ trivial (fun _=>?_)
       clear hK K
       refine wpAnyH_done (by kernel_rfl) ?_ _
       refine NoPanic.normal ?_
       have hDz:=hDw.state s2
       have hGz:Y.grownBy (w1.setCells b 0 (aw s2.w 8).toArray.toList) (some b):=grown_trans (grown_of (K.drew (Below.refl _ _)) _) (grown_trans (grown_of hkk _) (grown_sets _ _ _ _))
       go_wp2_with fail
       go_meet
       case rel=>exact ⟨rfl,hDz,hGz⟩
      ·rw [if_pos (by rfl)]
       refine wp_load_mid 113 _ rfl b 8 rfl (ab r2 64) _ HDd.out.rangeRs Tryz.underlying113 rfl (ilBlk _) ?_
       refine hK.out _ _ trivial (fun _=>?_)
       clear hK K
       simp only [Act.put,List.getElem_toArray,List.getElem_cons_zero,List.getElem_cons_succ,List.setIfInBounds_toArray,List.set_cons_zero,List.set_cons_succ]
       refine wpAnyH_ready (rs:=[4]) (by kernel_rfl) (by simp) ?_
       refine AllReadyH.cons rfl (fun K hK=>?_) AllReadyH.nil
       rw [if_pos (by rfl)]
       refine wp_load_mid 111 _ rfl b 0 rfl (aw s1.w 8) _ HDd.out.rangeSt Tryz.underlying111 rfl (ilSt _) ?_
       refine hK.out _ _ trivial (fun _=>?_)
       clear hK K
       simp only [Act.put,List.getElem_toArray,List.getElem_cons_zero,List.getElem_cons_succ,List.setIfInBounds_toArray,List.set_cons_zero,List.set_cons_succ]
       refine wpAnyH_ready (rs:=[9]) (by kernel_rfl) (by simp) ?_
       refine AllReadyH.cons rfl (fun K hK=>?_) AllReadyH.nil
       go_simp
       with_reducible refine Calls.mono (HTI.out _ HTd.out) ?_
       rintro e w1 ⟨rfl,hkk⟩
       dsimp only
       refine hK.out _ _ trivial (fun _=>?_)
       clear hK K
       refine wpAnyH_take (i:=10) (v:=.pointer (some ⟨b,0,none⟩)) rfl (by kernel_rfl) (by kernel_rfl) (by kernel_rfl) (fun _ _ _ h=>h) (Or.inl ⟨by rfl,fun w' _=>by go_simp⟩) trivial ?_
       simp only [Act.put,List.getElem_toArray,List.getElem_cons_zero,List.getElem_cons_succ,List.setIfInBounds_toArray,List.set_cons_zero,List.set_cons_succ]
       refine wpAnyH_take (i:=11) (v:=.pointer (some ⟨b,0,none⟩)) rfl (by kernel_rfl) (by kernel_rfl) (by kernel_rfl) (fun _ _ _ h=>h) (Or.inl ⟨by rfl,fun w' _=>by go_simp⟩) trivial ?_
       simp only [Act.put,List.getElem_toArray,List.getElem_cons_zero,List.getElem_cons_succ,List.setIfInBounds_toArray,List.set_cons_zero,List.set_cons_succ]
       refine wpAnyH_ready (rs:=[12]) (by kernel_rfl) (by simp) ?_
       refine AllReadyH.cons rfl (fun K hK=>?_) AllReadyH.nil
       rw [if_pos (by rfl)]
       have hDw:=HDd.out.keep hkk
       refine wp_store_mid 111 _ _ rfl b 0 (aw s2.w 8).toArray rfl rfl (by rw [size8];exact hDw.there 0 8 (by omega)) (inSt _) (all8 _) ?_
       refine hK.out _ _ trivial (fun _=>?_)
       clear hK K
       refine wpAnyH_done (by kernel_rfl) ?_ _
       refine NoPanic.normal ?_
       have hDz:=hDw.state s2
       have hGz:Y.grownBy (w1.setCells b 0 (aw s2.w 8).toArray.toList) (some b):=grown_trans (grown_of (K.drew (Below.refl _ _)) _) (grown_trans (grown_of hkk _) (grown_sets _ _ _ _))
       go_wp2_with fail
       go_meet
       case rel=>exact ⟨rfl,hDz,hGz⟩
     case rest =>
      obtain ⟨rfl,hDc,hGc⟩:=hcut
      have HDc:=hide hDc
      have HGc:=hide (grown_trans HGR.out (grown_trans HGY.out hGc))
      have HGd:=hide (grown_trans HGY.out hGc)
      clear hDc hGc HTI HTY HDY
      have HCT:=hide (fun W=>run_cut (bb:=bb) (o:=o) (L:=L) (c:=c') (k:=k) (by have:=HF.out;omega) W)
      obtain ⟨y,hy⟩:∃ y,y=some (if c'=k then (⟨bb,o,none⟩:Addr) else ⟨bb,o+k,none⟩):=⟨_,rfl⟩
      rw [← hy] at HCT
      have HY:=hide hy
      clear hy
      go_wp2_with (refine wpList_cut rfl 25 _ _ rfl _ _ _ rfl rfl (HCT.out _) ?_)
      go_roundg (m-(j+k))
      case measure=>have:=HE.out;have:=HF.out;omega
      case rel =>
       have hEE:=HE.out
       have hFF:=HF.out
       have hMM:=HM.out
       refine ⟨j+k,y,c'-k,rfl,by omega,by rw [show m-(j+k)=L-k by omega],by omega,by omega,fun h=>?_,⟨s2,_,digs_full HD.out hEE.2.1 hEE.2.2.1 hFF.1 HG.out.lt (by rw [HS2.out,HR2.out]) (by rw [← hMM,← HR2.out];exact HDc.out)⟩,HGc.out⟩
       have hc:¬ c'=k:=by omega
       refine ⟨bb,o+k,by rw [HY.out,if_neg hc],hbb,?_⟩
       have hr:=(HR.out.kept HGd.out hbb).part k (m-(j+k)) (by omega)
       exact hr.congr (fun i _=>by show ((g (j+(k+i)):Nat):Int)=_;rw [Nat.add_assoc])
   ·obtain rfl:m=j:=by omega
    have HD:=hide hD
    have HGR:=hide hg
    have hz:m-m=0:=by omega
    rw [hz]
    clear hD hg hsrc hlt hj hz
    go_wp2_with fail
    exact bodyPost_end (by simp [results,Tryz.results104];rfl) rfl ⟨⟨_,rfl⟩,⟨s1,r1,HD.out.d,Or.inr HD.out.st,HD.out.b,HD.out.rs⟩,HGR.out⟩
theorem write_any {b n m c:Nat} {x:Option Addr} {f g:Nat→Nat} {w:World} (hT:Tab w) (h2:5≤b) (hG:BA w x m g) (hx:0<m→∀ p,x=some p→p.block≠b) (hmc:m≤c) (hc:c≤maxLen) (hD:Dig w b f n) (hnm:n+m≤900000) :
  Calls Tryz.prog 104 #[.pointer (some ⟨b,0,none⟩),.slice x m c] w fun e w'=>(∃ v,e=.returned v)∧Dig w' b (cat f n g) (n+m)∧w.grownBy w' (some b):=write_anyL hT h2 hG hx hmc hc hD (by omega)
end Go.Proofs.YtmigakanbeckpaaGreatDoor.Sh
namespace Go.Proofs.YtmigakanbeckpaaGreatDoor.Sh
set_option maxRecDepth 100000
open Go.RowKit
attribute [local go_sem ↓] Go.wp_at_zero Go.wp_at_succ
def hP (s:St) (i j:Nat):Nat:=if j<i then hByte s j else 0
theorem hash_any (s:St) (w:World) :
  Calls Tryz.prog 131 #[.agg (aw s.w 8).toArray] w fun e w'=>e=.returned (.agg (ab (hByte s) 32).toArray)∧Below w.heap.size w w':=by
 rw [aw8 s.w]
 go_enter Tryz.func131,Tryz.ntmps131
 go_upto_region 2 with fail
 refine wp_world (fun X hX=>?_)
 have hB:Below w.heap.size w X:=by rw [hX];exact K.alloc (K.alloc (K.alloc (Below.refl _ _) _) _) _
 have hS:RowW X w.heap.size 8 s.w:=by rw [hX];exact (RowW.made w 111 8 s.w _ (aw8 s.w).symm).keep (K.alloc (K.alloc (Below.refl _ _) _) _)
 have hR:RowB X (w.heap.size+1) 32 (fun _=>0):=by
  rw [hX]
  have h:=Row8.keep (RowB.made (w.alloc (.cells #[.int .u32 (wn (s.w 0)),.int .u32 (wn (s.w 1)),.int .u32 (wn (s.w 2)),.int .u32 (wn (s.w 3)),.int .u32 (wn (s.w 4)),.int .u32 (wn (s.w 5)),.int .u32 (wn (s.w 6)),.int .u32 (wn (s.w 7))] 111)) 60 32 (fun _=>0) _ zeros32) (K.alloc (Below.refl _ _) (.cells (ab (fun _=>0) 32).toArray 60))
  rw [← zeros32] at h
  show Row8 _ _ _ _
  simpa using h
 have hO:RowB X (w.heap.size+1+1) 32 (hP s 0):=by
  rw [hX]
  have h:=RowB.made ((w.alloc (.cells #[.int .u32 (wn (s.w 0)),.int .u32 (wn (s.w 1)),.int .u32 (wn (s.w 2)),.int .u32 (wn (s.w 3)),.int .u32 (wn (s.w 4)),.int .u32 (wn (s.w 5)),.int .u32 (wn (s.w 6)),.int .u32 (wn (s.w 7))] 111)).alloc (.cells (ab (fun _=>0) 32).toArray 60)) 60 32 (fun _=>0) _ zeros32
  rw [← zeros32] at h
  have h':=Row8.congr h (g:=fun i=>((hP s 0 i:Nat):Int)) (fun i _=>by unfold hP;rw [if_neg (by omega)])
  show Row8 _ _ _ _
  simpa using h'
 clear hX
 obtain ⟨b0,hb0⟩:∃ b0,w.heap.size=b0:=⟨_,rfl⟩
 rw [hb0] at hB hS hR hO ⊢
 have HS:=hide hS
 have HR:=hide hR
 have HO:=hide hO
 have HB:=hide hB
 clear hS hR hO hB
 go_wp2_with fail
 go_loopg [5] 32 (fun g s5 wr=>∃ i:Nat,g=32-i∧i≤32∧s5=.int .i64 i∧RowW wr b0 8 s.w∧RowB wr (b0+1) 32 (fun _=>0)∧RowB wr (b0+1+1) 32 (hP s i)∧Below b0 w wr)
 case atStart=>exact ⟨0,rfl,by omega,rfl,HS.out,HR.out,HO.out,HB.out⟩
 case round =>
  clear HS HR HO HB
  obtain ⟨i,rfl,hi,rfl,hS,hR,hO,hB⟩:=hrel
  by_cases hlt:i<32
  ·have hii:(i:Int)<32:=by omega
   obtain ⟨j,hj⟩:∃ j,j=i / 4:=⟨_,rfl⟩
   have cs:=hS.c j (by omega)
   have co:=hO.c i hlt
   have zo:=hO.z i hlt
   have j1:(i:Int) / 4=(j:Int):=by omega
   have j2:(i:Int).tdiv 4=(j:Int):=by rw [Int.tdiv_eq_ediv_of_nonneg (by omega)];omega
   have j3:(j:Int)<8:=by omega
   have j4:IntKind.i64.wrap (j:Int)=(j:Int):=by rw [IntKind.wrap_i64];omega
   have j5:j<8:=by omega
   obtain ⟨x,hx⟩:∃ x,x=s.w j:=⟨_,rfl⟩
   have HV:Hid (hByte s i=x.toNat / 256 ^ (3-i % 4) % 256):=by show _=_;unfold hByte;rw [hx,hj]
   rw [← hx] at cs
   have HS:=hide hS
   have HR:=hide hR
   have HO:=hide hO
   have HB:=hide hB
   have HI:=hide hlt
   have hol:=hO.lt
   have hlo:=wn_nn x
   have hhi:=wn_lt x
   clear hO hS hR hB hi hlt hx hj
   rcases (show i % 4=0∨i % 4=1∨i % 4=2∨i % 4=3 by omega) with hr | hr | hr | hr
   ·have hv:wn x / 16777216 % 256=((hByte s i:Nat):Int):=by rw [HV.out,hr];unfold wn;omega
    have hv2:IntKind.u8.wrap (wn x / 16777216)=((hByte s i:Nat):Int):=by rw [IntKind.wrap_u8',hv]
    have hri:(i:Int) % 4=0:=by omega
    have hrt:(i:Int).tmod 4=0:=by rw [Int.tmod_eq_emod_of_nonneg (by omega)];omega
    clear hr
    go_wp2_with fail
    go_roundg (32-(i+1))
    case measure=>have:=HI.out;omega
    case rel=>exact ⟨i+1,rfl,by have:=HI.out;omega,by go_num,HS.out.other (by omega) i _,row8_other HR.out (by omega) i _,(Row8.store HO.out i HI.out _).congr (fun j hj=>by
     unfold hP
     by_cases e:j=i
     ·subst e;simp
     ·simp only [if_neg e];(repeat' split) <;> first | rfl | omega),by subst hb0;exact K.set HB.out (by show w.heap.size≤w.heap.size+1+1;omega) _⟩
   ·have hv:wn x / 65536 % 256=((hByte s i:Nat):Int):=by rw [HV.out,hr];unfold wn;omega
    have hv2:IntKind.u8.wrap (wn x / 65536)=((hByte s i:Nat):Int):=by rw [IntKind.wrap_u8',hv]
    have hri:(i:Int) % 4=1:=by omega
    have hrt:(i:Int).tmod 4=1:=by rw [Int.tmod_eq_emod_of_nonneg (by omega)];omega
    clear hr
    go_wp2_with fail
    go_roundg (32-(i+1))
    case measure=>have:=HI.out;omega
    case rel=>exact ⟨i+1,rfl,by have:=HI.out;omega,by go_num,HS.out.other (by omega) i _,row8_other HR.out (by omega) i _,(Row8.store HO.out i HI.out _).congr (fun j hj=>by
     unfold hP
     by_cases e:j=i
     ·subst e;simp
     ·simp only [if_neg e];(repeat' split) <;> first | rfl | omega),by subst hb0;exact K.set HB.out (by show w.heap.size≤w.heap.size+1+1;omega) _⟩
   ·have hv:wn x / 256 % 256=((hByte s i:Nat):Int):=by rw [HV.out,hr];unfold wn;omega
    have hv2:IntKind.u8.wrap (wn x / 256)=((hByte s i:Nat):Int):=by rw [IntKind.wrap_u8',hv]
    have hri:(i:Int) % 4=2:=by omega
    have hrt:(i:Int).tmod 4=2:=by rw [Int.tmod_eq_emod_of_nonneg (by omega)];omega
    clear hr
    go_wp2_with fail
    go_roundg (32-(i+1))
    case measure=>have:=HI.out;omega
    case rel=>exact ⟨i+1,rfl,by have:=HI.out;omega,by go_num,HS.out.other (by omega) i _,row8_other HR.out (by omega) i _,(Row8.store HO.out i HI.out _).congr (fun j hj=>by
     unfold hP
     by_cases e:j=i
     ·subst e;simp
     ·simp only [if_neg e];(repeat' split) <;> first | rfl | omega),by subst hb0;exact K.set HB.out (by show w.heap.size≤w.heap.size+1+1;omega) _⟩
   ·have hv:wn x % 256=((hByte s i:Nat):Int):=by rw [HV.out,hr];unfold wn;omega
    have hv2:IntKind.u8.wrap (wn x)=((hByte s i:Nat):Int):=by rw [IntKind.wrap_u8',hv]
    have hri:(i:Int) % 4=3:=by omega
    have hrt:(i:Int).tmod 4=3:=by rw [Int.tmod_eq_emod_of_nonneg (by omega)];omega
    clear hr
    go_wp2_with fail
    go_roundg (32-(i+1))
    case measure=>have:=HI.out;omega
    case rel=>exact ⟨i+1,rfl,by have:=HI.out;omega,by go_num,HS.out.other (by omega) i _,row8_other HR.out (by omega) i _,(Row8.store HO.out i HI.out _).congr (fun j hj=>by
     unfold hP
     by_cases e:j=i
     ·subst e;simp
     ·simp only [if_neg e];(repeat' split) <;> first | rfl | omega),by subst hb0;exact K.set HB.out (by show w.heap.size≤w.heap.size+1+1;omega) _⟩
  ·obtain rfl:i=32:=by omega
   have hO':RowB wr (b0+1+1) 32 (hByte s):=Row8.congr hO (fun j hj=>by unfold hP;rw [if_pos hj])
   have HRr:=hide (RowB.range hO')
   have HTH:=hide (RowB.there hR (hByte s))
   have HST:=hide (RowB.stored hR (hByte s))
   have HB:Hid (Below b0 w (wr.setCells (b0+1) 0 (ab (hByte s) 32).toArray.toList)):=by subst hb0;exact below_setCells _ _ hB (by omega)
   clear hO hO' hS hR hB hi hlt
   go_upto_region 7 with fail
   go_wp2_with (refine wpList_load_mid rfl 60 _ rfl _ 0 rfl (ab (hByte s) 32) _ HRr.out Tryz.underlying60 rfl (ilH _) ?_;simp only [Act.put,List.setIfInBounds_toArray,List.set_cons_zero,List.set_cons_succ];refine wpList_store_mid rfl 60 _ _ rfl (b0+1) 0 (ab (hByte s) 32).toArray rfl rfl HTH.out (inH _) (all_oneCell_toArray (ab_one _ _)) ?_;generalize wr.setCells (b0+1) 0 (ab (hByte s) 32).toArray.toList=X at HST HB ⊢)
   exact bodyPost_ret (results_cell_mid Tryz.results131 _ _ (b0+1) (ab (hByte s) 32) _ rfl (RowB.range HST.out) Tryz.underlying60 rfl (ilH _)) rfl ⟨rfl,by rw [hb0];exact HB.out⟩
end Go.Proofs.YtmigakanbeckpaaGreatDoor.Sh
namespace Go.Proofs.YtmigakanbeckpaaGreatDoor.Sh
set_option maxRecDepth 100000
open Go.RowKit
attribute [local go_sem ↓] Go.wp_at_zero Go.wp_at_succ
def st0:St:=⟨0,0,0,0,0,0,0,0⟩
theorem zeroDig (w:World):(zeroValue 115).run Tryz.prog w=.ok (.agg (dg st0 (fun _=>0) 0).toArray) w :=
 (zero_of_info (P:=Tryz.prog) (t:=115) (v:=.agg (dg st0 (fun _=>0) 0).toArray) (n:=73) (by kernel_rfl)).1 w
theorem infoDig:(Tryz.prog.info? 115).map (·.size)=some 73:=by kernel_rfl
theorem inDig (s:St) (r:Nat→Nat) (n:Nat):(Tryz.prog.info? 115).map (·.size)=some (dg s r n).toArray.size:=by rw [List.size_toArray,dg_len];exact infoDig
theorem ilDig (s:St) (r:Nat→Nat) (n:Nat):(Tryz.prog.info? 115).map (·.size)=some (dg s r n).length:=by rw [dg_len];exact infoDig
def endF (n i:Nat):Nat:=(endP n 8).getD i 0
theorem endF_lt (n i:Nat):endF n i<256:=by
 refine getD_lt (fun x hx=>?_) i
 simp only [endP,List.mem_cons,List.mem_append,List.mem_replicate] at hx
 rcases hx with rfl | ⟨_,rfl⟩ | hx
 ·omega
 ·omega
 ·have hl:∀ (k:Nat),∀ y ∈ lenB n k,y<256:=fun k=>by
   induction k with
   | zero=>intro y hy;simp [lenB] at hy
   | succ k ih =>
    intro y hy
    simp only [lenB,List.mem_append,List.mem_singleton] at hy
    rcases hy with hy | rfl
    ·exact ih y hy
    ·exact Nat.mod_lt _ (by omega)
  exact hl 8 x hx
theorem cat_end (f:Nat→Nat) (n i:Nat) (h:i<padLen n):cat f n (endF n) i=pad f n i:=by
 rw [← padL_at f n i h]
 unfold cat endF
 have e:padL f n=fl f n++endP n 8:=by unfold padL endP;simp
 rw [e]
 by_cases h1:i<n
 ·rw [if_pos h1,List.getD_eq_getElem?_getD,List.getElem?_append_left (by rw [fl_len];exact h1),fl_at f h1];rfl
 ·rw [if_neg h1,List.getD_eq_getElem?_getD,List.getD_eq_getElem?_getD,List.getElem?_append_right (by rw [fl_len];omega),fl_len]
theorem hash_end (f:Nat→Nat) (n:Nat):hs (cat f n (endF n)) (padLen n / 64)=hashS f n:=by
 unfold hashS
 have:=zs_eq n
 exact hs_congr _ (fun i hi=>cat_end f n i (by omega))
theorem BA.block {w:World} {x:Option Addr} {m:Nat} {g:Nat→Nat} (h:BA w x m g) (hm:0<m):∀ p,x=some p→p.block<w.heap.size:=by
 intro p hp
 rcases h.at_ with h0 | ⟨b,o,e,hr⟩
 ·omega
 ·rw [hp] at e
  obtain rfl:=Option.some.inj e
  exact lt_of_cell (hr.c 0 hm)
theorem Tab.lt {w:World} (h:Tab w):5≤w.heap.size:=lt_of_cell (h.k 0 (by omega))
theorem dsum_anyL {w:World} {b n:Nat} {f:Nat→Nat} (hT:Tab w) (hD:Dig w b f n) (hn:n≤9223372036854775807) :
  Calls Tryz.prog 105 #[.pointer (some ⟨b,0,none⟩)] w fun e w'=>e=.returned (.agg (ab (hByte (hashS f n)) 32).toArray)∧Below w.heap.size w w':=by
 have HT:=hide hT
 have HL:=hide hT.lt
 obtain ⟨s,r,hR,hs⟩:=hD
 have HD:=hide hR
 have HS:=hide hs
 have HN:=hide hn
 clear hT hR hs hn
 have zD:=fun W=>zeroDig W
 go_enter Tryz.func105,Tryz.ntmps105
 go_upto_region 2 with fail
 refine wp_world (fun X hX=>?_)
 have hB:Below w.heap.size w X:=by rw [hX];exact K.alloc (K.alloc (Below.refl _ _) _) _
 have hH:RowB X w.heap.size 32 (fun _=>0):=by
  rw [hX]
  have h:=Row8.keep (RowB.made w 60 32 (fun _=>0) _ zeros32) (K.alloc (Below.refl _ _) (.cells (dg st0 (fun _=>0) 0).toArray 115))
  exact h
 have hZ:DigR X (w.heap.size+1) st0 (fun _=>0) 0:=by
  rw [hX]
  have h:=DigR.made (w.alloc (.cells (ab (fun _=>0) 32).toArray 60)) 115 st0 (fun _=>0) 0 _ rfl
  rw [← zeros32] at h
  have e:∀ o,(w.alloc o).heap.size=w.heap.size+1:=fun o=>by simp
  rw [e] at h
  exact h
 clear hX zD
 have HD:=hide (HD.out.keep hB)
 have HT:=hide (HT.out.keep hB)
 obtain ⟨b0,hb0⟩:∃ b0,w.heap.size=b0:=⟨_,rfl⟩
 rw [hb0] at hB hH hZ HL ⊢
 have HH:=hide hH
 have HZ:=hide hZ
 have HB:=hide hB
 have HZs:=hide (And.intro hZ.lt hH.lt)
 clear hH hZ hB
 have HRg:=hide HD.out.range
 have HTH:Hid (X.there (b0+1) 0 (dg s r n).toArray.size):=by
  have h:=HZ.out.there 0 73 (by omega)
  rw [List.size_toArray,dg_len]
  exact h
 have HST:=hide (HZ.out.stored s r n)
 have HG:=hide (grown_sets (b0+1) (dg s r n) 0 X)
 go_upto_region 4 with (first
  | (refine wpList_load_mid rfl 115 _ rfl _ 0 rfl (dg s r n) _ HRg.out Tryz.underlying115 rfl (ilDig _ _ _) ?_;simp only [Act.put,List.setIfInBounds_toArray,List.set_cons_zero,List.set_cons_succ])
  | (refine wpList_store_mid rfl 115 _ _ rfl (b0+1) 0 (dg s r n).toArray rfl rfl HTH.out (inDig _ _ _) (all_oneCell_toArray (dg_one _ _ _)) ?_;generalize X.setCells (b0+1) 0 (dg s r n).toArray.toList=Y at HST HG ⊢))
 have HDq:Hid (Dig Y (b0+1) f n):=⟨s,r,HST.out,HS.out⟩
 have sz:=HST.out.sz
 have HTq:=hide (HT.out.kept HG.out (by have:=HL.out;omega))
 have HHq:Hid (RowB Y b0 32 (fun _=>0)):=⟨Nat.lt_of_lt_of_le HZs.out.2 HG.out.size,fun i hi=>HG.out.cell (HH.out.c i hi) (by simp),fun i hi=>by
  rw [World.frozen?_of_block (w:=X) (HG.out.block b0 HZs.out.2 (by simp))];exact HH.out.z i hi⟩
 have HBq:Hid (Below b0 w Y):=HB.out.grown HG.out (by have:=HZs.out;omega) (fun k hk=>by cases hk;omega)
 clear HRg HTH HST HG HD HS HT HH HB HZ
 go_wp2_with fail
 with_reducible refine Calls.mono (ending_any n (by have:=HN.out;omega) Y) ?_
 rintro e W1 ⟨v,rfl,hO,hb⟩
 obtain ⟨g,cap,rfl,hg,hr⟩:=own_rd (f:=fun i=>((endF n i:Nat):Int)) hO (fun j hj=>by rw [cells8_at _ j (by rw [endP_len];exact hj)];rfl) (by omega)
 have hcap:=own_cap hO
 have hcm:cap≤maxLen:=by
  rcases hO.2 with ⟨h,_⟩ | ⟨_,_,_,h,_,_,_,hm,_⟩
  ·cases h
  ·cases h;exact hm
 have hBA:BA W1 (some ⟨g,0,none⟩) (1+zs n+8) (endF n):=⟨endF_lt n,Or.inr ⟨g,0,rfl,hr.rd⟩⟩
 have hT1:=HTq.out.keep hb
 have hD1:=HDq.out.keep hb
 have hH1:=Row8.keep HHq.out hb
 have hB1:Below b0 w W1:=by subst hb0;exact K.call HBq.out hb
 have hYl:b0+1<Y.heap.size:=lt_of_cell sz
 have hz:=zs_eq n
 have hzl:1+zs n+8≤100:=by unfold zs padLen;omega
 have HW:=hide (write_anyL (c:=cap) hT1 (by have:=HL.out;omega) hBA (fun _ p hp=>by cases hp;show g≠b0+1;omega) hcap hcm hD1 (by have:=HN.out;omega))
 clear hO hb hr hBA hcap hcm hT1 hD1 HTq HDq HHq HBq sz
 go_wp2_with fail
 with_reducible refine Calls.mono HW.out ?_
 rintro e W2 ⟨⟨v,rfl⟩,hD2,hG2⟩
 have hH2:RowB W2 b0 32 (fun _=>0):=⟨Nat.lt_of_lt_of_le hH1.lt hG2.size,fun i hi=>hG2.cell (hH1.c i hi) (by simp),fun i hi=>by
  rw [World.frozen?_of_block (w:=W1) (hG2.block b0 hH1.lt (by simp))];exact hH1.z i hi⟩
 have hB2:Below b0 w W2:=hB1.grown hG2 (by have:=hH1.lt;omega) (fun k hk=>by cases hk;omega)
 obtain ⟨s2,r2,hR2,hs2,_⟩:=hD2
 have e2:n+(1+zs n+8)=padLen n:=by omega
 rw [e2] at hs2
 have hs3:s2=hashS f n:=by
  rcases hs2 with h | h
  ·omega
  ·rw [h,hash_end]
 have HRg:=hide hR2.rangeSt
 have HH:=hide hH2
 have HB:=hide hB2
 have HS3:=hide hs3
 clear hG2 hB1 hH1 hR2 hs2 hs3 hH2 hB2 HW
 go_wp2_with (refine wpList_load_mid rfl 111 _ rfl _ 0 rfl (aw s2.w 8) _ HRg.out Tryz.underlying111 rfl (ilSt _) ?_;simp only [Act.put,List.setIfInBounds_toArray,List.set_cons_zero,List.set_cons_succ])
 with_reducible refine Calls.mono (hash_any s2 W2) ?_
 rintro e W3 ⟨rfl,hb⟩
 have hH3:=Row8.keep HH.out hb
 have hB3:Below b0 w W3:=by subst hb0;exact K.call HB.out hb
 have HTH:=hide (RowB.there hH3 (hByte s2))
 have HST:=hide (RowB.stored hH3 (hByte s2))
 have HB:Hid (Below b0 w (W3.setCells b0 0 (ab (hByte s2) 32).toArray.toList)):=by subst hb0;exact below_setCells _ _ hB3 (Nat.le_refl _)
 clear hb hH3 hB3 HH HRg
 go_wp2_with (refine wpList_store_mid rfl 60 _ _ rfl b0 0 (ab (hByte s2) 32).toArray rfl rfl HTH.out (inH _) (all_oneCell_toArray (ab_one _ _)) ?_;generalize W3.setCells b0 0 (ab (hByte s2) 32).toArray.toList=Z at HST HB ⊢)
 refine bodyPost_ret (results_cell_mid Tryz.results105 _ _ b0 (ab (hByte s2) 32) _ rfl (RowB.range HST.out) Tryz.underlying60 rfl (ilH _)) rfl ⟨?_,by rw [hb0];exact HB.out⟩
 rw [HS3.out]
theorem dsum_any {w:World} {b n:Nat} {f:Nat→Nat} (hT:Tab w) (hD:Dig w b f n) (hn:n≤800000) :
  Calls Tryz.prog 105 #[.pointer (some ⟨b,0,none⟩)] w fun e w'=>e=.returned (.agg (ab (hByte (hashS f n)) 32).toArray)∧Below w.heap.size w w':=dsum_anyL hT hD (by omega)
end Go.Proofs.YtmigakanbeckpaaGreatDoor.Sh
namespace Go.Proofs.YtmigakanbeckpaaGreatDoor.Sh
set_option maxRecDepth 100000
open Go.RowKit
attribute [local go_sem ↓] Go.wp_at_zero Go.wp_at_succ
structure PL (w:World) (x:Option Addr) (k:Nat) (A:Nat→Option Addr) (L C:Nat→Nat) (G:Nat→Nat→Nat):Prop where
 ba:∀ i,i<k→BA w (A i) (L i) (G i)
 cp:∀ i,i<k→L i≤C i∧C i≤maxLen
 at_:k=0∨∃ b o,x=some ⟨b,o,none⟩∧∀ i,i<k→w.cell? ⟨b,o+i,none⟩=some (.slice (A i) (L i) (C i))
theorem PL.keep {W w1:World} {x:Option Addr} {k:Nat} {A:Nat→Option Addr} {L C:Nat→Nat} {G:Nat→Nat→Nat} (h:PL W x k A L C G) (hb:Below W.heap.size W w1):PL w1 x k A L C G :=
 ⟨fun i hi=>(h.ba i hi).keep hb,h.cp,h.at_.elim Or.inl fun ⟨b,o,e,hc⟩=>Or.inr ⟨b,o,e,fun i hi=>later hb (hc i hi)⟩⟩
def lenF (L:Nat→Nat):Nat→Nat
 | 0=>0
 | i+1=>lenF L i+L i
def catF (L:Nat→Nat) (G:Nat→Nat→Nat):Nat→Nat→Nat
 | 0=>fun _=>0
 | i+1=>cat (catF L G i) (lenF L i) (G i)
theorem lenF_mono (L : Nat → Nat) {i k : Nat} (h : i ≤ k) : lenF L i ≤ lenF L k := by
  induction k with
  | zero => obtain rfl : i = 0 := by omega
            exact Nat.le_refl _
  | succ k ih =>
    by_cases e : i = k + 1
    · rw [e]; exact Nat.le_refl _
    · have := ih (by omega)
      simp only [lenF]
      omega
theorem sum_anyL {w:World} {x:Option Addr} {k c:Nat} {A:Nat→Option Addr} {L C:Nat→Nat} {G:Nat→Nat→Nat} (hT:Tab w) (hP:PL w x k A L C G) (hk:k≤1000000) (hl:lenF L k≤9223372036854775807) :
  Calls Tryz.prog 63 #[.slice x k c] w fun e w'=>e=.returned (.agg (ab (hByte (hashS (catF L G k) (lenF L k))) 32).toArray)∧Below w.heap.size w w':=by
 have HT:=hide hT
 have HL:=hide hT.lt
 have HP:=hide hP
 have HN:=hide hl
 have hki:(k:Int)≤1000000:=by omega
 clear hT hP hl
 have zD:=fun W=>zeroDig W
 go_enter Tryz.func63,Tryz.ntmps63
 go_upto_region 2 with fail
 refine wp_world (fun X hX=>?_)
 have hB:Below w.heap.size w X:=by rw [hX];exact K.alloc (K.alloc (Below.refl _ _) _) _
 have hH:RowB X w.heap.size 32 (fun _=>0):=by
  rw [hX]
  have h:=Row8.keep (RowB.made w 60 32 (fun _=>0) _ zeros32) (K.alloc (Below.refl _ _) (.cells (dg st0 (fun _=>0) 0).toArray 115))
  exact h
 have hZ:DigR X (w.heap.size+1) st0 (fun _=>0) 0:=by
  rw [hX]
  have h:=DigR.made (w.alloc (.cells (ab (fun _=>0) 32).toArray 60)) 115 st0 (fun _=>0) 0 _ rfl
  rw [← zeros32] at h
  have e:∀ o,(w.alloc o).heap.size=w.heap.size+1:=fun o=>by simp
  rw [e] at h
  exact h
 clear hX zD
 obtain ⟨b0,hb0⟩:∃ b0,w.heap.size=b0:=⟨_,rfl⟩
 rw [hb0] at hB hH hZ HL ⊢
 have HH:=hide hH
 have HZ:=hide hZ
 have HB:=hide hB
 clear hH hZ hB
 go_wp2_with fail
 go_loopg [8] k (fun g s8 wr=>∃ i:Nat,g=k-i∧i≤k∧s8=.int .i64 i∧Dig wr (b0+1) (catF L G i) (lenF L i)∧RowB wr b0 32 (fun _=>0)∧Below b0 w wr)
 case atStart=>exact ⟨0,rfl,by omega,rfl,⟨st0,fun _=>0,HZ.out,Or.inl rfl,fun _=>by show 0<256;omega,fun i hi=>by simp only [lenF] at hi;omega⟩,HH.out,HB.out⟩
 case round =>
  clear HH HZ HB
  obtain ⟨i,rfl,hi,rfl,hD,hH,hB⟩:=hrel
  have hB':Below w.heap.size w wr:=by rw [hb0];exact hB
  have HT1:=hide (HT.out.keep hB')
  have HP1:=hide (HP.out.keep hB')
  clear hB'
  by_cases hlt:i<k
  ·rcases HP1.out.at_ with h0 | ⟨pb,po,rfl,hc⟩
   ·omega
   have ci:=hc i hlt
   have hii:(i:Int)<(k:Int):=by omega
   have hcp:=HP1.out.cp i hlt
   have hln:lenF L i+L i≤9223372036854775807:=by
    have h1:=HN.out
    have h2:lenF L (i+1)≤lenF L k:=lenF_mono L hlt
    simp only [lenF] at h2
    omega
   have hDl:b0+1<wr.heap.size:=by obtain ⟨s,r,h,_⟩:=hD;exact h.lt
   have HW:=hide (write_anyL (c:=C i) HT1.out (by have:=HL.out;omega) (HP1.out.ba i hlt) (fun hm p hp=>by
    have h1:=(HP.out.ba i hlt).block hm p hp
    omega) hcp.1 hcp.2 hD (by omega))
   have HH:=hide hH
   have HB:=hide hB
   have HI:=hide (And.intro hlt hDl)
   clear hc hcp hD hH hB hi hln hDl hlt
   go_wp2_with fail
   with_reducible refine Calls.mono HW.out ?_
   rintro e W2 ⟨⟨v,rfl⟩,hD2,hG2⟩
   have hH2:RowB W2 b0 32 (fun _=>0):=⟨Nat.lt_of_lt_of_le HH.out.lt hG2.size,fun i hi=>hG2.cell (HH.out.c i hi) (by simp),fun i hi=>by
    rw [World.frozen?_of_block (w:=wr) (hG2.block b0 HH.out.lt (by simp))];exact HH.out.z i hi⟩
   have hB2:Below b0 w W2:=HB.out.grown hG2 (by have:=HI.out;omega) (fun k hk=>by cases hk;omega)
   clear HW HH HB ci hG2
   go_wp2_with fail
   go_roundg (k-(i+1))
   case measure=>have:=HI.out;omega
   case rel=>exact ⟨i+1,rfl,by have:=HI.out;omega,by go_num,hD2,hH2,hB2⟩
  ·obtain rfl:i=k:=by omega
   have HS:=hide (dsum_anyL HT1.out hD HN.out)
   have HH:=hide hH
   have HB:=hide hB
   clear hD hH hB hi hlt
   go_wp2_with fail
   with_reducible refine Calls.mono HS.out ?_
   rintro e W3 ⟨rfl,hb⟩
   have hH3:=Row8.keep HH.out hb
   have hB3:Below b0 w W3:=by subst hb0;exact K.call HB.out hb
   have HTH:=hide (RowB.there hH3 (hByte (hashS (catF L G i) (lenF L i))))
   have HST:=hide (RowB.stored hH3 (hByte (hashS (catF L G i) (lenF L i))))
   have HB:Hid (Below b0 w (W3.setCells b0 0 (ab (hByte (hashS (catF L G i) (lenF L i))) 32).toArray.toList)):=by subst hb0;exact below_setCells _ _ hB3 (Nat.le_refl _)
   clear hb hH3 hB3 HH HS
   generalize hs2:hashS (catF L G i) (lenF L i)=s2 at HTH HST HB ⊢
   have HS2:=hide hs2
   clear hs2
   go_wp2_with (refine wpList_store_mid rfl 60 _ _ rfl b0 0 (ab (hByte s2) 32).toArray rfl rfl HTH.out (inH _) (all_oneCell_toArray (ab_one _ _)) ?_;generalize W3.setCells b0 0 (ab (hByte s2) 32).toArray.toList=Z at HST HB ⊢)
   exact bodyPost_ret (results_cell_mid Tryz.results63 _ _ b0 (ab (hByte s2) 32) _ rfl (RowB.range HST.out) Tryz.underlying60 rfl (ilH _)) rfl ⟨by rw [HS2.out],by rw [hb0];exact HB.out⟩
theorem sum_any {w:World} {x:Option Addr} {k c:Nat} {A:Nat→Option Addr} {L C:Nat→Nat} {G:Nat→Nat→Nat} (hT:Tab w) (hP:PL w x k A L C G) (hk:k≤1000000) (hl:lenF L k≤800000) :
  Calls Tryz.prog 63 #[.slice x k c] w fun e w'=>e=.returned (.agg (ab (hByte (hashS (catF L G k) (lenF L k))) 32).toArray)∧Below w.heap.size w w':=sum_anyL hT hP hk (by omega)
end Go.Proofs.YtmigakanbeckpaaGreatDoor.Sh
