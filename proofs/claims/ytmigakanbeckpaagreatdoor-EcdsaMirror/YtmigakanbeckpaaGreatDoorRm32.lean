/- What the document's own Numbers answers. A stream in memory: its key, its value, whether a number was asked for; the program's own Mac of parts that lie somewhere. What the program's own step does. Lists of parts that are appended to a list of one's own (no function of layer 7 is named). What the program's own renew does. What the program's own New and Next answer. The program's own New, of two parts that are handed in. Streams and hashes as things: the program's own New, Next; the document's own Numbers. What the document's own Signed of layer 11 answers. What the program's own smaller functions of layer 11 answer. -/
import Derived.Test.YtmigakanbeckpaaGreatDoorRm31
import Derived.Test.YtmigakanbeckpaaGreatDoorRm03
import Derived.Test.YtmigakanbeckpaaGreatDoorRm29
import Derived.Test.YtmigakanbeckpaaGreatDoorRm20
import Derived.Test.YtmigakanbeckpaaGreatDoorRm30
import Derived.Test.YtmigakanbeckpaaGreatDoorRm26
import Derived.Deep.WholeRow
set_option maxRecDepth 100000
set_option maxHeartbeats 8000000
namespace Go.Proofs.YtmigakanbeckpaaGreatDoor.Sh
set_option maxRecDepth 100000
open Go.RowKit
attribute [local go_sem ↓] Go.wp_at_zero Go.wp_at_succ
theorem macB_lt (f:Nat→Nat) (n:Nat) (g:Nat→Nat) (m i:Nat):macB f n g m i<256:=hByte_lt _ i
def ones (i j:Nat):Nat:=if j<i then 1 else 0
end Go.Proofs.YtmigakanbeckpaaGreatDoor.Sh
namespace Go.Proofs.YtmigakanbeckpaaGreatDoor.Sh
set_option maxRecDepth 100000
open Go.RowKit
theorem mac_one_at {w:World} {q:Nat} {x y:Option Addr} {n c m d:Nat} {f g:Nat→Nat} (hT:Tab w) (hx:BA w x n f) (hc:n≤c) (hcm:c≤maxLen) (hn:n≤800000) (hy:BA w y m g) (hd:m≤d) (hdm:d≤maxLen) (hm:m≤700000) (hq:w.cell? ⟨q,0,none⟩=some (.slice y m d)) :
  Calls Tryz.prog 127 #[.slice x n c,.slice (some ⟨q,0,none⟩) 1 1] w fun e w'=>e=.returned (.agg (mA f n g m))∧Below w.heap.size w w':=by
 have e1:lenF (fun _=>m) 1=m:=by simp only [lenF];omega
 have h:=mac_any (d:=1) (y:=some ⟨q,0,none⟩) (k:=1) (A:=fun _=>y) (L:=fun _=>m) (C:=fun _=>d) (G:=fun _=>g) hT hx hc hcm hn ⟨fun i _=>hy,fun i _=>⟨hd,hdm⟩,Or.inr ⟨_,_,rfl,fun i hi=>by
  obtain rfl:i=0:=by omega
  exact hq⟩⟩ (by omega) (by rw [e1];exact hm)
 rw [e1] at h
 simp only [catF,lenF,cat_zero] at h
 exact h
theorem macS_congr {f g h:Nat→Nat} {n m:Nat} (e:∀ i,i<m→g i=h i):macS f n g m=macS f n h m:=by
 unfold macS
 rw [hashS_congr (f:=cat (fun i=>kpad f n i ^^^ 54) 64 g) (g:=cat (fun i=>kpad f n i ^^^ 54) 64 h) (fun i hi=>by
  unfold cat
  by_cases h1:i<64
  ·rw [if_pos h1,if_pos h1]
  ·rw [if_neg h1,if_neg h1,e _ (by omega)])]
theorem mA_congr {f g h:Nat→Nat} {n m:Nat} (e:∀ i,i<m→g i=h i):mA f n g m=mA f n h m:=by unfold mA;rw [macS_congr e]
def KV.ok (s:KV):Prop:=(∀ i,s.k i<256)∧(∀ i,s.v i<256)
theorem kvNext_ok {s:KV} (h:s.ok):(kvNext s).ok:=⟨h.1,fun i=>macB_lt _ _ _ _ i⟩
theorem kvStep_ok (s:KV) (b:Nat) (g:Nat→Nat) (m:Nat):(kvStep s b g m).ok:=⟨fun i=>macB_lt _ _ _ _ i,fun i=>macB_lt _ _ _ _ i⟩
theorem kv0_ok:kv0.ok:=⟨fun _=>by show 0<256;omega,fun _=>by show 1<256;omega⟩
def sc (s:KV) (t:Bool):List Value:=ab s.k 32++(ab s.v 32++[.bool t])
theorem sc_len (s:KV) (t:Bool):(sc s t).length=65:=by simp [sc,ab_len]
theorem sc_k (s:KV) (t:Bool) {i:Nat} (h:i<32):(sc s t)[i]?=some (.int .u8 ((s.k i:Nat):Int)):=by
 rw [sc,List.getElem?_append_left (by rw [ab_len];exact h),ab_at _ h]
theorem sc_v (s:KV) (t:Bool) {i:Nat} (h:i<32):(sc s t)[32+i]?=some (.int .u8 ((s.v i:Nat):Int)):=by
 rw [sc,List.getElem?_append_right (by rw [ab_len];omega),ab_len,List.getElem?_append_left (by rw [ab_len];omega),show 32+i-32=i by omega,ab_at _ h]
theorem sc_g (s:KV) (t:Bool):(sc s t)[64]?=some (.bool t):=by
 rw [sc,List.getElem?_append_right (by rw [ab_len];omega),ab_len,List.getElem?_append_right (by rw [ab_len];omega),ab_len];rfl
structure Stm (w:World) (b:Nat) (s:KV) (t:Bool):Prop where
 lt:b<w.heap.size
 r:w.rangeAt b 0 (sc s t)
 z:∀ i,i<65→w.frozen? ⟨b,i,none⟩=false
theorem Stm.ck {w:World} {b:Nat} {s:KV} {t:Bool} (h:Stm w b s t) (i:Nat) (hi:i<32):w.cell? ⟨b,i,none⟩=some (.int .u8 ((s.k i:Nat):Int)):=by have:=h.r i _ (sc_k s t hi);rwa [Nat.zero_add] at this
theorem Stm.cv {w:World} {b:Nat} {s:KV} {t:Bool} (h:Stm w b s t) (i:Nat) (hi:i<32):w.cell? ⟨b,32+i,none⟩=some (.int .u8 ((s.v i:Nat):Int)):=by have:=h.r _ _ (sc_v s t hi);rwa [Nat.zero_add] at this
theorem Stm.cg {w:World} {b:Nat} {s:KV} {t:Bool} (h:Stm w b s t):w.cell? ⟨b,64,none⟩=some (.bool t):=by have:=h.r _ _ (sc_g s t);rwa [Nat.zero_add] at this
theorem Stm.of {w:World} {b:Nat} {s:KV} {t:Bool} (hl:b<w.heap.size) (hk:∀ i,i<32→w.cell? ⟨b,i,none⟩=some (.int .u8 ((s.k i:Nat):Int))) (hv:∀ i,i<32→w.cell? ⟨b,32+i,none⟩=some (.int .u8 ((s.v i:Nat):Int))) (hg:w.cell? ⟨b,64,none⟩=some (.bool t)) (hz:∀ i,i<65→w.frozen? ⟨b,i,none⟩=false):Stm w b s t:=by
 refine ⟨hl,fun j u hu=>?_,hz⟩
 rw [Nat.zero_add]
 rcases (show j<32∨(32≤j∧j<64)∨j=64∨65≤j by omega) with e | e | e | e
 ·rw [sc_k s t e] at hu;rw [hk j e];exact hu
 ·obtain ⟨i,rfl⟩:∃ i,j=32+i:=⟨j-32,by omega⟩
  rw [sc_v s t (by omega)] at hu;rw [hv i (by omega)];exact hu
 ·subst e;rw [sc_g] at hu;rw [hg];exact hu
 ·rw [List.getElem?_eq_none (by rw [sc_len];exact e)] at hu;cases hu
theorem Stm.keep {W w1:World} {b:Nat} {s:KV} {t:Bool} (h:Stm W b s t) (hb:Below W.heap.size W w1):Stm w1 b s t :=
 Stm.of (Nat.lt_of_lt_of_le h.lt hb.size) (fun i hi=>later hb (h.ck i hi)) (fun i hi=>later hb (h.cv i hi)) (later hb h.cg) (fun i hi=>(hb.frozen (p:=⟨b,i,none⟩) h.lt).trans (h.z i hi))
theorem Stm.keptO {W w1:World} {b:Nat} {r:Option Nat} {s:KV} {t:Bool} (h:Stm W b s t) (hg:W.grownBy w1 r) (hr:some b≠r):Stm w1 b s t:=by
 have hb:=hg.block b h.lt hr
 exact Stm.of (Nat.lt_of_lt_of_le h.lt hg.size) (fun i hi=>by rw [World.cell?_of_block (w:=W) hb];exact h.ck i hi) (fun i hi=>by rw [World.cell?_of_block (w:=W) hb];exact h.cv i hi) (by rw [World.cell?_of_block (w:=W) hb];exact h.cg) (fun i hi=>by rw [World.frozen?_of_block (w:=W) hb];exact h.z i hi)
theorem Stm.there {w:World} {b:Nat} {s:KV} {t:Bool} (h:Stm w b s t) (o m:Nat) (hm:o+m≤65):w.there b o m:=fun j hj=>by
 refine ⟨?_,h.z (o+j) (by omega)⟩
 have hl:o+j<(sc s t).length:=by rw [sc_len];omega
 have:=h.r (o+j) _ (List.getElem?_eq_getElem hl)
 rw [Nat.zero_add] at this
 rw [this];rfl
theorem Stm.made (w:World) (ty:TypeId) (s:KV) (t:Bool) (cs:Array Value) (h:cs=(sc s t).toArray):Stm (w.alloc (.cells cs ty)) w.heap.size s t:=by
 subst h
 refine ⟨by simp,fun j v hv=>?_,fun i _=>frozen_of_row _ _ _ _ _ (heap_alloc_new w _)⟩
 rw [cell_of_row _ _ _ _ _ _ (heap_alloc_new w _),Nat.zero_add]
 simpa using hv
theorem Stm.rangeV {w:World} {b:Nat} {s:KV} {t:Bool} (h:Stm w b s t):w.rangeAt b 32 (ab s.v 32):=fun j u hu=>by
 have hj:j<32:=by
  rcases Nat.lt_or_ge j 32 with h' | h'
  ·exact h'
  ·rw [List.getElem?_eq_none (by rw [ab_len];exact h')] at hu;cases hu
 rw [ab_at _ hj] at hu
 rw [h.cv j hj];exact hu
theorem Stm.setK {w:World} {b:Nat} {s:KV} {t:Bool} (h:Stm w b s t) (k:Nat→Nat):Stm (w.setCells b 0 (ab k 32)) b ⟨k,s.v⟩ t:=by
 have hr:=World.rangeAt_setCells_same w b 0 (ab k 32) (by rw [ab_len];exact h.there 0 32 (by omega))
 refine Stm.of (by rw [size_setCells];exact h.lt) (fun i hi=>?_) (fun i hi=>?_) ?_ (fun i hi=>by rw [World.frozen?_setCells];exact h.z i hi)
 ·have:=hr i _ (ab_at k hi);rwa [Nat.zero_add] at this
 ·rw [World.cell?_setCells_out b _ 0 w _ (fun _ _=>Or.inr (by rw [ab_len];simp only;omega))];exact h.cv i hi
 ·rw [World.cell?_setCells_out b _ 0 w _ (fun _ _=>Or.inr (by rw [ab_len];simp only;omega))];exact h.cg
theorem Stm.setV {w:World} {b:Nat} {s:KV} {t:Bool} (h:Stm w b s t) (v:Nat→Nat):Stm (w.setCells b 32 (ab v 32)) b ⟨s.k,v⟩ t:=by
 have hr:=World.rangeAt_setCells_same w b 32 (ab v 32) (by rw [ab_len];exact h.there 32 32 (by omega))
 refine Stm.of (by rw [size_setCells];exact h.lt) (fun i hi=>?_) (fun i hi=>hr i _ (ab_at v hi)) ?_ (fun i hi=>by rw [World.frozen?_setCells];exact h.z i hi)
 ·rw [World.cell?_setCells_out b _ 32 w _ (fun _ _=>Or.inl (by simp only;omega))];exact h.ck i hi
 ·rw [World.cell?_setCells_out b _ 32 w _ (fun _ _=>Or.inr (by rw [ab_len];simp only;omega))];exact h.cg
theorem Stm.setV1 {w:World} {b:Nat} {s:KV} {t:Bool} (h:Stm w b s t) (j:Nat) (hj:j<32) (x:Nat):Stm (w.setCell ⟨b,32+j,none⟩ (.int .u8 (x:Int))) b ⟨s.k,fun i=>if i=j then x else s.v i⟩ t:=by
 refine Stm.of (by simpa using h.lt) (fun i hi=>?_) (fun i hi=>?_) ?_ (fun i hi=>by rw [World.frozen?_setCell];exact h.z i hi)
 ·rw [World.cell?_setCell_other _ _ _ _ (by simp only [ne_eq,Addr.mk.injEq,not_and];omega)];exact h.ck i hi
 ·by_cases e:i=j
  ·subst e
   show _=some (Value.int .u8 (((if i=i then x else s.v i:Nat)):Int))
   rw [if_pos rfl]
   exact World.cell?_setCell_same _ _ _ (h.cv i hi)
  ·show _=some (Value.int .u8 (((if i=j then x else s.v i:Nat)):Int))
   rw [if_neg e,World.cell?_setCell_other _ _ _ _ (by simp only [ne_eq,Addr.mk.injEq,not_and];omega)];exact h.cv i hi
 ·rw [World.cell?_setCell_other _ _ _ _ (by simp only [ne_eq,Addr.mk.injEq,not_and];omega)];exact h.cg
theorem Stm.setG {w:World} {b:Nat} {s:KV} {t:Bool} (h:Stm w b s t) (u:Bool):Stm (w.setCell ⟨b,64,none⟩ (.bool u)) b s u:=by
 refine Stm.of (by simpa using h.lt) (fun i hi=>?_) (fun i hi=>?_) (World.cell?_setCell_same _ _ _ h.cg) (fun i hi=>by rw [World.frozen?_setCell];exact h.z i hi)
 ·rw [World.cell?_setCell_other _ _ _ _ (by simp only [ne_eq,Addr.mk.injEq,not_and];omega)];exact h.ck i hi
 ·rw [World.cell?_setCell_other _ _ _ _ (by simp only [ne_eq,Addr.mk.injEq,not_and];omega)];exact h.cv i hi
theorem Stm.baK {w:World} {b:Nat} {s:KV} {t:Bool} (h:Stm w b s t) (hs:s.ok):BA w (some ⟨b,0,none⟩) 32 s.k:=⟨hs.1,Or.inr ⟨b,0,rfl,⟨fun i hi=>by rw [Nat.zero_add];exact h.ck i hi⟩⟩⟩
theorem Stm.baV {w:World} {b:Nat} {s:KV} {t:Bool} (h:Stm w b s t) (hs:s.ok):BA w (some ⟨b,32,none⟩) 32 s.v:=⟨hs.2,Or.inr ⟨b,32,rfl,⟨fun i hi=>h.cv i hi⟩⟩⟩
theorem Stm.congr {w:World} {b:Nat} {s r:KV} {t:Bool} (h:Stm w b s t) (hk:∀ i,i<32→s.k i=r.k i) (hv:∀ i,i<32→s.v i=r.v i):Stm w b r t :=
 Stm.of h.lt (fun i hi=>by rw [← hk i hi];exact h.ck i hi) (fun i hi=>by rw [← hv i hi];exact h.cv i hi) h.cg h.z
end Go.Proofs.YtmigakanbeckpaaGreatDoor.Sh
namespace Go.Proofs.YtmigakanbeckpaaGreatDoor.Sh
set_option maxRecDepth 100000
open Go.RowKit
attribute [local go_sem ↓] Go.wp_at_zero Go.wp_at_succ
theorem step_any {w:World} {b:Nat} {s:KV} {t:Bool} (hT:Tab w) (hS:Stm w b s t) (hs:s.ok) :
  Calls Tryz.prog 103 #[.pointer (some ⟨b,0,none⟩)] w fun e w'=>(∃ v,e=.returned v)∧Stm w' b (kvNext s) t∧w.grownBy w' (some b):=by
 obtain ⟨v1,hv1⟩:∃ v1,v1=macB s.k 32 s.v 32:=⟨_,rfl⟩
 have HV1:Hid (Value.agg (mA s.k 32 s.v 32)=.agg (ab v1 32).toArray):=by show _=_;rw [hv1];rfl
 have HRes:Hid (kvNext s=⟨s.k,v1⟩):=by show _=_;rw [hv1];rfl
 clear hv1
 go_enter Tryz.func103,Tryz.ntmps103
 go_upto_region 0 with fail
 have hd:=K.drew (Below.refl _ w)
 have hSd:=hS.keep hd
 have hTd:=hT.keep hd
 refine wp_region_noPanic ?_
 refine wp_region_held_drew (S:=fun _=>True) (by kernel_rfl) trivial (fun _=>?_)
 refine wpAnyH_take (i:=0) (v:=.pointer (some ⟨b,0,none⟩)) rfl (by kernel_rfl) (by kernel_rfl) (by kernel_rfl) (fun _ _ _ h=>h) (Or.inl ⟨by rfl,fun w' _=>by go_simp⟩) trivial ?_
 simp only [Act.put,List.getElem_toArray,List.getElem_cons_zero,List.setIfInBounds_toArray,List.set_cons_zero,List.set_cons_succ]
 refine wpAnyH_take (i:=1) (v:=.pointer (some ⟨b,0,none⟩)) rfl (by kernel_rfl) (by kernel_rfl) (by kernel_rfl) (fun _ _ _ h=>h) (Or.inl ⟨by rfl,fun w' _=>by go_simp⟩) trivial ?_
 simp only [Act.put,List.getElem_toArray,List.getElem_cons_zero,List.getElem_cons_succ,List.setIfInBounds_toArray,List.set_cons_zero,List.set_cons_succ]
 refine wpAnyH_take (i:=2) (v:=.pointer (some ⟨b,0,none⟩)) rfl (by kernel_rfl) (by kernel_rfl) (by kernel_rfl) (fun _ _ _ h=>h) (Or.inl ⟨by rfl,fun w' _=>by go_simp⟩) trivial ?_
 simp only [Act.put,List.getElem_toArray,List.getElem_cons_zero,List.getElem_cons_succ,List.setIfInBounds_toArray,List.set_cons_zero,List.set_cons_succ]
 refine wpAnyH_take (i:=3) (v:=.pointer (some ⟨b,0,none⟩)) rfl (by kernel_rfl) (by kernel_rfl) (by kernel_rfl) (fun _ _ _ h=>h) (Or.inl ⟨by rfl,fun w' _=>by go_simp⟩) trivial ?_
 simp only [Act.put,List.getElem_toArray,List.getElem_cons_zero,List.getElem_cons_succ,List.setIfInBounds_toArray,List.set_cons_zero,List.set_cons_succ]
 refine wpAnyH_take (i:=4) (v:=.slice (some ⟨b,0,none⟩) 32 32) rfl (by kernel_rfl) (by kernel_rfl) (by kernel_rfl) (fun _ _ _ h=>h) (Or.inl ⟨by rfl,fun w' _=>by go_simp⟩) trivial ?_
 simp only [Act.put,List.getElem_toArray,List.getElem_cons_zero,List.getElem_cons_succ,List.setIfInBounds_toArray,List.set_cons_zero,List.set_cons_succ]
 refine wpAnyH_take (i:=5) (v:=.pointer (some ⟨b,0,none⟩)) rfl (by kernel_rfl) (by kernel_rfl) (by kernel_rfl) (fun _ _ _ h=>h) (Or.inl ⟨by rfl,fun w' _=>by go_simp⟩) trivial ?_
 simp only [Act.put,List.getElem_toArray,List.getElem_cons_zero,List.getElem_cons_succ,List.setIfInBounds_toArray,List.set_cons_zero,List.set_cons_succ]
 refine wpAnyH_take (i:=6) (v:=.pointer (some ⟨b,0,none⟩)) rfl (by kernel_rfl) (by kernel_rfl) (by kernel_rfl) (fun _ _ _ h=>h) (Or.inl ⟨by rfl,fun w' _=>by go_simp⟩) trivial ?_
 simp only [Act.put,List.getElem_toArray,List.getElem_cons_zero,List.getElem_cons_succ,List.setIfInBounds_toArray,List.set_cons_zero,List.set_cons_succ]
 refine wpAnyH_take (i:=7) (v:=.pointer (some ⟨b,32,none⟩)) rfl (by kernel_rfl) (by kernel_rfl) (by kernel_rfl) (fun _ _ _ h=>h) (Or.inl ⟨by rfl,fun w' _=>by go_simp⟩) trivial ?_
 simp only [Act.put,List.getElem_toArray,List.getElem_cons_zero,List.getElem_cons_succ,List.setIfInBounds_toArray,List.set_cons_zero,List.set_cons_succ]
 refine wpAnyH_take (i:=8) (v:=.slice (some ⟨b,32,none⟩) 32 32) rfl (by kernel_rfl) (by kernel_rfl) (by kernel_rfl) (fun _ _ _ h=>h) (Or.inl ⟨by rfl,fun w' _=>by go_simp⟩) trivial ?_
 simp only [Act.put,List.getElem_toArray,List.getElem_cons_zero,List.getElem_cons_succ,List.setIfInBounds_toArray,List.set_cons_zero,List.set_cons_succ]
 refine wpAnyH_ready (rs:=[9]) (by kernel_rfl) (by simp) (AllReadyH.cons rfl (fun Kt hK=>?_) AllReadyH.nil)
 refine wanted_pos rfl ?_
 refine wp_one rfl rfl (fun q W _ hcq hbq=>hK.out _ _ trivial (fun _=>?_))
 clear hK Kt
 simp only [Act.put,List.getElem_toArray,List.getElem_cons_zero,List.getElem_cons_succ,List.setIfInBounds_toArray,List.set_cons_zero,List.set_cons_succ]
 refine wpAnyH_ready (rs:=[10]) (by kernel_rfl) (by simp) (AllReadyH.cons rfl (fun Kt hK=>?_) AllReadyH.nil)
 refine wanted_pos rfl ?_
 refine wp_call (R:=fun r w'=>r=.agg (ab v1 32).toArray∧Below W.heap.size W w') (vs:=#[.slice (some ⟨b,0,none⟩) 32 32,.slice (some ⟨q,0,none⟩) 1 1]) rfl (by simp only [List.map_toArray,List.map_cons,List.map_nil];rfl) (by go_simp) (Calls.mono (mac_one_at (hTd.keep hbq) ((hSd.keep hbq).baK hs) (Nat.le_refl _) (by unfold maxLen;omega) (by omega) ((hSd.keep hbq).baV hs) (Nat.le_refl _) (by unfold maxLen;omega) (by omega) hcq) (fun e w' ⟨he,hb⟩=>⟨_,he,HV1.out,hb⟩)) (fun r W4 ⟨hr,hb4⟩=>?_)
 subst hr
 refine hK.out _ _ trivial (fun _=>?_)
 clear hK Kt
 simp only [Act.put,List.getElem_toArray,List.getElem_cons_zero,List.getElem_cons_succ,List.setIfInBounds_toArray,List.set_cons_zero,List.set_cons_succ]
 refine wpAnyH_take (i:=11) (v:=.pointer (some ⟨b,0,none⟩)) rfl (by kernel_rfl) (by kernel_rfl) (by kernel_rfl) (fun _ _ _ h=>h) (Or.inl ⟨by rfl,fun w' _=>by go_simp⟩) trivial ?_
 simp only [Act.put,List.getElem_toArray,List.getElem_cons_zero,List.getElem_cons_succ,List.setIfInBounds_toArray,List.set_cons_zero,List.set_cons_succ]
 refine wpAnyH_take (i:=12) (v:=.pointer (some ⟨b,32,none⟩)) rfl (by kernel_rfl) (by kernel_rfl) (by kernel_rfl) (fun _ _ _ h=>h) (Or.inl ⟨by rfl,fun w' _=>by go_simp⟩) trivial ?_
 simp only [Act.put,List.getElem_toArray,List.getElem_cons_zero,List.getElem_cons_succ,List.setIfInBounds_toArray,List.set_cons_zero,List.set_cons_succ]
 refine wpAnyH_ready (rs:=[13]) (by kernel_rfl) (by simp) (AllReadyH.cons rfl (fun Kt hK=>?_) AllReadyH.nil)
 refine wanted_pos rfl ?_
 have hS4:=(hSd.keep hbq).keep hb4
 refine wp_store_mid 60 _ _ rfl b 32 (ab v1 32).toArray rfl rfl (by rw [List.size_toArray,ab_len];exact hS4.there 32 32 (by omega)) (inH _) (all_oneCell_toArray (ab_one _ _)) (hK.out _ _ trivial (fun _=>?_))
 clear hK Kt
 refine wpAnyH_done (by kernel_rfl) ?_ _
 refine NoPanic.normal ?_
 have HST:=hide (hS4.setV v1)
 have HG:Hid (w.grownBy (W4.setCells b 32 (ab v1 32).toArray.toList) (some b)):=grown_trans (grown_of (K.call (K.call hd hbq) hb4) _) (grown_sets b (ab v1 32) 32 W4)
 clear hS4 hd hSd hTd hbq hb4 hcq
 generalize W4.setCells b 32 (ab v1 32).toArray.toList=Z at HST HG ⊢
 go_wp2_with fail
 exact bodyPost_end (by simp [results,Tryz.results103];rfl) rfl ⟨⟨_,rfl⟩,by rw [HRes.out];exact HST.out,HG.out⟩
end Go.Proofs.YtmigakanbeckpaaGreatDoor.Sh
namespace Go.Proofs.YtmigakanbeckpaaGreatDoor.Sh
set_option maxRecDepth 100000
open Go.RowKit
theorem infoBy:(Tryz.prog.info? 25).map (fun i=>(i.zero,i.size,i.bytes))=some (some (.slice none 0 0),1,24):=by kernel_rfl
def pcells (A:Nat→Option Addr) (L C:Nat→Nat) (k:Nat):List Value:=(List.range k).map (fun i=>Value.slice (A i) (L i) (C i))
theorem pcells_len (A:Nat→Option Addr) (L C:Nat→Nat) (k:Nat):(pcells A L C k).length=k:=by simp [pcells]
theorem pcells_at (A:Nat→Option Addr) (L C:Nat→Nat) {k i:Nat} (h:i<k):(pcells A L C k)[i]?=some (.slice (A i) (L i) (C i)):=by simp [pcells,h]
theorem pcells_one (A:Nat→Option Addr) (L C:Nat→Nat) (k:Nat):∀ u ∈ pcells A L C k,u.oneCell'=true:=by
 intro u hu
 simp only [pcells,List.mem_map] at hu
 obtain ⟨i,_,rfl⟩:=hu
 rfl
theorem run_appL {W:World} {base:Nat} {v:Value} {n:Nat} {xs:List Value} (hown:W.ownsRow base 25 1 v n xs) {x:Option Addr} {k c:Nat} {A:Nat→Option Addr} {L C:Nat→Nat} {G:Nat→Nat→Nat} (hx:PL W x k A L C G) (hb:n+k≤1100000) (hbase:base≤W.heap.size) (ty:TypeId) :
  ∃ v' w',(Builtin.append_ #[103,103] ty #[v,.slice x k c]).run Tryz.prog W=.ok v' w'∧w'.ownsRow base 25 1 v' (n+k) (xs++pcells A L C k)∧W.grownBy w' v.ownBlock:=by
 obtain ⟨i0,hi,hz0,hz1,hz2⟩:=info_parts infoBy
 rcases hx.at_ with rfl | ⟨b,o,rfl,hr⟩
 ·refine ⟨v,W,run_append_zero W base _ _ 25 i0 1 Tryz.underlying103 hi v n _ hown x c,?_,World.grownBy.refl _ _⟩
  rw [show pcells A L C 0=[] from rfl,List.append_nil]
  exact hown
 ·obtain ⟨v',w',h1,h2,h3,_⟩:=run_append_own (P:=Tryz.prog) W base 103 ty 25 i0 (.slice none 0 0) 1 24 Tryz.underlying103 hi hz0 hz1 hz2 rfl (by decide) v n _ hown ⟨b,o,none⟩ k c (pcells A L C k) (by rw [pcells_len];omega) (fun j u hu=>by
   have hj:j<k:=by
    rcases Nat.lt_or_ge j k with h' | h'
    ·exact h'
    ·rw [List.getElem?_eq_none (by rw [pcells_len];exact h')] at hu;cases hu
   rw [pcells_at A L C hj] at hu
   rw [Addr.add_mid,hr j hj]
   exact hu) (pcells_one _ _ _ _) (by unfold maxLen;omega) (by omega) hbase
  exact ⟨v',w',h1,h2,h3⟩
theorem wpList_appL {W:World} {ops:Array Oper} {rest:List Oper} {op:Oper} {a:Act} {Q:Exit→Act→World→Prop} (hgd:op.guard=none) (s x:Operand)
  (ho:op.op=.call { callee:=.builtin .append,args:=#[s,x],argTypes:=#[103,103] })
  {base:Nat} {v:Value} {n:Nat} {xs:List Value} (hs:a.eval s=v) (hown:W.ownsRow base 25 1 v n xs) {y:Option Addr} {k c:Nat} {A:Nat→Option Addr} {L C:Nat→Nat} {G:Nat→Nat→Nat} (hx:a.eval x=.slice y k c) (hy:PL W y k A L C G) (hb:n+k≤1100000) (hbase:base≤W.heap.size)
  (h:∀ v' w',w'.ownsRow base 25 1 v' (n+k) (xs++pcells A L C k)→W.grownBy w' v.ownBlock→wpList Tryz.prog ops Q rest (a.put op.dst v') w'):wpList Tryz.prog ops Q (op :: rest) a W:=by
 refine wpList_plain hgd fun K hK=>?_
 obtain ⟨v',w',hr,h2,h3⟩:=run_appL (c:=c) hown hy hb hbase op.type
 unfold Oper.wp execOp
 simp only [ho,resolve,invoke,builtin,Sem.run_bind,Sem.run_pure,Result.andThen_ok,List.map_toArray,List.map_cons,List.map_nil,hs,hx,hr]
 exact hK _ _ (h v' w' h2 h3)
theorem own_two (w:World) (base q:Nat) (hb:base≤w.heap.size) (hq:q=w.heap.size) (x1 x2:Value):(w.alloc (.cells #[x1,x2] 25)).ownsRow base 25 1 (.slice (some ⟨q,0,none⟩) 2 2) 2 [x1,x2]:=by
 subst hq
 exact ⟨rfl,.inr ⟨w.heap.size,2,#[x1,x2],rfl,hb,heap_alloc_new w _,Nat.le_refl _,by unfold maxLen;omega,rfl,rfl⟩⟩
def pre2 {α:Type} (a b:α) (f:Nat→α):Nat→α
 | 0=>a
 | 1=>b
 | i+2=>f i
theorem lenF_pre2 (n m:Nat) (L:Nat→Nat):∀ k,lenF (pre2 n m L) (k+2)=n+m+lenF L k
 | 0=>by simp only [lenF,pre2];omega
 | k+1=>by
  have ih:=lenF_pre2 n m L k
  rw [show k+1+2=(k+2)+1 from rfl,lenF,ih,lenF,pre2]
  omega
theorem catF_pre2 (n m:Nat) (L:Nat→Nat) (g h:Nat→Nat) (G:Nat→Nat→Nat):∀ k i,i<n+m+lenF L k→catF (pre2 n m L) (pre2 g h G) (k+2) i=cat (cat g n h) (n+m) (catF L G k) i
 | 0,i,hi=>by
  simp only [lenF] at hi
  have e:catF (pre2 n m L) (pre2 g h G) (0+2)=cat g n h:=by simp only [catF,lenF,pre2,cat_zero,Nat.zero_add]
  rw [e]
  show _=(if i<n+m then cat g n h i else catF L G 0 (i-(n+m)))
  rw [if_pos (by omega)]
 | k+1,i,hi=>by
  have ih:=catF_pre2 n m L g h G k
  have e:catF (pre2 n m L) (pre2 g h G) (k+1+2)=cat (catF (pre2 n m L) (pre2 g h G) (k+2)) (lenF (pre2 n m L) (k+2)) (G k):=rfl
  have e2:catF L G (k+1)=cat (catF L G k) (lenF L k) (G k):=rfl
  rw [e,lenF_pre2,e2,← cat_assoc]
  show (if i<n+m+lenF L k then _ else _)=(if i<n+m+lenF L k then _ else _)
  by_cases h1:i<n+m+lenF L k
  ·rw [if_pos h1,if_pos h1];exact ih i h1
  ·rw [if_neg h1,if_neg h1]
theorem own_pl {w:World} {base n k:Nat} {v:Value} {xs:List Value} {A:Nat→Option Addr} {L C:Nat→Nat} {G:Nat→Nat→Nat} (h:w.ownsRow base 25 1 v n xs) (hn:n=k) (hx:∀ i,i<k→xs[i]?=some (.slice (A i) (L i) (C i))) (hb:∀ i,i<k→BA w (A i) (L i) (G i)) (hc:∀ i,i<k→L i≤C i∧C i≤maxLen) :
  ∃ x c,v=.slice x k c∧PL w x k A L C G:=by
 subst hn
 rcases h.2 with ⟨rfl,rfl⟩ | ⟨g,cap,cur,rfl,_⟩
 ·exact ⟨_,_,rfl,hb,hc,Or.inl rfl⟩
 ·exact ⟨_,_,rfl,hb,hc,Or.inr ⟨g,0,rfl,fun i hi=>by rw [Nat.zero_add,h.cellAt i (by omega)];exact hx i hi⟩⟩
end Go.Proofs.YtmigakanbeckpaaGreatDoor.Sh
namespace Go.Proofs.YtmigakanbeckpaaGreatDoor.Sh
set_option maxRecDepth 100000
open Go.RowKit
attribute [local go_sem ↓] Go.wp_at_zero Go.wp_at_succ
theorem renew_any {w:World} {b m k d:Nat} {s:KV} {t:Bool} {y:Option Addr} {A:Nat→Option Addr} {L C:Nat→Nat} {G:Nat→Nat→Nat} (hT:Tab w) (h2:5≤b) (hS:Stm w b s t) (hs:s.ok) (hm:m<256) (hP:PL w y k A L C G) (hk:k≤900000) (hl:lenF L k≤600000) :
  Calls Tryz.prog 100 #[.pointer (some ⟨b,0,none⟩),.int .u8 (m:Int),.slice y k d] w fun e w'=>(∃ v,e=.returned v)∧Stm w' b (kvStep s m (catF L G k) (lenF L k)) t∧w.grownBy w' (some b):=by
 have HT:=hide hT
 have HS:=hide hS
 have HP:=hide hP
 have HK:=hide (And.intro h2 (And.intro hk hl))
 have HM:=hide hm
 have hmi:(m:Int)<256:=by omega
 clear hT hS hP hk hl h2 hm
 have ha1:=K.alloc (Below.refl _ w) (.cells #[.int .u8 (m:Int)] 5)
 have ha2:=K.alloc ha1 (.cells #[.slice (some ⟨b,32,none⟩) 32 32,.slice (some ⟨w.heap.size,0,none⟩) 1 1] 25)
 have HO0:=hide (own_two (w.alloc (.cells #[.int .u8 (m:Int)] 5)) w.heap.size (w.heap.size+1) (by simp) (by simp) (.slice (some ⟨b,32,none⟩) 32 32) (.slice (some ⟨w.heap.size,0,none⟩) 1 1))
 have HP2:=hide (HP.out.keep ha2)
 have HA2:=hide ha2
 have HOne:=hide ((one_made w m HM.out).keep (K.alloc (Below.refl _ _) (.cells #[.slice (some ⟨b,32,none⟩) 32 32,.slice (some ⟨w.heap.size,0,none⟩) 1 1] 25)))
 have HBs:Hid (w.heap.size≤((w.alloc (.cells #[.int .u8 (m:Int)] 5)).alloc (.cells #[.slice (some ⟨b,32,none⟩) 32 32,.slice (some ⟨w.heap.size,0,none⟩) 1 1] 25)).heap.size):=ha2.size
 clear ha1 ha2
 go_enter Tryz.func100,Tryz.ntmps100
 go_upto_region 1 with (at_builtin;refine wpList_appL rfl _ _ rfl rfl HO0.out rfl HP2.out (by have:=HK.out;omega) HBs.out ?_;intro v1 w1 hO1 hg1)
 have hb1:Below w.heap.size w w1:=HA2.out.grown hg1 HA2.out.size (fun k hk=>by cases hk;show w.heap.size≤w.heap.size+1;omega)
 have hone:BA w1 (some ⟨w.heap.size,0,none⟩) 1 (fun _=>m):=HOne.out.kept (r:=w.heap.size+1) hg1 (fun p hp=>by cases hp;show w.heap.size≠w.heap.size+1;omega)
 have hS1:=HS.out.keep hb1
 obtain ⟨x1,c1,rfl,hP1⟩:=own_pl (k:=k+2) (A:=pre2 (some ⟨b,32,none⟩) (some ⟨w.heap.size,0,none⟩) A) (L:=pre2 32 1 L) (C:=pre2 32 1 C) (G:=pre2 s.v (fun _=>m) G) hO1 (by omega) (fun i hi=>by
   rcases i with _ | _ | i
   ·rfl
   ·rfl
   ·exact pcells_at A L C (by omega)) (fun i hi=>by
   rcases i with _ | _ | i
   ·exact hS1.baV hs
   ·exact hone
   ·exact (HP.out.ba i (by omega)).keep hb1) (fun i hi=>by
   rcases i with _ | _ | i
   ·exact ⟨Nat.le_refl _,by show 32≤maxLen;unfold maxLen;omega⟩
   ·exact ⟨Nat.le_refl _,by show 1≤maxLen;unfold maxLen;omega⟩
   ·exact HP.out.cp i (by omega))
 have hlen:=lenF_pre2 32 1 L k
 have HE:=hide (mac_any (d:=c1) (HT.out.keep hb1) (hS1.baK hs) (Nat.le_refl 32) (by unfold maxLen;omega) (by omega) hP1 (by have:=HK.out;omega) (by rw [hlen];have:=HK.out;omega))
 obtain ⟨k1,hk1⟩:∃ k1,k1=macB s.k 32 (withF s.v m (catF L G k)) (33+lenF L k):=⟨_,rfl⟩
 have hmE:mA s.k 32 (catF (pre2 32 1 L) (pre2 s.v (fun _=>m) G) (k+2)) (lenF (pre2 32 1 L) (k+2))=(ab k1 32).toArray:=by
  rw [hlen,mA_congr (catF_pre2 32 1 L s.v (fun _=>m) G k),hk1]
  rfl
 rw [hmE] at HE
 have HRes:Hid (kvStep s m (catF L G k) (lenF L k)=kvNext ⟨k1,s.v⟩):=by show _=_;rw [hk1];rfl
 have HKB:Hid (KV.ok ⟨k1,s.v⟩):=⟨fun i=>by rw [hk1];exact macB_lt _ _ _ _ i,hs.2⟩
 have HS1:=hide hS1
 have HB1:=hide hb1
 clear hS1 hb1 hone hO1 hg1 hP1 hlen hmE hk1 HO0 HP2 HA2 HOne HBs
 go_wp2_with fail
 with_reducible refine Calls.mono HE.out ?_
 rintro e w2 ⟨rfl,hb⟩
 have hS2:=HS1.out.keep hb
 have HTH:Hid (w2.there b 0 (ab k1 32).toArray.size):=by show World.there _ _ _ _;rw [List.size_toArray,ab_len];exact hS2.there 0 32 (by omega)
 have HS3:Hid (Stm (w2.setCells b 0 (ab k1 32).toArray.toList) b ⟨k1,s.v⟩ t):=hS2.setK k1
 have HG3:Hid (w.grownBy (w2.setCells b 0 (ab k1 32).toArray.toList) (some b)):=grown_trans (grown_of (K.call HB1.out hb) _) (grown_sets b (ab k1 32) 0 w2)
 clear hS2 hb HE HS1 HB1
 go_upto_region 2 with (refine wpList_store_mid rfl 60 _ _ rfl b 0 (ab k1 32).toArray rfl rfl HTH.out (inH _) (all_oneCell_toArray (ab_one _ _)) ?_;generalize w2.setCells b 0 (ab k1 32).toArray.toList=Z at HS3 HG3 ⊢)
 have HE:=hide (step_any (HT.out.kept HG3.out HK.out.1) HS3.out HKB.out)
 clear HTH
 go_wp2_with fail
 with_reducible refine Calls.mono HE.out ?_
 rintro e w3 ⟨⟨v,rfl⟩,hS4,hg4⟩
 have HS4:=hide hS4
 have HG4:=hide (grown_trans HG3.out hg4)
 clear hS4 hg4 HE HS3 HG3
 go_wp2_with fail
 exact bodyPost_end (by simp [results,Tryz.results100];rfl) rfl ⟨⟨_,rfl⟩,by rw [HRes.out];exact HS4.out,HG4.out⟩
end Go.Proofs.YtmigakanbeckpaaGreatDoor.Sh
namespace Go.Proofs.YtmigakanbeckpaaGreatDoor.Sh
set_option maxRecDepth 100000
open Go.RowKit
attribute [local go_sem ↓] Go.wp_at_zero Go.wp_at_succ
def kvz (i:Nat):KV:=⟨fun _=>0,ones i⟩
theorem zeroStm (w:World):(zeroValue 105).run Tryz.prog w=.ok (.agg (sc (kvz 0) false).toArray) w :=
 (zero_of_info (P:=Tryz.prog) (t:=105) (v:=.agg (sc (kvz 0) false).toArray) (n:=65) (by kernel_rfl)).1 w
theorem nil_pl (w:World):PL w none 0 (fun _=>none) (fun _=>0) (fun _=>0) (fun _ _=>0):=⟨fun i hi=>by omega,fun i hi=>by omega,Or.inl rfl⟩
theorem new_any {w:World} {k d:Nat} {y:Option Addr} {A:Nat→Option Addr} {L C:Nat→Nat} {G:Nat→Nat→Nat} (hT:Tab w) (hP:PL w y k A L C G) (hk:k≤900000) (hl:lenF L k≤600000) :
  Calls Tryz.prog 59 #[.slice y k d] w fun e w'=>∃ b,e=.returned (.pointer (some ⟨b,0,none⟩))∧w.heap.size≤b∧Stm w' b (kvSeed (catF L G k) (lenF L k)) false∧Below w.heap.size w w':=by
 have HT:=hide hT
 have HL:=hide hT.lt
 have HP:=hide hP
 have HK:=hide (And.intro hk hl)
 clear hT hP hk hl
 have zD:=fun W=>zeroStm W
 go_enter Tryz.func59,Tryz.ntmps59
 go_upto_region 2 with fail
 refine wp_world (fun X hX=>?_)
 have hB:Below w.heap.size w X:=by rw [hX];exact K.alloc (Below.refl _ _) _
 have hS:Stm X w.heap.size (kvz 0) false:=by rw [hX];exact Stm.made w 105 _ _ _ rfl
 clear hX zD
 obtain ⟨b0,hb0⟩:∃ b0,w.heap.size=b0:=⟨_,rfl⟩
 rw [hb0] at hB hS HL ⊢
 have HS:=hide hS
 have HB:=hide hB
 clear hS hB
 go_wp2_with fail
 go_loopg [6] 32 (fun g' s6 wr=>∃ i:Nat,g'=32-i∧i≤32∧s6=.int .i64 i∧Stm wr b0 (kvz i) false∧Below b0 w wr)
 case atStart=>exact ⟨0,rfl,by omega,rfl,HS.out,HB.out⟩
 case round =>
  clear HS HB
  obtain ⟨i,rfl,hi,rfl,hS,hB⟩:=hrel
  by_cases hlt:i<32
  ·have ci:=hS.cv i hlt
   have zi:=hS.z (32+i) (by omega)
   have hii:(i:Int)<32:=by omega
   have HS:=hide hS
   have HB:=hide hB
   have HI:=hide hlt
   have hvl:=hS.lt
   clear hS hB hi hlt
   go_wp2_with fail
   go_roundg (32-(i+1))
   case measure=>have:=HI.out;omega
   case rel=>exact ⟨i+1,rfl,by have:=HI.out;omega,by go_num,(HS.out.setV1 i HI.out 1).congr (fun _ _=>rfl) (fun j hj=>by
    show (if j=i then 1 else ones i j)=ones (i+1) j
    unfold ones
    by_cases e:j=i
    ·subst e;simp
    ·rw [if_neg e];(repeat' split) <;> first | rfl | omega),by subst hb0;exact K.set HB.out (Nat.le_refl _) _⟩
  ·obtain rfl:i=32:=by omega
   have hS0:Stm wr b0 kv0 false:=hS.congr (fun _ _=>rfl) (fun j hj=>by show ones 32 j=1;unfold ones;rw [if_pos hj])
   have hbw:Below w.heap.size w wr:=by rw [hb0];exact hB
   have HE:=hide (renew_any (d:=d) (m:=0) (HT.out.keep hbw) (by have:=HL.out;omega) hS0 kv0_ok (by omega) (HP.out.keep hbw) HK.out.1 HK.out.2)
   have HB:=hide hB
   clear hS hS0 hbw hB hlt hi
   go_wp2_with fail
   with_reducible refine Calls.mono HE.out ?_
   rintro e w2 ⟨⟨v,rfl⟩,hS2,hg2⟩
   have hB2:Below b0 w w2:=HB.out.grown hg2 (by have:=HB.out.size;omega) (fun k hk=>by cases hk;omega)
   have hbw:Below w.heap.size w w2:=by rw [hb0];exact hB2
   have HE2:=hide (renew_any (d:=d) (m:=1) (HT.out.keep hbw) (by have:=HL.out;omega) hS2 (kvStep_ok _ _ _ _) (by omega) (HP.out.keep hbw) HK.out.1 HK.out.2)
   have HB2:=hide hB2
   clear hS2 hg2 hB2 hbw HE HB
   go_wp2_with fail
   with_reducible refine Calls.mono HE2.out ?_
   rintro e w3 ⟨⟨v,rfl⟩,hS3,hg3⟩
   have hB3:Below b0 w w3:=HB2.out.grown hg3 (by have:=HB2.out.size;omega) (fun k hk=>by cases hk;omega)
   have HS3:=hide hS3
   have HB3:=hide hB3
   clear hS3 hg3 hB3 HE2 HB2
   go_wp2_with fail
   go_ret
   exact ⟨_,rfl,by omega,HS3.out,by rw [hb0];exact HB3.out⟩
def kvMore (s:KV) (t:Bool):KV:=kvNext (if t=true then kvStep s 0 (fun _=>0) 0 else s)
theorem kvMore_ok {s:KV} (h:s.ok) (t:Bool):(kvMore s t).ok:=by
 unfold kvMore
 split
 ·exact kvNext_ok (kvStep_ok _ _ _ _)
 ·exact kvNext_ok h
theorem kvAt_next (g:Nat→Nat) (m:Nat):∀ i,kvMore (kvAt g m i) (decide (0<i))=kvAt g m (i+1)
 | 0=>rfl
 | _+1=>rfl
theorem next_any {w:World} {b:Nat} {s:KV} {t:Bool} (hT:Tab w) (h2:5≤b) (hS:Stm w b s t) (hs:s.ok) :
  Calls Tryz.prog 62 #[.pointer (some ⟨b,0,none⟩)] w fun e w'=>e=.returned (.agg (ab (kvMore s t).v 32).toArray)∧Stm w' b (kvMore s t) true∧w.grownBy w' (some b):=by
 have HT:=hide hT
 have HK:=hide h2
 have HSo:=hide hs
 have hlt0:=hS.lt
 have HL:=hide hlt0
 go_enter Tryz.func62,Tryz.ntmps62
 go_upto_region 1 with fail
 refine wp_world (fun X hX=>?_)
 have hB:Below w.heap.size w X:=by rw [hX];exact K.alloc (Below.refl _ _) _
 have hH:RowB X w.heap.size 32 (fun _=>0):=by rw [hX];exact RowB.made w 60 32 (fun _=>0) _ zeros32
 have hSX:=hS.keep hB
 clear hX
 obtain ⟨b0,hb0⟩:∃ b0,w.heap.size=b0:=⟨_,rfl⟩
 have HG:Hid (w.grownBy X (some b)):=grown_of hB _
 have HTX:=hide (HT.out.keep hB)
 rw [hb0] at hH HL ⊢
 have HH:=hide hH
 have HS:=hide hSX
 have cg:=hSX.cg
 clear hH hB hSX hS hs h2 hT hlt0
 go_upto_if 9 with fail
 go_cut [] (fun wc=>Stm wc b (if t=true then kvStep s 0 (fun _=>0) 0 else s) t∧RowB wc b0 32 (fun _=>0)∧w.grownBy wc (some b))
 case first =>
  cases t with
  | true =>
   have HE:=hide (renew_any (d:=0) (m:=0) HTX.out HK.out HS.out HSo.out (by omega) (nil_pl X) (by omega) (by simp only [lenF];omega))
   go_wp2_with fail
   with_reducible refine Calls.mono HE.out ?_
   rintro e w2 ⟨⟨v,rfl⟩,hS2,hg2⟩
   have hH2:RowB w2 b0 32 (fun _=>0):=⟨Nat.lt_of_lt_of_le HH.out.lt hg2.size,fun i hi=>hg2.cell (HH.out.c i hi) (by have:=HL.out;simp;omega),fun i hi=>by
    rw [World.frozen?_of_block (w:=X) (hg2.block b0 HH.out.lt (by have:=HL.out;simp;omega))];exact HH.out.z i hi⟩
   have hG2:=grown_trans HG.out hg2
   clear hg2 HE cg
   go_wp2_with fail
   go_meet
   case rel=>exact ⟨hS2,hH2,hG2⟩
  | false =>
   go_wp2_with fail
   go_meet
   case rel=>exact ⟨HS.out,HH.out,HG.out⟩
 case rest =>
  obtain ⟨hS1,hH1,hG1⟩:=hcut
  obtain ⟨s1,hs1⟩:∃ s1,s1=(if t=true then kvStep s 0 (fun _=>0) 0 else s):=⟨_,rfl⟩
  rw [← hs1] at hS1
  have HRes:Hid (kvMore s t=kvNext s1):=by show _=_;rw [hs1];rfl
  have HO1:Hid s1.ok:=by
   show s1.ok
   rw [hs1]
   split
   ·exact kvStep_ok _ _ _ _
   ·exact HSo.out
  have c1:=hS1.cg
  have z1:=hS1.z 64 (by omega)
  have HS2:=hide (hS1.setG true)
  have HG2:=hide (grown_trans hG1 (grown_set wc b 64 (.bool true)))
  have HH2:Hid (RowB (wc.setCell ⟨b,64,none⟩ (.bool true)) b0 32 (fun _=>0)):=row8_other hH1 (by have:=HL.out;omega) 64 _
  clear hS1 hH1 hG1 hs1 cg HS HH HG HTX
  go_upto_region 6 with fail
  generalize wc.setCell ⟨b,64,none⟩ (.bool true)=Y at HS2 HG2 HH2 ⊢
  clear c1 z1
  have HE:=hide (step_any (HT.out.kept HG2.out HK.out) HS2.out HO1.out)
  go_upto_region 7 with fail
  with_reducible refine Calls.mono HE.out ?_
  rintro e w3 ⟨⟨v,rfl⟩,hS3,hg3⟩
  have hH3:RowB w3 b0 32 (fun _=>0):=⟨Nat.lt_of_lt_of_le HH2.out.lt hg3.size,fun i hi=>hg3.cell (HH2.out.c i hi) (by have:=HL.out;simp;omega),fun i hi=>by
   rw [World.frozen?_of_block (w:=Y) (hg3.block b0 HH2.out.lt (by have:=HL.out;simp;omega))];exact HH2.out.z i hi⟩
  have hG3:=grown_trans HG2.out hg3
  rw [← HRes.out] at hS3
  obtain ⟨s3,hs3⟩:∃ s3,s3=kvMore s t:=⟨_,rfl⟩
  rw [← hs3] at hS3
  have HRes3:=hide hs3
  have HRV:=hide hS3.rangeV
  have HTH:=hide (RowB.there hH3 s3.v)
  have HST:=hide (RowB.stored hH3 s3.v)
  have HS4:Hid (Stm (w3.setCells b0 0 (ab s3.v 32).toArray.toList) b s3 true):=hS3.keptO (grown_sets b0 (ab s3.v 32) 0 w3) (by have:=HL.out;simp;omega)
  have HG4:Hid (w.grownBy (w3.setCells b0 0 (ab s3.v 32).toArray.toList) (some b)):=by
   refine ⟨(grown_sets b0 (ab s3.v 32) 0 w3).os.trans hG3.os,(grown_sets b0 (ab s3.v 32) 0 w3).tape.trans hG3.tape,(grown_sets b0 (ab s3.v 32) 0 w3).output.trans hG3.output,Nat.le_trans hG3.size (grown_sets b0 (ab s3.v 32) 0 w3).size,fun i hi hn=>?_⟩
   rw [(grown_sets b0 (ab s3.v 32) 0 w3).block i (Nat.lt_of_lt_of_le hi hG3.size) (by simp;omega)]
   exact hG3.block i hi hn
  clear hS3 hH3 hG3 hg3 hs3 HE HS2 HG2 HH2
  generalize hV:s3.v=V at HRV HTH HST HS4 HG4
  have HV:=hide hV
  clear hV
  go_wp2_with (first
   | (refine wpList_load_mid rfl 60 _ rfl _ 32 rfl (ab V 32) _ HRV.out Tryz.underlying60 rfl (ilH _) ?_;simp only [Act.put,List.setIfInBounds_toArray,List.set_cons_zero,List.set_cons_succ])
   | (refine wpList_store_mid rfl 60 _ _ rfl b0 0 (ab V 32).toArray rfl rfl HTH.out (inH _) (all_oneCell_toArray (ab_one _ _)) ?_;generalize w3.setCells b0 0 (ab V 32).toArray.toList=Z at HST HS4 HG4 ⊢))
  exact bodyPost_ret (results_cell_mid Tryz.results62 _ _ b0 (ab V 32) _ rfl (RowB.range HST.out) Tryz.underlying60 rfl (ilH _)) rfl ⟨by rw [← HRes3.out,HV.out],by rw [← HRes3.out];exact HS4.out,HG4.out⟩
end Go.Proofs.YtmigakanbeckpaaGreatDoor.Sh
namespace Go.Proofs.YtmigakanbeckpaaGreatDoor.Sh
set_option maxRecDepth 100000
open Go.RowKit
theorem new_two_at {w:World} {q:Nat} {y z:Option Addr} {m d l r:Nat} {g k:Nat→Nat} (hT:Tab w) (hy:BA w y m g) (hd:m≤d) (hdm:d≤maxLen) (hz:BA w z l k) (hr:l≤r) (hrm:r≤maxLen) (hm:m+l≤600000) (hq:w.cell? ⟨q,0,none⟩=some (.slice y m d)) (hq2:w.cell? ⟨q,1,none⟩=some (.slice z l r)) :
  Calls Tryz.prog 59 #[.slice (some ⟨q,0,none⟩) 2 2] w fun e w'=>∃ b,e=.returned (.pointer (some ⟨b,0,none⟩))∧w.heap.size≤b∧Stm w' b (kvSeed (cat g m k) (m+l)) false∧Below w.heap.size w w':=by
 have e1:lenF (fun i=>if i=0 then m else l) 2=m+l:=by simp [lenF]
 have e2:catF (fun i=>if i=0 then m else l) (fun i=>if i=0 then g else k) 2=cat g m k:=by simp [catF,lenF,cat_zero]
 have h:=new_any (d:=2) (y:=some ⟨q,0,none⟩) (k:=2) (A:=fun i=>if i=0 then y else z) (L:=fun i=>if i=0 then m else l) (C:=fun i=>if i=0 then d else r) (G:=fun i=>if i=0 then g else k) hT ⟨fun i hi=>by
  rcases (show i=0∨i=1 by omega) with rfl | rfl
  ·exact hy
  ·exact hz,fun i hi=>by
  rcases (show i=0∨i=1 by omega) with rfl | rfl
  ·exact ⟨hd,hdm⟩
  ·exact ⟨hr,hrm⟩,Or.inr ⟨_,_,rfl,fun i hi=>by
  rcases (show i=0∨i=1 by omega) with rfl | rfl
  ·exact hq
  ·exact hq2⟩⟩ (by omega) (by rw [e1];exact hm)
 rw [e1,e2] at h
 exact h
end Go.Proofs.YtmigakanbeckpaaGreatDoor.Sh
namespace Go.Proofs.YtmigakanbeckpaaGreatDoor
set_option maxRecDepth 100000
open Go.RowKit
def rmPd (n:Nat) (l:List Nat):Pd:=⟨fun v F w=>(rdPd n l).p v F w∧∃ z m c,v=.slice z m c∧c≤maxLen,fun hs hb ⟨h1,h2⟩=>⟨(rdPd n l).keep hs hb h1,h2⟩⟩
def stmPd (s:Sh.KV) (t:Bool):Pd:=⟨fun v F w=>∃ b,v=.pointer (some ⟨b,0,none⟩)∧(∀ k,F k=true ↔ k=b)∧5≤b∧Sh.Stm w b s t,fun {v F w w'} hs hb ⟨b,h1,h2,h3,h4⟩=>by
 have e:=hb b ((h2 b).2 rfl)
 refine ⟨b,h1,h2,h3,⟨Nat.lt_of_lt_of_le h4.lt hs,fun j x hj=>?_,fun i hi=>?_⟩⟩
 ·rw [World.cell?_of_block (w:=w) e]
  exact h4.r j x hj
 ·have q:=h4.z i hi
  unfold World.frozen? at q ⊢
  simp only [e]
  exact q⟩
theorem cat_app {l1 l2:List Nat} {n:Nat} (h:l1.length=n):Sh.cat (fun i=>l1.getD i 0) n (fun i=>l2.getD i 0)=fun i=>(l1++l2).getD i 0:=by
 funext i
 unfold Sh.cat
 subst h
 show (if i<l1.length then l1.getD i 0 else l2.getD (i-l1.length) 0)=(l1++l2).getD i 0
 rw [List.getD_eq_getElem?_getD,List.getD_eq_getElem?_getD,List.getD_eq_getElem?_getD,List.getElem?_append]
 split <;> rfl
theorem rm_ba {n:Nat} {l:List Nat} {v:Value} {F:Nat→Bool} {w:World} (h:(rmPd n l).p v F w):∃ z c,v=.slice z n c∧n≤c∧c≤maxLen∧l.length=n∧BA w z n (fun i=>l.getD i 0):=by
 obtain ⟨⟨z,c,h1,h2,h3,h4,_⟩,z',m,c',h5,h6⟩:=h
 rw [h1] at h5
 cases h5
 exact ⟨z,c,h1,h2,h6,h3,h4⟩
theorem qNew {n1 n2:Nat} {l1 l2:List Nat} {v:Value} {F:Nat→Bool} {w:World} (hH:Sh.Tab w) (hn:n1+n2≤600000) (h:(twoG (rmPd n1 l1) (rmPd n2 l2)).p v F w):Calls Tryz.prog 59 [v].toArray w fun e w'=>∃ r Fp,e=.returned r∧(stmPd (Sh.kvSeed (fun i=>(l1++l2).getD i 0) (n1+n2)) false).p r Fp w'∧(∀ b,Fp b=true→w.heap.size≤b∧b<w'.heap.size)∧Below w.heap.size w w':=by
 obtain ⟨g,v1,v2,rfl,_,h3,h4,h5,h6⟩:=h
 obtain ⟨z1,c1,rfl,a1,a2,a3,a4⟩:=rm_ba h5
 obtain ⟨z2,c2,rfl,b1,b2,_,b4⟩:=rm_ba h6
 have q:=Sh.new_two_at hH (ba_sh a4) a1 a2 (ba_sh b4) b1 b2 hn h3 h4
 rw [cat_app a3] at q
 refine Calls.mono q ?_
 rintro e w' ⟨b,rfl,q1,q2,q3⟩
 exact ⟨_,fun k=>decide (k=b),rfl,⟨b,rfl,fun k=>by simp,Nat.le_trans hH.lt q1,q2⟩,fun k hk=>by
  have:k=b:=by simpa using hk
  subst this
  exact ⟨q1,q2.lt⟩,q3⟩
theorem qNext {s:Sh.KV} {t:Bool} {v:Value} {F:Nat→Bool} {w:World} (hH:Sh.Tab w) (hs:s.ok) (h:(stmPd s t).p v F w):Calls Tryz.prog 62 [v].toArray w fun e w'=>e=.returned (.agg (by32 (fun i=>(((Sh.kvMore s t).v i:Nat):Int))).toArray)∧∃ Fp,(stmPd (Sh.kvMore s t) true).p v Fp w'∧(∀ b,Fp b=true→(F b=true∨w.heap.size≤b)∧b<w'.heap.size)∧w'.os=w.os∧w'.tape=w.tape∧w'.output=w.output∧w.heap.size≤w'.heap.size∧∀ k,k<w.heap.size→F k=false→w'.heap[k]?=w.heap[k]?:=by
 obtain ⟨b,rfl,h2,h3,h4⟩:=h
 refine Calls.mono (Sh.next_any hH h3 h4 hs) ?_
 rintro e w' ⟨rfl,q1,q2⟩
 refine ⟨rfl,F,⟨b,rfl,h2,h3,q1⟩,fun k hk=>?_,q2.os,q2.tape,q2.output,q2.size,fun k hk hf=>q2.block k hk (fun e=>?_)⟩
 ·have e:=(h2 k).1 hk
  subst e
  exact ⟨Or.inl hk,q1.lt⟩
 ·cases e
  rw [(h2 b).2 rfl] at hf
  cases hf
theorem vs_rm {n:Nat} {l:List Nat}:Vs (rmPd n l) (rmPd n l) id:=⟨fun v F w h=>⟨h,by obtain ⟨_,z,m,c,h1,_⟩:=h;exact ⟨z,m,c,h1⟩⟩,fun v F G w h1 h2=>⟨rd_more h1.1 h2,h1.2⟩⟩
theorem qPutBig (A:Nat) (w:World):Calls Tryz.prog 52 [.agg (nc (A:Int)).toArray].toArray w fun r w'=>∃ v Fp,r=.returned v∧(rmPd 32 (De.be A 32)).p v Fp w'∧(∀ b,Fp b=true→w.heap.size≤b∧b<w'.heap.size)∧Below w.heap.size w w':=by
 refine Calls.mono (putBig_any (A:Int) w) ?_
 rintro e w' ⟨rfl,hR,hb⟩
 refine ⟨_,fun b=>Nat.beq b _,rfl,⟨⟨_,32,rfl,Nat.le_refl _,De.be_len A 32,⟨fun i=>?_,Or.inr ⟨_,_,rfl,hR.rd.congr (fun i hi=>?_)⟩⟩,fun p hp=>by cases hp;exact Nat.beq_refl _⟩,_,_,_,rfl,by decide⟩,fun b hb'=>?_,hb⟩
 ·show (De.be A 32).getD i 0<256
  rw [List.getD_eq_getElem?_getD]
  cases hi:(De.be A 32)[i]? with
  | none=>decide
  | some x=>exact De.be_lt A 32 x (List.mem_of_getElem? hi)
 ·show Y (31-i) (A:Int)=(((De.be A 32).getD i 0:Nat):Int)
  rw [De.Y_nat,De.be_getD A hi,show 32-1-i=31-i by omega]
 ·rw [Nat.eq_of_beq_eq_true hb']
  exact ⟨Nat.le_succ _,hR.lt⟩
def ks (g:Nat→Nat) (i:Nat):Nat:=De.num (fl (Sh.kvAt g 64 (i+1)).v 32)
theorem kv_ok (g:Nat→Nat):∀ i,(Sh.kvAt g 64 i).ok
 | 0=>Sh.kvStep_ok _ _ _ _
 | i+1=>by
  rw [← Sh.kvAt_next]
  exact Sh.kvMore_ok (kv_ok g i) _
theorem ks_lt (g:Nat→Nat) (i:Nat):ks g i<2 ^ 256:=by
 have h:=De.num_lt (fl_lt (f:=(Sh.kvAt g 64 (i+1)).v) (fun j=>(kv_ok g (i+1)).2 j) 32)
 rw [fl_len] at h
 exact Nat.lt_of_lt_of_le h (by decide)
def kl (g:Nat→Nat):Nat→List Nat
 | 0=>[]
 | i+1=>if wi (ks g i)=true then kl g i++[ks g i] else kl g i
theorem kl_len (g:Nat→Nat):∀ i,(kl g i).length≤i
 | 0=>Nat.le_refl _
 | i+1=>by
  have:=kl_len g i
  unfold kl
  split
  ·rw [List.length_append,List.length_singleton];omega
  ·omega
theorem kl_wi (g:Nat→Nat):∀ i,∀ k ∈ kl g i,wi k=true
 | 0,k,h=>by cases h
 | i+1,k,h=>by
  unfold kl at h
  split at h
  ·rename_i hw
   rcases List.mem_append.1 h with h | h
   ·exact kl_wi g i k h
   ·rw [List.mem_singleton.1 h];exact hw
  ·exact kl_wi g i k h
def ncl:List Nat→List Value
 | []=>[]
 | a :: l=>nc (a:Int)++ncl l
theorem ncl_app:∀ (l:List Nat) (a:Nat),ncl (l++[a])=ncl l++nc (a:Int)
 | [],a=>List.append_nil _
 | b :: l,a=>by
  show nc (b:Int)++ncl (l++[a])=nc (b:Int)++ncl l++nc (a:Int)
  rw [ncl_app l a,List.append_assoc]
theorem nc_len (a:Int):(nc a).length=4:=rfl
theorem ncl_at:∀ (l:List Nat) (k:Nat),k<l.length→nc ((l.getD k 0:Nat):Int)=((ncl l).drop (k*4)).take 4
 | [],k,h=>by cases h
 | a :: l,0,_=>by
  show nc (a:Int)=((nc (a:Int)++ncl l).drop 0).take 4
  rw [List.drop_zero,List.take_append_of_le_length (by rw [nc_len];omega),List.take_of_length_le (by rw [nc_len];omega)]
 | a :: l,k+1,h=>by
  rw [show (a :: l).getD (k+1) 0=l.getD k 0 from rfl,ncl_at l k (by simpa using h)]
  show _=((nc (a:Int)++ncl l).drop ((k+1)*4)).take 4
  rw [List.drop_append,show List.drop ((k+1)*4) (nc (a:Int))=[] from List.drop_eq_nil_of_le (by rw [nc_len];omega),List.nil_append,nc_len,show (k+1)*4-4=k*4 by omega]
def nrPd (l:List Nat):Pd:=rowPd 24 4 l.length (ncl l)
theorem row_yes {g:Nat→Nat} {k:Nat} (h:wi (ks g k)=true):rowPd 24 4 ((kl g k).length+1) (ncl (kl g k)++nc ((ks g k:Nat):Int))=rowPd 24 4 (kl g (k+1)).length (ncl (kl g (k+1))):=by
 rw [show kl g (k+1)=kl g k++[ks g k] from if_pos h,ncl_app,List.length_append,List.length_singleton]
theorem row_no {g:Nat→Nat} {k:Nat} (h:wi (ks g k)=false):rowPd 24 4 (kl g k).length (ncl (kl g k))=rowPd 24 4 (kl g (k+1)).length (ncl (kl g (k+1))):=by
 rw [show kl g (k+1)=kl g k from if_neg (by rw [h];decide)]
theorem qNextAt {g:Nat→Nat} {k:Nat} {v:Value} {F:Nat→Bool} {w:World} (hH:Sh.Tab w) (h:(stmPd (Sh.kvAt g 64 k) (decide (0<k))).p v F w):Calls Tryz.prog 62 [v].toArray w fun e w'=>e=.returned (.agg (by32 (fun j=>(((Sh.kvAt g 64 (k+1)).v j:Nat):Int))).toArray)∧∃ Fp,(stmPd (Sh.kvAt g 64 (k+1)) (decide (0<k+1))).p v Fp w'∧(∀ b,Fp b=true→(F b=true∨w.heap.size≤b)∧b<w'.heap.size)∧w'.os=w.os∧w'.tape=w.tape∧w'.output=w.output∧w.heap.size≤w'.heap.size∧∀ k,k<w.heap.size→F k=false→w'.heap[k]?=w.heap[k]?:=by
 have q:=qNext hH (kv_ok g k) h
 rw [Sh.kvAt_next] at q
 rw [show decide (0<k+1)=true from decide_eq_true (by omega)]
 exact q
end Go.Proofs.YtmigakanbeckpaaGreatDoor
namespace Go.Proofs.YtmigakanbeckpaaGreatDoor
open Go.RowKit
theorem mul1 {w:World} (hT:Tab w) {a b c:Nat} (ha:a<2 ^ 256) (hb:b<2 ^ 256) (hc:((a:Int)*b) % md 1=(c:Int)):Calls Tryz.prog 78 [.int .i64 1,.agg (nc (a:Int)).toArray,.agg (nc (b:Int)).toArray].toArray w fun e w'=>e=.returned (.agg (nc (c:Int)).toArray)∧Below w.heap.size w w':=by
 have h:=f_mul (k:=1) ⟨by decide,by decide⟩ (num_natX ha) (num_natX hb) hT
 rw [hc] at h
 exact h
theorem add1 {w:World} (hT:Tab w) {a b c:Nat} (ha:a<2 ^ 256) (hb:b<2 ^ 256) (hc:((a:Int)+b) % md 1=(c:Int)):Calls Tryz.prog 79 [.int .i64 1,.agg (nc (a:Int)).toArray,.agg (nc (b:Int)).toArray].toArray w fun e w'=>e=.returned (.agg (nc (c:Int)).toArray)∧Below w.heap.size w w':=by
 have h:=f_add (k:=1) ⟨by decide,by decide⟩ (num_natX ha) (num_natX hb) hT
 rw [hc] at h
 exact h
theorem inv1 {w:World} (hT:Tab w) {a c:Nat} (ha:a<2 ^ 256) (hc:pw (a:Int) (md 1-2) % md 1=(c:Int)):Calls Tryz.prog 76 [.int .i64 1,.agg (nc (a:Int)).toArray].toArray w fun e w'=>e=.returned (.agg (nc (c:Int)).toArray)∧Below w.heap.size w w':=by
 have h:=f_inv (k:=1) ⟨by decide,by decide⟩ (num_natX ha) hT
 rw [hc] at h
 exact h
theorem foldP {w:World} (hT:Tab w) {x:Fin m0} {b:Nat} (hb:(x.val:Int) % md 1=(b:Int)):Calls Tryz.prog 60 [.int .i64 1,.agg (fc x).toArray].toArray w fun e w'=>e=.returned (.agg (nc (b:Int)).toArray)∧Below w.heap.size w w':=by
 have h:=f_fold (k:=1) ⟨by decide,by decide⟩ (fin_num x) hT
 rw [hb] at h
 exact h
end Go.Proofs.YtmigakanbeckpaaGreatDoor
namespace Go.Proofs.YtmigakanbeckpaaGreatDoor
open Go.RowKit
theorem i24T:(Tryz.prog.info? 24).map (·.size)=some 4:=by kernel_rfl
theorem i44T:(Tryz.prog.info? 44).map (·.size)=some 9:=by kernel_rfl
theorem i5T:(Tryz.prog.info? 5).map (·.size)=some 1:=by kernel_rfl
theorem infoL1:(Tryz.prog.info? 25).map (fun i=>(i.zero,i.size))=some (some (.slice none 0 0),1):=by kernel_rfl
theorem infoN1:(Tryz.prog.info? 24).map (fun i=>(i.zero,i.size))=some (some (.agg nz.toArray),4):=by kernel_rfl
theorem infoN3:(Tryz.prog.info? 24).map (fun i=>(i.zero,i.size,i.bytes))=some (some (.agg nz.toArray),4,32):=by kernel_rfl
theorem nc_one (a:Int):∀ x ∈ nc a,x.oneCell'=true:=by
 intro x hx
 simp only [nc,List.mem_cons,List.not_mem_nil,or_false] at hx
 rcases hx with rfl | rfl | rfl | rfl <;> rfl
theorem cT50 (vs:List Value):∀ w,(callFunc 50 vs.toArray).run Tryz.prog w=.ok (.enter 50 vs.toArray) w:=callFunc_enter Tryz.func50 (by kernel_rfl) (by kernel_rfl) _
theorem cT53 (vs:List Value):∀ w,(callFunc 53 vs.toArray).run Tryz.prog w=.ok (.enter 53 vs.toArray) w:=callFunc_enter Tryz.func53 (by kernel_rfl) (by kernel_rfl) _
theorem cT54 (vs:List Value):∀ w,(callFunc 54 vs.toArray).run Tryz.prog w=.ok (.enter 54 vs.toArray) w:=callFunc_enter Tryz.func54 (by kernel_rfl) (by kernel_rfl) _
theorem cT60 (vs:List Value):∀ w,(callFunc 60 vs.toArray).run Tryz.prog w=.ok (.enter 60 vs.toArray) w:=callFunc_enter Tryz.func60 (by kernel_rfl) (by kernel_rfl) _
theorem cT78 (vs:List Value):∀ w,(callFunc 78 vs.toArray).run Tryz.prog w=.ok (.enter 78 vs.toArray) w:=callFunc_enter Tryz.func78 (by kernel_rfl) (by kernel_rfl) _
theorem cT79 (vs:List Value):∀ w,(callFunc 79 vs.toArray).run Tryz.prog w=.ok (.enter 79 vs.toArray) w:=callFunc_enter Tryz.func79 (by kernel_rfl) (by kernel_rfl) _
theorem cT76 (vs:List Value):∀ w,(callFunc 76 vs.toArray).run Tryz.prog w=.ok (.enter 76 vs.toArray) w:=callFunc_enter Tryz.func76 (by kernel_rfl) (by kernel_rfl) _
theorem cT25 (vs:List Value):∀ w,(callFunc 25 vs.toArray).run Tryz.prog w=.ok (.enter 25 vs.toArray) w:=callFunc_enter Tryz.func25 (by kernel_rfl) (by kernel_rfl) _
theorem cT27 (vs:List Value):∀ w,(callFunc 27 vs.toArray).run Tryz.prog w=.ok (.enter 27 vs.toArray) w:=callFunc_enter Tryz.func27 (by kernel_rfl) (by kernel_rfl) _
theorem cT75 (vs:List Value):∀ w,(callFunc 75 vs.toArray).run Tryz.prog w=.ok (.enter 75 vs.toArray) w:=callFunc_enter Tryz.func75 (by kernel_rfl) (by kernel_rfl) _
theorem cT74 (vs:List Value):∀ w,(callFunc 74 vs.toArray).run Tryz.prog w=.ok (.enter 74 vs.toArray) w:=callFunc_enter Tryz.func74 (by kernel_rfl) (by kernel_rfl) _
theorem cT61 (vs:List Value):∀ w,(callFunc 61 vs.toArray).run Tryz.prog w=.ok (.enter 61 vs.toArray) w:=callFunc_enter Tryz.func61 (by kernel_rfl) (by kernel_rfl) _
theorem cT31 (vs:List Value):∀ w,(callFunc 31 vs.toArray).run Tryz.prog w=.ok (.enter 31 vs.toArray) w:=callFunc_enter Tryz.func31 (by kernel_rfl) (by kernel_rfl) _
theorem qIn_0 {w:World} {A:Nat} (hA:A<2 ^ 256) (hz:A=0):Calls Tryz.prog 25 [.agg (nc (((A:Nat):Int))).toArray].toArray w fun e w'=>e=.returned (.bool false)∧Below w.heap.size w w':=by
 refine enter (args:=[.agg (nc (((A:Nat):Int))).toArray]) Tryz.func25 rfl 10 rfl (lk rfl) (fun a h=>?_)
 refine aX h [] [eN 1 _,eS 2 _] ⟨rfl,rfl,T0⟩ [(1,.ptr 1 0)] [(1,nc (((A:Nat):Int)))] (fun a w h=>?_)
 refine aX h [1,2] [eS 3 _,eS 4 (.val (.agg (nz).toArray)),eS 5 (.val (Value.bool false)),eS 6 _,eS 7 _,eS 8 _,eS 9 _,eS 2 _] ⟨rfl,fun L u=>u_build u (gd0 rfl) 4 rfl 24 #[] rfl [] rfl (nz) (nb0X),fun L u=>u_neq u (gd0 rfl) 5 rfl 24 24 (.tmp 3) (.tmp 4) rfl rfl rfl Tryz.eqGuardType24 (true) (fun w=>eq_z0 hA (by rw [decide_eq_true hz]) w),rfl,rfl,rfl,rfl,rfl,T0⟩ [(2,.val (Value.bool false))] [] (fun a w h=>?_)
 refine wp_ret ?_
 refine ret_slot h 2 rfl (lk rfl) (Value.bool false) rfl ?_
 exact ⟨rfl,h.grows⟩
theorem qIn_1 {w:World} (hT:Tab w) {A:Nat} (hA:A<2 ^ 256) (hz:¬ A=0):Calls Tryz.prog 25 [.agg (nc (((A:Nat):Int))).toArray].toArray w fun e w'=>e=.returned (.bool (decide ((A:Int)<md 1)))∧Below w.heap.size w w':=by
 refine enter (args:=[.agg (nc (((A:Nat):Int))).toArray]) Tryz.func25 rfl 10 rfl (lk rfl) (fun a h=>?_)
 refine aX h [] [eN 1 _,eS 2 _] ⟨rfl,rfl,T0⟩ [(1,.ptr 1 0)] [(1,nc (((A:Nat):Int)))] (fun a w h=>?_)
 refine aX h [1,2,5] [eS 3 _,eS 4 (.val (.agg (nz).toArray)),eS 5 (.val (Value.bool true)),eS 6 _,eS 7 _,eS 8 (.val (Value.bool (decide ((A:Int)<md 1)))),eS 9 _,eS 2 _] ⟨rfl,fun L u=>u_build u (gd0 rfl) 4 rfl 24 #[] rfl [] rfl (nz) (nb0X),fun L u=>u_neq u (gd0 rfl) 5 rfl 24 24 (.tmp 3) (.tmp 4) rfl rfl rfl Tryz.eqGuardType24 (false) (fun w=>eq_z0 hA (by rw [decide_eq_false hz]) w),rfl,rfl,fun L u=>u_call u (gd1 u 3 true rfl 6 rfl (lk rfl) rfl) _ rfl _ _ _ rfl [_,_] rfl (cT50 _) _ (fun w hb=>below_any (k:=1) (num_natX hA) (hT.keep (Bs.kp_of hb))),rfl,rfl,T0⟩ [(2,.val (Value.bool (decide ((A:Int)<md 1))))] [] (fun a w h=>?_)
 refine wp_ret ?_
 refine ret_slot h 2 rfl (lk rfl) (Value.bool (decide ((A:Int)<md 1))) rfl ?_
 exact ⟨rfl,h.grows⟩
theorem qIn {w:World} (hT:Tab w) {A:Nat} (hA:A<2 ^ 256):Calls Tryz.prog 25 [.agg (nc (((A:Nat):Int))).toArray].toArray w fun e w'=>e=.returned (.bool (wi A))∧Below w.heap.size w w':=by
 by_cases hz:A=0
 ·rw [show wi A=false from decide_eq_false (fun q=>q.1 hz)]
  exact qIn_0 hA hz
 ·rw [show wi A=decide ((A:Int)<md 1) by unfold wi;simp [hz]]
  exact qIn_1 hT hA hz
theorem qTB {w:World} (hT:Tab w) {A:Nat} (hA:A<2 ^ 256):Calls Tryz.prog 27 [.agg (nc (((A:Nat):Int))).toArray].toArray w fun e w'=>e=.returned (.agg (pc (mt wplus Wp.o wG A)).toArray)∧Below w.heap.size w w':=by
 refine enter (args:=[.agg (nc (((A:Nat):Int))).toArray]) Tryz.func27 rfl 6 rfl (lk rfl) (fun a h=>?_)
 refine aX h [] [eN 1 _,eN 2 _] ⟨rfl,rfl,T0⟩ [(1,.ptr 1 0),(2,.ptr 2 0)] [(1,nc (((A:Nat):Int))),(2,nz++nz++[Value.bool false])] (fun a w h=>?_)
 refine aX h [1,2] [eS 3 _,eS 4 (.val (.agg (pc (wG)).toArray)),eS 5 (.val (.agg (pc (mt wplus Wp.o wG A)).toArray)),eM 2 _] ⟨rfl,fun L u=>u_call u (gd0 rfl) _ rfl _ _ _ rfl [] rfl (cT54 _) _ (fun w hb=>q_Base),fun L u=>u_call u (gd0 rfl) _ rfl _ _ _ rfl [_,_] rfl (cT53 _) (.agg (pc (mt wplus Wp.o wG A)).toArray) (fun w hb=>by have q:=q_Mul (hT.keep (Bs.kp_of hb)) hA (fin_num (px wG)) (fin_num (py wG)) wG.isNone;rw [rp_pc wG_on] at q;exact q),rfl,T0⟩ [(2,_)] [(2,pc (mt wplus Wp.o wG A))] (fun a w h=>?_)
 refine wp_ret ?_
 refine ret_row h 2 44 rfl (lk rfl) 2 rfl (pc (mt wplus Wp.o wG A)) rfl _ Tryz.underlying44 rfl i44T ?_
 exact ⟨rfl,h.grows⟩
theorem qX_at {w:World} (hT:Tab w) {x y:Fin m0} {b:Bool} {r:Nat} (hr:(x.val:Int) % md 1=(r:Int)):Calls Tryz.prog 75 [.agg (fc (x)++fc (y)++[Value.bool b]).toArray].toArray w fun e w'=>e=.returned (.agg (nc ((r:Nat):Int)).toArray)∧Below w.heap.size w w':=by
 refine enter (args:=[.agg (fc (x)++fc (y)++[Value.bool b]).toArray]) Tryz.func75 rfl 6 rfl (lk rfl) (fun a h=>?_)
 refine aX h [] [eN 1 _,eN 2 _] ⟨rfl,rfl,T0⟩ [(1,.ptr 1 0),(2,.ptr 2 0)] [(1,fc (x)++fc (y)++[Value.bool b]),(2,nz)] (fun a w h=>?_)
 refine aX h [2] [eS 3 _,eS 4 _,eS 5 (.val (.agg (nc (((r:Nat):Int))).toArray)),eM 2 _] ⟨rfl,rfl,fun L u=>u_call u (gd0 rfl) _ rfl _ _ _ rfl [_,_] rfl (cT60 _) _ (fun w hb=>foldP (hT.keep (Bs.kp_of hb)) hr),rfl,T0⟩ [(2,_)] [(2,nc (((r:Nat):Int)))] (fun a w h=>?_)
 refine wp_ret ?_
 refine ret_row h 2 24 rfl (lk rfl) 2 rfl (nc (((r:Nat):Int))) rfl _ Tryz.underlying24 rfl i24T ?_
 exact ⟨rfl,h.grows⟩
theorem qX {w:World} (hT:Tab w) (a:Wp m0):Calls Tryz.prog 75 [.agg (pc a).toArray].toArray w fun e w'=>e=.returned (.agg (nc ((mo ((px a).val:Int):Nat):Int)).toArray)∧Below w.heap.size w w':=qX_at (x:=px a) (y:=py a) (b:=a.isNone) hT (mo_eq _)
theorem qQ_at {w:World} (hT:Tab w) {A B v c:Nat} (hA:A<2 ^ 256) (hB:B<2 ^ 256) (hv:pw (B:Int) (md 1-2) % md 1=(v:Int)) (hv2:v<2 ^ 256) (hc:((A:Int)*v) % md 1=(c:Int)):Calls Tryz.prog 74 [.agg (nc (((A:Nat):Int))).toArray,.agg (nc (((B:Nat):Int))).toArray].toArray w fun e w'=>e=.returned (.agg (nc ((c:Nat):Int)).toArray)∧Below w.heap.size w w':=by
 refine enter (args:=[.agg (nc (((A:Nat):Int))).toArray,.agg (nc (((B:Nat):Int))).toArray]) Tryz.func74 rfl 9 rfl (lk rfl) (fun a h=>?_)
 refine aX h [] [eN 2 _,eN 3 _,eN 4 _] ⟨rfl,rfl,rfl,T0⟩ [(2,.ptr 2 0),(3,.ptr 3 0),(4,.ptr 4 0)] [(2,nc (((A:Nat):Int))),(3,nc (((B:Nat):Int))),(4,nz)] (fun a w h=>?_)
 refine aX h [2,3] [eS 5 _,eS 6 _,eS 7 (.val (.agg (nc (((v:Nat):Int))).toArray)),eS 8 (.val (.agg (nc (((c:Nat):Int))).toArray)),eM 4 _] ⟨rfl,rfl,fun L u=>u_call u (gd0 rfl) _ rfl _ _ _ rfl [_,_] rfl (cT76 _) _ (fun w hb=>inv1 (hT.keep (Bs.kp_of hb)) hB hv),fun L u=>u_call u (gd0 rfl) _ rfl _ _ _ rfl [_,_,_] rfl (cT78 _) _ (fun w hb=>mul1 (hT.keep (Bs.kp_of hb)) hA hv2 hc),rfl,T0⟩ [(4,_)] [(4,nc (((c:Nat):Int)))] (fun a w h=>?_)
 refine wp_ret ?_
 refine ret_row h 4 24 rfl (lk rfl) 4 rfl (nc (((c:Nat):Int))) rfl _ Tryz.underlying24 rfl i24T ?_
 exact ⟨rfl,h.grows⟩
theorem qQ {w:World} (hT:Tab w) {A B:Nat} (hA:A<2 ^ 256) (hB:B<2 ^ 256):Calls Tryz.prog 74 [.agg (nc (((A:Nat):Int))).toArray,.agg (nc (((B:Nat):Int))).toArray].toArray w fun e w'=>e=.returned (.agg (nc ((u1O A B:Nat):Int)).toArray)∧Below w.heap.size w w':=qQ_at hT hA hB (mo_eq _) (mo_num _) (mo_eq _)
theorem qFH_at {w:World} {U:Nat} {F:Nat→Nat} {l:List Nat} (hl:cells8 l=by32 (fun i=>((F i:Nat):Int))) (hlen:l.length=32) (hlt:∀ x ∈ l,x<256) (hU:De.num l=U):Calls Tryz.prog 61 [.agg (by32 (fun i=>((F i:Nat):Int))).toArray].toArray w fun e w'=>e=.returned (.agg (nc ((U:Nat):Int)).toArray)∧Below w.heap.size w w':=by
 refine enter (args:=[.agg (by32 (fun i=>((F i:Nat):Int))).toArray]) Tryz.func61 rfl 11 rfl (lk rfl) (fun a h=>?_)
 refine aX h [] [eN 1 _,eN 2 _] ⟨rfl,rfl,T0⟩ [(1,.ptr 1 0),(2,.ptr 2 0)] [(1,by32 (fun i=>((F i:Nat):Int))),(2,nz)] (fun a w h=>?_)
 refine aX h [0,1] [eS 6 (.sli 1 0 32 32),eS 7 (.val (.tuple [Value.agg (nc (((U:Nat):Int))).toArray,Value.bool true].toArray)),eS 5 _,eS 8 _,eS 9 _,eN 3 _,eM 3 _,eS 4 _] ⟨fun L u=>u_slice u (gd0 rfl) 6 rfl 60 (.tmp 1) rfl rfl rfl Tryz.underlying60 i5T,fun L u=>u_callR u (gd0 rfl) 7 rfl 70 #[(.tmp 6)] #[25] rfl [.sli 1 0 32 32] rfl (fun vs w=>callFunc_enter Tryz.func70 (by kernel_rfl) (by kernel_rfl) vs w) (.tuple [.agg (nc (((U:Nat):Int))).toArray,Value.bool true].toArray) (fun β a w hr=>by obtain ⟨_,_,c3,_⟩:=hr.va 1 (by32 (fun i=>((F i:Nat):Int))) (u.m rfl);have q:=De.big_num (c:=32) (l:=l) hlen hlt (De.cells_ba hlt hlen (by rw [hl];exact c3));rw [hU] at q;exact q),rfl,rfl,rfl,rfl,rfl,rfl,T0⟩ [(2,_),(3,.ptr 3 0)] [(2,_),(3,nc (((U:Nat):Int)))] (fun a w h=>?_)
 refine aX h [] [eS 10 _,eM 2 _] ⟨rfl,rfl,T0⟩ [(2,_)] [(2,nc (((U:Nat):Int)))] (fun a w h=>?_)
 refine wp_ret ?_
 refine ret_row h 2 24 rfl (lk rfl) 2 rfl (nc (((U:Nat):Int))) rfl _ Tryz.underlying24 rfl i24T ?_
 exact ⟨rfl,h.grows⟩
theorem qFH {w:World} {F:Nat→Nat} (hF:∀ i,F i<256):Calls Tryz.prog 61 [.agg (by32 (fun i=>((F i:Nat):Int))).toArray].toArray w fun e w'=>e=.returned (.agg (nc ((De.num (fl F 32):Nat):Int)).toArray)∧Below w.heap.size w w':=qFH_at (l:=fl F 32) rfl (fl_len _ _) (fl_lt hF 32) rfl
theorem qSum {w:World} {n c:Nat} {z:Option Addr} {f:Nat→Nat} {v:Value} {F:Nat→Bool} (hH:Sh.Tab w) (hba:BA w z n f) (hc:n≤c) (hcm:c≤maxLen) (hn:n≤9223372036854775807) (h:(rowPd 25 1 1 [Value.slice z n c]).p v F w):Calls Tryz.prog 63 [v].toArray w fun e w'=>e=.returned (.agg (by32 (fun i=>((Sh.hByte (Sh.hashS f n) i:Nat):Int))).toArray)∧Below w.heap.size w w':=by
 obtain ⟨b,c2,rfl,hcell⟩:=row_src h (by decide)
 have hq:w.cell? ⟨b,0,none⟩=some (.slice z n c):=hcell 0 _ rfl
 have e1:Sh.lenF (fun _=>n) 1=n:=by simp only [Sh.lenF];omega
 have q:=Sh.sum_anyL (c:=c2) (x:=some ⟨b,0,none⟩) (k:=1) (A:=fun _=>z) (L:=fun _=>n) (C:=fun _=>c) (G:=fun _=>f) hH ⟨fun i _=>ba_sh hba,fun i _=>⟨hc,hcm⟩,Or.inr ⟨_,_,rfl,fun i hi=>by
  obtain rfl:i=0:=by omega
  exact hq⟩⟩ (by omega) (by rw [e1];exact hn)
 have e:Sh.hashS (Sh.catF (fun _=>n) (fun _=>f) 1) (Sh.lenF (fun _=>n) 1)=Sh.hashS f n:=by
  rw [e1]
  simp only [Sh.catF,Sh.lenF,Sh.cat_zero]
 rw [e] at q
 exact q
theorem qNum {w:World} {n c:Nat} {z:Option Addr} {f:Nat→Nat} (hH:Sh.Tab w) (hba:BA w z n f) (hc:n≤c) (hcm:c≤maxLen) (hn:n≤9223372036854775807):Calls Tryz.prog 31 [Value.slice (z) (n) (c)].toArray w fun e w'=>e=.returned (.agg (nc ((zN f n:Nat):Int)).toArray)∧Below w.heap.size w w':=by
 refine enter (args:=[Value.slice (z) (n) (c)]) Tryz.func31 rfl 7 rfl (lk rfl) (fun a h=>?_)
 refine aX h [] [eN 2 _] ⟨rfl,T0⟩ [(0,.val (Value.slice (z) (n) (c))),(2,.ptr 2 0)] [(2,nz)] (fun a w h=>?_)
 refine aX h [1,2,3] [eS 3 _,eQ 4 (rowPd 25 1 (1) ([Value.slice (z) (n) (c)])),eS 5 (.val (.agg (by32 (fun i=>((Sh.hByte (Sh.hashS f n) i:Nat):Int))).toArray)),eS 6 (.val (.agg (nc (((zN f n:Nat):Int))).toArray)),eM 2 _] ⟨rfl,fun L u=>u_lit1 u (gd0 rfl) 4 rfl rfl 103 (.tmp 3) rfl rfl Tryz.underlying103 infoL1 (by decide) (by decide) ([Value.slice (z) (n) (c)]) rfl (by kernel_rfl),fun L u=>u_callR u (gd0 rfl) 5 rfl 63 #[(.tmp 4)] #[103] rfl [.unk 4 id] rfl (fun vs w=>callFunc_enter Tryz.func63 (by kernel_rfl) (by kernel_rfl) vs w) (.agg (by32 (fun i=>((Sh.hByte (Sh.hashS f n) i:Nat):Int))).toArray) (fun β a w hr=>qSum (hH.keep (Bs.kp_of hr.bl)) (hba.keep (Bs.kp_of hr.bl)) hc hcm hn (hr.thing (x:=4) (u.q rfl))),fun L u=>u_call u (gd0 rfl) _ rfl _ _ _ rfl [_] rfl (cT61 _) _ (fun w hb=>qFH (fun i=>hb_lt _ i)),rfl,T0⟩ [(2,_)] [(2,nc (((zN f n:Nat):Int)))] (fun a w h=>?_)
 refine wp_ret ?_
 refine ret_row h 2 24 rfl (lk rfl) 2 rfl (nc (((zN f n:Nat):Int))) rfl _ Tryz.underlying24 rfl i24T ?_
 exact ⟨rfl,h.grows⟩
end Go.Proofs.YtmigakanbeckpaaGreatDoor
