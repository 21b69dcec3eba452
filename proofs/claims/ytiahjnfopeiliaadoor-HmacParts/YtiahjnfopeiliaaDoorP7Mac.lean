/- What the program's own Mac answers. -/
import Derived.Test.YtiahjnfopeiliaaDoorP7Fill
import Derived.Test.YtiahjnfopeiliaaDoorP7Hash
namespace Go.Proofs.YtiahjnfopeiliaaDoor
open Go.RowKit
attribute [local go_sem ↓] Go.wp_at_zero Go.wp_at_succ

theorem khash_one_at {w : World} {q : Nat} {x : Option Addr} {n c m : Nat} {f g : Nat → Nat} (hT : Tab w) (hf : ∀ i, f i < 256) (hm : m < 256) (hb : BA w x n g) (hc : n ≤ c) (hcm : c ≤ maxLen) (hn : n ≤ 700000) (hq : w.cell? ⟨q, 0, none⟩ = some (.slice x n c)) :
    Calls Tryd.prog 16 #[.agg (ab f 64).toArray, .int .u8 (m : Int), .slice (some ⟨q, 0, none⟩) 1 1] w fun e w' => e = .returned (.agg (hA (cat (fun i => f i ^^^ m) 64 g) (64 + n))) ∧ Below w.heap.size w w' := by
  have e1 : lenF (fun _ => n) 1 = n := by simp only [lenF]; omega
  have h := khash_any (c := 1) (x := some ⟨q, 0, none⟩) (k := 1) (m := m) (A := fun _ => x) (L := fun _ => n) (C := fun _ => c) (G := fun _ => g) hT hf hm ⟨fun i _ => hb, fun i _ => ⟨hc, hcm⟩, Or.inr ⟨_, _, rfl, fun i hi => by
    obtain rfl : i = 0 := by omega
    exact hq⟩⟩ (by omega) (by rw [e1]; exact hn)
  rw [e1] at h
  simp only [catF, lenF, cat_zero] at h
  exact h
set_option maxRecDepth 100000 in
set_option maxHeartbeats 8000000 in
theorem mac_any {w : World} {x y : Option Addr} {n c k d : Nat} {f : Nat → Nat} {A : Nat → Option Addr} {L C : Nat → Nat} {G : Nat → Nat → Nat} (hT : Tab w) (hx : BA w x n f) (hc : n ≤ c) (hm : c ≤ maxLen) (hn : n ≤ 800000) (hP : PL w y k A L C G) (hk : k ≤ 1000000) (hl : lenF L k ≤ 700000) :
    Calls Tryd.prog 9 #[.slice x n c, .slice y k d] w fun e w' => e = .returned (.agg (mA f n (catF L G k) (lenF L k))) ∧ Below w.heap.size w w' := by
  have HT := hide hT
  have HX := hide hx
  have HN := hide (And.intro hc (And.intro hm hn))
  have HP := hide hP
  have HK := hide (And.intro hk hl)
  clear hT hx hc hm hn hP hk hl
  go_enter Tryd.func9, Tryd.ntmps9
  go_upto_region 1 with fail
  refine wp_world (fun X hX => ?_)
  have hB : Below w.heap.size w X := by rw [hX]; exact K.alloc (Below.refl _ _) _
  have hH : RowB X w.heap.size 32 (fun _ => 0) := by rw [hX]; exact RowB.made w 25 32 (fun _ => 0) _ zeros32
  clear hX
  have HFI := hide (fill_any (HT.out.keep hB) (HX.out.keep hB) HN.out.1 HN.out.2.1 HN.out.2.2)
  obtain ⟨b0, hb0⟩ : ∃ b0, w.heap.size = b0 := ⟨_, rfl⟩
  rw [hb0] at hB hH ⊢
  have HH := hide hH
  have HB := hide hB
  clear hH hB
  go_wp2_with fail
  with_reducible refine Calls.mono HFI.out ?_
  rintro e w2 ⟨rfl, hb⟩
  obtain ⟨g, hg⟩ : ∃ g, g = kpad f n := ⟨_, rfl⟩
  have HG : Hid (∀ i, g i < 256) := fun i => by rw [hg]; exact kpad_lt HX.out.lt n i
  have HGe := hide hg
  rw [← hg]
  clear hg
  have hal := K.alloc (Below.refl _ w2) (.cells (ab g 64).toArray 41)
  have hb' := K.call hb hal
  have HF := hide (RowB.made w2 41 64 g _ rfl)
  have HH2 := hide (Row8.keep HH.out hb')
  have HB2 : Hid (Below b0 w (w2.alloc (.cells (ab g 64).toArray 41))) := by subst hb0; exact K.call HB.out hb'
  have HSZ : Hid (64 = (ab g 64).toArray.size) := by show _ = _; rw [List.size_toArray, ab_len]
  clear hb hb' hal HH HB HFI
  go_upto_region 2 with (refine wpList_store_new rfl 41 _ _ rfl _ (ab g 64).toArray rfl rfl (inKB _) HSZ.out (all_oneCell_toArray (ab_one _ _)) ?_; generalize w2.alloc (.cells (ab g 64).toArray 41) = Y at HF HH2 HB2 ⊢)
  obtain ⟨b1, hb1⟩ : ∃ b1, w2.heap.size = b1 := ⟨_, rfl⟩
  rw [hb1] at HF ⊢
  have hBw : Below w.heap.size w Y := by rw [hb0]; exact HB2.out
  have HE := hide (khash_any (c := d) (m := 54) (HT.out.keep hBw) HG.out (by omega) (HP.out.keep hBw) HK.out.1 HK.out.2)
  have HRG := hide (RowB.range HF.out)
  clear hBw hb1 HSZ
  go_wp2_with (refine wpList_load_mid rfl 41 _ rfl _ 0 rfl (ab g 64) _ HRG.out Tryd.underlying41 rfl (ilKB _) ?_; simp only [Act.put, List.setIfInBounds_toArray, List.set_cons_zero, List.set_cons_succ])
  with_reducible refine Calls.mono HE.out ?_
  rintro e w3 ⟨rfl, hb⟩
  unfold hA
  obtain ⟨h, hh⟩ : ∃ h, h = hByte (hashS (cat (fun i => g i ^^^ 54) 64 (catF L G k)) (64 + lenF L k)) := ⟨_, rfl⟩
  obtain ⟨h2, hh2⟩ : ∃ h2, h2 = hByte (hashS (cat (fun i => g i ^^^ 92) 64 h) (64 + 32)) := ⟨_, rfl⟩
  have HL : Hid (∀ i, h i < 256) := fun i => by rw [hh]; exact hByte_lt _ i
  have HRes : Hid (h2 = hByte (macS f n (catF L G k) (lenF L k))) := by show _ = _; rw [hh2, hh, HGe.out]; rfl
  have HH3 : Hid (Value.agg (hA (cat (fun i => g i ^^^ 92) 64 h) (64 + 32)) = .agg (ab h2 32).toArray) := by show _ = _; rw [hh2]; rfl
  rw [← hh]
  clear hh hh2
  have hal := K.alloc (Below.refl _ w3) (.cells (ab h 32).toArray 25)
  have hb' := K.call hb hal
  have HS := hide (RowB.made w3 25 32 h _ rfl)
  have HF3 := hide (Row8.keep HF.out hb')
  have HHr := hide (Row8.keep HH2.out hb')
  have HB3 : Hid (Below b0 w (w3.alloc (.cells (ab h 32).toArray 25))) := by subst hb0; exact K.call HB2.out hb'
  have HSZ : Hid (32 = (ab h 32).toArray.size) := by show _ = _; rw [List.size_toArray, ab_len]
  clear hb hb' hal HH2 HB2 HF HE HRG
  go_upto_region 3 with (refine wpList_store_new rfl 25 _ _ rfl _ (ab h 32).toArray rfl rfl (inH _) HSZ.out (all_oneCell_toArray (ab_one _ _)) ?_; generalize w3.alloc (.cells (ab h 32).toArray 25) = V at HS HF3 HHr HB3 ⊢)
  have HH2 := HH3
  have hd := K.drew (Below.refl _ V)
  have hSd := Row8.keep HS.out hd
  have hFd := Row8.keep HF3.out hd
  have hHd := Row8.keep HHr.out hd
  have hBd : Below w.heap.size w V.drew := by rw [hb0]; subst hb0; exact K.call HB3.out hd
  clear hd HS HF3 HHr HB3 HH3
  refine wp_region_noPanic ?_
  refine wp_region_held_drew (S := fun _ => True) (by kernel_rfl) trivial (fun _ => ?_)
  refine wpAnyH_take (i := 1) (v := .slice (some ⟨w3.heap.size, 0, none⟩) 32 32) rfl (by kernel_rfl) (by kernel_rfl) (by kernel_rfl) (fun _ _ _ h => h) (Or.inl ⟨by rfl, fun w' _ => by go_simp⟩) trivial ?_
  simp only [Act.put, List.getElem_toArray, List.getElem_cons_zero, List.getElem_cons_succ, List.setIfInBounds_toArray, List.set_cons_zero, List.set_cons_succ]
  refine wpAnyH_ready (rs := [0, 2]) (by kernel_rfl) (by simp) (AllReadyH.cons rfl (fun Kt hK => ?_) (AllReadyH.cons rfl (fun Kt hK => ?_) AllReadyH.nil))
  · refine wanted_pos rfl ?_
    refine wp_load_mid 41 _ rfl b1 0 rfl (ab g 64) _ (RowB.range hFd) Tryd.underlying41 rfl (ilKB _) (hK.out _ _ trivial (fun _ => ?_))
    clear hK Kt
    simp only [Act.put, List.getElem_toArray, List.getElem_cons_zero, List.setIfInBounds_toArray, List.set_cons_zero, List.set_cons_succ]
    refine wpAnyH_ready (rs := [2]) (by kernel_rfl) (by simp) (AllReadyH.cons rfl (fun Kt hK => ?_) AllReadyH.nil)
    refine wanted_pos rfl ?_
    refine wp_one rfl rfl (fun q W _ hcq hbq => hK.out _ _ trivial (fun _ => ?_))
    clear hK Kt
    simp only [Act.put, List.getElem_toArray, List.getElem_cons_zero, List.getElem_cons_succ, List.setIfInBounds_toArray, List.set_cons_zero, List.set_cons_succ]
    have hSW := Row8.keep hSd hbq
    have hHW := Row8.keep hHd hbq
    have hbW := K.call hBd hbq
    clear hbq hSd hFd hHd hBd
    refine wpAnyH_ready (rs := [3]) (by kernel_rfl) (by simp) (AllReadyH.cons rfl (fun Kt hK => ?_) AllReadyH.nil)
    refine wanted_pos rfl ?_
    refine wp_call (R := fun r w' => r = .agg (ab h2 32).toArray ∧ Below W.heap.size W w') (vs := #[.agg (ab g 64).toArray, .int .u8 92, .slice (some ⟨q, 0, none⟩) 1 1]) rfl (by simp only [List.map_toArray, List.map_cons, List.map_nil]; rfl) (by go_simp) (Calls.mono (khash_one_at (m := 92) (HT.out.keep hbW) HG.out (by omega) (RowB.ba hSW HL.out) (Nat.le_refl _) (by unfold maxLen; omega) (by omega) hcq) (fun e w' ⟨he, hb⟩ => ⟨_, he, HH2.out, hb⟩)) (fun r W4 ⟨hr, hb4⟩ => ?_)
    subst hr
    refine hK.out _ _ trivial (fun _ => ?_)
    clear hK Kt
    simp only [Act.put, List.getElem_toArray, List.getElem_cons_zero, List.getElem_cons_succ, List.setIfInBounds_toArray, List.set_cons_zero, List.set_cons_succ]
    refine wpAnyH_ready (rs := [4]) (by kernel_rfl) (by simp) (AllReadyH.cons rfl (fun Kt hK => ?_) AllReadyH.nil)
    refine wanted_pos rfl ?_
    have hH4 := Row8.keep hHW hb4
    have hB4 : Below b0 w W4 := by subst hb0; exact K.call hbW hb4
    refine wp_store_mid 25 _ _ rfl b0 0 (ab h2 32).toArray rfl rfl (RowB.there hH4 h2) (inH _) (all_oneCell_toArray (ab_one _ _)) (hK.out _ _ trivial (fun _ => ?_))
    clear hK Kt
    refine wpAnyH_done (by kernel_rfl) ?_ _
    refine NoPanic.normal ?_
    have HST := hide (RowB.stored hH4 h2)
    have HB : Hid (Below b0 w (W4.setCells b0 0 (ab h2 32).toArray.toList)) := by subst hb0; exact below_setCells _ _ hB4 (Nat.le_refl _)
    clear hH4 hB4
    generalize W4.setCells b0 0 (ab h2 32).toArray.toList = Z at HST HB ⊢
    go_wp2_with fail
    exact bodyPost_ret (results_cell_mid Tryd.results9 _ _ b0 (ab h2 32) _ rfl (RowB.range HST.out) Tryd.underlying25 rfl (ilH _)) rfl ⟨by unfold mA; rw [HRes.out], HB.out⟩
  · refine wanted_pos rfl ?_
    refine wp_one rfl rfl (fun q W _ hcq hbq => hK.out _ _ trivial (fun _ => ?_))
    clear hK Kt
    simp only [Act.put, List.getElem_toArray, List.getElem_cons_zero, List.getElem_cons_succ, List.setIfInBounds_toArray, List.set_cons_zero, List.set_cons_succ]
    have hSW := Row8.keep hSd hbq
    have hHW := Row8.keep hHd hbq
    have hFW := Row8.keep hFd hbq
    have hbW := K.call hBd hbq
    clear hbq hSd hFd hHd hBd
    refine wpAnyH_ready (rs := [0]) (by kernel_rfl) (by simp) (AllReadyH.cons rfl (fun Kt hK => ?_) AllReadyH.nil)
    refine wanted_pos rfl ?_
    refine wp_load_mid 41 _ rfl b1 0 rfl (ab g 64) _ (RowB.range hFW) Tryd.underlying41 rfl (ilKB _) (hK.out _ _ trivial (fun _ => ?_))
    clear hK Kt
    simp only [Act.put, List.getElem_toArray, List.getElem_cons_zero, List.setIfInBounds_toArray, List.set_cons_zero, List.set_cons_succ]
    refine wpAnyH_ready (rs := [3]) (by kernel_rfl) (by simp) (AllReadyH.cons rfl (fun Kt hK => ?_) AllReadyH.nil)
    refine wanted_pos rfl ?_
    refine wp_call (R := fun r w' => r = .agg (ab h2 32).toArray ∧ Below W.heap.size W w') (vs := #[.agg (ab g 64).toArray, .int .u8 92, .slice (some ⟨q, 0, none⟩) 1 1]) rfl (by simp only [List.map_toArray, List.map_cons, List.map_nil]; rfl) (by go_simp) (Calls.mono (khash_one_at (m := 92) (HT.out.keep hbW) HG.out (by omega) (RowB.ba hSW HL.out) (Nat.le_refl _) (by unfold maxLen; omega) (by omega) hcq) (fun e w' ⟨he, hb⟩ => ⟨_, he, HH2.out, hb⟩)) (fun r W4 ⟨hr, hb4⟩ => ?_)
    subst hr
    refine hK.out _ _ trivial (fun _ => ?_)
    clear hK Kt
    simp only [Act.put, List.getElem_toArray, List.getElem_cons_zero, List.getElem_cons_succ, List.setIfInBounds_toArray, List.set_cons_zero, List.set_cons_succ]
    refine wpAnyH_ready (rs := [4]) (by kernel_rfl) (by simp) (AllReadyH.cons rfl (fun Kt hK => ?_) AllReadyH.nil)
    refine wanted_pos rfl ?_
    have hH4 := Row8.keep hHW hb4
    have hB4 : Below b0 w W4 := by subst hb0; exact K.call hbW hb4
    refine wp_store_mid 25 _ _ rfl b0 0 (ab h2 32).toArray rfl rfl (RowB.there hH4 h2) (inH _) (all_oneCell_toArray (ab_one _ _)) (hK.out _ _ trivial (fun _ => ?_))
    clear hK Kt
    refine wpAnyH_done (by kernel_rfl) ?_ _
    refine NoPanic.normal ?_
    have HST := hide (RowB.stored hH4 h2)
    have HB : Hid (Below b0 w (W4.setCells b0 0 (ab h2 32).toArray.toList)) := by subst hb0; exact below_setCells _ _ hB4 (Nat.le_refl _)
    clear hH4 hB4
    generalize W4.setCells b0 0 (ab h2 32).toArray.toList = Z at HST HB ⊢
    go_wp2_with fail
    exact bodyPost_ret (results_cell_mid Tryd.results9 _ _ b0 (ab h2 32) _ rfl (RowB.range HST.out) Tryd.underlying25 rfl (ilH _)) rfl ⟨by unfold mA; rw [HRes.out], HB.out⟩
end Go.Proofs.YtiahjnfopeiliaaDoor
