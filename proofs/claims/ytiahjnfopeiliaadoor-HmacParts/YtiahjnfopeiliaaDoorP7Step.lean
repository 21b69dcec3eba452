/- What the program's own step does. -/
import Derived.Test.YtiahjnfopeiliaaDoorP7Str
namespace Go.Proofs.YtiahjnfopeiliaaDoor
open Go.RowKit
attribute [local go_sem ↓] Go.wp_at_zero Go.wp_at_succ

set_option maxRecDepth 100000 in
set_option maxHeartbeats 8000000 in
theorem step_any {w : World} {b : Nat} {s : KV} {t : Bool} (hT : Tab w) (hS : Stm w b s t) (hs : s.ok) :
    Calls Tryd.prog 20 #[.pointer (some ⟨b, 0, none⟩)] w fun e w' => (∃ v, e = .returned v) ∧ Stm w' b (kvNext s) t ∧ w.grownBy w' (some b) := by
  obtain ⟨v1, hv1⟩ : ∃ v1, v1 = macB s.k 32 s.v 32 := ⟨_, rfl⟩
  have HV1 : Hid (Value.agg (mA s.k 32 s.v 32) = .agg (ab v1 32).toArray) := by show _ = _; rw [hv1]; rfl
  have HRes : Hid (kvNext s = ⟨s.k, v1⟩) := by show _ = _; rw [hv1]; rfl
  clear hv1
  go_enter Tryd.func20, Tryd.ntmps20
  go_upto_region 0 with fail
  have hd := K.drew (Below.refl _ w)
  have hSd := hS.keep hd
  have hTd := hT.keep hd
  refine wp_region_noPanic ?_
  refine wp_region_held_drew (S := fun _ => True) (by kernel_rfl) trivial (fun _ => ?_)
  refine wpAnyH_take (i := 0) (v := .pointer (some ⟨b, 0, none⟩)) rfl (by kernel_rfl) (by kernel_rfl) (by kernel_rfl) (fun _ _ _ h => h) (Or.inl ⟨by rfl, fun w' _ => by go_simp⟩) trivial ?_
  simp only [Act.put, List.getElem_toArray, List.getElem_cons_zero, List.setIfInBounds_toArray, List.set_cons_zero, List.set_cons_succ]
  refine wpAnyH_take (i := 1) (v := .pointer (some ⟨b, 0, none⟩)) rfl (by kernel_rfl) (by kernel_rfl) (by kernel_rfl) (fun _ _ _ h => h) (Or.inl ⟨by rfl, fun w' _ => by go_simp⟩) trivial ?_
  simp only [Act.put, List.getElem_toArray, List.getElem_cons_zero, List.getElem_cons_succ, List.setIfInBounds_toArray, List.set_cons_zero, List.set_cons_succ]
  refine wpAnyH_take (i := 2) (v := .pointer (some ⟨b, 0, none⟩)) rfl (by kernel_rfl) (by kernel_rfl) (by kernel_rfl) (fun _ _ _ h => h) (Or.inl ⟨by rfl, fun w' _ => by go_simp⟩) trivial ?_
  simp only [Act.put, List.getElem_toArray, List.getElem_cons_zero, List.getElem_cons_succ, List.setIfInBounds_toArray, List.set_cons_zero, List.set_cons_succ]
  refine wpAnyH_take (i := 3) (v := .pointer (some ⟨b, 0, none⟩)) rfl (by kernel_rfl) (by kernel_rfl) (by kernel_rfl) (fun _ _ _ h => h) (Or.inl ⟨by rfl, fun w' _ => by go_simp⟩) trivial ?_
  simp only [Act.put, List.getElem_toArray, List.getElem_cons_zero, List.getElem_cons_succ, List.setIfInBounds_toArray, List.set_cons_zero, List.set_cons_succ]
  refine wpAnyH_take (i := 4) (v := .slice (some ⟨b, 0, none⟩) 32 32) rfl (by kernel_rfl) (by kernel_rfl) (by kernel_rfl) (fun _ _ _ h => h) (Or.inl ⟨by rfl, fun w' _ => by go_simp⟩) trivial ?_
  simp only [Act.put, List.getElem_toArray, List.getElem_cons_zero, List.getElem_cons_succ, List.setIfInBounds_toArray, List.set_cons_zero, List.set_cons_succ]
  refine wpAnyH_take (i := 5) (v := .pointer (some ⟨b, 0, none⟩)) rfl (by kernel_rfl) (by kernel_rfl) (by kernel_rfl) (fun _ _ _ h => h) (Or.inl ⟨by rfl, fun w' _ => by go_simp⟩) trivial ?_
  simp only [Act.put, List.getElem_toArray, List.getElem_cons_zero, List.getElem_cons_succ, List.setIfInBounds_toArray, List.set_cons_zero, List.set_cons_succ]
  refine wpAnyH_take (i := 6) (v := .pointer (some ⟨b, 0, none⟩)) rfl (by kernel_rfl) (by kernel_rfl) (by kernel_rfl) (fun _ _ _ h => h) (Or.inl ⟨by rfl, fun w' _ => by go_simp⟩) trivial ?_
  simp only [Act.put, List.getElem_toArray, List.getElem_cons_zero, List.getElem_cons_succ, List.setIfInBounds_toArray, List.set_cons_zero, List.set_cons_succ]
  refine wpAnyH_take (i := 7) (v := .pointer (some ⟨b, 32, none⟩)) rfl (by kernel_rfl) (by kernel_rfl) (by kernel_rfl) (fun _ _ _ h => h) (Or.inl ⟨by rfl, fun w' _ => by go_simp⟩) trivial ?_
  simp only [Act.put, List.getElem_toArray, List.getElem_cons_zero, List.getElem_cons_succ, List.setIfInBounds_toArray, List.set_cons_zero, List.set_cons_succ]
  refine wpAnyH_take (i := 8) (v := .slice (some ⟨b, 32, none⟩) 32 32) rfl (by kernel_rfl) (by kernel_rfl) (by kernel_rfl) (fun _ _ _ h => h) (Or.inl ⟨by rfl, fun w' _ => by go_simp⟩) trivial ?_
  simp only [Act.put, List.getElem_toArray, List.getElem_cons_zero, List.getElem_cons_succ, List.setIfInBounds_toArray, List.set_cons_zero, List.set_cons_succ]
  refine wpAnyH_ready (rs := [9]) (by kernel_rfl) (by simp) (AllReadyH.cons rfl (fun Kt hK => ?_) AllReadyH.nil)
  refine wanted_pos rfl ?_
  refine wp_one rfl rfl (fun q W _ hcq hbq => hK.out _ _ trivial (fun _ => ?_))
  clear hK Kt
  simp only [Act.put, List.getElem_toArray, List.getElem_cons_zero, List.getElem_cons_succ, List.setIfInBounds_toArray, List.set_cons_zero, List.set_cons_succ]
  refine wpAnyH_ready (rs := [10]) (by kernel_rfl) (by simp) (AllReadyH.cons rfl (fun Kt hK => ?_) AllReadyH.nil)
  refine wanted_pos rfl ?_
  refine wp_call (R := fun r w' => r = .agg (ab v1 32).toArray ∧ Below W.heap.size W w') (vs := #[.slice (some ⟨b, 0, none⟩) 32 32, .slice (some ⟨q, 0, none⟩) 1 1]) rfl (by simp only [List.map_toArray, List.map_cons, List.map_nil]; rfl) (by go_simp) (Calls.mono (mac_one_at (hTd.keep hbq) ((hSd.keep hbq).baK hs) (Nat.le_refl _) (by unfold maxLen; omega) (by omega) ((hSd.keep hbq).baV hs) (Nat.le_refl _) (by unfold maxLen; omega) (by omega) hcq) (fun e w' ⟨he, hb⟩ => ⟨_, he, HV1.out, hb⟩)) (fun r W4 ⟨hr, hb4⟩ => ?_)
  subst hr
  refine hK.out _ _ trivial (fun _ => ?_)
  clear hK Kt
  simp only [Act.put, List.getElem_toArray, List.getElem_cons_zero, List.getElem_cons_succ, List.setIfInBounds_toArray, List.set_cons_zero, List.set_cons_succ]
  refine wpAnyH_take (i := 11) (v := .pointer (some ⟨b, 0, none⟩)) rfl (by kernel_rfl) (by kernel_rfl) (by kernel_rfl) (fun _ _ _ h => h) (Or.inl ⟨by rfl, fun w' _ => by go_simp⟩) trivial ?_
  simp only [Act.put, List.getElem_toArray, List.getElem_cons_zero, List.getElem_cons_succ, List.setIfInBounds_toArray, List.set_cons_zero, List.set_cons_succ]
  refine wpAnyH_take (i := 12) (v := .pointer (some ⟨b, 32, none⟩)) rfl (by kernel_rfl) (by kernel_rfl) (by kernel_rfl) (fun _ _ _ h => h) (Or.inl ⟨by rfl, fun w' _ => by go_simp⟩) trivial ?_
  simp only [Act.put, List.getElem_toArray, List.getElem_cons_zero, List.getElem_cons_succ, List.setIfInBounds_toArray, List.set_cons_zero, List.set_cons_succ]
  refine wpAnyH_ready (rs := [13]) (by kernel_rfl) (by simp) (AllReadyH.cons rfl (fun Kt hK => ?_) AllReadyH.nil)
  refine wanted_pos rfl ?_
  have hS4 := (hSd.keep hbq).keep hb4
  refine wp_store_mid 25 _ _ rfl b 32 (ab v1 32).toArray rfl rfl (by rw [List.size_toArray, ab_len]; exact hS4.there 32 32 (by omega)) (inH _) (all_oneCell_toArray (ab_one _ _)) (hK.out _ _ trivial (fun _ => ?_))
  clear hK Kt
  refine wpAnyH_done (by kernel_rfl) ?_ _
  refine NoPanic.normal ?_
  have HST := hide (hS4.setV v1)
  have HG : Hid (w.grownBy (W4.setCells b 32 (ab v1 32).toArray.toList) (some b)) := grown_trans (grown_of (K.call (K.call hd hbq) hb4) _) (grown_sets b (ab v1 32) 32 W4)
  clear hS4 hd hSd hTd hbq hb4 hcq
  generalize W4.setCells b 32 (ab v1 32).toArray.toList = Z at HST HG ⊢
  go_wp2_with fail
  exact bodyPost_end (by simp [results, Tryd.results20]; rfl) rfl ⟨⟨_, rfl⟩, by rw [HRes.out]; exact HST.out, HG.out⟩
end Go.Proofs.YtiahjnfopeiliaaDoor
