/- MerkleHashes. -/
import Derived.Test.YtpophfeommlajaaDoorL16A
import Derived.Test.YtpophfeommlajaaDoorH16
namespace Go.Proofs.YtpophfeommlajaaDoor
open Go.RowKit
attribute [local go_sem ↓] Go.wp_at_zero Go.wp_at_succ

/-- Two hashes that were handed in lie in variables. -/
theorem box2 {w X : World} {f g : Nat → Nat} (hX : X = (w.alloc (.cells (ab f 32).toArray 24)).alloc (.cells (ab g 32).toArray 24)) :
    Below w.heap.size w X ∧ X.rangeAt w.heap.size 0 (ab f 32) ∧ X.rangeAt (w.heap.size + 1) 0 (ab g 32) := by
  rw [hX]
  refine ⟨K.alloc (K.alloc (Below.refl _ _) _) _, ?_, ?_⟩
  · exact range_keep (RowB.range (RowB.made w 24 32 f _ rfl)) (K.alloc (Below.refl _ _) _)
  · have h := RowB.range (RowB.made (w.alloc (.cells (ab f 32).toArray 24)) 24 32 g _ rfl)
    have e : ∀ o, (w.alloc o).heap.size = w.heap.size + 1 := fun o => by simp
    rw [e] at h
    exact h
set_option maxRecDepth 100000 in
set_option maxHeartbeats 8000000 in
theorem merkleHashes_walk {w : World} {a : Option Addr} {n c : Nat} {fb f g : Nat → Nat} (hT : Tab w) (hx : BA w a n fb) (hc : n ≤ c) (hcm : c ≤ maxLen) (hf : ∀ i, f i < 256) (hg : ∀ i, g i < 256) :
    Calls Tryd.prog 3 #[.slice a n c, hv f, hv g] w fun e w' => e = .returned (.bool true) ∧ Below w.heap.size w w' := by
  have HT := hide hT
  have HX := hide hx
  have HC := hide (And.intro hc hcm)
  have HF := hide (And.intro hf hg)
  clear hT hx hc hcm hf hg
  unfold hv
  by_cases hn : n ≤ 500
  · have hq : (n : Int) ≤ 500 := by omega
    have HNn := hide hn
    clear hn
    go_enter Tryd.func3, Tryd.ntmps3
    go_upto_region 1 with fail
    refine wp_world (fun X0 hX => ?_)
    obtain ⟨hB, hRf, hRg⟩ := box2 hX
    clear hX
    obtain ⟨b0, hb0⟩ : ∃ b0, w.heap.size = b0 := ⟨_, rfl⟩
    have HT0 := hide (HT.out.keep hB)
    have HX0 := hide (HX.out.keep hB)
    have HB0 := hide hB
    rw [hb0] at hRf hRg ⊢
    have HRf0 := hide hRf
    have HRg0 := hide hRg
    clear hB hRf hRg
    go_wp2_with fail
    with_reducible refine Calls.mono (awake_any HT0.out) ?_
    rintro e X ⟨rfl, hb⟩
    have HB1 := hide (K.call HB0.out hb)
    have HL := hide (fun W (h : Below X.heap.size X W) => leaf_any ((HT0.out.keep hb).keep h) ((HX0.out.keep hb).keep h) HC.out.1 HC.out.2 (by have := HNn.out; omega))
    have HR := hide (fun W (h : Below X.heap.size X W) => refLeaf_any (c := c) ((HX0.out.keep hb).keep h) (by have := HNn.out; omega))
    have HN := hide (fun W (h : Below X.heap.size X W) => node_any ((HT0.out.keep hb).keep h) HF.out.1 HF.out.2)
    have HM := hide (fun W (_ : Below X.heap.size X W) => refNode_any (w := W) HF.out.1 HF.out.2)
    have HRf := hide (range_keep HRf0.out hb)
    have HRg := hide (range_keep HRg0.out hb)
    have HE1 := hide (fun W => eqH_same (lf fb n) W)
    have HE2 := hide (fun W => eqH_same (nd f g) W)
    unfold hv at HL HR HN HM
    generalize lf fb n = s1 at HL HR HE1
    generalize nd f g = s2 at HN HM HE2
    clear hb HT0 HX0 HRf0 HRg0 HB0
    go_upto_region 3 with fail
    refine wp_region_noPanic ?_
    refine wp_region_held_drew (S := fun w' => Below X.heap.size X w') (by kernel_rfl) (Go.Proofs.YtpophfeommlajaaDoor.K.drew (Below.refl _ X)) (fun hS0 => ?_)
    refine wpAnyH_take (i := 0) (v := .slice a n c) rfl (by kernel_rfl) (by kernel_rfl) (by kernel_rfl) (fun _ _ _ h => h) (Or.inl ⟨by rfl, fun w' _ => by go_simp⟩) hS0 ?_
    simp only [Act.put, List.getElem_toArray, List.getElem_cons_zero, List.setIfInBounds_toArray, List.set_cons_zero, List.set_cons_succ]
    refine wpAnyH_take (i := 2) (v := .slice a n c) rfl (by kernel_rfl) (by kernel_rfl) (by kernel_rfl) (fun _ _ _ h => h) (Or.inl ⟨by rfl, fun w' _ => by go_simp⟩) hS0 ?_
    simp only [Act.put, List.getElem_toArray, List.getElem_cons_zero, List.getElem_cons_succ, List.setIfInBounds_toArray, List.set_cons_zero, List.set_cons_succ]
    refine wpAnyH_ready (rs := [1]) (by kernel_rfl) (by simp) (AllReadyH.cons rfl (fun Kt hK => ?_) AllReadyH.nil)
    refine wanted_pos rfl ?_
    refine wp_call (R := fun r w' => r = .agg (ab s1 32).toArray ∧ Below X.heap.size X w') (vs := #[.slice a n c]) rfl (by simp only [List.map_toArray, List.map_cons, List.map_nil]; rfl) (by go_simp) (Calls.mono (HL.out _ hS0) (fun e w' ⟨he, hb⟩ => ⟨_, he, rfl, K.call hS0 hb⟩)) (fun r W1 ⟨hr, hb⟩ => ?_)
    subst hr
    refine hK.out _ _ hb (fun hS1 => ?_)
    clear hK Kt hb
    simp only [Act.put, List.getElem_toArray, List.getElem_cons_zero, List.getElem_cons_succ, List.setIfInBounds_toArray, List.set_cons_zero, List.set_cons_succ]
    refine wpAnyH_ready (rs := [3]) (by kernel_rfl) (by simp) (AllReadyH.cons rfl (fun Kt hK => ?_) AllReadyH.nil)
    refine wanted_pos rfl ?_
    refine wp_call (R := fun r w' => r = .agg (ab s1 32).toArray ∧ Below X.heap.size X w') (vs := #[.slice a n c]) rfl (by simp only [List.map_toArray, List.map_cons, List.map_nil]; rfl) (by go_simp) (Calls.mono (HR.out _ hS1) (fun e w' ⟨he, hb⟩ => ⟨_, he, rfl, K.call hS1 hb⟩)) (fun r W2 ⟨hr, hb⟩ => ?_)
    subst hr
    refine hK.out _ _ hb (fun hS2 => ?_)
    clear hK Kt hb
    simp only [Act.put, List.getElem_toArray, List.getElem_cons_zero, List.getElem_cons_succ, List.setIfInBounds_toArray, List.set_cons_zero, List.set_cons_succ]
    refine wpAnyH_take (i := 4) (v := .bool true) rfl (by kernel_rfl) (by kernel_rfl) (by kernel_rfl) (fun _ _ _ h => h) (yieldsIf_eqH (by rfl) (ab s1 32).toArray (ab s1 32).toArray true rfl (by rfl) (by rfl) HE1.out) hS2 ?_
    simp only [Act.put, List.getElem_toArray, List.getElem_cons_zero, List.getElem_cons_succ, List.setIfInBounds_toArray, List.set_cons_zero, List.set_cons_succ]
    refine wpAnyH_take (i := 5) (v := .bool true) rfl (by kernel_rfl) (by kernel_rfl) (by kernel_rfl) (fun _ _ _ h => h) (Or.inl ⟨by rfl, fun w' _ => by go_simp⟩) hS2 ?_
    simp only [Act.put, List.getElem_toArray, List.getElem_cons_zero, List.getElem_cons_succ, List.setIfInBounds_toArray, List.set_cons_zero, List.set_cons_succ]
    refine wpAnyH_take (i := 6) (v := .agg (ab f 32).toArray) rfl (by kernel_rfl) (by kernel_rfl) (by kernel_rfl) (fun _ _ _ h => h) (yieldsIf_load_mid (by rfl) 24 _ rfl b0 0 (by rfl) (ab f 32) _ (fun w' hS => range_keep HRf.out hS) Tryd.underlying24 rfl (ilH _)) hS2 ?_
    simp only [Act.put, List.getElem_toArray, List.getElem_cons_zero, List.getElem_cons_succ, List.setIfInBounds_toArray, List.set_cons_zero, List.set_cons_succ]
    refine wpAnyH_take (i := 7) (v := .agg (ab g 32).toArray) rfl (by kernel_rfl) (by kernel_rfl) (by kernel_rfl) (fun _ _ _ h => h) (yieldsIf_load_mid (by rfl) 24 _ rfl (b0 + 1) 0 (by rfl) (ab g 32) _ (fun w' hS => range_keep HRg.out hS) Tryd.underlying24 rfl (ilH _)) hS2 ?_
    simp only [Act.put, List.getElem_toArray, List.getElem_cons_zero, List.getElem_cons_succ, List.setIfInBounds_toArray, List.set_cons_zero, List.set_cons_succ]
    refine wpAnyH_take (i := 9) (v := .agg (ab f 32).toArray) rfl (by kernel_rfl) (by kernel_rfl) (by kernel_rfl) (fun _ _ _ h => h) (yieldsIf_load_mid (by rfl) 24 _ rfl b0 0 (by rfl) (ab f 32) _ (fun w' hS => range_keep HRf.out hS) Tryd.underlying24 rfl (ilH _)) hS2 ?_
    simp only [Act.put, List.getElem_toArray, List.getElem_cons_zero, List.getElem_cons_succ, List.setIfInBounds_toArray, List.set_cons_zero, List.set_cons_succ]
    refine wpAnyH_take (i := 10) (v := .agg (ab g 32).toArray) rfl (by kernel_rfl) (by kernel_rfl) (by kernel_rfl) (fun _ _ _ h => h) (yieldsIf_load_mid (by rfl) 24 _ rfl (b0 + 1) 0 (by rfl) (ab g 32) _ (fun w' hS => range_keep HRg.out hS) Tryd.underlying24 rfl (ilH _)) hS2 ?_
    simp only [Act.put, List.getElem_toArray, List.getElem_cons_zero, List.getElem_cons_succ, List.setIfInBounds_toArray, List.set_cons_zero, List.set_cons_succ]
    refine wpAnyH_ready (rs := [8]) (by kernel_rfl) (by simp) (AllReadyH.cons rfl (fun Kt hK => ?_) AllReadyH.nil)
    refine wanted_pos rfl ?_
    refine wp_call (R := fun r w' => r = .agg (ab s2 32).toArray ∧ Below X.heap.size X w') (vs := #[.agg (ab f 32).toArray, .agg (ab g 32).toArray]) rfl (by simp only [List.map_toArray, List.map_cons, List.map_nil]; rfl) (by go_simp) (Calls.mono (HN.out _ hS2) (fun e w' ⟨he, hb⟩ => ⟨_, he, rfl, K.call hS2 hb⟩)) (fun r W3 ⟨hr, hb⟩ => ?_)
    subst hr
    refine hK.out _ _ hb (fun hS3 => ?_)
    clear hK Kt hb
    simp only [Act.put, List.getElem_toArray, List.getElem_cons_zero, List.getElem_cons_succ, List.setIfInBounds_toArray, List.set_cons_zero, List.set_cons_succ]
    refine wpAnyH_ready (rs := [11]) (by kernel_rfl) (by simp) (AllReadyH.cons rfl (fun Kt hK => ?_) AllReadyH.nil)
    refine wanted_pos rfl ?_
    refine wp_call (R := fun r w' => r = .agg (ab s2 32).toArray ∧ Below X.heap.size X w') (vs := #[.agg (ab f 32).toArray, .agg (ab g 32).toArray]) rfl (by simp only [List.map_toArray, List.map_cons, List.map_nil]; rfl) (by go_simp) (Calls.mono (HM.out _ hS3) (fun e w' ⟨he, hb⟩ => ⟨_, he, rfl, K.call hS3 hb⟩)) (fun r W4 ⟨hr, hb⟩ => ?_)
    subst hr
    refine hK.out _ _ hb (fun hS4 => ?_)
    clear hK Kt hb
    simp only [Act.put, List.getElem_toArray, List.getElem_cons_zero, List.getElem_cons_succ, List.setIfInBounds_toArray, List.set_cons_zero, List.set_cons_succ]
    refine wpAnyH_take (i := 12) (v := .bool true) rfl (by kernel_rfl) (by kernel_rfl) (by kernel_rfl) (fun _ _ _ h => h) (yieldsIf_eqH (by rfl) (ab s2 32).toArray (ab s2 32).toArray true rfl (by rfl) (by rfl) HE2.out) hS4 ?_
    simp only [Act.put, List.getElem_toArray, List.getElem_cons_zero, List.getElem_cons_succ, List.setIfInBounds_toArray, List.set_cons_zero, List.set_cons_succ]
    refine wpAnyH_take (i := 13) (v := .bool true) rfl (by kernel_rfl) (by kernel_rfl) (by kernel_rfl) (fun _ _ _ h => h) (Or.inl ⟨by rfl, fun w' _ => by go_simp⟩) hS4 ?_
    simp only [Act.put, List.getElem_toArray, List.getElem_cons_zero, List.getElem_cons_succ, List.setIfInBounds_toArray, List.set_cons_zero, List.set_cons_succ]
    refine wpAnyH_take (i := 14) (v := .bool true) rfl (by kernel_rfl) (by kernel_rfl) (by kernel_rfl) (fun _ _ _ h => h) (Or.inl ⟨by rfl, fun w' _ => by go_simp⟩) hS4 ?_
    simp only [Act.put, List.getElem_toArray, List.getElem_cons_zero, List.getElem_cons_succ, List.setIfInBounds_toArray, List.set_cons_zero, List.set_cons_succ]
    refine wpAnyH_done (by kernel_rfl) ?_ _
    refine NoPanic.normal ?_
    go_wp2_with fail
    go_ret
    exact ⟨rfl, by first | exact K.call HB1.out hS4 | (rw [← hb0]; exact K.call HB1.out hS4)⟩
  · have hq : (500 : Int) < (n : Int) := by omega
    clear hn
    go_enter Tryd.func3, Tryd.ntmps3
    go_upto_region 1 with fail
    refine wp_world (fun X0 hX => ?_)
    obtain ⟨hB, _, _⟩ := box2 hX
    clear hX
    have HB0 := hide hB
    clear hB
    go_wp2_with fail
    with_reducible refine Calls.mono (awake_any (HT.out.keep HB0.out)) ?_
    rintro e w1 ⟨rfl, hb⟩
    have HB1 := hide (K.call HB0.out hb)
    clear hb
    go_wp2_with fail
    with_reducible refine Calls.mono (awake_any (HT.out.keep HB1.out)) ?_
    rintro e w2 ⟨rfl, hb⟩
    have HB2 := hide (K.call HB1.out hb)
    clear hb HB1
    go_wp2_with fail
    go_ret
    exact ⟨rfl, HB2.out⟩
end Go.Proofs.YtpophfeommlajaaDoor
