/- CheckAll. -/
import Derived.Test.YtkpkkjcfodjifaaDoorMB14
namespace Go.Proofs.YtkpkkjcfodjifaaDoor
set_option maxRecDepth 100000
open Go.RowKit
attribute [local go_sem ↓] Go.wp_at_zero Go.wp_at_succ

theorem meet3 {A B C : Type} {G : Prop} {P : A → B → C → Prop} (main : (∀ a b c, P a b c) → G) (x : ∀ a b c, P a b c) : G := main x
/-- Two hashes that were handed in lie in a variable. -/
theorem boxH2 {w X : World} {f g : Nat → Nat} (hX : X = w.alloc (.cells (ab f 32 ++ ab g 32).toArray 38)) :
    Below w.heap.size w X ∧ X.rangeAt w.heap.size 0 (ab f 32) ∧ X.rangeAt w.heap.size 32 (ab g 32) := by
  rw [hX]
  refine ⟨Go.Proofs.YtkpkkjcfodjifaaDoor.K.alloc (Below.refl _ _) _, fun j v hv => ?_, fun j v hv => ?_⟩
  · have hj : j < 32 := by have := (List.getElem?_eq_some_iff.1 hv).1; rwa [ab_len] at this
    rw [cell_of_row _ _ _ _ _ _ (heap_alloc_new w _), Nat.zero_add, List.getElem?_toArray, List.getElem?_append_left (by rw [ab_len]; exact hj)]
    exact hv
  · rw [cell_of_row _ _ _ _ _ _ (heap_alloc_new w _), List.getElem?_toArray, List.getElem?_append_right (by rw [ab_len]; omega), ab_len, Nat.add_sub_cancel_left]
    exact hv
set_option maxRecDepth 100000 in
set_option maxHeartbeats 16000000 in
theorem checkAll_walk {w : World} {z : Option Addr} {l c : Nat} {G : Nat → Nat → Nat} {n : Int} {f g : Nat → Nat} (hT : TabZ w) (hn0 : 0 ≤ n) (hn1 : n < 4294967296) (hf : ∀ j, f j < 256) (hg : ∀ j, g j < 256) (hx : HL w z l G) (hc : l ≤ c) (hcm : c ≤ maxLen) :
    Calls Tryd.prog 7 #[.int .u32 n, .agg (ab f 32 ++ ab g 32).toArray, .slice z l c] w fun e w' => e = .returned (.bool true) ∧ Below w.heap.size w w' := by
  have HT := hide hT
  have HX := hide hx
  have HC := hide (And.intro hc hcm)
  have HF := hide (And.intro hf hg)
  clear hT hx hc hcm hf hg
  by_cases hn : l ≤ 70
  · have hq : (l : Int) ≤ 70 := by omega
    obtain ⟨k, hk⟩ : ∃ k : Nat, 1 + n = (k : Int) := ⟨(1 + n).toNat, by omega⟩
    have hwk : wrap64 (1 + wrap64 n) = (k : Int) := by rw [show wrap64 n = n by unfold wrap64; omega, hk]; unfold wrap64; omega
    have HK := hide (show 1 ≤ k ∧ (k : Int) < 9223372036854775808 by omega)
    obtain ⟨v, hv0⟩ : ∃ v, eqB f g 32 = v := ⟨_, rfl⟩
    have HN := hide hn
    clear hk hn0 hn1
    by_cases h0 : l = 0
    · subst h0
      go_enter Tryd.func7, Tryd.ntmps7
      go_upto_region 1 with fail
      refine wp_world (fun X hX => ?_)
      obtain ⟨hB, hRf, hRg⟩ := boxH2 hX
      clear hX
      have HTX := hide (HT.out.keep hB)
      have HB0 := hide hB
      have HXX := hide (HX.out.keep hB)
      obtain ⟨b0, hb0⟩ : ∃ b0, w.heap.size = b0 := ⟨_, rfl⟩
      rw [hb0] at hRf hRg ⊢
      have HRf := hide hRf
      have HRg := hide hRg
      clear hB hRf hRg hb0
      have HVd := hide (Vs.nil X).drew
      apply meet3 (A := Nat) (B := Nat) (C := World)
      · intro hcut
        refine wp_region_noPanic ?_
        refine wp_region_held_drew (S := Sv X []) (by kernel_rfl) (HVd.out.sv (by simp)) (fun hS0 => ?_)
        refine wpAnyH_take (i := 0) (v := .pointer (some ⟨b0, 0, none⟩)) rfl (by kernel_rfl) (by kernel_rfl) (by kernel_rfl) (fun _ _ _ h => h) (Or.inl ⟨by rfl, fun w' _ => by go_simp⟩) hS0 ?_
        simp only [Act.put, List.getElem_toArray, List.getElem_cons_zero, List.setIfInBounds_toArray, List.set_cons_zero, List.set_cons_succ]
        refine wpAnyH_take (i := 1) (v := .agg (ab f 32).toArray) rfl (by kernel_rfl) (by kernel_rfl) (by kernel_rfl) (fun _ _ _ h => h) (yieldsIf_load_mid (by rfl) 23 _ rfl b0 0 (by rfl) (ab f 32) _ (fun w' hS => range_keep HRf.out hS.1) Tryd.underlying23 rfl (ilH _)) hS0 ?_
        simp only [Act.put, List.getElem_toArray, List.getElem_cons_zero, List.getElem_cons_succ, List.setIfInBounds_toArray, List.set_cons_zero, List.set_cons_succ]
        refine wpAnyH_take (i := 2) (v := .pointer (some ⟨b0, 32, none⟩)) rfl (by kernel_rfl) (by kernel_rfl) (by kernel_rfl) (fun _ _ _ h => h) (Or.inl ⟨by rfl, fun w' _ => by go_simp⟩) hS0 ?_
        simp only [Act.put, List.getElem_toArray, List.getElem_cons_zero, List.getElem_cons_succ, List.setIfInBounds_toArray, List.set_cons_zero, List.set_cons_succ]
        refine wpAnyH_take (i := 3) (v := .agg (ab g 32).toArray) rfl (by kernel_rfl) (by kernel_rfl) (by kernel_rfl) (fun _ _ _ h => h) (yieldsIf_load_mid (by rfl) 23 _ rfl b0 32 (by rfl) (ab g 32) _ (fun w' hS => range_keep HRg.out hS.1) Tryd.underlying23 rfl (ilH _)) hS0 ?_
        simp only [Act.put, List.getElem_toArray, List.getElem_cons_zero, List.getElem_cons_succ, List.setIfInBounds_toArray, List.set_cons_zero, List.set_cons_succ]
        refine wpAnyH_ready (rs := [4, 5]) (by kernel_rfl) (by simp) (AllReadyH.cons rfl (fun Kt hK => ?_) (AllReadyH.cons rfl (fun Kt hK => ?_) AllReadyH.nil))
        · refine wanted_pos rfl ?_
          refine HVd.out.wpNew rfl (fun x7 W1 hv hb => ?_)
          have HVdn := hide hv
          refine hK.out _ _ (HVdn.out.sv (by simp)) (fun hS1 => ?_)
          clear hK Kt hv hb
          simp only [Act.put, List.getElem_toArray, List.getElem_cons_zero, List.getElem_cons_succ, List.setIfInBounds_toArray, List.set_cons_zero, List.set_cons_succ]
          refine wpAnyH_ready (rs := [5]) (by kernel_rfl) (by simp) (AllReadyH.cons rfl (fun Kt hK => ?_) AllReadyH.nil)
          refine wanted_pos rfl ?_
          refine HVdn.out.wpNew rfl (fun x8 W2 hv hb => ?_)
          have HVdnn := hide hv
          refine hK.out _ _ (HVdnn.out.sv (by simp)) (fun hS2 => ?_)
          clear hK Kt hv hb
          simp only [Act.put, List.getElem_toArray, List.getElem_cons_zero, List.getElem_cons_succ, List.setIfInBounds_toArray, List.set_cons_zero, List.set_cons_succ]
          refine wpAnyH_ready (rs := [6]) (by kernel_rfl) (by simp) (AllReadyH.cons rfl (fun Kt hK => ?_) AllReadyH.nil)
          refine wanted_pos rfl ?_
          refine HVdnn.out.wpPut 1 rfl (by rfl) (by rfl) rfl (fun W3 hv => ?_)
          have HVdnnp := hide hv
          refine hK.out _ _ (HVdnnp.out.sv (by simp)) (fun hS3 => ?_)
          clear hK Kt hv
          simp only [Act.put, List.getElem_toArray, List.getElem_cons_zero, List.getElem_cons_succ]
          refine wpAnyH_ready (rs := [7]) (by kernel_rfl) (by simp) (AllReadyH.cons rfl (fun Kt hK => ?_) AllReadyH.nil)
          refine wanted_pos rfl ?_
          refine HVdnnp.out.wpPut 0 rfl (by rfl) (by rfl) rfl (fun W4 hv => ?_)
          have HVdnnpp := hide hv
          refine hK.out _ _ (HVdnnpp.out.sv (by simp)) (fun hS4 => ?_)
          clear hK Kt hv
          simp only [Act.put, List.getElem_toArray, List.getElem_cons_zero, List.getElem_cons_succ]
          refine wpAnyH_done (by kernel_rfl) ?_ _
          refine NoPanic.normal ?_
          have HVe : Hid (Vs X _ [(x8, g), (x7, f)]) := HVdnnpp
          revert HVe
          exact hcut x7 x8 W4
        · refine wanted_pos rfl ?_
          refine HVd.out.wpNew rfl (fun x8 W5 hv hb => ?_)
          have HVdn := hide hv
          refine hK.out _ _ (HVdn.out.sv (by simp)) (fun hS5 => ?_)
          clear hK Kt hv hb
          simp only [Act.put, List.getElem_toArray, List.getElem_cons_zero, List.getElem_cons_succ, List.setIfInBounds_toArray, List.set_cons_zero, List.set_cons_succ]
          refine wpAnyH_ready (rs := [4]) (by kernel_rfl) (by simp) (AllReadyH.cons rfl (fun Kt hK => ?_) AllReadyH.nil)
          refine wanted_pos rfl ?_
          refine HVdn.out.wpNew rfl (fun x7 W6 hv hb => ?_)
          have HVdnn := hide hv
          refine hK.out _ _ (HVdnn.out.sv (by simp)) (fun hS6 => ?_)
          clear hK Kt hv hb
          simp only [Act.put, List.getElem_toArray, List.getElem_cons_zero, List.getElem_cons_succ, List.setIfInBounds_toArray, List.set_cons_zero, List.set_cons_succ]
          refine wpAnyH_ready (rs := [6]) (by kernel_rfl) (by simp) (AllReadyH.cons rfl (fun Kt hK => ?_) AllReadyH.nil)
          refine wanted_pos rfl ?_
          refine HVdnn.out.wpPut 0 rfl (by rfl) (by rfl) rfl (fun W7 hv => ?_)
          have HVdnnp := hide hv
          refine hK.out _ _ (HVdnnp.out.sv (by simp)) (fun hS7 => ?_)
          clear hK Kt hv
          simp only [Act.put, List.getElem_toArray, List.getElem_cons_zero, List.getElem_cons_succ]
          refine wpAnyH_ready (rs := [7]) (by kernel_rfl) (by simp) (AllReadyH.cons rfl (fun Kt hK => ?_) AllReadyH.nil)
          refine wanted_pos rfl ?_
          refine HVdnnp.out.wpPut 1 rfl (by rfl) (by rfl) rfl (fun W8 hv => ?_)
          have HVdnnpp := hide hv
          refine hK.out _ _ (HVdnnpp.out.sv (by simp)) (fun hS8 => ?_)
          clear hK Kt hv
          simp only [Act.put, List.getElem_toArray, List.getElem_cons_zero, List.getElem_cons_succ]
          refine wpAnyH_done (by kernel_rfl) ?_ _
          refine NoPanic.normal ?_
          have HVdnnpps := hide (HVdnnpp.out.perm (List.Perm.swap (x8, g) (x7, f) _))
          have HVe : Hid (Vs X _ [(x8, g), (x7, f)]) := HVdnnpps
          revert HVe
          exact hcut x7 x8 W8
      intro x7 x8 W0 HV0
      clear HVd HRf HRg
      have HB1 := hide (Go.Proofs.YtkpkkjcfodjifaaDoor.K.call HB0.out HV0.out.k)
      have HT1 := hide (HTX.out.keep HV0.out.k)
      go_upto_region 3 with (go_at_call 8; refine Calls.mono (awake_any HT1.out.tab) ?_; rintro e Y2 ⟨rfl, hb⟩; have HV2 := hide (HV0.out.keep hb); have HB2 := hide (Go.Proofs.YtkpkkjcfodjifaaDoor.K.call HB1.out hb); have HT2 := hide (HT1.out.keep hb); clear hb)
      go_upto_region 5 with fail
      rw [hwk]
      clear hwk HV0
      have HR7 := hide (HV2.out.rg 1 rfl)
      have HR8 := hide (HV2.out.rg 0 rfl)
      obtain hn := HN.out
      have hp1 := fun W (h : Below Y2.heap.size Y2 W) => checkProof_any (w := W) (m := (k : Int)) (n := (k : Int)) (f := f) (g := g) (c := 0) (HT2.out.keep h) (hl_nil W) (Nat.le_refl 0) (by unfold maxLen; omega) (by omega) HK.out.2 HF.out.1 HF.out.2
      have hp2 := fun W (h : Below Y2.heap.size Y2 W) => checkProof_any (w := W) (m := (k : Int)) (n := (k : Int)) (f := f) (g := f) (c := c) (HT2.out.keep h) ((HX.out.keep HB2.out).keep h) HC.out.1 HC.out.2 (by omega) HK.out.2 HF.out.1 HF.out.1
      have hp3 := fun W (h : Below Y2.heap.size Y2 W) => checkPath_any (w := W) (m := 0) (n := 1) (f := f) (g := g) (c := 0) (HT2.out.keep h).tab (hl_nil W) (Nat.le_refl 0) (by unfold maxLen; omega) (by omega) (by omega) HF.out.1 HF.out.2
      have hp4 := fun W (h : Below Y2.heap.size Y2 W) => checkPath_any (w := W) (m := 0) (n := 1) (f := f) (g := f) (c := c) (HT2.out.keep h).tab ((HX.out.keep HB2.out).keep h) HC.out.1 HC.out.2 (by omega) (by omega) HF.out.1 HF.out.1
      rw [show rv (lF []) 0 = [] from rfl, ckT_all HK.out.1, hv0] at hp1
      rw [show rv (lF []) 0 = [] from rfl, ckP_one, hv0] at hp3
      rw [show rv G 0 = [] from rfl, ckT_all HK.out.1, eqB_refl] at hp2
      rw [show rv G 0 = [] from rfl, ckP_one, eqB_refl] at hp4
      unfold hv at hp1 hp2 hp3 hp4
      have HP1 := hide hp1
      have HP2 := hide hp2
      have HP3 := hide hp3
      have HP4 := hide hp4
      have HE' := fun W => eqH f g W
      rw [hv0] at HE'
      have HE := hide HE'
      clear hp1 hp2 hp3 hp4 HE' hv0
      clear hn
      refine wp_region_noPanic ?_
      refine wp_region_held_drew (S := fun w' => Below Y2.heap.size Y2 w') (by kernel_rfl) (Go.Proofs.YtkpkkjcfodjifaaDoor.K.drew (Below.refl _ Y2)) (fun hS0 => ?_)
      refine wpAnyH_take (i := 0) (v := .int .i64 (k : Int)) rfl (by kernel_rfl) (by kernel_rfl) (by kernel_rfl) (fun _ _ _ h => h) (Or.inl ⟨by rfl, fun w' _ => by go_simp⟩) hS0 ?_
      simp only [Act.put, List.getElem_toArray, List.getElem_cons_zero, List.setIfInBounds_toArray, List.set_cons_zero, List.set_cons_succ]
      refine wpAnyH_take (i := 1) (v := .int .i64 (k : Int)) rfl (by kernel_rfl) (by kernel_rfl) (by kernel_rfl) (fun _ _ _ h => h) (Or.inl ⟨by rfl, fun w' _ => by go_simp⟩) hS0 ?_
      simp only [Act.put, List.getElem_toArray, List.getElem_cons_zero, List.getElem_cons_succ, List.setIfInBounds_toArray, List.set_cons_zero, List.set_cons_succ]
      refine wpAnyH_take (i := 2) (v := .agg (ab f 32).toArray) rfl (by kernel_rfl) (by kernel_rfl) (by kernel_rfl) (fun _ _ _ h => h) (yieldsIf_load_mid (by rfl) 23 _ rfl x7 0 (by rfl) (ab f 32) _ (fun w' hS => range_keep HR7.out hS) Tryd.underlying23 rfl (ilH _)) hS0 ?_
      simp only [Act.put, List.getElem_toArray, List.getElem_cons_zero, List.getElem_cons_succ, List.setIfInBounds_toArray, List.set_cons_zero, List.set_cons_succ]
      refine wpAnyH_take (i := 3) (v := .agg (ab g 32).toArray) rfl (by kernel_rfl) (by kernel_rfl) (by kernel_rfl) (fun _ _ _ h => h) (yieldsIf_load_mid (by rfl) 23 _ rfl x8 0 (by rfl) (ab g 32) _ (fun w' hS => range_keep HR8.out hS) Tryd.underlying23 rfl (ilH _)) hS0 ?_
      simp only [Act.put, List.getElem_toArray, List.getElem_cons_zero, List.getElem_cons_succ, List.setIfInBounds_toArray, List.set_cons_zero, List.set_cons_succ]
      refine wpAnyH_take (i := 5) (v := .agg (ab f 32).toArray) rfl (by kernel_rfl) (by kernel_rfl) (by kernel_rfl) (fun _ _ _ h => h) (yieldsIf_load_mid (by rfl) 23 _ rfl x7 0 (by rfl) (ab f 32) _ (fun w' hS => range_keep HR7.out hS) Tryd.underlying23 rfl (ilH _)) hS0 ?_
      simp only [Act.put, List.getElem_toArray, List.getElem_cons_zero, List.getElem_cons_succ, List.setIfInBounds_toArray, List.set_cons_zero, List.set_cons_succ]
      refine wpAnyH_take (i := 6) (v := .agg (ab g 32).toArray) rfl (by kernel_rfl) (by kernel_rfl) (by kernel_rfl) (fun _ _ _ h => h) (yieldsIf_load_mid (by rfl) 23 _ rfl x8 0 (by rfl) (ab g 32) _ (fun w' hS => range_keep HR8.out hS) Tryd.underlying23 rfl (ilH _)) hS0 ?_
      simp only [Act.put, List.getElem_toArray, List.getElem_cons_zero, List.getElem_cons_succ, List.setIfInBounds_toArray, List.set_cons_zero, List.set_cons_succ]
      refine wpAnyH_take (i := 7) (v := .bool v) rfl (by kernel_rfl) (by kernel_rfl) (by kernel_rfl) (fun _ _ _ h => h) (yieldsIf_eqH (by rfl) (ab f 32).toArray (ab g 32).toArray v rfl (by rfl) (by rfl) HE.out) hS0 ?_
      simp only [Act.put, List.getElem_toArray, List.getElem_cons_zero, List.getElem_cons_succ, List.setIfInBounds_toArray, List.set_cons_zero, List.set_cons_succ]
      refine wpAnyH_ready (rs := [4]) (by kernel_rfl) (by simp) (AllReadyH.cons rfl (fun Kt hK => ?_) AllReadyH.nil)
      refine wanted_pos rfl ?_
      refine wp_call (R := fun r w' => r = .bool v ∧ Below Y2.heap.size Y2 w') (vs := #[.int .i64 (k : Int), .int .i64 (k : Int), .agg (ab f 32).toArray, .slice none 0 0, .agg (ab g 32).toArray]) rfl (by simp only [List.map_toArray, List.map_cons, List.map_nil]; rfl) (by go_simp) (Calls.mono (HP1.out _ hS0) (fun e w' ⟨he, hb⟩ => ⟨_, he, rfl, K.call hS0 hb⟩)) (fun r W1 ⟨hr, hb⟩ => ?_)
      subst hr
      refine hK.out _ _ hb (fun hS1 => ?_)
      clear hK Kt hb
      simp only [Act.put, List.getElem_toArray, List.getElem_cons_zero, List.getElem_cons_succ, List.setIfInBounds_toArray, List.set_cons_zero, List.set_cons_succ]
      refine wpAnyH_take (i := 8) (v := .bool true) rfl (by kernel_rfl) (by kernel_rfl) (by kernel_rfl) (fun _ _ _ h => h) (Or.inl ⟨by rfl, fun w' _ => by go_simp⟩) hS1 ?_
      simp only [Act.put, List.getElem_toArray, List.getElem_cons_zero, List.getElem_cons_succ, List.setIfInBounds_toArray, List.set_cons_zero, List.set_cons_succ]
      refine wpAnyH_take (i := 9) (v := .bool true) rfl (by kernel_rfl) (by kernel_rfl) (by kernel_rfl) (fun _ _ _ h => h) (Or.inl ⟨by rfl, fun w' _ => by go_simp⟩) hS1 ?_
      simp only [Act.put, List.getElem_toArray, List.getElem_cons_zero, List.getElem_cons_succ, List.setIfInBounds_toArray, List.set_cons_zero, List.set_cons_succ]
      refine wpAnyH_take (i := 10) (v := .int .i64 (k : Int)) rfl (by kernel_rfl) (by kernel_rfl) (by kernel_rfl) (fun _ _ _ h => h) (Or.inl ⟨by rfl, fun w' _ => by go_simp⟩) hS1 ?_
      simp only [Act.put, List.getElem_toArray, List.getElem_cons_zero, List.getElem_cons_succ, List.setIfInBounds_toArray, List.set_cons_zero, List.set_cons_succ]
      refine wpAnyH_take (i := 11) (v := .int .i64 (k : Int)) rfl (by kernel_rfl) (by kernel_rfl) (by kernel_rfl) (fun _ _ _ h => h) (Or.inl ⟨by rfl, fun w' _ => by go_simp⟩) hS1 ?_
      simp only [Act.put, List.getElem_toArray, List.getElem_cons_zero, List.getElem_cons_succ, List.setIfInBounds_toArray, List.set_cons_zero, List.set_cons_succ]
      refine wpAnyH_take (i := 12) (v := .agg (ab f 32).toArray) rfl (by kernel_rfl) (by kernel_rfl) (by kernel_rfl) (fun _ _ _ h => h) (yieldsIf_load_mid (by rfl) 23 _ rfl x7 0 (by rfl) (ab f 32) _ (fun w' hS => range_keep HR7.out hS) Tryd.underlying23 rfl (ilH _)) hS1 ?_
      simp only [Act.put, List.getElem_toArray, List.getElem_cons_zero, List.getElem_cons_succ, List.setIfInBounds_toArray, List.set_cons_zero, List.set_cons_succ]
      refine wpAnyH_take (i := 13) (v := .slice z 0 c) rfl (by kernel_rfl) (by kernel_rfl) (by kernel_rfl) (fun _ _ _ h => h) (Or.inl ⟨by rfl, fun w' _ => by go_simp⟩) hS1 ?_
      simp only [Act.put, List.getElem_toArray, List.getElem_cons_zero, List.getElem_cons_succ, List.setIfInBounds_toArray, List.set_cons_zero, List.set_cons_succ]
      refine wpAnyH_take (i := 14) (v := .agg (ab f 32).toArray) rfl (by kernel_rfl) (by kernel_rfl) (by kernel_rfl) (fun _ _ _ h => h) (yieldsIf_load_mid (by rfl) 23 _ rfl x7 0 (by rfl) (ab f 32) _ (fun w' hS => range_keep HR7.out hS) Tryd.underlying23 rfl (ilH _)) hS1 ?_
      simp only [Act.put, List.getElem_toArray, List.getElem_cons_zero, List.getElem_cons_succ, List.setIfInBounds_toArray, List.set_cons_zero, List.set_cons_succ]
      refine wpAnyH_take (i := 16) (v := .slice z 0 c) rfl (by kernel_rfl) (by kernel_rfl) (by kernel_rfl) (fun _ _ _ h => h) (Or.inl ⟨by rfl, fun w' _ => by go_simp⟩) hS1 ?_
      simp only [Act.put, List.getElem_toArray, List.getElem_cons_zero, List.getElem_cons_succ, List.setIfInBounds_toArray, List.set_cons_zero, List.set_cons_succ]
      refine wpAnyH_take (i := 17) (v := .int .i64 0) rfl (by kernel_rfl) (by kernel_rfl) (by kernel_rfl) (fun _ _ _ h => h) (Or.inl ⟨by rfl, fun w' _ => by go_simp⟩) hS1 ?_
      simp only [Act.put, List.getElem_toArray, List.getElem_cons_zero, List.getElem_cons_succ, List.setIfInBounds_toArray, List.set_cons_zero, List.set_cons_succ]
      refine wpAnyH_take (i := 18) (v := .bool true) rfl (by kernel_rfl) (by kernel_rfl) (by kernel_rfl) (fun _ _ _ h => h) (Or.inl ⟨by rfl, fun w' _ => by go_simp⟩) hS1 ?_
      simp only [Act.put, List.getElem_toArray, List.getElem_cons_zero, List.getElem_cons_succ, List.setIfInBounds_toArray, List.set_cons_zero, List.set_cons_succ]
      refine wpAnyH_ready (rs := [15]) (by kernel_rfl) (by simp) (AllReadyH.cons rfl (fun Kt hK => ?_) AllReadyH.nil)
      refine wanted_pos rfl ?_
      refine wp_call (R := fun r w' => r = .bool true ∧ Below Y2.heap.size Y2 w') (vs := #[.int .i64 (k : Int), .int .i64 (k : Int), .agg (ab f 32).toArray, .slice z 0 c, .agg (ab f 32).toArray]) rfl (by simp only [List.map_toArray, List.map_cons, List.map_nil]; rfl) (by go_simp) (Calls.mono (HP2.out _ hS1) (fun e w' ⟨he, hb⟩ => ⟨_, he, rfl, K.call hS1 hb⟩)) (fun r W2 ⟨hr, hb⟩ => ?_)
      subst hr
      refine hK.out _ _ hb (fun hS2 => ?_)
      clear hK Kt hb
      simp only [Act.put, List.getElem_toArray, List.getElem_cons_zero, List.getElem_cons_succ, List.setIfInBounds_toArray, List.set_cons_zero, List.set_cons_succ]
      refine wpAnyH_take (i := 19) (v := .bool true) rfl (by kernel_rfl) (by kernel_rfl) (by kernel_rfl) (fun _ _ _ h => h) (Or.inl ⟨by rfl, fun w' _ => by go_simp⟩) hS2 ?_
      simp only [Act.put, List.getElem_toArray, List.getElem_cons_zero, List.getElem_cons_succ, List.setIfInBounds_toArray, List.set_cons_zero, List.set_cons_succ]
      refine wpAnyH_take (i := 20) (v := .bool true) rfl (by kernel_rfl) (by kernel_rfl) (by kernel_rfl) (fun _ _ _ h => h) (Or.inl ⟨by rfl, fun w' _ => by go_simp⟩) hS2 ?_
      simp only [Act.put, List.getElem_toArray, List.getElem_cons_zero, List.getElem_cons_succ, List.setIfInBounds_toArray, List.set_cons_zero, List.set_cons_succ]
      refine wpAnyH_take (i := 21) (v := .bool true) rfl (by kernel_rfl) (by kernel_rfl) (by kernel_rfl) (fun _ _ _ h => h) (Or.inl ⟨by rfl, fun w' _ => by go_simp⟩) hS2 ?_
      simp only [Act.put, List.getElem_toArray, List.getElem_cons_zero, List.getElem_cons_succ, List.setIfInBounds_toArray, List.set_cons_zero, List.set_cons_succ]
      refine wpAnyH_take (i := 22) (v := .agg (ab f 32).toArray) rfl (by kernel_rfl) (by kernel_rfl) (by kernel_rfl) (fun _ _ _ h => h) (yieldsIf_load_mid (by rfl) 23 _ rfl x7 0 (by rfl) (ab f 32) _ (fun w' hS => range_keep HR7.out hS) Tryd.underlying23 rfl (ilH _)) hS2 ?_
      simp only [Act.put, List.getElem_toArray, List.getElem_cons_zero, List.getElem_cons_succ, List.setIfInBounds_toArray, List.set_cons_zero, List.set_cons_succ]
      refine wpAnyH_take (i := 23) (v := .agg (ab g 32).toArray) rfl (by kernel_rfl) (by kernel_rfl) (by kernel_rfl) (fun _ _ _ h => h) (yieldsIf_load_mid (by rfl) 23 _ rfl x8 0 (by rfl) (ab g 32) _ (fun w' hS => range_keep HR8.out hS) Tryd.underlying23 rfl (ilH _)) hS2 ?_
      simp only [Act.put, List.getElem_toArray, List.getElem_cons_zero, List.getElem_cons_succ, List.setIfInBounds_toArray, List.set_cons_zero, List.set_cons_succ]
      refine wpAnyH_take (i := 25) (v := .agg (ab f 32).toArray) rfl (by kernel_rfl) (by kernel_rfl) (by kernel_rfl) (fun _ _ _ h => h) (yieldsIf_load_mid (by rfl) 23 _ rfl x7 0 (by rfl) (ab f 32) _ (fun w' hS => range_keep HR7.out hS) Tryd.underlying23 rfl (ilH _)) hS2 ?_
      simp only [Act.put, List.getElem_toArray, List.getElem_cons_zero, List.getElem_cons_succ, List.setIfInBounds_toArray, List.set_cons_zero, List.set_cons_succ]
      refine wpAnyH_take (i := 26) (v := .agg (ab g 32).toArray) rfl (by kernel_rfl) (by kernel_rfl) (by kernel_rfl) (fun _ _ _ h => h) (yieldsIf_load_mid (by rfl) 23 _ rfl x8 0 (by rfl) (ab g 32) _ (fun w' hS => range_keep HR8.out hS) Tryd.underlying23 rfl (ilH _)) hS2 ?_
      simp only [Act.put, List.getElem_toArray, List.getElem_cons_zero, List.getElem_cons_succ, List.setIfInBounds_toArray, List.set_cons_zero, List.set_cons_succ]
      refine wpAnyH_take (i := 27) (v := .bool v) rfl (by kernel_rfl) (by kernel_rfl) (by kernel_rfl) (fun _ _ _ h => h) (yieldsIf_eqH (by rfl) (ab f 32).toArray (ab g 32).toArray v rfl (by rfl) (by rfl) HE.out) hS2 ?_
      simp only [Act.put, List.getElem_toArray, List.getElem_cons_zero, List.getElem_cons_succ, List.setIfInBounds_toArray, List.set_cons_zero, List.set_cons_succ]
      refine wpAnyH_ready (rs := [24]) (by kernel_rfl) (by simp) (AllReadyH.cons rfl (fun Kt hK => ?_) AllReadyH.nil)
      refine wanted_pos rfl ?_
      refine wp_call (R := fun r w' => r = .bool v ∧ Below Y2.heap.size Y2 w') (vs := #[.int .i64 0, .int .i64 1, .agg (ab f 32).toArray, .slice none 0 0, .agg (ab g 32).toArray]) rfl (by simp only [List.map_toArray, List.map_cons, List.map_nil]; rfl) (by go_simp) (Calls.mono (HP3.out _ hS2) (fun e w' ⟨he, hb⟩ => ⟨_, he, rfl, K.call hS2 hb⟩)) (fun r W3 ⟨hr, hb⟩ => ?_)
      subst hr
      refine hK.out _ _ hb (fun hS3 => ?_)
      clear hK Kt hb
      simp only [Act.put, List.getElem_toArray, List.getElem_cons_zero, List.getElem_cons_succ, List.setIfInBounds_toArray, List.set_cons_zero, List.set_cons_succ]
      refine wpAnyH_take (i := 28) (v := .bool true) rfl (by kernel_rfl) (by kernel_rfl) (by kernel_rfl) (fun _ _ _ h => h) (Or.inl ⟨by rfl, fun w' _ => by go_simp⟩) hS3 ?_
      simp only [Act.put, List.getElem_toArray, List.getElem_cons_zero, List.getElem_cons_succ, List.setIfInBounds_toArray, List.set_cons_zero, List.set_cons_succ]
      refine wpAnyH_take (i := 29) (v := .bool true) rfl (by kernel_rfl) (by kernel_rfl) (by kernel_rfl) (fun _ _ _ h => h) (Or.inl ⟨by rfl, fun w' _ => by go_simp⟩) hS3 ?_
      simp only [Act.put, List.getElem_toArray, List.getElem_cons_zero, List.getElem_cons_succ, List.setIfInBounds_toArray, List.set_cons_zero, List.set_cons_succ]
      refine wpAnyH_take (i := 30) (v := .bool true) rfl (by kernel_rfl) (by kernel_rfl) (by kernel_rfl) (fun _ _ _ h => h) (Or.inl ⟨by rfl, fun w' _ => by go_simp⟩) hS3 ?_
      simp only [Act.put, List.getElem_toArray, List.getElem_cons_zero, List.getElem_cons_succ, List.setIfInBounds_toArray, List.set_cons_zero, List.set_cons_succ]
      refine wpAnyH_take (i := 31) (v := .agg (ab f 32).toArray) rfl (by kernel_rfl) (by kernel_rfl) (by kernel_rfl) (fun _ _ _ h => h) (yieldsIf_load_mid (by rfl) 23 _ rfl x7 0 (by rfl) (ab f 32) _ (fun w' hS => range_keep HR7.out hS) Tryd.underlying23 rfl (ilH _)) hS3 ?_
      simp only [Act.put, List.getElem_toArray, List.getElem_cons_zero, List.getElem_cons_succ, List.setIfInBounds_toArray, List.set_cons_zero, List.set_cons_succ]
      refine wpAnyH_take (i := 32) (v := .slice z 0 c) rfl (by kernel_rfl) (by kernel_rfl) (by kernel_rfl) (fun _ _ _ h => h) (Or.inl ⟨by rfl, fun w' _ => by go_simp⟩) hS3 ?_
      simp only [Act.put, List.getElem_toArray, List.getElem_cons_zero, List.getElem_cons_succ, List.setIfInBounds_toArray, List.set_cons_zero, List.set_cons_succ]
      refine wpAnyH_take (i := 33) (v := .agg (ab f 32).toArray) rfl (by kernel_rfl) (by kernel_rfl) (by kernel_rfl) (fun _ _ _ h => h) (yieldsIf_load_mid (by rfl) 23 _ rfl x7 0 (by rfl) (ab f 32) _ (fun w' hS => range_keep HR7.out hS) Tryd.underlying23 rfl (ilH _)) hS3 ?_
      simp only [Act.put, List.getElem_toArray, List.getElem_cons_zero, List.getElem_cons_succ, List.setIfInBounds_toArray, List.set_cons_zero, List.set_cons_succ]
      refine wpAnyH_take (i := 35) (v := .slice z 0 c) rfl (by kernel_rfl) (by kernel_rfl) (by kernel_rfl) (fun _ _ _ h => h) (Or.inl ⟨by rfl, fun w' _ => by go_simp⟩) hS3 ?_
      simp only [Act.put, List.getElem_toArray, List.getElem_cons_zero, List.getElem_cons_succ, List.setIfInBounds_toArray, List.set_cons_zero, List.set_cons_succ]
      refine wpAnyH_take (i := 36) (v := .int .i64 0) rfl (by kernel_rfl) (by kernel_rfl) (by kernel_rfl) (fun _ _ _ h => h) (Or.inl ⟨by rfl, fun w' _ => by go_simp⟩) hS3 ?_
      simp only [Act.put, List.getElem_toArray, List.getElem_cons_zero, List.getElem_cons_succ, List.setIfInBounds_toArray, List.set_cons_zero, List.set_cons_succ]
      refine wpAnyH_take (i := 37) (v := .bool true) rfl (by kernel_rfl) (by kernel_rfl) (by kernel_rfl) (fun _ _ _ h => h) (Or.inl ⟨by rfl, fun w' _ => by go_simp⟩) hS3 ?_
      simp only [Act.put, List.getElem_toArray, List.getElem_cons_zero, List.getElem_cons_succ, List.setIfInBounds_toArray, List.set_cons_zero, List.set_cons_succ]
      refine wpAnyH_ready (rs := [34]) (by kernel_rfl) (by simp) (AllReadyH.cons rfl (fun Kt hK => ?_) AllReadyH.nil)
      refine wanted_pos rfl ?_
      refine wp_call (R := fun r w' => r = .bool true ∧ Below Y2.heap.size Y2 w') (vs := #[.int .i64 0, .int .i64 1, .agg (ab f 32).toArray, .slice z 0 c, .agg (ab f 32).toArray]) rfl (by simp only [List.map_toArray, List.map_cons, List.map_nil]; rfl) (by go_simp) (Calls.mono (HP4.out _ hS3) (fun e w' ⟨he, hb⟩ => ⟨_, he, rfl, K.call hS3 hb⟩)) (fun r W4 ⟨hr, hb⟩ => ?_)
      subst hr
      refine hK.out _ _ hb (fun hS4 => ?_)
      clear hK Kt hb
      simp only [Act.put, List.getElem_toArray, List.getElem_cons_zero, List.getElem_cons_succ, List.setIfInBounds_toArray, List.set_cons_zero, List.set_cons_succ]
      refine wpAnyH_take (i := 38) (v := .bool true) rfl (by kernel_rfl) (by kernel_rfl) (by kernel_rfl) (fun _ _ _ h => h) (Or.inl ⟨by rfl, fun w' _ => by go_simp⟩) hS4 ?_
      simp only [Act.put, List.getElem_toArray, List.getElem_cons_zero, List.getElem_cons_succ, List.setIfInBounds_toArray, List.set_cons_zero, List.set_cons_succ]
      refine wpAnyH_take (i := 39) (v := .bool true) rfl (by kernel_rfl) (by kernel_rfl) (by kernel_rfl) (fun _ _ _ h => h) (Or.inl ⟨by rfl, fun w' _ => by go_simp⟩) hS4 ?_
      simp only [Act.put, List.getElem_toArray, List.getElem_cons_zero, List.getElem_cons_succ, List.setIfInBounds_toArray, List.set_cons_zero, List.set_cons_succ]
      refine wpAnyH_take (i := 40) (v := .bool true) rfl (by kernel_rfl) (by kernel_rfl) (by kernel_rfl) (fun _ _ _ h => h) (Or.inl ⟨by rfl, fun w' _ => by go_simp⟩) hS4 ?_
      simp only [Act.put, List.getElem_toArray, List.getElem_cons_zero, List.getElem_cons_succ, List.setIfInBounds_toArray, List.set_cons_zero, List.set_cons_succ]
      refine wpAnyH_done (by kernel_rfl) ?_ _
      refine NoPanic.normal ?_
      go_wp2_with fail
      go_ret
      exact ⟨rfl, Go.Proofs.YtkpkkjcfodjifaaDoor.K.call HB2.out hS4⟩
    · have hb0 : ((l : Int) == 0) = false := beq_eq_false_iff_ne.2 (by omega)
      obtain ⟨l1, hl1⟩ : ∃ l1, l = l1 + 1 := ⟨l - 1, by omega⟩
      have hrv : rv G l = G l1 :: rv G l1 := by rw [hl1]; rfl
      have HRV := hide hrv
      clear hrv hl1
      go_enter Tryd.func7, Tryd.ntmps7
      go_upto_region 1 with fail
      refine wp_world (fun X hX => ?_)
      obtain ⟨hB, hRf, hRg⟩ := boxH2 hX
      clear hX
      have HTX := hide (HT.out.keep hB)
      have HB0 := hide hB
      have HXX := hide (HX.out.keep hB)
      obtain ⟨b0, hb0⟩ : ∃ b0, w.heap.size = b0 := ⟨_, rfl⟩
      rw [hb0] at hRf hRg ⊢
      have HRf := hide hRf
      have HRg := hide hRg
      clear hB hRf hRg hb0
      have HVd := hide (Vs.nil X).drew
      apply meet3 (A := Nat) (B := Nat) (C := World)
      · intro hcut
        refine wp_region_noPanic ?_
        refine wp_region_held_drew (S := Sv X []) (by kernel_rfl) (HVd.out.sv (by simp)) (fun hS0 => ?_)
        refine wpAnyH_take (i := 0) (v := .pointer (some ⟨b0, 0, none⟩)) rfl (by kernel_rfl) (by kernel_rfl) (by kernel_rfl) (fun _ _ _ h => h) (Or.inl ⟨by rfl, fun w' _ => by go_simp⟩) hS0 ?_
        simp only [Act.put, List.getElem_toArray, List.getElem_cons_zero, List.setIfInBounds_toArray, List.set_cons_zero, List.set_cons_succ]
        refine wpAnyH_take (i := 1) (v := .agg (ab f 32).toArray) rfl (by kernel_rfl) (by kernel_rfl) (by kernel_rfl) (fun _ _ _ h => h) (yieldsIf_load_mid (by rfl) 23 _ rfl b0 0 (by rfl) (ab f 32) _ (fun w' hS => range_keep HRf.out hS.1) Tryd.underlying23 rfl (ilH _)) hS0 ?_
        simp only [Act.put, List.getElem_toArray, List.getElem_cons_zero, List.getElem_cons_succ, List.setIfInBounds_toArray, List.set_cons_zero, List.set_cons_succ]
        refine wpAnyH_take (i := 2) (v := .pointer (some ⟨b0, 32, none⟩)) rfl (by kernel_rfl) (by kernel_rfl) (by kernel_rfl) (fun _ _ _ h => h) (Or.inl ⟨by rfl, fun w' _ => by go_simp⟩) hS0 ?_
        simp only [Act.put, List.getElem_toArray, List.getElem_cons_zero, List.getElem_cons_succ, List.setIfInBounds_toArray, List.set_cons_zero, List.set_cons_succ]
        refine wpAnyH_take (i := 3) (v := .agg (ab g 32).toArray) rfl (by kernel_rfl) (by kernel_rfl) (by kernel_rfl) (fun _ _ _ h => h) (yieldsIf_load_mid (by rfl) 23 _ rfl b0 32 (by rfl) (ab g 32) _ (fun w' hS => range_keep HRg.out hS.1) Tryd.underlying23 rfl (ilH _)) hS0 ?_
        simp only [Act.put, List.getElem_toArray, List.getElem_cons_zero, List.getElem_cons_succ, List.setIfInBounds_toArray, List.set_cons_zero, List.set_cons_succ]
        refine wpAnyH_ready (rs := [4, 5]) (by kernel_rfl) (by simp) (AllReadyH.cons rfl (fun Kt hK => ?_) (AllReadyH.cons rfl (fun Kt hK => ?_) AllReadyH.nil))
        · refine wanted_pos rfl ?_
          refine HVd.out.wpNew rfl (fun x7 W1 hv hb => ?_)
          have HVdn := hide hv
          refine hK.out _ _ (HVdn.out.sv (by simp)) (fun hS1 => ?_)
          clear hK Kt hv hb
          simp only [Act.put, List.getElem_toArray, List.getElem_cons_zero, List.getElem_cons_succ, List.setIfInBounds_toArray, List.set_cons_zero, List.set_cons_succ]
          refine wpAnyH_ready (rs := [5]) (by kernel_rfl) (by simp) (AllReadyH.cons rfl (fun Kt hK => ?_) AllReadyH.nil)
          refine wanted_pos rfl ?_
          refine HVdn.out.wpNew rfl (fun x8 W2 hv hb => ?_)
          have HVdnn := hide hv
          refine hK.out _ _ (HVdnn.out.sv (by simp)) (fun hS2 => ?_)
          clear hK Kt hv hb
          simp only [Act.put, List.getElem_toArray, List.getElem_cons_zero, List.getElem_cons_succ, List.setIfInBounds_toArray, List.set_cons_zero, List.set_cons_succ]
          refine wpAnyH_ready (rs := [6]) (by kernel_rfl) (by simp) (AllReadyH.cons rfl (fun Kt hK => ?_) AllReadyH.nil)
          refine wanted_pos rfl ?_
          refine HVdnn.out.wpPut 1 rfl (by rfl) (by rfl) rfl (fun W3 hv => ?_)
          have HVdnnp := hide hv
          refine hK.out _ _ (HVdnnp.out.sv (by simp)) (fun hS3 => ?_)
          clear hK Kt hv
          simp only [Act.put, List.getElem_toArray, List.getElem_cons_zero, List.getElem_cons_succ]
          refine wpAnyH_ready (rs := [7]) (by kernel_rfl) (by simp) (AllReadyH.cons rfl (fun Kt hK => ?_) AllReadyH.nil)
          refine wanted_pos rfl ?_
          refine HVdnnp.out.wpPut 0 rfl (by rfl) (by rfl) rfl (fun W4 hv => ?_)
          have HVdnnpp := hide hv
          refine hK.out _ _ (HVdnnpp.out.sv (by simp)) (fun hS4 => ?_)
          clear hK Kt hv
          simp only [Act.put, List.getElem_toArray, List.getElem_cons_zero, List.getElem_cons_succ]
          refine wpAnyH_done (by kernel_rfl) ?_ _
          refine NoPanic.normal ?_
          have HVe : Hid (Vs X _ [(x8, g), (x7, f)]) := HVdnnpp
          revert HVe
          exact hcut x7 x8 W4
        · refine wanted_pos rfl ?_
          refine HVd.out.wpNew rfl (fun x8 W5 hv hb => ?_)
          have HVdn := hide hv
          refine hK.out _ _ (HVdn.out.sv (by simp)) (fun hS5 => ?_)
          clear hK Kt hv hb
          simp only [Act.put, List.getElem_toArray, List.getElem_cons_zero, List.getElem_cons_succ, List.setIfInBounds_toArray, List.set_cons_zero, List.set_cons_succ]
          refine wpAnyH_ready (rs := [4]) (by kernel_rfl) (by simp) (AllReadyH.cons rfl (fun Kt hK => ?_) AllReadyH.nil)
          refine wanted_pos rfl ?_
          refine HVdn.out.wpNew rfl (fun x7 W6 hv hb => ?_)
          have HVdnn := hide hv
          refine hK.out _ _ (HVdnn.out.sv (by simp)) (fun hS6 => ?_)
          clear hK Kt hv hb
          simp only [Act.put, List.getElem_toArray, List.getElem_cons_zero, List.getElem_cons_succ, List.setIfInBounds_toArray, List.set_cons_zero, List.set_cons_succ]
          refine wpAnyH_ready (rs := [6]) (by kernel_rfl) (by simp) (AllReadyH.cons rfl (fun Kt hK => ?_) AllReadyH.nil)
          refine wanted_pos rfl ?_
          refine HVdnn.out.wpPut 0 rfl (by rfl) (by rfl) rfl (fun W7 hv => ?_)
          have HVdnnp := hide hv
          refine hK.out _ _ (HVdnnp.out.sv (by simp)) (fun hS7 => ?_)
          clear hK Kt hv
          simp only [Act.put, List.getElem_toArray, List.getElem_cons_zero, List.getElem_cons_succ]
          refine wpAnyH_ready (rs := [7]) (by kernel_rfl) (by simp) (AllReadyH.cons rfl (fun Kt hK => ?_) AllReadyH.nil)
          refine wanted_pos rfl ?_
          refine HVdnnp.out.wpPut 1 rfl (by rfl) (by rfl) rfl (fun W8 hv => ?_)
          have HVdnnpp := hide hv
          refine hK.out _ _ (HVdnnpp.out.sv (by simp)) (fun hS8 => ?_)
          clear hK Kt hv
          simp only [Act.put, List.getElem_toArray, List.getElem_cons_zero, List.getElem_cons_succ]
          refine wpAnyH_done (by kernel_rfl) ?_ _
          refine NoPanic.normal ?_
          have HVdnnpps := hide (HVdnnpp.out.perm (List.Perm.swap (x8, g) (x7, f) _))
          have HVe : Hid (Vs X _ [(x8, g), (x7, f)]) := HVdnnpps
          revert HVe
          exact hcut x7 x8 W8
      intro x7 x8 W0 HV0
      clear HVd HRf HRg
      have HB1 := hide (Go.Proofs.YtkpkkjcfodjifaaDoor.K.call HB0.out HV0.out.k)
      have HT1 := hide (HTX.out.keep HV0.out.k)
      go_upto_region 3 with (go_at_call 8; refine Calls.mono (awake_any HT1.out.tab) ?_; rintro e Y2 ⟨rfl, hb⟩; have HV2 := hide (HV0.out.keep hb); have HB2 := hide (Go.Proofs.YtkpkkjcfodjifaaDoor.K.call HB1.out hb); have HT2 := hide (HT1.out.keep hb); clear hb)
      go_upto_region 5 with fail
      rw [hwk]
      clear hwk HV0
      have HR7 := hide (HV2.out.rg 1 rfl)
      have HR8 := hide (HV2.out.rg 0 rfl)
      obtain hn := HN.out
      have hp1 := fun W (h : Below Y2.heap.size Y2 W) => checkProof_any (w := W) (m := (k : Int)) (n := (k : Int)) (f := f) (g := g) (c := 0) (HT2.out.keep h) (hl_nil W) (Nat.le_refl 0) (by unfold maxLen; omega) (by omega) HK.out.2 HF.out.1 HF.out.2
      have hp2 := fun W (h : Below Y2.heap.size Y2 W) => checkProof_any (w := W) (m := (k : Int)) (n := (k : Int)) (f := f) (g := f) (c := c) (HT2.out.keep h) ((HX.out.keep HB2.out).keep h) HC.out.1 HC.out.2 (by omega) HK.out.2 HF.out.1 HF.out.1
      have hp3 := fun W (h : Below Y2.heap.size Y2 W) => checkPath_any (w := W) (m := 0) (n := 1) (f := f) (g := g) (c := 0) (HT2.out.keep h).tab (hl_nil W) (Nat.le_refl 0) (by unfold maxLen; omega) (by omega) (by omega) HF.out.1 HF.out.2
      have hp4 := fun W (h : Below Y2.heap.size Y2 W) => checkPath_any (w := W) (m := 0) (n := 1) (f := f) (g := f) (c := c) (HT2.out.keep h).tab ((HX.out.keep HB2.out).keep h) HC.out.1 HC.out.2 (by omega) (by omega) HF.out.1 HF.out.1
      rw [show rv (lF []) 0 = [] from rfl, ckT_all HK.out.1, hv0] at hp1
      rw [show rv (lF []) 0 = [] from rfl, ckP_one, hv0] at hp3
      rw [HRV.out, ckT_alls HK.out.1] at hp2
      rw [HRV.out, ckP_ones] at hp4
      unfold hv at hp1 hp2 hp3 hp4
      have HP1 := hide hp1
      have HP2 := hide hp2
      have HP3 := hide hp3
      have HP4 := hide hp4
      have HE' := fun W => eqH f g W
      rw [hv0] at HE'
      have HE := hide HE'
      clear hp1 hp2 hp3 hp4 HE' hv0
      clear hn
      refine wp_region_noPanic ?_
      refine wp_region_held_drew (S := fun w' => Below Y2.heap.size Y2 w') (by kernel_rfl) (Go.Proofs.YtkpkkjcfodjifaaDoor.K.drew (Below.refl _ Y2)) (fun hS0 => ?_)
      refine wpAnyH_take (i := 0) (v := .int .i64 (k : Int)) rfl (by kernel_rfl) (by kernel_rfl) (by kernel_rfl) (fun _ _ _ h => h) (Or.inl ⟨by rfl, fun w' _ => by go_simp⟩) hS0 ?_
      simp only [Act.put, List.getElem_toArray, List.getElem_cons_zero, List.setIfInBounds_toArray, List.set_cons_zero, List.set_cons_succ]
      refine wpAnyH_take (i := 1) (v := .int .i64 (k : Int)) rfl (by kernel_rfl) (by kernel_rfl) (by kernel_rfl) (fun _ _ _ h => h) (Or.inl ⟨by rfl, fun w' _ => by go_simp⟩) hS0 ?_
      simp only [Act.put, List.getElem_toArray, List.getElem_cons_zero, List.getElem_cons_succ, List.setIfInBounds_toArray, List.set_cons_zero, List.set_cons_succ]
      refine wpAnyH_take (i := 2) (v := .agg (ab f 32).toArray) rfl (by kernel_rfl) (by kernel_rfl) (by kernel_rfl) (fun _ _ _ h => h) (yieldsIf_load_mid (by rfl) 23 _ rfl x7 0 (by rfl) (ab f 32) _ (fun w' hS => range_keep HR7.out hS) Tryd.underlying23 rfl (ilH _)) hS0 ?_
      simp only [Act.put, List.getElem_toArray, List.getElem_cons_zero, List.getElem_cons_succ, List.setIfInBounds_toArray, List.set_cons_zero, List.set_cons_succ]
      refine wpAnyH_take (i := 3) (v := .agg (ab g 32).toArray) rfl (by kernel_rfl) (by kernel_rfl) (by kernel_rfl) (fun _ _ _ h => h) (yieldsIf_load_mid (by rfl) 23 _ rfl x8 0 (by rfl) (ab g 32) _ (fun w' hS => range_keep HR8.out hS) Tryd.underlying23 rfl (ilH _)) hS0 ?_
      simp only [Act.put, List.getElem_toArray, List.getElem_cons_zero, List.getElem_cons_succ, List.setIfInBounds_toArray, List.set_cons_zero, List.set_cons_succ]
      refine wpAnyH_take (i := 5) (v := .agg (ab f 32).toArray) rfl (by kernel_rfl) (by kernel_rfl) (by kernel_rfl) (fun _ _ _ h => h) (yieldsIf_load_mid (by rfl) 23 _ rfl x7 0 (by rfl) (ab f 32) _ (fun w' hS => range_keep HR7.out hS) Tryd.underlying23 rfl (ilH _)) hS0 ?_
      simp only [Act.put, List.getElem_toArray, List.getElem_cons_zero, List.getElem_cons_succ, List.setIfInBounds_toArray, List.set_cons_zero, List.set_cons_succ]
      refine wpAnyH_take (i := 6) (v := .agg (ab g 32).toArray) rfl (by kernel_rfl) (by kernel_rfl) (by kernel_rfl) (fun _ _ _ h => h) (yieldsIf_load_mid (by rfl) 23 _ rfl x8 0 (by rfl) (ab g 32) _ (fun w' hS => range_keep HR8.out hS) Tryd.underlying23 rfl (ilH _)) hS0 ?_
      simp only [Act.put, List.getElem_toArray, List.getElem_cons_zero, List.getElem_cons_succ, List.setIfInBounds_toArray, List.set_cons_zero, List.set_cons_succ]
      refine wpAnyH_take (i := 7) (v := .bool v) rfl (by kernel_rfl) (by kernel_rfl) (by kernel_rfl) (fun _ _ _ h => h) (yieldsIf_eqH (by rfl) (ab f 32).toArray (ab g 32).toArray v rfl (by rfl) (by rfl) HE.out) hS0 ?_
      simp only [Act.put, List.getElem_toArray, List.getElem_cons_zero, List.getElem_cons_succ, List.setIfInBounds_toArray, List.set_cons_zero, List.set_cons_succ]
      refine wpAnyH_ready (rs := [4]) (by kernel_rfl) (by simp) (AllReadyH.cons rfl (fun Kt hK => ?_) AllReadyH.nil)
      refine wanted_pos rfl ?_
      refine wp_call (R := fun r w' => r = .bool v ∧ Below Y2.heap.size Y2 w') (vs := #[.int .i64 (k : Int), .int .i64 (k : Int), .agg (ab f 32).toArray, .slice none 0 0, .agg (ab g 32).toArray]) rfl (by simp only [List.map_toArray, List.map_cons, List.map_nil]; rfl) (by go_simp) (Calls.mono (HP1.out _ hS0) (fun e w' ⟨he, hb⟩ => ⟨_, he, rfl, K.call hS0 hb⟩)) (fun r W1 ⟨hr, hb⟩ => ?_)
      subst hr
      refine hK.out _ _ hb (fun hS1 => ?_)
      clear hK Kt hb
      simp only [Act.put, List.getElem_toArray, List.getElem_cons_zero, List.getElem_cons_succ, List.setIfInBounds_toArray, List.set_cons_zero, List.set_cons_succ]
      refine wpAnyH_take (i := 8) (v := .bool true) rfl (by kernel_rfl) (by kernel_rfl) (by kernel_rfl) (fun _ _ _ h => h) (Or.inl ⟨by rfl, fun w' _ => by go_simp⟩) hS1 ?_
      simp only [Act.put, List.getElem_toArray, List.getElem_cons_zero, List.getElem_cons_succ, List.setIfInBounds_toArray, List.set_cons_zero, List.set_cons_succ]
      refine wpAnyH_take (i := 9) (v := .bool true) rfl (by kernel_rfl) (by kernel_rfl) (by kernel_rfl) (fun _ _ _ h => h) (Or.inl ⟨by rfl, fun w' _ => by go_simp⟩) hS1 ?_
      simp only [Act.put, List.getElem_toArray, List.getElem_cons_zero, List.getElem_cons_succ, List.setIfInBounds_toArray, List.set_cons_zero, List.set_cons_succ]
      refine wpAnyH_take (i := 10) (v := .int .i64 (k : Int)) rfl (by kernel_rfl) (by kernel_rfl) (by kernel_rfl) (fun _ _ _ h => h) (Or.inl ⟨by rfl, fun w' _ => by go_simp⟩) hS1 ?_
      simp only [Act.put, List.getElem_toArray, List.getElem_cons_zero, List.getElem_cons_succ, List.setIfInBounds_toArray, List.set_cons_zero, List.set_cons_succ]
      refine wpAnyH_take (i := 11) (v := .int .i64 (k : Int)) rfl (by kernel_rfl) (by kernel_rfl) (by kernel_rfl) (fun _ _ _ h => h) (Or.inl ⟨by rfl, fun w' _ => by go_simp⟩) hS1 ?_
      simp only [Act.put, List.getElem_toArray, List.getElem_cons_zero, List.getElem_cons_succ, List.setIfInBounds_toArray, List.set_cons_zero, List.set_cons_succ]
      refine wpAnyH_take (i := 12) (v := .agg (ab f 32).toArray) rfl (by kernel_rfl) (by kernel_rfl) (by kernel_rfl) (fun _ _ _ h => h) (yieldsIf_load_mid (by rfl) 23 _ rfl x7 0 (by rfl) (ab f 32) _ (fun w' hS => range_keep HR7.out hS) Tryd.underlying23 rfl (ilH _)) hS1 ?_
      simp only [Act.put, List.getElem_toArray, List.getElem_cons_zero, List.getElem_cons_succ, List.setIfInBounds_toArray, List.set_cons_zero, List.set_cons_succ]
      refine wpAnyH_take (i := 13) (v := .slice z l c) rfl (by kernel_rfl) (by kernel_rfl) (by kernel_rfl) (fun _ _ _ h => h) (Or.inl ⟨by rfl, fun w' _ => by go_simp⟩) hS1 ?_
      simp only [Act.put, List.getElem_toArray, List.getElem_cons_zero, List.getElem_cons_succ, List.setIfInBounds_toArray, List.set_cons_zero, List.set_cons_succ]
      refine wpAnyH_take (i := 14) (v := .agg (ab f 32).toArray) rfl (by kernel_rfl) (by kernel_rfl) (by kernel_rfl) (fun _ _ _ h => h) (yieldsIf_load_mid (by rfl) 23 _ rfl x7 0 (by rfl) (ab f 32) _ (fun w' hS => range_keep HR7.out hS) Tryd.underlying23 rfl (ilH _)) hS1 ?_
      simp only [Act.put, List.getElem_toArray, List.getElem_cons_zero, List.getElem_cons_succ, List.setIfInBounds_toArray, List.set_cons_zero, List.set_cons_succ]
      refine wpAnyH_take (i := 16) (v := .slice z l c) rfl (by kernel_rfl) (by kernel_rfl) (by kernel_rfl) (fun _ _ _ h => h) (Or.inl ⟨by rfl, fun w' _ => by go_simp⟩) hS1 ?_
      simp only [Act.put, List.getElem_toArray, List.getElem_cons_zero, List.getElem_cons_succ, List.setIfInBounds_toArray, List.set_cons_zero, List.set_cons_succ]
      refine wpAnyH_take (i := 17) (v := .int .i64 (l : Int)) rfl (by kernel_rfl) (by kernel_rfl) (by kernel_rfl) (fun _ _ _ h => h) (Or.inl ⟨by rfl, fun w' _ => by go_simp⟩) hS1 ?_
      simp only [Act.put, List.getElem_toArray, List.getElem_cons_zero, List.getElem_cons_succ, List.setIfInBounds_toArray, List.set_cons_zero, List.set_cons_succ]
      refine wpAnyH_take (i := 18) (v := .bool false) rfl (by kernel_rfl) (by kernel_rfl) (by kernel_rfl) (fun _ _ _ h => h) (Or.inl ⟨by rfl, fun w' _ => by go_simp⟩) hS1 ?_
      simp only [Act.put, List.getElem_toArray, List.getElem_cons_zero, List.getElem_cons_succ, List.setIfInBounds_toArray, List.set_cons_zero, List.set_cons_succ]
      refine wpAnyH_ready (rs := [15]) (by kernel_rfl) (by simp) (AllReadyH.cons rfl (fun Kt hK => ?_) AllReadyH.nil)
      refine wanted_pos rfl ?_
      refine wp_call (R := fun r w' => r = .bool false ∧ Below Y2.heap.size Y2 w') (vs := #[.int .i64 (k : Int), .int .i64 (k : Int), .agg (ab f 32).toArray, .slice z l c, .agg (ab f 32).toArray]) rfl (by simp only [List.map_toArray, List.map_cons, List.map_nil]; rfl) (by go_simp) (Calls.mono (HP2.out _ hS1) (fun e w' ⟨he, hb⟩ => ⟨_, he, rfl, K.call hS1 hb⟩)) (fun r W2 ⟨hr, hb⟩ => ?_)
      subst hr
      refine hK.out _ _ hb (fun hS2 => ?_)
      clear hK Kt hb
      simp only [Act.put, List.getElem_toArray, List.getElem_cons_zero, List.getElem_cons_succ, List.setIfInBounds_toArray, List.set_cons_zero, List.set_cons_succ]
      refine wpAnyH_take (i := 19) (v := .bool true) rfl (by kernel_rfl) (by kernel_rfl) (by kernel_rfl) (fun _ _ _ h => h) (Or.inl ⟨by rfl, fun w' _ => by go_simp⟩) hS2 ?_
      simp only [Act.put, List.getElem_toArray, List.getElem_cons_zero, List.getElem_cons_succ, List.setIfInBounds_toArray, List.set_cons_zero, List.set_cons_succ]
      refine wpAnyH_take (i := 20) (v := .bool true) rfl (by kernel_rfl) (by kernel_rfl) (by kernel_rfl) (fun _ _ _ h => h) (Or.inl ⟨by rfl, fun w' _ => by go_simp⟩) hS2 ?_
      simp only [Act.put, List.getElem_toArray, List.getElem_cons_zero, List.getElem_cons_succ, List.setIfInBounds_toArray, List.set_cons_zero, List.set_cons_succ]
      refine wpAnyH_take (i := 21) (v := .bool true) rfl (by kernel_rfl) (by kernel_rfl) (by kernel_rfl) (fun _ _ _ h => h) (Or.inl ⟨by rfl, fun w' _ => by go_simp⟩) hS2 ?_
      simp only [Act.put, List.getElem_toArray, List.getElem_cons_zero, List.getElem_cons_succ, List.setIfInBounds_toArray, List.set_cons_zero, List.set_cons_succ]
      refine wpAnyH_take (i := 22) (v := .agg (ab f 32).toArray) rfl (by kernel_rfl) (by kernel_rfl) (by kernel_rfl) (fun _ _ _ h => h) (yieldsIf_load_mid (by rfl) 23 _ rfl x7 0 (by rfl) (ab f 32) _ (fun w' hS => range_keep HR7.out hS) Tryd.underlying23 rfl (ilH _)) hS2 ?_
      simp only [Act.put, List.getElem_toArray, List.getElem_cons_zero, List.getElem_cons_succ, List.setIfInBounds_toArray, List.set_cons_zero, List.set_cons_succ]
      refine wpAnyH_take (i := 23) (v := .agg (ab g 32).toArray) rfl (by kernel_rfl) (by kernel_rfl) (by kernel_rfl) (fun _ _ _ h => h) (yieldsIf_load_mid (by rfl) 23 _ rfl x8 0 (by rfl) (ab g 32) _ (fun w' hS => range_keep HR8.out hS) Tryd.underlying23 rfl (ilH _)) hS2 ?_
      simp only [Act.put, List.getElem_toArray, List.getElem_cons_zero, List.getElem_cons_succ, List.setIfInBounds_toArray, List.set_cons_zero, List.set_cons_succ]
      refine wpAnyH_take (i := 25) (v := .agg (ab f 32).toArray) rfl (by kernel_rfl) (by kernel_rfl) (by kernel_rfl) (fun _ _ _ h => h) (yieldsIf_load_mid (by rfl) 23 _ rfl x7 0 (by rfl) (ab f 32) _ (fun w' hS => range_keep HR7.out hS) Tryd.underlying23 rfl (ilH _)) hS2 ?_
      simp only [Act.put, List.getElem_toArray, List.getElem_cons_zero, List.getElem_cons_succ, List.setIfInBounds_toArray, List.set_cons_zero, List.set_cons_succ]
      refine wpAnyH_take (i := 26) (v := .agg (ab g 32).toArray) rfl (by kernel_rfl) (by kernel_rfl) (by kernel_rfl) (fun _ _ _ h => h) (yieldsIf_load_mid (by rfl) 23 _ rfl x8 0 (by rfl) (ab g 32) _ (fun w' hS => range_keep HR8.out hS) Tryd.underlying23 rfl (ilH _)) hS2 ?_
      simp only [Act.put, List.getElem_toArray, List.getElem_cons_zero, List.getElem_cons_succ, List.setIfInBounds_toArray, List.set_cons_zero, List.set_cons_succ]
      refine wpAnyH_take (i := 27) (v := .bool v) rfl (by kernel_rfl) (by kernel_rfl) (by kernel_rfl) (fun _ _ _ h => h) (yieldsIf_eqH (by rfl) (ab f 32).toArray (ab g 32).toArray v rfl (by rfl) (by rfl) HE.out) hS2 ?_
      simp only [Act.put, List.getElem_toArray, List.getElem_cons_zero, List.getElem_cons_succ, List.setIfInBounds_toArray, List.set_cons_zero, List.set_cons_succ]
      refine wpAnyH_ready (rs := [24]) (by kernel_rfl) (by simp) (AllReadyH.cons rfl (fun Kt hK => ?_) AllReadyH.nil)
      refine wanted_pos rfl ?_
      refine wp_call (R := fun r w' => r = .bool v ∧ Below Y2.heap.size Y2 w') (vs := #[.int .i64 0, .int .i64 1, .agg (ab f 32).toArray, .slice none 0 0, .agg (ab g 32).toArray]) rfl (by simp only [List.map_toArray, List.map_cons, List.map_nil]; rfl) (by go_simp) (Calls.mono (HP3.out _ hS2) (fun e w' ⟨he, hb⟩ => ⟨_, he, rfl, K.call hS2 hb⟩)) (fun r W3 ⟨hr, hb⟩ => ?_)
      subst hr
      refine hK.out _ _ hb (fun hS3 => ?_)
      clear hK Kt hb
      simp only [Act.put, List.getElem_toArray, List.getElem_cons_zero, List.getElem_cons_succ, List.setIfInBounds_toArray, List.set_cons_zero, List.set_cons_succ]
      refine wpAnyH_take (i := 28) (v := .bool true) rfl (by kernel_rfl) (by kernel_rfl) (by kernel_rfl) (fun _ _ _ h => h) (Or.inl ⟨by rfl, fun w' _ => by go_simp⟩) hS3 ?_
      simp only [Act.put, List.getElem_toArray, List.getElem_cons_zero, List.getElem_cons_succ, List.setIfInBounds_toArray, List.set_cons_zero, List.set_cons_succ]
      refine wpAnyH_take (i := 29) (v := .bool true) rfl (by kernel_rfl) (by kernel_rfl) (by kernel_rfl) (fun _ _ _ h => h) (Or.inl ⟨by rfl, fun w' _ => by go_simp⟩) hS3 ?_
      simp only [Act.put, List.getElem_toArray, List.getElem_cons_zero, List.getElem_cons_succ, List.setIfInBounds_toArray, List.set_cons_zero, List.set_cons_succ]
      refine wpAnyH_take (i := 30) (v := .bool true) rfl (by kernel_rfl) (by kernel_rfl) (by kernel_rfl) (fun _ _ _ h => h) (Or.inl ⟨by rfl, fun w' _ => by go_simp⟩) hS3 ?_
      simp only [Act.put, List.getElem_toArray, List.getElem_cons_zero, List.getElem_cons_succ, List.setIfInBounds_toArray, List.set_cons_zero, List.set_cons_succ]
      refine wpAnyH_take (i := 31) (v := .agg (ab f 32).toArray) rfl (by kernel_rfl) (by kernel_rfl) (by kernel_rfl) (fun _ _ _ h => h) (yieldsIf_load_mid (by rfl) 23 _ rfl x7 0 (by rfl) (ab f 32) _ (fun w' hS => range_keep HR7.out hS) Tryd.underlying23 rfl (ilH _)) hS3 ?_
      simp only [Act.put, List.getElem_toArray, List.getElem_cons_zero, List.getElem_cons_succ, List.setIfInBounds_toArray, List.set_cons_zero, List.set_cons_succ]
      refine wpAnyH_take (i := 32) (v := .slice z l c) rfl (by kernel_rfl) (by kernel_rfl) (by kernel_rfl) (fun _ _ _ h => h) (Or.inl ⟨by rfl, fun w' _ => by go_simp⟩) hS3 ?_
      simp only [Act.put, List.getElem_toArray, List.getElem_cons_zero, List.getElem_cons_succ, List.setIfInBounds_toArray, List.set_cons_zero, List.set_cons_succ]
      refine wpAnyH_take (i := 33) (v := .agg (ab f 32).toArray) rfl (by kernel_rfl) (by kernel_rfl) (by kernel_rfl) (fun _ _ _ h => h) (yieldsIf_load_mid (by rfl) 23 _ rfl x7 0 (by rfl) (ab f 32) _ (fun w' hS => range_keep HR7.out hS) Tryd.underlying23 rfl (ilH _)) hS3 ?_
      simp only [Act.put, List.getElem_toArray, List.getElem_cons_zero, List.getElem_cons_succ, List.setIfInBounds_toArray, List.set_cons_zero, List.set_cons_succ]
      refine wpAnyH_take (i := 35) (v := .slice z l c) rfl (by kernel_rfl) (by kernel_rfl) (by kernel_rfl) (fun _ _ _ h => h) (Or.inl ⟨by rfl, fun w' _ => by go_simp⟩) hS3 ?_
      simp only [Act.put, List.getElem_toArray, List.getElem_cons_zero, List.getElem_cons_succ, List.setIfInBounds_toArray, List.set_cons_zero, List.set_cons_succ]
      refine wpAnyH_take (i := 36) (v := .int .i64 (l : Int)) rfl (by kernel_rfl) (by kernel_rfl) (by kernel_rfl) (fun _ _ _ h => h) (Or.inl ⟨by rfl, fun w' _ => by go_simp⟩) hS3 ?_
      simp only [Act.put, List.getElem_toArray, List.getElem_cons_zero, List.getElem_cons_succ, List.setIfInBounds_toArray, List.set_cons_zero, List.set_cons_succ]
      refine wpAnyH_take (i := 37) (v := .bool false) rfl (by kernel_rfl) (by kernel_rfl) (by kernel_rfl) (fun _ _ _ h => h) (Or.inl ⟨by rfl, fun w' _ => by go_simp⟩) hS3 ?_
      simp only [Act.put, List.getElem_toArray, List.getElem_cons_zero, List.getElem_cons_succ, List.setIfInBounds_toArray, List.set_cons_zero, List.set_cons_succ]
      refine wpAnyH_ready (rs := [34]) (by kernel_rfl) (by simp) (AllReadyH.cons rfl (fun Kt hK => ?_) AllReadyH.nil)
      refine wanted_pos rfl ?_
      refine wp_call (R := fun r w' => r = .bool false ∧ Below Y2.heap.size Y2 w') (vs := #[.int .i64 0, .int .i64 1, .agg (ab f 32).toArray, .slice z l c, .agg (ab f 32).toArray]) rfl (by simp only [List.map_toArray, List.map_cons, List.map_nil]; rfl) (by go_simp) (Calls.mono (HP4.out _ hS3) (fun e w' ⟨he, hb⟩ => ⟨_, he, rfl, K.call hS3 hb⟩)) (fun r W4 ⟨hr, hb⟩ => ?_)
      subst hr
      refine hK.out _ _ hb (fun hS4 => ?_)
      clear hK Kt hb
      simp only [Act.put, List.getElem_toArray, List.getElem_cons_zero, List.getElem_cons_succ, List.setIfInBounds_toArray, List.set_cons_zero, List.set_cons_succ]
      refine wpAnyH_take (i := 38) (v := .bool true) rfl (by kernel_rfl) (by kernel_rfl) (by kernel_rfl) (fun _ _ _ h => h) (Or.inl ⟨by rfl, fun w' _ => by go_simp⟩) hS4 ?_
      simp only [Act.put, List.getElem_toArray, List.getElem_cons_zero, List.getElem_cons_succ, List.setIfInBounds_toArray, List.set_cons_zero, List.set_cons_succ]
      refine wpAnyH_take (i := 39) (v := .bool true) rfl (by kernel_rfl) (by kernel_rfl) (by kernel_rfl) (fun _ _ _ h => h) (Or.inl ⟨by rfl, fun w' _ => by go_simp⟩) hS4 ?_
      simp only [Act.put, List.getElem_toArray, List.getElem_cons_zero, List.getElem_cons_succ, List.setIfInBounds_toArray, List.set_cons_zero, List.set_cons_succ]
      refine wpAnyH_take (i := 40) (v := .bool true) rfl (by kernel_rfl) (by kernel_rfl) (by kernel_rfl) (fun _ _ _ h => h) (Or.inl ⟨by rfl, fun w' _ => by go_simp⟩) hS4 ?_
      simp only [Act.put, List.getElem_toArray, List.getElem_cons_zero, List.getElem_cons_succ, List.setIfInBounds_toArray, List.set_cons_zero, List.set_cons_succ]
      refine wpAnyH_done (by kernel_rfl) ?_ _
      refine NoPanic.normal ?_
      go_wp2_with fail
      go_ret
      exact ⟨rfl, Go.Proofs.YtkpkkjcfodjifaaDoor.K.call HB2.out hS4⟩
  · have hq : (70 : Int) < (l : Int) := by omega
    clear hn hn0 hn1
    go_enter Tryd.func7, Tryd.ntmps7
    go_upto_region 1 with fail
    refine wp_world (fun X hX => ?_)
    obtain ⟨hB, hRf, hRg⟩ := boxH2 hX
    clear hX
    have HTX := hide (HT.out.keep hB)
    have HB0 := hide hB
    have HXX := hide (HX.out.keep hB)
    obtain ⟨b0, hb0⟩ : ∃ b0, w.heap.size = b0 := ⟨_, rfl⟩
    rw [hb0] at hRf hRg ⊢
    have HRf := hide hRf
    have HRg := hide hRg
    clear hB hRf hRg hb0
    have HVd := hide (Vs.nil X).drew
    apply meet3 (A := Nat) (B := Nat) (C := World)
    · intro hcut
      refine wp_region_noPanic ?_
      refine wp_region_held_drew (S := Sv X []) (by kernel_rfl) (HVd.out.sv (by simp)) (fun hS0 => ?_)
      refine wpAnyH_take (i := 0) (v := .pointer (some ⟨b0, 0, none⟩)) rfl (by kernel_rfl) (by kernel_rfl) (by kernel_rfl) (fun _ _ _ h => h) (Or.inl ⟨by rfl, fun w' _ => by go_simp⟩) hS0 ?_
      simp only [Act.put, List.getElem_toArray, List.getElem_cons_zero, List.setIfInBounds_toArray, List.set_cons_zero, List.set_cons_succ]
      refine wpAnyH_take (i := 1) (v := .agg (ab f 32).toArray) rfl (by kernel_rfl) (by kernel_rfl) (by kernel_rfl) (fun _ _ _ h => h) (yieldsIf_load_mid (by rfl) 23 _ rfl b0 0 (by rfl) (ab f 32) _ (fun w' hS => range_keep HRf.out hS.1) Tryd.underlying23 rfl (ilH _)) hS0 ?_
      simp only [Act.put, List.getElem_toArray, List.getElem_cons_zero, List.getElem_cons_succ, List.setIfInBounds_toArray, List.set_cons_zero, List.set_cons_succ]
      refine wpAnyH_take (i := 2) (v := .pointer (some ⟨b0, 32, none⟩)) rfl (by kernel_rfl) (by kernel_rfl) (by kernel_rfl) (fun _ _ _ h => h) (Or.inl ⟨by rfl, fun w' _ => by go_simp⟩) hS0 ?_
      simp only [Act.put, List.getElem_toArray, List.getElem_cons_zero, List.getElem_cons_succ, List.setIfInBounds_toArray, List.set_cons_zero, List.set_cons_succ]
      refine wpAnyH_take (i := 3) (v := .agg (ab g 32).toArray) rfl (by kernel_rfl) (by kernel_rfl) (by kernel_rfl) (fun _ _ _ h => h) (yieldsIf_load_mid (by rfl) 23 _ rfl b0 32 (by rfl) (ab g 32) _ (fun w' hS => range_keep HRg.out hS.1) Tryd.underlying23 rfl (ilH _)) hS0 ?_
      simp only [Act.put, List.getElem_toArray, List.getElem_cons_zero, List.getElem_cons_succ, List.setIfInBounds_toArray, List.set_cons_zero, List.set_cons_succ]
      refine wpAnyH_ready (rs := [4, 5]) (by kernel_rfl) (by simp) (AllReadyH.cons rfl (fun Kt hK => ?_) (AllReadyH.cons rfl (fun Kt hK => ?_) AllReadyH.nil))
      · refine wanted_pos rfl ?_
        refine HVd.out.wpNew rfl (fun x7 W1 hv hb => ?_)
        have HVdn := hide hv
        refine hK.out _ _ (HVdn.out.sv (by simp)) (fun hS1 => ?_)
        clear hK Kt hv hb
        simp only [Act.put, List.getElem_toArray, List.getElem_cons_zero, List.getElem_cons_succ, List.setIfInBounds_toArray, List.set_cons_zero, List.set_cons_succ]
        refine wpAnyH_ready (rs := [5]) (by kernel_rfl) (by simp) (AllReadyH.cons rfl (fun Kt hK => ?_) AllReadyH.nil)
        refine wanted_pos rfl ?_
        refine HVdn.out.wpNew rfl (fun x8 W2 hv hb => ?_)
        have HVdnn := hide hv
        refine hK.out _ _ (HVdnn.out.sv (by simp)) (fun hS2 => ?_)
        clear hK Kt hv hb
        simp only [Act.put, List.getElem_toArray, List.getElem_cons_zero, List.getElem_cons_succ, List.setIfInBounds_toArray, List.set_cons_zero, List.set_cons_succ]
        refine wpAnyH_ready (rs := [6]) (by kernel_rfl) (by simp) (AllReadyH.cons rfl (fun Kt hK => ?_) AllReadyH.nil)
        refine wanted_pos rfl ?_
        refine HVdnn.out.wpPut 1 rfl (by rfl) (by rfl) rfl (fun W3 hv => ?_)
        have HVdnnp := hide hv
        refine hK.out _ _ (HVdnnp.out.sv (by simp)) (fun hS3 => ?_)
        clear hK Kt hv
        simp only [Act.put, List.getElem_toArray, List.getElem_cons_zero, List.getElem_cons_succ]
        refine wpAnyH_ready (rs := [7]) (by kernel_rfl) (by simp) (AllReadyH.cons rfl (fun Kt hK => ?_) AllReadyH.nil)
        refine wanted_pos rfl ?_
        refine HVdnnp.out.wpPut 0 rfl (by rfl) (by rfl) rfl (fun W4 hv => ?_)
        have HVdnnpp := hide hv
        refine hK.out _ _ (HVdnnpp.out.sv (by simp)) (fun hS4 => ?_)
        clear hK Kt hv
        simp only [Act.put, List.getElem_toArray, List.getElem_cons_zero, List.getElem_cons_succ]
        refine wpAnyH_done (by kernel_rfl) ?_ _
        refine NoPanic.normal ?_
        have HVe : Hid (Vs X _ [(x8, g), (x7, f)]) := HVdnnpp
        revert HVe
        exact hcut x7 x8 W4
      · refine wanted_pos rfl ?_
        refine HVd.out.wpNew rfl (fun x8 W5 hv hb => ?_)
        have HVdn := hide hv
        refine hK.out _ _ (HVdn.out.sv (by simp)) (fun hS5 => ?_)
        clear hK Kt hv hb
        simp only [Act.put, List.getElem_toArray, List.getElem_cons_zero, List.getElem_cons_succ, List.setIfInBounds_toArray, List.set_cons_zero, List.set_cons_succ]
        refine wpAnyH_ready (rs := [4]) (by kernel_rfl) (by simp) (AllReadyH.cons rfl (fun Kt hK => ?_) AllReadyH.nil)
        refine wanted_pos rfl ?_
        refine HVdn.out.wpNew rfl (fun x7 W6 hv hb => ?_)
        have HVdnn := hide hv
        refine hK.out _ _ (HVdnn.out.sv (by simp)) (fun hS6 => ?_)
        clear hK Kt hv hb
        simp only [Act.put, List.getElem_toArray, List.getElem_cons_zero, List.getElem_cons_succ, List.setIfInBounds_toArray, List.set_cons_zero, List.set_cons_succ]
        refine wpAnyH_ready (rs := [6]) (by kernel_rfl) (by simp) (AllReadyH.cons rfl (fun Kt hK => ?_) AllReadyH.nil)
        refine wanted_pos rfl ?_
        refine HVdnn.out.wpPut 0 rfl (by rfl) (by rfl) rfl (fun W7 hv => ?_)
        have HVdnnp := hide hv
        refine hK.out _ _ (HVdnnp.out.sv (by simp)) (fun hS7 => ?_)
        clear hK Kt hv
        simp only [Act.put, List.getElem_toArray, List.getElem_cons_zero, List.getElem_cons_succ]
        refine wpAnyH_ready (rs := [7]) (by kernel_rfl) (by simp) (AllReadyH.cons rfl (fun Kt hK => ?_) AllReadyH.nil)
        refine wanted_pos rfl ?_
        refine HVdnnp.out.wpPut 1 rfl (by rfl) (by rfl) rfl (fun W8 hv => ?_)
        have HVdnnpp := hide hv
        refine hK.out _ _ (HVdnnpp.out.sv (by simp)) (fun hS8 => ?_)
        clear hK Kt hv
        simp only [Act.put, List.getElem_toArray, List.getElem_cons_zero, List.getElem_cons_succ]
        refine wpAnyH_done (by kernel_rfl) ?_ _
        refine NoPanic.normal ?_
        have HVdnnpps := hide (HVdnnpp.out.perm (List.Perm.swap (x8, g) (x7, f) _))
        have HVe : Hid (Vs X _ [(x8, g), (x7, f)]) := HVdnnpps
        revert HVe
        exact hcut x7 x8 W8
    intro x7 x8 W0 HV0
    clear HVd HRf HRg
    have HB1 := hide (Go.Proofs.YtkpkkjcfodjifaaDoor.K.call HB0.out HV0.out.k)
    have HT1 := hide (HTX.out.keep HV0.out.k)
    go_upto_region 3 with (go_at_call 8; refine Calls.mono (awake_any HT1.out.tab) ?_; rintro e W2 ⟨rfl, hb⟩; have HB2 := hide (Go.Proofs.YtkpkkjcfodjifaaDoor.K.call HB1.out hb); have HT2 := hide (HT1.out.keep hb); clear hb)
    go_wp2_with (go_at_call 8; refine Calls.mono (awake_any HT2.out.tab) ?_; rintro e W3 ⟨rfl, hb⟩; have HB3 := hide (Go.Proofs.YtkpkkjcfodjifaaDoor.K.call HB2.out hb); clear hb)
    go_ret
    exact ⟨rfl, HB3.out⟩
end Go.Proofs.YtkpkkjcfodjifaaDoor
