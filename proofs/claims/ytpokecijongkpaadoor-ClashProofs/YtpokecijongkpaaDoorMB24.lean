/- Layer 20's laws: awake. ClashProofs. How the parameters, and the program's two tables, are read before the call. How parameters of hashes, and of lists of hashes, are read before the call. A list of hashes within a parameter. How what is said of hashes is read before the call. -/
import Derived.Test.YtpokecijongkpaaDoorMB22
import Derived.Test.YtpokecijongkpaaDoorMB23
import Derived.Test.YtpokecijongkpaaDoorMB08
import Derived.Test.YtpokecijongkpaaDoorMB06
import Derived.Test.YtpokecijongkpaaDoorMB05
import Derived.Test.YtpokecijongkpaaDoorMB19
import Derived.Test.YtpokecijongkpaaDoorMB13
import Derived.Test.YtpokecijongkpaaDoorTie
import Derived.Test.YtpokecijongkpaaDoorCards
import Derived.ProofKit
import Derived.LaidMore
import Derived.MakeChecks
import Derived.Lib.LaidTab
import Derived.Stop.LaidErr
import Derived.Laws.IdiomArrays
import Derived.OpenShut
import Derived.Carry
import Derived.ChangeMaps5
import Derived.Stop.Joined
import Derived.Deep.Grids
import Derived.Deep.Slices
namespace Go.Proofs.YtpokecijongkpaaDoor
set_option maxRecDepth 100000
open Go.RowKit
attribute [local go_sem ↓] Go.wp_at_zero Go.wp_at_succ

theorem leaf_nil_ne (f : Nat → Nat) : eqB (lf f 0) (fun _ => 0) 32 = false := by
  refine decide_eq_false (fun h => ?_)
  have h0 := h 0 (by omega)
  unfold lf at h0
  rw [hashS_congr (f := cat (fun _ => 0) 1 f) (g := nil8) (fun i hi => by
    obtain rfl : i = 0 := by omega
    rfl), zb_hash] at h0
  exact absurd h0 (by decide)
theorem sp_three : sp 3 = 2 := by decide
set_option maxRecDepth 100000 in
set_option maxHeartbeats 4000000 in
theorem awake_any {w : World} (hT : Tab w) : Calls Tryd.prog 7 #[] w fun e w' => e = .returned (.bool true) ∧ Below w.heap.size w w' := by
  have HS := hide (fun W => split_any W (k := 3) (by omega) (by omega))
  rw [show (3 : Int).toNat = 3 from rfl, sp_three] at HS
  have HL := hide (leaf_any (w := w) (x := none) (n := 0) (c := 0) (f := fun _ => 0) hT ⟨fun _ => by omega, Or.inl rfl⟩ (Nat.le_refl _) (by unfold maxLen; omega) (by omega))
  have HE := hide (fun W => eqH (lf (fun _ => 0) 0) (fun _ => 0) W)
  rw [leaf_nil_ne] at HE
  unfold hv at HL
  generalize lf (fun _ => 0) 0 = s2 at HL HE
  clear hT
  go_enter Tryd.func7, Tryd.ntmps7
  go_wp2_with (first
    | (go_at_call 18; (with_reducible refine Calls.mono (HS.out _) ?_); rintro e w1 ⟨rfl, hw⟩; replace hw := hw.symm; subst hw)
    | (refine wpList_neH (by rfl) _ _ _ rfl _ _ false rfl rfl (HE.out _) ?_; simp only [Act.put, List.setIfInBounds_toArray, List.set_cons_zero, List.set_cons_succ])
    | (refine wpList_hk0 (by rfl) rfl ?_; simp only [Act.put, List.setIfInBounds_toArray, List.set_cons_zero, List.set_cons_succ])
    | (go_at_call 17; (with_reducible refine Calls.mono HL.out ?_); rintro e w2 ⟨rfl, hb⟩; have HB := hide hb; clear hb HL))
  go_ret
  exact ⟨rfl, HB.out⟩
end Go.Proofs.YtpokecijongkpaaDoor
namespace Go.Proofs.YtpokecijongkpaaDoor
set_option maxRecDepth 100000
open Go.RowKit
attribute [local go_sem ↓] Go.wp_at_zero Go.wp_at_succ

set_option maxRecDepth 100000 in
set_option maxHeartbeats 16000000 in
theorem clashProofs_walk {w : World} {x z : Option Addr} {n c l d : Nat} {m : Int} {f : Nat → Nat} {F G : Nat → Nat → Nat} (hT : TabZ w) (hx : HL w x n F) (hc : n ≤ c) (hcm : c ≤ maxLen) (hm0 : -9223372036854775808 ≤ m) (hm1 : m < 9223372036854775808) (hf : ∀ j, f j < 256) (hy : HL w z l G) (hd : l ≤ d) (hdm : d ≤ maxLen) :
    Calls Tryd.prog 4 #[.agg (sd x n c m f).toArray, .slice z l d] w fun e w' => e = .returned (.bool true) ∧ Below w.heap.size w w' := by
  have HT := hide hT
  have HX := hide hx
  have HY := hide hy
  have HM := hide (And.intro hm0 hm1)
  have HC := hide (And.intro hc (And.intro hcm (And.intro hd hdm)))
  have HF := hide hf
  clear hT hx hc hcm hm0 hm1 hf hy hd hdm
  by_cases hn : n ≤ 60
  · have hq : (n : Int) ≤ 60 := by omega
    by_cases hl : l ≤ 70
    · have hq2 : (l : Int) ≤ 70 := by omega
      have HNL := hide (And.intro hn hl)
      clear hn hl
      obtain ⟨D, hD⟩ : ∃ D, bty n F m f (rv G l) = D := ⟨_, rfl⟩
      have hcl := fun W (h : Below w.heap.size w W) => clashProof_any (w := W) (m := m) (f := f) (c := c) (d := d) (HT.out.keep h) (HX.out.keep h) HC.out.1 HC.out.2.1 (by have := HNL.out.1; omega) (HY.out.keep h) HC.out.2.2.1 HC.out.2.2.2 (by have := HNL.out.2; omega) HM.out.1 HM.out.2 HF.out
      have hde := fun W (h : Below w.heap.size w W) => refBetrays_any (w := W) (m := m) (f := f) (c := c) (d := d) (HX.out.keep h) HC.out.1 HC.out.2.1 (by have := HNL.out.1; omega) (HY.out.keep h) HC.out.2.2.1 HC.out.2.2.2 HF.out
      rw [hD] at hcl hde
      unfold hv at hcl hde
      clear hD
      cases D with
      | false =>
        have HCL := hide hcl
        have HDE := hide hde
        clear hcl hde
        go_enter Tryd.func4, Tryd.ntmps4
        go_upto_region 1 with fail
        refine wp_world (fun X hX => ?_)
        have hv : Vc w X [(w.heap.size, sd x n c m f)] := by rw [hX]; exact (Vc.nil w).made 26 _
        clear hX
        obtain ⟨b0, hb0⟩ : ∃ b0, w.heap.size = b0 := ⟨_, rfl⟩
        rw [hb0] at hv ⊢
        have HV := hide hv
        have HRs := hide (hv.row 0 rfl).c
        have HTX := hide (HT.out.keep hv.k)
        have HXX := hide (HX.out.keep hv.k)
        have HYX := hide (HY.out.keep hv.k)
        clear hv hb0
        have HVd := hide (Vs.nil X).drew
        refine wp_region_noPanic ?_
        refine wp_region_held_drew (S := Sv X []) (by kernel_rfl) (HVd.out.sv (by simp)) (fun hS0 => ?_)
        refine wpAnyH_take (i := 0) (v := .pointer (some ⟨b0, 0, none⟩)) rfl (by kernel_rfl) (by kernel_rfl) (by kernel_rfl) (fun _ _ _ h => h) (Or.inl ⟨by rfl, fun w' _ => by go_simp⟩) hS0 ?_
        simp only [Act.put, List.getElem_toArray, List.getElem_cons_zero, List.setIfInBounds_toArray, List.set_cons_zero, List.set_cons_succ]
        refine wpAnyH_take (i := 1) (v := .slice x n c) rfl (by kernel_rfl) (by kernel_rfl) (by kernel_rfl) (fun _ _ _ h => h) (Or.inl ⟨by rfl, fun w' hS => by have hc := later hS.1 (sd_l HRs.out); go_simp⟩) hS0 ?_
        simp only [Act.put, List.getElem_toArray, List.getElem_cons_zero, List.getElem_cons_succ, List.setIfInBounds_toArray, List.set_cons_zero, List.set_cons_succ]
        refine wpAnyH_take (i := 2) (v := .pointer (some ⟨b0, 1, none⟩)) rfl (by kernel_rfl) (by kernel_rfl) (by kernel_rfl) (fun _ _ _ h => h) (Or.inl ⟨by rfl, fun w' _ => by go_simp⟩) hS0 ?_
        simp only [Act.put, List.getElem_toArray, List.getElem_cons_zero, List.getElem_cons_succ, List.setIfInBounds_toArray, List.set_cons_zero, List.set_cons_succ]
        refine wpAnyH_take (i := 3) (v := .int .i64 m) rfl (by kernel_rfl) (by kernel_rfl) (by kernel_rfl) (fun _ _ _ h => h) (Or.inl ⟨by rfl, fun w' hS => by have hc := later hS.1 (sd_m HRs.out); go_simp⟩) hS0 ?_
        simp only [Act.put, List.getElem_toArray, List.getElem_cons_zero, List.getElem_cons_succ, List.setIfInBounds_toArray, List.set_cons_zero, List.set_cons_succ]
        refine wpAnyH_take (i := 4) (v := .pointer (some ⟨b0, 2, none⟩)) rfl (by kernel_rfl) (by kernel_rfl) (by kernel_rfl) (fun _ _ _ h => h) (Or.inl ⟨by rfl, fun w' _ => by go_simp⟩) hS0 ?_
        simp only [Act.put, List.getElem_toArray, List.getElem_cons_zero, List.getElem_cons_succ, List.setIfInBounds_toArray, List.set_cons_zero, List.set_cons_succ]
        refine wpAnyH_take (i := 5) (v := .agg (ab f 32).toArray) rfl (by kernel_rfl) (by kernel_rfl) (by kernel_rfl) (fun _ _ _ h => h) (yieldsIf_load_mid (by rfl) 24 _ rfl b0 2 (by rfl) (ab f 32) _ (fun w' hS => range_keep (sd_h HRs.out) hS.1) Tryd.underlying24 rfl (ilH _)) hS0 ?_
        simp only [Act.put, List.getElem_toArray, List.getElem_cons_zero, List.getElem_cons_succ, List.setIfInBounds_toArray, List.set_cons_zero, List.set_cons_succ]
        refine wpAnyH_ready (rs := [6]) (by kernel_rfl) (by simp) (AllReadyH.cons rfl (fun Kt hK => ?_) AllReadyH.nil)
        refine wanted_pos rfl ?_
        refine HVd.out.wpNew rfl (fun q W1 hv hb => ?_)
        have HVdn := hide hv
        refine hK.out _ _ (HVdn.out.sv (by simp)) (fun hS1 => ?_)
        clear hK Kt hv hb
        simp only [Act.put, List.getElem_toArray, List.getElem_cons_zero, List.getElem_cons_succ, List.setIfInBounds_toArray, List.set_cons_zero, List.set_cons_succ]
        refine wpAnyH_take (i := 7) (v := .slice x n c) rfl (by kernel_rfl) (by kernel_rfl) (by kernel_rfl) (fun _ _ _ h => h) (Or.inl ⟨by rfl, fun w' _ => by go_simp⟩) hS1 ?_
        simp only [Act.put, List.getElem_toArray, List.getElem_cons_zero, List.getElem_cons_succ, List.setIfInBounds_toArray, List.set_cons_zero, List.set_cons_succ]
        refine wpAnyH_take (i := 8) (v := .int .i64 m) rfl (by kernel_rfl) (by kernel_rfl) (by kernel_rfl) (fun _ _ _ h => h) (Or.inl ⟨by rfl, fun w' _ => by go_simp⟩) hS1 ?_
        simp only [Act.put, List.getElem_toArray, List.getElem_cons_zero, List.getElem_cons_succ, List.setIfInBounds_toArray, List.set_cons_zero, List.set_cons_succ]
        refine wpAnyH_ready (rs := [9]) (by kernel_rfl) (by simp) (AllReadyH.cons rfl (fun Kt hK => ?_) AllReadyH.nil)
        refine wanted_pos rfl ?_
        refine HVdn.out.wpPut 0 rfl (by rfl) (by rfl) rfl (fun W2 hv => ?_)
        have HVdnp := hide hv
        refine hK.out _ _ (HVdnp.out.sv (by simp)) (fun hS2 => ?_)
        clear hK Kt hv
        simp only [Act.put, List.getElem_toArray, List.getElem_cons_zero, List.getElem_cons_succ]
        refine wpAnyH_done (by kernel_rfl) ?_ _
        refine NoPanic.normal ?_
        have HVe : Hid (Vs X W2 [(q, f)]) := HVdnp
        clear HVd
        have HCl := hide (fun W (h : Below X.heap.size X W) => HCL.out W (Go.Proofs.YtpokecijongkpaaDoor.K.call HV.out.k h))
        have HDe := hide (fun W (h : Below X.heap.size X W) => HDE.out W (Go.Proofs.YtpokecijongkpaaDoor.K.call HV.out.k h))
        go_upto_region 4 with (go_at_call 7; (with_reducible refine Calls.mono (awake_any (HTX.out.keep HVe.out.k).tab) ?_); rintro e W1 ⟨rfl, hb⟩; have HVW1 := hide (HVe.out.keep hb); clear hb)
        go_upto_region 5 with (first
          | (go_at_call 11; (with_reducible refine Calls.mono (HCl.out _ HVW1.out.k) ?_); rintro e W2 hE; obtain ⟨a, na, ca, b, nb, cb, A, B, rfl, hA, hB, hX2, hb⟩ := hE; obtain ⟨rfl, rfl⟩ := hX2.no rfl; have HA := hide (And.intro hA (And.intro hB hX2)); have HV2 := hide (HVW1.out.keep hb); clear hA hB hX2 hb)
          | (refine wpList_load_h (g := q) rfl _ rfl rfl (HVW1.out.rg 0 rfl) ?_))
        go_upto_region 6 with (first
          | (go_at_call 12; (with_reducible refine Calls.mono (HDe.out _ HV2.out.k) ?_); rintro e W3 ⟨rfl, hb⟩; have HV3 := hide (HV2.out.keep hb); clear hb)
          | (refine wpList_load_h (g := q) rfl _ rfl rfl (HV2.out.rg 0 rfl) ?_))
        go_wp2_with fail
        go_ret
        exact ⟨rfl, Go.Proofs.YtpokecijongkpaaDoor.K.call HV.out.k HV3.out.k⟩
      | true =>
        have HCL := hide hcl
        have HDE := hide hde
        clear hcl hde
        go_enter Tryd.func4, Tryd.ntmps4
        go_upto_region 1 with fail
        refine wp_world (fun X hX => ?_)
        have hv : Vc w X [(w.heap.size, sd x n c m f)] := by rw [hX]; exact (Vc.nil w).made 26 _
        clear hX
        obtain ⟨b0, hb0⟩ : ∃ b0, w.heap.size = b0 := ⟨_, rfl⟩
        rw [hb0] at hv ⊢
        have HV := hide hv
        have HRs := hide (hv.row 0 rfl).c
        have HTX := hide (HT.out.keep hv.k)
        have HXX := hide (HX.out.keep hv.k)
        have HYX := hide (HY.out.keep hv.k)
        clear hv hb0
        have HVd := hide (Vs.nil X).drew
        refine wp_region_noPanic ?_
        refine wp_region_held_drew (S := Sv X []) (by kernel_rfl) (HVd.out.sv (by simp)) (fun hS0 => ?_)
        refine wpAnyH_take (i := 0) (v := .pointer (some ⟨b0, 0, none⟩)) rfl (by kernel_rfl) (by kernel_rfl) (by kernel_rfl) (fun _ _ _ h => h) (Or.inl ⟨by rfl, fun w' _ => by go_simp⟩) hS0 ?_
        simp only [Act.put, List.getElem_toArray, List.getElem_cons_zero, List.setIfInBounds_toArray, List.set_cons_zero, List.set_cons_succ]
        refine wpAnyH_take (i := 1) (v := .slice x n c) rfl (by kernel_rfl) (by kernel_rfl) (by kernel_rfl) (fun _ _ _ h => h) (Or.inl ⟨by rfl, fun w' hS => by have hc := later hS.1 (sd_l HRs.out); go_simp⟩) hS0 ?_
        simp only [Act.put, List.getElem_toArray, List.getElem_cons_zero, List.getElem_cons_succ, List.setIfInBounds_toArray, List.set_cons_zero, List.set_cons_succ]
        refine wpAnyH_take (i := 2) (v := .pointer (some ⟨b0, 1, none⟩)) rfl (by kernel_rfl) (by kernel_rfl) (by kernel_rfl) (fun _ _ _ h => h) (Or.inl ⟨by rfl, fun w' _ => by go_simp⟩) hS0 ?_
        simp only [Act.put, List.getElem_toArray, List.getElem_cons_zero, List.getElem_cons_succ, List.setIfInBounds_toArray, List.set_cons_zero, List.set_cons_succ]
        refine wpAnyH_take (i := 3) (v := .int .i64 m) rfl (by kernel_rfl) (by kernel_rfl) (by kernel_rfl) (fun _ _ _ h => h) (Or.inl ⟨by rfl, fun w' hS => by have hc := later hS.1 (sd_m HRs.out); go_simp⟩) hS0 ?_
        simp only [Act.put, List.getElem_toArray, List.getElem_cons_zero, List.getElem_cons_succ, List.setIfInBounds_toArray, List.set_cons_zero, List.set_cons_succ]
        refine wpAnyH_take (i := 4) (v := .pointer (some ⟨b0, 2, none⟩)) rfl (by kernel_rfl) (by kernel_rfl) (by kernel_rfl) (fun _ _ _ h => h) (Or.inl ⟨by rfl, fun w' _ => by go_simp⟩) hS0 ?_
        simp only [Act.put, List.getElem_toArray, List.getElem_cons_zero, List.getElem_cons_succ, List.setIfInBounds_toArray, List.set_cons_zero, List.set_cons_succ]
        refine wpAnyH_take (i := 5) (v := .agg (ab f 32).toArray) rfl (by kernel_rfl) (by kernel_rfl) (by kernel_rfl) (fun _ _ _ h => h) (yieldsIf_load_mid (by rfl) 24 _ rfl b0 2 (by rfl) (ab f 32) _ (fun w' hS => range_keep (sd_h HRs.out) hS.1) Tryd.underlying24 rfl (ilH _)) hS0 ?_
        simp only [Act.put, List.getElem_toArray, List.getElem_cons_zero, List.getElem_cons_succ, List.setIfInBounds_toArray, List.set_cons_zero, List.set_cons_succ]
        refine wpAnyH_ready (rs := [6]) (by kernel_rfl) (by simp) (AllReadyH.cons rfl (fun Kt hK => ?_) AllReadyH.nil)
        refine wanted_pos rfl ?_
        refine HVd.out.wpNew rfl (fun q W1 hv hb => ?_)
        have HVdn := hide hv
        refine hK.out _ _ (HVdn.out.sv (by simp)) (fun hS1 => ?_)
        clear hK Kt hv hb
        simp only [Act.put, List.getElem_toArray, List.getElem_cons_zero, List.getElem_cons_succ, List.setIfInBounds_toArray, List.set_cons_zero, List.set_cons_succ]
        refine wpAnyH_take (i := 7) (v := .slice x n c) rfl (by kernel_rfl) (by kernel_rfl) (by kernel_rfl) (fun _ _ _ h => h) (Or.inl ⟨by rfl, fun w' _ => by go_simp⟩) hS1 ?_
        simp only [Act.put, List.getElem_toArray, List.getElem_cons_zero, List.getElem_cons_succ, List.setIfInBounds_toArray, List.set_cons_zero, List.set_cons_succ]
        refine wpAnyH_take (i := 8) (v := .int .i64 m) rfl (by kernel_rfl) (by kernel_rfl) (by kernel_rfl) (fun _ _ _ h => h) (Or.inl ⟨by rfl, fun w' _ => by go_simp⟩) hS1 ?_
        simp only [Act.put, List.getElem_toArray, List.getElem_cons_zero, List.getElem_cons_succ, List.setIfInBounds_toArray, List.set_cons_zero, List.set_cons_succ]
        refine wpAnyH_ready (rs := [9]) (by kernel_rfl) (by simp) (AllReadyH.cons rfl (fun Kt hK => ?_) AllReadyH.nil)
        refine wanted_pos rfl ?_
        refine HVdn.out.wpPut 0 rfl (by rfl) (by rfl) rfl (fun W2 hv => ?_)
        have HVdnp := hide hv
        refine hK.out _ _ (HVdnp.out.sv (by simp)) (fun hS2 => ?_)
        clear hK Kt hv
        simp only [Act.put, List.getElem_toArray, List.getElem_cons_zero, List.getElem_cons_succ]
        refine wpAnyH_done (by kernel_rfl) ?_ _
        refine NoPanic.normal ?_
        have HVe : Hid (Vs X W2 [(q, f)]) := HVdnp
        clear HVd
        have HCl := hide (fun W (h : Below X.heap.size X W) => HCL.out W (Go.Proofs.YtpokecijongkpaaDoor.K.call HV.out.k h))
        have HDe := hide (fun W (h : Below X.heap.size X W) => HDE.out W (Go.Proofs.YtpokecijongkpaaDoor.K.call HV.out.k h))
        go_upto_region 4 with (go_at_call 7; (with_reducible refine Calls.mono (awake_any (HTX.out.keep HVe.out.k).tab) ?_); rintro e W1 ⟨rfl, hb⟩; have HVW1 := hide (HVe.out.keep hb); clear hb)
        go_upto_region 5 with (first
          | (go_at_call 11; (with_reducible refine Calls.mono (HCl.out _ HVW1.out.k) ?_); rintro e W2 hE; obtain ⟨a, na, ca, b, nb, cb, A, B, rfl, hA, hB, hX2, hb⟩ := hE; have HA := hide (And.intro hA (And.intro hB hX2)); have HV2 := hide (HVW1.out.keep hb); clear hA hB hX2 hb)
          | (refine wpList_load_h (g := q) rfl _ rfl rfl (HVW1.out.rg 0 rfl) ?_))
        go_upto_region 7 with (first
          | (go_at_call 12; (with_reducible refine Calls.mono (HDe.out _ HV2.out.k) ?_); rintro e W3 ⟨rfl, hb⟩; have HAB := hide (And.intro (HA.out.1.keep hb) (HA.out.2.1.keep hb)); have HV3 := hide (HV2.out.keep hb); clear hb)
          | (refine wpList_load_h (g := q) rfl _ rfl rfl (HV2.out.rg 0 rfl) ?_))
        have HCa := hide (refClash_any (c := ca) (d := cb) HAB.out.1 HAB.out.2 HA.out.2.2.n_ HA.out.2.2.k_)
        rw [(HA.out.2.2.yes rfl).1, (HA.out.2.2.yes rfl).2] at HCa
        go_wp2_with (go_at_call 10; (with_reducible refine Calls.mono HCa.out ?_); rintro e W4 ⟨rfl, hb⟩; have HV4 := hide (HV3.out.keep hb); clear hb)
        go_ret
        exact ⟨rfl, Go.Proofs.YtpokecijongkpaaDoor.K.call HV.out.k HV4.out.k⟩
    · have hq2 : (70 : Int) < (l : Int) := by omega
      clear hn hl
      go_enter Tryd.func4, Tryd.ntmps4
      go_upto_region 1 with fail
      refine wp_world (fun X hX => ?_)
      have hv : Vc w X [(w.heap.size, sd x n c m f)] := by rw [hX]; exact (Vc.nil w).made 26 _
      clear hX
      obtain ⟨b0, hb0⟩ : ∃ b0, w.heap.size = b0 := ⟨_, rfl⟩
      rw [hb0] at hv ⊢
      have HV := hide hv
      have HRs := hide (hv.row 0 rfl).c
      have HTX := hide (HT.out.keep hv.k)
      have HXX := hide (HX.out.keep hv.k)
      have HYX := hide (HY.out.keep hv.k)
      clear hv hb0
      have HVd := hide (Vs.nil X).drew
      refine wp_region_noPanic ?_
      refine wp_region_held_drew (S := Sv X []) (by kernel_rfl) (HVd.out.sv (by simp)) (fun hS0 => ?_)
      refine wpAnyH_take (i := 0) (v := .pointer (some ⟨b0, 0, none⟩)) rfl (by kernel_rfl) (by kernel_rfl) (by kernel_rfl) (fun _ _ _ h => h) (Or.inl ⟨by rfl, fun w' _ => by go_simp⟩) hS0 ?_
      simp only [Act.put, List.getElem_toArray, List.getElem_cons_zero, List.setIfInBounds_toArray, List.set_cons_zero, List.set_cons_succ]
      refine wpAnyH_take (i := 1) (v := .slice x n c) rfl (by kernel_rfl) (by kernel_rfl) (by kernel_rfl) (fun _ _ _ h => h) (Or.inl ⟨by rfl, fun w' hS => by have hc := later hS.1 (sd_l HRs.out); go_simp⟩) hS0 ?_
      simp only [Act.put, List.getElem_toArray, List.getElem_cons_zero, List.getElem_cons_succ, List.setIfInBounds_toArray, List.set_cons_zero, List.set_cons_succ]
      refine wpAnyH_take (i := 2) (v := .pointer (some ⟨b0, 1, none⟩)) rfl (by kernel_rfl) (by kernel_rfl) (by kernel_rfl) (fun _ _ _ h => h) (Or.inl ⟨by rfl, fun w' _ => by go_simp⟩) hS0 ?_
      simp only [Act.put, List.getElem_toArray, List.getElem_cons_zero, List.getElem_cons_succ, List.setIfInBounds_toArray, List.set_cons_zero, List.set_cons_succ]
      refine wpAnyH_take (i := 3) (v := .int .i64 m) rfl (by kernel_rfl) (by kernel_rfl) (by kernel_rfl) (fun _ _ _ h => h) (Or.inl ⟨by rfl, fun w' hS => by have hc := later hS.1 (sd_m HRs.out); go_simp⟩) hS0 ?_
      simp only [Act.put, List.getElem_toArray, List.getElem_cons_zero, List.getElem_cons_succ, List.setIfInBounds_toArray, List.set_cons_zero, List.set_cons_succ]
      refine wpAnyH_take (i := 4) (v := .pointer (some ⟨b0, 2, none⟩)) rfl (by kernel_rfl) (by kernel_rfl) (by kernel_rfl) (fun _ _ _ h => h) (Or.inl ⟨by rfl, fun w' _ => by go_simp⟩) hS0 ?_
      simp only [Act.put, List.getElem_toArray, List.getElem_cons_zero, List.getElem_cons_succ, List.setIfInBounds_toArray, List.set_cons_zero, List.set_cons_succ]
      refine wpAnyH_take (i := 5) (v := .agg (ab f 32).toArray) rfl (by kernel_rfl) (by kernel_rfl) (by kernel_rfl) (fun _ _ _ h => h) (yieldsIf_load_mid (by rfl) 24 _ rfl b0 2 (by rfl) (ab f 32) _ (fun w' hS => range_keep (sd_h HRs.out) hS.1) Tryd.underlying24 rfl (ilH _)) hS0 ?_
      simp only [Act.put, List.getElem_toArray, List.getElem_cons_zero, List.getElem_cons_succ, List.setIfInBounds_toArray, List.set_cons_zero, List.set_cons_succ]
      refine wpAnyH_ready (rs := [6]) (by kernel_rfl) (by simp) (AllReadyH.cons rfl (fun Kt hK => ?_) AllReadyH.nil)
      refine wanted_pos rfl ?_
      refine HVd.out.wpNew rfl (fun q W1 hv hb => ?_)
      have HVdn := hide hv
      refine hK.out _ _ (HVdn.out.sv (by simp)) (fun hS1 => ?_)
      clear hK Kt hv hb
      simp only [Act.put, List.getElem_toArray, List.getElem_cons_zero, List.getElem_cons_succ, List.setIfInBounds_toArray, List.set_cons_zero, List.set_cons_succ]
      refine wpAnyH_take (i := 7) (v := .slice x n c) rfl (by kernel_rfl) (by kernel_rfl) (by kernel_rfl) (fun _ _ _ h => h) (Or.inl ⟨by rfl, fun w' _ => by go_simp⟩) hS1 ?_
      simp only [Act.put, List.getElem_toArray, List.getElem_cons_zero, List.getElem_cons_succ, List.setIfInBounds_toArray, List.set_cons_zero, List.set_cons_succ]
      refine wpAnyH_take (i := 8) (v := .int .i64 m) rfl (by kernel_rfl) (by kernel_rfl) (by kernel_rfl) (fun _ _ _ h => h) (Or.inl ⟨by rfl, fun w' _ => by go_simp⟩) hS1 ?_
      simp only [Act.put, List.getElem_toArray, List.getElem_cons_zero, List.getElem_cons_succ, List.setIfInBounds_toArray, List.set_cons_zero, List.set_cons_succ]
      refine wpAnyH_ready (rs := [9]) (by kernel_rfl) (by simp) (AllReadyH.cons rfl (fun Kt hK => ?_) AllReadyH.nil)
      refine wanted_pos rfl ?_
      refine HVdn.out.wpPut 0 rfl (by rfl) (by rfl) rfl (fun W2 hv => ?_)
      have HVdnp := hide hv
      refine hK.out _ _ (HVdnp.out.sv (by simp)) (fun hS2 => ?_)
      clear hK Kt hv
      simp only [Act.put, List.getElem_toArray, List.getElem_cons_zero, List.getElem_cons_succ]
      refine wpAnyH_done (by kernel_rfl) ?_ _
      refine NoPanic.normal ?_
      have HVe : Hid (Vs X W2 [(q, f)]) := HVdnp
      clear HVd
      go_upto_region 3 with (go_at_call 7; (with_reducible refine Calls.mono (awake_any (HTX.out.keep HVe.out.k).tab) ?_); rintro e W1 ⟨rfl, hb⟩; have HVW1 := hide (HVe.out.keep hb); clear hb)
      go_wp2_with (go_at_call 7; (with_reducible refine Calls.mono (awake_any (HTX.out.keep HVW1.out.k).tab) ?_); rintro e W2 ⟨rfl, hb⟩; have HVW2 := hide (HVW1.out.keep hb); clear hb)
      go_ret
      exact ⟨rfl, Go.Proofs.YtpokecijongkpaaDoor.K.call HV.out.k HVW2.out.k⟩
  · have hq : (60 : Int) < (n : Int) := by omega
    clear hn
    go_enter Tryd.func4, Tryd.ntmps4
    go_upto_region 1 with fail
    refine wp_world (fun X hX => ?_)
    have hv : Vc w X [(w.heap.size, sd x n c m f)] := by rw [hX]; exact (Vc.nil w).made 26 _
    clear hX
    obtain ⟨b0, hb0⟩ : ∃ b0, w.heap.size = b0 := ⟨_, rfl⟩
    rw [hb0] at hv ⊢
    have HV := hide hv
    have HRs := hide (hv.row 0 rfl).c
    have HTX := hide (HT.out.keep hv.k)
    have HXX := hide (HX.out.keep hv.k)
    have HYX := hide (HY.out.keep hv.k)
    clear hv hb0
    have HVd := hide (Vs.nil X).drew
    refine wp_region_noPanic ?_
    refine wp_region_held_drew (S := Sv X []) (by kernel_rfl) (HVd.out.sv (by simp)) (fun hS0 => ?_)
    refine wpAnyH_take (i := 0) (v := .pointer (some ⟨b0, 0, none⟩)) rfl (by kernel_rfl) (by kernel_rfl) (by kernel_rfl) (fun _ _ _ h => h) (Or.inl ⟨by rfl, fun w' _ => by go_simp⟩) hS0 ?_
    simp only [Act.put, List.getElem_toArray, List.getElem_cons_zero, List.setIfInBounds_toArray, List.set_cons_zero, List.set_cons_succ]
    refine wpAnyH_take (i := 1) (v := .slice x n c) rfl (by kernel_rfl) (by kernel_rfl) (by kernel_rfl) (fun _ _ _ h => h) (Or.inl ⟨by rfl, fun w' hS => by have hc := later hS.1 (sd_l HRs.out); go_simp⟩) hS0 ?_
    simp only [Act.put, List.getElem_toArray, List.getElem_cons_zero, List.getElem_cons_succ, List.setIfInBounds_toArray, List.set_cons_zero, List.set_cons_succ]
    refine wpAnyH_take (i := 2) (v := .pointer (some ⟨b0, 1, none⟩)) rfl (by kernel_rfl) (by kernel_rfl) (by kernel_rfl) (fun _ _ _ h => h) (Or.inl ⟨by rfl, fun w' _ => by go_simp⟩) hS0 ?_
    simp only [Act.put, List.getElem_toArray, List.getElem_cons_zero, List.getElem_cons_succ, List.setIfInBounds_toArray, List.set_cons_zero, List.set_cons_succ]
    refine wpAnyH_take (i := 3) (v := .int .i64 m) rfl (by kernel_rfl) (by kernel_rfl) (by kernel_rfl) (fun _ _ _ h => h) (Or.inl ⟨by rfl, fun w' hS => by have hc := later hS.1 (sd_m HRs.out); go_simp⟩) hS0 ?_
    simp only [Act.put, List.getElem_toArray, List.getElem_cons_zero, List.getElem_cons_succ, List.setIfInBounds_toArray, List.set_cons_zero, List.set_cons_succ]
    refine wpAnyH_take (i := 4) (v := .pointer (some ⟨b0, 2, none⟩)) rfl (by kernel_rfl) (by kernel_rfl) (by kernel_rfl) (fun _ _ _ h => h) (Or.inl ⟨by rfl, fun w' _ => by go_simp⟩) hS0 ?_
    simp only [Act.put, List.getElem_toArray, List.getElem_cons_zero, List.getElem_cons_succ, List.setIfInBounds_toArray, List.set_cons_zero, List.set_cons_succ]
    refine wpAnyH_take (i := 5) (v := .agg (ab f 32).toArray) rfl (by kernel_rfl) (by kernel_rfl) (by kernel_rfl) (fun _ _ _ h => h) (yieldsIf_load_mid (by rfl) 24 _ rfl b0 2 (by rfl) (ab f 32) _ (fun w' hS => range_keep (sd_h HRs.out) hS.1) Tryd.underlying24 rfl (ilH _)) hS0 ?_
    simp only [Act.put, List.getElem_toArray, List.getElem_cons_zero, List.getElem_cons_succ, List.setIfInBounds_toArray, List.set_cons_zero, List.set_cons_succ]
    refine wpAnyH_ready (rs := [6]) (by kernel_rfl) (by simp) (AllReadyH.cons rfl (fun Kt hK => ?_) AllReadyH.nil)
    refine wanted_pos rfl ?_
    refine HVd.out.wpNew rfl (fun q W1 hv hb => ?_)
    have HVdn := hide hv
    refine hK.out _ _ (HVdn.out.sv (by simp)) (fun hS1 => ?_)
    clear hK Kt hv hb
    simp only [Act.put, List.getElem_toArray, List.getElem_cons_zero, List.getElem_cons_succ, List.setIfInBounds_toArray, List.set_cons_zero, List.set_cons_succ]
    refine wpAnyH_take (i := 7) (v := .slice x n c) rfl (by kernel_rfl) (by kernel_rfl) (by kernel_rfl) (fun _ _ _ h => h) (Or.inl ⟨by rfl, fun w' _ => by go_simp⟩) hS1 ?_
    simp only [Act.put, List.getElem_toArray, List.getElem_cons_zero, List.getElem_cons_succ, List.setIfInBounds_toArray, List.set_cons_zero, List.set_cons_succ]
    refine wpAnyH_take (i := 8) (v := .int .i64 m) rfl (by kernel_rfl) (by kernel_rfl) (by kernel_rfl) (fun _ _ _ h => h) (Or.inl ⟨by rfl, fun w' _ => by go_simp⟩) hS1 ?_
    simp only [Act.put, List.getElem_toArray, List.getElem_cons_zero, List.getElem_cons_succ, List.setIfInBounds_toArray, List.set_cons_zero, List.set_cons_succ]
    refine wpAnyH_ready (rs := [9]) (by kernel_rfl) (by simp) (AllReadyH.cons rfl (fun Kt hK => ?_) AllReadyH.nil)
    refine wanted_pos rfl ?_
    refine HVdn.out.wpPut 0 rfl (by rfl) (by rfl) rfl (fun W2 hv => ?_)
    have HVdnp := hide hv
    refine hK.out _ _ (HVdnp.out.sv (by simp)) (fun hS2 => ?_)
    clear hK Kt hv
    simp only [Act.put, List.getElem_toArray, List.getElem_cons_zero, List.getElem_cons_succ]
    refine wpAnyH_done (by kernel_rfl) ?_ _
    refine NoPanic.normal ?_
    have HVe : Hid (Vs X W2 [(q, f)]) := HVdnp
    clear HVd
    go_upto_region 3 with (go_at_call 7; (with_reducible refine Calls.mono (awake_any (HTX.out.keep HVe.out.k).tab) ?_); rintro e W1 ⟨rfl, hb⟩; have HVW1 := hide (HVe.out.keep hb); clear hb)
    go_wp2_with (go_at_call 7; (with_reducible refine Calls.mono (awake_any (HTX.out.keep HVW1.out.k).tab) ?_); rintro e W2 ⟨rfl, hb⟩; have HVW2 := hide (HVW1.out.keep hb); clear hb)
    go_ret
    exact ⟨rfl, Go.Proofs.YtpokecijongkpaaDoor.K.call HV.out.k HVW2.out.k⟩
end Go.Proofs.YtpokecijongkpaaDoor
namespace Go.Proofs.YtpokecijongkpaaDoor
set_option maxRecDepth 100000
open Go.ChangeShapes Go.WideShapes Go.ChangeAt Go.RowKit

theorem own : ownKnob Tryd.prog.godebug = none := by kernel_rfl
theorem Tryd.laidOut : laidOutB Tryd.prog = true := by kernel_rfl
theorem cellsU8 : Tryd.prog.cellsOf 5 = 1 := by kernel_rfl
theorem cellsU32 : Tryd.prog.cellsOf 57 = 1 := by kernel_rfl
theorem cellsSt : Tryd.prog.cellsOf 67 = 8 := by kernel_rfl
theorem cellsW64 : Tryd.prog.cellsOf 83 = 64 := by kernel_rfl
theorem u8_of_wf {x : Int} (h : (Lit.int .u8 x).wf = true) : 0 ≤ x ∧ x < 256 := by
  simp [Lit.wf, IntKind.min, IntKind.max, IntKind.signed, IntKind.bits] at h
  exact ⟨by omega, by omega⟩
theorem gFirst : Tryd.prog.globalNamed "chronicle/sha256.first" = some 0 := by kernel_rfl
theorem tFirst : (Tryd.prog.globals[0]?).map (·.type) = some 67 := by kernel_rfl
theorem gK : Tryd.prog.globalNamed "chronicle/sha256.constants" = some 3 := by kernel_rfl
theorem tK : (Tryd.prog.globals[3]?).map (·.type) = some 83 := by kernel_rfl
def laid2 : List (String × DataW Unit) := [("chronicle/sha256.first", Rows.laid_chronicle_sha256_first), ("chronicle/sha256.constants", Rows.laid_chronicle_sha256_constants)]
theorem cellsA64 : Tryd.prog.cellsOf 68 = 64 := by kernel_rfl
theorem gBits : Tryd.prog.globalNamed "math/bits.deBruijn64tab" = some 2 := by kernel_rfl
theorem tBits : (Tryd.prog.globals[2]?).map (·.type) = some 68 := by kernel_rfl
def laid4 : List (String × DataW Unit) := [("math/bits.deBruijn32tab", Rows.laid_math_bits_deBruijn32tab), ("math/bits.deBruijn64tab", Rows.laid_math_bits_deBruijn64tab), ("chronicle/sha256.first", Rows.laid_chronicle_sha256_first), ("chronicle/sha256.constants", Rows.laid_chronicle_sha256_constants)]
theorem bits_at : ∀ i, i < 64 → ([0, 1, 56, 2, 57, 49, 28, 3, 61, 58, 42, 50, 38, 29, 17, 4, 62, 47, 59, 36, 45, 43, 51, 22, 53, 39, 33, 30, 24, 18, 12, 5, 63, 55, 48, 27, 60, 41, 37, 16, 46, 35, 44, 21, 52, 32, 23, 11, 54, 26, 40, 15, 34, 20, 31, 10, 25, 14, 19, 9, 13, 8, 7, 6] : List Int).getD i 0 = ((Lib.deBruijn64tab.getD i 0 : Nat) : Int) := by decide +kernel
theorem first_at : ∀ i, i < 8 → ([1779033703, 3144134277, 1013904242, 2773480762, 1359893119, 2600822924, 528734635, 1541459225] : List Int).getD i 0 = wn (start.w i) := by decide +kernel
theorem k_at : ∀ i, i < 64 → ([1116352408, 1899447441, 3049323471, 3921009573, 961987163, 1508970993, 2453635748, 2870763221, 3624381080, 310598401, 607225278, 1426881987, 1925078388, 2162078206, 2614888103, 3248222580, 3835390401, 4022224774, 264347078, 604807628, 770255983, 1249150122, 1555081692, 1996064986, 2554220882, 2821834349, 2952996808, 3210313671, 3336571891, 3584528711, 113926993, 338241895, 666307205, 773529912, 1294757372, 1396182291, 1695183700, 1986661051, 2177026350, 2456956037, 2730485921, 2820302411, 3259730800, 3345764771, 3516065817, 3600352804, 4094571909, 275423344, 430227734, 506948616, 659060556, 883997877, 958139571, 1322822218, 1537002063, 1747873779, 1955562222, 2024104815, 2227730452, 2361852424, 2428436474, 2756734187, 3204031479, 3329325298] : List Int).getD i 0 = wn (kW i) := by decide +kernel
theorem tab_of_plain {W : World} (h : laidMet Tryd.prog laid2 W) : Tab W := by
  have h2 := h.tail
  have hf : Lib.TabIs Tryd.prog W "chronicle/sha256.first" .u32 [1779033703, 3144134277, 1013904242, 2773480762, 1359893119, 2600822924, 528734635, 1541459225] := Lib.tabIs_of_head (rest := [("chronicle/sha256.constants", Rows.laid_chronicle_sha256_constants)]) gFirst tFirst Tryd.underlying67 Tryd.underlying57 cellsU32 cellsSt h
  have hk : Lib.TabIs Tryd.prog W "chronicle/sha256.constants" .u32 [1116352408, 1899447441, 3049323471, 3921009573, 961987163, 1508970993, 2453635748, 2870763221, 3624381080, 310598401, 607225278, 1426881987, 1925078388, 2162078206, 2614888103, 3248222580, 3835390401, 4022224774, 264347078, 604807628, 770255983, 1249150122, 1555081692, 1996064986, 2554220882, 2821834349, 2952996808, 3210313671, 3336571891, 3584528711, 113926993, 338241895, 666307205, 773529912, 1294757372, 1396182291, 1695183700, 1986661051, 2177026350, 2456956037, 2730485921, 2820302411, 3259730800, 3345764771, 3516065817, 3600352804, 4094571909, 275423344, 430227734, 506948616, 659060556, 883997877, 958139571, 1322822218, 1537002063, 1747873779, 1955562222, 2024104815, 2227730452, 2361852424, 2428436474, 2756734187, 3204031479, 3329325298] := Lib.tabIs_of_head (rest := []) gK tK Tryd.underlying83 Tryd.underlying57 cellsU32 cellsW64 h2
  exact ⟨fun i hi => by rw [← first_at i hi]; exact hf.cell gFirst i hi, fun i hi => by rw [← k_at i hi]; exact hk.cell gK i hi⟩
theorem tabZ_of_laid {W : World} (h : laidMetH Tryd.prog laid4 W) : TabZ W := by
  rw [MakeChecks.laidMetH_plain _ _ _ (by kernel_rfl)] at h
  have h1 := h.tail
  have hb : Lib.TabIs Tryd.prog W "math/bits.deBruijn64tab" .u8 [0, 1, 56, 2, 57, 49, 28, 3, 61, 58, 42, 50, 38, 29, 17, 4, 62, 47, 59, 36, 45, 43, 51, 22, 53, 39, 33, 30, 24, 18, 12, 5, 63, 55, 48, 27, 60, 41, 37, 16, 46, 35, 44, 21, 52, 32, 23, 11, 54, 26, 40, 15, 34, 20, 31, 10, 25, 14, 19, 9, 13, 8, 7, 6] := Lib.tabIs_of_head (rest := laid2) gBits tBits Tryd.underlying68 Tryd.underlying5 cellsU8 cellsA64 h1
  exact ⟨tab_of_plain h1.tail, fun i hi => by rw [← bits_at i hi]; exact hb.cell gBits i hi⟩
theorem door_met4 (os : Os) (args : Array Value) : laidMetH Tryd.prog laid4 ((World.doorLaid Tryd.prog 200 os).forCall (fun _ _ => 0) ⟨#[], args, []⟩).memory :=
  laidMetH_of_parts3 (fuel := 8) (laidMet_of_run' 8 (by kernel_rfl) (by kernel_rfl)) (by kernel_rfl) (by kernel_rfl)
end Go.Proofs.YtpokecijongkpaaDoor
namespace Go.Proofs.YtpokecijongkpaaDoor
set_option maxRecDepth 100000
open Go.ChangeShapes Go.WideShapes Go.ChangeAt Go.RowKit

theorem cellsHash : Tryd.prog.cellsOf 24 = 32 := by kernel_rfl
theorem hash_cells {H : Type} {enc : TypeId × Value → H} {W : World} {fuel : Nat} {l : List Value} {y : DataW H × List MemPlace} (hl : l.length = 32)
    (hf : DataW.trod enc Tryd.prog W 0 (fun _ => true) true fuel 24 l = some y) : ∃ f : Nat → Nat, (∀ i, f i < 256) ∧ l = ab f 32 := by
  obtain ⟨xs, m, _, _, _, hxl, hat⟩ := DataW.trod_array Tryd.underlying24 hf
  have key : ∀ i, i < 32 → ∃ n : Nat, l[i]? = some (.int .u8 ((n : Nat) : Int)) ∧ n < 256 := fun i hi => by
    have h1 := hat i hi
    rw [cellsU8, Nat.mul_one, List.getElem?_eq_getElem (by omega)] at h1
    obtain ⟨n, e1, _, hw⟩ := DataW.trod_int Tryd.underlying5 h1
    have hb := u8_of_wf hw
    have e2 : (l.drop i).take 1 = [.int .u8 n] := e1
    have e3 : ((l.drop i).take 1)[0]? = some (.int .u8 n) := by rw [e2]; rfl
    rw [List.getElem?_take_of_lt (by decide), List.getElem?_drop, Nat.add_zero] at e3
    exact ⟨n.toNat, by rw [e3, Int.toNat_of_nonneg hb.1], by omega⟩
  obtain ⟨F, hF⟩ : ∃ F : Nat → Nat, ∀ i, F i < 256 ∧ (i < 32 → l[i]? = some (.int .u8 ((F i : Nat) : Int))) := by
    refine ⟨fun i => if hi : i < 32 then (key i hi).choose else 0, fun i => ?_⟩
    by_cases hi : i < 32
    · simp only [hi, dite_true, forall_const]
      exact ⟨(key i hi).choose_spec.2, (key i hi).choose_spec.1⟩
    · simp [hi]
  refine ⟨F, fun i => (hF i).1, ?_⟩
  apply List.ext_getElem?
  intro i
  rcases Nat.lt_or_ge i 32 with hi | hi
  · rw [(hF i).2 hi, ab_at F hi]
  · rw [List.getElem?_eq_none (by omega), List.getElem?_eq_none (by rw [ab_len]; exact hi)]
/-- A parameter that is a list of hashes. -/
theorem open_hashes {H : Type} {enc : TypeId × Value → H} {W : World} {base : Nat} {v : Value} {d : DataW H} {p : List MemPlace}
    (hv0 : Value.okWide Tryd.prog W .any base 22 v) (h : DataW.Trod enc Tryd.prog W 0 (fun _ => true) true 22 v d p) :
    ∃ z n c F, v = .slice z n c ∧ HL W z n F ∧ n ≤ c ∧ c ≤ maxLen := by
  obtain ⟨a0, len0, cap0, rfl⟩ := okWide_slice Tryd.underlying22 hv0
  obtain ⟨fuel, hf⟩ := h
  rcases Go.Deep.open_slice Tryd.underlying22 hf with ⟨hcs, _⟩ | ⟨a, len, cap, m, n, D, Pl, hcs, _, hl, hmx, hm, _, hx⟩
  · simp [Value.cells] at hcs
    exact ⟨none, 0, 0, fun _ _ => 0, by rw [hcs.1, hcs.2.1, hcs.2.2], ⟨fun _ _ => by omega, Or.inl rfl⟩, Nat.le_refl _, by unfold maxLen; omega⟩
  · simp [Value.cells] at hcs
    obtain ⟨rfl, rfl, rfl⟩ := hcs
    simp only [if_true] at hm
    subst hm
    rw [cellsHash] at hx
    have key : ∀ i, i < m → ∃ f : Nat → Nat, W.cells? 0 (a.add (i * 32)) 32 = some (ab f 32) ∧ ∀ j, f j < 256 := fun i hi => by
      obtain ⟨cs', h1, h2⟩ := hx i hi
      obtain ⟨_, hlen, _⟩ := World.cells?_some h1
      obtain ⟨f, hf1, rfl⟩ := hash_cells hlen h2
      exact ⟨f, h1, hf1⟩
    have hI : Inhabited (Nat → Nat) := ⟨fun _ => 0⟩
    obtain ⟨O, hO⟩ := Go.Deep.choose_lt key
    refine ⟨some a, len0, _, fun i => if i < m then O i else fun _ => 0, rfl, ⟨fun i j => ?_, ?_⟩, hl, hmx⟩
    · by_cases h : i < m
      · show (if i < m then O i else fun _ => 0) j < 256
        rw [if_pos h]
        exact (hO i h).2 j
      · show (if i < m then O i else fun _ => 0) j < 256
        rw [if_neg h]
        omega
    by_cases h0 : len0 = 0
    · exact Or.inl h0
    · right
      obtain ⟨b, off, spot⟩ := a
      have hc : ∀ i j, i < len0 → j < 32 → W.cell? (((⟨b, off, spot⟩ : Addr).add (i * 32)).add j) = (ab (O i) 32)[j]? := fun i j hi hj => (World.cells?_some (hO i (by omega)).1).2.2 j hj
      have hspot : spot = none := by
        have h1 : W.cell? (((⟨b, off, spot⟩ : Addr).add (0 * 32)).add 0) = some (.int .u8 ((O 0 0 : Nat) : Int)) := (hc 0 0 (by omega) (by omega)).trans (ab_at _ (by omega))
        simpa [Addr.add] using World.cell?_spot h1
      subst hspot
      refine ⟨b, off, rfl, fun i hi j v hv => ?_⟩
      have hi' : i < m := by omega
      simp only [hi', if_true] at hv
      have hj : j < 32 := by
        have := (List.getElem?_eq_some_iff.1 hv).1
        rwa [ab_len] at this
      have := hc i j hi hj
      rw [Addr.add_mid, Addr.add_mid] at this
      rw [this]
      exact hv
end Go.Proofs.YtpokecijongkpaaDoor
namespace Go.Proofs.YtpokecijongkpaaDoor
set_option maxRecDepth 100000
open Go.ChangeShapes Go.WideShapes Go.ChangeAt Go.RowKit

theorem i64_of_wf {x : Int} (h : (Lit.int .i64 x).wf = true) : -9223372036854775808 ≤ x ∧ x < 9223372036854775808 := by
  simp [Lit.wf, IntKind.min, IntKind.max, IntKind.signed, IntKind.bits] at h
  exact ⟨by omega, by omega⟩
theorem cellsHashes1 : Tryd.prog.cellsOf 22 = 1 := by kernel_rfl
theorem cellsInt1 : Tryd.prog.cellsOf 3 = 1 := by kernel_rfl
theorem open_hashes_cells {H : Type} {enc : TypeId × Value → H} {W : World} {fuel : Nat} {c0 : Value} {y : DataW H × List MemPlace} (hf : DataW.trod enc Tryd.prog W 0 (fun _ => true) true fuel 22 [c0] = some y) :
    ∃ z n c F, c0 = .slice z n c ∧ HL W z n F ∧ n ≤ c ∧ c ≤ maxLen := by
  rcases Go.Deep.open_slice Tryd.underlying22 hf with ⟨hcs, _⟩ | ⟨a, len, cap, m, n, D, Pl, hcs, _, hl, hmx, hm, _, hx⟩
  · simp at hcs
    exact ⟨none, 0, 0, fun _ _ => 0, hcs, ⟨fun _ _ => by omega, Or.inl rfl⟩, Nat.le_refl _, by unfold maxLen; omega⟩
  · simp at hcs
    subst hcs
    simp only [if_true] at hm
    subst hm
    rw [cellsHash] at hx
    have key : ∀ i, i < m → ∃ f : Nat → Nat, W.cells? 0 (a.add (i * 32)) 32 = some (ab f 32) ∧ ∀ j, f j < 256 := fun i hi => by
      obtain ⟨cs', h1, h2⟩ := hx i hi
      obtain ⟨_, hlen, _⟩ := World.cells?_some h1
      obtain ⟨f, hf1, rfl⟩ := hash_cells hlen h2
      exact ⟨f, h1, hf1⟩
    have hI : Inhabited (Nat → Nat) := ⟨fun _ => 0⟩
    obtain ⟨O, hO⟩ := Go.Deep.choose_lt key
    refine ⟨some a, len, _, fun i => if i < m then O i else fun _ => 0, rfl, ⟨fun i j => ?_, ?_⟩, hl, hmx⟩
    · by_cases h : i < m
      · show (if i < m then O i else fun _ => 0) j < 256
        rw [if_pos h]
        exact (hO i h).2 j
      · show (if i < m then O i else fun _ => 0) j < 256
        rw [if_neg h]
        omega
    by_cases h0 : len = 0
    · exact Or.inl h0
    · right
      obtain ⟨b, off, spot⟩ := a
      have hc : ∀ i j, i < len → j < 32 → W.cell? (((⟨b, off, spot⟩ : Addr).add (i * 32)).add j) = (ab (O i) 32)[j]? := fun i j hi hj => (World.cells?_some (hO i (by omega)).1).2.2 j hj
      have hspot : spot = none := by
        have h1 : W.cell? (((⟨b, off, spot⟩ : Addr).add (0 * 32)).add 0) = some (.int .u8 ((O 0 0 : Nat) : Int)) := (hc 0 0 (by omega) (by omega)).trans (ab_at _ (by omega))
        simpa [Addr.add] using World.cell?_spot h1
      subst hspot
      refine ⟨b, off, rfl, fun i hi j v hv => ?_⟩
      have hi' : i < m := by omega
      simp only [hi', if_true] at hv
      have hj : j < 32 := by
        have := (List.getElem?_eq_some_iff.1 hv).1
        rwa [ab_len] at this
      have := hc i j hi hj
      rw [Addr.add_mid, Addr.add_mid] at this
      rw [this]
      exact hv
end Go.Proofs.YtpokecijongkpaaDoor
namespace Go.Proofs.YtpokecijongkpaaDoor
set_option maxRecDepth 100000
open Go.ChangeShapes Go.WideShapes Go.ChangeAt Go.RowKit

theorem cellsSaid : Tryd.prog.cellsOf 26 = 34 := by kernel_rfl
/-- A parameter that is said of hashes. -/
theorem open_said {H : Type} {enc : TypeId × Value → H} {W : World} {base : Nat} {v : Value} {d : DataW H} {p : List MemPlace}
    (hv0 : Value.okWide Tryd.prog W .any base 26 v) (h : DataW.Trod enc Tryd.prog W 0 (fun _ => true) true 26 v d p) :
    ∃ x l c m f F, v = .agg (sd x l c m f).toArray ∧ HL W x l F ∧ l ≤ c ∧ c ≤ maxLen ∧ -9223372036854775808 ≤ m ∧ m < 9223372036854775808 ∧ (∀ j, f j < 256) := by
  obtain ⟨cs, rfl, hsz, _⟩ : ∃ cs, v = .agg cs ∧ cs.size = Tryd.prog.cellsOf 26 ∧ Row.okWide Tryd.prog W .any base 26 cs := by
    simpa [Value.okWide, Tryd.underlying26] using hv0
  rw [cellsSaid] at hsz
  obtain ⟨l⟩ := cs
  have hl : l.length = 34 := by simpa using hsz
  obtain ⟨fuel, hf⟩ := h
  have hf : DataW.trod enc Tryd.prog W 0 (fun _ => true) true fuel 26 l = some (d, p) := hf
  obtain ⟨xs, k, _, _, _, hxl, hat⟩ := DataW.trod_struct Tryd.underlying26 hf
  have hxs : xs.length = 3 := hxl
  have g0 := hat 0 { name := "L", type := 22, offset := 0, embedded := false, tag := "", pkgPath := "", byteOffset := 0 } rfl
  have g1 := hat 1 { name := "M", type := 3, offset := 1, embedded := false, tag := "", pkgPath := "", byteOffset := 24 } rfl
  have g2 := hat 2 { name := "Hash", type := 24, offset := 2, embedded := false, tag := "", pkgPath := "", byteOffset := 32 } rfl
  dsimp only at g0 g1 g2
  rw [cellsInt1] at g1
  rw [cellsHash] at g2
  rw [cellsHashes1] at g0
  rw [List.getElem?_eq_getElem (by omega)] at g0 g1 g2
  obtain ⟨m, e1, _, wm⟩ := DataW.trod_int Tryd.underlying3 g1
  obtain ⟨f, hf1, e2⟩ := hash_cells (by rw [List.length_take, List.length_drop]; omega) g2
  obtain ⟨c0, e0⟩ : ∃ c0, (l.drop 0).take 1 = [c0] := by
    have hlen : ((l.drop 0).take 1).length = 1 := by rw [List.length_take, List.length_drop]; omega
    match (l.drop 0).take 1, hlen with
    | [c0], _ => exact ⟨c0, rfl⟩
  have e0' := e0
  rw [e0] at g0
  obtain ⟨x, ll, c, F, rfl, hL, h1, h2⟩ := open_hashes_cells g0
  refine ⟨x, ll, c, m, f, F, ?_, hL, h1, h2, (i64_of_wf wm).1, (i64_of_wf wm).2, hf1⟩
  have e : l = l.take 1 ++ ((l.drop 1).take 1 ++ (l.drop 2).take 32) := by
    conv => lhs; rw [← List.take_append_drop 1 l, ← List.take_append_drop 1 (l.drop 1), List.drop_drop]
    rw [List.take_of_length_le (l := l.drop 2) (i := 32) (by rw [List.length_drop]; omega)]
  have e00 : l.take 1 = [.slice x ll c] := by simpa using e0'
  have e1' : (l.drop 1).take 1 = [.int .i64 m] := by simpa using e1
  rw [e, e00, e1', e2]
  rfl
end Go.Proofs.YtpokecijongkpaaDoor
