/- Layer 19: the program's own rise: to two roots, by the sides. -/
import Derived.Test.YtpokecijongkpaaDoorMD19
import Derived.Test.YtpokecijongkpaaDoorMD12
namespace Go.Proofs.YtpokecijongkpaaDoor
set_option maxRecDepth 100000
open Go.RowKit
attribute [local go_sem ↓] Go.wp_at_zero Go.wp_at_succ

/-- While the hashes go to their sides: i of them have; both roots so far. -/
structure RsR (w wr : World) (b : Nat) (S : List Bool) (F : Nat → Nat → Nat) (l : Nat) (f : Nat → Nat) (O : Option ((Nat → Nat) × (Nat → Nat))) (i : Nat) (ha hb : Nat → Nat) : Prop where
  v : Vs w wr [(b + 2, hb), (b + 1, ha), (b, f)]
  e : ap pA pB (S.drop i) (ls F i l) (ha, hb) = O
  il : i ≤ l
  lt : ∀ j, ha j < 256
  lt2 : ∀ j, hb j < 256
set_option maxRecDepth 100000 in
set_option maxHeartbeats 16000000 in
theorem rise_any {w : World} {y xs : Option Addr} {l c k cs : Nat} {S : List Bool} {F : Nat → Nat → Nat} {f : Nat → Nat} (hT : Tab w) (hS : SdL w xs S) (hk : S.length = k) (hkc : k ≤ cs) (hL : HL w y l F) (hc : l ≤ c) (hl : l ≤ 100000) (hf : ∀ j, f j < 256) :
    Calls Tryd.prog 42 #[hv f, .slice xs k cs, .slice y l c] w (TwP w (ap pA pB S (ls F 0 l) (f, f))) := by
  have HF := hide hf
  unfold hv
  by_cases hlk : l = k
  · subst hlk
    have hNe : ((l : Int) != (l : Int)) = false := by rw [bne_eq_false_iff_eq]
    have HT := hide hT
    have HS := hide hS
    have HK := hide hk
    have HLX := hide hL
    have HC := hide (And.intro hc (And.intro hkc hl))
    obtain ⟨O, hO⟩ : ∃ O, ap pA pB S (ls F 0 l) (f, f) = O := ⟨_, rfl⟩
    have HO := hide hO
    rw [hO]
    clear hO hT hS hk hkc hL hc hl hf
    go_enter Tryd.func42, Tryd.ntmps42
    go_upto_region 1 with fail
    refine wp_world (fun X hX => ?_)
    rw [zeros32] at hX
    have hv := Vs.boxed2 hX
    clear hX
    obtain ⟨b0, hb0⟩ : ∃ b0, w.heap.size = b0 := ⟨_, rfl⟩
    rw [hb0] at hv ⊢
    have HV := hide hv
    clear hv hb0
    go_upto_region 3 with fail
    have HVd := hide HV.out.drew
    refine wp_region_noPanic ?_
    refine wp_region_held_drew (S := Sv w [(b0, f)]) (by kernel_rfl) (HVd.out.sv (by simp)) (fun hS0 => ?_)
    refine wpAnyH_take (i := 0) (v := .agg (ab f 32).toArray) rfl (by kernel_rfl) (by kernel_rfl) (by kernel_rfl) (fun _ _ _ h => h) (yieldsIf_load_mid (by rfl) 24 _ rfl b0 0 (by rfl) (ab f 32) _ (fun w' hS => hS.rg 0 rfl) Tryd.underlying24 rfl (ilH _)) hS0 ?_
    simp only [Act.put, List.getElem_toArray, List.getElem_cons_zero, List.setIfInBounds_toArray, List.set_cons_zero, List.set_cons_succ]
    refine wpAnyH_take (i := 1) (v := .agg (ab f 32).toArray) rfl (by kernel_rfl) (by kernel_rfl) (by kernel_rfl) (fun _ _ _ h => h) (yieldsIf_load_mid (by rfl) 24 _ rfl b0 0 (by rfl) (ab f 32) _ (fun w' hS => hS.rg 0 rfl) Tryd.underlying24 rfl (ilH _)) hS0 ?_
    simp only [Act.put, List.getElem_toArray, List.getElem_cons_zero, List.getElem_cons_succ, List.setIfInBounds_toArray, List.set_cons_zero, List.set_cons_succ]
    refine wpAnyH_ready (rs := [2]) (by kernel_rfl) (by simp) (AllReadyH.cons rfl (fun Kt hK => ?_) AllReadyH.nil)
    refine wanted_pos rfl ?_
    refine HVd.out.wpPut 1 rfl (by rfl) (by rfl) rfl (fun W1 hv => ?_)
    have HVdp := hide hv
    refine hK.out _ _ (HVdp.out.sv (by simp)) (fun hS1 => ?_)
    clear hK Kt hv
    simp only [Act.put, List.getElem_toArray, List.getElem_cons_zero, List.getElem_cons_succ]
    refine wpAnyH_ready (rs := [3]) (by kernel_rfl) (by simp) (AllReadyH.cons rfl (fun Kt hK => ?_) AllReadyH.nil)
    refine wanted_pos rfl ?_
    refine HVdp.out.wpPut 0 rfl (by rfl) (by rfl) rfl (fun W2 hv => ?_)
    have HVdpp := hide hv
    refine hK.out _ _ (HVdpp.out.sv (by simp)) (fun hS2 => ?_)
    clear hK Kt hv
    simp only [Act.put, List.getElem_toArray, List.getElem_cons_zero, List.getElem_cons_succ]
    refine wpAnyH_done (by kernel_rfl) ?_ _
    refine NoPanic.normal ?_
    have HVe : Hid (Vs w _ [(b0 + 2, f), (b0 + 1, f), (b0, f)]) := HVdpp
    clear HVd HV
    go_upto_region 5 with fail
    go_loopg [22] l (fun g' s22 wr => ∃ (G i : Nat) (ha hb : Nat → Nat), G = g' ∧ i + G = l ∧ s22 = .int .i64 (i : Int) ∧ RsR w wr b0 S F l f O i ha hb)
    case atStart => exact ⟨l, 0, f, f, rfl, by omega, rfl, HVe.out, HO.out, Nat.zero_le _, HF.out, HF.out⟩
    case round =>
      clear HVe HO
      obtain ⟨G, i, ha, hb, rfl, hil, rfl, hE⟩ := hrel
      have HE := hide hE
      have HV := hide hE.v
      have hee := hE.e
      have hlt := hE.lt
      have hlt2 := hE.lt2
      clear hE
      by_cases hi : i = l
      · subst hi
        obtain rfl : some (ha, hb) = O := ap_done hee HK.out
        have HLt := hide (And.intro hlt hlt2)
        show Code.wp _ _ _ _ _
        clear hee hlt hlt2 hil
        go_upto_region 11 with fail
        have HVd := hide HV.out.drew
        refine wp_region_noPanic ?_
        refine wp_region_held_drew (S := Sv w []) (by kernel_rfl) (HVd.out.sv (by simp)) (fun hS0 => ?_)
        refine wpAnyH_ready (rs := [0, 1]) (by kernel_rfl) (by simp) (AllReadyH.cons rfl (fun Kt hK => ?_) (AllReadyH.cons rfl (fun Kt hK => ?_) AllReadyH.nil))
        · refine wanted_pos rfl ?_
          refine wp_load_mid 24 _ rfl (b0 + 1) 0 (by rfl) (ab ha 32) _ (HVd.out.rg 1 rfl) Tryd.underlying24 rfl (ilH _) ?_
          refine hK.out _ _ hS0 (fun hS1 => ?_)
          clear hK Kt
          simp only [Act.put, List.getElem_toArray, List.getElem_cons_zero, List.setIfInBounds_toArray, List.set_cons_zero, List.set_cons_succ]
          refine wpAnyH_ready (rs := [1, 2]) (by kernel_rfl) (by simp) (AllReadyH.cons rfl (fun Kt hK => ?_) (AllReadyH.cons rfl (fun Kt hK => ?_) AllReadyH.nil))
          · refine wanted_pos rfl ?_
            refine wp_load_mid 24 _ rfl (b0 + 2) 0 (by rfl) (ab hb 32) _ (HVd.out.rg 0 rfl) Tryd.underlying24 rfl (ilH _) ?_
            refine hK.out _ _ hS1 (fun hS2 => ?_)
            clear hK Kt
            simp only [Act.put, List.getElem_toArray, List.getElem_cons_zero, List.getElem_cons_succ, List.setIfInBounds_toArray, List.set_cons_zero, List.set_cons_succ]
            refine wpAnyH_ready (rs := [2]) (by kernel_rfl) (by simp) (AllReadyH.cons rfl (fun Kt hK => ?_) AllReadyH.nil)
            refine wanted_pos rfl ?_
            refine HVd.out.wpPut 1 rfl (by rfl) (by rfl) rfl (fun W3 hv => ?_)
            have HVdp := hide hv
            refine hK.out _ _ (HVdp.out.sv (by simp)) (fun hS3 => ?_)
            clear hK Kt hv
            simp only [Act.put, List.getElem_toArray, List.getElem_cons_zero, List.getElem_cons_succ]
            refine wpAnyH_ready (rs := [3]) (by kernel_rfl) (by simp) (AllReadyH.cons rfl (fun Kt hK => ?_) AllReadyH.nil)
            refine wanted_pos rfl ?_
            refine HVdp.out.wpPut 0 rfl (by rfl) (by rfl) rfl (fun W4 hv => ?_)
            have HVdpp := hide hv
            refine hK.out _ _ (HVdpp.out.sv (by simp)) (fun hS4 => ?_)
            clear hK Kt hv
            simp only [Act.put, List.getElem_toArray, List.getElem_cons_zero, List.getElem_cons_succ]
            refine wpAnyH_take (i := 4) (v := .bool true) rfl (by kernel_rfl) (by kernel_rfl) (by kernel_rfl) (fun _ _ _ h => h) (Or.inl ⟨by rfl, fun w' _ => by go_simp⟩) hS4 ?_
            simp only [Act.put, List.getElem_toArray, List.getElem_cons_zero, List.getElem_cons_succ, List.setIfInBounds_toArray, List.set_cons_zero, List.set_cons_succ]
            refine wpAnyH_done (by kernel_rfl) ?_ _
            refine NoPanic.normal ?_
            go_wp2_with fail
            exact bodyPost_ret (results_cell2_tmp Tryd.results42 _ _ (b0 + 1) (b0 + 2) (ab ha 32) (ab hb 32) _ rfl (HVdpp.out.rg 1 rfl) rfl (HVdpp.out.rg 0 rfl) Tryd.underlying24 rfl (ilH _) (ilH _) rfl) rfl ⟨ha, hb, true, rfl, TwA.one HLt.out.1 HLt.out.2, HVdpp.out.k⟩
          · refine wanted_pos rfl ?_
            refine HVd.out.wpPut 1 rfl (by rfl) (by rfl) rfl (fun W5 hv => ?_)
            have HVdp := hide hv
            refine hK.out _ _ (HVdp.out.sv (by simp)) (fun hS5 => ?_)
            clear hK Kt hv
            simp only [Act.put, List.getElem_toArray, List.getElem_cons_zero, List.getElem_cons_succ]
            refine wpAnyH_ready (rs := [1]) (by kernel_rfl) (by simp) (AllReadyH.cons rfl (fun Kt hK => ?_) AllReadyH.nil)
            refine wanted_pos rfl ?_
            refine wp_load_mid 24 _ rfl (b0 + 2) 0 (by rfl) (ab hb 32) _ (HVdp.out.rg 0 rfl) Tryd.underlying24 rfl (ilH _) ?_
            refine hK.out _ _ hS5 (fun hS6 => ?_)
            clear hK Kt
            simp only [Act.put, List.getElem_toArray, List.getElem_cons_zero, List.getElem_cons_succ, List.setIfInBounds_toArray, List.set_cons_zero, List.set_cons_succ]
            refine wpAnyH_ready (rs := [3]) (by kernel_rfl) (by simp) (AllReadyH.cons rfl (fun Kt hK => ?_) AllReadyH.nil)
            refine wanted_pos rfl ?_
            refine HVdp.out.wpPut 0 rfl (by rfl) (by rfl) rfl (fun W7 hv => ?_)
            have HVdpp := hide hv
            refine hK.out _ _ (HVdpp.out.sv (by simp)) (fun hS7 => ?_)
            clear hK Kt hv
            simp only [Act.put, List.getElem_toArray, List.getElem_cons_zero, List.getElem_cons_succ]
            refine wpAnyH_take (i := 4) (v := .bool true) rfl (by kernel_rfl) (by kernel_rfl) (by kernel_rfl) (fun _ _ _ h => h) (Or.inl ⟨by rfl, fun w' _ => by go_simp⟩) hS7 ?_
            simp only [Act.put, List.getElem_toArray, List.getElem_cons_zero, List.getElem_cons_succ, List.setIfInBounds_toArray, List.set_cons_zero, List.set_cons_succ]
            refine wpAnyH_done (by kernel_rfl) ?_ _
            refine NoPanic.normal ?_
            go_wp2_with fail
            exact bodyPost_ret (results_cell2_tmp Tryd.results42 _ _ (b0 + 1) (b0 + 2) (ab ha 32) (ab hb 32) _ rfl (HVdpp.out.rg 1 rfl) rfl (HVdpp.out.rg 0 rfl) Tryd.underlying24 rfl (ilH _) (ilH _) rfl) rfl ⟨ha, hb, true, rfl, TwA.one HLt.out.1 HLt.out.2, HVdpp.out.k⟩
        · refine wanted_pos rfl ?_
          refine wp_load_mid 24 _ rfl (b0 + 2) 0 (by rfl) (ab hb 32) _ (HVd.out.rg 0 rfl) Tryd.underlying24 rfl (ilH _) ?_
          refine hK.out _ _ hS0 (fun hS8 => ?_)
          clear hK Kt
          simp only [Act.put, List.getElem_toArray, List.getElem_cons_zero, List.getElem_cons_succ, List.setIfInBounds_toArray, List.set_cons_zero, List.set_cons_succ]
          refine wpAnyH_ready (rs := [0]) (by kernel_rfl) (by simp) (AllReadyH.cons rfl (fun Kt hK => ?_) AllReadyH.nil)
          refine wanted_pos rfl ?_
          refine wp_load_mid 24 _ rfl (b0 + 1) 0 (by rfl) (ab ha 32) _ (HVd.out.rg 1 rfl) Tryd.underlying24 rfl (ilH _) ?_
          refine hK.out _ _ hS8 (fun hS9 => ?_)
          clear hK Kt
          simp only [Act.put, List.getElem_toArray, List.getElem_cons_zero, List.setIfInBounds_toArray, List.set_cons_zero, List.set_cons_succ]
          refine wpAnyH_ready (rs := [2]) (by kernel_rfl) (by simp) (AllReadyH.cons rfl (fun Kt hK => ?_) AllReadyH.nil)
          refine wanted_pos rfl ?_
          refine HVd.out.wpPut 1 rfl (by rfl) (by rfl) rfl (fun W10 hv => ?_)
          have HVdp := hide hv
          refine hK.out _ _ (HVdp.out.sv (by simp)) (fun hS10 => ?_)
          clear hK Kt hv
          simp only [Act.put, List.getElem_toArray, List.getElem_cons_zero, List.getElem_cons_succ]
          refine wpAnyH_ready (rs := [3]) (by kernel_rfl) (by simp) (AllReadyH.cons rfl (fun Kt hK => ?_) AllReadyH.nil)
          refine wanted_pos rfl ?_
          refine HVdp.out.wpPut 0 rfl (by rfl) (by rfl) rfl (fun W11 hv => ?_)
          have HVdpp := hide hv
          refine hK.out _ _ (HVdpp.out.sv (by simp)) (fun hS11 => ?_)
          clear hK Kt hv
          simp only [Act.put, List.getElem_toArray, List.getElem_cons_zero, List.getElem_cons_succ]
          refine wpAnyH_take (i := 4) (v := .bool true) rfl (by kernel_rfl) (by kernel_rfl) (by kernel_rfl) (fun _ _ _ h => h) (Or.inl ⟨by rfl, fun w' _ => by go_simp⟩) hS11 ?_
          simp only [Act.put, List.getElem_toArray, List.getElem_cons_zero, List.getElem_cons_succ, List.setIfInBounds_toArray, List.set_cons_zero, List.set_cons_succ]
          refine wpAnyH_done (by kernel_rfl) ?_ _
          refine NoPanic.normal ?_
          go_wp2_with fail
          exact bodyPost_ret (results_cell2_tmp Tryd.results42 _ _ (b0 + 1) (b0 + 2) (ab ha 32) (ab hb 32) _ rfl (HVdpp.out.rg 1 rfl) rfl (HVdpp.out.rg 0 rfl) Tryd.underlying24 rfl (ilH _) (ilH _) rfl) rfl ⟨ha, hb, true, rfl, TwA.one HLt.out.1 HLt.out.2, HVdpp.out.k⟩
      · have hi2 : i < l := by omega
        obtain ⟨s, hs, hee2⟩ := ap_drop hee hi2 HK.out
        have hiI : (i : Int) < (l : Int) := by omega
        have hic : i < l := hi2
        obtain ⟨bz, oz, rfl⟩ := HLX.out.ad (Nat.lt_of_le_of_lt (Nat.zero_le _) hi2)
        obtain ⟨bs, os, rfl, hsd⟩ : ∃ b o, xs = some ⟨b, o, none⟩ ∧ ∀ i s, S[i]? = some s → w.cell? ⟨b, o + i, none⟩ = some (sdv s) := by
          rcases HS.out with h | h
          · have := HK.out
            rw [h] at this
            have h0 : 0 = l := this
            omega
          · exact h
        have HSd := hide (hsd i s hs)
        obtain ⟨t, ht⟩ : ∃ t, F i = t := ⟨_, rfl⟩
        have htl : ∀ j, t j < 256 := by rw [← ht]; exact HLX.out.lt i
        have hRi : w.rangeAt bz (oz + i * 32) (ab t 32) := by rw [← ht]; exact HLX.out.rangeA hi2
        rw [ht] at hee2
        have HRi := hide hRi
        have HTl := hide htl
        have HLt := hide (And.intro hlt hlt2)
        have hi9 : i ≤ 100000 := by have := HC.out.2.2; omega
        have hwi := wrap_u hi9
        have hlc0 : ¬ (c = 0) := by have := HC.out.1; omega
        have hsc0 : ¬ (cs = 0) := by have h1 := HC.out.2.1; omega
        have hcnt : i + 1 + (G - 1) = l := by omega
        have hg1 : G - 1 < G := by omega
        have HM := hide (And.intro hcnt (And.intro hg1 hi2))
        clear hRi htl ht hlt hlt2 hee hsd hi hil hcnt hg1 hs hi9
        go_upto_region 7 with (first
          | (refine HV3.out.listPut (b := q) 0 rfl rfl rfl rfl rfl (fun Y3 hv => ?_); have HV4 : Hid (Vs w Y3 [(q, t), (b0 + 2, hb), (b0 + 1, ha), (b0, f)]) := hide hv; clear hv HV3)
          | (refine HV.out.listNew rfl rfl (fun q Y2 hv hb => ?_); have HV3 := hide hv; clear hv hb)
          | (refine wpList_load_h (g := bz) rfl _ rfl rfl (range_keep HRi.out HV.out.k) ?_))
        have hcell := later HV4.out.k HSd.out
        clear HV HE
        cases s with
        | true =>
          have hX : ap pA pB (S.drop (i + 1)) (ls F (i + 1) l) (nd t ha, nd t hb) = O := hee2
          have HNd' := fun W (h : Below w.heap.size w W) => node_any (w := W) (HT.out.keep h) HTl.out HLt.out.1
          have HNe' := fun W (h : Below w.heap.size w W) => node_any (w := W) (HT.out.keep h) HTl.out HLt.out.2
          obtain ⟨u1, hu1⟩ : ∃ f, nd t ha = f := ⟨_, rfl⟩
          obtain ⟨v1, hv1⟩ : ∃ f, nd t hb = f := ⟨_, rfl⟩
          have hu1l : ∀ j, u1 j < 256 := by rw [← hu1]; exact nd_lt t ha
          have hv1l : ∀ j, v1 j < 256 := by rw [← hv1]; exact nd_lt t hb
          unfold hv at HNd' HNe'
          rw [hu1, hv1] at hX
          rw [hu1] at HNd'
          rw [hv1] at HNe'
          have HX := hide (And.intro hX (And.intro hu1l hv1l))
          have HNd := hide HNd'
          have HNe := hide HNe'
          have hcell2 : Y3.cell? ⟨bs, os + i, none⟩ = some (.int .i64 0) := hcell
          clear hX HNd' HNe' hu1 hu1l hv1 hv1l hee2 hcell
          go_upto_region 8 with fail
          clear hcell2
          have HVd := hide HV4.out.drew
          refine wp_region_noPanic ?_
          refine wp_region_held_drew (S := Sv w [(q, t)]) (by kernel_rfl) (HVd.out.sv (by simp)) (fun hS0 => ?_)
          refine wpAnyH_take (i := 0) (v := .agg (ab t 32).toArray) rfl (by kernel_rfl) (by kernel_rfl) (by kernel_rfl) (fun _ _ _ h => h) (yieldsIf_load_mid (by rfl) 24 _ rfl q 0 (by rfl) (ab t 32) _ (fun w' hS => hS.rg 0 rfl) Tryd.underlying24 rfl (ilH _)) hS0 ?_
          simp only [Act.put, List.getElem_toArray, List.getElem_cons_zero, List.setIfInBounds_toArray, List.set_cons_zero, List.set_cons_succ]
          refine wpAnyH_take (i := 3) (v := .agg (ab t 32).toArray) rfl (by kernel_rfl) (by kernel_rfl) (by kernel_rfl) (fun _ _ _ h => h) (yieldsIf_load_mid (by rfl) 24 _ rfl q 0 (by rfl) (ab t 32) _ (fun w' hS => hS.rg 0 rfl) Tryd.underlying24 rfl (ilH _)) hS0 ?_
          simp only [Act.put, List.getElem_toArray, List.getElem_cons_zero, List.getElem_cons_succ, List.setIfInBounds_toArray, List.set_cons_zero, List.set_cons_succ]
          refine wpAnyH_ready (rs := [1, 4]) (by kernel_rfl) (by simp) (AllReadyH.cons rfl (fun Kt hK => ?_) (AllReadyH.cons rfl (fun Kt hK => ?_) AllReadyH.nil))
          · refine wanted_pos rfl ?_
            refine wp_load_mid 24 _ rfl (b0 + 1) 0 (by rfl) (ab ha 32) _ (HVd.out.rg 2 rfl) Tryd.underlying24 rfl (ilH _) ?_
            refine hK.out _ _ hS0 (fun hS1 => ?_)
            clear hK Kt
            simp only [Act.put, List.getElem_toArray, List.getElem_cons_zero, List.getElem_cons_succ, List.setIfInBounds_toArray, List.set_cons_zero, List.set_cons_succ]
            refine wpAnyH_ready (rs := [2, 4]) (by kernel_rfl) (by simp) (AllReadyH.cons rfl (fun Kt hK => ?_) (AllReadyH.cons rfl (fun Kt hK => ?_) AllReadyH.nil))
            · refine wanted_pos rfl ?_
              refine wp_call (R := fun r w' => r = .agg (ab u1 32).toArray ∧ Vs w w' [(q, t), (b0 + 2, hb), (b0 + 1, ha), (b0, f)]) (vs := #[.agg (ab t 32).toArray, .agg (ab ha 32).toArray]) rfl (by simp only [List.map_toArray, List.map_cons, List.map_nil]; rfl) (by go_simp) (Calls.mono (HNd.out _ HVd.out.k) (fun e w' ⟨he, hb⟩ => ⟨_, he, rfl, HVd.out.keep hb⟩)) (fun r W2 hr => ?_)
              obtain ⟨hr, hv⟩ := hr
              subst hr
              have HVdd := hide hv
              refine hK.out _ _ (HVdd.out.sv (by simp)) (fun hS2 => ?_)
              clear hK Kt hv
              simp only [Act.put, List.getElem_toArray, List.getElem_cons_zero, List.getElem_cons_succ, List.setIfInBounds_toArray, List.set_cons_zero, List.set_cons_succ]
              refine wpAnyH_ready (rs := [4]) (by kernel_rfl) (by simp) (AllReadyH.cons rfl (fun Kt hK => ?_) AllReadyH.nil)
              refine wanted_pos rfl ?_
              refine wp_load_mid 24 _ rfl (b0 + 2) 0 (by rfl) (ab hb 32) _ (HVdd.out.rg 1 rfl) Tryd.underlying24 rfl (ilH _) ?_
              refine hK.out _ _ hS2 (fun hS3 => ?_)
              clear hK Kt
              simp only [Act.put, List.getElem_toArray, List.getElem_cons_zero, List.getElem_cons_succ, List.setIfInBounds_toArray, List.set_cons_zero, List.set_cons_succ]
              refine wpAnyH_ready (rs := [5]) (by kernel_rfl) (by simp) (AllReadyH.cons rfl (fun Kt hK => ?_) AllReadyH.nil)
              refine wanted_pos rfl ?_
              refine wp_call (R := fun r w' => r = .agg (ab v1 32).toArray ∧ Vs w w' [(q, t), (b0 + 2, hb), (b0 + 1, ha), (b0, f)]) (vs := #[.agg (ab t 32).toArray, .agg (ab hb 32).toArray]) rfl (by simp only [List.map_toArray, List.map_cons, List.map_nil]; rfl) (by go_simp) (Calls.mono (HNe.out _ HVdd.out.k) (fun e w' ⟨he, hb⟩ => ⟨_, he, rfl, HVdd.out.keep hb⟩)) (fun r W4 hr => ?_)
              obtain ⟨hr, hv⟩ := hr
              subst hr
              have HVddd := hide hv
              refine hK.out _ _ (HVddd.out.sv (by simp)) (fun hS4 => ?_)
              clear hK Kt hv
              simp only [Act.put, List.getElem_toArray, List.getElem_cons_zero, List.getElem_cons_succ, List.setIfInBounds_toArray, List.set_cons_zero, List.set_cons_succ]
              refine wpAnyH_ready (rs := [6]) (by kernel_rfl) (by simp) (AllReadyH.cons rfl (fun Kt hK => ?_) AllReadyH.nil)
              refine wanted_pos rfl ?_
              refine HVddd.out.wpPut 2 rfl (by rfl) (by rfl) rfl (fun W5 hv => ?_)
              have HVdddp := hide hv
              refine hK.out _ _ (HVdddp.out.sv (by simp)) (fun hS5 => ?_)
              clear hK Kt hv
              simp only [Act.put, List.getElem_toArray, List.getElem_cons_zero, List.getElem_cons_succ]
              refine wpAnyH_ready (rs := [7]) (by kernel_rfl) (by simp) (AllReadyH.cons rfl (fun Kt hK => ?_) AllReadyH.nil)
              refine wanted_pos rfl ?_
              refine HVdddp.out.wpPut 1 rfl (by rfl) (by rfl) rfl (fun W6 hv => ?_)
              have HVdddpp := hide hv
              refine hK.out _ _ (HVdddpp.out.sv (by simp)) (fun hS6 => ?_)
              clear hK Kt hv
              simp only [Act.put, List.getElem_toArray, List.getElem_cons_zero, List.getElem_cons_succ]
              refine wpAnyH_done (by kernel_rfl) ?_ _
              refine NoPanic.normal ?_
              have HVe : Hid (Vs w W6 [(q, t), (b0 + 2, v1), (b0 + 1, u1), (b0, f)]) := HVdddpp
              go_wp2_with fail
              go_roundg (G - 1)
              case measure => exact HM.out.2.1
              case rel => exact ⟨G - 1, i + 1, u1, v1, rfl, HM.out.1, by first | rfl | exact congrArg (Value.int .i64) hwi, HVe.out.tail, HX.out.1, HM.out.2.2, HX.out.2.1, HX.out.2.2⟩
            · refine wanted_pos rfl ?_
              refine wp_load_mid 24 _ rfl (b0 + 2) 0 (by rfl) (ab hb 32) _ (HVd.out.rg 1 rfl) Tryd.underlying24 rfl (ilH _) ?_
              refine hK.out _ _ hS1 (fun hS7 => ?_)
              clear hK Kt
              simp only [Act.put, List.getElem_toArray, List.getElem_cons_zero, List.getElem_cons_succ, List.setIfInBounds_toArray, List.set_cons_zero, List.set_cons_succ]
              refine wpAnyH_ready (rs := [2]) (by kernel_rfl) (by simp) (AllReadyH.cons rfl (fun Kt hK => ?_) AllReadyH.nil)
              refine wanted_pos rfl ?_
              refine wp_call (R := fun r w' => r = .agg (ab u1 32).toArray ∧ Vs w w' [(q, t), (b0 + 2, hb), (b0 + 1, ha), (b0, f)]) (vs := #[.agg (ab t 32).toArray, .agg (ab ha 32).toArray]) rfl (by simp only [List.map_toArray, List.map_cons, List.map_nil]; rfl) (by go_simp) (Calls.mono (HNd.out _ HVd.out.k) (fun e w' ⟨he, hb⟩ => ⟨_, he, rfl, HVd.out.keep hb⟩)) (fun r W8 hr => ?_)
              obtain ⟨hr, hv⟩ := hr
              subst hr
              have HVdd := hide hv
              refine hK.out _ _ (HVdd.out.sv (by simp)) (fun hS8 => ?_)
              clear hK Kt hv
              simp only [Act.put, List.getElem_toArray, List.getElem_cons_zero, List.getElem_cons_succ, List.setIfInBounds_toArray, List.set_cons_zero, List.set_cons_succ]
              refine wpAnyH_ready (rs := [5]) (by kernel_rfl) (by simp) (AllReadyH.cons rfl (fun Kt hK => ?_) AllReadyH.nil)
              refine wanted_pos rfl ?_
              refine wp_call (R := fun r w' => r = .agg (ab v1 32).toArray ∧ Vs w w' [(q, t), (b0 + 2, hb), (b0 + 1, ha), (b0, f)]) (vs := #[.agg (ab t 32).toArray, .agg (ab hb 32).toArray]) rfl (by simp only [List.map_toArray, List.map_cons, List.map_nil]; rfl) (by go_simp) (Calls.mono (HNe.out _ HVdd.out.k) (fun e w' ⟨he, hb⟩ => ⟨_, he, rfl, HVdd.out.keep hb⟩)) (fun r W9 hr => ?_)
              obtain ⟨hr, hv⟩ := hr
              subst hr
              have HVddd := hide hv
              refine hK.out _ _ (HVddd.out.sv (by simp)) (fun hS9 => ?_)
              clear hK Kt hv
              simp only [Act.put, List.getElem_toArray, List.getElem_cons_zero, List.getElem_cons_succ, List.setIfInBounds_toArray, List.set_cons_zero, List.set_cons_succ]
              refine wpAnyH_ready (rs := [6]) (by kernel_rfl) (by simp) (AllReadyH.cons rfl (fun Kt hK => ?_) AllReadyH.nil)
              refine wanted_pos rfl ?_
              refine HVddd.out.wpPut 2 rfl (by rfl) (by rfl) rfl (fun W10 hv => ?_)
              have HVdddp := hide hv
              refine hK.out _ _ (HVdddp.out.sv (by simp)) (fun hS10 => ?_)
              clear hK Kt hv
              simp only [Act.put, List.getElem_toArray, List.getElem_cons_zero, List.getElem_cons_succ]
              refine wpAnyH_ready (rs := [7]) (by kernel_rfl) (by simp) (AllReadyH.cons rfl (fun Kt hK => ?_) AllReadyH.nil)
              refine wanted_pos rfl ?_
              refine HVdddp.out.wpPut 1 rfl (by rfl) (by rfl) rfl (fun W11 hv => ?_)
              have HVdddpp := hide hv
              refine hK.out _ _ (HVdddpp.out.sv (by simp)) (fun hS11 => ?_)
              clear hK Kt hv
              simp only [Act.put, List.getElem_toArray, List.getElem_cons_zero, List.getElem_cons_succ]
              refine wpAnyH_done (by kernel_rfl) ?_ _
              refine NoPanic.normal ?_
              have HVe : Hid (Vs w W11 [(q, t), (b0 + 2, v1), (b0 + 1, u1), (b0, f)]) := HVdddpp
              go_wp2_with fail
              go_roundg (G - 1)
              case measure => exact HM.out.2.1
              case rel => exact ⟨G - 1, i + 1, u1, v1, rfl, HM.out.1, by first | rfl | exact congrArg (Value.int .i64) hwi, HVe.out.tail, HX.out.1, HM.out.2.2, HX.out.2.1, HX.out.2.2⟩
          · refine wanted_pos rfl ?_
            refine wp_load_mid 24 _ rfl (b0 + 2) 0 (by rfl) (ab hb 32) _ (HVd.out.rg 1 rfl) Tryd.underlying24 rfl (ilH _) ?_
            refine hK.out _ _ hS0 (fun hS12 => ?_)
            clear hK Kt
            simp only [Act.put, List.getElem_toArray, List.getElem_cons_zero, List.getElem_cons_succ, List.setIfInBounds_toArray, List.set_cons_zero, List.set_cons_succ]
            refine wpAnyH_ready (rs := [1]) (by kernel_rfl) (by simp) (AllReadyH.cons rfl (fun Kt hK => ?_) AllReadyH.nil)
            refine wanted_pos rfl ?_
            refine wp_load_mid 24 _ rfl (b0 + 1) 0 (by rfl) (ab ha 32) _ (HVd.out.rg 2 rfl) Tryd.underlying24 rfl (ilH _) ?_
            refine hK.out _ _ hS12 (fun hS13 => ?_)
            clear hK Kt
            simp only [Act.put, List.getElem_toArray, List.getElem_cons_zero, List.getElem_cons_succ, List.setIfInBounds_toArray, List.set_cons_zero, List.set_cons_succ]
            refine wpAnyH_ready (rs := [2]) (by kernel_rfl) (by simp) (AllReadyH.cons rfl (fun Kt hK => ?_) AllReadyH.nil)
            refine wanted_pos rfl ?_
            refine wp_call (R := fun r w' => r = .agg (ab u1 32).toArray ∧ Vs w w' [(q, t), (b0 + 2, hb), (b0 + 1, ha), (b0, f)]) (vs := #[.agg (ab t 32).toArray, .agg (ab ha 32).toArray]) rfl (by simp only [List.map_toArray, List.map_cons, List.map_nil]; rfl) (by go_simp) (Calls.mono (HNd.out _ HVd.out.k) (fun e w' ⟨he, hb⟩ => ⟨_, he, rfl, HVd.out.keep hb⟩)) (fun r W14 hr => ?_)
            obtain ⟨hr, hv⟩ := hr
            subst hr
            have HVdd := hide hv
            refine hK.out _ _ (HVdd.out.sv (by simp)) (fun hS14 => ?_)
            clear hK Kt hv
            simp only [Act.put, List.getElem_toArray, List.getElem_cons_zero, List.getElem_cons_succ, List.setIfInBounds_toArray, List.set_cons_zero, List.set_cons_succ]
            refine wpAnyH_ready (rs := [5]) (by kernel_rfl) (by simp) (AllReadyH.cons rfl (fun Kt hK => ?_) AllReadyH.nil)
            refine wanted_pos rfl ?_
            refine wp_call (R := fun r w' => r = .agg (ab v1 32).toArray ∧ Vs w w' [(q, t), (b0 + 2, hb), (b0 + 1, ha), (b0, f)]) (vs := #[.agg (ab t 32).toArray, .agg (ab hb 32).toArray]) rfl (by simp only [List.map_toArray, List.map_cons, List.map_nil]; rfl) (by go_simp) (Calls.mono (HNe.out _ HVdd.out.k) (fun e w' ⟨he, hb⟩ => ⟨_, he, rfl, HVdd.out.keep hb⟩)) (fun r W15 hr => ?_)
            obtain ⟨hr, hv⟩ := hr
            subst hr
            have HVddd := hide hv
            refine hK.out _ _ (HVddd.out.sv (by simp)) (fun hS15 => ?_)
            clear hK Kt hv
            simp only [Act.put, List.getElem_toArray, List.getElem_cons_zero, List.getElem_cons_succ, List.setIfInBounds_toArray, List.set_cons_zero, List.set_cons_succ]
            refine wpAnyH_ready (rs := [6]) (by kernel_rfl) (by simp) (AllReadyH.cons rfl (fun Kt hK => ?_) AllReadyH.nil)
            refine wanted_pos rfl ?_
            refine HVddd.out.wpPut 2 rfl (by rfl) (by rfl) rfl (fun W16 hv => ?_)
            have HVdddp := hide hv
            refine hK.out _ _ (HVdddp.out.sv (by simp)) (fun hS16 => ?_)
            clear hK Kt hv
            simp only [Act.put, List.getElem_toArray, List.getElem_cons_zero, List.getElem_cons_succ]
            refine wpAnyH_ready (rs := [7]) (by kernel_rfl) (by simp) (AllReadyH.cons rfl (fun Kt hK => ?_) AllReadyH.nil)
            refine wanted_pos rfl ?_
            refine HVdddp.out.wpPut 1 rfl (by rfl) (by rfl) rfl (fun W17 hv => ?_)
            have HVdddpp := hide hv
            refine hK.out _ _ (HVdddpp.out.sv (by simp)) (fun hS17 => ?_)
            clear hK Kt hv
            simp only [Act.put, List.getElem_toArray, List.getElem_cons_zero, List.getElem_cons_succ]
            refine wpAnyH_done (by kernel_rfl) ?_ _
            refine NoPanic.normal ?_
            have HVe : Hid (Vs w W17 [(q, t), (b0 + 2, v1), (b0 + 1, u1), (b0, f)]) := HVdddpp
            go_wp2_with fail
            go_roundg (G - 1)
            case measure => exact HM.out.2.1
            case rel => exact ⟨G - 1, i + 1, u1, v1, rfl, HM.out.1, by first | rfl | exact congrArg (Value.int .i64) hwi, HVe.out.tail, HX.out.1, HM.out.2.2, HX.out.2.1, HX.out.2.2⟩
        | false =>
          have hX : ap pA pB (S.drop (i + 1)) (ls F (i + 1) l) (ha, nd hb t) = O := hee2
          have HNd' := fun W (h : Below w.heap.size w W) => node_any (w := W) (HT.out.keep h) HLt.out.2 HTl.out
          obtain ⟨v1, hv1⟩ : ∃ f, nd hb t = f := ⟨_, rfl⟩
          have hv1l : ∀ j, v1 j < 256 := by rw [← hv1]; exact nd_lt hb t
          unfold hv at HNd'
          rw [hv1] at hX HNd'
          have HX := hide (And.intro hX (And.intro HLt.out.1 hv1l))
          have HNd := hide HNd'
          have hcell2 : Y3.cell? ⟨bs, os + i, none⟩ = some (.int .i64 1) := hcell
          clear hX HNd' hv1 hv1l hee2 hcell
          go_upto_region 9 with fail
          clear hcell2
          go_upto_region 10 with (first
            | (refine HV5.out.listPut (b := b0 + 2) 1 rfl rfl rfl rfl rfl (fun Y5 hv => ?_); have HVe : Hid (Vs w Y5 [(q, t), (b0 + 2, v1), (b0 + 1, ha), (b0, f)]) := hide hv; clear hv HV5)
            | (go_at_call 34; (with_reducible refine Calls.mono (HNd.out _ HV4.out.k) ?_); rintro e Y4 ⟨rfl, hb⟩; have HV5 := hide (HV4.out.keep hb); clear hb HV4)
            | (refine wpList_load_h (g := b0 + 2) rfl _ rfl rfl (HV4.out.rg 1 rfl) ?_)
            | (refine wpList_load_h (g := q) rfl _ rfl rfl (HV4.out.rg 0 rfl) ?_))
          go_wp2_with fail
          go_roundg (G - 1)
          case measure => exact HM.out.2.1
          case rel => exact ⟨G - 1, i + 1, ha, v1, rfl, HM.out.1, by first | rfl | exact congrArg (Value.int .i64) hwi, HVe.out.tail, HX.out.1, HM.out.2.2, HX.out.2.1, HX.out.2.2⟩
  · have hNe : ((l : Int) != (k : Int)) = true := by rw [bne_iff_ne]; omega
    rw [ap_len pA pB S _ _ (by rw [hk, ls_len]; omega)]
    clear hT hS hk hkc hL hc hl hf hlk
    go_enter Tryd.func42, Tryd.ntmps42
    go_upto_region 1 with fail
    refine wp_world (fun X hX => ?_)
    rw [zeros32] at hX
    have hv := Vs.boxed2 hX
    clear hX
    obtain ⟨b0, hb0⟩ : ∃ b0, w.heap.size = b0 := ⟨_, rfl⟩
    rw [hb0] at hv ⊢
    have HV := hide hv
    clear hv hb0
    go_wp2_with (first
      | (refine HV3.out.listPut (b := b0 + 2) 0 rfl rfl rfl rfl rfl (fun X4 hv => ?_); have HV4 : Hid (Vs w X4 [(b0 + 2, fun _ => 0), (b0 + 1, fun _ => 0), (b0, f)]) := hide hv; clear hv HV3)
      | (refine HV.out.listPut (b := b0 + 1) 1 rfl rfl rfl rfl rfl (fun X3 hv => ?_); have HV3 : Hid (Vs w X3 [(b0 + 2, fun _ => 0), (b0 + 1, fun _ => 0), (b0, f)]) := hide hv; clear hv)
      | (refine wpList_hk0 (by rfl) rfl ?_; simp only [Act.put, List.setIfInBounds_toArray, List.set_cons_zero, List.set_cons_succ]))
    exact bodyPost_ret (results_cell2_tmp Tryd.results42 _ _ (b0 + 1) (b0 + 2) (ab (fun _ => 0) 32) (ab (fun _ => 0) 32) _ rfl (HV4.out.rg 1 rfl) rfl (HV4.out.rg 0 rfl) Tryd.underlying24 rfl (ilH _) (ilH _) rfl) rfl ⟨(fun _ => 0), (fun _ => 0), false, rfl, TwA.no (fun _ => by omega) (fun _ => by omega), HV4.out.k⟩
end Go.Proofs.YtpokecijongkpaaDoor
