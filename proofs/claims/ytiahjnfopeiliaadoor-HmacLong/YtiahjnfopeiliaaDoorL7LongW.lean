/- HmacLong. -/
import Derived.Test.YtiahjnfopeiliaaDoorL7Step
namespace Go.Proofs.YtiahjnfopeiliaaDoor
open Go.RowKit
attribute [local go_sem ↓] Go.wp_at_zero Go.wp_at_succ

set_option maxRecDepth 100000 in
set_option maxHeartbeats 16000000 in
theorem hmacLong_walk {w : World} {a b : Option Addr} {n c m d : Nat} {f g : Nat → Nat} (hT : Tab w) (hx : BA w a n f) (hc : n ≤ c) (hcm : c ≤ maxLen) (hy : BA w b m g) (hd : m ≤ d) (hdm : d ≤ maxLen) :
    Calls Tryd.prog 7 #[.slice a n c, .slice b m d] w fun e w' => e = .returned (.bool true) ∧ Below w.heap.size w w' := by
  have HX := hide hx
  have HY := hide hy
  have HT := hide hT
  have HC := hide (And.intro (And.intro hc hcm) (And.intro hd hdm))
  clear hx hy hT hc hcm hd hdm
  by_cases hn : n ≤ 500
  · by_cases hm : m ≤ 500
    · have hni : (n : Int) ≤ 500 := by omega
      have hmi : (m : Int) ≤ 500 := by omega
      have HN := hide (And.intro hn hm)
      clear hn hm
      go_enter Tryd.func7, Tryd.ntmps7
      go_wp2_with fail
      with_reducible refine Calls.mono (awake_any HT.out) ?_
      rintro e w1 ⟨rfl, hb1⟩
      have HB1 := hide hb1
      have HT1 := hide (HT.out.keep hb1)
      have HX1 := hide (HX.out.keep hb1)
      have HY1 := hide (HY.out.keep hb1)
      clear hb1
      go_wp2_with fail
      with_reducible refine Calls.mono (refSum_hA HX1.out (by have := HN.out; omega)) ?_
      rintro e w2 ⟨rfl, hb⟩
      unfold hA
      obtain ⟨h, hh⟩ : ∃ h, h = hByte (hashS f n) := ⟨_, rfl⟩
      have HL : Hid (∀ i, h i < 256) := fun i => by rw [hh]; exact hByte_lt _ i
      have HH := hide hh
      rw [← hh]
      have HSZ : Hid (32 = (ab h 32).toArray.size) := by show _ = _; rw [List.size_toArray, ab_len]
      have hal := K.call hb (K.alloc (Below.refl _ w2) (.cells (ab h 32).toArray 25))
      have HS := hide (RowB.ba (RowB.made w2 25 32 h _ rfl) HL.out)
      have HB2 := hide (K.call HB1.out hal)
      have HT2 := hide (HT1.out.keep hal)
      have HX2 := hide (HX1.out.keep hal)
      have HY2 := hide (HY1.out.keep hal)
      clear hb hal hh HB1 HT1 HX1 HY1
      go_upto_region 4 with (refine wpList_store_new rfl 25 _ _ rfl _ (ab h 32).toArray rfl rfl (inH _) HSZ.out (all_oneCell_toArray (ab_one _ _)) ?_; generalize w2.alloc (.cells (ab h 32).toArray 25) = Y at HS HB2 HT2 HX2 HY2 ⊢)
      obtain ⟨p, hp⟩ : ∃ p, w2.heap.size = p := ⟨_, rfl⟩
      rw [hp] at HS ⊢
      clear hp HSZ
      have hd := K.drew (Below.refl _ Y)
      have hT := HT2.out.keep hd
      have hX := HX2.out.keep hd
      have hY := HY2.out.keep hd
      have hS := HS.out.keep hd
      have hB := K.call HB2.out hd
      clear hd HS HB2 HT2 HX2 HY2
      by_cases h64 : n ≤ 64
      · have h64i : (n : Int) ≤ 64 := by omega
        refine wp_region_noPanic ?_
        refine wp_region_held_drew (S := fun _ => True) (by kernel_rfl) trivial (fun _ => ?_)
        refine wpAnyH_take (i := 0) (v := .slice a n c) rfl (by kernel_rfl) (by kernel_rfl) (by kernel_rfl) (fun _ _ _ h => h) (Or.inl ⟨by rfl, fun w' _ => by go_simp⟩) trivial ?_
        simp only [Act.put, List.getElem_toArray, List.getElem_cons_zero, List.setIfInBounds_toArray, List.set_cons_zero, List.set_cons_succ]
        refine wpAnyH_take (i := 1) (v := .int .i64 (n : Int)) rfl (by kernel_rfl) (by kernel_rfl) (by kernel_rfl) (fun _ _ _ h => h) (Or.inl ⟨by rfl, fun w' _ => by go_simp⟩) trivial ?_
        simp only [Act.put, List.getElem_toArray, List.getElem_cons_zero, List.getElem_cons_succ, List.setIfInBounds_toArray, List.set_cons_zero, List.set_cons_succ]
        refine wpAnyH_take (i := 2) (v := .bool true) rfl (by kernel_rfl) (by kernel_rfl) (by kernel_rfl) (fun _ _ _ h => h) (Or.inl ⟨by rfl, fun w' _ => by go_simp⟩) trivial ?_
        simp only [Act.put, List.getElem_toArray, List.getElem_cons_zero, List.getElem_cons_succ, List.setIfInBounds_toArray, List.set_cons_zero, List.set_cons_succ]
        refine wpAnyH_take (i := 3) (v := .bool true) rfl (by kernel_rfl) (by kernel_rfl) (by kernel_rfl) (fun _ _ _ h => h) (Or.inl ⟨by rfl, fun w' _ => by go_simp⟩) trivial ?_
        simp only [Act.put, List.getElem_toArray, List.getElem_cons_zero, List.getElem_cons_succ, List.setIfInBounds_toArray, List.set_cons_zero, List.set_cons_succ]
        refine wpAnyH_take (i := 4) (v := undef) rfl (by kernel_rfl) (by kernel_rfl) (by kernel_rfl) (fun _ _ _ h => h) (Or.inr ⟨by rfl, rfl⟩) trivial ?_
        simp only [Act.put, List.getElem_toArray, List.getElem_cons_zero, List.getElem_cons_succ, List.setIfInBounds_toArray, List.set_cons_zero, List.set_cons_succ]
        refine wpAnyH_take (i := 5) (v := undef) rfl (by kernel_rfl) (by kernel_rfl) (by kernel_rfl) (fun _ _ _ h => h) (Or.inr ⟨by rfl, rfl⟩) trivial ?_
        simp only [Act.put, List.getElem_toArray, List.getElem_cons_zero, List.getElem_cons_succ, List.setIfInBounds_toArray, List.set_cons_zero, List.set_cons_succ]
        refine wpAnyH_take (i := 6) (v := undef) rfl (by kernel_rfl) (by kernel_rfl) (by kernel_rfl) (fun _ _ _ h => h) (Or.inr ⟨by rfl, rfl⟩) trivial ?_
        simp only [Act.put, List.getElem_toArray, List.getElem_cons_zero, List.getElem_cons_succ, List.setIfInBounds_toArray, List.set_cons_zero, List.set_cons_succ]
        refine wpAnyH_take (i := 7) (v := undef) rfl (by kernel_rfl) (by kernel_rfl) (by kernel_rfl) (fun _ _ _ h => h) (Or.inr ⟨by rfl, rfl⟩) trivial ?_
        simp only [Act.put, List.getElem_toArray, List.getElem_cons_zero, List.getElem_cons_succ, List.setIfInBounds_toArray, List.set_cons_zero, List.set_cons_succ]
        refine wpAnyH_take (i := 8) (v := undef) rfl (by kernel_rfl) (by kernel_rfl) (by kernel_rfl) (fun _ _ _ h => h) (Or.inr ⟨by rfl, rfl⟩) trivial ?_
        simp only [Act.put, List.getElem_toArray, List.getElem_cons_zero, List.getElem_cons_succ, List.setIfInBounds_toArray, List.set_cons_zero, List.set_cons_succ]
        refine wpAnyH_take (i := 9) (v := undef) rfl (by kernel_rfl) (by kernel_rfl) (by kernel_rfl) (fun _ _ _ h => h) (Or.inr ⟨by rfl, rfl⟩) trivial ?_
        simp only [Act.put, List.getElem_toArray, List.getElem_cons_zero, List.getElem_cons_succ, List.setIfInBounds_toArray, List.set_cons_zero, List.set_cons_succ]
        refine wpAnyH_take (i := 10) (v := undef) rfl (by kernel_rfl) (by kernel_rfl) (by kernel_rfl) (fun _ _ _ h => h) (Or.inr ⟨by rfl, rfl⟩) trivial ?_
        simp only [Act.put, List.getElem_toArray, List.getElem_cons_zero, List.getElem_cons_succ, List.setIfInBounds_toArray, List.set_cons_zero, List.set_cons_succ]
        refine wpAnyH_take (i := 11) (v := undef) rfl (by kernel_rfl) (by kernel_rfl) (by kernel_rfl) (fun _ _ _ h => h) (Or.inr ⟨by rfl, rfl⟩) trivial ?_
        simp only [Act.put, List.getElem_toArray, List.getElem_cons_zero, List.getElem_cons_succ, List.setIfInBounds_toArray, List.set_cons_zero, List.set_cons_succ]
        refine wpAnyH_take (i := 12) (v := undef) rfl (by kernel_rfl) (by kernel_rfl) (by kernel_rfl) (fun _ _ _ h => h) (Or.inr ⟨by rfl, rfl⟩) trivial ?_
        simp only [Act.put, List.getElem_toArray, List.getElem_cons_zero, List.getElem_cons_succ, List.setIfInBounds_toArray, List.set_cons_zero, List.set_cons_succ]
        refine wpAnyH_take (i := 13) (v := .bool true) rfl (by kernel_rfl) (by kernel_rfl) (by kernel_rfl) (fun _ _ _ h => h) (Or.inl ⟨by rfl, fun w' _ => by go_simp⟩) trivial ?_
        simp only [Act.put, List.getElem_toArray, List.getElem_cons_zero, List.getElem_cons_succ, List.setIfInBounds_toArray, List.set_cons_zero, List.set_cons_succ]
        refine wpAnyH_take (i := 14) (v := .bool true) rfl (by kernel_rfl) (by kernel_rfl) (by kernel_rfl) (fun _ _ _ h => h) (Or.inl ⟨by rfl, fun w' _ => by go_simp⟩) trivial ?_
        simp only [Act.put, List.getElem_toArray, List.getElem_cons_zero, List.getElem_cons_succ, List.setIfInBounds_toArray, List.set_cons_zero, List.set_cons_succ]
        refine wpAnyH_done (by kernel_rfl) ?_ _
        refine NoPanic.normal ?_
        go_wp2_with fail
        go_ret
        exact ⟨rfl, hB⟩
      · have h64i : (64 : Int) < n := by omega
        have HQ := hide (fun W => eqM (hByte (macS f n g m)) W)
        have C1 : Hid (∀ {W : World} {q : Nat}, Tab W → BA W a n f → BA W b m g → W.cell? ⟨q, 0, none⟩ = some (.slice b m d) → Calls Tryd.prog 9 #[.slice a n c, .slice (some ⟨q, 0, none⟩) 1 1] W fun e w' => e = .returned (.agg (ab (hByte (macS f n g m)) 32).toArray) ∧ Below W.heap.size W w') := fun hT hX hY hq => mac_one_at hT hX HC.out.1.1 HC.out.1.2 (by have := HN.out; omega) hY HC.out.2.1 HC.out.2.2 (by have := HN.out; omega) hq
        have C2 : Hid (∀ {W : World} {q : Nat}, Tab W → BA W (some ⟨p, 0, none⟩) 32 h → BA W b m g → W.cell? ⟨q, 0, none⟩ = some (.slice b m d) → Calls Tryd.prog 9 #[.slice (some ⟨p, 0, none⟩) 32 32, .slice (some ⟨q, 0, none⟩) 1 1] W fun e w' => e = .returned (.agg (ab (hByte (macS f n g m)) 32).toArray) ∧ Below W.heap.size W w') := fun hT hS hY hq => by
          have h := mac_one_at hT hS (Nat.le_refl _) (by unfold maxLen; omega) (by omega) hY HC.out.2.1 HC.out.2.2 (by have := HN.out; omega) hq
          unfold mA at h
          rw [HH.out, mac_long (by omega)] at h
          exact h
        generalize (ab (hByte (macS f n g m)) 32).toArray = V at HQ C1 C2
        refine wp_region_noPanic ?_
        refine wp_region_held_drew (S := fun _ => True) (by kernel_rfl) trivial (fun _ => ?_)
        refine wpAnyH_take (i := 0) (v := .slice a n c) rfl (by kernel_rfl) (by kernel_rfl) (by kernel_rfl) (fun _ _ _ h => h) (Or.inl ⟨by rfl, fun w' _ => by go_simp⟩) trivial ?_
        simp only [Act.put, List.getElem_toArray, List.getElem_cons_zero, List.setIfInBounds_toArray, List.set_cons_zero, List.set_cons_succ]
        refine wpAnyH_take (i := 1) (v := .int .i64 (n : Int)) rfl (by kernel_rfl) (by kernel_rfl) (by kernel_rfl) (fun _ _ _ h => h) (Or.inl ⟨by rfl, fun w' _ => by go_simp⟩) trivial ?_
        simp only [Act.put, List.getElem_toArray, List.getElem_cons_zero, List.getElem_cons_succ, List.setIfInBounds_toArray, List.set_cons_zero, List.set_cons_succ]
        refine wpAnyH_take (i := 2) (v := .bool false) rfl (by kernel_rfl) (by kernel_rfl) (by kernel_rfl) (fun _ _ _ h => h) (Or.inl ⟨by rfl, fun w' _ => by go_simp⟩) trivial ?_
        simp only [Act.put, List.getElem_toArray, List.getElem_cons_zero, List.getElem_cons_succ, List.setIfInBounds_toArray, List.set_cons_zero, List.set_cons_succ]
        refine wpAnyH_take (i := 3) (v := .bool false) rfl (by kernel_rfl) (by kernel_rfl) (by kernel_rfl) (fun _ _ _ h => h) (Or.inl ⟨by rfl, fun w' _ => by go_simp⟩) trivial ?_
        simp only [Act.put, List.getElem_toArray, List.getElem_cons_zero, List.getElem_cons_succ, List.setIfInBounds_toArray, List.set_cons_zero, List.set_cons_succ]
        refine wpAnyH_take (i := 4) (v := .slice a n c) rfl (by kernel_rfl) (by kernel_rfl) (by kernel_rfl) (fun _ _ _ h => h) (Or.inl ⟨by rfl, fun w' _ => by go_simp⟩) trivial ?_
        simp only [Act.put, List.getElem_toArray, List.getElem_cons_zero, List.getElem_cons_succ, List.setIfInBounds_toArray, List.set_cons_zero, List.set_cons_succ]
        refine wpAnyH_take (i := 5) (v := .slice b m d) rfl (by kernel_rfl) (by kernel_rfl) (by kernel_rfl) (fun _ _ _ h => h) (Or.inl ⟨by rfl, fun w' _ => by go_simp⟩) trivial ?_
        simp only [Act.put, List.getElem_toArray, List.getElem_cons_zero, List.getElem_cons_succ, List.setIfInBounds_toArray, List.set_cons_zero, List.set_cons_succ]
        refine wpAnyH_take (i := 8) (v := .slice (some ⟨p, 0, none⟩) 32 32) rfl (by kernel_rfl) (by kernel_rfl) (by kernel_rfl) (fun _ _ _ h => h) (Or.inl ⟨by rfl, fun w' _ => by go_simp⟩) trivial ?_
        simp only [Act.put, List.getElem_toArray, List.getElem_cons_zero, List.getElem_cons_succ, List.setIfInBounds_toArray, List.set_cons_zero, List.set_cons_succ]
        refine wpAnyH_take (i := 9) (v := .slice b m d) rfl (by kernel_rfl) (by kernel_rfl) (by kernel_rfl) (fun _ _ _ h => h) (Or.inl ⟨by rfl, fun w' _ => by go_simp⟩) trivial ?_
        simp only [Act.put, List.getElem_toArray, List.getElem_cons_zero, List.getElem_cons_succ, List.setIfInBounds_toArray, List.set_cons_zero, List.set_cons_succ]
        refine wpAnyH_ready (rs := [6, 10]) (by kernel_rfl) (by simp) (AllReadyH.cons rfl (fun Kt hK => ?_) (AllReadyH.cons rfl (fun Kt hK => ?_) AllReadyH.nil))
        · refine wanted_pos rfl ?_
          refine wp_one rfl rfl (fun qa W1 _ hca hw1 => hK.out _ _ trivial (fun _ => ?_))
          clear hK Kt
          simp only [Act.put, List.getElem_toArray, List.getElem_cons_zero, List.getElem_cons_succ, List.setIfInBounds_toArray, List.set_cons_zero, List.set_cons_succ]
          replace hT := hT.keep hw1
          replace hX := hX.keep hw1
          replace hY := hY.keep hw1
          replace hS := hS.keep hw1
          replace hB := K.call hB hw1
          clear hw1
          refine wpAnyH_ready (rs := [7, 10]) (by kernel_rfl) (by simp) (AllReadyH.cons rfl (fun Kt hK => ?_) (AllReadyH.cons rfl (fun Kt hK => ?_) AllReadyH.nil))
          · refine wanted_pos rfl ?_
            refine wp_call (R := fun r w' => r = .agg V ∧ Below W1.heap.size W1 w') (vs := #[.slice a n c, .slice (some ⟨qa, 0, none⟩) 1 1]) rfl (by simp only [List.map_toArray, List.map_cons, List.map_nil]; rfl) (by go_simp) (Calls.mono (C1.out hT hX hY hca) (fun e w' ⟨he, hb⟩ => ⟨_, he, rfl, hb⟩)) (fun r W2 ⟨hr, hw2⟩ => ?_)
            subst hr
            refine hK.out _ _ trivial (fun _ => ?_)
            clear hK Kt
            simp only [Act.put, List.getElem_toArray, List.getElem_cons_zero, List.getElem_cons_succ, List.setIfInBounds_toArray, List.set_cons_zero, List.set_cons_succ]
            replace hT := hT.keep hw2
            replace hX := hX.keep hw2
            replace hY := hY.keep hw2
            replace hS := hS.keep hw2
            replace hB := K.call hB hw2
            clear hw2 hca
            refine wpAnyH_ready (rs := [10]) (by kernel_rfl) (by simp) (AllReadyH.cons rfl (fun Kt hK => ?_) AllReadyH.nil)
            refine wanted_pos rfl ?_
            refine wp_one rfl rfl (fun qb W3 _ hcb hw3 => hK.out _ _ trivial (fun _ => ?_))
            clear hK Kt
            simp only [Act.put, List.getElem_toArray, List.getElem_cons_zero, List.getElem_cons_succ, List.setIfInBounds_toArray, List.set_cons_zero, List.set_cons_succ]
            replace hT := hT.keep hw3
            replace hX := hX.keep hw3
            replace hY := hY.keep hw3
            replace hS := hS.keep hw3
            replace hB := K.call hB hw3
            clear hw3
            refine wpAnyH_ready (rs := [11]) (by kernel_rfl) (by simp) (AllReadyH.cons rfl (fun Kt hK => ?_) AllReadyH.nil)
            refine wanted_pos rfl ?_
            refine wp_call (R := fun r w' => r = .agg V ∧ Below W3.heap.size W3 w') (vs := #[.slice (some ⟨p, 0, none⟩) 32 32, .slice (some ⟨qb, 0, none⟩) 1 1]) rfl (by simp only [List.map_toArray, List.map_cons, List.map_nil]; rfl) (by go_simp) (Calls.mono (C2.out hT hS hY hcb) (fun e w' ⟨he, hb⟩ => ⟨_, he, rfl, hb⟩)) (fun r W4 ⟨hr, hw4⟩ => ?_)
            subst hr
            refine hK.out _ _ trivial (fun _ => ?_)
            clear hK Kt
            simp only [Act.put, List.getElem_toArray, List.getElem_cons_zero, List.getElem_cons_succ, List.setIfInBounds_toArray, List.set_cons_zero, List.set_cons_succ]
            replace hT := hT.keep hw4
            replace hX := hX.keep hw4
            replace hY := hY.keep hw4
            replace hS := hS.keep hw4
            replace hB := K.call hB hw4
            clear hw4 hcb
            refine wpAnyH_ready (rs := [12]) (by kernel_rfl) (by simp) (AllReadyH.cons rfl (fun Kt hK => ?_) AllReadyH.nil)
            refine wanted_pos rfl ?_
            refine wp_eqH rfl rfl rfl (HQ.out _) (hK.out _ _ trivial (fun _ => ?_))
            clear hK Kt
            simp only [Act.put, List.getElem_toArray, List.getElem_cons_zero, List.getElem_cons_succ, List.setIfInBounds_toArray, List.set_cons_zero, List.set_cons_succ]
            refine wpAnyH_take (i := 13) (v := .bool true) rfl (by kernel_rfl) (by kernel_rfl) (by kernel_rfl) (fun _ _ _ h => h) (Or.inl ⟨by rfl, fun w' _ => by go_simp⟩) trivial ?_
            simp only [Act.put, List.getElem_toArray, List.getElem_cons_zero, List.getElem_cons_succ, List.setIfInBounds_toArray, List.set_cons_zero, List.set_cons_succ]
            refine wpAnyH_take (i := 14) (v := .bool true) rfl (by kernel_rfl) (by kernel_rfl) (by kernel_rfl) (fun _ _ _ h => h) (Or.inl ⟨by rfl, fun w' _ => by go_simp⟩) trivial ?_
            simp only [Act.put, List.getElem_toArray, List.getElem_cons_zero, List.getElem_cons_succ, List.setIfInBounds_toArray, List.set_cons_zero, List.set_cons_succ]
            refine wpAnyH_done (by kernel_rfl) ?_ _
            refine NoPanic.normal ?_
            go_wp2_with fail
            go_ret
            exact ⟨rfl, hB⟩
          · refine wanted_pos rfl ?_
            refine wp_one rfl rfl (fun qb W2 _ hcb hw2 => hK.out _ _ trivial (fun _ => ?_))
            clear hK Kt
            simp only [Act.put, List.getElem_toArray, List.getElem_cons_zero, List.getElem_cons_succ, List.setIfInBounds_toArray, List.set_cons_zero, List.set_cons_succ]
            replace hT := hT.keep hw2
            replace hX := hX.keep hw2
            replace hY := hY.keep hw2
            replace hS := hS.keep hw2
            replace hB := K.call hB hw2
            replace hca := later hw2 hca
            clear hw2
            refine wpAnyH_ready (rs := [7]) (by kernel_rfl) (by simp) (AllReadyH.cons rfl (fun Kt hK => ?_) AllReadyH.nil)
            refine wanted_pos rfl ?_
            refine wp_call (R := fun r w' => r = .agg V ∧ Below W2.heap.size W2 w') (vs := #[.slice a n c, .slice (some ⟨qa, 0, none⟩) 1 1]) rfl (by simp only [List.map_toArray, List.map_cons, List.map_nil]; rfl) (by go_simp) (Calls.mono (C1.out hT hX hY hca) (fun e w' ⟨he, hb⟩ => ⟨_, he, rfl, hb⟩)) (fun r W3 ⟨hr, hw3⟩ => ?_)
            subst hr
            refine hK.out _ _ trivial (fun _ => ?_)
            clear hK Kt
            simp only [Act.put, List.getElem_toArray, List.getElem_cons_zero, List.getElem_cons_succ, List.setIfInBounds_toArray, List.set_cons_zero, List.set_cons_succ]
            replace hT := hT.keep hw3
            replace hX := hX.keep hw3
            replace hY := hY.keep hw3
            replace hS := hS.keep hw3
            replace hB := K.call hB hw3
            replace hcb := later hw3 hcb
            clear hw3 hca
            refine wpAnyH_ready (rs := [11]) (by kernel_rfl) (by simp) (AllReadyH.cons rfl (fun Kt hK => ?_) AllReadyH.nil)
            refine wanted_pos rfl ?_
            refine wp_call (R := fun r w' => r = .agg V ∧ Below W3.heap.size W3 w') (vs := #[.slice (some ⟨p, 0, none⟩) 32 32, .slice (some ⟨qb, 0, none⟩) 1 1]) rfl (by simp only [List.map_toArray, List.map_cons, List.map_nil]; rfl) (by go_simp) (Calls.mono (C2.out hT hS hY hcb) (fun e w' ⟨he, hb⟩ => ⟨_, he, rfl, hb⟩)) (fun r W4 ⟨hr, hw4⟩ => ?_)
            subst hr
            refine hK.out _ _ trivial (fun _ => ?_)
            clear hK Kt
            simp only [Act.put, List.getElem_toArray, List.getElem_cons_zero, List.getElem_cons_succ, List.setIfInBounds_toArray, List.set_cons_zero, List.set_cons_succ]
            replace hT := hT.keep hw4
            replace hX := hX.keep hw4
            replace hY := hY.keep hw4
            replace hS := hS.keep hw4
            replace hB := K.call hB hw4
            clear hw4 hcb
            refine wpAnyH_ready (rs := [12]) (by kernel_rfl) (by simp) (AllReadyH.cons rfl (fun Kt hK => ?_) AllReadyH.nil)
            refine wanted_pos rfl ?_
            refine wp_eqH rfl rfl rfl (HQ.out _) (hK.out _ _ trivial (fun _ => ?_))
            clear hK Kt
            simp only [Act.put, List.getElem_toArray, List.getElem_cons_zero, List.getElem_cons_succ, List.setIfInBounds_toArray, List.set_cons_zero, List.set_cons_succ]
            refine wpAnyH_take (i := 13) (v := .bool true) rfl (by kernel_rfl) (by kernel_rfl) (by kernel_rfl) (fun _ _ _ h => h) (Or.inl ⟨by rfl, fun w' _ => by go_simp⟩) trivial ?_
            simp only [Act.put, List.getElem_toArray, List.getElem_cons_zero, List.getElem_cons_succ, List.setIfInBounds_toArray, List.set_cons_zero, List.set_cons_succ]
            refine wpAnyH_take (i := 14) (v := .bool true) rfl (by kernel_rfl) (by kernel_rfl) (by kernel_rfl) (fun _ _ _ h => h) (Or.inl ⟨by rfl, fun w' _ => by go_simp⟩) trivial ?_
            simp only [Act.put, List.getElem_toArray, List.getElem_cons_zero, List.getElem_cons_succ, List.setIfInBounds_toArray, List.set_cons_zero, List.set_cons_succ]
            refine wpAnyH_done (by kernel_rfl) ?_ _
            refine NoPanic.normal ?_
            go_wp2_with fail
            go_ret
            exact ⟨rfl, hB⟩
        · refine wanted_pos rfl ?_
          refine wp_one rfl rfl (fun qb W1 _ hcb hw1 => hK.out _ _ trivial (fun _ => ?_))
          clear hK Kt
          simp only [Act.put, List.getElem_toArray, List.getElem_cons_zero, List.getElem_cons_succ, List.setIfInBounds_toArray, List.set_cons_zero, List.set_cons_succ]
          replace hT := hT.keep hw1
          replace hX := hX.keep hw1
          replace hY := hY.keep hw1
          replace hS := hS.keep hw1
          replace hB := K.call hB hw1
          clear hw1
          refine wpAnyH_ready (rs := [6]) (by kernel_rfl) (by simp) (AllReadyH.cons rfl (fun Kt hK => ?_) AllReadyH.nil)
          refine wanted_pos rfl ?_
          refine wp_one rfl rfl (fun qa W2 _ hca hw2 => hK.out _ _ trivial (fun _ => ?_))
          clear hK Kt
          simp only [Act.put, List.getElem_toArray, List.getElem_cons_zero, List.getElem_cons_succ, List.setIfInBounds_toArray, List.set_cons_zero, List.set_cons_succ]
          replace hT := hT.keep hw2
          replace hX := hX.keep hw2
          replace hY := hY.keep hw2
          replace hS := hS.keep hw2
          replace hB := K.call hB hw2
          replace hcb := later hw2 hcb
          clear hw2
          refine wpAnyH_ready (rs := [7]) (by kernel_rfl) (by simp) (AllReadyH.cons rfl (fun Kt hK => ?_) AllReadyH.nil)
          refine wanted_pos rfl ?_
          refine wp_call (R := fun r w' => r = .agg V ∧ Below W2.heap.size W2 w') (vs := #[.slice a n c, .slice (some ⟨qa, 0, none⟩) 1 1]) rfl (by simp only [List.map_toArray, List.map_cons, List.map_nil]; rfl) (by go_simp) (Calls.mono (C1.out hT hX hY hca) (fun e w' ⟨he, hb⟩ => ⟨_, he, rfl, hb⟩)) (fun r W3 ⟨hr, hw3⟩ => ?_)
          subst hr
          refine hK.out _ _ trivial (fun _ => ?_)
          clear hK Kt
          simp only [Act.put, List.getElem_toArray, List.getElem_cons_zero, List.getElem_cons_succ, List.setIfInBounds_toArray, List.set_cons_zero, List.set_cons_succ]
          replace hT := hT.keep hw3
          replace hX := hX.keep hw3
          replace hY := hY.keep hw3
          replace hS := hS.keep hw3
          replace hB := K.call hB hw3
          replace hcb := later hw3 hcb
          clear hw3 hca
          refine wpAnyH_ready (rs := [11]) (by kernel_rfl) (by simp) (AllReadyH.cons rfl (fun Kt hK => ?_) AllReadyH.nil)
          refine wanted_pos rfl ?_
          refine wp_call (R := fun r w' => r = .agg V ∧ Below W3.heap.size W3 w') (vs := #[.slice (some ⟨p, 0, none⟩) 32 32, .slice (some ⟨qb, 0, none⟩) 1 1]) rfl (by simp only [List.map_toArray, List.map_cons, List.map_nil]; rfl) (by go_simp) (Calls.mono (C2.out hT hS hY hcb) (fun e w' ⟨he, hb⟩ => ⟨_, he, rfl, hb⟩)) (fun r W4 ⟨hr, hw4⟩ => ?_)
          subst hr
          refine hK.out _ _ trivial (fun _ => ?_)
          clear hK Kt
          simp only [Act.put, List.getElem_toArray, List.getElem_cons_zero, List.getElem_cons_succ, List.setIfInBounds_toArray, List.set_cons_zero, List.set_cons_succ]
          replace hT := hT.keep hw4
          replace hX := hX.keep hw4
          replace hY := hY.keep hw4
          replace hS := hS.keep hw4
          replace hB := K.call hB hw4
          clear hw4 hcb
          refine wpAnyH_ready (rs := [12]) (by kernel_rfl) (by simp) (AllReadyH.cons rfl (fun Kt hK => ?_) AllReadyH.nil)
          refine wanted_pos rfl ?_
          refine wp_eqH rfl rfl rfl (HQ.out _) (hK.out _ _ trivial (fun _ => ?_))
          clear hK Kt
          simp only [Act.put, List.getElem_toArray, List.getElem_cons_zero, List.getElem_cons_succ, List.setIfInBounds_toArray, List.set_cons_zero, List.set_cons_succ]
          refine wpAnyH_take (i := 13) (v := .bool true) rfl (by kernel_rfl) (by kernel_rfl) (by kernel_rfl) (fun _ _ _ h => h) (Or.inl ⟨by rfl, fun w' _ => by go_simp⟩) trivial ?_
          simp only [Act.put, List.getElem_toArray, List.getElem_cons_zero, List.getElem_cons_succ, List.setIfInBounds_toArray, List.set_cons_zero, List.set_cons_succ]
          refine wpAnyH_take (i := 14) (v := .bool true) rfl (by kernel_rfl) (by kernel_rfl) (by kernel_rfl) (fun _ _ _ h => h) (Or.inl ⟨by rfl, fun w' _ => by go_simp⟩) trivial ?_
          simp only [Act.put, List.getElem_toArray, List.getElem_cons_zero, List.getElem_cons_succ, List.setIfInBounds_toArray, List.set_cons_zero, List.set_cons_succ]
          refine wpAnyH_done (by kernel_rfl) ?_ _
          refine NoPanic.normal ?_
          go_wp2_with fail
          go_ret
          exact ⟨rfl, hB⟩
    · have hni : (n : Int) ≤ 500 := by omega
      have hmi : (500 : Int) < m := by omega
      clear hn hm
      go_enter Tryd.func7, Tryd.ntmps7
      go_wp2_with fail
      with_reducible refine Calls.mono (awake_any HT.out) ?_
      rintro e w1 ⟨rfl, hb1⟩
      have HB1 := hide hb1
      clear hb1
      go_wp2_with fail
      with_reducible refine Calls.mono (awake_any (HT.out.keep HB1.out)) ?_
      rintro e w2 ⟨rfl, hb⟩
      have HB2 := hide (K.call HB1.out hb)
      clear hb HB1
      go_wp2_with fail
      go_ret
      exact ⟨rfl, HB2.out⟩

  · have hni : (500 : Int) < n := by omega
    clear hn
    go_enter Tryd.func7, Tryd.ntmps7
    go_wp2_with fail
    with_reducible refine Calls.mono (awake_any HT.out) ?_
    rintro e w1 ⟨rfl, hb1⟩
    have HB1 := hide hb1
    clear hb1
    go_wp2_with fail
    with_reducible refine Calls.mono (awake_any (HT.out.keep HB1.out)) ?_
    rintro e w2 ⟨rfl, hb⟩
    have HB2 := hide (K.call HB1.out hb)
    clear hb HB1
    go_wp2_with fail
    go_ret
    exact ⟨rfl, HB2.out⟩
end Go.Proofs.YtiahjnfopeiliaaDoor
