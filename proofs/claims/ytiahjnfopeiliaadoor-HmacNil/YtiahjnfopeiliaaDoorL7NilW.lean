/- HmacNil. -/
import Derived.Test.YtiahjnfopeiliaaDoorL7Step
namespace Go.Proofs.YtiahjnfopeiliaaDoor
open Go.RowKit
attribute [local go_sem ↓] Go.wp_at_zero Go.wp_at_succ

theorem Row8.keptG {W w1 : World} {b r n : Nat} {f : Nat → Int} (h : Row8 W b n f) (hg : W.grownBy w1 (some r)) (hr : b ≠ r) : Row8 w1 b n f := by
  have hne : some b ≠ some r := by simpa using hr
  have hb := hg.block b h.lt hne
  exact ⟨Nat.lt_of_lt_of_le h.lt hg.size, fun i hi => by rw [World.cell?_of_block (w := W) hb]; exact h.c i hi, fun i hi => by rw [World.frozen?_of_block (w := W) hb]; exact h.z i hi⟩
set_option maxRecDepth 100000 in
set_option maxHeartbeats 16000000 in
theorem hmacNil_walk {w : World} {a : Option Addr} {n c : Nat} {f : Nat → Nat} (hT : Tab w) (hx : BA w a n f) (hc : n ≤ c) (hcm : c ≤ maxLen) :
    Calls Tryd.prog 6 #[.slice a n c] w fun e w' => e = .returned (.bool true) ∧ Below w.heap.size w w' := by
  have HX := hide hx
  have HT := hide hT
  have HL2 := hide hT.lt
  have HC := hide (And.intro hc hcm)
  clear hx hT hc hcm
  by_cases hn : n ≤ 300
  · have hni : (n : Int) ≤ 300 := by omega
    have HN := hide hn
    clear hn
    go_enter Tryd.func6, Tryd.ntmps6
    go_wp2_with fail
    with_reducible refine Calls.mono (awake_any HT.out) ?_
    rintro e w1 ⟨rfl, hb1⟩
    have HB1 := hide hb1
    have HT1 := hide (HT.out.keep hb1)
    have HX1 := hide (HX.out.keep hb1)
    clear hb1
    go_wp2_with fail
    with_reducible refine Calls.mono (new_one HT1.out HX1.out HC.out.1 HC.out.2 (by have := HN.out; omega) _ rfl) ?_
    rintro e w2 ⟨p, rfl, hp, hS, hb⟩
    have HB2 := hide (K.call HB1.out hb)
    have HT2 := hide (HT1.out.keep hb)
    have HX2 := hide (HX1.out.keep hb)
    have HSp : Hid (Stm w2 p (kvAt f n 0) false) := hS
    have HP : Hid (w.heap.size ≤ p) := Nat.le_trans HB1.out.size hp
    clear hb hS hp HB1 HT1 HX1
    go_wp2_with fail
    with_reducible refine Calls.mono (new_one HT2.out HX2.out HC.out.1 HC.out.2 (by have := HN.out; omega) _ rfl) ?_
    rintro e w3 ⟨q, rfl, hq, hS, hb⟩
    have HB3 := hide (K.call HB2.out hb)
    have HT3 := hide (HT2.out.keep hb)
    have HSq : Hid (Stm w3 q (kvAt f n 0) false) := hS
    have HPQ : Hid (p < q ∧ w.heap.size ≤ q) := ⟨Nat.lt_of_lt_of_le HSp.out.lt hq, Nat.le_trans HB2.out.size hq⟩
    have HSp := hide (HSp.out.keep hb)
    clear hb hS hq HB2 HT2 HX2
    have HE := hide (next_any HT3.out (by have := HP.out; have := HL2.out; omega) HSp.out (kvAt_ok _ _ _))
    obtain ⟨v1, hv1⟩ : ∃ v1, v1 = (kvAt f n 1).v := ⟨_, rfl⟩
    obtain ⟨v2, hv2⟩ : ∃ v2, v2 = (kvAt f n 2).v := ⟨_, rfl⟩
    have e1 : (kvMore (kvAt f n 0) false) = kvAt f n 1 := kvAt_next f n 0
    rw [e1, ← hv1] at HE
    have HV1 := hide hv1
    have HV2 := hide hv2
    clear hv1 hv2 e1
    go_wp2_with fail
    with_reducible refine Calls.mono HE.out ?_
    rintro e w4 ⟨rfl, hSp, hg⟩
    have hB4 : Below w.heap.size w w4 := HB3.out.grown hg HB3.out.size (fun k hk => by cases hk; exact HP.out)
    have hT4 := HT3.out.kept hg (by have := HP.out; have := HL2.out; omega)
    have hSq := HSq.out.keptO hg (by have := HPQ.out; simp; omega)
    have hal := K.alloc (Below.refl _ w4) (.cells (ab v1 32).toArray 25)
    have HR := hide (RowB.made w4 25 32 v1 _ rfl)
    have HB4 := hide (K.call hB4 hal)
    have HT4 := hide (hT4.keep hal)
    have HNe : Hid (p < q ∧ w.heap.size ≤ p ∧ w.heap.size ≤ q ∧ p ≠ w4.heap.size ∧ q ≠ w4.heap.size) := ⟨HPQ.out.1, HP.out, HPQ.out.2, by have := hSp.lt; omega, by have := hSq.lt; omega⟩
    have HSp := hide (hSp.keep hal)
    have HSq := hide (hSq.keep hal)
    have HSZ : Hid (32 = (ab v1 32).toArray.size) := by show _ = _; rw [List.size_toArray, ab_len]
    clear hB4 hT4 hSp hSq hal hg HE HB3 HT3 HP HPQ
    go_upto_region 6 with (refine wpList_store_new rfl 25 _ _ rfl _ (ab v1 32).toArray rfl rfl (inH _) HSZ.out (all_oneCell_toArray (ab_one _ _)) ?_; generalize w4.alloc (.cells (ab v1 32).toArray 25) = Y at HR HB4 HT4 HSp HSq ⊢)
    obtain ⟨x, hx⟩ : ∃ x, w4.heap.size = x := ⟨_, rfl⟩
    rw [hx] at HR HNe ⊢
    clear hx HSZ
    have hd := K.drew (Below.refl _ Y)
    have hT := HT4.out.keep hd
    have hSp := HSp.out.keep hd
    have hSq := HSq.out.keep hd
    have hR := Row8.keep HR.out hd
    have hB := K.call HB4.out hd
    have HQ0 := hide (fun W => eqM (fun _ => 0) W)
    have HQ1 := hide (fun W => eqM v1 W)
    have HQ2 := hide (fun W => eqM v2 W)
    have lp : 2 ≤ p := by have := HNe.out; have := HL2.out; omega
    have lq : 2 ≤ q := by have := HNe.out; have := HL2.out; omega
    have gp : w.heap.size ≤ p := HNe.out.2.1
    have gq : w.heap.size ≤ q := HNe.out.2.2.1
    clear hd HR HB4 HT4 HSp HSq
    refine wp_region_noPanic ?_
    refine wp_region_held_drew (S := fun _ => True) (by kernel_rfl) trivial (fun _ => ?_)
    refine wpAnyH_take (i := 0) (v := .pointer none) rfl (by kernel_rfl) (by kernel_rfl) (by kernel_rfl) (fun _ _ _ h => h) (Or.inl ⟨by rfl, fun w' _ => by go_simp⟩) trivial ?_
    simp only [Act.put, List.getElem_toArray, List.getElem_cons_zero, List.setIfInBounds_toArray, List.set_cons_zero, List.set_cons_succ]
    refine wpAnyH_ready (rs := [1, 2]) (by kernel_rfl) (by simp) (AllReadyH.cons rfl (fun Kt hK => ?_) (AllReadyH.cons rfl (fun Kt hK => ?_) AllReadyH.nil))
    · refine wanted_pos rfl ?_
      refine wp_call (R := fun r w' => r = .agg (ab (fun _ => 0) 32).toArray ∧ Below Y.drew.heap.size Y.drew w') (vs := #[.pointer none]) rfl (by simp only [List.map_toArray, List.map_cons, List.map_nil]; rfl) (by go_simp) (Calls.mono (next_nil Y.drew) (fun e w' ⟨he, hb⟩ => ⟨_, he, rfl, hb⟩)) (fun r W1 ⟨hr, hw1⟩ => ?_)
      subst hr
      refine hK.out _ _ trivial (fun _ => ?_)
      clear hK Kt
      simp only [Act.put, List.getElem_toArray, List.getElem_cons_zero, List.getElem_cons_succ, List.setIfInBounds_toArray, List.set_cons_zero, List.set_cons_succ]
      replace hT := hT.keep hw1
      replace hB := K.call hB hw1
      replace hSp := hSp.keep hw1
      replace hSq := hSq.keep hw1
      replace hR := Row8.keep hR hw1
      clear hw1
      refine wpAnyH_ready (rs := [2]) (by kernel_rfl) (by simp) (AllReadyH.cons rfl (fun Kt hK => ?_) AllReadyH.nil)
      refine wanted_pos rfl ?_
      refine wp_hashZ rfl (hK.out _ _ trivial (fun _ => ?_))
      clear hK Kt
      simp only [Act.put, List.getElem_toArray, List.getElem_cons_zero, List.getElem_cons_succ, List.setIfInBounds_toArray, List.set_cons_zero, List.set_cons_succ]
      refine wpAnyH_ready (rs := [3]) (by kernel_rfl) (by simp) (AllReadyH.cons rfl (fun Kt hK => ?_) AllReadyH.nil)
      refine wanted_pos rfl ?_
      refine wp_eqH rfl rfl rfl (HQ0.out _) (hK.out _ _ trivial (fun _ => ?_))
      clear hK Kt
      simp only [Act.put, List.getElem_toArray, List.getElem_cons_zero, List.getElem_cons_succ, List.setIfInBounds_toArray, List.set_cons_zero, List.set_cons_succ]
      refine wpAnyH_take (i := 4) (v := .bool true) rfl (by kernel_rfl) (by kernel_rfl) (by kernel_rfl) (fun _ _ _ h => h) (Or.inl ⟨by rfl, fun w' _ => by go_simp⟩) trivial ?_
      simp only [Act.put, List.getElem_toArray, List.getElem_cons_zero, List.getElem_cons_succ, List.setIfInBounds_toArray, List.set_cons_zero, List.set_cons_succ]
      refine wpAnyH_take (i := 6) (v := .pointer (some ⟨q, 0, none⟩)) rfl (by kernel_rfl) (by kernel_rfl) (by kernel_rfl) (fun _ _ _ h => h) (Or.inl ⟨by rfl, fun w' _ => by go_simp⟩) trivial ?_
      simp only [Act.put, List.getElem_toArray, List.getElem_cons_zero, List.getElem_cons_succ, List.setIfInBounds_toArray, List.set_cons_zero, List.set_cons_succ]
      refine wpAnyH_ready (rs := [5, 7]) (by kernel_rfl) (by simp) (AllReadyH.cons rfl (fun Kt hK => ?_) (AllReadyH.cons rfl (fun Kt hK => ?_) AllReadyH.nil))
      · refine wanted_pos rfl ?_
        refine wp_load_mid 25 _ rfl x 0 rfl (ab v1 32) _ (RowB.range hR) Tryd.underlying25 rfl (ilH _) (hK.out _ _ trivial (fun _ => ?_))
        clear hK Kt
        simp only [Act.put, List.getElem_toArray, List.getElem_cons_zero, List.getElem_cons_succ, List.setIfInBounds_toArray, List.set_cons_zero, List.set_cons_succ]
        refine wpAnyH_ready (rs := [7]) (by kernel_rfl) (by simp) (AllReadyH.cons rfl (fun Kt hK => ?_) AllReadyH.nil)
        refine wanted_pos rfl ?_
        refine wp_call (R := fun r w' => r = .agg (ab v1 32).toArray ∧ Stm w' q (kvAt f n 1) true ∧ W1.grownBy w' (some q)) (vs := #[.pointer (some ⟨q, 0, none⟩)]) rfl (by simp only [List.map_toArray, List.map_cons, List.map_nil]; rfl) (by go_simp) (Calls.mono (next_any hT lq hSq (kvAt_ok _ _ _)) (fun e w' ⟨he, hb⟩ => ⟨_, he, by rw [HV1.out]; rfl, hb⟩)) (fun r W2 ⟨hr, hSq', hw2⟩ => ?_)
        subst hr
        refine hK.out _ _ trivial (fun _ => ?_)
        clear hK Kt
        simp only [Act.put, List.getElem_toArray, List.getElem_cons_zero, List.getElem_cons_succ, List.setIfInBounds_toArray, List.set_cons_zero, List.set_cons_succ]
        replace hT := hT.kept hw2 lq
        replace hB : Below w.heap.size w W2 := hB.grown hw2 hB.size (fun k hk => by cases hk; exact gq)
        replace hSp := hSp.keptO hw2 (by have := HNe.out; simp; omega)
        replace hR := Row8.keptG hR hw2 (by have := HNe.out; omega)
        replace hSq := hSq'
        clear hw2 hSq'
        refine wpAnyH_ready (rs := [8]) (by kernel_rfl) (by simp) (AllReadyH.cons rfl (fun Kt hK => ?_) AllReadyH.nil)
        refine wanted_pos rfl ?_
        refine wp_eqH rfl rfl rfl (HQ1.out _) (hK.out _ _ trivial (fun _ => ?_))
        clear hK Kt
        simp only [Act.put, List.getElem_toArray, List.getElem_cons_zero, List.getElem_cons_succ, List.setIfInBounds_toArray, List.set_cons_zero, List.set_cons_succ]
        refine wpAnyH_take (i := 9) (v := .bool true) rfl (by kernel_rfl) (by kernel_rfl) (by kernel_rfl) (fun _ _ _ h => h) (Or.inl ⟨by rfl, fun w' _ => by go_simp⟩) trivial ?_
        simp only [Act.put, List.getElem_toArray, List.getElem_cons_zero, List.getElem_cons_succ, List.setIfInBounds_toArray, List.set_cons_zero, List.set_cons_succ]
        refine wpAnyH_take (i := 10) (v := .bool true) rfl (by kernel_rfl) (by kernel_rfl) (by kernel_rfl) (fun _ _ _ h => h) (Or.inl ⟨by rfl, fun w' _ => by go_simp⟩) trivial ?_
        simp only [Act.put, List.getElem_toArray, List.getElem_cons_zero, List.getElem_cons_succ, List.setIfInBounds_toArray, List.set_cons_zero, List.set_cons_succ]
        refine wpAnyH_take (i := 11) (v := .pointer (some ⟨p, 0, none⟩)) rfl (by kernel_rfl) (by kernel_rfl) (by kernel_rfl) (fun _ _ _ h => h) (Or.inl ⟨by rfl, fun w' _ => by go_simp⟩) trivial ?_
        simp only [Act.put, List.getElem_toArray, List.getElem_cons_zero, List.getElem_cons_succ, List.setIfInBounds_toArray, List.set_cons_zero, List.set_cons_succ]
        refine wpAnyH_take (i := 13) (v := .pointer (some ⟨q, 0, none⟩)) rfl (by kernel_rfl) (by kernel_rfl) (by kernel_rfl) (fun _ _ _ h => h) (Or.inl ⟨by rfl, fun w' _ => by go_simp⟩) trivial ?_
        simp only [Act.put, List.getElem_toArray, List.getElem_cons_zero, List.getElem_cons_succ, List.setIfInBounds_toArray, List.set_cons_zero, List.set_cons_succ]
        refine wpAnyH_ready (rs := [12]) (by kernel_rfl) (by simp) (AllReadyH.cons rfl (fun Kt hK => ?_) AllReadyH.nil)
        refine wanted_pos rfl ?_
        refine wp_call (R := fun r w' => r = .agg (ab v2 32).toArray ∧ Stm w' p (kvAt f n 2) true ∧ W2.grownBy w' (some p)) (vs := #[.pointer (some ⟨p, 0, none⟩)]) rfl (by simp only [List.map_toArray, List.map_cons, List.map_nil]; rfl) (by go_simp) (Calls.mono (next_any hT lp hSp (kvAt_ok _ _ _)) (fun e w' ⟨he, hb⟩ => ⟨_, he, by rw [HV2.out]; rfl, hb⟩)) (fun r W3 ⟨hr, hSp', hw3⟩ => ?_)
        subst hr
        refine hK.out _ _ trivial (fun _ => ?_)
        clear hK Kt
        simp only [Act.put, List.getElem_toArray, List.getElem_cons_zero, List.getElem_cons_succ, List.setIfInBounds_toArray, List.set_cons_zero, List.set_cons_succ]
        replace hT := hT.kept hw3 lp
        replace hB : Below w.heap.size w W3 := hB.grown hw3 hB.size (fun k hk => by cases hk; exact gp)
        replace hSq := hSq.keptO hw3 (by have := HNe.out; simp; omega)
        replace hR := Row8.keptG hR hw3 (by have := HNe.out; omega)
        replace hSp := hSp'
        clear hw3 hSp'
        refine wpAnyH_ready (rs := [14]) (by kernel_rfl) (by simp) (AllReadyH.cons rfl (fun Kt hK => ?_) AllReadyH.nil)
        refine wanted_pos rfl ?_
        refine wp_call (R := fun r w' => r = .agg (ab v2 32).toArray ∧ Stm w' q (kvAt f n 2) true ∧ W3.grownBy w' (some q)) (vs := #[.pointer (some ⟨q, 0, none⟩)]) rfl (by simp only [List.map_toArray, List.map_cons, List.map_nil]; rfl) (by go_simp) (Calls.mono (next_any hT lq hSq (kvAt_ok _ _ _)) (fun e w' ⟨he, hb⟩ => ⟨_, he, by rw [HV2.out]; rfl, hb⟩)) (fun r W4 ⟨hr, hSq', hw4⟩ => ?_)
        subst hr
        refine hK.out _ _ trivial (fun _ => ?_)
        clear hK Kt
        simp only [Act.put, List.getElem_toArray, List.getElem_cons_zero, List.getElem_cons_succ, List.setIfInBounds_toArray, List.set_cons_zero, List.set_cons_succ]
        replace hT := hT.kept hw4 lq
        replace hB : Below w.heap.size w W4 := hB.grown hw4 hB.size (fun k hk => by cases hk; exact gq)
        replace hSp := hSp.keptO hw4 (by have := HNe.out; simp; omega)
        replace hR := Row8.keptG hR hw4 (by have := HNe.out; omega)
        replace hSq := hSq'
        clear hw4 hSq'
        refine wpAnyH_ready (rs := [15]) (by kernel_rfl) (by simp) (AllReadyH.cons rfl (fun Kt hK => ?_) AllReadyH.nil)
        refine wanted_pos rfl ?_
        refine wp_eqH rfl rfl rfl (HQ2.out _) (hK.out _ _ trivial (fun _ => ?_))
        clear hK Kt
        simp only [Act.put, List.getElem_toArray, List.getElem_cons_zero, List.getElem_cons_succ, List.setIfInBounds_toArray, List.set_cons_zero, List.set_cons_succ]
        refine wpAnyH_take (i := 16) (v := .bool true) rfl (by kernel_rfl) (by kernel_rfl) (by kernel_rfl) (fun _ _ _ h => h) (Or.inl ⟨by rfl, fun w' _ => by go_simp⟩) trivial ?_
        simp only [Act.put, List.getElem_toArray, List.getElem_cons_zero, List.getElem_cons_succ, List.setIfInBounds_toArray, List.set_cons_zero, List.set_cons_succ]
        refine wpAnyH_take (i := 17) (v := .bool true) rfl (by kernel_rfl) (by kernel_rfl) (by kernel_rfl) (fun _ _ _ h => h) (Or.inl ⟨by rfl, fun w' _ => by go_simp⟩) trivial ?_
        simp only [Act.put, List.getElem_toArray, List.getElem_cons_zero, List.getElem_cons_succ, List.setIfInBounds_toArray, List.set_cons_zero, List.set_cons_succ]
        refine wpAnyH_done (by kernel_rfl) ?_ _
        refine NoPanic.normal ?_
        go_wp2_with fail
        go_ret
        exact ⟨rfl, hB⟩
      · refine wanted_pos rfl ?_
        refine wp_call (R := fun r w' => r = .agg (ab v1 32).toArray ∧ Stm w' q (kvAt f n 1) true ∧ W1.grownBy w' (some q)) (vs := #[.pointer (some ⟨q, 0, none⟩)]) rfl (by simp only [List.map_toArray, List.map_cons, List.map_nil]; rfl) (by go_simp) (Calls.mono (next_any hT lq hSq (kvAt_ok _ _ _)) (fun e w' ⟨he, hb⟩ => ⟨_, he, by rw [HV1.out]; rfl, hb⟩)) (fun r W2 ⟨hr, hSq', hw2⟩ => ?_)
        subst hr
        refine hK.out _ _ trivial (fun _ => ?_)
        clear hK Kt
        simp only [Act.put, List.getElem_toArray, List.getElem_cons_zero, List.getElem_cons_succ, List.setIfInBounds_toArray, List.set_cons_zero, List.set_cons_succ]
        replace hT := hT.kept hw2 lq
        replace hB : Below w.heap.size w W2 := hB.grown hw2 hB.size (fun k hk => by cases hk; exact gq)
        replace hSp := hSp.keptO hw2 (by have := HNe.out; simp; omega)
        replace hR := Row8.keptG hR hw2 (by have := HNe.out; omega)
        replace hSq := hSq'
        clear hw2 hSq'
        refine wpAnyH_ready (rs := [5]) (by kernel_rfl) (by simp) (AllReadyH.cons rfl (fun Kt hK => ?_) AllReadyH.nil)
        refine wanted_pos rfl ?_
        refine wp_load_mid 25 _ rfl x 0 rfl (ab v1 32) _ (RowB.range hR) Tryd.underlying25 rfl (ilH _) (hK.out _ _ trivial (fun _ => ?_))
        clear hK Kt
        simp only [Act.put, List.getElem_toArray, List.getElem_cons_zero, List.getElem_cons_succ, List.setIfInBounds_toArray, List.set_cons_zero, List.set_cons_succ]
        refine wpAnyH_ready (rs := [8]) (by kernel_rfl) (by simp) (AllReadyH.cons rfl (fun Kt hK => ?_) AllReadyH.nil)
        refine wanted_pos rfl ?_
        refine wp_eqH rfl rfl rfl (HQ1.out _) (hK.out _ _ trivial (fun _ => ?_))
        clear hK Kt
        simp only [Act.put, List.getElem_toArray, List.getElem_cons_zero, List.getElem_cons_succ, List.setIfInBounds_toArray, List.set_cons_zero, List.set_cons_succ]
        refine wpAnyH_take (i := 9) (v := .bool true) rfl (by kernel_rfl) (by kernel_rfl) (by kernel_rfl) (fun _ _ _ h => h) (Or.inl ⟨by rfl, fun w' _ => by go_simp⟩) trivial ?_
        simp only [Act.put, List.getElem_toArray, List.getElem_cons_zero, List.getElem_cons_succ, List.setIfInBounds_toArray, List.set_cons_zero, List.set_cons_succ]
        refine wpAnyH_take (i := 10) (v := .bool true) rfl (by kernel_rfl) (by kernel_rfl) (by kernel_rfl) (fun _ _ _ h => h) (Or.inl ⟨by rfl, fun w' _ => by go_simp⟩) trivial ?_
        simp only [Act.put, List.getElem_toArray, List.getElem_cons_zero, List.getElem_cons_succ, List.setIfInBounds_toArray, List.set_cons_zero, List.set_cons_succ]
        refine wpAnyH_take (i := 11) (v := .pointer (some ⟨p, 0, none⟩)) rfl (by kernel_rfl) (by kernel_rfl) (by kernel_rfl) (fun _ _ _ h => h) (Or.inl ⟨by rfl, fun w' _ => by go_simp⟩) trivial ?_
        simp only [Act.put, List.getElem_toArray, List.getElem_cons_zero, List.getElem_cons_succ, List.setIfInBounds_toArray, List.set_cons_zero, List.set_cons_succ]
        refine wpAnyH_take (i := 13) (v := .pointer (some ⟨q, 0, none⟩)) rfl (by kernel_rfl) (by kernel_rfl) (by kernel_rfl) (fun _ _ _ h => h) (Or.inl ⟨by rfl, fun w' _ => by go_simp⟩) trivial ?_
        simp only [Act.put, List.getElem_toArray, List.getElem_cons_zero, List.getElem_cons_succ, List.setIfInBounds_toArray, List.set_cons_zero, List.set_cons_succ]
        refine wpAnyH_ready (rs := [12]) (by kernel_rfl) (by simp) (AllReadyH.cons rfl (fun Kt hK => ?_) AllReadyH.nil)
        refine wanted_pos rfl ?_
        refine wp_call (R := fun r w' => r = .agg (ab v2 32).toArray ∧ Stm w' p (kvAt f n 2) true ∧ W2.grownBy w' (some p)) (vs := #[.pointer (some ⟨p, 0, none⟩)]) rfl (by simp only [List.map_toArray, List.map_cons, List.map_nil]; rfl) (by go_simp) (Calls.mono (next_any hT lp hSp (kvAt_ok _ _ _)) (fun e w' ⟨he, hb⟩ => ⟨_, he, by rw [HV2.out]; rfl, hb⟩)) (fun r W3 ⟨hr, hSp', hw3⟩ => ?_)
        subst hr
        refine hK.out _ _ trivial (fun _ => ?_)
        clear hK Kt
        simp only [Act.put, List.getElem_toArray, List.getElem_cons_zero, List.getElem_cons_succ, List.setIfInBounds_toArray, List.set_cons_zero, List.set_cons_succ]
        replace hT := hT.kept hw3 lp
        replace hB : Below w.heap.size w W3 := hB.grown hw3 hB.size (fun k hk => by cases hk; exact gp)
        replace hSq := hSq.keptO hw3 (by have := HNe.out; simp; omega)
        replace hR := Row8.keptG hR hw3 (by have := HNe.out; omega)
        replace hSp := hSp'
        clear hw3 hSp'
        refine wpAnyH_ready (rs := [14]) (by kernel_rfl) (by simp) (AllReadyH.cons rfl (fun Kt hK => ?_) AllReadyH.nil)
        refine wanted_pos rfl ?_
        refine wp_call (R := fun r w' => r = .agg (ab v2 32).toArray ∧ Stm w' q (kvAt f n 2) true ∧ W3.grownBy w' (some q)) (vs := #[.pointer (some ⟨q, 0, none⟩)]) rfl (by simp only [List.map_toArray, List.map_cons, List.map_nil]; rfl) (by go_simp) (Calls.mono (next_any hT lq hSq (kvAt_ok _ _ _)) (fun e w' ⟨he, hb⟩ => ⟨_, he, by rw [HV2.out]; rfl, hb⟩)) (fun r W4 ⟨hr, hSq', hw4⟩ => ?_)
        subst hr
        refine hK.out _ _ trivial (fun _ => ?_)
        clear hK Kt
        simp only [Act.put, List.getElem_toArray, List.getElem_cons_zero, List.getElem_cons_succ, List.setIfInBounds_toArray, List.set_cons_zero, List.set_cons_succ]
        replace hT := hT.kept hw4 lq
        replace hB : Below w.heap.size w W4 := hB.grown hw4 hB.size (fun k hk => by cases hk; exact gq)
        replace hSp := hSp.keptO hw4 (by have := HNe.out; simp; omega)
        replace hR := Row8.keptG hR hw4 (by have := HNe.out; omega)
        replace hSq := hSq'
        clear hw4 hSq'
        refine wpAnyH_ready (rs := [15]) (by kernel_rfl) (by simp) (AllReadyH.cons rfl (fun Kt hK => ?_) AllReadyH.nil)
        refine wanted_pos rfl ?_
        refine wp_eqH rfl rfl rfl (HQ2.out _) (hK.out _ _ trivial (fun _ => ?_))
        clear hK Kt
        simp only [Act.put, List.getElem_toArray, List.getElem_cons_zero, List.getElem_cons_succ, List.setIfInBounds_toArray, List.set_cons_zero, List.set_cons_succ]
        refine wpAnyH_take (i := 16) (v := .bool true) rfl (by kernel_rfl) (by kernel_rfl) (by kernel_rfl) (fun _ _ _ h => h) (Or.inl ⟨by rfl, fun w' _ => by go_simp⟩) trivial ?_
        simp only [Act.put, List.getElem_toArray, List.getElem_cons_zero, List.getElem_cons_succ, List.setIfInBounds_toArray, List.set_cons_zero, List.set_cons_succ]
        refine wpAnyH_take (i := 17) (v := .bool true) rfl (by kernel_rfl) (by kernel_rfl) (by kernel_rfl) (fun _ _ _ h => h) (Or.inl ⟨by rfl, fun w' _ => by go_simp⟩) trivial ?_
        simp only [Act.put, List.getElem_toArray, List.getElem_cons_zero, List.getElem_cons_succ, List.setIfInBounds_toArray, List.set_cons_zero, List.set_cons_succ]
        refine wpAnyH_done (by kernel_rfl) ?_ _
        refine NoPanic.normal ?_
        go_wp2_with fail
        go_ret
        exact ⟨rfl, hB⟩
    · refine wanted_pos rfl ?_
      refine wp_hashZ rfl (hK.out _ _ trivial (fun _ => ?_))
      clear hK Kt
      simp only [Act.put, List.getElem_toArray, List.getElem_cons_zero, List.getElem_cons_succ, List.setIfInBounds_toArray, List.set_cons_zero, List.set_cons_succ]
      refine wpAnyH_ready (rs := [1]) (by kernel_rfl) (by simp) (AllReadyH.cons rfl (fun Kt hK => ?_) AllReadyH.nil)
      refine wanted_pos rfl ?_
      refine wp_call (R := fun r w' => r = .agg (ab (fun _ => 0) 32).toArray ∧ Below Y.drew.heap.size Y.drew w') (vs := #[.pointer none]) rfl (by simp only [List.map_toArray, List.map_cons, List.map_nil]; rfl) (by go_simp) (Calls.mono (next_nil Y.drew) (fun e w' ⟨he, hb⟩ => ⟨_, he, rfl, hb⟩)) (fun r W1 ⟨hr, hw1⟩ => ?_)
      subst hr
      refine hK.out _ _ trivial (fun _ => ?_)
      clear hK Kt
      simp only [Act.put, List.getElem_toArray, List.getElem_cons_zero, List.getElem_cons_succ, List.setIfInBounds_toArray, List.set_cons_zero, List.set_cons_succ]
      replace hT := hT.keep hw1
      replace hB := K.call hB hw1
      replace hSp := hSp.keep hw1
      replace hSq := hSq.keep hw1
      replace hR := Row8.keep hR hw1
      clear hw1
      refine wpAnyH_ready (rs := [3]) (by kernel_rfl) (by simp) (AllReadyH.cons rfl (fun Kt hK => ?_) AllReadyH.nil)
      refine wanted_pos rfl ?_
      refine wp_eqH rfl rfl rfl (HQ0.out _) (hK.out _ _ trivial (fun _ => ?_))
      clear hK Kt
      simp only [Act.put, List.getElem_toArray, List.getElem_cons_zero, List.getElem_cons_succ, List.setIfInBounds_toArray, List.set_cons_zero, List.set_cons_succ]
      refine wpAnyH_take (i := 4) (v := .bool true) rfl (by kernel_rfl) (by kernel_rfl) (by kernel_rfl) (fun _ _ _ h => h) (Or.inl ⟨by rfl, fun w' _ => by go_simp⟩) trivial ?_
      simp only [Act.put, List.getElem_toArray, List.getElem_cons_zero, List.getElem_cons_succ, List.setIfInBounds_toArray, List.set_cons_zero, List.set_cons_succ]
      refine wpAnyH_take (i := 6) (v := .pointer (some ⟨q, 0, none⟩)) rfl (by kernel_rfl) (by kernel_rfl) (by kernel_rfl) (fun _ _ _ h => h) (Or.inl ⟨by rfl, fun w' _ => by go_simp⟩) trivial ?_
      simp only [Act.put, List.getElem_toArray, List.getElem_cons_zero, List.getElem_cons_succ, List.setIfInBounds_toArray, List.set_cons_zero, List.set_cons_succ]
      refine wpAnyH_ready (rs := [5, 7]) (by kernel_rfl) (by simp) (AllReadyH.cons rfl (fun Kt hK => ?_) (AllReadyH.cons rfl (fun Kt hK => ?_) AllReadyH.nil))
      · refine wanted_pos rfl ?_
        refine wp_load_mid 25 _ rfl x 0 rfl (ab v1 32) _ (RowB.range hR) Tryd.underlying25 rfl (ilH _) (hK.out _ _ trivial (fun _ => ?_))
        clear hK Kt
        simp only [Act.put, List.getElem_toArray, List.getElem_cons_zero, List.getElem_cons_succ, List.setIfInBounds_toArray, List.set_cons_zero, List.set_cons_succ]
        refine wpAnyH_ready (rs := [7]) (by kernel_rfl) (by simp) (AllReadyH.cons rfl (fun Kt hK => ?_) AllReadyH.nil)
        refine wanted_pos rfl ?_
        refine wp_call (R := fun r w' => r = .agg (ab v1 32).toArray ∧ Stm w' q (kvAt f n 1) true ∧ W1.grownBy w' (some q)) (vs := #[.pointer (some ⟨q, 0, none⟩)]) rfl (by simp only [List.map_toArray, List.map_cons, List.map_nil]; rfl) (by go_simp) (Calls.mono (next_any hT lq hSq (kvAt_ok _ _ _)) (fun e w' ⟨he, hb⟩ => ⟨_, he, by rw [HV1.out]; rfl, hb⟩)) (fun r W2 ⟨hr, hSq', hw2⟩ => ?_)
        subst hr
        refine hK.out _ _ trivial (fun _ => ?_)
        clear hK Kt
        simp only [Act.put, List.getElem_toArray, List.getElem_cons_zero, List.getElem_cons_succ, List.setIfInBounds_toArray, List.set_cons_zero, List.set_cons_succ]
        replace hT := hT.kept hw2 lq
        replace hB : Below w.heap.size w W2 := hB.grown hw2 hB.size (fun k hk => by cases hk; exact gq)
        replace hSp := hSp.keptO hw2 (by have := HNe.out; simp; omega)
        replace hR := Row8.keptG hR hw2 (by have := HNe.out; omega)
        replace hSq := hSq'
        clear hw2 hSq'
        refine wpAnyH_ready (rs := [8]) (by kernel_rfl) (by simp) (AllReadyH.cons rfl (fun Kt hK => ?_) AllReadyH.nil)
        refine wanted_pos rfl ?_
        refine wp_eqH rfl rfl rfl (HQ1.out _) (hK.out _ _ trivial (fun _ => ?_))
        clear hK Kt
        simp only [Act.put, List.getElem_toArray, List.getElem_cons_zero, List.getElem_cons_succ, List.setIfInBounds_toArray, List.set_cons_zero, List.set_cons_succ]
        refine wpAnyH_take (i := 9) (v := .bool true) rfl (by kernel_rfl) (by kernel_rfl) (by kernel_rfl) (fun _ _ _ h => h) (Or.inl ⟨by rfl, fun w' _ => by go_simp⟩) trivial ?_
        simp only [Act.put, List.getElem_toArray, List.getElem_cons_zero, List.getElem_cons_succ, List.setIfInBounds_toArray, List.set_cons_zero, List.set_cons_succ]
        refine wpAnyH_take (i := 10) (v := .bool true) rfl (by kernel_rfl) (by kernel_rfl) (by kernel_rfl) (fun _ _ _ h => h) (Or.inl ⟨by rfl, fun w' _ => by go_simp⟩) trivial ?_
        simp only [Act.put, List.getElem_toArray, List.getElem_cons_zero, List.getElem_cons_succ, List.setIfInBounds_toArray, List.set_cons_zero, List.set_cons_succ]
        refine wpAnyH_take (i := 11) (v := .pointer (some ⟨p, 0, none⟩)) rfl (by kernel_rfl) (by kernel_rfl) (by kernel_rfl) (fun _ _ _ h => h) (Or.inl ⟨by rfl, fun w' _ => by go_simp⟩) trivial ?_
        simp only [Act.put, List.getElem_toArray, List.getElem_cons_zero, List.getElem_cons_succ, List.setIfInBounds_toArray, List.set_cons_zero, List.set_cons_succ]
        refine wpAnyH_take (i := 13) (v := .pointer (some ⟨q, 0, none⟩)) rfl (by kernel_rfl) (by kernel_rfl) (by kernel_rfl) (fun _ _ _ h => h) (Or.inl ⟨by rfl, fun w' _ => by go_simp⟩) trivial ?_
        simp only [Act.put, List.getElem_toArray, List.getElem_cons_zero, List.getElem_cons_succ, List.setIfInBounds_toArray, List.set_cons_zero, List.set_cons_succ]
        refine wpAnyH_ready (rs := [12]) (by kernel_rfl) (by simp) (AllReadyH.cons rfl (fun Kt hK => ?_) AllReadyH.nil)
        refine wanted_pos rfl ?_
        refine wp_call (R := fun r w' => r = .agg (ab v2 32).toArray ∧ Stm w' p (kvAt f n 2) true ∧ W2.grownBy w' (some p)) (vs := #[.pointer (some ⟨p, 0, none⟩)]) rfl (by simp only [List.map_toArray, List.map_cons, List.map_nil]; rfl) (by go_simp) (Calls.mono (next_any hT lp hSp (kvAt_ok _ _ _)) (fun e w' ⟨he, hb⟩ => ⟨_, he, by rw [HV2.out]; rfl, hb⟩)) (fun r W3 ⟨hr, hSp', hw3⟩ => ?_)
        subst hr
        refine hK.out _ _ trivial (fun _ => ?_)
        clear hK Kt
        simp only [Act.put, List.getElem_toArray, List.getElem_cons_zero, List.getElem_cons_succ, List.setIfInBounds_toArray, List.set_cons_zero, List.set_cons_succ]
        replace hT := hT.kept hw3 lp
        replace hB : Below w.heap.size w W3 := hB.grown hw3 hB.size (fun k hk => by cases hk; exact gp)
        replace hSq := hSq.keptO hw3 (by have := HNe.out; simp; omega)
        replace hR := Row8.keptG hR hw3 (by have := HNe.out; omega)
        replace hSp := hSp'
        clear hw3 hSp'
        refine wpAnyH_ready (rs := [14]) (by kernel_rfl) (by simp) (AllReadyH.cons rfl (fun Kt hK => ?_) AllReadyH.nil)
        refine wanted_pos rfl ?_
        refine wp_call (R := fun r w' => r = .agg (ab v2 32).toArray ∧ Stm w' q (kvAt f n 2) true ∧ W3.grownBy w' (some q)) (vs := #[.pointer (some ⟨q, 0, none⟩)]) rfl (by simp only [List.map_toArray, List.map_cons, List.map_nil]; rfl) (by go_simp) (Calls.mono (next_any hT lq hSq (kvAt_ok _ _ _)) (fun e w' ⟨he, hb⟩ => ⟨_, he, by rw [HV2.out]; rfl, hb⟩)) (fun r W4 ⟨hr, hSq', hw4⟩ => ?_)
        subst hr
        refine hK.out _ _ trivial (fun _ => ?_)
        clear hK Kt
        simp only [Act.put, List.getElem_toArray, List.getElem_cons_zero, List.getElem_cons_succ, List.setIfInBounds_toArray, List.set_cons_zero, List.set_cons_succ]
        replace hT := hT.kept hw4 lq
        replace hB : Below w.heap.size w W4 := hB.grown hw4 hB.size (fun k hk => by cases hk; exact gq)
        replace hSp := hSp.keptO hw4 (by have := HNe.out; simp; omega)
        replace hR := Row8.keptG hR hw4 (by have := HNe.out; omega)
        replace hSq := hSq'
        clear hw4 hSq'
        refine wpAnyH_ready (rs := [15]) (by kernel_rfl) (by simp) (AllReadyH.cons rfl (fun Kt hK => ?_) AllReadyH.nil)
        refine wanted_pos rfl ?_
        refine wp_eqH rfl rfl rfl (HQ2.out _) (hK.out _ _ trivial (fun _ => ?_))
        clear hK Kt
        simp only [Act.put, List.getElem_toArray, List.getElem_cons_zero, List.getElem_cons_succ, List.setIfInBounds_toArray, List.set_cons_zero, List.set_cons_succ]
        refine wpAnyH_take (i := 16) (v := .bool true) rfl (by kernel_rfl) (by kernel_rfl) (by kernel_rfl) (fun _ _ _ h => h) (Or.inl ⟨by rfl, fun w' _ => by go_simp⟩) trivial ?_
        simp only [Act.put, List.getElem_toArray, List.getElem_cons_zero, List.getElem_cons_succ, List.setIfInBounds_toArray, List.set_cons_zero, List.set_cons_succ]
        refine wpAnyH_take (i := 17) (v := .bool true) rfl (by kernel_rfl) (by kernel_rfl) (by kernel_rfl) (fun _ _ _ h => h) (Or.inl ⟨by rfl, fun w' _ => by go_simp⟩) trivial ?_
        simp only [Act.put, List.getElem_toArray, List.getElem_cons_zero, List.getElem_cons_succ, List.setIfInBounds_toArray, List.set_cons_zero, List.set_cons_succ]
        refine wpAnyH_done (by kernel_rfl) ?_ _
        refine NoPanic.normal ?_
        go_wp2_with fail
        go_ret
        exact ⟨rfl, hB⟩
      · refine wanted_pos rfl ?_
        refine wp_call (R := fun r w' => r = .agg (ab v1 32).toArray ∧ Stm w' q (kvAt f n 1) true ∧ W1.grownBy w' (some q)) (vs := #[.pointer (some ⟨q, 0, none⟩)]) rfl (by simp only [List.map_toArray, List.map_cons, List.map_nil]; rfl) (by go_simp) (Calls.mono (next_any hT lq hSq (kvAt_ok _ _ _)) (fun e w' ⟨he, hb⟩ => ⟨_, he, by rw [HV1.out]; rfl, hb⟩)) (fun r W2 ⟨hr, hSq', hw2⟩ => ?_)
        subst hr
        refine hK.out _ _ trivial (fun _ => ?_)
        clear hK Kt
        simp only [Act.put, List.getElem_toArray, List.getElem_cons_zero, List.getElem_cons_succ, List.setIfInBounds_toArray, List.set_cons_zero, List.set_cons_succ]
        replace hT := hT.kept hw2 lq
        replace hB : Below w.heap.size w W2 := hB.grown hw2 hB.size (fun k hk => by cases hk; exact gq)
        replace hSp := hSp.keptO hw2 (by have := HNe.out; simp; omega)
        replace hR := Row8.keptG hR hw2 (by have := HNe.out; omega)
        replace hSq := hSq'
        clear hw2 hSq'
        refine wpAnyH_ready (rs := [5]) (by kernel_rfl) (by simp) (AllReadyH.cons rfl (fun Kt hK => ?_) AllReadyH.nil)
        refine wanted_pos rfl ?_
        refine wp_load_mid 25 _ rfl x 0 rfl (ab v1 32) _ (RowB.range hR) Tryd.underlying25 rfl (ilH _) (hK.out _ _ trivial (fun _ => ?_))
        clear hK Kt
        simp only [Act.put, List.getElem_toArray, List.getElem_cons_zero, List.getElem_cons_succ, List.setIfInBounds_toArray, List.set_cons_zero, List.set_cons_succ]
        refine wpAnyH_ready (rs := [8]) (by kernel_rfl) (by simp) (AllReadyH.cons rfl (fun Kt hK => ?_) AllReadyH.nil)
        refine wanted_pos rfl ?_
        refine wp_eqH rfl rfl rfl (HQ1.out _) (hK.out _ _ trivial (fun _ => ?_))
        clear hK Kt
        simp only [Act.put, List.getElem_toArray, List.getElem_cons_zero, List.getElem_cons_succ, List.setIfInBounds_toArray, List.set_cons_zero, List.set_cons_succ]
        refine wpAnyH_take (i := 9) (v := .bool true) rfl (by kernel_rfl) (by kernel_rfl) (by kernel_rfl) (fun _ _ _ h => h) (Or.inl ⟨by rfl, fun w' _ => by go_simp⟩) trivial ?_
        simp only [Act.put, List.getElem_toArray, List.getElem_cons_zero, List.getElem_cons_succ, List.setIfInBounds_toArray, List.set_cons_zero, List.set_cons_succ]
        refine wpAnyH_take (i := 10) (v := .bool true) rfl (by kernel_rfl) (by kernel_rfl) (by kernel_rfl) (fun _ _ _ h => h) (Or.inl ⟨by rfl, fun w' _ => by go_simp⟩) trivial ?_
        simp only [Act.put, List.getElem_toArray, List.getElem_cons_zero, List.getElem_cons_succ, List.setIfInBounds_toArray, List.set_cons_zero, List.set_cons_succ]
        refine wpAnyH_take (i := 11) (v := .pointer (some ⟨p, 0, none⟩)) rfl (by kernel_rfl) (by kernel_rfl) (by kernel_rfl) (fun _ _ _ h => h) (Or.inl ⟨by rfl, fun w' _ => by go_simp⟩) trivial ?_
        simp only [Act.put, List.getElem_toArray, List.getElem_cons_zero, List.getElem_cons_succ, List.setIfInBounds_toArray, List.set_cons_zero, List.set_cons_succ]
        refine wpAnyH_take (i := 13) (v := .pointer (some ⟨q, 0, none⟩)) rfl (by kernel_rfl) (by kernel_rfl) (by kernel_rfl) (fun _ _ _ h => h) (Or.inl ⟨by rfl, fun w' _ => by go_simp⟩) trivial ?_
        simp only [Act.put, List.getElem_toArray, List.getElem_cons_zero, List.getElem_cons_succ, List.setIfInBounds_toArray, List.set_cons_zero, List.set_cons_succ]
        refine wpAnyH_ready (rs := [12]) (by kernel_rfl) (by simp) (AllReadyH.cons rfl (fun Kt hK => ?_) AllReadyH.nil)
        refine wanted_pos rfl ?_
        refine wp_call (R := fun r w' => r = .agg (ab v2 32).toArray ∧ Stm w' p (kvAt f n 2) true ∧ W2.grownBy w' (some p)) (vs := #[.pointer (some ⟨p, 0, none⟩)]) rfl (by simp only [List.map_toArray, List.map_cons, List.map_nil]; rfl) (by go_simp) (Calls.mono (next_any hT lp hSp (kvAt_ok _ _ _)) (fun e w' ⟨he, hb⟩ => ⟨_, he, by rw [HV2.out]; rfl, hb⟩)) (fun r W3 ⟨hr, hSp', hw3⟩ => ?_)
        subst hr
        refine hK.out _ _ trivial (fun _ => ?_)
        clear hK Kt
        simp only [Act.put, List.getElem_toArray, List.getElem_cons_zero, List.getElem_cons_succ, List.setIfInBounds_toArray, List.set_cons_zero, List.set_cons_succ]
        replace hT := hT.kept hw3 lp
        replace hB : Below w.heap.size w W3 := hB.grown hw3 hB.size (fun k hk => by cases hk; exact gp)
        replace hSq := hSq.keptO hw3 (by have := HNe.out; simp; omega)
        replace hR := Row8.keptG hR hw3 (by have := HNe.out; omega)
        replace hSp := hSp'
        clear hw3 hSp'
        refine wpAnyH_ready (rs := [14]) (by kernel_rfl) (by simp) (AllReadyH.cons rfl (fun Kt hK => ?_) AllReadyH.nil)
        refine wanted_pos rfl ?_
        refine wp_call (R := fun r w' => r = .agg (ab v2 32).toArray ∧ Stm w' q (kvAt f n 2) true ∧ W3.grownBy w' (some q)) (vs := #[.pointer (some ⟨q, 0, none⟩)]) rfl (by simp only [List.map_toArray, List.map_cons, List.map_nil]; rfl) (by go_simp) (Calls.mono (next_any hT lq hSq (kvAt_ok _ _ _)) (fun e w' ⟨he, hb⟩ => ⟨_, he, by rw [HV2.out]; rfl, hb⟩)) (fun r W4 ⟨hr, hSq', hw4⟩ => ?_)
        subst hr
        refine hK.out _ _ trivial (fun _ => ?_)
        clear hK Kt
        simp only [Act.put, List.getElem_toArray, List.getElem_cons_zero, List.getElem_cons_succ, List.setIfInBounds_toArray, List.set_cons_zero, List.set_cons_succ]
        replace hT := hT.kept hw4 lq
        replace hB : Below w.heap.size w W4 := hB.grown hw4 hB.size (fun k hk => by cases hk; exact gq)
        replace hSp := hSp.keptO hw4 (by have := HNe.out; simp; omega)
        replace hR := Row8.keptG hR hw4 (by have := HNe.out; omega)
        replace hSq := hSq'
        clear hw4 hSq'
        refine wpAnyH_ready (rs := [15]) (by kernel_rfl) (by simp) (AllReadyH.cons rfl (fun Kt hK => ?_) AllReadyH.nil)
        refine wanted_pos rfl ?_
        refine wp_eqH rfl rfl rfl (HQ2.out _) (hK.out _ _ trivial (fun _ => ?_))
        clear hK Kt
        simp only [Act.put, List.getElem_toArray, List.getElem_cons_zero, List.getElem_cons_succ, List.setIfInBounds_toArray, List.set_cons_zero, List.set_cons_succ]
        refine wpAnyH_take (i := 16) (v := .bool true) rfl (by kernel_rfl) (by kernel_rfl) (by kernel_rfl) (fun _ _ _ h => h) (Or.inl ⟨by rfl, fun w' _ => by go_simp⟩) trivial ?_
        simp only [Act.put, List.getElem_toArray, List.getElem_cons_zero, List.getElem_cons_succ, List.setIfInBounds_toArray, List.set_cons_zero, List.set_cons_succ]
        refine wpAnyH_take (i := 17) (v := .bool true) rfl (by kernel_rfl) (by kernel_rfl) (by kernel_rfl) (fun _ _ _ h => h) (Or.inl ⟨by rfl, fun w' _ => by go_simp⟩) trivial ?_
        simp only [Act.put, List.getElem_toArray, List.getElem_cons_zero, List.getElem_cons_succ, List.setIfInBounds_toArray, List.set_cons_zero, List.set_cons_succ]
        refine wpAnyH_done (by kernel_rfl) ?_ _
        refine NoPanic.normal ?_
        go_wp2_with fail
        go_ret
        exact ⟨rfl, hB⟩
  · have hni : (300 : Int) < n := by omega
    clear hn
    go_enter Tryd.func6, Tryd.ntmps6
    go_wp2_with fail
    with_reducible refine Calls.mono (awake_any HT.out) ?_
    rintro e w1 ⟨rfl, hb1⟩
    have HB1 := hide hb1
    clear hb1
    go_wp2_with fail
    with_reducible refine Calls.mono (awake_any (HT.out.keep HB1.out)) ?_
    rintro e w2 ⟨rfl, hb⟩
    have HB2 := hide (K.call HB1.out hb)
    clear hb HB1
    go_wp2_with fail
    go_ret
    exact ⟨rfl, HB2.out⟩
end Go.Proofs.YtiahjnfopeiliaaDoor
