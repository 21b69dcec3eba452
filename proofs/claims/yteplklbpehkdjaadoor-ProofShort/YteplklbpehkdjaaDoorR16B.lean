/- Layer 16: the document's own Split, Root, Same. -/
import Derived.Test.YteplklbpehkdjaaDoorR16A
import Derived.Test.YteplklbpehkdjaaDoorH16
namespace Go.Proofs.YteplklbpehkdjaaDoor
set_option maxRecDepth 100000
open Go.RowKit
attribute [local go_sem ↓] Go.wp_at_zero Go.wp_at_succ

theorem refSplit_any (w : World) {n : Nat} (hn : n < 4611686018427387904) : Calls Tryd.prog 14 #[.int .i64 (n : Int)] w fun e w' => e = .returned (.int .i64 (sp n : Int)) ∧ w' = w := by
  by_cases h : n < 2
  · have h' : (n : Int) < 2 := by omega
    rw [sp_small h]
    go_enter Tryd.func14, Tryd.ntmps14
    go_wp2_with fail
    go_ret
    exact ⟨rfl, rfl⟩
  · have h' : ¬ ((n : Int) < 2) := by omega
    go_enter Tryd.func14, Tryd.ntmps14
    go_wp2_with fail
    go_loopg [3] (n - 1) (fun g s wr => ∃ k j : Nat, g = n - k ∧ k = 2 ^ j ∧ k < n ∧ s = .int .i64 (k : Int) ∧ wr = w)
    case atStart => exact ⟨1, 0, rfl, rfl, by omega, rfl, rfl⟩
    case round =>
      obtain ⟨k, j, rfl, hk, hkn, rfl, rfl⟩ := hrel
      have hp := Nat.two_pow_pos j
      have hk1 : 1 ≤ k := by omega
      have hw1 : wrap64 ((n : Int) - (k : Int)) = (n : Int) - (k : Int) := by unfold wrap64; omega
      by_cases hl : 2 * k < n
      · have hc : (k : Int) < (n : Int) - (k : Int) := by omega
        have hw2 : wrap64 (2 * (k : Int)) = 2 * (k : Int) := by unfold wrap64; omega
        have HK := hide hk
        clear hk hp
        go_wp2_with fail
        go_roundg (n - 2 * k)
        case measure => omega
        case rel => exact ⟨2 * k, j + 1, rfl, by rw [HK.out, Nat.pow_succ]; omega, hl, by simp, rfl⟩
      · have hc : ¬ ((k : Int) < (n : Int) - (k : Int)) := by omega
        have hs : sp n = k := by rw [hk]; exact sp_of (by omega) (by omega)
        clear hk hp
        go_wp2_with fail
        go_ret
        exact ⟨rfl, rfl⟩
set_option maxRecDepth 100000 in
set_option maxHeartbeats 8000000 in
theorem refRoot_any : ∀ (n : Nat) {w : World} {x : Option Addr} {c : Nat} {F : Nat → Nat → Nat}, HL w x n F → n ≤ c → c ≤ maxLen → n ≤ 1000000 → Calls Tryd.prog 15 #[.slice x n c] w fun e w' => e = .returned (hv (rt F n)) ∧ Below w.heap.size w w' := fun n => by
  induction n using Nat.strongRecOn with
  | ind n ih =>
    intro w x c F hL hc hmx hn
    have HLs := hide hL
    have HC := hide (And.intro hc hmx)
    have HIH := hide ih
    have HN := hide hn
    clear hL hmx ih hc hn
    by_cases h0 : n = 0
    · subst h0
      rw [rt_zero]
      go_enter Tryd.func15, Tryd.ntmps15
      go_upto_region 1 with fail
      refine wp_world (fun X hX => ?_)
      rw [zeros32] at hX
      obtain ⟨hB, hH⟩ := made_h hX
      clear hX
      obtain ⟨b0, hb0⟩ : ∃ b0, w.heap.size = b0 := ⟨_, rfl⟩
      have HS := hide (refSum_hA (w := X) (x := none) (n := 0) (c := 0) (f := fun _ => 0) ⟨fun _ => by omega, Or.inl rfl⟩ (by omega))
      rw [hA_e0] at HS
      rw [hb0] at hB hH ⊢
      have HH := hide (And.intro hB hH)
      clear hB hH
      go_wp2_with fail
      with_reducible refine Calls.mono HS.out ?_
      rintro e W3 ⟨rfl, hb⟩
      obtain ⟨HTH, HST, HB⟩ := put_h hb0 HH.out.2 HH.out.1 hb e0
      clear hb HS HH
      generalize hs2 : e0 = s2 at HTH HST HB ⊢
      have HS2 := hide hs2
      clear hs2
      go_wp2_with (refine wpList_store_mid rfl 32 _ _ rfl b0 0 (ab s2 32).toArray rfl rfl HTH.out (inH _) (all_oneCell_toArray (ab_one _ _)) ?_; generalize W3.setCells b0 0 (ab s2 32).toArray.toList = Z at HST HB ⊢)
      exact bodyPost_ret (results_cell_mid Tryd.results15 _ _ b0 (ab s2 32) _ rfl (RowB.range HST.out) Tryd.underlying32 rfl (ilH _)) rfl ⟨by (try unfold hv); rw [HS2.out], by first | exact HB.out | (rw [hb0]; exact HB.out)⟩
    by_cases h1 : n = 1
    · subst h1
      rw [rt_one]
      rcases HLs.out.at_ with h2 | ⟨b, o, rfl, hr⟩
      · omega
      have hr0 := hr 0 (by omega)
      rw [Nat.zero_mul, Nat.add_zero] at hr0
      go_enter Tryd.func15, Tryd.ntmps15
      go_upto_region 1 with fail
      refine wp_world (fun X hX => ?_)
      rw [zeros32] at hX
      obtain ⟨hB, hH⟩ := made_h hX
      clear hX
      obtain ⟨b0, hb0⟩ : ∃ b0, w.heap.size = b0 := ⟨_, rfl⟩
      have HR := hide (range_keep hr0 hB)
      rw [hb0] at hB hH ⊢
      obtain ⟨HTH, HST, HB⟩ := put_h hb0 hH hB (Below.refl _ X) (F 0)
      clear hB hH hr hr0
      generalize hs2 : F 0 = s2 at HTH HST HB HR ⊢
      have HS2 := hide hs2
      clear hs2
      go_upto_region 4 with fail
      go_wp2_with (first
        | refine wpList_load_h rfl _ rfl rfl HR.out ?_
        | (refine wpList_store_mid rfl 32 _ _ rfl b0 0 (ab s2 32).toArray rfl rfl HTH.out (inH _) (all_oneCell_toArray (ab_one _ _)) ?_; generalize X.setCells b0 0 (ab s2 32).toArray.toList = Z at HST HB ⊢))
      exact bodyPost_ret (results_cell_mid Tryd.results15 _ _ b0 (ab s2 32) _ rfl (RowB.range HST.out) Tryd.underlying32 rfl (ilH _)) rfl ⟨by (try unfold hv); rw [HS2.out], by first | exact HB.out | (rw [hb0]; exact HB.out)⟩
    have h2 : 2 ≤ n := by omega
    rcases HLs.out.at_ with h3 | ⟨b, o, rfl, _⟩
    · omega
    have hi0 : ¬ ((n : Int) = 0) := by omega
    have hi1 : ¬ ((n : Int) = 1) := by omega
    have HSp := hide (fun W => refSplit_any W (n := n) (by have := HN.out; omega))
    rw [rt_more F h2]
    have k1 := sp_lt h2
    have k2 := sp_pos h2
    generalize sp n = k at *
    have hkc : k ≤ c := by have := HC.out.1; omega
    have hkn : k ≤ n := by omega
    have hne : ¬ (c = k) := by have := HC.out.1; omega
    have HA := hide (And.intro k1 (show n - k < n by omega))
    have HKk := hide (And.intro k1 k2)
    clear h0 h1 h2 k1 k2
    go_enter Tryd.func15, Tryd.ntmps15
    go_upto_region 1 with fail
    refine wp_world (fun X hX => ?_)
    rw [zeros32] at hX
    obtain ⟨hB, hH⟩ := made_h hX
    clear hX
    obtain ⟨b0, hb0⟩ : ∃ b0, w.heap.size = b0 := ⟨_, rfl⟩
    have HLX := hide (HLs.out.keep hB)
    rw [hb0] at hB hH ⊢
    have HH := hide (And.intro hB hH)
    clear hB hH
    go_upto_region 6 with (go_at_call 14; refine Calls.mono (HSp.out _) ?_; rintro e' w' ⟨rfl, hw⟩; replace hw := hw.symm; subst hw)
    have HB : Hid (Below X.heap.size X X.drew) := Go.Proofs.YteplklbpehkdjaaDoor.K.drew (Below.refl _ X)
    refine wp_region_noPanic ?_
    refine wp_region_held_drew (S := fun _ => True) (by kernel_rfl) trivial (fun hS0 => ?_)
    refine wpAnyH_take (i := 0) (v := .slice (some ⟨b, o, none⟩) n c) rfl (by kernel_rfl) (by kernel_rfl) (by kernel_rfl) (fun _ _ _ h => h) (Or.inl ⟨by rfl, fun w' _ => by go_simp⟩) trivial ?_
    simp only [Act.put, List.getElem_toArray, List.getElem_cons_zero, List.setIfInBounds_toArray, List.set_cons_zero, List.set_cons_succ]
    refine wpAnyH_take (i := 1) (v := .int .i64 (k : Int)) rfl (by kernel_rfl) (by kernel_rfl) (by kernel_rfl) (fun _ _ _ h => h) (Or.inl ⟨by rfl, fun w' _ => by go_simp⟩) trivial ?_
    simp only [Act.put, List.getElem_toArray, List.getElem_cons_zero, List.getElem_cons_succ, List.setIfInBounds_toArray, List.set_cons_zero, List.set_cons_succ]
    refine wpAnyH_take (i := 2) (v := .slice (some ⟨b, o, none⟩) k c) rfl (by kernel_rfl) (by kernel_rfl) (by kernel_rfl) (fun _ _ _ h => h) (Or.inl ⟨by rfl, fun w' _ => by go_simp⟩) trivial ?_
    simp only [Act.put, List.getElem_toArray, List.getElem_cons_zero, List.getElem_cons_succ, List.setIfInBounds_toArray, List.set_cons_zero, List.set_cons_succ]
    refine wpAnyH_take (i := 4) (v := .slice (some ⟨b, o, none⟩) n c) rfl (by kernel_rfl) (by kernel_rfl) (by kernel_rfl) (fun _ _ _ h => h) (Or.inl ⟨by rfl, fun w' _ => by go_simp⟩) trivial ?_
    simp only [Act.put, List.getElem_toArray, List.getElem_cons_zero, List.getElem_cons_succ, List.setIfInBounds_toArray, List.set_cons_zero, List.set_cons_succ]
    refine wpAnyH_take (i := 5) (v := .int .i64 (k : Int)) rfl (by kernel_rfl) (by kernel_rfl) (by kernel_rfl) (fun _ _ _ h => h) (Or.inl ⟨by rfl, fun w' _ => by go_simp⟩) trivial ?_
    simp only [Act.put, List.getElem_toArray, List.getElem_cons_zero, List.getElem_cons_succ, List.setIfInBounds_toArray, List.set_cons_zero, List.set_cons_succ]
    refine wpAnyH_take (i := 6) (v := .slice (some ⟨b, o + k * 32, none⟩) (n - k) (c - k)) rfl (by kernel_rfl) (by kernel_rfl) (by kernel_rfl) (fun _ _ _ h => h) (Or.inl ⟨by rfl, fun w' _ => by go_simp⟩) trivial ?_
    simp only [Act.put, List.getElem_toArray, List.getElem_cons_zero, List.getElem_cons_succ, List.setIfInBounds_toArray, List.set_cons_zero, List.set_cons_succ]
    refine wpAnyH_ready (rs := [3]) (by kernel_rfl) (by simp) (AllReadyH.cons rfl (fun Kt hK => ?_) AllReadyH.nil)
    refine wanted_pos rfl ?_
    refine wp_call (R := fun r w' => r = hv (rt F k) ∧ Below X.heap.size X w') (vs := #[.slice (some ⟨b, o, none⟩) k c]) rfl (by simp only [List.map_toArray, List.map_cons, List.map_nil]; rfl) (by go_simp) (Calls.mono (HIH.out k HA.out.1 ((HLX.out.head k hkn).keep HB.out) hkc HC.out.2 (by have := HN.out; omega)) (fun e w' ⟨he, hb⟩ => ⟨_, he, rfl, K.call HB.out hb⟩)) (fun r W1 ⟨hr, hb⟩ => ?_)
    subst hr
    have HB1 : Hid (Below X.heap.size X W1) := hb
    clear hb
    refine hK.out _ _ trivial (fun _ => ?_)
    clear hK Kt
    simp only [Act.put, List.getElem_toArray, List.getElem_cons_zero, List.getElem_cons_succ, List.setIfInBounds_toArray, List.set_cons_zero, List.set_cons_succ]
    refine wpAnyH_ready (rs := [7]) (by kernel_rfl) (by simp) (AllReadyH.cons rfl (fun Kt hK => ?_) AllReadyH.nil)
    refine wanted_pos rfl ?_
    refine wp_call (R := fun r w' => r = hv (rt (fun i => F (k + i)) (n - k)) ∧ Below X.heap.size X w') (vs := #[.slice (some ⟨b, o + k * 32, none⟩) (n - k) (c - k)]) rfl (by simp only [List.map_toArray, List.map_cons, List.map_nil]; rfl) (by go_simp) (Calls.mono (HIH.out (n - k) HA.out.2 ((HLX.out.tail k).keep HB1.out) (by have := HC.out.1; omega) (by have := HC.out.2; omega) (by have := HN.out; omega)) (fun e w' ⟨he, hb⟩ => ⟨_, he, rfl, K.call HB1.out hb⟩)) (fun r W2 ⟨hr, hb⟩ => ?_)
    subst hr
    have HB2 : Hid (Below X.heap.size X W2) := hb
    clear hb
    refine hK.out _ _ trivial (fun _ => ?_)
    clear hK Kt
    simp only [Act.put, List.getElem_toArray, List.getElem_cons_zero, List.getElem_cons_succ, List.setIfInBounds_toArray, List.set_cons_zero, List.set_cons_succ]
    refine wpAnyH_ready (rs := [8]) (by kernel_rfl) (by simp) (AllReadyH.cons rfl (fun Kt hK => ?_) AllReadyH.nil)
    refine wanted_pos rfl ?_
    refine wp_call (R := fun r w' => r = hv (nd (rt F k) (rt (fun i => F (k + i)) (n - k))) ∧ Below X.heap.size X w') (vs := #[hv (rt F k), hv (rt (fun i => F (k + i)) (n - k))]) rfl (by simp only [List.map_toArray, List.map_cons, List.map_nil]; rfl) (by go_simp) (Calls.mono (refNode_any (rt_lt HLs.out.lt k) (rt_lt (fun i => HLs.out.lt (k + i)) (n - k))) (fun e w' ⟨he, hb⟩ => ⟨_, he, rfl, K.call HB2.out hb⟩)) (fun r W3 ⟨hr, hb⟩ => ?_)
    subst hr
    have HB3 : Hid (Below X.heap.size X W3) := hb
    clear hb
    refine hK.out _ _ trivial (fun _ => ?_)
    clear hK Kt
    simp only [Act.put, List.getElem_toArray, List.getElem_cons_zero, List.getElem_cons_succ, List.setIfInBounds_toArray, List.set_cons_zero, List.set_cons_succ]
    refine wpAnyH_ready (rs := [9]) (by kernel_rfl) (by simp) (AllReadyH.cons rfl (fun Kt hK => ?_) AllReadyH.nil)
    refine wanted_pos rfl ?_
    obtain ⟨HTH, HST, HB9⟩ := put_h hb0 HH.out.2 HH.out.1 HB3.out (nd (rt F k) (rt (fun i => F (k + i)) (n - k)))
    generalize hs2 : nd (rt F k) (rt (fun i => F (k + i)) (n - k)) = s2 at HTH HST HB9 ⊢
    have HS2 := hide hs2
    clear hs2
    refine wp_store_mid 32 _ _ rfl b0 0 (ab s2 32).toArray (by rfl) (by rfl) HTH.out (inH _) (all_oneCell_toArray (ab_one _ _)) (hK.out _ _ trivial (fun _ => ?_))
    clear hK Kt
    generalize W3.setCells b0 0 (ab s2 32).toArray.toList = Z at HST HB9 ⊢
    refine wpAnyH_done (by kernel_rfl) ?_ _
    refine NoPanic.normal ?_
    go_wp2_with fail
    exact bodyPost_ret (results_cell_mid Tryd.results15 _ _ b0 (ab s2 32) _ rfl (RowB.range HST.out) Tryd.underlying32 rfl (ilH _)) rfl ⟨by (try unfold hv); rw [HS2.out], by first | exact HB9.out | (rw [hb0]; exact HB9.out)⟩
/-- Two lists of hashes. -/
theorem refSame_any {w : World} {x y : Option Addr} {n m c d : Nat} {F G : Nat → Nat → Nat} (hx : HL w x n F) (hy : HL w y m G) (hn : n ≤ 1000000) :
    Calls Tryd.prog 11 #[.slice x n c, .slice y m d] w fun e w' => e = .returned (.bool (decide (n = m) && eqL F G n)) ∧ Below w.heap.size w w' := by
  by_cases hnm : n = m
  · subst hnm
    have HX := hide hx
    have HY := hide hy
    clear hx hy
    rw [decide_eq_true rfl, Bool.true_and]
    obtain ⟨V, hV⟩ : ∃ V, V = eqL F G n := ⟨_, rfl⟩
    rw [← hV]
    have HV := hide hV
    clear hV
    go_enter Tryd.func11, Tryd.ntmps11
    go_wp2_with fail
    go_loopg [5] n (fun g s wr => ∃ i : Nat, g = n - i ∧ i ≤ n ∧ s = .int .i64 (i : Int) ∧ (∀ j, j < i → eqB (F j) (G j) 32 = true) ∧ Below w.heap.size w wr)
    case atStart => exact ⟨0, rfl, Nat.zero_le _, rfl, fun j hj => by omega, Below.refl _ _⟩
    case round =>
      obtain ⟨i, rfl, hi, rfl, hA, hB⟩ := hrel
      have HA := hide hA
      have HB := hide hB
      clear hA hB
      by_cases hl : i < n
      · have hw : wrap64 ((i : Int) + 1) = (i : Int) + 1 := by unfold wrap64; omega
        have hq : (i : Int) < (n : Int) := by omega
        obtain ⟨b1, o1, rfl, hr1⟩ : ∃ b o, x = some ⟨b, o, none⟩ ∧ wr.rangeAt b (o + i * 32) (ab (F i) 32) := by
          rcases HX.out.at_ with h5 | ⟨b, o, e, hr⟩
          · omega
          · exact ⟨b, o, e, range_keep (hr i hl) HB.out⟩
        obtain ⟨b2, o2, rfl, hr2⟩ : ∃ b o, y = some ⟨b, o, none⟩ ∧ wr.rangeAt b (o + i * 32) (ab (G i) 32) := by
          rcases HY.out.at_ with h5 | ⟨b, o, e, hr⟩
          · omega
          · exact ⟨b, o, e, range_keep (hr i hl) HB.out⟩
        have HR1 := hide hr1
        have HR2 := hide hr2
        clear hr1 hr2
        have HE := fun w' => eqH (F i) (G i) w'
        cases he : eqB (F i) (G i) 32 with
        | true =>
          have HEt := hide he
          rw [he] at HE
          clear he
          go_upto_region 6 with fail
          refine wp_region_noPanic ?_
          refine wp_region_held_drew (S := fun w' => w'.rangeAt b1 (o1 + i * 32) (ab (F i) 32) ∧ w'.rangeAt b2 (o2 + i * 32) (ab (G i) 32)) (by kernel_rfl) ⟨range_keep HR1.out (Go.Proofs.YteplklbpehkdjaaDoor.K.drew (Below.refl _ _)), range_keep HR2.out (Go.Proofs.YteplklbpehkdjaaDoor.K.drew (Below.refl _ _))⟩ (fun hS0 => ?_)
          refine wpAnyH_take (i := 0) (v := .slice (some ⟨b1, o1, none⟩) n c) rfl (by kernel_rfl) (by kernel_rfl) (by kernel_rfl) (fun _ _ _ h => h) (Or.inl ⟨by rfl, fun w' _ => by go_simp⟩) hS0 ?_
          simp only [Act.put, List.getElem_toArray, List.getElem_cons_zero, List.setIfInBounds_toArray, List.set_cons_zero, List.set_cons_succ]
          refine wpAnyH_take (i := 1) (v := .int .i64 (i : Int)) rfl (by kernel_rfl) (by kernel_rfl) (by kernel_rfl) (fun _ _ _ h => h) (Or.inl ⟨by rfl, fun w' _ => by go_simp⟩) hS0 ?_
          simp only [Act.put, List.getElem_toArray, List.getElem_cons_zero, List.getElem_cons_succ, List.setIfInBounds_toArray, List.set_cons_zero, List.set_cons_succ]
          refine wpAnyH_take (i := 2) (v := .pointer (some ⟨b1, o1 + i * 32, none⟩)) rfl (by kernel_rfl) (by kernel_rfl) (by kernel_rfl) (fun _ _ _ h => h) (Or.inl ⟨by rfl, fun w' _ => by go_simp⟩) hS0 ?_
          simp only [Act.put, List.getElem_toArray, List.getElem_cons_zero, List.getElem_cons_succ, List.setIfInBounds_toArray, List.set_cons_zero, List.set_cons_succ]
          refine wpAnyH_take (i := 3) (v := .agg (ab (F i) 32).toArray) rfl (by kernel_rfl) (by kernel_rfl) (by kernel_rfl) (fun _ _ _ h => h) (yieldsIf_load_mid (by rfl) 32 _ rfl b1 (o1 + i * 32) (by rfl) (ab (F i) 32) _ (fun w' hS => hS.1) Tryd.underlying32 rfl (ilH _)) hS0 ?_
          simp only [Act.put, List.getElem_toArray, List.getElem_cons_zero, List.getElem_cons_succ, List.setIfInBounds_toArray, List.set_cons_zero, List.set_cons_succ]
          refine wpAnyH_take (i := 4) (v := .slice (some ⟨b2, o2, none⟩) n d) rfl (by kernel_rfl) (by kernel_rfl) (by kernel_rfl) (fun _ _ _ h => h) (Or.inl ⟨by rfl, fun w' _ => by go_simp⟩) hS0 ?_
          simp only [Act.put, List.getElem_toArray, List.getElem_cons_zero, List.getElem_cons_succ, List.setIfInBounds_toArray, List.set_cons_zero, List.set_cons_succ]
          refine wpAnyH_take (i := 5) (v := .int .i64 (i : Int)) rfl (by kernel_rfl) (by kernel_rfl) (by kernel_rfl) (fun _ _ _ h => h) (Or.inl ⟨by rfl, fun w' _ => by go_simp⟩) hS0 ?_
          simp only [Act.put, List.getElem_toArray, List.getElem_cons_zero, List.getElem_cons_succ, List.setIfInBounds_toArray, List.set_cons_zero, List.set_cons_succ]
          refine wpAnyH_take (i := 6) (v := .pointer (some ⟨b2, o2 + i * 32, none⟩)) rfl (by kernel_rfl) (by kernel_rfl) (by kernel_rfl) (fun _ _ _ h => h) (Or.inl ⟨by rfl, fun w' _ => by go_simp⟩) hS0 ?_
          simp only [Act.put, List.getElem_toArray, List.getElem_cons_zero, List.getElem_cons_succ, List.setIfInBounds_toArray, List.set_cons_zero, List.set_cons_succ]
          refine wpAnyH_take (i := 7) (v := .agg (ab (G i) 32).toArray) rfl (by kernel_rfl) (by kernel_rfl) (by kernel_rfl) (fun _ _ _ h => h) (yieldsIf_load_mid (by rfl) 32 _ rfl b2 (o2 + i * 32) (by rfl) (ab (G i) 32) _ (fun w' hS => hS.2) Tryd.underlying32 rfl (ilH _)) hS0 ?_
          simp only [Act.put, List.getElem_toArray, List.getElem_cons_zero, List.getElem_cons_succ, List.setIfInBounds_toArray, List.set_cons_zero, List.set_cons_succ]
          refine wpAnyH_take (i := 8) (v := .bool false) rfl (by kernel_rfl) (by kernel_rfl) (by kernel_rfl) (fun _ _ _ h => h) (Or.inl ⟨by rfl, fun w' _ => by have hc := HE w'; go_simp⟩) hS0 ?_
          simp only [Act.put, List.getElem_toArray, List.getElem_cons_zero, List.getElem_cons_succ, List.setIfInBounds_toArray, List.set_cons_zero, List.set_cons_succ]
          refine wpAnyH_done (by kernel_rfl) ?_ _
          refine NoPanic.normal ?_
          go_wp2_with fail
          go_roundg (n - (i + 1))
          case measure => omega
          case rel => exact ⟨i + 1, rfl, by omega, by simp, fun j hj => by
            by_cases hj' : j < i
            · exact HA.out j hj'
            · obtain rfl : j = i := by omega
              exact HEt.out, Go.Proofs.YteplklbpehkdjaaDoor.K.drew HB.out⟩
        | false =>
          have HEf := hide he
          rw [he] at HE
          clear he
          go_upto_region 6 with fail
          refine wp_region_noPanic ?_
          refine wp_region_held_drew (S := fun w' => w'.rangeAt b1 (o1 + i * 32) (ab (F i) 32) ∧ w'.rangeAt b2 (o2 + i * 32) (ab (G i) 32)) (by kernel_rfl) ⟨range_keep HR1.out (Go.Proofs.YteplklbpehkdjaaDoor.K.drew (Below.refl _ _)), range_keep HR2.out (Go.Proofs.YteplklbpehkdjaaDoor.K.drew (Below.refl _ _))⟩ (fun hS0 => ?_)
          refine wpAnyH_take (i := 0) (v := .slice (some ⟨b1, o1, none⟩) n c) rfl (by kernel_rfl) (by kernel_rfl) (by kernel_rfl) (fun _ _ _ h => h) (Or.inl ⟨by rfl, fun w' _ => by go_simp⟩) hS0 ?_
          simp only [Act.put, List.getElem_toArray, List.getElem_cons_zero, List.setIfInBounds_toArray, List.set_cons_zero, List.set_cons_succ]
          refine wpAnyH_take (i := 1) (v := .int .i64 (i : Int)) rfl (by kernel_rfl) (by kernel_rfl) (by kernel_rfl) (fun _ _ _ h => h) (Or.inl ⟨by rfl, fun w' _ => by go_simp⟩) hS0 ?_
          simp only [Act.put, List.getElem_toArray, List.getElem_cons_zero, List.getElem_cons_succ, List.setIfInBounds_toArray, List.set_cons_zero, List.set_cons_succ]
          refine wpAnyH_take (i := 2) (v := .pointer (some ⟨b1, o1 + i * 32, none⟩)) rfl (by kernel_rfl) (by kernel_rfl) (by kernel_rfl) (fun _ _ _ h => h) (Or.inl ⟨by rfl, fun w' _ => by go_simp⟩) hS0 ?_
          simp only [Act.put, List.getElem_toArray, List.getElem_cons_zero, List.getElem_cons_succ, List.setIfInBounds_toArray, List.set_cons_zero, List.set_cons_succ]
          refine wpAnyH_take (i := 3) (v := .agg (ab (F i) 32).toArray) rfl (by kernel_rfl) (by kernel_rfl) (by kernel_rfl) (fun _ _ _ h => h) (yieldsIf_load_mid (by rfl) 32 _ rfl b1 (o1 + i * 32) (by rfl) (ab (F i) 32) _ (fun w' hS => hS.1) Tryd.underlying32 rfl (ilH _)) hS0 ?_
          simp only [Act.put, List.getElem_toArray, List.getElem_cons_zero, List.getElem_cons_succ, List.setIfInBounds_toArray, List.set_cons_zero, List.set_cons_succ]
          refine wpAnyH_take (i := 4) (v := .slice (some ⟨b2, o2, none⟩) n d) rfl (by kernel_rfl) (by kernel_rfl) (by kernel_rfl) (fun _ _ _ h => h) (Or.inl ⟨by rfl, fun w' _ => by go_simp⟩) hS0 ?_
          simp only [Act.put, List.getElem_toArray, List.getElem_cons_zero, List.getElem_cons_succ, List.setIfInBounds_toArray, List.set_cons_zero, List.set_cons_succ]
          refine wpAnyH_take (i := 5) (v := .int .i64 (i : Int)) rfl (by kernel_rfl) (by kernel_rfl) (by kernel_rfl) (fun _ _ _ h => h) (Or.inl ⟨by rfl, fun w' _ => by go_simp⟩) hS0 ?_
          simp only [Act.put, List.getElem_toArray, List.getElem_cons_zero, List.getElem_cons_succ, List.setIfInBounds_toArray, List.set_cons_zero, List.set_cons_succ]
          refine wpAnyH_take (i := 6) (v := .pointer (some ⟨b2, o2 + i * 32, none⟩)) rfl (by kernel_rfl) (by kernel_rfl) (by kernel_rfl) (fun _ _ _ h => h) (Or.inl ⟨by rfl, fun w' _ => by go_simp⟩) hS0 ?_
          simp only [Act.put, List.getElem_toArray, List.getElem_cons_zero, List.getElem_cons_succ, List.setIfInBounds_toArray, List.set_cons_zero, List.set_cons_succ]
          refine wpAnyH_take (i := 7) (v := .agg (ab (G i) 32).toArray) rfl (by kernel_rfl) (by kernel_rfl) (by kernel_rfl) (fun _ _ _ h => h) (yieldsIf_load_mid (by rfl) 32 _ rfl b2 (o2 + i * 32) (by rfl) (ab (G i) 32) _ (fun w' hS => hS.2) Tryd.underlying32 rfl (ilH _)) hS0 ?_
          simp only [Act.put, List.getElem_toArray, List.getElem_cons_zero, List.getElem_cons_succ, List.setIfInBounds_toArray, List.set_cons_zero, List.set_cons_succ]
          refine wpAnyH_take (i := 8) (v := .bool true) rfl (by kernel_rfl) (by kernel_rfl) (by kernel_rfl) (fun _ _ _ h => h) (Or.inl ⟨by rfl, fun w' _ => by have hc := HE w'; go_simp⟩) hS0 ?_
          simp only [Act.put, List.getElem_toArray, List.getElem_cons_zero, List.getElem_cons_succ, List.setIfInBounds_toArray, List.set_cons_zero, List.set_cons_succ]
          refine wpAnyH_done (by kernel_rfl) ?_ _
          refine NoPanic.normal ?_
          go_wp2_with fail
          go_ret
          have hVf : V = false := by
            rw [HV.out]
            refine decide_eq_false (fun hall => ?_)
            have h5 := hall i hl
            rw [HEf.out] at h5
            cases h5
          exact ⟨by rw [hVf]; rfl, Go.Proofs.YteplklbpehkdjaaDoor.K.drew HB.out⟩
      · have hq : ¬ ((i : Int) < (n : Int)) := by omega
        obtain rfl : i = n := by omega
        go_wp2_with fail
        go_ret
        exact ⟨by rw [HV.out]; exact congrArg (fun b => Ending.returned (.bool b)) (decide_eq_true HA.out).symm, HB.out⟩
  · have hq : ¬ ((n : Int) = (m : Int)) := by omega
    rw [decide_eq_false hnm, Bool.false_and]
    go_enter Tryd.func11, Tryd.ntmps11
    go_wp2_with fail
    go_ret
    exact ⟨rfl, Below.refl _ _⟩
end Go.Proofs.YteplklbpehkdjaaDoor
