/- MerkleParts. -/
import Derived.Test.YtpophfeommlajaaDoorL16A
import Derived.Test.YtpophfeommlajaaDoorH16
namespace Go.Proofs.YtpophfeommlajaaDoor
open Go.RowKit
attribute [local go_sem ↓] Go.wp_at_zero Go.wp_at_succ

theorem hcat_zero (F G : Nat → Nat → Nat) : hcat F 0 G = G := by
  funext i
  unfold hcat
  rw [if_neg (by omega), Nat.sub_zero]
/-- A hash is stored in a variable that was just made. -/
theorem store_new {w W X : World} {b : Nat} {f : Nat → Nat} (hb : b = W.heap.size) (hX : X = (W.alloc (.cells (ab (fun _ => 0) 32).toArray 24)).setCells b 0 (ab f 32).toArray.toList) (hB : Below w.heap.size w W) : Below w.heap.size w X ∧ X.rangeAt b 0 (ab f 32) := by
  subst hb
  rw [hX]
  have h3 := RowB.made W 24 32 (fun _ => 0) _ rfl
  exact ⟨below_setCells _ _ (K.alloc hB _) hB.size, RowB.range (RowB.stored h3 f)⟩
set_option maxRecDepth 100000 in
set_option maxHeartbeats 8000000 in
theorem merkleParts_walk {w : World} {x : Option Addr} {n c : Nat} {F : Nat → Nat → Nat} {m : Int} (hT : Tab w) (hx : HL w x n F) (hc : n ≤ c) (hcm : c ≤ maxLen) (h0 : 0 ≤ m) (_h1 : m < 256) :
    Calls Tryd.prog 5 #[.slice x n c, .int .u8 m] w fun e w' => e = .returned (.bool true) ∧ Below w.heap.size w w' := by
  have HT := hide hT
  have HX := hide hx
  have HC := hide (And.intro hc hcm)
  clear hT hx hc hcm
  obtain ⟨e, he⟩ : ∃ e : Nat, m % 7 = (e : Int) := ⟨(m % 7).toNat, by omega⟩
  have he6 : e ≤ 6 := by omega
  have ht : m.tmod 7 = (e : Int) := by rw [Int.tmod_eq_emod_of_nonneg h0]; exact he
  clear h0 he
  obtain ⟨p, hp⟩ : ∃ p : Nat, p = 2 ^ e := ⟨_, rfl⟩
  have hpi : (2 : Int) ^ e = (p : Int) := by rw [hp]; simp
  have hp1 : 1 ≤ p := by rw [hp]; exact Nat.two_pow_pos e
  have hp64 : p ≤ 64 := by rw [hp]; exact Nat.pow_le_pow_right (n := 2) (by omega) he6
  have hw3 : wrap64 (e : Int) = (e : Int) := by unfold wrap64; omega
  have hw4 : wrap64 (p : Int) = (p : Int) := by unfold wrap64; omega
  have hm : min e 64 = e := by omega
  have hneg : ¬ ((e : Int) < 0) := by omega
  have hw5 : wrap64 (2 * (p : Int)) = 2 * (p : Int) := by unfold wrap64; omega
  have HP := hide (And.intro hp (And.intro hp1 hp64))
  clear hp hp1 hp64 he6
  go_enter Tryd.func5, Tryd.ntmps5
  go_upto_region 2 with fail
  by_cases hn : 100 < n
  · have hq : (100 : Int) < (n : Int) := by omega
    clear HP
    go_wp2_with fail
    with_reducible refine Calls.mono (awake_any HT.out) ?_
    rintro e W1 ⟨rfl, hb⟩
    have HB1 := hide hb
    clear hb
    go_wp2_with fail
    with_reducible refine Calls.mono (awake_any (HT.out.keep HB1.out)) ?_
    rintro e W2 ⟨rfl, hb⟩
    have HB2 := hide (K.call HB1.out hb)
    clear hb HB1
    go_wp2_with fail
    go_ret
    exact ⟨rfl, HB2.out⟩
  have hq1 : (n : Int) ≤ 100 := by omega
  by_cases hl : n ≤ p
  · have hq : (n : Int) ≤ (p : Int) := by omega
    clear HP
    go_wp2_with fail
    with_reducible refine Calls.mono (awake_any HT.out) ?_
    rintro e W1 ⟨rfl, hb⟩
    have HB1 := hide hb
    clear hb
    go_wp2_with fail
    with_reducible refine Calls.mono (awake_any (HT.out.keep HB1.out)) ?_
    rintro e W2 ⟨rfl, hb⟩
    have HB2 := hide (K.call HB1.out hb)
    clear hb HB1
    go_wp2_with fail
    go_ret
    exact ⟨rfl, HB2.out⟩
  have hq2 : (p : Int) < (n : Int) := by omega
  by_cases hg : 2 * p < n
  · have hq : 2 * (p : Int) < (n : Int) := by omega
    clear HP
    go_wp2_with fail
    with_reducible refine Calls.mono (awake_any HT.out) ?_
    rintro e W1 ⟨rfl, hb⟩
    have HB1 := hide hb
    clear hb
    go_wp2_with fail
    with_reducible refine Calls.mono (awake_any (HT.out.keep HB1.out)) ?_
    rintro e W2 ⟨rfl, hb⟩
    have HB2 := hide (K.call HB1.out hb)
    clear hb HB1
    go_wp2_with fail
    go_ret
    exact ⟨rfl, HB2.out⟩
  have hq3 : (n : Int) ≤ 2 * (p : Int) := by omega
  have HK := hide (And.intro hn (And.intro hl hg))
  clear hn hl hg
  go_wp2_with fail
  with_reducible refine Calls.mono (awake_any HT.out) ?_
  rintro e W1 ⟨rfl, hb⟩
  have HB1 := hide hb
  clear hb
  rcases HX.out.at_ with h4 | ⟨b, o, rfl, _⟩
  · have := HP.out; omega
  have HX1 := hide (HX.out.keep HB1.out)
  have HO0 := hide (OH.nil W1 W1.heap.size F)
  go_upto_region 5 with fail
  go_upto_region 6 with (at_builtin; refine wpList_appH rfl _ _ rfl rfl HO0.out rfl HX1.out (by have := HK.out; omega) (Nat.le_refl _) ?_; intro v1 W2 hO1 hg1)
  rw [Nat.zero_add, hcat_zero] at hO1
  have hb2 : Below W1.heap.size W1 W2 := OH.below (OH.nil W1 W1.heap.size F) (Below.refl _ _) hg1
  obtain ⟨ao, co, rfl, _, _⟩ := OH.form hO1
  have HW := hide (hO1.hl HX.out.lt)
  have HB2 := hide (K.call HB1.out hb2)
  clear hg1 hO1 hb2 HO0
  have HTr := hide (root_any n (HT.out.keep HB2.out) (HX.out.keep HB2.out) HC.out.1 HC.out.2 (by have := HK.out; omega))
  have hp2 : 2 ^ e < n ∧ n ≤ 2 * 2 ^ e := by rw [← HP.out.1]; have := HK.out; omega
  have hsp : sp n = p := by rw [HP.out.1]; exact sp_of hp2.1 hp2.2
  have hrt := rt_more F (n := n) (by have := HP.out; have := HK.out; omega)
  rw [hsp] at hrt
  obtain ⟨s0, hs0⟩ : ∃ s0, s0 = rt F n := ⟨_, rfl⟩
  unfold hv at HTr
  rw [← hs0] at HTr hrt
  have HSs := hide (And.intro hsp hrt)
  clear hs0 hsp hrt hp2
  go_wp2_with fail
  with_reducible refine Calls.mono HTr.out ?_
  rintro e W3 ⟨rfl, hb⟩
  have HB3 := hide (K.call HB2.out hb)
  have HW3 := hide (HW.out.keep hb)
  clear hb HTr HB2 HW HX1
  have HTH := hide (RowB.there (RowB.made W3 24 32 (fun _ => 0) _ zeros32) s0)
  go_upto_region 7 with (refine wpList_store_mid rfl 24 _ _ rfl W3.heap.size 0 (ab s0 32).toArray rfl rfl HTH.out (inH _) (all_oneCell_toArray (ab_one _ _)) ?_)
  refine wp_world (fun X hX => ?_)
  rw [zeros32] at hX
  obtain ⟨hBX, hRr⟩ := store_new rfl hX (Below.refl _ W3)
  obtain ⟨br, hbr⟩ : ∃ br, br = W3.heap.size := ⟨_, rfl⟩
  rw [← hbr] at hRr ⊢
  have HRr := hide hRr
  have HBX := hide (K.call HB3.out hBX)
  have HWX := hide (HW3.out.keep hBX)
  clear hX hbr hRr hBX HTH HW3 HB3
  have hpn : p ≤ n := by have := HK.out; omega
  have hpc : p ≤ c := by have := HC.out.1; omega
  have hne : ¬ (c = p) := by have := HC.out.1; have := HK.out; omega
  have hnp : n ≤ 100 := by have := HK.out; omega
  have HA1 := hide (fun W (h : Below X.heap.size X W) => root_any p ((HT.out.keep HBX.out).keep h) (((HX.out.head p hpn).keep HBX.out).keep h) hpc HC.out.2 (by omega))
  have HA2 := hide (fun W (h : Below X.heap.size X W) => root_any (n - p) (c := c - p) ((HT.out.keep HBX.out).keep h) (((HX.out.tail p).keep HBX.out).keep h) (by have := HC.out.1; omega) (by have := HC.out.2; omega) (by omega))
  have HNd := hide (fun W (h : Below X.heap.size X W) => node_any ((HT.out.keep HBX.out).keep h) (rt_lt HX.out.lt p) (rt_lt (fun i => HX.out.lt (p + i)) (n - p)))
  have HSm := hide (fun W (h : Below X.heap.size X W) => refSame_any (c := co) (d := c) (HWX.out.keep h) ((HX.out.keep HBX.out).keep h) (by omega))
  rw [decide_eq_true rfl, eqL_same, Bool.true_and] at HSm
  have HSp := hide (fun W => split_any W (k := (n : Int)) (by omega) (by omega))
  rw [Int.toNat_natCast, HSs.out.1] at HSp
  rw [← HSs.out.2] at HNd
  have HE := hide (fun W => eqH_same s0 W)
  unfold hv at HA1 HA2 HNd
  generalize rt F p = s1 at HA1 HNd
  generalize rt (fun i => F (p + i)) (n - p) = s2 at HA2 HNd
  clear hnp
  go_upto_region 7 with fail
  refine wp_region_noPanic ?_
  refine wp_region_held_drew (S := fun w' => Below X.heap.size X w') (by kernel_rfl) (Go.Proofs.YtpophfeommlajaaDoor.K.drew (Below.refl _ X)) (fun hS0 => ?_)
  refine wpAnyH_take (i := 0) (v := .agg (ab s0 32).toArray) rfl (by kernel_rfl) (by kernel_rfl) (by kernel_rfl) (fun _ _ _ h => h) (yieldsIf_load_mid (by rfl) 24 _ rfl br 0 (by rfl) (ab s0 32) _ (fun w' hS => range_keep HRr.out hS) Tryd.underlying24 rfl (ilH _)) hS0 ?_
  simp only [Act.put, List.getElem_toArray, List.getElem_cons_zero, List.setIfInBounds_toArray, List.set_cons_zero, List.set_cons_succ]
  refine wpAnyH_take (i := 1) (v := .slice (some ⟨b, o, none⟩) n c) rfl (by kernel_rfl) (by kernel_rfl) (by kernel_rfl) (fun _ _ _ h => h) (Or.inl ⟨by rfl, fun w' _ => by go_simp⟩) hS0 ?_
  simp only [Act.put, List.getElem_toArray, List.setIfInBounds_toArray]
  refine wpAnyH_take (i := 2) (v := .int .i64 (p : Int)) rfl (by kernel_rfl) (by kernel_rfl) (by kernel_rfl) (fun _ _ _ h => h) (Or.inl ⟨by rfl, fun w' _ => by go_simp⟩) hS0 ?_
  simp only [Act.put, List.getElem_toArray, List.getElem_cons_zero, List.getElem_cons_succ, List.setIfInBounds_toArray, List.set_cons_zero, List.set_cons_succ]
  refine wpAnyH_take (i := 3) (v := .slice (some ⟨b, o, none⟩) p c) rfl (by kernel_rfl) (by kernel_rfl) (by kernel_rfl) (fun _ _ _ h => h) (Or.inl ⟨by rfl, fun w' _ => by go_simp⟩) hS0 ?_
  simp only [Act.put, List.getElem_toArray, List.getElem_cons_zero, List.getElem_cons_succ, List.setIfInBounds_toArray, List.set_cons_zero, List.set_cons_succ]
  refine wpAnyH_take (i := 5) (v := .slice (some ⟨b, o, none⟩) n c) rfl (by kernel_rfl) (by kernel_rfl) (by kernel_rfl) (fun _ _ _ h => h) (Or.inl ⟨by rfl, fun w' _ => by go_simp⟩) hS0 ?_
  simp only [Act.put, List.getElem_toArray, List.getElem_cons_zero, List.getElem_cons_succ, List.setIfInBounds_toArray, List.set_cons_zero, List.set_cons_succ]
  refine wpAnyH_take (i := 6) (v := .int .i64 (p : Int)) rfl (by kernel_rfl) (by kernel_rfl) (by kernel_rfl) (fun _ _ _ h => h) (Or.inl ⟨by rfl, fun w' _ => by go_simp⟩) hS0 ?_
  simp only [Act.put, List.getElem_toArray, List.getElem_cons_zero, List.getElem_cons_succ, List.setIfInBounds_toArray, List.set_cons_zero, List.set_cons_succ]
  refine wpAnyH_take (i := 7) (v := .slice (some ⟨b, o + p * 32, none⟩) (n - p) (c - p)) rfl (by kernel_rfl) (by kernel_rfl) (by kernel_rfl) (fun _ _ _ h => h) (Or.inl ⟨by rfl, fun w' _ => by go_simp⟩) hS0 ?_
  simp only [Act.put, List.getElem_toArray, List.getElem_cons_zero, List.getElem_cons_succ, List.setIfInBounds_toArray, List.set_cons_zero, List.set_cons_succ]
  refine wpAnyH_ready (rs := [4]) (by kernel_rfl) (by simp) (AllReadyH.cons rfl (fun Kt hK => ?_) AllReadyH.nil)
  refine wanted_pos rfl ?_
  refine wp_call (R := fun r w' => r = .agg (ab s1 32).toArray ∧ Below X.heap.size X w') (vs := #[.slice (some ⟨b, o, none⟩) p c]) rfl (by simp only [List.map_toArray, List.map_cons, List.map_nil]; rfl) (by go_simp) (Calls.mono (HA1.out _ hS0) (fun e w' ⟨he, hb⟩ => ⟨_, he, rfl, K.call hS0 hb⟩)) (fun r W1 ⟨hr, hb⟩ => ?_)
  subst hr
  refine hK.out _ _ hb (fun hS1 => ?_)
  clear hK Kt hb
  simp only [Act.put, List.getElem_toArray, List.getElem_cons_zero, List.getElem_cons_succ, List.setIfInBounds_toArray, List.set_cons_zero, List.set_cons_succ]
  refine wpAnyH_ready (rs := [8]) (by kernel_rfl) (by simp) (AllReadyH.cons rfl (fun Kt hK => ?_) AllReadyH.nil)
  refine wanted_pos rfl ?_
  refine wp_call (R := fun r w' => r = .agg (ab s2 32).toArray ∧ Below X.heap.size X w') (vs := #[.slice (some ⟨b, o + p * 32, none⟩) (n - p) (c - p)]) rfl (by simp only [List.map_toArray, List.map_cons, List.map_nil]; rfl) (by go_simp) (Calls.mono (HA2.out _ hS1) (fun e w' ⟨he, hb⟩ => ⟨_, he, rfl, K.call hS1 hb⟩)) (fun r W2 ⟨hr, hb⟩ => ?_)
  subst hr
  refine hK.out _ _ hb (fun hS2 => ?_)
  clear hK Kt hb
  simp only [Act.put, List.getElem_toArray, List.getElem_cons_zero, List.getElem_cons_succ, List.setIfInBounds_toArray, List.set_cons_zero, List.set_cons_succ]
  refine wpAnyH_ready (rs := [9]) (by kernel_rfl) (by simp) (AllReadyH.cons rfl (fun Kt hK => ?_) AllReadyH.nil)
  refine wanted_pos rfl ?_
  refine wp_call (R := fun r w' => r = .agg (ab s0 32).toArray ∧ Below X.heap.size X w') (vs := #[.agg (ab s1 32).toArray, .agg (ab s2 32).toArray]) rfl (by simp only [List.map_toArray, List.map_cons, List.map_nil]; rfl) (by go_simp) (Calls.mono (HNd.out _ hS2) (fun e w' ⟨he, hb⟩ => ⟨_, he, rfl, K.call hS2 hb⟩)) (fun r W3 ⟨hr, hb⟩ => ?_)
  subst hr
  refine hK.out _ _ hb (fun hS3 => ?_)
  clear hK Kt hb
  simp only [Act.put, List.getElem_toArray, List.getElem_cons_zero, List.getElem_cons_succ, List.setIfInBounds_toArray, List.set_cons_zero, List.set_cons_succ]
  refine wpAnyH_take (i := 10) (v := .bool true) rfl (by kernel_rfl) (by kernel_rfl) (by kernel_rfl) (fun _ _ _ h => h) (yieldsIf_eqH (by rfl) (ab s0 32).toArray (ab s0 32).toArray true rfl (by rfl) (by rfl) HE.out) hS3 ?_
  simp only [Act.put, List.getElem_toArray, List.getElem_cons_zero, List.getElem_cons_succ, List.setIfInBounds_toArray, List.set_cons_zero, List.set_cons_succ]
  refine wpAnyH_take (i := 11) (v := .bool true) rfl (by kernel_rfl) (by kernel_rfl) (by kernel_rfl) (fun _ _ _ h => h) (Or.inl ⟨by rfl, fun w' _ => by go_simp⟩) hS3 ?_
  simp only [Act.put, List.getElem_toArray, List.getElem_cons_zero, List.getElem_cons_succ, List.setIfInBounds_toArray, List.set_cons_zero, List.set_cons_succ]
  refine wpAnyH_take (i := 12) (v := .slice ao n co) rfl (by kernel_rfl) (by kernel_rfl) (by kernel_rfl) (fun _ _ _ h => h) (Or.inl ⟨by rfl, fun w' _ => by go_simp⟩) hS3 ?_
  simp only [Act.put, List.getElem_toArray, List.getElem_cons_zero, List.getElem_cons_succ, List.setIfInBounds_toArray, List.set_cons_zero, List.set_cons_succ]
  refine wpAnyH_take (i := 13) (v := .slice (some ⟨b, o, none⟩) n c) rfl (by kernel_rfl) (by kernel_rfl) (by kernel_rfl) (fun _ _ _ h => h) (Or.inl ⟨by rfl, fun w' _ => by go_simp⟩) hS3 ?_
  simp only [Act.put, List.getElem_toArray, List.getElem_cons_zero, List.getElem_cons_succ, List.setIfInBounds_toArray, List.set_cons_zero, List.set_cons_succ]
  refine wpAnyH_ready (rs := [14]) (by kernel_rfl) (by simp) (AllReadyH.cons rfl (fun Kt hK => ?_) AllReadyH.nil)
  refine wanted_pos rfl ?_
  refine wp_call (R := fun r w' => r = .bool true ∧ Below X.heap.size X w') (vs := #[.slice ao n co, .slice (some ⟨b, o, none⟩) n c]) rfl (by simp only [List.map_toArray, List.map_cons, List.map_nil]; rfl) (by go_simp) (Calls.mono (HSm.out _ hS3) (fun e w' ⟨he, hb⟩ => ⟨_, he, rfl, K.call hS3 hb⟩)) (fun r W4 ⟨hr, hb⟩ => ?_)
  subst hr
  refine hK.out _ _ hb (fun hS4 => ?_)
  clear hK Kt hb
  simp only [Act.put, List.getElem_toArray, List.getElem_cons_zero, List.getElem_cons_succ, List.setIfInBounds_toArray, List.set_cons_zero, List.set_cons_succ]
  refine wpAnyH_take (i := 15) (v := .bool true) rfl (by kernel_rfl) (by kernel_rfl) (by kernel_rfl) (fun _ _ _ h => h) (Or.inl ⟨by rfl, fun w' _ => by go_simp⟩) hS4 ?_
  simp only [Act.put, List.getElem_toArray, List.getElem_cons_zero, List.getElem_cons_succ, List.setIfInBounds_toArray, List.set_cons_zero, List.set_cons_succ]
  refine wpAnyH_take (i := 16) (v := .bool true) rfl (by kernel_rfl) (by kernel_rfl) (by kernel_rfl) (fun _ _ _ h => h) (Or.inl ⟨by rfl, fun w' _ => by go_simp⟩) hS4 ?_
  simp only [Act.put, List.getElem_toArray, List.getElem_cons_zero, List.getElem_cons_succ, List.setIfInBounds_toArray, List.set_cons_zero, List.set_cons_succ]
  refine wpAnyH_take (i := 17) (v := .slice (some ⟨b, o, none⟩) n c) rfl (by kernel_rfl) (by kernel_rfl) (by kernel_rfl) (fun _ _ _ h => h) (Or.inl ⟨by rfl, fun w' _ => by go_simp⟩) hS4 ?_
  simp only [Act.put, List.getElem_toArray, List.getElem_cons_zero, List.getElem_cons_succ, List.setIfInBounds_toArray, List.set_cons_zero, List.set_cons_succ]
  refine wpAnyH_take (i := 18) (v := .int .i64 (n : Int)) rfl (by kernel_rfl) (by kernel_rfl) (by kernel_rfl) (fun _ _ _ h => h) (Or.inl ⟨by rfl, fun w' _ => by go_simp⟩) hS4 ?_
  simp only [Act.put, List.getElem_toArray, List.getElem_cons_zero, List.getElem_cons_succ, List.setIfInBounds_toArray, List.set_cons_zero, List.set_cons_succ]
  refine wpAnyH_take (i := 20) (v := .int .i64 (p : Int)) rfl (by kernel_rfl) (by kernel_rfl) (by kernel_rfl) (fun _ _ _ h => h) (Or.inl ⟨by rfl, fun w' _ => by go_simp⟩) hS4 ?_
  simp only [Act.put, List.getElem_toArray, List.getElem_cons_zero, List.getElem_cons_succ, List.setIfInBounds_toArray, List.set_cons_zero, List.set_cons_succ]
  refine wpAnyH_ready (rs := [19]) (by kernel_rfl) (by simp) (AllReadyH.cons rfl (fun Kt hK => ?_) AllReadyH.nil)
  refine wanted_pos rfl ?_
  refine wp_call (R := fun r w' => r = .int .i64 (p : Int) ∧ Below X.heap.size X w') (vs := #[.int .i64 (n : Int)]) rfl (by simp only [List.map_toArray, List.map_cons, List.map_nil]; rfl) (by go_simp) (Calls.mono (HSp.out _) (fun e w' ⟨he, hw⟩ => ⟨_, he, rfl, by rw [hw]; exact hS4⟩)) (fun r W5 ⟨hr, hb⟩ => ?_)
  subst hr
  refine hK.out _ _ hb (fun hS5 => ?_)
  clear hK Kt hb
  simp only [Act.put, List.getElem_toArray, List.getElem_cons_zero, List.getElem_cons_succ, List.setIfInBounds_toArray, List.set_cons_zero, List.set_cons_succ]
  refine wpAnyH_take (i := 21) (v := .bool true) rfl (by kernel_rfl) (by kernel_rfl) (by kernel_rfl) (fun _ _ _ h => h) (Or.inl ⟨by rfl, fun w' _ => by go_simp⟩) hS5 ?_
  simp only [Act.put, List.getElem_toArray, List.getElem_cons_zero, List.getElem_cons_succ, List.setIfInBounds_toArray, List.set_cons_zero, List.set_cons_succ]
  refine wpAnyH_take (i := 22) (v := .bool true) rfl (by kernel_rfl) (by kernel_rfl) (by kernel_rfl) (fun _ _ _ h => h) (Or.inl ⟨by rfl, fun w' _ => by go_simp⟩) hS5 ?_
  simp only [Act.put, List.getElem_toArray, List.getElem_cons_zero, List.getElem_cons_succ, List.setIfInBounds_toArray, List.set_cons_zero, List.set_cons_succ]
  refine wpAnyH_take (i := 23) (v := .bool true) rfl (by kernel_rfl) (by kernel_rfl) (by kernel_rfl) (fun _ _ _ h => h) (Or.inl ⟨by rfl, fun w' _ => by go_simp⟩) hS5 ?_
  simp only [Act.put, List.getElem_toArray, List.getElem_cons_zero, List.getElem_cons_succ, List.setIfInBounds_toArray, List.set_cons_zero, List.set_cons_succ]
  refine wpAnyH_done (by kernel_rfl) ?_ _
  refine NoPanic.normal ?_
  go_wp2_with fail
  go_ret
  exact ⟨rfl, K.call HBX.out hS5⟩
end Go.Proofs.YtpophfeommlajaaDoor
