/- Layer 19's laws: awake. CheckRight. How the parameters, and the program's two tables, are read before the call. How parameters of hashes, and of lists of hashes, are read before the call. Layer 19's laws: lists of one's own in a region that draws its order. Layer 19's laws: rows of cells in variables of one's own; what is claimed. -/
import Derived.Test.YtkpkkjcfodjifaaDoorMB13
import Derived.Test.YtkpkkjcfodjifaaDoorMB12
import Derived.Test.YtkpkkjcfodjifaaDoorMB05
import Derived.Test.YtkpkkjcfodjifaaDoorMB11
import Derived.Test.YtkpkkjcfodjifaaDoorTie
import Derived.Test.YtkpkkjcfodjifaaDoorCards
import Derived.ProofKit
import Derived.LaidMore
import Derived.MakeChecks
import Derived.Lib.LaidTab
import Derived.Stop.LaidErr
import Derived.Laws.IdiomArrays
import Derived.OpenShut
import Derived.Carry
import Derived.ChangeMaps5
import Derived.Stop.Joined
import Derived.Deep.Grids
import Derived.Deep.Slices
import Derived.Great.BuildSlice
namespace Go.Proofs.YtkpkkjcfodjifaaDoor
set_option maxRecDepth 100000
open Go.RowKit
attribute [local go_sem ↓] Go.wp_at_zero Go.wp_at_succ

set_option maxRecDepth 100000 in
set_option maxHeartbeats 8000000 in
theorem awake_any {w : World} (hT : Tab w) : Calls Tryd.prog 8 #[] w fun e w' => e = .returned (.bool true) ∧ Below w.heap.size w w' := by
  have HT := hide hT
  clear hT
  have HP := hide (checkPath_any (m := 0) (n := 1) (f := hk 5) (g := hk 5) HT.out (hl_nil w) (Nat.le_refl 0) (by unfold maxLen; omega) (by omega) (by omega) (hk_lt (by omega)) (hk_lt (by omega)))
  rw [show rv (lF []) 0 = [] from rfl, ckP_one, eqB_refl] at HP
  unfold hv at HP
  go_enter Tryd.func8, Tryd.ntmps8
  go_wp2_with (first
    | (refine wpList_hk5 (by rfl) rfl ?_; simp only [Act.put, List.setIfInBounds_toArray, List.set_cons_zero, List.set_cons_succ])
    | (go_at_call 10; (with_reducible refine Calls.mono HP.out ?_); rintro e W2 ⟨rfl, hb⟩; have HB := hide hb; clear hb))
  go_ret
  exact ⟨rfl, HB.out⟩
end Go.Proofs.YtkpkkjcfodjifaaDoor
namespace Go.Proofs.YtkpkkjcfodjifaaDoor
set_option maxRecDepth 100000
open Go.RowKit
attribute [local go_sem ↓] Go.wp_at_zero Go.wp_at_succ

theorem Vs.of {w W : World} (h : Below w.heap.size w W) : Vs w W [] := ⟨h, (fun _ h => by cases h), List.nodup_nil⟩
theorem wrap_s' {j s : Nat} (h : j ≤ 1000) (e : j + 1 = s) : wrap64 ((j : Int) + 1) = (s : Int) := by subst e; unfold wrap64; omega
theorem wrap_t' {j s : Nat} (h : j ≤ 1000) (e : j + 1 = s) : IntKind.i64.wrap ((j : Int) + 1) = (s : Int) := by subst e; rw [IntKind.wrap_i64]; omega
set_option maxRecDepth 100000 in
set_option maxHeartbeats 16000000 in
theorem checkRight_walk {w : World} {z : Option Addr} {n c : Nat} {F : Nat → Nat → Nat} {m : Int} (hT : TabZ w) (hx : HL w z n F) (hc : n ≤ c) (hcm : c ≤ maxLen) (hm0 : 0 ≤ m) (hm1 : m < 256) :
    Calls Tryd.prog 5 #[.slice z n c, .int .u8 m] w fun e w' => e = .returned (.bool true) ∧ Below w.heap.size w w' := by
  have HT := hide hT
  have HX := hide hx
  have HC := hide (And.intro hc hcm)
  clear hT hx hc hcm
  by_cases hn : n ≤ 60
  · have hq : (n : Int) ≤ 60 := by omega
    by_cases h0 : n = 0
    · subst h0
      clear hm0 hm1
      go_enter Tryd.func5, Tryd.ntmps5
      go_upto_region 2 with (go_at_call 8; refine Calls.mono (awake_any HT.out.tab) ?_; rintro e W1 ⟨rfl, hb⟩; have HB1 := hide hb; clear hb)
      go_wp2_with (go_at_call 8; refine Calls.mono (awake_any (HT.out.keep HB1.out).tab) ?_; rintro e W2 ⟨rfl, hb⟩; have HB2 := hide (Go.Proofs.YtkpkkjcfodjifaaDoor.K.call HB1.out hb); clear hb)
      go_ret
      exact ⟨rfl, HB2.out⟩
    · obtain ⟨i, hi, hin⟩ := mod_n' hm0 (show 0 < n by omega)
      have hb0 : ((n : Int) == 0) = false := beq_eq_false_iff_ne.2 (by omega)
      obtain ⟨s, hs⟩ : ∃ s, i + 1 = s := ⟨_, rfl⟩
      have hi9 : i ≤ 1000 := by omega
      have hsn : s ≤ n := by omega
      have hs1 : 1 ≤ s := by omega
      have hiI : (i : Int) < (n : Int) := by omega
      have hsI : (s : Int) ≤ (n : Int) := by omega
      have hsC : (s : Int) ≤ (c : Int) := by have := HC.out.1; omega
      have hcn : ¬ (c = 0) := by have := HC.out.1; omega
      have HN := hide (And.intro hn (And.intro hin (And.intro hs1 hsn)))
      have e1 : ckP (i : Int) (n : Int) (F i) (pth F n i).reverse (rt F n) = true := ckP_right F hin
      have e2 : ckT (s : Int) (n : Int) (rt F s) (prf F n s true).reverse (rt F n) = true := ckT_right F hs1 hsn
      obtain ⟨t, ht⟩ : ∃ t, F i = t := ⟨_, rfl⟩
      obtain ⟨rr, hrr⟩ : ∃ r, rt F n = r := ⟨_, rfl⟩
      obtain ⟨r2, hr2⟩ : ∃ r, rt F s = r := ⟨_, rfl⟩
      have htl : ∀ j, t j < 256 := by rw [← ht]; exact HX.out.lt i
      have hrl : ∀ j, rr j < 256 := by rw [← hrr]; exact rt_lt HX.out.lt n
      have hr2l : ∀ j, r2 j < 256 := by rw [← hr2]; exact rt_lt HX.out.lt s
      have hro := fun W (h : Below w.heap.size w W) => refRoot_any n (c := c) (HX.out.keep h) HC.out.1 HC.out.2 (by omega)
      have hro2 := fun W (h : Below w.heap.size w W) => refRoot_any s (c := c) ((HX.out.keep h).head s hsn) (by have := HC.out.1; omega) HC.out.2 (by omega)
      have hpa := fun W (h : Below w.heap.size w W) => refPath_any (n := n) (c := c) (m := i) (HX.out.keep h) HC.out.1 HC.out.2 (by omega) hin
      have hpr := fun W (h : Below w.heap.size w W) => refProof_any (n := n) (c := c) (m := s) (HX.out.keep h) HC.out.1 HC.out.2 (by omega) ⟨hs1, hsn⟩
      obtain ⟨LA, hLA⟩ : ∃ L, pth F n i = L := ⟨_, rfl⟩
      obtain ⟨LB, hLB⟩ : ∃ L, prf F n s true = L := ⟨_, rfl⟩
      have hlA : ∀ f ∈ LA, ∀ j, f j < 256 := by rw [← hLA]; exact pth_lt n i HX.out.lt
      have hlB : ∀ f ∈ LB, ∀ j, f j < 256 := by rw [← hLB]; exact prf_lt n s true HX.out.lt
      have hnA : LA.length ≤ 100000 := by rw [← hLA]; exact Nat.le_trans (pth_len_n n i F) (by omega)
      have hnB : LB.length ≤ 100000 := by rw [← hLB]; exact Nat.le_trans (prf_len_n n s true F) (by omega)
      rw [ht, hLA, hrr] at e1
      rw [hr2, hLB, hrr] at e2
      unfold hv at hro hro2
      rw [hrr] at hro
      rw [hr2] at hro2
      rw [hLA] at hpa
      rw [hLB] at hpr
      rcases HX.out.at_ with h5 | ⟨bz, oz, rfl, _⟩
      · exact absurd h5 h0
      have hRi : w.rangeAt bz (oz + i * 32) (ab t 32) := by rw [← ht]; exact HX.out.rangeA hin
      have HE := hide (And.intro e1 e2)
      have HRo1 := hide hro
      have HRo2 := hide hro2
      have HPt := hide hpa
      have HPf := hide hpr
      have HL2 := hide (And.intro hlA hlB)
      have HN2 := hide (And.intro hnA hnB)
      have HRz := hide hRi
      have Htl := hide (And.intro htl (And.intro hrl hr2l))
      have hwn := wrap_n' hi9
      have hws := wrap_s' hi9 hs
      have hwt := wrap_t' hi9 hs
      have hi2 : (wrap64 m).tmod (n : Int) = (i : Int) := by rw [wrap_m' hm0 hm1]; exact hi
      clear hi hm0 hm1 hin hn hs hs1 hsn e1 e2 htl hrl hr2l hro hro2 hpa hpr hlA hlB hnA hnB hRi ht hrr hr2 hLA hLB hi9
      go_enter Tryd.func5, Tryd.ntmps5
      go_upto_region 3 with (go_at_call 8; refine Calls.mono (awake_any HT.out.tab) ?_; rintro e W1 ⟨rfl, hb⟩; have HB1 := hide hb; clear hb)
      go_upto_region 4 with fail
      clear hi2 hwn
      go_upto_region 5 with (first
        | (refine HV2.out.listPut (b := x6) 0 rfl rfl rfl rfl rfl (fun W4 hv => ?_); have HV4 : Hid (Vs w W4 [(x6, rr)]) := hide hv; clear HV2 hv)
        | (refine HV1.out.listNew rfl rfl (fun x6 W3 hv hb => ?_); have HV2 := hide hv; clear HV1 hv hb)
        | (go_at_call 14; (with_reducible refine Calls.mono (HRo1.out _ HB1.out) ?_); rintro e W2 ⟨rfl, hb⟩; have HV1 := hide (Vs.of (Go.Proofs.YtkpkkjcfodjifaaDoor.K.call HB1.out hb)); clear hb))
      go_upto_region 6 with (go_at_call 15; (with_reducible refine Calls.mono (HPt.out _ HV4.out.k) ?_); rintro e W5 hp; obtain ⟨a3, c3, rfl, h3, hq3, hb3⟩ := hp.out HL2.out.1; obtain ⟨_, _, he3, hc3, hm3⟩ := hq3.form; cases he3; have HA5 := hide (And.intro h3 (And.intro hc3 hm3)); have HV5 := hide (HV4.out.keep hb3); clear h3 hb3 hp hc3 hm3 hq3)
      go_upto_region 7 with (go_at_call 16; (with_reducible refine Calls.mono (HPf.out _ HV5.out.k) ?_); rintro e W6 hp; obtain ⟨a4, c4, rfl, h4, hq4, hb4⟩ := hp.out HL2.out.2; obtain ⟨_, _, he4, hc4, hm4⟩ := hq4.form; cases he4; have HB4 := hide (And.intro h4 (And.intro hc4 hm4)); have HA6 := hide (HA5.out.1.keep hb4); have HV6 := hide (HV5.out.keep hb4); clear h4 hb4 hp hc4 hm4 hq4)
      have HB6 := hide HV6.out.k
      have HRi := hide (range_keep HRz.out HB6.out)
      have HRr := hide (HV6.out.rg 0 rfl)
      have HTX := hide (HT.out.keep HB6.out)
      have hPa := fun W (h : Below W6.heap.size W6 W) => checkPath_any (w := W) (m := (i : Int)) (n := (n : Int)) (f := t) (g := rr) (c := c3) (HTX.out.keep h).tab (HA6.out.keep h) HA5.out.2.1 HA5.out.2.2 HN2.out.1 (by have := HN.out.1; omega) Htl.out.1 Htl.out.2.1
      have hPb := fun W (h : Below W6.heap.size W6 W) => checkProof_any (w := W) (m := (s : Int)) (n := (n : Int)) (f := r2) (g := rr) (c := c4) (HTX.out.keep h) (HB4.out.1.keep h) HB4.out.2.1 HB4.out.2.2 HN2.out.2 (by have := HN.out.1; omega) Htl.out.2.2 Htl.out.2.1
      have hRo := fun W (h : Below W6.heap.size W6 W) => HRo2.out W (Go.Proofs.YtkpkkjcfodjifaaDoor.K.call HB6.out h)
      rw [rv_all, HE.out.1] at hPa
      rw [rv_all, HE.out.2] at hPb
      unfold hv at hPa hPb
      have HPa := hide hPa
      have HPb := hide hPb
      have HRo := hide hRo
      clear hPa hPb hRo
      refine wp_region_noPanic ?_
      refine wp_region_held_drew (S := fun w' => Below W6.heap.size W6 w') (by kernel_rfl) (Go.Proofs.YtkpkkjcfodjifaaDoor.K.drew (Below.refl _ W6)) (fun hS0 => ?_)
      refine wpAnyH_take (i := 0) (v := .int .i64 (i : Int)) rfl (by kernel_rfl) (by kernel_rfl) (by kernel_rfl) (fun _ _ _ h => h) (Or.inl ⟨by rfl, fun w' _ => by go_simp⟩) hS0 ?_
      simp only [Act.put, List.getElem_toArray, List.getElem_cons_zero, List.setIfInBounds_toArray, List.set_cons_zero, List.set_cons_succ]
      refine wpAnyH_take (i := 1) (v := .slice (some ⟨bz, oz, none⟩) n c) rfl (by kernel_rfl) (by kernel_rfl) (by kernel_rfl) (fun _ _ _ h => h) (Or.inl ⟨by rfl, fun w' _ => by go_simp⟩) hS0 ?_
      simp only [Act.put, List.getElem_toArray, List.getElem_cons_zero, List.getElem_cons_succ, List.setIfInBounds_toArray, List.set_cons_zero, List.set_cons_succ]
      refine wpAnyH_take (i := 2) (v := .int .i64 (n : Int)) rfl (by kernel_rfl) (by kernel_rfl) (by kernel_rfl) (fun _ _ _ h => h) (Or.inl ⟨by rfl, fun w' _ => by go_simp⟩) hS0 ?_
      simp only [Act.put, List.getElem_toArray, List.getElem_cons_zero, List.getElem_cons_succ, List.setIfInBounds_toArray, List.set_cons_zero, List.set_cons_succ]
      refine wpAnyH_take (i := 3) (v := .slice (some ⟨bz, oz, none⟩) n c) rfl (by kernel_rfl) (by kernel_rfl) (by kernel_rfl) (fun _ _ _ h => h) (Or.inl ⟨by rfl, fun w' _ => by go_simp⟩) hS0 ?_
      simp only [Act.put, List.getElem_toArray, List.getElem_cons_zero, List.getElem_cons_succ, List.setIfInBounds_toArray, List.set_cons_zero, List.set_cons_succ]
      refine wpAnyH_take (i := 4) (v := .int .i64 (i : Int)) rfl (by kernel_rfl) (by kernel_rfl) (by kernel_rfl) (fun _ _ _ h => h) (Or.inl ⟨by rfl, fun w' _ => by go_simp⟩) hS0 ?_
      simp only [Act.put, List.getElem_toArray, List.getElem_cons_zero, List.getElem_cons_succ, List.setIfInBounds_toArray, List.set_cons_zero, List.set_cons_succ]
      refine wpAnyH_take (i := 5) (v := .pointer (some ⟨bz, oz + i * 32, none⟩)) rfl (by kernel_rfl) (by kernel_rfl) (by kernel_rfl) (fun _ _ _ h => h) (Or.inl ⟨by rfl, fun w' _ => by go_simp⟩) hS0 ?_
      simp only [Act.put, List.getElem_toArray, List.getElem_cons_zero, List.getElem_cons_succ, List.setIfInBounds_toArray, List.set_cons_zero, List.set_cons_succ]
      refine wpAnyH_take (i := 6) (v := .agg (ab t 32).toArray) rfl (by kernel_rfl) (by kernel_rfl) (by kernel_rfl) (fun _ _ _ h => h) (yieldsIf_load_mid (by rfl) 23 _ rfl bz (oz + i * 32) (by rfl) (ab t 32) _ (fun w' hS => range_keep HRi.out hS) Tryd.underlying23 rfl (ilH _)) hS0 ?_
      simp only [Act.put, List.getElem_toArray, List.getElem_cons_zero, List.getElem_cons_succ, List.setIfInBounds_toArray, List.set_cons_zero, List.set_cons_succ]
      refine wpAnyH_take (i := 7) (v := .slice a3 LA.length c3) rfl (by kernel_rfl) (by kernel_rfl) (by kernel_rfl) (fun _ _ _ h => h) (Or.inl ⟨by rfl, fun w' _ => by go_simp⟩) hS0 ?_
      simp only [Act.put, List.getElem_toArray, List.getElem_cons_zero, List.getElem_cons_succ, List.setIfInBounds_toArray, List.set_cons_zero, List.set_cons_succ]
      refine wpAnyH_take (i := 8) (v := .agg (ab rr 32).toArray) rfl (by kernel_rfl) (by kernel_rfl) (by kernel_rfl) (fun _ _ _ h => h) (yieldsIf_load_mid (by rfl) 23 _ rfl x6 0 (by rfl) (ab rr 32) _ (fun w' hS => range_keep HRr.out hS) Tryd.underlying23 rfl (ilH _)) hS0 ?_
      simp only [Act.put, List.getElem_toArray, List.getElem_cons_zero, List.getElem_cons_succ, List.setIfInBounds_toArray, List.set_cons_zero, List.set_cons_succ]
      refine wpAnyH_ready (rs := [9]) (by kernel_rfl) (by simp) (AllReadyH.cons rfl (fun Kt hK => ?_) AllReadyH.nil)
      refine wanted_pos rfl ?_
      refine wp_call (R := fun r w' => r = .bool true ∧ Below W6.heap.size W6 w') (vs := #[.int .i64 (i : Int), .int .i64 (n : Int), .agg (ab t 32).toArray, .slice a3 LA.length c3, .agg (ab rr 32).toArray]) rfl (by simp only [List.map_toArray, List.map_cons, List.map_nil]; rfl) (by go_simp) (Calls.mono (HPa.out _ hS0) (fun e w' ⟨he, hb⟩ => ⟨_, he, rfl, K.call hS0 hb⟩)) (fun r W1 ⟨hr, hb⟩ => ?_)
      subst hr
      refine hK.out _ _ hb (fun hS1 => ?_)
      clear hK Kt hb
      simp only [Act.put, List.getElem_toArray, List.getElem_cons_zero, List.getElem_cons_succ, List.setIfInBounds_toArray, List.set_cons_zero, List.set_cons_succ]
      refine wpAnyH_take (i := 10) (v := .bool true) rfl (by kernel_rfl) (by kernel_rfl) (by kernel_rfl) (fun _ _ _ h => h) (Or.inl ⟨by rfl, fun w' _ => by go_simp⟩) hS1 ?_
      simp only [Act.put, List.getElem_toArray, List.getElem_cons_zero, List.getElem_cons_succ, List.setIfInBounds_toArray, List.set_cons_zero, List.set_cons_succ]
      refine wpAnyH_take (i := 11) (v := .int .i64 (i : Int)) rfl (by kernel_rfl) (by kernel_rfl) (by kernel_rfl) (fun _ _ _ h => h) (Or.inl ⟨by rfl, fun w' _ => by go_simp⟩) hS1 ?_
      simp only [Act.put, List.getElem_toArray, List.getElem_cons_zero, List.getElem_cons_succ, List.setIfInBounds_toArray, List.set_cons_zero, List.set_cons_succ]
      refine wpAnyH_take (i := 12) (v := .int .i64 (s : Int)) rfl (by kernel_rfl) (by kernel_rfl) (by kernel_rfl) (fun _ _ _ h => h) (Or.inl ⟨by rfl, fun w' _ => by go_simp⟩) hS1 ?_
      simp only [Act.put, List.getElem_toArray, List.getElem_cons_zero, List.getElem_cons_succ, List.setIfInBounds_toArray, List.set_cons_zero, List.set_cons_succ]
      refine wpAnyH_take (i := 13) (v := .slice (some ⟨bz, oz, none⟩) n c) rfl (by kernel_rfl) (by kernel_rfl) (by kernel_rfl) (fun _ _ _ h => h) (Or.inl ⟨by rfl, fun w' _ => by go_simp⟩) hS1 ?_
      simp only [Act.put, List.getElem_toArray, List.getElem_cons_zero, List.getElem_cons_succ, List.setIfInBounds_toArray, List.set_cons_zero, List.set_cons_succ]
      refine wpAnyH_take (i := 14) (v := .int .i64 (n : Int)) rfl (by kernel_rfl) (by kernel_rfl) (by kernel_rfl) (fun _ _ _ h => h) (Or.inl ⟨by rfl, fun w' _ => by go_simp⟩) hS1 ?_
      simp only [Act.put, List.getElem_toArray, List.getElem_cons_zero, List.getElem_cons_succ, List.setIfInBounds_toArray, List.set_cons_zero, List.set_cons_succ]
      refine wpAnyH_take (i := 15) (v := .slice (some ⟨bz, oz, none⟩) n c) rfl (by kernel_rfl) (by kernel_rfl) (by kernel_rfl) (fun _ _ _ h => h) (Or.inl ⟨by rfl, fun w' _ => by go_simp⟩) hS1 ?_
      simp only [Act.put, List.getElem_toArray, List.getElem_cons_zero, List.getElem_cons_succ, List.setIfInBounds_toArray, List.set_cons_zero, List.set_cons_succ]
      refine wpAnyH_take (i := 16) (v := .int .i64 (i : Int)) rfl (by kernel_rfl) (by kernel_rfl) (by kernel_rfl) (fun _ _ _ h => h) (Or.inl ⟨by rfl, fun w' _ => by go_simp⟩) hS1 ?_
      simp only [Act.put, List.getElem_toArray, List.getElem_cons_zero, List.getElem_cons_succ, List.setIfInBounds_toArray, List.set_cons_zero, List.set_cons_succ]
      refine wpAnyH_take (i := 17) (v := .int .i64 (s : Int)) rfl (by kernel_rfl) (by kernel_rfl) (by kernel_rfl) (fun _ _ _ h => h) (Or.inl ⟨by rfl, fun w' _ => by go_simp⟩) hS1 ?_
      simp only [Act.put, List.getElem_toArray, List.getElem_cons_zero, List.getElem_cons_succ, List.setIfInBounds_toArray, List.set_cons_zero, List.set_cons_succ]
      refine wpAnyH_take (i := 18) (v := .slice (some ⟨bz, oz, none⟩) s c) rfl (by kernel_rfl) (by kernel_rfl) (by kernel_rfl) (fun _ _ _ h => h) (Or.inl ⟨by rfl, fun w' _ => by go_simp⟩) hS1 ?_
      simp only [Act.put, List.getElem_toArray, List.getElem_cons_zero, List.getElem_cons_succ, List.setIfInBounds_toArray, List.set_cons_zero, List.set_cons_succ]
      refine wpAnyH_take (i := 20) (v := .slice a4 LB.length c4) rfl (by kernel_rfl) (by kernel_rfl) (by kernel_rfl) (fun _ _ _ h => h) (Or.inl ⟨by rfl, fun w' _ => by go_simp⟩) hS1 ?_
      simp only [Act.put, List.getElem_toArray, List.getElem_cons_zero, List.getElem_cons_succ, List.setIfInBounds_toArray, List.set_cons_zero, List.set_cons_succ]
      refine wpAnyH_take (i := 21) (v := .agg (ab rr 32).toArray) rfl (by kernel_rfl) (by kernel_rfl) (by kernel_rfl) (fun _ _ _ h => h) (yieldsIf_load_mid (by rfl) 23 _ rfl x6 0 (by rfl) (ab rr 32) _ (fun w' hS => range_keep HRr.out hS) Tryd.underlying23 rfl (ilH _)) hS1 ?_
      simp only [Act.put, List.getElem_toArray, List.getElem_cons_zero, List.getElem_cons_succ, List.setIfInBounds_toArray, List.set_cons_zero, List.set_cons_succ]
      refine wpAnyH_ready (rs := [19]) (by kernel_rfl) (by simp) (AllReadyH.cons rfl (fun Kt hK => ?_) AllReadyH.nil)
      refine wanted_pos rfl ?_
      refine wp_call (R := fun r w' => r = .agg (ab r2 32).toArray ∧ Below W6.heap.size W6 w') (vs := #[.slice (some ⟨bz, oz, none⟩) s c]) rfl (by simp only [List.map_toArray, List.map_cons, List.map_nil]; rfl) (by go_simp) (Calls.mono (HRo.out _ hS1) (fun e w' ⟨he, hb⟩ => ⟨_, he, rfl, K.call hS1 hb⟩)) (fun r W2 ⟨hr, hb⟩ => ?_)
      subst hr
      refine hK.out _ _ hb (fun hS2 => ?_)
      clear hK Kt hb
      simp only [Act.put, List.getElem_toArray, List.getElem_cons_zero, List.getElem_cons_succ, List.setIfInBounds_toArray, List.set_cons_zero, List.set_cons_succ]
      refine wpAnyH_ready (rs := [22]) (by kernel_rfl) (by simp) (AllReadyH.cons rfl (fun Kt hK => ?_) AllReadyH.nil)
      refine wanted_pos rfl ?_
      refine wp_call (R := fun r w' => r = .bool true ∧ Below W6.heap.size W6 w') (vs := #[.int .i64 (s : Int), .int .i64 (n : Int), .agg (ab r2 32).toArray, .slice a4 LB.length c4, .agg (ab rr 32).toArray]) rfl (by simp only [List.map_toArray, List.map_cons, List.map_nil]; rfl) (by go_simp) (Calls.mono (HPb.out _ hS2) (fun e w' ⟨he, hb⟩ => ⟨_, he, rfl, K.call hS2 hb⟩)) (fun r W3 ⟨hr, hb⟩ => ?_)
      subst hr
      refine hK.out _ _ hb (fun hS3 => ?_)
      clear hK Kt hb
      simp only [Act.put, List.getElem_toArray, List.getElem_cons_zero, List.getElem_cons_succ, List.setIfInBounds_toArray, List.set_cons_zero, List.set_cons_succ]
      refine wpAnyH_take (i := 23) (v := .bool true) rfl (by kernel_rfl) (by kernel_rfl) (by kernel_rfl) (fun _ _ _ h => h) (Or.inl ⟨by rfl, fun w' _ => by go_simp⟩) hS3 ?_
      simp only [Act.put, List.getElem_toArray, List.getElem_cons_zero, List.getElem_cons_succ, List.setIfInBounds_toArray, List.set_cons_zero, List.set_cons_succ]
      refine wpAnyH_take (i := 24) (v := .bool true) rfl (by kernel_rfl) (by kernel_rfl) (by kernel_rfl) (fun _ _ _ h => h) (Or.inl ⟨by rfl, fun w' _ => by go_simp⟩) hS3 ?_
      simp only [Act.put, List.getElem_toArray, List.getElem_cons_zero, List.getElem_cons_succ, List.setIfInBounds_toArray, List.set_cons_zero, List.set_cons_succ]
      refine wpAnyH_done (by kernel_rfl) ?_ _
      refine NoPanic.normal ?_
      go_wp2_with fail
      go_ret
      exact ⟨rfl, Go.Proofs.YtkpkkjcfodjifaaDoor.K.call HB6.out hS3⟩
  · have hq : (60 : Int) < (n : Int) := by omega
    clear hn hm0 hm1
    go_enter Tryd.func5, Tryd.ntmps5
    go_upto_region 2 with (go_at_call 8; refine Calls.mono (awake_any HT.out.tab) ?_; rintro e W1 ⟨rfl, hb⟩; have HB1 := hide hb; clear hb)
    go_wp2_with (go_at_call 8; refine Calls.mono (awake_any (HT.out.keep HB1.out).tab) ?_; rintro e W2 ⟨rfl, hb⟩; have HB2 := hide (Go.Proofs.YtkpkkjcfodjifaaDoor.K.call HB1.out hb); clear hb)
    go_ret
    exact ⟨rfl, HB2.out⟩
end Go.Proofs.YtkpkkjcfodjifaaDoor
namespace Go.Proofs.YtkpkkjcfodjifaaDoor
set_option maxRecDepth 100000
open Go.ChangeShapes Go.WideShapes Go.ChangeAt Go.RowKit

theorem own : ownKnob Tryd.prog.godebug = none := by kernel_rfl
theorem Tryd.laidOut : laidOutB Tryd.prog = true := by kernel_rfl
theorem cellsU8 : Tryd.prog.cellsOf 5 = 1 := by kernel_rfl
theorem cellsU32 : Tryd.prog.cellsOf 37 = 1 := by kernel_rfl
theorem cellsSt : Tryd.prog.cellsOf 65 = 8 := by kernel_rfl
theorem cellsW64 : Tryd.prog.cellsOf 72 = 64 := by kernel_rfl
theorem u8_of_wf {x : Int} (h : (Lit.int .u8 x).wf = true) : 0 ≤ x ∧ x < 256 := by
  simp [Lit.wf, IntKind.min, IntKind.max, IntKind.signed, IntKind.bits] at h
  exact ⟨by omega, by omega⟩
theorem gFirst : Tryd.prog.globalNamed "chronicle/sha256.first" = some 2 := by kernel_rfl
theorem tFirst : (Tryd.prog.globals[2]?).map (·.type) = some 65 := by kernel_rfl
theorem gK : Tryd.prog.globalNamed "chronicle/sha256.constants" = some 3 := by kernel_rfl
theorem tK : (Tryd.prog.globals[3]?).map (·.type) = some 72 := by kernel_rfl
def laid2 : List (String × DataW Unit) := [("chronicle/sha256.first", Rows.laid_chronicle_sha256_first), ("chronicle/sha256.constants", Rows.laid_chronicle_sha256_constants)]
theorem cellsA64 : Tryd.prog.cellsOf 66 = 64 := by kernel_rfl
theorem gBits : Tryd.prog.globalNamed "math/bits.deBruijn64tab" = some 1 := by kernel_rfl
theorem tBits : (Tryd.prog.globals[1]?).map (·.type) = some 66 := by kernel_rfl
def laid4 : List (String × DataW Unit) := [("math/bits.deBruijn32tab", Rows.laid_math_bits_deBruijn32tab), ("math/bits.deBruijn64tab", Rows.laid_math_bits_deBruijn64tab), ("chronicle/sha256.first", Rows.laid_chronicle_sha256_first), ("chronicle/sha256.constants", Rows.laid_chronicle_sha256_constants)]
theorem bits_at : ∀ i, i < 64 → ([0, 1, 56, 2, 57, 49, 28, 3, 61, 58, 42, 50, 38, 29, 17, 4, 62, 47, 59, 36, 45, 43, 51, 22, 53, 39, 33, 30, 24, 18, 12, 5, 63, 55, 48, 27, 60, 41, 37, 16, 46, 35, 44, 21, 52, 32, 23, 11, 54, 26, 40, 15, 34, 20, 31, 10, 25, 14, 19, 9, 13, 8, 7, 6] : List Int).getD i 0 = ((Lib.deBruijn64tab.getD i 0 : Nat) : Int) := by decide +kernel
theorem first_at : ∀ i, i < 8 → ([1779033703, 3144134277, 1013904242, 2773480762, 1359893119, 2600822924, 528734635, 1541459225] : List Int).getD i 0 = wn (start.w i) := by decide +kernel
theorem k_at : ∀ i, i < 64 → ([1116352408, 1899447441, 3049323471, 3921009573, 961987163, 1508970993, 2453635748, 2870763221, 3624381080, 310598401, 607225278, 1426881987, 1925078388, 2162078206, 2614888103, 3248222580, 3835390401, 4022224774, 264347078, 604807628, 770255983, 1249150122, 1555081692, 1996064986, 2554220882, 2821834349, 2952996808, 3210313671, 3336571891, 3584528711, 113926993, 338241895, 666307205, 773529912, 1294757372, 1396182291, 1695183700, 1986661051, 2177026350, 2456956037, 2730485921, 2820302411, 3259730800, 3345764771, 3516065817, 3600352804, 4094571909, 275423344, 430227734, 506948616, 659060556, 883997877, 958139571, 1322822218, 1537002063, 1747873779, 1955562222, 2024104815, 2227730452, 2361852424, 2428436474, 2756734187, 3204031479, 3329325298] : List Int).getD i 0 = wn (kW i) := by decide +kernel
theorem tab_of_plain {W : World} (h : laidMet Tryd.prog laid2 W) : Tab W := by
  have h2 := h.tail
  have hf : Lib.TabIs Tryd.prog W "chronicle/sha256.first" .u32 [1779033703, 3144134277, 1013904242, 2773480762, 1359893119, 2600822924, 528734635, 1541459225] := Lib.tabIs_of_head (rest := [("chronicle/sha256.constants", Rows.laid_chronicle_sha256_constants)]) gFirst tFirst Tryd.underlying65 Tryd.underlying37 cellsU32 cellsSt h
  have hk : Lib.TabIs Tryd.prog W "chronicle/sha256.constants" .u32 [1116352408, 1899447441, 3049323471, 3921009573, 961987163, 1508970993, 2453635748, 2870763221, 3624381080, 310598401, 607225278, 1426881987, 1925078388, 2162078206, 2614888103, 3248222580, 3835390401, 4022224774, 264347078, 604807628, 770255983, 1249150122, 1555081692, 1996064986, 2554220882, 2821834349, 2952996808, 3210313671, 3336571891, 3584528711, 113926993, 338241895, 666307205, 773529912, 1294757372, 1396182291, 1695183700, 1986661051, 2177026350, 2456956037, 2730485921, 2820302411, 3259730800, 3345764771, 3516065817, 3600352804, 4094571909, 275423344, 430227734, 506948616, 659060556, 883997877, 958139571, 1322822218, 1537002063, 1747873779, 1955562222, 2024104815, 2227730452, 2361852424, 2428436474, 2756734187, 3204031479, 3329325298] := Lib.tabIs_of_head (rest := []) gK tK Tryd.underlying72 Tryd.underlying37 cellsU32 cellsW64 h2
  exact ⟨fun i hi => by rw [← first_at i hi]; exact hf.cell gFirst i hi, fun i hi => by rw [← k_at i hi]; exact hk.cell gK i hi⟩
theorem tabZ_of_laid {W : World} (h : laidMetH Tryd.prog laid4 W) : TabZ W := by
  rw [MakeChecks.laidMetH_plain _ _ _ (by kernel_rfl)] at h
  have h1 := h.tail
  have hb : Lib.TabIs Tryd.prog W "math/bits.deBruijn64tab" .u8 [0, 1, 56, 2, 57, 49, 28, 3, 61, 58, 42, 50, 38, 29, 17, 4, 62, 47, 59, 36, 45, 43, 51, 22, 53, 39, 33, 30, 24, 18, 12, 5, 63, 55, 48, 27, 60, 41, 37, 16, 46, 35, 44, 21, 52, 32, 23, 11, 54, 26, 40, 15, 34, 20, 31, 10, 25, 14, 19, 9, 13, 8, 7, 6] := Lib.tabIs_of_head (rest := laid2) gBits tBits Tryd.underlying66 Tryd.underlying5 cellsU8 cellsA64 h1
  exact ⟨tab_of_plain h1.tail, fun i hi => by rw [← bits_at i hi]; exact hb.cell gBits i hi⟩
theorem door_met4 (os : Os) (args : Array Value) : laidMetH Tryd.prog laid4 ((World.doorLaid Tryd.prog 200 os).forCall (fun _ _ => 0) ⟨#[], args, []⟩).memory :=
  laidMetH_of_parts3 (fuel := 8) (laidMet_of_run' 8 (by kernel_rfl) (by kernel_rfl)) (by kernel_rfl) (by kernel_rfl)
end Go.Proofs.YtkpkkjcfodjifaaDoor
namespace Go.Proofs.YtkpkkjcfodjifaaDoor
set_option maxRecDepth 100000
open Go.ChangeShapes Go.WideShapes Go.ChangeAt Go.RowKit

theorem u32_of_wf {x : Int} (h : (Lit.int .u32 x).wf = true) : 0 ≤ x ∧ x < 4294967296 := by
  simp [Lit.wf, IntKind.min, IntKind.max, IntKind.signed, IntKind.bits] at h
  exact ⟨by omega, by omega⟩
theorem cellsHash : Tryd.prog.cellsOf 23 = 32 := by kernel_rfl
theorem hash_cells {H : Type} {enc : TypeId × Value → H} {W : World} {fuel : Nat} {l : List Value} {y : DataW H × List MemPlace} (hl : l.length = 32)
    (hf : DataW.trod enc Tryd.prog W 0 (fun _ => true) true fuel 23 l = some y) : ∃ f : Nat → Nat, (∀ i, f i < 256) ∧ l = ab f 32 := by
  obtain ⟨xs, m, _, _, _, hxl, hat⟩ := DataW.trod_array Tryd.underlying23 hf
  have key : ∀ i, i < 32 → ∃ n : Nat, l[i]? = some (.int .u8 ((n : Nat) : Int)) ∧ n < 256 := fun i hi => by
    have h1 := hat i hi
    rw [cellsU8, Nat.mul_one, List.getElem?_eq_getElem (by omega)] at h1
    obtain ⟨n, e1, _, hw⟩ := DataW.trod_int Tryd.underlying5 h1
    have hb := u8_of_wf hw
    have e2 : (l.drop i).take 1 = [.int .u8 n] := e1
    have e3 : ((l.drop i).take 1)[0]? = some (.int .u8 n) := by rw [e2]; rfl
    rw [List.getElem?_take_of_lt (by decide), List.getElem?_drop, Nat.add_zero] at e3
    exact ⟨n.toNat, by rw [e3, Int.toNat_of_nonneg hb.1], by omega⟩
  obtain ⟨F, hF⟩ : ∃ F : Nat → Nat, ∀ i, F i < 256 ∧ (i < 32 → l[i]? = some (.int .u8 ((F i : Nat) : Int))) := by
    refine ⟨fun i => if hi : i < 32 then (key i hi).choose else 0, fun i => ?_⟩
    by_cases hi : i < 32
    · simp only [hi, dite_true, forall_const]
      exact ⟨(key i hi).choose_spec.2, (key i hi).choose_spec.1⟩
    · simp [hi]
  refine ⟨F, fun i => (hF i).1, ?_⟩
  apply List.ext_getElem?
  intro i
  rcases Nat.lt_or_ge i 32 with hi | hi
  · rw [(hF i).2 hi, ab_at F hi]
  · rw [List.getElem?_eq_none (by omega), List.getElem?_eq_none (by rw [ab_len]; exact hi)]
/-- A parameter of 32 bytes. -/
theorem open_hash {H : Type} {enc : TypeId × Value → H} {W : World} {base : Nat} {v : Value} {d : DataW H} {p : List MemPlace}
    (hv0 : Value.okWide Tryd.prog W .any base 23 v) (h : DataW.Trod enc Tryd.prog W 0 (fun _ => true) true 23 v d p) :
    ∃ f : Nat → Nat, v = hv f ∧ ∀ i, f i < 256 := by
  obtain ⟨cs, rfl, hsz, _⟩ : ∃ cs, v = .agg cs ∧ cs.size = Tryd.prog.cellsOf 23 ∧ Row.okWide Tryd.prog W .any base 23 cs := by
    simpa [Value.okWide, Tryd.underlying23] using hv0
  rw [cellsHash] at hsz
  obtain ⟨l⟩ := cs
  obtain ⟨fuel, hf⟩ := h
  obtain ⟨f, hf1, hf2⟩ := hash_cells (l := l) (by simpa using hsz) hf
  exact ⟨f, by unfold hv; rw [hf2], hf1⟩
/-- A parameter that is a list of hashes. -/
theorem open_hashes {H : Type} {enc : TypeId × Value → H} {W : World} {base : Nat} {v : Value} {d : DataW H} {p : List MemPlace}
    (hv0 : Value.okWide Tryd.prog W .any base 24 v) (h : DataW.Trod enc Tryd.prog W 0 (fun _ => true) true 24 v d p) :
    ∃ z n c F, v = .slice z n c ∧ HL W z n F ∧ n ≤ c ∧ c ≤ maxLen := by
  obtain ⟨a0, len0, cap0, rfl⟩ := okWide_slice Tryd.underlying24 hv0
  obtain ⟨fuel, hf⟩ := h
  rcases Go.Deep.open_slice Tryd.underlying24 hf with ⟨hcs, _⟩ | ⟨a, len, cap, m, n, D, Pl, hcs, _, hl, hmx, hm, _, hx⟩
  · simp [Value.cells] at hcs
    exact ⟨none, 0, 0, fun _ _ => 0, by rw [hcs.1, hcs.2.1, hcs.2.2], ⟨fun _ _ => by omega, Or.inl rfl⟩, Nat.le_refl _, by unfold maxLen; omega⟩
  · simp [Value.cells] at hcs
    obtain ⟨rfl, rfl, rfl⟩ := hcs
    simp only [if_true] at hm
    subst hm
    rw [cellsHash] at hx
    have key : ∀ i, i < m → ∃ f : Nat → Nat, W.cells? 0 (a.add (i * 32)) 32 = some (ab f 32) ∧ ∀ j, f j < 256 := fun i hi => by
      obtain ⟨cs', h1, h2⟩ := hx i hi
      obtain ⟨_, hlen, _⟩ := World.cells?_some h1
      obtain ⟨f, hf1, rfl⟩ := hash_cells hlen h2
      exact ⟨f, h1, hf1⟩
    have hI : Inhabited (Nat → Nat) := ⟨fun _ => 0⟩
    obtain ⟨O, hO⟩ := Go.Deep.choose_lt key
    refine ⟨some a, len0, _, fun i => if i < m then O i else fun _ => 0, rfl, ⟨fun i j => ?_, ?_⟩, hl, hmx⟩
    · by_cases h : i < m
      · show (if i < m then O i else fun _ => 0) j < 256
        rw [if_pos h]
        exact (hO i h).2 j
      · show (if i < m then O i else fun _ => 0) j < 256
        rw [if_neg h]
        omega
    by_cases h0 : len0 = 0
    · exact Or.inl h0
    · right
      obtain ⟨b, off, spot⟩ := a
      have hc : ∀ i j, i < len0 → j < 32 → W.cell? (((⟨b, off, spot⟩ : Addr).add (i * 32)).add j) = (ab (O i) 32)[j]? := fun i j hi hj => (World.cells?_some (hO i (by omega)).1).2.2 j hj
      have hspot : spot = none := by
        have h1 : W.cell? (((⟨b, off, spot⟩ : Addr).add (0 * 32)).add 0) = some (.int .u8 ((O 0 0 : Nat) : Int)) := (hc 0 0 (by omega) (by omega)).trans (ab_at _ (by omega))
        simpa [Addr.add] using World.cell?_spot h1
      subst hspot
      refine ⟨b, off, rfl, fun i hi j v hv => ?_⟩
      have hi' : i < m := by omega
      simp only [hi', if_true] at hv
      have hj : j < 32 := by
        have := (List.getElem?_eq_some_iff.1 hv).1
        rwa [ab_len] at this
      have := hc i j hi hj
      rw [Addr.add_mid, Addr.add_mid] at this
      rw [this]
      exact hv
end Go.Proofs.YtkpkkjcfodjifaaDoor
namespace Go.Proofs.YtkpkkjcfodjifaaDoor
set_option maxRecDepth 100000
open Go.RowKit
attribute [local go_sem ↓] Go.wp_at_zero Go.wp_at_succ

theorem wp_emptyP {op : Oper} {a : Act} {w : World} {Kt : Act → World → Prop} {Q : Exit → Act → World → Prop} {base : Nat} {F : Nat → Nat → Nat} (ho : op.op = .buildSlice 24 0 #[]) (hbase : base ≤ w.heap.size)
    (h : ∀ p W', p = w.heap.size → p < W'.heap.size → OH W' base (.slice (some ⟨p, 0, none⟩) 0 0) 0 F → Below w.heap.size w W' → Kt (a.put op.dst (.slice (some ⟨p, 0, none⟩) 0 0)) W') : Oper.wp Tryd.prog op a w Kt Q := by
  have h' := h w.heap.size (w.alloc (.cells #[] 23)) rfl (by simp) (OH.empty w base hbase F) (Go.Proofs.YtkpkkjcfodjifaaDoor.K.alloc (Below.refl _ _) _)
  unfold Oper.wp execOp
  simp only [ho, List.map_toArray, List.map_nil]
  go_simp
  exact h'
theorem wp_oneP {op : Oper} {a : Act} {w : World} {Kt : Act → World → Prop} {Q : Exit → Act → World → Prop} {x : Operand} {f : Nat → Nat} (ho : op.op = .buildSlice 24 1 #[(0, x)]) (hx : a.eval x = .agg (ab f 32).toArray) (hf : ∀ i, f i < 256)
    (h : ∀ p W', p = w.heap.size → p < W'.heap.size → HL W' (some ⟨p, 0, none⟩) 1 (fun _ => f) → Below w.heap.size w W' → Kt (a.put op.dst (.slice (some ⟨p, 0, none⟩) 1 1)) W') : Oper.wp Tryd.prog op a w Kt Q := by
  obtain ⟨ie, hi, hz, hs, _⟩ := info_parts infoHv
  refine wp_buildSlice 24 23 1 #[(0, x)] ho (ab f 32).toArray ie _ Tryd.underlying24 hi hz (by rw [hs]; decide) (by rw [hs]; decide) ?_ (h w.heap.size _ rfl (by simp) (hl_one w f hf) (Go.Proofs.YtkpkkjcfodjifaaDoor.K.alloc (Below.refl _ _) _))
  rw [hs]
  simp only [List.map_toArray, List.map_cons, List.map_nil, hx]
  exact fillH f _ rfl
theorem HL.grown9 {w w' : World} {q n : Nat} {F : Nat → Nat → Nat} {row : Option Nat} (h : HL w (some ⟨q, 0, none⟩) n F) (hq : q < w.heap.size) (hg : w.grownBy w' row) (hne : row = some q → False) : HL w' (some ⟨q, 0, none⟩) n F :=
  ⟨h.lt, h.at_.imp id fun ⟨b, o, e, hr⟩ => ⟨b, o, e, fun i hi j v hv => by
    cases e
    rw [World.cell?_of_block (w := w) (hg.block q hq (fun e => hne e.symm))]
    exact hr i hi j v hv⟩⟩
theorem pth_pos {n m : Nat} (F : Nat → Nat → Nat) (h : 2 ≤ n) : 1 ≤ (pth F n m).length := by
  by_cases hk : m < sp n
  · rw [pth_low F h hk, List.length_append, List.length_singleton]; omega
  · rw [pth_up F h hk, List.length_append, List.length_singleton]; omega
end Go.Proofs.YtkpkkjcfodjifaaDoor
namespace Go.Proofs.YtkpkkjcfodjifaaDoor
set_option maxRecDepth 100000
open Go.RowKit
attribute [local go_sem ↓] Go.wp_at_zero Go.wp_at_succ

/-- A variable's cells. -/
structure RowC (W : World) (b : Nat) (cs : List Value) : Prop where
  lt : b < W.heap.size
  c : W.rangeAt b 0 cs
  z : ∀ j, j < cs.length → W.frozen? ⟨b, j, none⟩ = false
theorem RowC.made (w : World) (t : TypeId) (cs : List Value) : RowC (w.alloc (.cells cs.toArray t)) w.heap.size cs := by
  refine ⟨by simp, fun j v hv => ?_, fun j hj => frozen_of_row _ _ _ _ _ (heap_alloc_new w _)⟩
  rw [cell_of_row _ _ _ _ _ _ (heap_alloc_new w _), Nat.zero_add]
  simpa using hv
theorem RowC.keep {W W' : World} {b : Nat} {cs : List Value} (h : RowC W b cs) (hb : Below W.heap.size W W') : RowC W' b cs :=
  ⟨Nat.lt_of_lt_of_le h.lt hb.size, range_keep h.c hb, fun j hj => by rw [World.frozen?_of_block (hb.block b h.lt)]; exact h.z j hj⟩
theorem RowC.apart {W : World} {b g : Nat} {cs : List Value} (h : RowC W b cs) (hg : b ≠ g) (o : Nat) (vs : List Value) : RowC (W.setCells g o vs) b cs :=
  ⟨by rw [size_setCells]; exact h.lt, World.rangeAt_setCells_apart h.c g o vs (Or.inl hg), fun j hj => by rw [World.frozen?_setCells]; exact h.z j hj⟩
/-- Some cells are put anew. -/
def ov (cs : List Value) (o : Nat) (vs : List Value) : List Value := cs.take o ++ (vs ++ cs.drop (o + vs.length))
theorem range_app {W : World} {b o : Nat} {A B : List Value} (hA : W.rangeAt b o A) (hB : W.rangeAt b (o + A.length) B) : W.rangeAt b o (A ++ B) := fun j v hv => by
  rcases Nat.lt_or_ge j A.length with h | h
  · rw [List.getElem?_append_left h] at hv
    exact hA j v hv
  · rw [List.getElem?_append_right h] at hv
    have := hB (j - A.length) v hv
    rwa [show o + A.length + (j - A.length) = o + j by omega] at this
theorem range_take {W : World} {b : Nat} {A : List Value} (h : W.rangeAt b 0 A) (o : Nat) : W.rangeAt b 0 (A.take o) := fun j v hv => by
  rw [List.getElem?_take] at hv
  split at hv
  · exact h j v hv
  · cases hv
theorem range_drop {W : World} {b : Nat} {A : List Value} (h : W.rangeAt b 0 A) (o : Nat) : W.rangeAt b o (A.drop o) := fun j v hv => by
  rw [List.getElem?_drop] at hv
  have := h (o + j) v hv
  rwa [Nat.zero_add] at this
theorem RowC.there {W : World} {b : Nat} {cs : List Value} (h : RowC W b cs) (o n : Nat) (hn : o + n ≤ cs.length) : W.there b o n := fun j hj => by
  have h1 := h.c (o + j) _ (List.getElem?_eq_getElem (by omega))
  rw [Nat.zero_add] at h1
  exact ⟨by rw [h1]; rfl, h.z _ (by omega)⟩
theorem RowC.put {W : World} {b : Nat} {cs : List Value} (h : RowC W b cs) (o : Nat) (vs : List Value) (hn : o + vs.length ≤ cs.length) : RowC (W.setCells b o vs) b (ov cs o vs) := by
  refine ⟨by rw [size_setCells]; exact h.lt, ?_, fun j hj => ?_⟩
  · have ho : (cs.take o).length = o := by rw [List.length_take]; omega
    refine range_app (World.rangeAt_setCells_apart (range_take h.c o) b o vs (Or.inr (Or.inl (by rw [ho]; omega)))) (range_app ?_ ?_)
    · rw [ho, Nat.zero_add]
      exact World.rangeAt_setCells_same W b o vs (h.there o _ hn)
    · rw [ho, Nat.zero_add]
      exact World.rangeAt_setCells_apart (range_drop h.c _) b o vs (Or.inr (Or.inr (Nat.le_refl _)))
  · rw [World.frozen?_setCells]
    refine h.z j ?_
    have : (ov cs o vs).length = cs.length := by unfold ov; rw [List.length_append, List.length_append, List.length_take, List.length_drop]; omega
    omega
/-- Variables of one's own, made since w0, and their cells. -/
structure Vc (w0 W : World) (L : List (Nat × List Value)) : Prop where
  k : Below w0.heap.size w0 W
  at_ : ∀ p ∈ L, w0.heap.size ≤ p.1 ∧ RowC W p.1 p.2
  dn : (L.map Prod.fst).Nodup
theorem Vc.nil (w : World) : Vc w w [] := ⟨Below.refl _ _, (fun _ h => by cases h), List.nodup_nil⟩
theorem Vc.keep {w0 W W' : World} {L : List (Nat × List Value)} (h : Vc w0 W L) (hb : Below W.heap.size W W') : Vc w0 W' L :=
  ⟨Go.Proofs.YtkpkkjcfodjifaaDoor.K.call h.k hb, (fun p hp => ⟨(h.at_ p hp).1, (h.at_ p hp).2.keep hb⟩), h.dn⟩
theorem Vc.made {w0 W : World} {L : List (Nat × List Value)} (h : Vc w0 W L) (t : TypeId) (cs : List Value) : Vc w0 (W.alloc (.cells cs.toArray t)) ((W.heap.size, cs) :: L) := by
  have hb : Below W.heap.size W (W.alloc (.cells cs.toArray t)) := Go.Proofs.YtkpkkjcfodjifaaDoor.K.alloc (Below.refl _ _) _
  refine ⟨Go.Proofs.YtkpkkjcfodjifaaDoor.K.alloc h.k _, fun p hp => ?_, ?_⟩
  · rcases List.mem_cons.1 hp with rfl | hp
    · exact ⟨h.k.size, RowC.made W t cs⟩
    · exact ⟨(h.at_ p hp).1, (h.at_ p hp).2.keep hb⟩
  · rw [List.map_cons]
    refine List.nodup_cons.2 ⟨fun hm => ?_, h.dn⟩
    obtain ⟨p, hp, e⟩ := List.mem_map.1 hm
    have hl := (h.at_ p hp).2.lt
    rw [e] at hl
    exact Nat.lt_irrefl _ hl
theorem Vc.put {w0 W : World} {L : List (Nat × List Value)} (h : Vc w0 W L) {i b : Nat} {cs : List Value} (hi : L[i]? = some (b, cs)) (o : Nat) (vs : List Value) (hn : o + vs.length ≤ cs.length) : Vc w0 (W.setCells b o vs) (L.set i (b, ov cs o vs)) := by
  have hm := h.at_ (b, cs) (List.mem_of_getElem? hi)
  have hil : i < L.length := (List.getElem?_eq_some_iff.1 hi).1
  have hb : (L.map Prod.fst)[i]? = some b := by rw [List.getElem?_map, hi]; rfl
  refine ⟨below_setCells _ _ h.k hm.1, fun p hp => ?_, ?_⟩
  · obtain ⟨j, hj⟩ := List.mem_iff_getElem?.1 hp
    rw [List.getElem?_set] at hj
    by_cases hij : i = j
    · rw [if_pos hij, if_pos hil] at hj
      cases hj
      exact ⟨hm.1, hm.2.put o vs hn⟩
    · rw [if_neg hij] at hj
      have hp2 := h.at_ p (List.mem_of_getElem? hj)
      refine ⟨hp2.1, hp2.2.apart (fun e => hij ?_) _ _⟩
      refine (List.getElem?_inj (l := L.map Prod.fst) (by rw [List.length_map]; exact hil) h.dn).1 ?_
      rw [hb, List.getElem?_map, hj, ← e]
      rfl
  · have e : (L.set i (b, ov cs o vs)).map Prod.fst = L.map Prod.fst := by
      refine List.ext_getElem? fun j => ?_
      rw [List.getElem?_map, List.getElem?_map, List.getElem?_set]
      by_cases hij : i = j
      · rw [if_pos hij, if_pos hil, ← hij, hi]
        rfl
      · rw [if_neg hij]
    rw [e]
    exact h.dn
theorem Vc.row {w0 W : World} {L : List (Nat × List Value)} (h : Vc w0 W L) (i : Nat) {b : Nat} {cs : List Value} (hi : L[i]? = some (b, cs)) : RowC W b cs := (h.at_ (b, cs) (List.mem_of_getElem? hi)).2
theorem Vc.of {w W : World} (h : Below w.heap.size w W) : Vc w W [] := ⟨h, (fun _ h => by cases h), List.nodup_nil⟩
section
variable {w0 W : World} {L : List (Nat × List Value)} {op : Oper} {a : Act} {Q : Exit → Act → World → Prop} {ops : Array Oper} {rest : List Oper}
end
end Go.Proofs.YtkpkkjcfodjifaaDoor
