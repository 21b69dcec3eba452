/- ProofShort. ProofLast. ProofOwn. How the parameters, and the program's two tables, are read before the call. How parameters of hashes, and of lists of hashes, are read before the call. How a pair of bytes is read before the call, and behind it. -/
import Derived.Test.YteplklbpehkdjaaDoorMO09
import Derived.Test.YteplklbpehkdjaaDoorMO05
import Derived.Test.YteplklbpehkdjaaDoorTie
import Derived.Test.YteplklbpehkdjaaDoorCards
import Derived.ProofKit
import Derived.LaidMore
import Derived.MakeChecks
import Derived.Lib.LaidTab
import Derived.Stop.LaidErr
import Derived.Laws.IdiomArrays
import Derived.OpenShut
import Derived.Carry
import Derived.ChangeMaps5
import Derived.Stop.Joined
import Derived.Deep.Grids
import Derived.Deep.Slices
namespace Go.Proofs.YteplklbpehkdjaaDoor
set_option maxRecDepth 100000
open Go.RowKit
attribute [local go_sem ↓] Go.wp_at_zero Go.wp_at_succ

theorem wrap_n {i : Nat} (h : i ≤ 1000) : wrap64 (i : Int) = (i : Int) := by unfold wrap64; omega
theorem wrap_m {m : Int} (h0 : 0 ≤ m) (h1 : m < 256) : wrap64 m = m := by unfold wrap64; omega
theorem wrap_1 {k : Nat} (h : k ≤ 1000) : wrap64 ((k : Int) + 1) = (k : Int) + 1 := by unfold wrap64; omega
end Go.Proofs.YteplklbpehkdjaaDoor
namespace Go.Proofs.YteplklbpehkdjaaDoor
set_option maxRecDepth 100000
open Go.RowKit
attribute [local go_sem ↓] Go.wp_at_zero Go.wp_at_succ

end Go.Proofs.YteplklbpehkdjaaDoor
namespace Go.Proofs.YteplklbpehkdjaaDoor
set_option maxRecDepth 100000
open Go.RowKit
attribute [local go_sem ↓] Go.wp_at_zero Go.wp_at_succ

/-- Two small numbers and a hash that were handed in lie in variables. -/
theorem boxO {w X : World} {p q : Int} {f : Nat → Nat} (hX : X = (w.alloc (.cells #[.int .u8 p, .int .u8 q] 34)).alloc (.cells (ab f 32).toArray 32)) :
    Below w.heap.size w X ∧ X.cell? ⟨w.heap.size, 0, none⟩ = some (.int .u8 p) ∧ X.cell? ⟨w.heap.size, 1, none⟩ = some (.int .u8 q) ∧ X.rangeAt (w.heap.size + 1) 0 (ab f 32) := by
  rw [hX]
  have hb : Below (w.alloc (.cells #[.int .u8 p, .int .u8 q] 34)).heap.size (w.alloc (.cells #[.int .u8 p, .int .u8 q] 34)) ((w.alloc (.cells #[.int .u8 p, .int .u8 q] 34)).alloc (.cells (ab f 32).toArray 32)) := K.alloc (Below.refl _ _) _
  have hn := heap_alloc_new w (.cells #[.int .u8 p, .int .u8 q] 34)
  refine ⟨K.alloc (K.alloc (Below.refl _ _) _) _, later hb ?_, later hb ?_, ?_⟩
  · rw [cell_of_row _ _ _ _ _ _ hn]
    rfl
  · rw [cell_of_row _ _ _ _ _ _ hn]
    rfl
  · have h := RowB.range (RowB.made (w.alloc (.cells #[.int .u8 p, .int .u8 q] 34)) 32 32 f _ rfl)
    have e : ∀ o, (w.alloc o).heap.size = w.heap.size + 1 := fun o => by simp
    rw [e] at h
    exact h
theorem wrap_s {j : Nat} (h : j ≤ 1000) : wrap64 (1 + (j : Int)) = ((j + 1 : Nat) : Int) := by unfold wrap64; omega
set_option maxRecDepth 100000 in
set_option maxHeartbeats 16000000 in
theorem proofOwn_walk {w : World} {z : Option Addr} {n c : Nat} {F : Nat → Nat → Nat} {p q : Int} {f : Nat → Nat} (hT : Tab w) (hx : HL w z n F) (hc : n ≤ c) (hcm : c ≤ maxLen) (hp0 : 0 ≤ p) (hp1 : p < 256) (hq0 : 0 ≤ q) (hq1 : q < 256) (hf : ∀ j, f j < 256) :
    Calls Tryd.prog 7 #[.slice z n c, .agg #[.int .u8 p, .int .u8 q], hv f] w fun e w' => e = .returned (.bool true) ∧ Below w.heap.size w w' := by
  have HT := hide hT
  have HX := hide hx
  have HC := hide (And.intro hc hcm)
  have HF := hide hf
  clear hT hx hc hcm hf
  unfold hv
  by_cases hn : n ≤ 80
  · have hq : (n : Int) ≤ 80 := by omega
    by_cases h0 : n = 0
    · subst h0
      clear hp0 hp1 hq0 hq1
      go_enter Tryd.func7, Tryd.ntmps7
      go_upto_region 1 with fail
      refine wp_world (fun X hX => ?_)
      obtain ⟨hB, hC0, hC1, hR⟩ := boxO hX
      clear hX
      have HT0 := hide (HT.out.keep hB)
      have HB0 := hide hB
      obtain ⟨b0, hb0⟩ : ∃ b0, w.heap.size = b0 := ⟨_, rfl⟩
      rw [hb0] at hC0 hC1 hR ⊢
      have HC0 := hide hC0
      have HC1 := hide hC1
      have HR0 := hide hR
      clear hB hC0 hC1 hR
      refine wp_region_noPanic ?_
      refine wp_region_held_drew (S := fun w' => Below X.heap.size X w') (by kernel_rfl) (Go.Proofs.YteplklbpehkdjaaDoor.K.drew (Below.refl _ X)) (fun hS0 => ?_)
      refine wpAnyH_take (i := 0) (v := .pointer (some ⟨b0, 0, none⟩)) rfl (by kernel_rfl) (by kernel_rfl) (by kernel_rfl) (fun _ _ _ h => h) (Or.inl ⟨by rfl, fun w' _ => by go_simp⟩) hS0 ?_
      simp only [Act.put, List.getElem_toArray, List.getElem_cons_zero, List.setIfInBounds_toArray, List.set_cons_zero, List.set_cons_succ]
      refine wpAnyH_take (i := 1) (v := .int .u8 p) rfl (by kernel_rfl) (by kernel_rfl) (by kernel_rfl) (fun _ _ _ h => h) (Or.inl ⟨by rfl, fun w' hS => by have hc := later hS HC0.out; go_simp⟩) hS0 ?_
      simp only [Act.put, List.getElem_toArray, List.getElem_cons_zero, List.getElem_cons_succ, List.setIfInBounds_toArray, List.set_cons_zero, List.set_cons_succ]
      refine wpAnyH_take (i := 2) (v := .pointer (some ⟨b0, 1, none⟩)) rfl (by kernel_rfl) (by kernel_rfl) (by kernel_rfl) (fun _ _ _ h => h) (Or.inl ⟨by rfl, fun w' _ => by go_simp⟩) hS0 ?_
      simp only [Act.put, List.getElem_toArray, List.getElem_cons_zero, List.getElem_cons_succ, List.setIfInBounds_toArray, List.set_cons_zero, List.set_cons_succ]
      refine wpAnyH_take (i := 3) (v := .int .u8 q) rfl (by kernel_rfl) (by kernel_rfl) (by kernel_rfl) (fun _ _ _ h => h) (Or.inl ⟨by rfl, fun w' hS => by have hc := later hS HC1.out; go_simp⟩) hS0 ?_
      simp only [Act.put, List.getElem_toArray, List.getElem_cons_zero, List.getElem_cons_succ, List.setIfInBounds_toArray, List.set_cons_zero, List.set_cons_succ]
      refine wpAnyH_take (i := 4) (v := .int .u8 p) rfl (by kernel_rfl) (by kernel_rfl) (by kernel_rfl) (fun _ _ _ h => h) (Or.inl ⟨by rfl, fun w' _ => by go_simp⟩) hS0 ?_
      simp only [Act.put, List.getElem_toArray, List.getElem_cons_zero, List.getElem_cons_succ, List.setIfInBounds_toArray, List.set_cons_zero, List.set_cons_succ]
      refine wpAnyH_take (i := 5) (v := .int .u8 q) rfl (by kernel_rfl) (by kernel_rfl) (by kernel_rfl) (fun _ _ _ h => h) (Or.inl ⟨by rfl, fun w' _ => by go_simp⟩) hS0 ?_
      simp only [Act.put, List.getElem_toArray, List.getElem_cons_zero, List.getElem_cons_succ, List.setIfInBounds_toArray, List.set_cons_zero, List.set_cons_succ]
      refine wpAnyH_done (by kernel_rfl) ?_ _
      refine NoPanic.normal ?_
      clear hb0
      have HTd := hide (HT0.out.keep hS0)
      have HBd := hide (Go.Proofs.YteplklbpehkdjaaDoor.K.call HB0.out hS0)
      have HRd := hide (range_keep HR0.out hS0)
      clear HT0 HB0 HR0 HC0 HC1 hS0
      go_upto_region 3 with (go_at_call 8; refine Calls.mono (awake_any HTd.out) ?_; rintro e W1 ⟨rfl, hb⟩; have HB1 := hide (Go.Proofs.YteplklbpehkdjaaDoor.K.call HBd.out hb); clear hb)
      go_wp2_with (go_at_call 8; refine Calls.mono (awake_any (HT.out.keep HB1.out)) ?_; rintro e W2 ⟨rfl, hb⟩; have HB2 := hide (Go.Proofs.YteplklbpehkdjaaDoor.K.call HB1.out hb); clear hb)
      go_ret
      exact ⟨rfl, HB2.out⟩
    · obtain ⟨j, hj, hjn⟩ := mod_n hq0 (show 0 < n by omega)
      obtain ⟨s, hs⟩ : ∃ s, j + 1 = s := ⟨_, rfl⟩
      obtain ⟨i, hi, his⟩ := mod_n hp0 (show 0 < s by omega)
      have hb0 : ((n : Int) == 0) = false := beq_eq_false_iff_ne.2 (by omega)
      have hsn : s ≤ n := by omega
      have hs0 : ¬ (s = 0) := by omega
      have hi9 : i ≤ 1000 := by omega
      have hj9 : j ≤ 1000 := by omega
      have hws := wrap_s hj9
      rw [hs] at hws
      have hwi := wrap_n hi9
      have hwj := wrap_n hj9
      have HI := hide (wrap_1 hi9)
      have HN := hide (And.intro hn (And.intro his hsn))
      rcases HX.out.at_ with h5 | ⟨bz, oz, rfl, _⟩
      · exact absurd h5 h0
      have hj2 : (wrap64 q).tmod (n : Int) = (j : Int) := by rw [wrap_m hq0 hq1]; exact hj
      have hi2 : (wrap64 p).tmod (s : Int) = (i : Int) := by rw [wrap_m hp0 hp1]; exact hi
      clear hi9 hj9 hj hi hp0 hp1 hq0 hq1 hjn his hsn hn hs
      go_enter Tryd.func7, Tryd.ntmps7
      go_upto_region 1 with fail
      refine wp_world (fun X hX => ?_)
      obtain ⟨hB, hC0, hC1, hR⟩ := boxO hX
      clear hX
      have HT0 := hide (HT.out.keep hB)
      have HB0 := hide hB
      obtain ⟨b0, hb0⟩ : ∃ b0, w.heap.size = b0 := ⟨_, rfl⟩
      rw [hb0] at hC0 hC1 hR ⊢
      have HC0 := hide hC0
      have HC1 := hide hC1
      have HR0 := hide hR
      clear hB hC0 hC1 hR
      refine wp_region_noPanic ?_
      refine wp_region_held_drew (S := fun w' => Below X.heap.size X w') (by kernel_rfl) (Go.Proofs.YteplklbpehkdjaaDoor.K.drew (Below.refl _ X)) (fun hS0 => ?_)
      refine wpAnyH_take (i := 0) (v := .pointer (some ⟨b0, 0, none⟩)) rfl (by kernel_rfl) (by kernel_rfl) (by kernel_rfl) (fun _ _ _ h => h) (Or.inl ⟨by rfl, fun w' _ => by go_simp⟩) hS0 ?_
      simp only [Act.put, List.getElem_toArray, List.getElem_cons_zero, List.setIfInBounds_toArray, List.set_cons_zero, List.set_cons_succ]
      refine wpAnyH_take (i := 1) (v := .int .u8 p) rfl (by kernel_rfl) (by kernel_rfl) (by kernel_rfl) (fun _ _ _ h => h) (Or.inl ⟨by rfl, fun w' hS => by have hc := later hS HC0.out; go_simp⟩) hS0 ?_
      simp only [Act.put, List.getElem_toArray, List.getElem_cons_zero, List.getElem_cons_succ, List.setIfInBounds_toArray, List.set_cons_zero, List.set_cons_succ]
      refine wpAnyH_take (i := 2) (v := .pointer (some ⟨b0, 1, none⟩)) rfl (by kernel_rfl) (by kernel_rfl) (by kernel_rfl) (fun _ _ _ h => h) (Or.inl ⟨by rfl, fun w' _ => by go_simp⟩) hS0 ?_
      simp only [Act.put, List.getElem_toArray, List.getElem_cons_zero, List.getElem_cons_succ, List.setIfInBounds_toArray, List.set_cons_zero, List.set_cons_succ]
      refine wpAnyH_take (i := 3) (v := .int .u8 q) rfl (by kernel_rfl) (by kernel_rfl) (by kernel_rfl) (fun _ _ _ h => h) (Or.inl ⟨by rfl, fun w' hS => by have hc := later hS HC1.out; go_simp⟩) hS0 ?_
      simp only [Act.put, List.getElem_toArray, List.getElem_cons_zero, List.getElem_cons_succ, List.setIfInBounds_toArray, List.set_cons_zero, List.set_cons_succ]
      refine wpAnyH_take (i := 4) (v := .int .u8 p) rfl (by kernel_rfl) (by kernel_rfl) (by kernel_rfl) (fun _ _ _ h => h) (Or.inl ⟨by rfl, fun w' _ => by go_simp⟩) hS0 ?_
      simp only [Act.put, List.getElem_toArray, List.getElem_cons_zero, List.getElem_cons_succ, List.setIfInBounds_toArray, List.set_cons_zero, List.set_cons_succ]
      refine wpAnyH_take (i := 5) (v := .int .u8 q) rfl (by kernel_rfl) (by kernel_rfl) (by kernel_rfl) (fun _ _ _ h => h) (Or.inl ⟨by rfl, fun w' _ => by go_simp⟩) hS0 ?_
      simp only [Act.put, List.getElem_toArray, List.getElem_cons_zero, List.getElem_cons_succ, List.setIfInBounds_toArray, List.set_cons_zero, List.set_cons_succ]
      refine wpAnyH_done (by kernel_rfl) ?_ _
      refine NoPanic.normal ?_
      clear hb0
      have HTd := hide (HT0.out.keep hS0)
      have HBd := hide (Go.Proofs.YteplklbpehkdjaaDoor.K.call HB0.out hS0)
      have HRd := hide (range_keep HR0.out hS0)
      clear HT0 HB0 HR0 HC0 HC1 hS0
      go_upto_region 4 with (go_at_call 8; refine Calls.mono (awake_any HTd.out) ?_; rintro e W1 ⟨rfl, hb⟩; have HB1 := hide (Go.Proofs.YteplklbpehkdjaaDoor.K.call HBd.out hb); have HR1 := hide (range_keep HRd.out hb); clear hb)
      go_upto_region 7 with fail
      rw [hws]
      clear hj2 hi2 hws hwj
      have hcn : ¬ (c = 0) := by have := HC.out.1; omega
      have hsI : (s : Int) ≤ (n : Int) := by have := HN.out.2.2; omega
      have hsJ : (s : Int) ≤ (c : Int) := by have := HC.out.1; omega
      have HS1 := hide ((HX.out.keep HB1.out).head s HN.out.2.2)
      go_upto_region 8 with (at_builtin; refine wpList_appH (base := W1.heap.size) rfl _ _ rfl rfl (OH.nil _ _ (fun _ _ => 0)) rfl HS1.out (by show 0 + s ≤ _; have := HN.out; omega) (by show W1.heap.size ≤ W1.heap.size; exact Nat.le_refl _) ?_; intro v2 W2 ho2 hg2; rw [Nat.zero_add, hcat_zero] at ho2; obtain ⟨a2, c2, rfl, h21, h22⟩ := ho2.form; have HW2 : Hid (Below W1.heap.size W1 W2) := ⟨hg2.os, hg2.tape, hg2.output, hg2.size, fun i hi => hg2.block i hi (fun e => by cases e)⟩; have HO2 := hide ho2; have HR2 := hide (range_keep HR1.out HW2.out); clear ho2 hg2 h21 h22)
      go_upto_region 9 with (first
        | (refine wpList_load_g (by rfl) _ rfl rfl HR2.out ?_; simp only [Act.put, List.setIfInBounds_toArray, List.set_cons_zero, List.set_cons_succ])
        | (refine wpList_oneH rfl rfl (by rfl) HF.out ?_; intro q6 W6 hq6 hl6 ho6 hb6; have HO6 := hide (HO2.out.keep hb6); have HL6 := hide ho6; have HW6 := hide (Go.Proofs.YteplklbpehkdjaaDoor.K.call HW2.out hb6); clear hq6 hl6 ho6 hb6)
        | (at_builtin; refine wpList_appH rfl _ _ rfl rfl HO6.out rfl HL6.out (by have := HN.out; omega) HW6.out.size ?_; intro v7 W7 ho7 hg7; have HW7 := hide (OH.below HO6.out HW6.out hg7); obtain ⟨a7, c7, rfl, h71, h72⟩ := ho7.form; have HC7 := hide (And.intro h71 h72); have HH7 := hide (ho7.hl (hcat_lt HX.out.lt (fun _ j => HF.out j) s)); clear ho7 hg7 h71 h72))
      obtain ⟨g7, o7, rfl⟩ := HH7.out.ad (by omega)
      have HB7 := hide (Go.Proofs.YteplklbpehkdjaaDoor.K.call HB1.out HW7.out)
      obtain ⟨t, ht⟩ : ∃ t, s + 1 = t := ⟨_, rfl⟩
      rw [ht] at HH7 HC7 ⊢
      have hcn7 : ¬ (c7 = 0) := by have := HC7.out.1; omega
      have hsI7 : (s : Int) ≤ (t : Int) := by omega
      have hsJ7 : (s : Int) ≤ (c7 : Int) := by have := HC7.out.1; omega
      obtain ⟨LA, hLA⟩ : ∃ L, pth F s i = L := ⟨_, rfl⟩
      have hlA : ∀ f ∈ LA, ∀ j, f j < 256 := by rw [← hLA]; exact pth_lt s i HX.out.lt
      have hnA : LA.length ≤ s := by rw [← hLA]; exact pth_len_n s i F
      obtain ⟨LC, hLC⟩ : ∃ L, prf F s (i + 1) true = L := ⟨_, rfl⟩
      have hlC : ∀ f ∈ LC, ∀ j, f j < 256 := by rw [← hLC]; exact prf_lt s (i + 1) true HX.out.lt
      have hnC : LC.length ≤ s + 1 := by rw [← hLC]; exact prf_len_n s (i + 1) true F
      have hex : ∀ k, k < s → hcat F s (fun _ => f) k = F k := fun k hk => hcat_low F _ hk
      have hp1 := fun W (h : Below w.heap.size w W) => path_any (n := s) (c := c) (m := i) (HT.out.keep h) ((HX.out.keep h).head s HN.out.2.2) (Nat.le_trans HN.out.2.2 HC.out.1) HC.out.2 (by have := HN.out; omega) HN.out.2.1
      have hp2 := fun W (h : Below W7.heap.size W7 W) => path_any (n := s) (c := c7) (m := i) (HT.out.keep (Go.Proofs.YteplklbpehkdjaaDoor.K.call HB7.out h)) ((HH7.out.keep h).head s (by omega)) (by have := HC7.out.1; omega) HC7.out.2 (by have := HN.out; omega) HN.out.2.1
      have hp3 := fun W (h : Below w.heap.size w W) => proof_any (n := s) (c := c) (m := i + 1) (HT.out.keep h) ((HX.out.keep h).head s HN.out.2.2) (Nat.le_trans HN.out.2.2 HC.out.1) HC.out.2 (by have := HN.out; omega) ⟨by omega, HN.out.2.1⟩
      have hp4 := fun W (h : Below W7.heap.size W7 W) => proof_any (n := s) (c := c7) (m := i + 1) (HT.out.keep (Go.Proofs.YteplklbpehkdjaaDoor.K.call HB7.out h)) ((HH7.out.keep h).head s (by omega)) (by have := HC7.out.1; omega) HC7.out.2 (by have := HN.out; omega) ⟨by omega, HN.out.2.1⟩
      rw [pth_ext s i hex] at hp2
      rw [prf_ext s (i + 1) true hex] at hp4
      rw [hLA] at hp1 hp2
      rw [hLC, show ((i + 1 : Nat) : Int) = (i : Int) + 1 from rfl] at hp3 hp4
      obtain ⟨la, hla⟩ : ∃ l, LA.length = l := ⟨_, rfl⟩
      obtain ⟨lc, hlc⟩ : ∃ l, LC.length = l := ⟨_, rfl⟩
      rw [hla] at hnA
      rw [hlc] at hnC
      have HP1 := hide hp1
      have HP2 := hide hp2
      have HP3 := hide hp3
      have HP4 := hide hp4
      have HlA := hide (And.intro hlA hla)
      have HlC := hide (And.intro hlC hlc)
      have HnA := hide hnA
      have HnC := hide hnC
      clear hp1 hp2 hp3 hp4 hlA hla hlC hlc hnA hnC hLA hLC hex ht
      go_upto_region 10 with (go_at_call 9; with_reducible refine Calls.mono (HP1.out _ HB7.out) ?_; rintro e W8 hp; obtain ⟨a8, c8, rfl, h8, _, hb8⟩ := hp.out HlA.out.1; rw [HlA.out.2] at h8 ⊢; have HH8 := hide h8; have HW8 : Hid (Below W7.heap.size W7 W8) := hide hb8; clear h8 hb8 hp)
      go_upto_region 11 with (go_at_call 9; with_reducible refine Calls.mono (HP2.out _ HW8.out) ?_; rintro e W9 hp; obtain ⟨a9, c9, rfl, h9, _, hb9⟩ := hp.out HlA.out.1; rw [HlA.out.2] at h9 ⊢; have HH9 := hide h9; have HH8b := hide (HH8.out.keep hb9); have HW9 := hide (Go.Proofs.YteplklbpehkdjaaDoor.K.call HW8.out hb9); clear h9 hb9 hp)
      have HB9 := hide (Go.Proofs.YteplklbpehkdjaaDoor.K.call HB7.out HW9.out)
      have hwi1 := HI.out
      clear hwi
      go_upto_region 12 with (go_at_call 12; with_reducible refine Calls.mono (HP3.out _ HB9.out) ?_; rintro e W10 hp; obtain ⟨a10, c10, rfl, h10, _, hb10⟩ := hp.out HlC.out.1; rw [HlC.out.2] at h10 ⊢; have HH10 := hide h10; have HV10 : Hid (Below W9.heap.size W9 W10) := hide hb10; have HW10 := hide (Go.Proofs.YteplklbpehkdjaaDoor.K.call HW9.out hb10); clear h10 hb10 hp)
      go_upto_region 13 with (go_at_call 12; with_reducible refine Calls.mono (HP4.out _ HW10.out) ?_; rintro e W11 hp; obtain ⟨a11, c11, rfl, h11, _, hb11⟩ := hp.out HlC.out.1; rw [HlC.out.2] at h11 ⊢; have HH11 := hide h11; have HH10b := hide (HH10.out.keep hb11); have HV11 := hide (Go.Proofs.YteplklbpehkdjaaDoor.K.call HV10.out hb11); have HW11 := hide (Go.Proofs.YteplklbpehkdjaaDoor.K.call HW10.out hb11); clear h11 hb11 hp)
      have hs1 := same_l (c := c8) (d := c9) (L := LA) ((HH8b.out.keep HV11.out)) ((HH9.out.keep HV11.out)) (by have := HlA.out.2; have := HnA.out; have := HN.out; omega)
      have hs2 := fun W (h : Below W11.heap.size W11 W) => same_l (W := W) (c := c10) (d := c11) (L := LC) ((HH10b.out.keep h)) ((HH11.out.keep h)) (by have := HlC.out.2; have := HnC.out; have := HN.out; omega)
      have HS1 := hide hs1
      have HS2 := hide hs2
      clear hs1 hs2
      go_wp2_with (first
        | (go_at_call 11; with_reducible refine Calls.mono (HS2.out _ HV12.out) ?_; rintro e W13 ⟨rfl, hb⟩; have HB13 := hide (Go.Proofs.YteplklbpehkdjaaDoor.K.call HB7.out (Go.Proofs.YteplklbpehkdjaaDoor.K.call HW11.out (Go.Proofs.YteplklbpehkdjaaDoor.K.call HV12.out hb))); clear hb)
        | (go_at_call 11; with_reducible refine Calls.mono HS1.out ?_; rintro e W12 ⟨rfl, hb⟩; have HV12 : Hid (Below W11.heap.size W11 W12) := hide hb; clear hb))
      go_ret
      exact ⟨rfl, HB13.out⟩
  · have hq : (80 : Int) < (n : Int) := by omega
    clear hn hp0 hp1 hq0 hq1
    go_enter Tryd.func7, Tryd.ntmps7
    go_upto_region 1 with fail
    refine wp_world (fun X hX => ?_)
    obtain ⟨hB, hC0, hC1, hR⟩ := boxO hX
    clear hX
    have HT0 := hide (HT.out.keep hB)
    have HB0 := hide hB
    obtain ⟨b0, hb0⟩ : ∃ b0, w.heap.size = b0 := ⟨_, rfl⟩
    rw [hb0] at hC0 hC1 hR ⊢
    have HC0 := hide hC0
    have HC1 := hide hC1
    have HR0 := hide hR
    clear hB hC0 hC1 hR
    refine wp_region_noPanic ?_
    refine wp_region_held_drew (S := fun w' => Below X.heap.size X w') (by kernel_rfl) (Go.Proofs.YteplklbpehkdjaaDoor.K.drew (Below.refl _ X)) (fun hS0 => ?_)
    refine wpAnyH_take (i := 0) (v := .pointer (some ⟨b0, 0, none⟩)) rfl (by kernel_rfl) (by kernel_rfl) (by kernel_rfl) (fun _ _ _ h => h) (Or.inl ⟨by rfl, fun w' _ => by go_simp⟩) hS0 ?_
    simp only [Act.put, List.getElem_toArray, List.getElem_cons_zero, List.setIfInBounds_toArray, List.set_cons_zero, List.set_cons_succ]
    refine wpAnyH_take (i := 1) (v := .int .u8 p) rfl (by kernel_rfl) (by kernel_rfl) (by kernel_rfl) (fun _ _ _ h => h) (Or.inl ⟨by rfl, fun w' hS => by have hc := later hS HC0.out; go_simp⟩) hS0 ?_
    simp only [Act.put, List.getElem_toArray, List.getElem_cons_zero, List.getElem_cons_succ, List.setIfInBounds_toArray, List.set_cons_zero, List.set_cons_succ]
    refine wpAnyH_take (i := 2) (v := .pointer (some ⟨b0, 1, none⟩)) rfl (by kernel_rfl) (by kernel_rfl) (by kernel_rfl) (fun _ _ _ h => h) (Or.inl ⟨by rfl, fun w' _ => by go_simp⟩) hS0 ?_
    simp only [Act.put, List.getElem_toArray, List.getElem_cons_zero, List.getElem_cons_succ, List.setIfInBounds_toArray, List.set_cons_zero, List.set_cons_succ]
    refine wpAnyH_take (i := 3) (v := .int .u8 q) rfl (by kernel_rfl) (by kernel_rfl) (by kernel_rfl) (fun _ _ _ h => h) (Or.inl ⟨by rfl, fun w' hS => by have hc := later hS HC1.out; go_simp⟩) hS0 ?_
    simp only [Act.put, List.getElem_toArray, List.getElem_cons_zero, List.getElem_cons_succ, List.setIfInBounds_toArray, List.set_cons_zero, List.set_cons_succ]
    refine wpAnyH_take (i := 4) (v := .int .u8 p) rfl (by kernel_rfl) (by kernel_rfl) (by kernel_rfl) (fun _ _ _ h => h) (Or.inl ⟨by rfl, fun w' _ => by go_simp⟩) hS0 ?_
    simp only [Act.put, List.getElem_toArray, List.getElem_cons_zero, List.getElem_cons_succ, List.setIfInBounds_toArray, List.set_cons_zero, List.set_cons_succ]
    refine wpAnyH_take (i := 5) (v := .int .u8 q) rfl (by kernel_rfl) (by kernel_rfl) (by kernel_rfl) (fun _ _ _ h => h) (Or.inl ⟨by rfl, fun w' _ => by go_simp⟩) hS0 ?_
    simp only [Act.put, List.getElem_toArray, List.getElem_cons_zero, List.getElem_cons_succ, List.setIfInBounds_toArray, List.set_cons_zero, List.set_cons_succ]
    refine wpAnyH_done (by kernel_rfl) ?_ _
    refine NoPanic.normal ?_
    clear hb0
    have HTd := hide (HT0.out.keep hS0)
    have HBd := hide (Go.Proofs.YteplklbpehkdjaaDoor.K.call HB0.out hS0)
    have HRd := hide (range_keep HR0.out hS0)
    clear HT0 HB0 HR0 HC0 HC1 hS0
    go_upto_region 3 with (go_at_call 8; refine Calls.mono (awake_any HTd.out) ?_; rintro e W1 ⟨rfl, hb⟩; have HB1 := hide (Go.Proofs.YteplklbpehkdjaaDoor.K.call HBd.out hb); clear hb)
    go_wp2_with (go_at_call 8; refine Calls.mono (awake_any (HT.out.keep HB1.out)) ?_; rintro e W2 ⟨rfl, hb⟩; have HB2 := hide (Go.Proofs.YteplklbpehkdjaaDoor.K.call HB1.out hb); clear hb)
    go_ret
    exact ⟨rfl, HB2.out⟩
end Go.Proofs.YteplklbpehkdjaaDoor
namespace Go.Proofs.YteplklbpehkdjaaDoor
set_option maxRecDepth 100000
open Go.ChangeShapes Go.WideShapes Go.ChangeAt Go.RowKit

theorem own : ownKnob Tryd.prog.godebug = none := by kernel_rfl
theorem Tryd.laidOut : laidOutB Tryd.prog = true := by kernel_rfl
theorem cellsU8 : Tryd.prog.cellsOf 5 = 1 := by kernel_rfl
theorem cellsU32 : Tryd.prog.cellsOf 42 = 1 := by kernel_rfl
theorem cellsSt : Tryd.prog.cellsOf 59 = 8 := by kernel_rfl
theorem cellsW64 : Tryd.prog.cellsOf 52 = 64 := by kernel_rfl
theorem u8_of_wf {x : Int} (h : (Lit.int .u8 x).wf = true) : 0 ≤ x ∧ x < 256 := by
  simp [Lit.wf, IntKind.min, IntKind.max, IntKind.signed, IntKind.bits] at h
  exact ⟨by omega, by omega⟩
theorem gFirst : Tryd.prog.globalNamed "chronicle/sha256.first" = some 0 := by kernel_rfl
theorem tFirst : (Tryd.prog.globals[0]?).map (·.type) = some 59 := by kernel_rfl
theorem gK : Tryd.prog.globalNamed "chronicle/sha256.constants" = some 1 := by kernel_rfl
theorem tK : (Tryd.prog.globals[1]?).map (·.type) = some 52 := by kernel_rfl
def laid1 : List (String × DataW Unit) := [("chronicle/sha256.first", Rows.laid_chronicle_sha256_first), ("chronicle/sha256.constants", Rows.laid_chronicle_sha256_constants)]
theorem first_at : ∀ i, i < 8 → ([1779033703, 3144134277, 1013904242, 2773480762, 1359893119, 2600822924, 528734635, 1541459225] : List Int).getD i 0 = wn (start.w i) := by decide +kernel
theorem k_at : ∀ i, i < 64 → ([1116352408, 1899447441, 3049323471, 3921009573, 961987163, 1508970993, 2453635748, 2870763221, 3624381080, 310598401, 607225278, 1426881987, 1925078388, 2162078206, 2614888103, 3248222580, 3835390401, 4022224774, 264347078, 604807628, 770255983, 1249150122, 1555081692, 1996064986, 2554220882, 2821834349, 2952996808, 3210313671, 3336571891, 3584528711, 113926993, 338241895, 666307205, 773529912, 1294757372, 1396182291, 1695183700, 1986661051, 2177026350, 2456956037, 2730485921, 2820302411, 3259730800, 3345764771, 3516065817, 3600352804, 4094571909, 275423344, 430227734, 506948616, 659060556, 883997877, 958139571, 1322822218, 1537002063, 1747873779, 1955562222, 2024104815, 2227730452, 2361852424, 2428436474, 2756734187, 3204031479, 3329325298] : List Int).getD i 0 = wn (kW i) := by decide +kernel
theorem tab_of_laid {W : World} (h : laidMetH Tryd.prog laid1 W) : Tab W := by
  rw [MakeChecks.laidMetH_plain _ _ _ (by kernel_rfl)] at h
  have h2 := h.tail
  have hf : Lib.TabIs Tryd.prog W "chronicle/sha256.first" .u32 [1779033703, 3144134277, 1013904242, 2773480762, 1359893119, 2600822924, 528734635, 1541459225] := Lib.tabIs_of_head (rest := [("chronicle/sha256.constants", Rows.laid_chronicle_sha256_constants)]) gFirst tFirst Tryd.underlying59 Tryd.underlying42 cellsU32 cellsSt h
  have hk : Lib.TabIs Tryd.prog W "chronicle/sha256.constants" .u32 [1116352408, 1899447441, 3049323471, 3921009573, 961987163, 1508970993, 2453635748, 2870763221, 3624381080, 310598401, 607225278, 1426881987, 1925078388, 2162078206, 2614888103, 3248222580, 3835390401, 4022224774, 264347078, 604807628, 770255983, 1249150122, 1555081692, 1996064986, 2554220882, 2821834349, 2952996808, 3210313671, 3336571891, 3584528711, 113926993, 338241895, 666307205, 773529912, 1294757372, 1396182291, 1695183700, 1986661051, 2177026350, 2456956037, 2730485921, 2820302411, 3259730800, 3345764771, 3516065817, 3600352804, 4094571909, 275423344, 430227734, 506948616, 659060556, 883997877, 958139571, 1322822218, 1537002063, 1747873779, 1955562222, 2024104815, 2227730452, 2361852424, 2428436474, 2756734187, 3204031479, 3329325298] := Lib.tabIs_of_head (rest := []) gK tK Tryd.underlying52 Tryd.underlying42 cellsU32 cellsW64 h2
  exact ⟨fun i hi => by rw [← first_at i hi]; exact hf.cell gFirst i hi, fun i hi => by rw [← k_at i hi]; exact hk.cell gK i hi⟩
/-- The door's own heap meets the condition. -/
theorem door_met (os : Os) (args : Array Value) : laidMetH Tryd.prog laid1 ((World.doorLaid Tryd.prog 200 os).forCall (fun _ _ => 0) ⟨#[], args, []⟩).memory :=
  laidMetH_of_parts3 (fuel := 8) (laidMet_of_run' 8 (by kernel_rfl) (by kernel_rfl)) (by kernel_rfl) (by kernel_rfl)
end Go.Proofs.YteplklbpehkdjaaDoor
namespace Go.Proofs.YteplklbpehkdjaaDoor
set_option maxRecDepth 100000
open Go.ChangeShapes Go.WideShapes Go.ChangeAt Go.RowKit

theorem cellsHash : Tryd.prog.cellsOf 32 = 32 := by kernel_rfl
theorem hash_cells {H : Type} {enc : TypeId × Value → H} {W : World} {fuel : Nat} {l : List Value} {y : DataW H × List MemPlace} (hl : l.length = 32)
    (hf : DataW.trod enc Tryd.prog W 0 (fun _ => true) true fuel 32 l = some y) : ∃ f : Nat → Nat, (∀ i, f i < 256) ∧ l = ab f 32 := by
  obtain ⟨xs, m, _, _, _, hxl, hat⟩ := DataW.trod_array Tryd.underlying32 hf
  have key : ∀ i, i < 32 → ∃ n : Nat, l[i]? = some (.int .u8 ((n : Nat) : Int)) ∧ n < 256 := fun i hi => by
    have h1 := hat i hi
    rw [cellsU8, Nat.mul_one, List.getElem?_eq_getElem (by omega)] at h1
    obtain ⟨n, e1, _, hw⟩ := DataW.trod_int Tryd.underlying5 h1
    have hb := u8_of_wf hw
    have e2 : (l.drop i).take 1 = [.int .u8 n] := e1
    have e3 : ((l.drop i).take 1)[0]? = some (.int .u8 n) := by rw [e2]; rfl
    rw [List.getElem?_take_of_lt (by decide), List.getElem?_drop, Nat.add_zero] at e3
    exact ⟨n.toNat, by rw [e3, Int.toNat_of_nonneg hb.1], by omega⟩
  obtain ⟨F, hF⟩ : ∃ F : Nat → Nat, ∀ i, F i < 256 ∧ (i < 32 → l[i]? = some (.int .u8 ((F i : Nat) : Int))) := by
    refine ⟨fun i => if hi : i < 32 then (key i hi).choose else 0, fun i => ?_⟩
    by_cases hi : i < 32
    · simp only [hi, dite_true, forall_const]
      exact ⟨(key i hi).choose_spec.2, (key i hi).choose_spec.1⟩
    · simp [hi]
  refine ⟨F, fun i => (hF i).1, ?_⟩
  apply List.ext_getElem?
  intro i
  rcases Nat.lt_or_ge i 32 with hi | hi
  · rw [(hF i).2 hi, ab_at F hi]
  · rw [List.getElem?_eq_none (by omega), List.getElem?_eq_none (by rw [ab_len]; exact hi)]
/-- A parameter of 32 bytes. -/
theorem open_hash {H : Type} {enc : TypeId × Value → H} {W : World} {base : Nat} {v : Value} {d : DataW H} {p : List MemPlace}
    (hv0 : Value.okWide Tryd.prog W .any base 32 v) (h : DataW.Trod enc Tryd.prog W 0 (fun _ => true) true 32 v d p) :
    ∃ f : Nat → Nat, v = hv f ∧ ∀ i, f i < 256 := by
  obtain ⟨cs, rfl, hsz, _⟩ : ∃ cs, v = .agg cs ∧ cs.size = Tryd.prog.cellsOf 32 ∧ Row.okWide Tryd.prog W .any base 32 cs := by
    simpa [Value.okWide, Tryd.underlying32] using hv0
  rw [cellsHash] at hsz
  obtain ⟨l⟩ := cs
  obtain ⟨fuel, hf⟩ := h
  obtain ⟨f, hf1, hf2⟩ := hash_cells (l := l) (by simpa using hsz) hf
  exact ⟨f, by unfold hv; rw [hf2], hf1⟩
/-- A parameter that is a list of hashes. -/
theorem open_hashes {H : Type} {enc : TypeId × Value → H} {W : World} {base : Nat} {v : Value} {d : DataW H} {p : List MemPlace}
    (hv0 : Value.okWide Tryd.prog W .any base 22 v) (h : DataW.Trod enc Tryd.prog W 0 (fun _ => true) true 22 v d p) :
    ∃ z n c F, v = .slice z n c ∧ HL W z n F ∧ n ≤ c ∧ c ≤ maxLen := by
  obtain ⟨a0, len0, cap0, rfl⟩ := okWide_slice Tryd.underlying22 hv0
  obtain ⟨fuel, hf⟩ := h
  rcases Go.Deep.open_slice Tryd.underlying22 hf with ⟨hcs, _⟩ | ⟨a, len, cap, m, n, D, Pl, hcs, _, hl, hmx, hm, _, hx⟩
  · simp [Value.cells] at hcs
    exact ⟨none, 0, 0, fun _ _ => 0, by rw [hcs.1, hcs.2.1, hcs.2.2], ⟨fun _ _ => by omega, Or.inl rfl⟩, Nat.le_refl _, by unfold maxLen; omega⟩
  · simp [Value.cells] at hcs
    obtain ⟨rfl, rfl, rfl⟩ := hcs
    simp only [if_true] at hm
    subst hm
    rw [cellsHash] at hx
    have key : ∀ i, i < m → ∃ f : Nat → Nat, W.cells? 0 (a.add (i * 32)) 32 = some (ab f 32) ∧ ∀ j, f j < 256 := fun i hi => by
      obtain ⟨cs', h1, h2⟩ := hx i hi
      obtain ⟨_, hlen, _⟩ := World.cells?_some h1
      obtain ⟨f, hf1, rfl⟩ := hash_cells hlen h2
      exact ⟨f, h1, hf1⟩
    have hI : Inhabited (Nat → Nat) := ⟨fun _ => 0⟩
    obtain ⟨O, hO⟩ := Go.Deep.choose_lt key
    refine ⟨some a, len0, _, fun i => if i < m then O i else fun _ => 0, rfl, ⟨fun i j => ?_, ?_⟩, hl, hmx⟩
    · by_cases h : i < m
      · show (if i < m then O i else fun _ => 0) j < 256
        rw [if_pos h]
        exact (hO i h).2 j
      · show (if i < m then O i else fun _ => 0) j < 256
        rw [if_neg h]
        omega
    by_cases h0 : len0 = 0
    · exact Or.inl h0
    · right
      obtain ⟨b, off, spot⟩ := a
      have hc : ∀ i j, i < len0 → j < 32 → W.cell? (((⟨b, off, spot⟩ : Addr).add (i * 32)).add j) = (ab (O i) 32)[j]? := fun i j hi hj => (World.cells?_some (hO i (by omega)).1).2.2 j hj
      have hspot : spot = none := by
        have h1 : W.cell? (((⟨b, off, spot⟩ : Addr).add (0 * 32)).add 0) = some (.int .u8 ((O 0 0 : Nat) : Int)) := (hc 0 0 (by omega) (by omega)).trans (ab_at _ (by omega))
        simpa [Addr.add] using World.cell?_spot h1
      subst hspot
      refine ⟨b, off, rfl, fun i hi j v hv => ?_⟩
      have hi' : i < m := by omega
      simp only [hi', if_true] at hv
      have hj : j < 32 := by
        have := (List.getElem?_eq_some_iff.1 hv).1
        rwa [ab_len] at this
      have := hc i j hi hj
      rw [Addr.add_mid, Addr.add_mid] at this
      rw [this]
      exact hv
end Go.Proofs.YteplklbpehkdjaaDoor
namespace Go.Proofs.YteplklbpehkdjaaDoor
set_option maxRecDepth 100000
open Go.ChangeShapes Go.WideShapes Go.ChangeAt Go.RowKit

theorem cellsP8 : Tryd.prog.cellsOf 34 = 2 := by kernel_rfl
theorem list2 {α : Type} (l : List α) (h : (⟨l⟩ : Array α).size = 2) : ∃ a b, l = [a, b] := by
  match l, h with
  | [a, b], _ => exact ⟨a, b, rfl⟩
theorem open_p8 {H : Type} {enc : TypeId × Value → H} {W : World} {base : Nat} {v : Value} {d : DataW H} {p : List MemPlace}
    (hv : Value.okWide Tryd.prog W .any base 34 v) (h : DataW.Trod enc Tryd.prog W 0 (fun _ => true) true 34 v d p) :
    ∃ x y, (Lit.int .u8 x).wf = true ∧ (Lit.int .u8 y).wf = true ∧ v = .agg #[.int .u8 x, .int .u8 y] ∧ d = DataW.agg [.lit (.int .u8 x), .lit (.int .u8 y)] ∧ p = [] := by
  obtain ⟨cs, rfl, hsz, _⟩ : ∃ cs, v = .agg cs ∧ cs.size = Tryd.prog.cellsOf 34 ∧ Row.okWide Tryd.prog W .any base 34 cs := by
    simpa [Value.okWide, Tryd.underlying34] using hv
  rw [cellsP8] at hsz
  obtain ⟨l⟩ := cs
  obtain ⟨c0, c1, rfl⟩ := list2 l hsz
  obtain ⟨fuel, hf⟩ := h
  cases fuel with
  | zero => simp [DataW.trod] at hf
  | succ fuel =>
    simp only [DataW.trod, Value.cells, Tryd.underlying34, cellsP8, cellsU8] at hf
    rw [show List.range 2 = [0, 1] from rfl] at hf
    split at hf
    · simp only [Option.map_eq_some_iff, List.mapM_cons, List.mapM_nil, Option.bind_eq_bind, Option.bind_eq_some_iff, Option.pure_def, Option.some.injEq] at hf
      obtain ⟨ys, ⟨y0, h0, _, ⟨y1, h1, _, rfl, rfl⟩, rfl⟩, hx⟩ := hf
      obtain ⟨x0, e0, rfl, w0⟩ := DataW.trod_int Tryd.underlying5 h0
      obtain ⟨x1, e1, rfl, w1⟩ := DataW.trod_int Tryd.underlying5 h1
      simp at e0 e1
      subst e0 e1
      simp at hx
      obtain ⟨rfl, rfl⟩ := hx
      exact ⟨x0, x1, w0, w1, rfl, rfl, rfl⟩
    · cases hf
theorem shut_p8 {H : Type} {enc : TypeId × Value → H} (W : World) (sp : Nat → Bool) {x y : Int} (w0 : (Lit.int .u8 x).wf = true) (w1 : (Lit.int .u8 y).wf = true) :
    DataW.Trod enc Tryd.prog W 0 sp true 34 (.agg #[.int .u8 x, .int .u8 y]) (DataW.agg [.lit (.int .u8 x), .lit (.int .u8 y)]) [] := by
  exact ⟨2, by simp [DataW.trod, Value.cells, Tryd.underlying34, Tryd.underlying5, cellsP8, cellsU8, w0, w1, show List.range 2 = [0, 1] from rfl]⟩
end Go.Proofs.YteplklbpehkdjaaDoor
