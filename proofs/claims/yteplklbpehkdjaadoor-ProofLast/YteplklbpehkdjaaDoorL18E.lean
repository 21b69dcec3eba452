/- ProofLast. -/
import Derived.Test.YteplklbpehkdjaaDoorL18D
namespace Go.Proofs.YteplklbpehkdjaaDoor
set_option maxRecDepth 100000
open Go.RowKit
attribute [local go_sem ↓] Go.wp_at_zero Go.wp_at_succ

theorem one_lt {f : Nat → Nat} (hf : ∀ j, f j < 256) (L : List (Nat → Nat)) (hL : ∀ g ∈ L, ∀ j, g j < 256) : ∀ g ∈ L ++ [f], ∀ j, g j < 256 := fun g hg j => by
  rcases List.mem_append.1 hg with e | e
  · exact hL g e j
  · rw [List.mem_singleton] at e; subst e; exact hf j
theorem sub_i {i k : Nat} (h : k ≤ i) : (i : Int) - (k : Int) = ((i - k : Nat) : Int) := by omega
set_option maxRecDepth 100000 in
set_option maxHeartbeats 16000000 in
theorem proofLast_walk {w : World} {z : Option Addr} {n c : Nat} {F : Nat → Nat → Nat} {m : Int} (hT : Tab w) (hx : HL w z n F) (hc : n ≤ c) (hcm : c ≤ maxLen) (hm0 : 0 ≤ m) (_hm1 : m < 256) :
    Calls Tryd.prog 6 #[.slice z n c, .int .u8 m] w fun e w' => e = .returned (.bool true) ∧ Below w.heap.size w w' := by
  have HT := hide hT
  have HX := hide hx
  have HC := hide (And.intro hc hcm)
  clear hT hx hc hcm
  by_cases hn : n ≤ 80
  · have hq : (n : Int) ≤ 80 := by omega
    by_cases h0 : n < 2
    · have hq2 : (n : Int) < 2 := by omega
      clear h0
      go_enter Tryd.func6, Tryd.ntmps6
      go_upto_region 2 with (go_at_call 8; refine Calls.mono (awake_any HT.out) ?_; rintro e W1 ⟨rfl, hb⟩; have HB1 := hide hb; clear hb)
      go_wp2_with (go_at_call 8; refine Calls.mono (awake_any (HT.out.keep HB1.out)) ?_; rintro e W2 ⟨rfl, hb⟩; have HB2 := hide (Go.Proofs.YteplklbpehkdjaaDoor.K.call HB1.out hb); clear hb)
      go_ret
      exact ⟨rfl, HB2.out⟩
    · have hq2 : (2 : Int) ≤ (n : Int) := by omega
      obtain ⟨i, hi, hin⟩ := mod_n hm0 (show 0 < n by omega)
      have hs1 := sp_lt (n := n) (by omega)
      have hs0 := sp_pos (n := n) (by omega)
      have HSp := hide (fun W => refSplit_any W (n := n) (by omega))
      obtain ⟨k, hk⟩ : ∃ k, sp n = k := ⟨_, rfl⟩
      rw [hk] at HSp hs1 hs0
      have HKs := hide hk
      have HN := hide (And.intro hn (And.intro h0 (And.intro hin (And.intro hs1 hs0))))
      have hi2 : (wrap64 m).tmod (n : Int) = (i : Int) := by rw [wrap_m hm0 _hm1]; exact hi
      have hwi := wrap_n (i := i) (by omega)
      have hn0 : ¬ (n = 0) := by omega
      have hb2 : decide ((n : Int) < 2) = false := decide_eq_false (by omega)
      rcases HX.out.at_ with h5 | ⟨bz, oz, rfl, _⟩
      · omega
      obtain ⟨LA, hLA⟩ : ∃ L, pth F n i = L := ⟨_, rfl⟩
      have hlA : ∀ f ∈ LA, ∀ j, f j < 256 := by rw [← hLA]; exact pth_lt n i HX.out.lt
      have hnA : LA.length ≤ n := by rw [← hLA]; exact pth_len_n n i F
      have HLA := hide hLA
      have HlA := hide hlA
      have HnA := hide hnA
      clear hm0 hk h0 hs1 hs0 hLA hlA hnA hi
      go_enter Tryd.func6, Tryd.ntmps6
      go_upto_region 3 with (go_at_call 8; refine Calls.mono (awake_any HT.out) ?_; rintro e W1 ⟨rfl, hb⟩; have HB1 := hide hb; clear hb)
      go_upto_region 5 with (go_at_call 14; refine Calls.mono (HSp.out _) ?_; rintro e W2 ⟨rfl, hw⟩; replace hw := hw.symm; subst hw)
      have hpa := path_any (c := c) (m := i) (HT.out.keep HB1.out) (HX.out.keep HB1.out) HC.out.1 HC.out.2 (by have := HN.out.1; omega) hin
      rw [HLA.out] at hpa
      have HPa := hide hpa
      clear hpa
      go_upto_region 7 with (go_at_call 9; refine Calls.mono HPa.out ?_; rintro e W3 hp; obtain ⟨a3, c3, rfl, h3, _, hb3⟩ := hp.out HlA.out; have HH3 := hide h3; have HB3 := hide (Go.Proofs.YteplklbpehkdjaaDoor.K.call HB1.out hb3); clear h3 hb3 hp)
      obtain ⟨la, hla⟩ : ∃ la, LA.length = la := ⟨_, rfl⟩
      have HLa := hide hla
      rw [hla] at HH3 ⊢
      clear hla hin
      clear hi2 hwi
      by_cases hik : i < k
      · have hik' : (i : Int) < (k : Int) := by omega

        have hkc : k ≤ c := by have := HC.out.1; have := HN.out.2.2.2.1; omega
        have hkn : k < n := HN.out.2.2.2.1
        have hck : ¬ (c = k) := by have := HC.out.1; omega
        have hkI : (k : Int) ≤ (n : Int) := by omega
        have hkJ : (k : Int) ≤ (c : Int) := by omega
        obtain ⟨LB, hLB⟩ : ∃ L, pth F (k) (i) = L := ⟨_, rfl⟩
        have hlB : ∀ f ∈ LB, ∀ j, f j < 256 := by rw [← hLB]; exact pth_lt _ _ HX.out.lt
        have hnB : LB.length ≤ n := by rw [← hLB]; exact Nat.le_trans (pth_len_n _ _ _) (by omega)
        obtain ⟨rr, hrr⟩ : ∃ rr, rt (fun i => F (k + i)) (n - k) = rr := ⟨_, rfl⟩
        have hrl : ∀ j, rr j < 256 := by rw [← hrr]; exact rt_all HX.out.lt _ _
        have heq : LA = LB ++ [rr] := by rw [← HLA.out, ← hLB, ← hrr, ← HKs.out]; exact pth_low F (by have := HN.out.2.1; omega) (by rw [HKs.out]; exact hik)
        have hpb := path_any (c := c) (m := i) (HT.out.keep HB3.out) ((HX.out.keep HB3.out).head k (by have := HN.out.2.2.2.1; omega)) (by have := HC.out.1; omega) (by have := HC.out.2; omega) (by have := HN.out.1; omega) (by have := HN.out.2.2.1; omega)
        rw [hLB] at hpb

        have HPb := hide hpb
        have HEq := hide heq
        have HlB := hide hlB
        have HnB := hide hnB
        have HRl := hide hrl
        have HRr := hide hrr
        have HIk := hide hik
        clear hpb heq hlB hnB hrl hrr hLB hik
        go_upto_region 9 with (go_at_call 9; with_reducible refine Calls.mono HPb.out ?_; rintro e W4 hp; obtain ⟨a4, c4, rfl, _, h4, hb4⟩ := hp.out HlB.out; have HO4 := hide h4; have HB4 := hide hb4; clear h4 hb4 hp)
        obtain ⟨lb, hlb⟩ : ∃ lb, LB.length = lb := ⟨_, rfl⟩
        have HLb := hide hlb
        have hro := refRoot_any (n - k) (c := c - k) ((((HX.out.keep HB3.out).keep HB4.out)).tail k) (by have := HC.out.1; omega) (by have := HC.out.2; omega) (by have := HN.out.1; omega)
        unfold hv at hro
        rw [HRr.out] at hro
        have HRo := hide hro
        clear hro hlb
        go_upto_region 12 with (first
          | (go_at_call 15; with_reducible refine Calls.mono HRo.out ?_; rintro e W5 ⟨rfl, hb5⟩; have HO5 := hide (HO4.out.keep hb5); have HB5 := hide (Go.Proofs.YteplklbpehkdjaaDoor.K.call HB4.out hb5); clear hb5)
          | (refine wpList_oneH rfl rfl (by rfl) HRl.out ?_; intro q6 W6 hq6 hl6 ho6 hb6; have HO6 := hide (HO5.out.keep hb6); have HL6 := hide ho6; have HB6 := hide (Go.Proofs.YteplklbpehkdjaaDoor.K.call HB5.out hb6); clear hq6 hl6 ho6 hb6)
          | (at_builtin; refine wpList_appH rfl _ _ rfl rfl HO6.out rfl HL6.out (by have := HnB.out; have := HN.out.1; omega) HB6.out.size ?_; intro v7 W7 ho7 hg7; have HB7 := hide (OH.below HO6.out HB6.out hg7); have ho8 := OH.snoc ho7; rw [← HEq.out, HLa.out] at ho8; obtain ⟨a7, c7, rfl, _, _⟩ := ho8.form; have HH7 := hide (ho8.hl (lF_lt HlA.out)); clear ho7 hg7 ho8))
        have HS := hide (same_l (c := c3) (d := c7) (HH3.out.keep HB7.out) HH7.out (by rw [← HLa.out]; have := HnA.out; have := HN.out.1; omega))
        go_wp2_with (go_at_call 11; refine Calls.mono HS.out ?_; rintro e W8 ⟨rfl, hb8⟩; have HB8 := hide (Go.Proofs.YteplklbpehkdjaaDoor.K.call HB3.out (Go.Proofs.YteplklbpehkdjaaDoor.K.call HB7.out hb8)); clear hb8)
        go_ret
        exact ⟨rfl, HB8.out⟩
      · have hik' : (k : Int) ≤ (i : Int) := by omega
        have hsub := sub_i (show k ≤ i by omega)
        have hsw : wrap64 ((i : Int) - (k : Int)) = (i : Int) - (k : Int) := by rw [hsub]; exact wrap_n (by have := HN.out.1; have := HN.out.2.2.1; omega)
        have hkc : k ≤ c := by have := HC.out.1; have := HN.out.2.2.2.1; omega
        have hkn : k < n := HN.out.2.2.2.1
        have hck : ¬ (c = k) := by have := HC.out.1; omega
        have hkI : (k : Int) ≤ (n : Int) := by omega
        have hkJ : (k : Int) ≤ (c : Int) := by omega
        obtain ⟨LB, hLB⟩ : ∃ L, pth (fun i => F (k + i)) (n - k) (i - k) = L := ⟨_, rfl⟩
        have hlB : ∀ f ∈ LB, ∀ j, f j < 256 := by rw [← hLB]; exact pth_lt _ _ (fun i j => HX.out.lt (k + i) j)
        have hnB : LB.length ≤ n := by rw [← hLB]; exact Nat.le_trans (pth_len_n _ _ _) (by omega)
        obtain ⟨rr, hrr⟩ : ∃ rr, rt F k = rr := ⟨_, rfl⟩
        have hrl : ∀ j, rr j < 256 := by rw [← hrr]; exact rt_lt HX.out.lt _
        have heq : LA = LB ++ [rr] := by rw [← HLA.out, ← hLB, ← hrr, ← HKs.out]; exact pth_up F (by have := HN.out.2.1; omega) (by rw [HKs.out]; exact hik)
        have hpb := path_any (c := c - k) (m := i - k) (HT.out.keep HB3.out) ((HX.out.keep HB3.out).tail k) (by have := HC.out.1; omega) (by have := HC.out.2; omega) (by have := HN.out.1; omega) (by have := HN.out.2.2.1; omega)
        rw [hLB] at hpb
        rw [← hsub] at hpb
        have HPb := hide hpb
        have HEq := hide heq
        have HlB := hide hlB
        have HnB := hide hnB
        have HRl := hide hrl
        have HRr := hide hrr
        have HIk := hide hik
        clear hpb heq hlB hnB hrl hrr hLB hik hsub
        go_upto_region 11 with (go_at_call 9; with_reducible refine Calls.mono HPb.out ?_; rintro e W4 hp; obtain ⟨a4, c4, rfl, _, h4, hb4⟩ := hp.out HlB.out; have HO4 := hide h4; have HB4 := hide hb4; clear h4 hb4 hp)
        obtain ⟨lb, hlb⟩ : ∃ lb, LB.length = lb := ⟨_, rfl⟩
        have HLb := hide hlb
        have hro := refRoot_any k (c := c) ((((HX.out.keep HB3.out).keep HB4.out)).head k (by have := HN.out.2.2.2.1; omega)) (by have := HC.out.1; have := HN.out.2.2.2.1; omega) HC.out.2 (by have := HN.out.1; have := HN.out.2.2.2.1; omega)
        unfold hv at hro
        rw [HRr.out] at hro
        have HRo := hide hro
        clear hro hlb
        go_upto_region 12 with (first
          | (go_at_call 15; with_reducible refine Calls.mono HRo.out ?_; rintro e W5 ⟨rfl, hb5⟩; have HO5 := hide (HO4.out.keep hb5); have HB5 := hide (Go.Proofs.YteplklbpehkdjaaDoor.K.call HB4.out hb5); clear hb5)
          | (refine wpList_oneH rfl rfl (by rfl) HRl.out ?_; intro q6 W6 hq6 hl6 ho6 hb6; have HO6 := hide (HO5.out.keep hb6); have HL6 := hide ho6; have HB6 := hide (Go.Proofs.YteplklbpehkdjaaDoor.K.call HB5.out hb6); clear hq6 hl6 ho6 hb6)
          | (at_builtin; refine wpList_appH rfl _ _ rfl rfl HO6.out rfl HL6.out (by have := HnB.out; have := HN.out.1; omega) HB6.out.size ?_; intro v7 W7 ho7 hg7; have HB7 := hide (OH.below HO6.out HB6.out hg7); have ho8 := OH.snoc ho7; rw [← HEq.out, HLa.out] at ho8; obtain ⟨a7, c7, rfl, _, _⟩ := ho8.form; have HH7 := hide (ho8.hl (lF_lt HlA.out)); clear ho7 hg7 ho8))
        have HS := hide (same_l (c := c3) (d := c7) (HH3.out.keep HB7.out) HH7.out (by rw [← HLa.out]; have := HnA.out; have := HN.out.1; omega))
        go_wp2_with (go_at_call 11; refine Calls.mono HS.out ?_; rintro e W8 ⟨rfl, hb8⟩; have HB8 := hide (Go.Proofs.YteplklbpehkdjaaDoor.K.call HB3.out (Go.Proofs.YteplklbpehkdjaaDoor.K.call HB7.out hb8)); clear hb8)
        go_ret
        exact ⟨rfl, HB8.out⟩
  · have hq : (80 : Int) < (n : Int) := by omega
    clear hn
    go_enter Tryd.func6, Tryd.ntmps6
    go_upto_region 2 with (go_at_call 8; refine Calls.mono (awake_any HT.out) ?_; rintro e W1 ⟨rfl, hb⟩; have HB1 := hide hb; clear hb)
    go_wp2_with (go_at_call 8; refine Calls.mono (awake_any (HT.out.keep HB1.out)) ?_; rintro e W2 ⟨rfl, hb⟩; have HB2 := hide (Go.Proofs.YteplklbpehkdjaaDoor.K.call HB1.out hb); clear hb)
    go_ret
    exact ⟨rfl, HB2.out⟩
end Go.Proofs.YteplklbpehkdjaaDoor
