/- MerkleLast. -/
import Derived.Test.YtpophfeommlajaaDoorL16D
import Derived.Great.BuildSlice
namespace Go.Proofs.YtpophfeommlajaaDoor
open Go.RowKit
attribute [local go_sem ↓] Go.wp_at_zero Go.wp_at_succ

theorem wp_emptyH {op : Oper} {a : Act} {w : World} {Kt : Act → World → Prop} {Q : Exit → Act → World → Prop} {base : Nat} {F : Nat → Nat → Nat} (ho : op.op = .buildSlice 29 0 #[]) (hbase : base ≤ w.heap.size)
    (h : ∀ p W', p = w.heap.size → OH W' base (.slice (some ⟨p, 0, none⟩) 0 0) 0 F → Below w.heap.size w W' → Kt (a.put op.dst (.slice (some ⟨p, 0, none⟩) 0 0)) W') : Oper.wp Tryd.prog op a w Kt Q := by
  have h' := h w.heap.size (w.alloc (.cells #[] 24)) rfl (OH.empty w base hbase F) (K.alloc (Below.refl _ _) _)
  unfold Oper.wp execOp
  simp only [ho, List.map_toArray, List.map_nil]
  go_simp
  exact h'
theorem hl_one (w : World) (f : Nat → Nat) (hf : ∀ i, f i < 256) : HL (w.alloc (.cells (ab f 32).toArray 24)) (some ⟨w.heap.size, 0, none⟩) 1 (fun _ => f) :=
  ⟨fun _ => hf, Or.inr ⟨_, _, rfl, fun i hi => by
    obtain rfl : i = 0 := by omega
    exact RowB.range (RowB.made w 24 32 f _ rfl)⟩⟩
set_option maxRecDepth 100000 in
theorem fillH (f : Nat → Nat) (z : Value) (hz : z = .agg (ab (fun _ => 0) 32).toArray) : Instr.fill (fun i => some (i * 32, 32)) ((Array.range (1 * 32)).map (z.cells[· % z.cells.size]!)) [(0, .agg (ab f 32).toArray)] = some (ab f 32).toArray := by
  subst hz
  kernel_rfl
theorem wp_oneH {op : Oper} {a : Act} {w : World} {Kt : Act → World → Prop} {Q : Exit → Act → World → Prop} {x : Operand} {f : Nat → Nat} (ho : op.op = .buildSlice 29 1 #[(0, x)]) (hx : a.eval x = .agg (ab f 32).toArray) (hf : ∀ i, f i < 256)
    (h : ∀ p W', p = w.heap.size → p < W'.heap.size → HL W' (some ⟨p, 0, none⟩) 1 (fun _ => f) → Below w.heap.size w W' → Kt (a.put op.dst (.slice (some ⟨p, 0, none⟩) 1 1)) W') : Oper.wp Tryd.prog op a w Kt Q := by
  obtain ⟨ie, hi, hz, hs, _⟩ := info_parts infoHv
  refine wp_buildSlice 29 24 1 #[(0, x)] ho (ab f 32).toArray ie _ Tryd.underlying29 hi hz (by rw [hs]; decide) (by rw [hs]; decide) ?_ (h w.heap.size _ rfl (by simp) (hl_one w f hf) (K.alloc (Below.refl _ _) _))
  rw [hs]
  simp only [List.map_toArray, List.map_cons, List.map_nil, hx]
  exact fillH f _ rfl
theorem HL.grown {w w' : World} {q n : Nat} {F : Nat → Nat → Nat} {row : Option Nat} (h : HL w (some ⟨q, 0, none⟩) n F) (hq : q < w.heap.size) (hg : w.grownBy w' row) (hne : row = some q → False) : HL w' (some ⟨q, 0, none⟩) n F :=
  ⟨h.lt, h.at_.imp id fun ⟨b, o, e, hr⟩ => ⟨b, o, e, fun i hi j v hv => by
    cases e
    rw [World.cell?_of_block (w := w) (hg.block q hq (fun e => hne e.symm))]
    exact hr i hi j v hv⟩⟩
/-- What the list with one more is. -/
def OneMore (X : World) (n : Nat) (A : Nat → Nat → Nat) (v : Value) (wc : World) : Prop := ∃ a2 c2, v = .slice a2 (n + 1) c2 ∧ HL wc a2 (n + 1) A ∧ n + 1 ≤ c2 ∧ c2 ≤ maxLen ∧ Below X.heap.size X wc
set_option maxRecDepth 100000 in
set_option maxHeartbeats 1000000 in
theorem merkleLast_walk {w : World} {x y : Option Addr} {n c m d : Nat} {F : Nat → Nat → Nat} {fb : Nat → Nat} (hT : Tab w) (hx : HL w x n F) (hc : n ≤ c) (hcm : c ≤ maxLen) (hy : BA w y m fb) (hd : m ≤ d) (hdm : d ≤ maxLen) :
    Calls Tryd.prog 7 #[.slice x n c, .slice y m d] w fun e w' => e = .returned (.bool true) ∧ Below w.heap.size w w' := by
  have HT := hide hT
  have HX := hide hx
  have HY := hide hy
  have HC := hide (And.intro hc hcm)
  have HD := hide (And.intro hd hdm)
  clear hT hx hc hcm hy hd hdm
  by_cases hn : 64 < n
  · have hq : (64 : Int) < (n : Int) := by omega
    go_enter Tryd.func7, Tryd.ntmps7
    go_wp2_with fail
    with_reducible refine Calls.mono (awake_any HT.out) ?_
    rintro e W1 ⟨rfl, hb⟩
    have HB1 := hide hb
    clear hb
    go_wp2_with fail
    with_reducible refine Calls.mono (awake_any (HT.out.keep HB1.out)) ?_
    rintro e W2 ⟨rfl, hb⟩
    have HB2 := hide (K.call HB1.out hb)
    clear hb HB1
    go_wp2_with fail
    go_ret
    exact ⟨rfl, HB2.out⟩
  by_cases hz : n = 0
  · subst hz
    go_enter Tryd.func7, Tryd.ntmps7
    go_wp2_with fail
    with_reducible refine Calls.mono (awake_any HT.out) ?_
    rintro e W1 ⟨rfl, hb⟩
    have HB1 := hide hb
    clear hb
    go_wp2_with fail
    with_reducible refine Calls.mono (awake_any (HT.out.keep HB1.out)) ?_
    rintro e W2 ⟨rfl, hb⟩
    have HB2 := hide (K.call HB1.out hb)
    clear hb HB1
    go_wp2_with fail
    go_ret
    exact ⟨rfl, HB2.out⟩
  by_cases hm : 300 < m
  · have hq : (300 : Int) < (m : Int) := by omega
    have hq1 : (n : Int) ≤ 64 := by omega
    have hq2 : ((n : Int) == 0) = false := by simp; omega
    go_enter Tryd.func7, Tryd.ntmps7
    go_wp2_with fail
    with_reducible refine Calls.mono (awake_any HT.out) ?_
    rintro e W1 ⟨rfl, hb⟩
    have HB1 := hide hb
    clear hb
    go_wp2_with fail
    with_reducible refine Calls.mono (awake_any (HT.out.keep HB1.out)) ?_
    rintro e W2 ⟨rfl, hb⟩
    have HB2 := hide (K.call HB1.out hb)
    clear hb HB1
    go_wp2_with fail
    go_ret
    exact ⟨rfl, HB2.out⟩
  rcases HX.out.at_ with h4 | ⟨b, o, rfl, _⟩
  · omega
  have hq1 : (n : Int) ≤ 64 := by omega
  have hq2 : ((n : Int) == 0) = false := by simp; omega
  have hq3 : (m : Int) ≤ 300 := by omega
  have HN := hide (And.intro hn (And.intro hz hm))
  clear hn hz hm
  go_enter Tryd.func7, Tryd.ntmps7
  go_wp2_with fail
  with_reducible refine Calls.mono (awake_any HT.out) ?_
  rintro e W1 ⟨rfl, hb⟩
  have HB1 := hide hb
  clear hb
  obtain ⟨s1, hs1⟩ : ∃ s1, s1 = lf fb m := ⟨_, rfl⟩
  have HTr := hide (leaf_any (HT.out.keep HB1.out) (HY.out.keep HB1.out) HD.out.1 HD.out.2 (by have := HN.out; omega))
  have HS1 : Hid (∀ i, s1 i < 256) := by rw [hs1]; exact lf_lt fb m
  unfold hv at HTr
  rw [← hs1] at HTr
  clear hs1
  go_wp2_with fail
  with_reducible refine Calls.mono HTr.out ?_
  rintro e W3 ⟨rfl, hb⟩
  have HB3 := hide (K.call HB1.out hb)
  clear hb HTr HB1
  have HTH := hide (RowB.there (RowB.made W3 24 32 (fun _ => 0) _ zeros32) s1)
  go_upto_region 4 with (refine wpList_store_mid rfl 24 _ _ rfl W3.heap.size 0 (ab s1 32).toArray rfl rfl HTH.out (inH _) (all_oneCell_toArray (ab_one _ _)) ?_)
  refine wp_world (fun X hX => ?_)
  rw [zeros32] at hX
  obtain ⟨hBX, hRh⟩ := store_new rfl hX (Below.refl _ W3)
  obtain ⟨bh, hbh⟩ : ∃ bh, bh = W3.heap.size := ⟨_, rfl⟩
  rw [← hbh] at hRh ⊢
  have HRh := hide hRh
  have HBX := hide (K.call HB3.out hBX)
  clear hX hbh hRh hBX HTH HB3
  have HX0 := hide (HX.out.keep HBX.out)
  clear HX
  have HX := HX0
  simp only [Act.put]
  go_cut [6] (fun s6 wc => OneMore X n (hcat F n (fun _ => s1)) s6 wc)
  case first =>
    refine wp_region_noPanic ?_
    refine wp_region_held_drew (S := fun w' => Below X.heap.size X w') (by kernel_rfl) (Go.Proofs.YtpophfeommlajaaDoor.K.drew (Below.refl _ X)) (fun hS0 => ?_)
    refine wpAnyH_take (i := 1) (v := .slice (some ⟨b, o, none⟩) n c) rfl (by kernel_rfl) (by kernel_rfl) (by kernel_rfl) (fun _ _ _ h => h) (Or.inl ⟨by rfl, fun w' _ => by go_simp⟩) hS0 ?_
    simp only [Act.put, List.getElem_toArray, List.setIfInBounds_toArray]
    refine wpAnyH_take (i := 3) (v := .agg (ab s1 32).toArray) rfl (by kernel_rfl) (by kernel_rfl) (by kernel_rfl) (fun _ _ _ h => h) (yieldsIf_load_mid (by rfl) 24 _ rfl bh 0 (by rfl) (ab s1 32) _ (fun w' hS => range_keep HRh.out hS) Tryd.underlying24 rfl (ilH _)) hS0 ?_
    simp only [Act.put, List.getElem_toArray, List.getElem_cons_zero, List.getElem_cons_succ, List.setIfInBounds_toArray, List.set_cons_zero, List.set_cons_succ]
    refine wpAnyH_ready (rs := [0, 4]) (by kernel_rfl) (by simp) (AllReadyH.cons rfl (fun Kt hK => ?_) (AllReadyH.cons rfl (fun Kt hK => ?_) AllReadyH.nil))
    · refine wanted_pos rfl ?_
      refine wp_emptyH (F := F) (base := X.heap.size) rfl hS0.size (fun gW1 W1 hgW1 ho hb => hK.out _ _ (K.call hS0 hb) (fun hS1 => ?_))
      clear hK Kt
      simp only [Act.put, List.getElem_toArray, List.getElem_cons_zero, List.setIfInBounds_toArray, List.set_cons_zero, List.set_cons_succ]
      have HOW1 := hide ho
      clear ho hb hgW1
      refine wpAnyH_ready (rs := [2, 4]) (by kernel_rfl) (by simp) (AllReadyH.cons rfl (fun Kt hK => ?_) (AllReadyH.cons rfl (fun Kt hK => ?_) AllReadyH.nil))
      · refine wanted_pos rfl ?_
        refine wp_appH _ _ rfl (by rfl) HOW1.out (by rfl) (HX.out.keep hS1) (by have := HN.out; omega) hS1.size (fun vW2 W2 ho hg => hK.out _ _ (OH.below HOW1.out hS1 hg) (fun hS2 => ?_))
        clear hK Kt
        simp only [Act.put, List.getElem_toArray, List.getElem_cons_zero, List.getElem_cons_succ, List.setIfInBounds_toArray, List.set_cons_zero, List.set_cons_succ]
        rw [Nat.zero_add, hcat_zero] at ho
        have HOW2 := hide ho
        clear ho hg
        refine wpAnyH_ready (rs := [4]) (by kernel_rfl) (by simp) (AllReadyH.cons rfl (fun Kt hK => ?_) AllReadyH.nil)
        refine wanted_pos rfl ?_
        refine wp_oneH (f := s1) rfl (by rfl) HS1.out (fun qW3 W3 hqW3 hlW3 ho hb => hK.out _ _ (K.call hS2 hb) (fun hS3 => ?_))
        clear hK Kt
        simp only [Act.put, List.getElem_toArray, List.getElem_cons_zero, List.getElem_cons_succ, List.setIfInBounds_toArray, List.set_cons_zero, List.set_cons_succ]
        have HLW3 := hide ho
        have HOW3 := hide (HOW2.out.keep hb)
        clear ho hb hqW3
        refine wpAnyH_ready (rs := [5]) (by kernel_rfl) (by simp) (AllReadyH.cons rfl (fun Kt hK => ?_) AllReadyH.nil)
        refine wanted_pos rfl ?_
        refine wp_appH _ _ rfl (by rfl) HOW3.out (by rfl) HLW3.out (by have := HN.out; omega) hS3.size (fun vW4 W4 ho hg => hK.out _ _ (OH.below HOW3.out hS3 hg) (fun hS4 => ?_))
        clear hK Kt
        simp only [Act.put, List.getElem_toArray, List.getElem_cons_zero, List.getElem_cons_succ, List.setIfInBounds_toArray, List.set_cons_zero, List.set_cons_succ]
        obtain ⟨a2, c2, rfl, hc2, hm2⟩ := OH.form ho
        refine wpAnyH_take (i := 6) (v := .slice a2 (n + 1) c2) rfl (by kernel_rfl) (by kernel_rfl) (by kernel_rfl) (fun _ _ _ h => h) (Or.inl ⟨by rfl, fun w' _ => by go_simp⟩) hS4 ?_
        simp only [Act.put, List.getElem_toArray, List.getElem_cons_zero, List.getElem_cons_succ, List.setIfInBounds_toArray, List.set_cons_zero, List.set_cons_succ]
        refine wpAnyH_done (by kernel_rfl) ?_ _
        refine NoPanic.normal ?_
        go_wp2_with fail
        go_meet
        exact ⟨a2, c2, rfl, ho.hl (hcat_lt HX0.out.lt (fun _ => HS1.out) n), hc2, hm2, hS4⟩
      · refine wanted_pos rfl ?_
        refine wp_oneH (f := s1) rfl (by rfl) HS1.out (fun qW5 W5 hqW5 hlW5 ho hb => hK.out _ _ (K.call hS1 hb) (fun hS5 => ?_))
        clear hK Kt
        simp only [Act.put, List.getElem_toArray, List.getElem_cons_zero, List.getElem_cons_succ, List.setIfInBounds_toArray, List.set_cons_zero, List.set_cons_succ]
        have HLW5 := hide ho
        have hne : qW5 ≠ gW1 := by have := (HOW1.out.lt gW1 rfl).2; omega
        have HOW5 := hide (HOW1.out.keep hb)
        clear ho hb hqW5
        refine wpAnyH_ready (rs := [2]) (by kernel_rfl) (by simp) (AllReadyH.cons rfl (fun Kt hK => ?_) AllReadyH.nil)
        refine wanted_pos rfl ?_
        refine wp_appH _ _ rfl (by rfl) HOW5.out (by rfl) (HX.out.keep hS5) (by have := HN.out; omega) hS5.size (fun vW6 W6 ho hg => hK.out _ _ (OH.below HOW5.out hS5 hg) (fun hS6 => ?_))
        clear hK Kt
        simp only [Act.put, List.getElem_toArray, List.getElem_cons_zero, List.getElem_cons_succ, List.setIfInBounds_toArray, List.set_cons_zero, List.set_cons_succ]
        rw [Nat.zero_add, hcat_zero] at ho
        have HOW6 := hide ho
        have HLW6 := hide (HLW5.out.grown hlW5 hg (fun e => hne (Option.some.inj e).symm))
        clear ho hg
        refine wpAnyH_ready (rs := [5]) (by kernel_rfl) (by simp) (AllReadyH.cons rfl (fun Kt hK => ?_) AllReadyH.nil)
        refine wanted_pos rfl ?_
        refine wp_appH _ _ rfl (by rfl) HOW6.out (by rfl) HLW6.out (by have := HN.out; omega) hS6.size (fun vW7 W7 ho hg => hK.out _ _ (OH.below HOW6.out hS6 hg) (fun hS7 => ?_))
        clear hK Kt
        simp only [Act.put, List.getElem_toArray, List.getElem_cons_zero, List.getElem_cons_succ, List.setIfInBounds_toArray, List.set_cons_zero, List.set_cons_succ]
        obtain ⟨a2, c2, rfl, hc2, hm2⟩ := OH.form ho
        refine wpAnyH_take (i := 6) (v := .slice a2 (n + 1) c2) rfl (by kernel_rfl) (by kernel_rfl) (by kernel_rfl) (fun _ _ _ h => h) (Or.inl ⟨by rfl, fun w' _ => by go_simp⟩) hS7 ?_
        simp only [Act.put, List.getElem_toArray, List.getElem_cons_zero, List.getElem_cons_succ, List.setIfInBounds_toArray, List.set_cons_zero, List.set_cons_succ]
        refine wpAnyH_done (by kernel_rfl) ?_ _
        refine NoPanic.normal ?_
        go_wp2_with fail
        go_meet
        exact ⟨a2, c2, rfl, ho.hl (hcat_lt HX0.out.lt (fun _ => HS1.out) n), hc2, hm2, hS7⟩
    · refine wanted_pos rfl ?_
      refine wp_oneH (f := s1) rfl (by rfl) HS1.out (fun qW8 W8 hqW8 hlW8 ho hb => hK.out _ _ (K.call hS0 hb) (fun hS8 => ?_))
      clear hK Kt
      simp only [Act.put, List.getElem_toArray, List.getElem_cons_zero, List.getElem_cons_succ, List.setIfInBounds_toArray, List.set_cons_zero, List.set_cons_succ]
      have HLW8 := hide ho
      clear ho hb hqW8
      refine wpAnyH_ready (rs := [0]) (by kernel_rfl) (by simp) (AllReadyH.cons rfl (fun Kt hK => ?_) AllReadyH.nil)
      refine wanted_pos rfl ?_
      refine wp_emptyH (F := F) (base := X.heap.size) rfl hS8.size (fun gW9 W9 hgW9 ho hb => hK.out _ _ (K.call hS8 hb) (fun hS9 => ?_))
      clear hK Kt
      simp only [Act.put, List.getElem_toArray, List.getElem_cons_zero, List.setIfInBounds_toArray, List.set_cons_zero, List.set_cons_succ]
      have HOW9 := hide ho
      have HLW9 := hide (HLW8.out.keep hb)
      have hne : qW8 ≠ gW9 := by have := hlW8; omega
      have hlW9 := Nat.lt_of_lt_of_le hlW8 hb.size
      clear ho hb hgW9
      refine wpAnyH_ready (rs := [2]) (by kernel_rfl) (by simp) (AllReadyH.cons rfl (fun Kt hK => ?_) AllReadyH.nil)
      refine wanted_pos rfl ?_
      refine wp_appH _ _ rfl (by rfl) HOW9.out (by rfl) (HX.out.keep hS9) (by have := HN.out; omega) hS9.size (fun vW10 W10 ho hg => hK.out _ _ (OH.below HOW9.out hS9 hg) (fun hS10 => ?_))
      clear hK Kt
      simp only [Act.put, List.getElem_toArray, List.getElem_cons_zero, List.getElem_cons_succ, List.setIfInBounds_toArray, List.set_cons_zero, List.set_cons_succ]
      rw [Nat.zero_add, hcat_zero] at ho
      have HOW10 := hide ho
      have HLW10 := hide (HLW9.out.grown hlW9 hg (fun e => hne (Option.some.inj e).symm))
      clear ho hg
      refine wpAnyH_ready (rs := [5]) (by kernel_rfl) (by simp) (AllReadyH.cons rfl (fun Kt hK => ?_) AllReadyH.nil)
      refine wanted_pos rfl ?_
      refine wp_appH _ _ rfl (by rfl) HOW10.out (by rfl) HLW10.out (by have := HN.out; omega) hS10.size (fun vW11 W11 ho hg => hK.out _ _ (OH.below HOW10.out hS10 hg) (fun hS11 => ?_))
      clear hK Kt
      simp only [Act.put, List.getElem_toArray, List.getElem_cons_zero, List.getElem_cons_succ, List.setIfInBounds_toArray, List.set_cons_zero, List.set_cons_succ]
      obtain ⟨a2, c2, rfl, hc2, hm2⟩ := OH.form ho
      refine wpAnyH_take (i := 6) (v := .slice a2 (n + 1) c2) rfl (by kernel_rfl) (by kernel_rfl) (by kernel_rfl) (fun _ _ _ h => h) (Or.inl ⟨by rfl, fun w' _ => by go_simp⟩) hS11 ?_
      simp only [Act.put, List.getElem_toArray, List.getElem_cons_zero, List.getElem_cons_succ, List.setIfInBounds_toArray, List.set_cons_zero, List.set_cons_succ]
      refine wpAnyH_done (by kernel_rfl) ?_ _
      refine NoPanic.normal ?_
      go_wp2_with fail
      go_meet
      exact ⟨a2, c2, rfl, ho.hl (hcat_lt HX0.out.lt (fun _ => HS1.out) n), hc2, hm2, hS11⟩
  case rest =>
  obtain ⟨a2, c2, rfl, hA, hc2, hm2, hBc⟩ := hcut
  rcases hA.at_ with h4 | ⟨p, u, rfl, _⟩
  · omega
  obtain ⟨A, hAe⟩ : ∃ A, A = hcat F n (fun _ => s1) := ⟨_, rfl⟩
  rw [← hAe] at hA
  have k1 := sp_lt (n := n + 1) (by have := HN.out; omega)
  have k2 := sp_pos (n := n + 1) (by have := HN.out; omega)
  have hrA := rt_more A (n := n + 1) (by have := HN.out; omega)
  have HSp := hide (fun W => split_any W (k := ((n : Int) + 1)) (by omega) (by omega))
  rw [show ((n : Int) + 1).toNat = n + 1 by omega] at HSp
  generalize sp (n + 1) = k at *
  have hlow : ∀ i, i < n → A i = F i := fun i hi => by rw [hAe]; exact hcat_low F _ hi
  have hup : A n = s1 := by rw [hAe]; exact (hcat_up F (fun _ => s1) 0)
  have hrk : ∀ j, j < 32 → rt A k j = rt F k j := rt_congr k (fun i hi j _ => by rw [hlow i (by omega)])
  rw [nd_congr (g' := rt (fun i => A (k + i)) (n + 1 - k)) hrk (fun j _ => rfl)] at hrA
  have hlast : k = n → nd (rt F n) s1 = rt A (n + 1) := fun e => by
    rw [hrA, e, show n + 1 - n = 1 by omega, rt_one, Nat.add_zero, hup]
  have hn6 : n ≤ 64 := by have := HN.out; omega
  have hkn1 : k ≤ n := by omega
  have hkc : k ≤ c := by have := HC.out.1; omega
  have hne1 : ¬ (c = k) ∨ k = c := by omega
  have HBw := hide (K.call HBX.out hBc)
  have HRA := hide (fun W (h : Below wc.heap.size wc W) => root_any (n + 1) (c := c2) ((HT.out.keep HBw.out).keep h) (hA.keep h) hc2 hm2 (by omega))
  have HR2 := hide (fun W (h : Below wc.heap.size wc W) => root_any k (c := c) ((HT.out.keep HBw.out).keep h) (((HX.out.head k hkn1).keep hBc).keep h) hkc HC.out.2 (by omega))
  have HR3 := hide (fun W (h : Below wc.heap.size wc W) => root_any (n + 1 - k) (c := c2 - k) ((HT.out.keep HBw.out).keep h) ((hA.tail k).keep h) (by omega) (by omega) (by omega))
  have HNA := hide (fun W (h : Below wc.heap.size wc W) => node_any ((HT.out.keep HBw.out).keep h) (rt_lt HX.out.lt k) (rt_lt (fun i => hA.lt (k + i)) (n + 1 - k)))
  have HR4 := hide (fun W (h : Below wc.heap.size wc W) => root_any n (c := c) ((HT.out.keep HBw.out).keep h) ((HX.out.keep hBc).keep h) HC.out.1 HC.out.2 (by omega))
  have HN4 := hide (fun W (h : Below wc.heap.size wc W) => node_any ((HT.out.keep HBw.out).keep h) (rt_lt HX.out.lt n) HS1.out)
  have HRhc := hide (range_keep HRh.out hBc)
  have HEA := hide (fun W => eqH_same (rt A (n + 1)) W)
  rw [← hrA] at HNA
  unfold hv at HRA HR2 HR3 HNA HR4 HN4
  generalize rt A (n + 1) = sA at HRA HNA HEA hlast
  generalize rt F k = s2 at HR2 HNA
  generalize rt (fun i => A (k + i)) (n + 1 - k) = s3 at HR3 HNA
  have hne2 : ¬ (c2 = k) := by omega
  have hkI : (k : Int) ≤ (n : Int) + 1 := by omega
  have hkJ : (k : Int) ≤ (n : Int) := by omega
  have HLs := hide hlast
  have HKn := hide (And.intro k1 k2)
  clear hlow hup hrk hrA hlast hAe hA hBc hn6 k1 k2
  go_wp2_with fail
  with_reducible refine Calls.mono (HSp.out _) ?_
  rintro e w4 ⟨rfl, hw⟩
  replace hw := hw.symm
  subst hw
  go_upto_region 6 with fail
  refine wp_region_noPanic ?_
  refine wp_region_held_drew (S := fun w' => Below wc.heap.size wc w') (by kernel_rfl) (Go.Proofs.YtpophfeommlajaaDoor.K.drew (Below.refl _ wc)) (fun hS0 => ?_)
  refine wpAnyH_take (i := 0) (v := .slice (some ⟨p, u, none⟩) (n + 1) c2) rfl (by kernel_rfl) (by kernel_rfl) (by kernel_rfl) (fun _ _ _ h => h) (Or.inl ⟨by rfl, fun w' _ => by go_simp⟩) hS0 ?_
  simp only [Act.put, List.getElem_toArray, List.getElem_cons_zero, List.setIfInBounds_toArray, List.set_cons_zero, List.set_cons_succ]
  refine wpAnyH_take (i := 2) (v := .slice (some ⟨b, o, none⟩) n c) rfl (by kernel_rfl) (by kernel_rfl) (by kernel_rfl) (fun _ _ _ h => h) (Or.inl ⟨by rfl, fun w' _ => by go_simp⟩) hS0 ?_
  simp only [Act.put, List.getElem_toArray, List.setIfInBounds_toArray]
  refine wpAnyH_take (i := 3) (v := .int .i64 (k : Int)) rfl (by kernel_rfl) (by kernel_rfl) (by kernel_rfl) (fun _ _ _ h => h) (Or.inl ⟨by rfl, fun w' _ => by go_simp⟩) hS0 ?_
  simp only [Act.put, List.getElem_toArray, List.getElem_cons_zero, List.getElem_cons_succ, List.setIfInBounds_toArray, List.set_cons_zero, List.set_cons_succ]
  refine wpAnyH_take (i := 4) (v := .slice (some ⟨b, o, none⟩) k c) rfl (by kernel_rfl) (by kernel_rfl) (by kernel_rfl) (fun _ _ _ h => h) (Or.inl ⟨by rfl, fun w' _ => by go_simp⟩) hS0 ?_
  simp only [Act.put, List.getElem_toArray, List.getElem_cons_zero, List.getElem_cons_succ, List.setIfInBounds_toArray, List.set_cons_zero, List.set_cons_succ]
  refine wpAnyH_take (i := 6) (v := .slice (some ⟨p, u, none⟩) (n + 1) c2) rfl (by kernel_rfl) (by kernel_rfl) (by kernel_rfl) (fun _ _ _ h => h) (Or.inl ⟨by rfl, fun w' _ => by go_simp⟩) hS0 ?_
  simp only [Act.put, List.getElem_toArray, List.getElem_cons_zero, List.getElem_cons_succ, List.setIfInBounds_toArray, List.set_cons_zero, List.set_cons_succ]
  refine wpAnyH_take (i := 7) (v := .int .i64 (k : Int)) rfl (by kernel_rfl) (by kernel_rfl) (by kernel_rfl) (fun _ _ _ h => h) (Or.inl ⟨by rfl, fun w' _ => by go_simp⟩) hS0 ?_
  simp only [Act.put, List.getElem_toArray, List.getElem_cons_zero, List.getElem_cons_succ, List.setIfInBounds_toArray, List.set_cons_zero, List.set_cons_succ]
  refine wpAnyH_take (i := 8) (v := .slice (some ⟨p, u + k * 32, none⟩) (n + 1 - k) (c2 - k)) rfl (by kernel_rfl) (by kernel_rfl) (by kernel_rfl) (fun _ _ _ h => h) (Or.inl ⟨by rfl, fun w' _ => by go_simp⟩) hS0 ?_
  simp only [Act.put, List.getElem_toArray, List.getElem_cons_zero, List.getElem_cons_succ, List.setIfInBounds_toArray, List.set_cons_zero, List.set_cons_succ]
  refine wpAnyH_ready (rs := [1]) (by kernel_rfl) (by simp) (AllReadyH.cons rfl (fun Kt hK => ?_) AllReadyH.nil)
  refine wanted_pos rfl ?_
  refine wp_call (R := fun r w' => r = .agg (ab sA 32).toArray ∧ Below wc.heap.size wc w') (vs := #[.slice (some ⟨p, u, none⟩) (n + 1) c2]) rfl (by simp only [List.map_toArray, List.map_cons, List.map_nil]; rfl) (by go_simp) (Calls.mono (HRA.out _ hS0) (fun e w' ⟨he, hb⟩ => ⟨_, he, rfl, K.call hS0 hb⟩)) (fun r W1 ⟨hr, hb⟩ => ?_)
  subst hr
  refine hK.out _ _ hb (fun hS1 => ?_)
  clear hK Kt hb
  simp only [Act.put, List.getElem_toArray, List.getElem_cons_zero, List.getElem_cons_succ, List.setIfInBounds_toArray, List.set_cons_zero, List.set_cons_succ]
  refine wpAnyH_ready (rs := [5]) (by kernel_rfl) (by simp) (AllReadyH.cons rfl (fun Kt hK => ?_) AllReadyH.nil)
  refine wanted_pos rfl ?_
  refine wp_call (R := fun r w' => r = .agg (ab s2 32).toArray ∧ Below wc.heap.size wc w') (vs := #[.slice (some ⟨b, o, none⟩) k c]) rfl (by simp only [List.map_toArray, List.map_cons, List.map_nil]; rfl) (by go_simp) (Calls.mono (HR2.out _ hS1) (fun e w' ⟨he, hb⟩ => ⟨_, he, rfl, K.call hS1 hb⟩)) (fun r W2 ⟨hr, hb⟩ => ?_)
  subst hr
  refine hK.out _ _ hb (fun hS2 => ?_)
  clear hK Kt hb
  simp only [Act.put, List.getElem_toArray, List.getElem_cons_zero, List.getElem_cons_succ, List.setIfInBounds_toArray, List.set_cons_zero, List.set_cons_succ]
  refine wpAnyH_ready (rs := [9]) (by kernel_rfl) (by simp) (AllReadyH.cons rfl (fun Kt hK => ?_) AllReadyH.nil)
  refine wanted_pos rfl ?_
  refine wp_call (R := fun r w' => r = .agg (ab s3 32).toArray ∧ Below wc.heap.size wc w') (vs := #[.slice (some ⟨p, u + k * 32, none⟩) (n + 1 - k) (c2 - k)]) rfl (by simp only [List.map_toArray, List.map_cons, List.map_nil]; rfl) (by go_simp) (Calls.mono (HR3.out _ hS2) (fun e w' ⟨he, hb⟩ => ⟨_, he, rfl, K.call hS2 hb⟩)) (fun r W3 ⟨hr, hb⟩ => ?_)
  subst hr
  refine hK.out _ _ hb (fun hS3 => ?_)
  clear hK Kt hb
  simp only [Act.put, List.getElem_toArray, List.getElem_cons_zero, List.getElem_cons_succ, List.setIfInBounds_toArray, List.set_cons_zero, List.set_cons_succ]
  refine wpAnyH_ready (rs := [10]) (by kernel_rfl) (by simp) (AllReadyH.cons rfl (fun Kt hK => ?_) AllReadyH.nil)
  refine wanted_pos rfl ?_
  refine wp_call (R := fun r w' => r = .agg (ab sA 32).toArray ∧ Below wc.heap.size wc w') (vs := #[.agg (ab s2 32).toArray, .agg (ab s3 32).toArray]) rfl (by simp only [List.map_toArray, List.map_cons, List.map_nil]; rfl) (by go_simp) (Calls.mono (HNA.out _ hS3) (fun e w' ⟨he, hb⟩ => ⟨_, he, rfl, K.call hS3 hb⟩)) (fun r W4 ⟨hr, hb⟩ => ?_)
  subst hr
  refine hK.out _ _ hb (fun hS4 => ?_)
  clear hK Kt hb
  simp only [Act.put, List.getElem_toArray, List.getElem_cons_zero, List.getElem_cons_succ, List.setIfInBounds_toArray, List.set_cons_zero, List.set_cons_succ]
  refine wpAnyH_take (i := 11) (v := .bool false) rfl (by kernel_rfl) (by kernel_rfl) (by kernel_rfl) (fun _ _ _ h => h) (yieldsIf_neH (by rfl) (ab sA 32).toArray (ab sA 32).toArray true rfl (by rfl) (by rfl) HEA.out) hS4 ?_
  simp only [Act.put, List.getElem_toArray, List.getElem_cons_zero, List.getElem_cons_succ, List.setIfInBounds_toArray, List.set_cons_zero, List.set_cons_succ]
  refine wpAnyH_done (by kernel_rfl) ?_ _
  refine NoPanic.normal ?_
  by_cases hkn : k = n
  · obtain rfl : n = k := hkn.symm
    rw [HLs.out rfl] at HN4
    generalize rt F n = s4 at HR4 HN4
    go_upto_region 8 with fail
    refine wp_region_noPanic ?_
    refine wp_region_held_drew (S := fun w' => Below wc.heap.size wc w') (by kernel_rfl) (Go.Proofs.YtpophfeommlajaaDoor.K.drew hS4) (fun hS0 => ?_)
    refine wpAnyH_take (i := 0) (v := .int .i64 (n : Int)) rfl (by kernel_rfl) (by kernel_rfl) (by kernel_rfl) (fun _ _ _ h => h) (Or.inl ⟨by rfl, fun w' _ => by go_simp⟩) hS0 ?_
    simp only [Act.put, List.getElem_toArray, List.getElem_cons_zero, List.setIfInBounds_toArray, List.set_cons_zero, List.set_cons_succ]
    refine wpAnyH_take (i := 1) (v := .slice (some ⟨b, o, none⟩) n c) rfl (by kernel_rfl) (by kernel_rfl) (by kernel_rfl) (fun _ _ _ h => h) (Or.inl ⟨by rfl, fun w' _ => by go_simp⟩) hS0 ?_
    simp only [Act.put, List.getElem_toArray, List.setIfInBounds_toArray]
    refine wpAnyH_take (i := 2) (v := .int .i64 (n : Int)) rfl (by kernel_rfl) (by kernel_rfl) (by kernel_rfl) (fun _ _ _ h => h) (Or.inl ⟨by rfl, fun w' _ => by go_simp⟩) hS0 ?_
    simp only [Act.put, List.getElem_toArray, List.getElem_cons_zero, List.getElem_cons_succ, List.setIfInBounds_toArray, List.set_cons_zero, List.set_cons_succ]
    refine wpAnyH_take (i := 3) (v := .bool false) rfl (by kernel_rfl) (by kernel_rfl) (by kernel_rfl) (fun _ _ _ h => h) (Or.inl ⟨by rfl, fun w' _ => by go_simp⟩) hS0 ?_
    simp only [Act.put, List.getElem_toArray, List.getElem_cons_zero, List.getElem_cons_succ, List.setIfInBounds_toArray, List.set_cons_zero, List.set_cons_succ]
    refine wpAnyH_take (i := 4) (v := .bool false) rfl (by kernel_rfl) (by kernel_rfl) (by kernel_rfl) (fun _ _ _ h => h) (Or.inl ⟨by rfl, fun w' _ => by go_simp⟩) hS0 ?_
    simp only [Act.put, List.getElem_toArray, List.getElem_cons_zero, List.getElem_cons_succ, List.setIfInBounds_toArray, List.set_cons_zero, List.set_cons_succ]
    refine wpAnyH_take (i := 5) (v := .slice (some ⟨p, u, none⟩) (n + 1) c2) rfl (by kernel_rfl) (by kernel_rfl) (by kernel_rfl) (fun _ _ _ h => h) (Or.inl ⟨by rfl, fun w' _ => by go_simp⟩) hS0 ?_
    simp only [Act.put, List.getElem_toArray, List.getElem_cons_zero, List.getElem_cons_succ, List.setIfInBounds_toArray, List.set_cons_zero, List.set_cons_succ]
    refine wpAnyH_take (i := 7) (v := .slice (some ⟨b, o, none⟩) n c) rfl (by kernel_rfl) (by kernel_rfl) (by kernel_rfl) (fun _ _ _ h => h) (Or.inl ⟨by rfl, fun w' _ => by go_simp⟩) hS0 ?_
    simp only [Act.put, List.getElem_toArray, List.getElem_cons_zero, List.getElem_cons_succ, List.setIfInBounds_toArray, List.set_cons_zero, List.set_cons_succ]
    refine wpAnyH_take (i := 9) (v := .agg (ab s1 32).toArray) rfl (by kernel_rfl) (by kernel_rfl) (by kernel_rfl) (fun _ _ _ h => h) (yieldsIf_load_mid (by rfl) 24 _ rfl bh 0 (by rfl) (ab s1 32) _ (fun w' hS => range_keep HRhc.out hS) Tryd.underlying24 rfl (ilH _)) hS0 ?_
    simp only [Act.put, List.getElem_toArray, List.getElem_cons_zero, List.getElem_cons_succ, List.setIfInBounds_toArray, List.set_cons_zero, List.set_cons_succ]
    refine wpAnyH_ready (rs := [6]) (by kernel_rfl) (by simp) (AllReadyH.cons rfl (fun Kt hK => ?_) AllReadyH.nil)
    refine wanted_pos rfl ?_
    refine wp_call (R := fun r w' => r = .agg (ab sA 32).toArray ∧ Below wc.heap.size wc w') (vs := #[.slice (some ⟨p, u, none⟩) (n + 1) c2]) rfl (by simp only [List.map_toArray, List.map_cons, List.map_nil]; rfl) (by go_simp) (Calls.mono (HRA.out _ hS0) (fun e w' ⟨he, hb⟩ => ⟨_, he, rfl, K.call hS0 hb⟩)) (fun r V1 ⟨hr, hb⟩ => ?_)
    subst hr
    refine hK.out _ _ hb (fun hS1 => ?_)
    clear hK Kt hb
    simp only [Act.put, List.getElem_toArray, List.getElem_cons_zero, List.getElem_cons_succ, List.setIfInBounds_toArray, List.set_cons_zero, List.set_cons_succ]
    refine wpAnyH_ready (rs := [8]) (by kernel_rfl) (by simp) (AllReadyH.cons rfl (fun Kt hK => ?_) AllReadyH.nil)
    refine wanted_pos rfl ?_
    refine wp_call (R := fun r w' => r = .agg (ab s4 32).toArray ∧ Below wc.heap.size wc w') (vs := #[.slice (some ⟨b, o, none⟩) n c]) rfl (by simp only [List.map_toArray, List.map_cons, List.map_nil]; rfl) (by go_simp) (Calls.mono (HR4.out _ hS1) (fun e w' ⟨he, hb⟩ => ⟨_, he, rfl, K.call hS1 hb⟩)) (fun r V2 ⟨hr, hb⟩ => ?_)
    subst hr
    refine hK.out _ _ hb (fun hS2 => ?_)
    clear hK Kt hb
    simp only [Act.put, List.getElem_toArray, List.getElem_cons_zero, List.getElem_cons_succ, List.setIfInBounds_toArray, List.set_cons_zero, List.set_cons_succ]
    refine wpAnyH_ready (rs := [10]) (by kernel_rfl) (by simp) (AllReadyH.cons rfl (fun Kt hK => ?_) AllReadyH.nil)
    refine wanted_pos rfl ?_
    refine wp_call (R := fun r w' => r = .agg (ab sA 32).toArray ∧ Below wc.heap.size wc w') (vs := #[.agg (ab s4 32).toArray, .agg (ab s1 32).toArray]) rfl (by simp only [List.map_toArray, List.map_cons, List.map_nil]; rfl) (by go_simp) (Calls.mono (HN4.out _ hS2) (fun e w' ⟨he, hb⟩ => ⟨_, he, rfl, K.call hS2 hb⟩)) (fun r V3 ⟨hr, hb⟩ => ?_)
    subst hr
    refine hK.out _ _ hb (fun hS3 => ?_)
    clear hK Kt hb
    simp only [Act.put, List.getElem_toArray, List.getElem_cons_zero, List.getElem_cons_succ, List.setIfInBounds_toArray, List.set_cons_zero, List.set_cons_succ]
    refine wpAnyH_take (i := 11) (v := .bool true) rfl (by kernel_rfl) (by kernel_rfl) (by kernel_rfl) (fun _ _ _ h => h) (yieldsIf_eqH (by rfl) (ab sA 32).toArray (ab sA 32).toArray true rfl (by rfl) (by rfl) HEA.out) hS3 ?_
    simp only [Act.put, List.getElem_toArray, List.getElem_cons_zero, List.getElem_cons_succ, List.setIfInBounds_toArray, List.set_cons_zero, List.set_cons_succ]
    refine wpAnyH_take (i := 12) (v := .bool true) rfl (by kernel_rfl) (by kernel_rfl) (by kernel_rfl) (fun _ _ _ h => h) (Or.inl ⟨by rfl, fun w' _ => by go_simp⟩) hS3 ?_
    simp only [Act.put, List.getElem_toArray, List.getElem_cons_zero, List.getElem_cons_succ, List.setIfInBounds_toArray, List.set_cons_zero, List.set_cons_succ]
    refine wpAnyH_take (i := 13) (v := .bool true) rfl (by kernel_rfl) (by kernel_rfl) (by kernel_rfl) (fun _ _ _ h => h) (Or.inl ⟨by rfl, fun w' _ => by go_simp⟩) hS3 ?_
    simp only [Act.put, List.getElem_toArray, List.getElem_cons_zero, List.getElem_cons_succ, List.setIfInBounds_toArray, List.set_cons_zero, List.set_cons_succ]
    refine wpAnyH_done (by kernel_rfl) ?_ _
    refine NoPanic.normal ?_
    go_wp2_with fail
    go_ret
    exact ⟨rfl, K.call HBw.out hS3⟩
  · have hq5 : ¬ ((k : Int) = (n : Int)) := by omega
    go_upto_region 8 with fail
    refine wp_region_noPanic ?_
    refine wp_region_held_drew (S := fun w' => Below wc.heap.size wc w') (by kernel_rfl) (Go.Proofs.YtpophfeommlajaaDoor.K.drew hS4) (fun hS0 => ?_)
    refine wpAnyH_take (i := 0) (v := .int .i64 (k : Int)) rfl (by kernel_rfl) (by kernel_rfl) (by kernel_rfl) (fun _ _ _ h => h) (Or.inl ⟨by rfl, fun w' _ => by go_simp⟩) hS0 ?_
    simp only [Act.put, List.getElem_toArray, List.getElem_cons_zero, List.setIfInBounds_toArray, List.set_cons_zero, List.set_cons_succ]
    refine wpAnyH_take (i := 1) (v := .slice (some ⟨b, o, none⟩) n c) rfl (by kernel_rfl) (by kernel_rfl) (by kernel_rfl) (fun _ _ _ h => h) (Or.inl ⟨by rfl, fun w' _ => by go_simp⟩) hS0 ?_
    simp only [Act.put, List.getElem_toArray, List.setIfInBounds_toArray]
    refine wpAnyH_take (i := 2) (v := .int .i64 (n : Int)) rfl (by kernel_rfl) (by kernel_rfl) (by kernel_rfl) (fun _ _ _ h => h) (Or.inl ⟨by rfl, fun w' _ => by go_simp⟩) hS0 ?_
    simp only [Act.put, List.getElem_toArray, List.getElem_cons_zero, List.getElem_cons_succ, List.setIfInBounds_toArray, List.set_cons_zero, List.set_cons_succ]
    refine wpAnyH_take (i := 3) (v := .bool true) rfl (by kernel_rfl) (by kernel_rfl) (by kernel_rfl) (fun _ _ _ h => h) (Or.inl ⟨by rfl, fun w' _ => by go_simp⟩) hS0 ?_
    simp only [Act.put, List.getElem_toArray, List.getElem_cons_zero, List.getElem_cons_succ, List.setIfInBounds_toArray, List.set_cons_zero, List.set_cons_succ]
    refine wpAnyH_take (i := 4) (v := .bool true) rfl (by kernel_rfl) (by kernel_rfl) (by kernel_rfl) (fun _ _ _ h => h) (Or.inl ⟨by rfl, fun w' _ => by go_simp⟩) hS0 ?_
    simp only [Act.put, List.getElem_toArray, List.getElem_cons_zero, List.getElem_cons_succ, List.setIfInBounds_toArray, List.set_cons_zero, List.set_cons_succ]
    refine wpAnyH_take (i := 5) (v := undef) rfl (by kernel_rfl) (by kernel_rfl) (by kernel_rfl) (fun _ _ _ h => h) (Or.inr ⟨by rfl, rfl⟩) hS0 ?_
    simp only [Act.put, List.getElem_toArray, List.getElem_cons_zero, List.getElem_cons_succ, List.setIfInBounds_toArray, List.set_cons_zero, List.set_cons_succ]
    refine wpAnyH_take (i := 6) (v := undef) rfl (by kernel_rfl) (by kernel_rfl) (by kernel_rfl) (fun _ _ _ h => h) (Or.inr ⟨by rfl, rfl⟩) hS0 ?_
    simp only [Act.put, List.getElem_toArray, List.getElem_cons_zero, List.getElem_cons_succ, List.setIfInBounds_toArray, List.set_cons_zero, List.set_cons_succ]
    refine wpAnyH_take (i := 7) (v := undef) rfl (by kernel_rfl) (by kernel_rfl) (by kernel_rfl) (fun _ _ _ h => h) (Or.inr ⟨by rfl, rfl⟩) hS0 ?_
    simp only [Act.put, List.getElem_toArray, List.getElem_cons_zero, List.getElem_cons_succ, List.setIfInBounds_toArray, List.set_cons_zero, List.set_cons_succ]
    refine wpAnyH_take (i := 8) (v := undef) rfl (by kernel_rfl) (by kernel_rfl) (by kernel_rfl) (fun _ _ _ h => h) (Or.inr ⟨by rfl, rfl⟩) hS0 ?_
    simp only [Act.put, List.getElem_toArray, List.getElem_cons_zero, List.getElem_cons_succ, List.setIfInBounds_toArray, List.set_cons_zero, List.set_cons_succ]
    refine wpAnyH_take (i := 9) (v := undef) rfl (by kernel_rfl) (by kernel_rfl) (by kernel_rfl) (fun _ _ _ h => h) (Or.inr ⟨by rfl, rfl⟩) hS0 ?_
    simp only [Act.put, List.getElem_toArray, List.getElem_cons_zero, List.getElem_cons_succ, List.setIfInBounds_toArray, List.set_cons_zero, List.set_cons_succ]
    refine wpAnyH_take (i := 10) (v := undef) rfl (by kernel_rfl) (by kernel_rfl) (by kernel_rfl) (fun _ _ _ h => h) (Or.inr ⟨by rfl, rfl⟩) hS0 ?_
    simp only [Act.put, List.getElem_toArray, List.getElem_cons_zero, List.getElem_cons_succ, List.setIfInBounds_toArray, List.set_cons_zero, List.set_cons_succ]
    refine wpAnyH_take (i := 11) (v := undef) rfl (by kernel_rfl) (by kernel_rfl) (by kernel_rfl) (fun _ _ _ h => h) (Or.inr ⟨by rfl, rfl⟩) hS0 ?_
    simp only [Act.put, List.getElem_toArray, List.getElem_cons_zero, List.getElem_cons_succ, List.setIfInBounds_toArray, List.set_cons_zero, List.set_cons_succ]
    refine wpAnyH_take (i := 12) (v := .bool true) rfl (by kernel_rfl) (by kernel_rfl) (by kernel_rfl) (fun _ _ _ h => h) (Or.inl ⟨by rfl, fun w' _ => by go_simp⟩) hS0 ?_
    simp only [Act.put, List.getElem_toArray, List.getElem_cons_zero, List.getElem_cons_succ, List.setIfInBounds_toArray, List.set_cons_zero, List.set_cons_succ]
    refine wpAnyH_take (i := 13) (v := .bool true) rfl (by kernel_rfl) (by kernel_rfl) (by kernel_rfl) (fun _ _ _ h => h) (Or.inl ⟨by rfl, fun w' _ => by go_simp⟩) hS0 ?_
    simp only [Act.put, List.getElem_toArray, List.getElem_cons_zero, List.getElem_cons_succ, List.setIfInBounds_toArray, List.set_cons_zero, List.set_cons_succ]
    refine wpAnyH_done (by kernel_rfl) ?_ _
    refine NoPanic.normal ?_
    go_wp2_with fail
    go_ret
    exact ⟨rfl, K.call HBw.out hS0⟩
end Go.Proofs.YtpophfeommlajaaDoor
