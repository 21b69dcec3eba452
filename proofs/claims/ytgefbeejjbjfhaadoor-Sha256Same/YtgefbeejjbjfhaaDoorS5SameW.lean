/- Sha256Same. -/
import Derived.Test.YtgefbeejjbjfhaaDoorP5Step
namespace Go.Proofs.YtgefbeejjbjfhaaDoor
open Go.RowKit
attribute [local go_sem ↓] Go.wp_at_zero Go.wp_at_succ

theorem le_of_eq7 {X W : World} {p : Nat} (h : p = W.heap.size) (hb : Below X.heap.size X W) : X.heap.size ≤ p := by rw [h]; exact hb.size
theorem below_sets {X W : World} {p : Nat} (hb : Below X.heap.size X W) (hp : X.heap.size ≤ p) (vs : List Value) : Below X.heap.size X (W.setCells p 0 vs) := below_setCells vs 0 hb hp
/-- The region ends in one way, but for where four blocks lie. -/
def Met (X : World) (U : Nat → Nat) (A : Nat → Nat → Nat → Nat → Act) : Exit → Act → World → Prop
  | .normal, a, w => ∃ p1 p9 p7 p8, a = A p1 p9 p7 p8 ∧ RowB w p7 32 U ∧ RowB w p8 32 U ∧ Below X.heap.size X w
  | _, _, _ => False
theorem Met.out {X : World} {U : Nat → Nat} {A : Nat → Nat → Nat → Nat → Act} {Q : Exit → Act → World → Prop} (h : ∀ p1 p9 p7 p8 w, RowB w p7 32 U → RowB w p8 32 U → Below X.heap.size X w → Q .normal (A p1 p9 p7 p8) w) : ∀ e a w, Met X U A e a w → Q e a w := by
  intro e a w hq
  cases e <;> first | exact (hq : False).elim | (obtain ⟨p1, p9, p7, p8, rfl, h7, h8, hb⟩ := hq; exact h p1 p9 p7 p8 w h7 h8 hb)
theorem wanted_pos {c : Bool} {A B : Prop} (h : c = true) (a : A) : if c = true then A else B := by rw [if_pos h]; exact a
theorem stored2 {X W : World} {p q : Nat} {z y U : Nat → Nat} (h7 : RowB W p 32 z) (h8 : RowB W q 32 y) (HB : Below X.heap.size X W) (ne : p ≠ q) (e7 : X.heap.size ≤ p) :
    RowB (W.setCells p 0 (ab U 32).toArray.toList) p 32 U ∧ RowB (W.setCells p 0 (ab U 32).toArray.toList) q 32 y ∧ Below X.heap.size X (W.setCells p 0 (ab U 32).toArray.toList) :=
  ⟨RowB.stored h7 U, Row8.apart h8 (Ne.symm ne) 0 (ab U 32), below_sets HB e7 (ab U 32)⟩
set_option maxRecDepth 100000 in
set_option maxHeartbeats 40000000 in
theorem sha256Same_walk {a : Option Addr} {n c : Nat} {f : Nat → Nat} {t : Int} {w : World} (hT : Tab w) (h : BA w a n f) (hc : n ≤ c) (hm : c ≤ maxLen) (ht : 0 ≤ t) (ht2 : t < 65536) :
    Calls Tryd.prog 5 #[.slice a n c, .int .u16 t] w fun e w' => e = .returned (.bool true) ∧ Below w.heap.size w w' := by
  have H := hide h
  have HT := hide hT
  have HC := hide (And.intro hc hm)
  clear h hT hc hm
  by_cases hn : n ≤ 2000
  · have hni : (n : Int) ≤ 2000 := by omega
    have HN := hide hn
    obtain ⟨k, hk⟩ : ∃ k : Nat, (k : Int) = t % ((n : Int) + 1) := ⟨(t % ((n : Int) + 1)).toNat, Int.toNat_of_nonneg (Int.emod_nonneg _ (by omega))⟩
    have HK : Hid (k ≤ n) := by
      have : t % ((n : Int) + 1) < (n : Int) + 1 := Int.emod_lt_of_pos _ (by omega)
      show k ≤ n
      omega
    have k1 : t % ((n : Int) + 1) = (k : Int) := hk.symm
    have k2 : t.tmod ((n : Int) + 1) = (k : Int) := by rw [Int.tmod_eq_emod_of_nonneg ht, hk]
    have k3 : ¬ (n : Int) + 1 = 0 := by omega
    clear hn hk
    go_enter Tryd.func5, Tryd.ntmps5
    go_wp2_with fail
    with_reducible refine Calls.mono (awake_any HT.out) ?_
    rintro e w1 ⟨rfl, hb1⟩
    have HB1 := hide hb1
    have H1 := hide (H.out.keep hb1)
    have HT1 := hide (HT.out.keep hb1)
    clear hb1 H HT
    have hO0 : w1.ownsRow w1.heap.size 5 1 (.slice none 0 0) 0 (cells8 []) := World.ownsRow_nil _ _ _ _
    go_upto_region 6 with (at_builtin; refine wpList_app rfl _ _ rfl rfl hO0 rfl H1.out (by have := HN.out; omega) (Nat.le_refl _) ?_; intro v1 X hO1 hg1)
    rw [Nat.zero_add, List.nil_append] at hO1
    obtain ⟨a1, c1, rfl⟩ := own_shape hO1
    have hbX : Below w1.heap.size w1 X := (Below.refl _ w1).grown hg1 (Nat.le_refl _) (fun k hk => by cases hk)
    have HO : Hid (0 < n → ∃ g, a1 = some ⟨g, 0, none⟩ ∧ Rd X g 0 n (fun i => ((f i : Nat) : Int))) := fun h0 => by
      obtain ⟨g, cap, hv, hg, hr⟩ := own_rd (f := fun i => ((f i : Nat) : Int)) hO1 (fun j hj => by rw [cells8_at _ j (by rw [fl_len]; exact hj), List.getD_eq_getElem?_getD, fl_at f hj]; rfl) h0
      cases hv
      exact ⟨g, rfl, hr.rd⟩
    have HB := hide (K.call HB1.out hbX)
    have H := hide (H1.out.keep hbX)
    have HT := hide (HT1.out.keep hbX)
    clear hO1 hg1 hbX hO0 HB1 H1 HT1
    have hs1 := fun W => run_firstA (a := a) (n := n) (c := c) HK.out HC.out.1 W
    have hs2 := fun W => run_cutA (a := a) (n := n) (c := c) HK.out W
    have hkk := HK.out
    have e2 : hashS (cat (fun i => f (0 + i)) k (fun i => f (k + i))) (k + (n - k)) = hashS f n := by
      rw [show k + (n - k) = n by omega]
      exact hashS_congr (fun i hi => by
        unfold cat
        split
        · show f (0 + i) = f i
          rw [Nat.zero_add]
        · show f (k + (i - k)) = f i
          congr 1
          omega)
    clear hkk
    have C1 : Hid (∀ (W : World) (q : Nat), Below X.heap.size X W → W.cell? ⟨q, 0, none⟩ = some (.slice a n c) → Calls Tryd.prog 9 #[.slice (some ⟨q, 0, none⟩) 1 1] W fun e w' => e = .returned (.agg (ab (hByte (hashS f n)) 32).toArray) ∧ Below W.heap.size W w') := fun W q hb hq =>
      sum_one_at (HT.out.keep hb) (H.out.keep hb) HC.out.1 HC.out.2 (by have := HN.out; omega) hq
    have C2 : Hid (∀ (W : World) (q : Nat), Below X.heap.size X W → W.cell? ⟨q, 0, none⟩ = some (.slice (cutA a c 0) k c) → W.cell? ⟨q, 1, none⟩ = some (.slice (cutA a c k) (n - k) (c - k)) → Calls Tryd.prog 9 #[.slice (some ⟨q, 0, none⟩) 2 2] W fun e w' => e = .returned (.agg (ab (hByte (hashS f n)) 32).toArray) ∧ Below W.heap.size W w') := fun W q hb hq hq2 => by
      have h := sum_two_at (HT.out.keep hb) ((H.out.keep hb).cut c 0 k (by have := HK.out; omega) HC.out.1) (by have := HK.out; have := HC.out; omega) HC.out.2 ((H.out.keep hb).cut c k (n - k) (by have := HK.out; omega) HC.out.1) (by have := HC.out; omega) (by have := HC.out; omega) (by have := HN.out; have := HK.out; omega) hq hq2
      unfold hA at h
      rw [e2] at h
      exact h
    clear e2
    generalize hByte (hashS f n) = U at C1 C2
    apply wp_mono (Q := Met X U _)
    · refine wp_region_noPanic ?_
      refine wp_region_held_drew (S := fun _ => True) (by kernel_rfl) trivial (fun _ => ?_)
      have HB : Below X.heap.size X X.drew := K.drew (Below.refl _ _)
      refine wpAnyH_take (i := 0) (v := .slice a n c) rfl (by kernel_rfl) (by kernel_rfl) (by kernel_rfl) (fun _ _ _ h => h) (Or.inl ⟨by rfl, fun w' _ => by go_simp⟩) trivial ?_
      simp only [Act.put, List.getElem_toArray, List.getElem_cons_zero, List.setIfInBounds_toArray, List.set_cons_zero, List.set_cons_succ]
      refine wpAnyH_take (i := 3) (v := .slice a n c) rfl (by kernel_rfl) (by kernel_rfl) (by kernel_rfl) (fun _ _ _ h => h) (Or.inl ⟨by rfl, fun w' _ => by go_simp⟩) trivial ?_
      simp only [Act.put, List.getElem_toArray, List.getElem_cons_zero, List.getElem_cons_succ, List.setIfInBounds_toArray, List.set_cons_zero, List.set_cons_succ]
      refine wpAnyH_take (i := 4) (v := .int .i64 (k : Int)) rfl (by kernel_rfl) (by kernel_rfl) (by kernel_rfl) (fun _ _ _ h => h) (Or.inl ⟨by rfl, fun w' _ => by go_simp⟩) trivial ?_
      simp only [Act.put, List.getElem_toArray, List.getElem_cons_zero, List.getElem_cons_succ, List.setIfInBounds_toArray, List.set_cons_zero, List.set_cons_succ]
      refine wpAnyH_take (i := 5) (v := .slice (cutA a c 0) k c) rfl (by kernel_rfl) (by kernel_rfl) (by kernel_rfl) (fun _ _ _ h => h) (Or.inl ⟨by rfl, fun w' _ => by go_simp⟩) trivial ?_
      simp only [Act.put, List.getElem_toArray, List.getElem_cons_zero, List.getElem_cons_succ, List.setIfInBounds_toArray, List.set_cons_zero, List.set_cons_succ]
      refine wpAnyH_take (i := 6) (v := .slice a n c) rfl (by kernel_rfl) (by kernel_rfl) (by kernel_rfl) (fun _ _ _ h => h) (Or.inl ⟨by rfl, fun w' _ => by go_simp⟩) trivial ?_
      simp only [Act.put, List.getElem_toArray, List.getElem_cons_zero, List.getElem_cons_succ, List.setIfInBounds_toArray, List.set_cons_zero, List.set_cons_succ]
      refine wpAnyH_take (i := 7) (v := .int .i64 (k : Int)) rfl (by kernel_rfl) (by kernel_rfl) (by kernel_rfl) (fun _ _ _ h => h) (Or.inl ⟨by rfl, fun w' _ => by go_simp⟩) trivial ?_
      simp only [Act.put, List.getElem_toArray, List.getElem_cons_zero, List.getElem_cons_succ, List.setIfInBounds_toArray, List.set_cons_zero, List.set_cons_succ]
      refine wpAnyH_take (i := 8) (v := .slice (cutA a c k) (n - k) (c - k)) rfl (by kernel_rfl) (by kernel_rfl) (by kernel_rfl) (fun _ _ _ h => h) (Or.inl ⟨by rfl, fun w' _ => by go_simp⟩) trivial ?_
      simp only [Act.put, List.getElem_toArray, List.getElem_cons_zero, List.getElem_cons_succ, List.setIfInBounds_toArray, List.set_cons_zero, List.set_cons_succ]
      refine wpAnyH_ready (rs := [1, 9, 11, 12]) (by kernel_rfl) (by simp) (AllReadyH.cons rfl (fun Kt hK => ?_) (AllReadyH.cons rfl (fun Kt hK => ?_) (AllReadyH.cons rfl (fun Kt hK => ?_) (AllReadyH.cons rfl (fun Kt hK => ?_) AllReadyH.nil))))
      · refine wanted_pos rfl ?_; refine wp_one rfl rfl (fun p1 W _ c1 hb => hK.out _ _ trivial (fun _ => ?_)); have HB := K.call HB hb; clear hK Kt; simp only [Act.put, List.getElem_toArray, List.getElem_cons_zero, List.getElem_cons_succ, List.setIfInBounds_toArray, List.set_cons_zero, List.set_cons_succ]
        refine wpAnyH_ready (rs := [2, 9, 11, 12]) (by kernel_rfl) (by simp) (AllReadyH.cons rfl (fun Kt hK => ?_) (AllReadyH.cons rfl (fun Kt hK => ?_) (AllReadyH.cons rfl (fun Kt hK => ?_) (AllReadyH.cons rfl (fun Kt hK => ?_) AllReadyH.nil))))
        · refine wanted_pos rfl ?_; refine wp_sum rfl rfl (C1.out _ _ HB c1) (fun W hb => hK.out _ _ trivial (fun _ => ?_)); have HB := K.call HB hb; clear hK Kt; simp only [Act.put, List.getElem_toArray, List.getElem_cons_zero, List.getElem_cons_succ, List.setIfInBounds_toArray, List.set_cons_zero, List.set_cons_succ]
          refine wpAnyH_ready (rs := [9, 11, 12]) (by kernel_rfl) (by simp) (AllReadyH.cons rfl (fun Kt hK => ?_) (AllReadyH.cons rfl (fun Kt hK => ?_) (AllReadyH.cons rfl (fun Kt hK => ?_) AllReadyH.nil)))
          · refine wanted_pos rfl ?_; refine wp_two rfl rfl rfl (fun p9 W _ c9 d9 hb => hK.out _ _ trivial (fun _ => ?_)); have HB := K.call HB hb; clear hK Kt; simp only [Act.put, List.getElem_toArray, List.getElem_cons_zero, List.getElem_cons_succ, List.setIfInBounds_toArray, List.set_cons_zero, List.set_cons_succ]
            refine wpAnyH_ready (rs := [10, 11, 12]) (by kernel_rfl) (by simp) (AllReadyH.cons rfl (fun Kt hK => ?_) (AllReadyH.cons rfl (fun Kt hK => ?_) (AllReadyH.cons rfl (fun Kt hK => ?_) AllReadyH.nil)))
            · refine wanted_pos rfl ?_; refine wp_sum rfl rfl (C2.out _ _ HB c9 d9) (fun W hb => hK.out _ _ trivial (fun _ => ?_)); have HB := K.call HB hb; clear hK Kt; simp only [Act.put, List.getElem_toArray, List.getElem_cons_zero, List.getElem_cons_succ, List.setIfInBounds_toArray, List.set_cons_zero, List.set_cons_succ]
              refine wpAnyH_ready (rs := [11, 12]) (by kernel_rfl) (by simp) (AllReadyH.cons rfl (fun Kt hK => ?_) (AllReadyH.cons rfl (fun Kt hK => ?_) AllReadyH.nil))
              · refine wanted_pos rfl ?_; refine wp_hash rfl (fun p7 W q7 h7 hb => hK.out _ _ trivial (fun _ => ?_)); have e7 := le_of_eq7 q7 HB; clear q7; have HB := K.call HB hb; clear hK Kt; simp only [Act.put, List.getElem_toArray, List.getElem_cons_zero, List.getElem_cons_succ, List.setIfInBounds_toArray, List.set_cons_zero, List.set_cons_succ]
                refine wpAnyH_ready (rs := [12]) (by kernel_rfl) (by simp) (AllReadyH.cons rfl (fun Kt hK => ?_) AllReadyH.nil)
                refine wanted_pos rfl ?_; refine wp_hash rfl (fun p8 W q8 h8 hb => hK.out _ _ trivial (fun _ => ?_)); have e8 := le_of_eq7 q8 HB; have ne : p7 ≠ p8 := (by have := h7.lt; omega); clear q8; have HB := K.call HB hb; have h7 := Row8.keep h7 hb; clear hK Kt; simp only [Act.put, List.getElem_toArray, List.getElem_cons_zero, List.getElem_cons_succ, List.setIfInBounds_toArray, List.set_cons_zero, List.set_cons_succ]
                refine wpAnyH_ready (rs := [13]) (by kernel_rfl) (by simp) (AllReadyH.cons rfl (fun Kt hK => ?_) AllReadyH.nil)
                refine wanted_pos rfl ?_; refine wp_store_mid 25 _ _ rfl p7 0 (ab U 32).toArray rfl rfl (RowB.there h7 U) (inH _) (all_oneCell_toArray (ab_one _ _)) (hK.out _ _ trivial (fun _ => ?_)); obtain ⟨h7, h8, HB⟩ := stored2 (U := U) h7 h8 HB ne e7; generalize W.setCells p7 0 (ab U 32).toArray.toList = W at *; clear hK Kt
                refine wpAnyH_ready (rs := [14]) (by kernel_rfl) (by simp) (AllReadyH.cons rfl (fun Kt hK => ?_) AllReadyH.nil)
                refine wanted_pos rfl ?_; refine wp_store_mid 25 _ _ rfl p8 0 (ab U 32).toArray rfl rfl (RowB.there h8 U) (inH _) (all_oneCell_toArray (ab_one _ _)) (hK.out _ _ trivial (fun _ => ?_)); obtain ⟨h8, h7, HB⟩ := stored2 (U := U) h8 h7 HB (Ne.symm ne) e8; generalize W.setCells p8 0 (ab U 32).toArray.toList = W at *; clear hK Kt
                refine wpAnyH_done (by kernel_rfl) ?_ _
                refine NoPanic.normal ?_
                exact ⟨p1, p9, p7, p8, rfl, h7, h8, HB⟩
              · refine wanted_pos rfl ?_; refine wp_hash rfl (fun p8 W q8 h8 hb => hK.out _ _ trivial (fun _ => ?_)); have e8 := le_of_eq7 q8 HB; clear q8; have HB := K.call HB hb; clear hK Kt; simp only [Act.put, List.getElem_toArray, List.getElem_cons_zero, List.getElem_cons_succ, List.setIfInBounds_toArray, List.set_cons_zero, List.set_cons_succ]
                refine wpAnyH_ready (rs := [11]) (by kernel_rfl) (by simp) (AllReadyH.cons rfl (fun Kt hK => ?_) AllReadyH.nil)
                refine wanted_pos rfl ?_; refine wp_hash rfl (fun p7 W q7 h7 hb => hK.out _ _ trivial (fun _ => ?_)); have e7 := le_of_eq7 q7 HB; have ne : p7 ≠ p8 := (by have := h8.lt; omega); clear q7; have HB := K.call HB hb; have h8 := Row8.keep h8 hb; clear hK Kt; simp only [Act.put, List.getElem_toArray, List.getElem_cons_zero, List.getElem_cons_succ, List.setIfInBounds_toArray, List.set_cons_zero, List.set_cons_succ]
                refine wpAnyH_ready (rs := [13]) (by kernel_rfl) (by simp) (AllReadyH.cons rfl (fun Kt hK => ?_) AllReadyH.nil)
                refine wanted_pos rfl ?_; refine wp_store_mid 25 _ _ rfl p7 0 (ab U 32).toArray rfl rfl (RowB.there h7 U) (inH _) (all_oneCell_toArray (ab_one _ _)) (hK.out _ _ trivial (fun _ => ?_)); obtain ⟨h7, h8, HB⟩ := stored2 (U := U) h7 h8 HB ne e7; generalize W.setCells p7 0 (ab U 32).toArray.toList = W at *; clear hK Kt
                refine wpAnyH_ready (rs := [14]) (by kernel_rfl) (by simp) (AllReadyH.cons rfl (fun Kt hK => ?_) AllReadyH.nil)
                refine wanted_pos rfl ?_; refine wp_store_mid 25 _ _ rfl p8 0 (ab U 32).toArray rfl rfl (RowB.there h8 U) (inH _) (all_oneCell_toArray (ab_one _ _)) (hK.out _ _ trivial (fun _ => ?_)); obtain ⟨h8, h7, HB⟩ := stored2 (U := U) h8 h7 HB (Ne.symm ne) e8; generalize W.setCells p8 0 (ab U 32).toArray.toList = W at *; clear hK Kt
                refine wpAnyH_done (by kernel_rfl) ?_ _
                refine NoPanic.normal ?_
                exact ⟨p1, p9, p7, p8, rfl, h7, h8, HB⟩
            · refine wanted_pos rfl ?_; refine wp_hash rfl (fun p7 W q7 h7 hb => hK.out _ _ trivial (fun _ => ?_)); have e7 := le_of_eq7 q7 HB; clear q7; have HB := K.call HB hb; have c9 := later hb c9; have d9 := later hb d9; clear hK Kt; simp only [Act.put, List.getElem_toArray, List.getElem_cons_zero, List.getElem_cons_succ, List.setIfInBounds_toArray, List.set_cons_zero, List.set_cons_succ]
              refine wpAnyH_ready (rs := [10, 12]) (by kernel_rfl) (by simp) (AllReadyH.cons rfl (fun Kt hK => ?_) (AllReadyH.cons rfl (fun Kt hK => ?_) AllReadyH.nil))
              · refine wanted_pos rfl ?_; refine wp_sum rfl rfl (C2.out _ _ HB c9 d9) (fun W hb => hK.out _ _ trivial (fun _ => ?_)); have HB := K.call HB hb; have h7 := Row8.keep h7 hb; clear hK Kt; simp only [Act.put, List.getElem_toArray, List.getElem_cons_zero, List.getElem_cons_succ, List.setIfInBounds_toArray, List.set_cons_zero, List.set_cons_succ]
                refine wpAnyH_ready (rs := [12]) (by kernel_rfl) (by simp) (AllReadyH.cons rfl (fun Kt hK => ?_) AllReadyH.nil)
                refine wanted_pos rfl ?_; refine wp_hash rfl (fun p8 W q8 h8 hb => hK.out _ _ trivial (fun _ => ?_)); have e8 := le_of_eq7 q8 HB; have ne : p7 ≠ p8 := (by have := h7.lt; omega); clear q8; have HB := K.call HB hb; have h7 := Row8.keep h7 hb; clear hK Kt; simp only [Act.put, List.getElem_toArray, List.getElem_cons_zero, List.getElem_cons_succ, List.setIfInBounds_toArray, List.set_cons_zero, List.set_cons_succ]
                refine wpAnyH_ready (rs := [13]) (by kernel_rfl) (by simp) (AllReadyH.cons rfl (fun Kt hK => ?_) AllReadyH.nil)
                refine wanted_pos rfl ?_; refine wp_store_mid 25 _ _ rfl p7 0 (ab U 32).toArray rfl rfl (RowB.there h7 U) (inH _) (all_oneCell_toArray (ab_one _ _)) (hK.out _ _ trivial (fun _ => ?_)); obtain ⟨h7, h8, HB⟩ := stored2 (U := U) h7 h8 HB ne e7; generalize W.setCells p7 0 (ab U 32).toArray.toList = W at *; clear hK Kt
                refine wpAnyH_ready (rs := [14]) (by kernel_rfl) (by simp) (AllReadyH.cons rfl (fun Kt hK => ?_) AllReadyH.nil)
                refine wanted_pos rfl ?_; refine wp_store_mid 25 _ _ rfl p8 0 (ab U 32).toArray rfl rfl (RowB.there h8 U) (inH _) (all_oneCell_toArray (ab_one _ _)) (hK.out _ _ trivial (fun _ => ?_)); obtain ⟨h8, h7, HB⟩ := stored2 (U := U) h8 h7 HB (Ne.symm ne) e8; generalize W.setCells p8 0 (ab U 32).toArray.toList = W at *; clear hK Kt
                refine wpAnyH_done (by kernel_rfl) ?_ _
                refine NoPanic.normal ?_
                exact ⟨p1, p9, p7, p8, rfl, h7, h8, HB⟩
              · refine wanted_pos rfl ?_; refine wp_hash rfl (fun p8 W q8 h8 hb => hK.out _ _ trivial (fun _ => ?_)); have e8 := le_of_eq7 q8 HB; have ne : p7 ≠ p8 := (by have := h7.lt; omega); clear q8; have HB := K.call HB hb; have c9 := later hb c9; have d9 := later hb d9; have h7 := Row8.keep h7 hb; clear hK Kt; simp only [Act.put, List.getElem_toArray, List.getElem_cons_zero, List.getElem_cons_succ, List.setIfInBounds_toArray, List.set_cons_zero, List.set_cons_succ]
                refine wpAnyH_ready (rs := [10]) (by kernel_rfl) (by simp) (AllReadyH.cons rfl (fun Kt hK => ?_) AllReadyH.nil)
                refine wanted_pos rfl ?_; refine wp_sum rfl rfl (C2.out _ _ HB c9 d9) (fun W hb => hK.out _ _ trivial (fun _ => ?_)); have HB := K.call HB hb; have h7 := Row8.keep h7 hb; have h8 := Row8.keep h8 hb; clear hK Kt; simp only [Act.put, List.getElem_toArray, List.getElem_cons_zero, List.getElem_cons_succ, List.setIfInBounds_toArray, List.set_cons_zero, List.set_cons_succ]
                refine wpAnyH_ready (rs := [13]) (by kernel_rfl) (by simp) (AllReadyH.cons rfl (fun Kt hK => ?_) AllReadyH.nil)
                refine wanted_pos rfl ?_; refine wp_store_mid 25 _ _ rfl p7 0 (ab U 32).toArray rfl rfl (RowB.there h7 U) (inH _) (all_oneCell_toArray (ab_one _ _)) (hK.out _ _ trivial (fun _ => ?_)); obtain ⟨h7, h8, HB⟩ := stored2 (U := U) h7 h8 HB ne e7; generalize W.setCells p7 0 (ab U 32).toArray.toList = W at *; clear hK Kt
                refine wpAnyH_ready (rs := [14]) (by kernel_rfl) (by simp) (AllReadyH.cons rfl (fun Kt hK => ?_) AllReadyH.nil)
                refine wanted_pos rfl ?_; refine wp_store_mid 25 _ _ rfl p8 0 (ab U 32).toArray rfl rfl (RowB.there h8 U) (inH _) (all_oneCell_toArray (ab_one _ _)) (hK.out _ _ trivial (fun _ => ?_)); obtain ⟨h8, h7, HB⟩ := stored2 (U := U) h8 h7 HB (Ne.symm ne) e8; generalize W.setCells p8 0 (ab U 32).toArray.toList = W at *; clear hK Kt
                refine wpAnyH_done (by kernel_rfl) ?_ _
                refine NoPanic.normal ?_
                exact ⟨p1, p9, p7, p8, rfl, h7, h8, HB⟩
            · refine wanted_pos rfl ?_; refine wp_hash rfl (fun p8 W q8 h8 hb => hK.out _ _ trivial (fun _ => ?_)); have e8 := le_of_eq7 q8 HB; clear q8; have HB := K.call HB hb; have c9 := later hb c9; have d9 := later hb d9; clear hK Kt; simp only [Act.put, List.getElem_toArray, List.getElem_cons_zero, List.getElem_cons_succ, List.setIfInBounds_toArray, List.set_cons_zero, List.set_cons_succ]
              refine wpAnyH_ready (rs := [10, 11]) (by kernel_rfl) (by simp) (AllReadyH.cons rfl (fun Kt hK => ?_) (AllReadyH.cons rfl (fun Kt hK => ?_) AllReadyH.nil))
              · refine wanted_pos rfl ?_; refine wp_sum rfl rfl (C2.out _ _ HB c9 d9) (fun W hb => hK.out _ _ trivial (fun _ => ?_)); have HB := K.call HB hb; have h8 := Row8.keep h8 hb; clear hK Kt; simp only [Act.put, List.getElem_toArray, List.getElem_cons_zero, List.getElem_cons_succ, List.setIfInBounds_toArray, List.set_cons_zero, List.set_cons_succ]
                refine wpAnyH_ready (rs := [11]) (by kernel_rfl) (by simp) (AllReadyH.cons rfl (fun Kt hK => ?_) AllReadyH.nil)
                refine wanted_pos rfl ?_; refine wp_hash rfl (fun p7 W q7 h7 hb => hK.out _ _ trivial (fun _ => ?_)); have e7 := le_of_eq7 q7 HB; have ne : p7 ≠ p8 := (by have := h8.lt; omega); clear q7; have HB := K.call HB hb; have h8 := Row8.keep h8 hb; clear hK Kt; simp only [Act.put, List.getElem_toArray, List.getElem_cons_zero, List.getElem_cons_succ, List.setIfInBounds_toArray, List.set_cons_zero, List.set_cons_succ]
                refine wpAnyH_ready (rs := [13]) (by kernel_rfl) (by simp) (AllReadyH.cons rfl (fun Kt hK => ?_) AllReadyH.nil)
                refine wanted_pos rfl ?_; refine wp_store_mid 25 _ _ rfl p7 0 (ab U 32).toArray rfl rfl (RowB.there h7 U) (inH _) (all_oneCell_toArray (ab_one _ _)) (hK.out _ _ trivial (fun _ => ?_)); obtain ⟨h7, h8, HB⟩ := stored2 (U := U) h7 h8 HB ne e7; generalize W.setCells p7 0 (ab U 32).toArray.toList = W at *; clear hK Kt
                refine wpAnyH_ready (rs := [14]) (by kernel_rfl) (by simp) (AllReadyH.cons rfl (fun Kt hK => ?_) AllReadyH.nil)
                refine wanted_pos rfl ?_; refine wp_store_mid 25 _ _ rfl p8 0 (ab U 32).toArray rfl rfl (RowB.there h8 U) (inH _) (all_oneCell_toArray (ab_one _ _)) (hK.out _ _ trivial (fun _ => ?_)); obtain ⟨h8, h7, HB⟩ := stored2 (U := U) h8 h7 HB (Ne.symm ne) e8; generalize W.setCells p8 0 (ab U 32).toArray.toList = W at *; clear hK Kt
                refine wpAnyH_done (by kernel_rfl) ?_ _
                refine NoPanic.normal ?_
                exact ⟨p1, p9, p7, p8, rfl, h7, h8, HB⟩
              · refine wanted_pos rfl ?_; refine wp_hash rfl (fun p7 W q7 h7 hb => hK.out _ _ trivial (fun _ => ?_)); have e7 := le_of_eq7 q7 HB; have ne : p7 ≠ p8 := (by have := h8.lt; omega); clear q7; have HB := K.call HB hb; have c9 := later hb c9; have d9 := later hb d9; have h8 := Row8.keep h8 hb; clear hK Kt; simp only [Act.put, List.getElem_toArray, List.getElem_cons_zero, List.getElem_cons_succ, List.setIfInBounds_toArray, List.set_cons_zero, List.set_cons_succ]
                refine wpAnyH_ready (rs := [10]) (by kernel_rfl) (by simp) (AllReadyH.cons rfl (fun Kt hK => ?_) AllReadyH.nil)
                refine wanted_pos rfl ?_; refine wp_sum rfl rfl (C2.out _ _ HB c9 d9) (fun W hb => hK.out _ _ trivial (fun _ => ?_)); have HB := K.call HB hb; have h7 := Row8.keep h7 hb; have h8 := Row8.keep h8 hb; clear hK Kt; simp only [Act.put, List.getElem_toArray, List.getElem_cons_zero, List.getElem_cons_succ, List.setIfInBounds_toArray, List.set_cons_zero, List.set_cons_succ]
                refine wpAnyH_ready (rs := [13]) (by kernel_rfl) (by simp) (AllReadyH.cons rfl (fun Kt hK => ?_) AllReadyH.nil)
                refine wanted_pos rfl ?_; refine wp_store_mid 25 _ _ rfl p7 0 (ab U 32).toArray rfl rfl (RowB.there h7 U) (inH _) (all_oneCell_toArray (ab_one _ _)) (hK.out _ _ trivial (fun _ => ?_)); obtain ⟨h7, h8, HB⟩ := stored2 (U := U) h7 h8 HB ne e7; generalize W.setCells p7 0 (ab U 32).toArray.toList = W at *; clear hK Kt
                refine wpAnyH_ready (rs := [14]) (by kernel_rfl) (by simp) (AllReadyH.cons rfl (fun Kt hK => ?_) AllReadyH.nil)
                refine wanted_pos rfl ?_; refine wp_store_mid 25 _ _ rfl p8 0 (ab U 32).toArray rfl rfl (RowB.there h8 U) (inH _) (all_oneCell_toArray (ab_one _ _)) (hK.out _ _ trivial (fun _ => ?_)); obtain ⟨h8, h7, HB⟩ := stored2 (U := U) h8 h7 HB (Ne.symm ne) e8; generalize W.setCells p8 0 (ab U 32).toArray.toList = W at *; clear hK Kt
                refine wpAnyH_done (by kernel_rfl) ?_ _
                refine NoPanic.normal ?_
                exact ⟨p1, p9, p7, p8, rfl, h7, h8, HB⟩
          · refine wanted_pos rfl ?_; refine wp_hash rfl (fun p7 W q7 h7 hb => hK.out _ _ trivial (fun _ => ?_)); have e7 := le_of_eq7 q7 HB; clear q7; have HB := K.call HB hb; clear hK Kt; simp only [Act.put, List.getElem_toArray, List.getElem_cons_zero, List.getElem_cons_succ, List.setIfInBounds_toArray, List.set_cons_zero, List.set_cons_succ]
            refine wpAnyH_ready (rs := [9, 12]) (by kernel_rfl) (by simp) (AllReadyH.cons rfl (fun Kt hK => ?_) (AllReadyH.cons rfl (fun Kt hK => ?_) AllReadyH.nil))
            · refine wanted_pos rfl ?_; refine wp_two rfl rfl rfl (fun p9 W _ c9 d9 hb => hK.out _ _ trivial (fun _ => ?_)); have HB := K.call HB hb; have h7 := Row8.keep h7 hb; clear hK Kt; simp only [Act.put, List.getElem_toArray, List.getElem_cons_zero, List.getElem_cons_succ, List.setIfInBounds_toArray, List.set_cons_zero, List.set_cons_succ]
              refine wpAnyH_ready (rs := [10, 12]) (by kernel_rfl) (by simp) (AllReadyH.cons rfl (fun Kt hK => ?_) (AllReadyH.cons rfl (fun Kt hK => ?_) AllReadyH.nil))
              · refine wanted_pos rfl ?_; refine wp_sum rfl rfl (C2.out _ _ HB c9 d9) (fun W hb => hK.out _ _ trivial (fun _ => ?_)); have HB := K.call HB hb; have h7 := Row8.keep h7 hb; clear hK Kt; simp only [Act.put, List.getElem_toArray, List.getElem_cons_zero, List.getElem_cons_succ, List.setIfInBounds_toArray, List.set_cons_zero, List.set_cons_succ]
                refine wpAnyH_ready (rs := [12]) (by kernel_rfl) (by simp) (AllReadyH.cons rfl (fun Kt hK => ?_) AllReadyH.nil)
                refine wanted_pos rfl ?_; refine wp_hash rfl (fun p8 W q8 h8 hb => hK.out _ _ trivial (fun _ => ?_)); have e8 := le_of_eq7 q8 HB; have ne : p7 ≠ p8 := (by have := h7.lt; omega); clear q8; have HB := K.call HB hb; have h7 := Row8.keep h7 hb; clear hK Kt; simp only [Act.put, List.getElem_toArray, List.getElem_cons_zero, List.getElem_cons_succ, List.setIfInBounds_toArray, List.set_cons_zero, List.set_cons_succ]
                refine wpAnyH_ready (rs := [13]) (by kernel_rfl) (by simp) (AllReadyH.cons rfl (fun Kt hK => ?_) AllReadyH.nil)
                refine wanted_pos rfl ?_; refine wp_store_mid 25 _ _ rfl p7 0 (ab U 32).toArray rfl rfl (RowB.there h7 U) (inH _) (all_oneCell_toArray (ab_one _ _)) (hK.out _ _ trivial (fun _ => ?_)); obtain ⟨h7, h8, HB⟩ := stored2 (U := U) h7 h8 HB ne e7; generalize W.setCells p7 0 (ab U 32).toArray.toList = W at *; clear hK Kt
                refine wpAnyH_ready (rs := [14]) (by kernel_rfl) (by simp) (AllReadyH.cons rfl (fun Kt hK => ?_) AllReadyH.nil)
                refine wanted_pos rfl ?_; refine wp_store_mid 25 _ _ rfl p8 0 (ab U 32).toArray rfl rfl (RowB.there h8 U) (inH _) (all_oneCell_toArray (ab_one _ _)) (hK.out _ _ trivial (fun _ => ?_)); obtain ⟨h8, h7, HB⟩ := stored2 (U := U) h8 h7 HB (Ne.symm ne) e8; generalize W.setCells p8 0 (ab U 32).toArray.toList = W at *; clear hK Kt
                refine wpAnyH_done (by kernel_rfl) ?_ _
                refine NoPanic.normal ?_
                exact ⟨p1, p9, p7, p8, rfl, h7, h8, HB⟩
              · refine wanted_pos rfl ?_; refine wp_hash rfl (fun p8 W q8 h8 hb => hK.out _ _ trivial (fun _ => ?_)); have e8 := le_of_eq7 q8 HB; have ne : p7 ≠ p8 := (by have := h7.lt; omega); clear q8; have HB := K.call HB hb; have c9 := later hb c9; have d9 := later hb d9; have h7 := Row8.keep h7 hb; clear hK Kt; simp only [Act.put, List.getElem_toArray, List.getElem_cons_zero, List.getElem_cons_succ, List.setIfInBounds_toArray, List.set_cons_zero, List.set_cons_succ]
                refine wpAnyH_ready (rs := [10]) (by kernel_rfl) (by simp) (AllReadyH.cons rfl (fun Kt hK => ?_) AllReadyH.nil)
                refine wanted_pos rfl ?_; refine wp_sum rfl rfl (C2.out _ _ HB c9 d9) (fun W hb => hK.out _ _ trivial (fun _ => ?_)); have HB := K.call HB hb; have h7 := Row8.keep h7 hb; have h8 := Row8.keep h8 hb; clear hK Kt; simp only [Act.put, List.getElem_toArray, List.getElem_cons_zero, List.getElem_cons_succ, List.setIfInBounds_toArray, List.set_cons_zero, List.set_cons_succ]
                refine wpAnyH_ready (rs := [13]) (by kernel_rfl) (by simp) (AllReadyH.cons rfl (fun Kt hK => ?_) AllReadyH.nil)
                refine wanted_pos rfl ?_; refine wp_store_mid 25 _ _ rfl p7 0 (ab U 32).toArray rfl rfl (RowB.there h7 U) (inH _) (all_oneCell_toArray (ab_one _ _)) (hK.out _ _ trivial (fun _ => ?_)); obtain ⟨h7, h8, HB⟩ := stored2 (U := U) h7 h8 HB ne e7; generalize W.setCells p7 0 (ab U 32).toArray.toList = W at *; clear hK Kt
                refine wpAnyH_ready (rs := [14]) (by kernel_rfl) (by simp) (AllReadyH.cons rfl (fun Kt hK => ?_) AllReadyH.nil)
                refine wanted_pos rfl ?_; refine wp_store_mid 25 _ _ rfl p8 0 (ab U 32).toArray rfl rfl (RowB.there h8 U) (inH _) (all_oneCell_toArray (ab_one _ _)) (hK.out _ _ trivial (fun _ => ?_)); obtain ⟨h8, h7, HB⟩ := stored2 (U := U) h8 h7 HB (Ne.symm ne) e8; generalize W.setCells p8 0 (ab U 32).toArray.toList = W at *; clear hK Kt
                refine wpAnyH_done (by kernel_rfl) ?_ _
                refine NoPanic.normal ?_
                exact ⟨p1, p9, p7, p8, rfl, h7, h8, HB⟩
            · refine wanted_pos rfl ?_; refine wp_hash rfl (fun p8 W q8 h8 hb => hK.out _ _ trivial (fun _ => ?_)); have e8 := le_of_eq7 q8 HB; have ne : p7 ≠ p8 := (by have := h7.lt; omega); clear q8; have HB := K.call HB hb; have h7 := Row8.keep h7 hb; clear hK Kt; simp only [Act.put, List.getElem_toArray, List.getElem_cons_zero, List.getElem_cons_succ, List.setIfInBounds_toArray, List.set_cons_zero, List.set_cons_succ]
              refine wpAnyH_ready (rs := [9]) (by kernel_rfl) (by simp) (AllReadyH.cons rfl (fun Kt hK => ?_) AllReadyH.nil)
              refine wanted_pos rfl ?_; refine wp_two rfl rfl rfl (fun p9 W _ c9 d9 hb => hK.out _ _ trivial (fun _ => ?_)); have HB := K.call HB hb; have h7 := Row8.keep h7 hb; have h8 := Row8.keep h8 hb; clear hK Kt; simp only [Act.put, List.getElem_toArray, List.getElem_cons_zero, List.getElem_cons_succ, List.setIfInBounds_toArray, List.set_cons_zero, List.set_cons_succ]
              refine wpAnyH_ready (rs := [10]) (by kernel_rfl) (by simp) (AllReadyH.cons rfl (fun Kt hK => ?_) AllReadyH.nil)
              refine wanted_pos rfl ?_; refine wp_sum rfl rfl (C2.out _ _ HB c9 d9) (fun W hb => hK.out _ _ trivial (fun _ => ?_)); have HB := K.call HB hb; have h7 := Row8.keep h7 hb; have h8 := Row8.keep h8 hb; clear hK Kt; simp only [Act.put, List.getElem_toArray, List.getElem_cons_zero, List.getElem_cons_succ, List.setIfInBounds_toArray, List.set_cons_zero, List.set_cons_succ]
              refine wpAnyH_ready (rs := [13]) (by kernel_rfl) (by simp) (AllReadyH.cons rfl (fun Kt hK => ?_) AllReadyH.nil)
              refine wanted_pos rfl ?_; refine wp_store_mid 25 _ _ rfl p7 0 (ab U 32).toArray rfl rfl (RowB.there h7 U) (inH _) (all_oneCell_toArray (ab_one _ _)) (hK.out _ _ trivial (fun _ => ?_)); obtain ⟨h7, h8, HB⟩ := stored2 (U := U) h7 h8 HB ne e7; generalize W.setCells p7 0 (ab U 32).toArray.toList = W at *; clear hK Kt
              refine wpAnyH_ready (rs := [14]) (by kernel_rfl) (by simp) (AllReadyH.cons rfl (fun Kt hK => ?_) AllReadyH.nil)
              refine wanted_pos rfl ?_; refine wp_store_mid 25 _ _ rfl p8 0 (ab U 32).toArray rfl rfl (RowB.there h8 U) (inH _) (all_oneCell_toArray (ab_one _ _)) (hK.out _ _ trivial (fun _ => ?_)); obtain ⟨h8, h7, HB⟩ := stored2 (U := U) h8 h7 HB (Ne.symm ne) e8; generalize W.setCells p8 0 (ab U 32).toArray.toList = W at *; clear hK Kt
              refine wpAnyH_done (by kernel_rfl) ?_ _
              refine NoPanic.normal ?_
              exact ⟨p1, p9, p7, p8, rfl, h7, h8, HB⟩
          · refine wanted_pos rfl ?_; refine wp_hash rfl (fun p8 W q8 h8 hb => hK.out _ _ trivial (fun _ => ?_)); have e8 := le_of_eq7 q8 HB; clear q8; have HB := K.call HB hb; clear hK Kt; simp only [Act.put, List.getElem_toArray, List.getElem_cons_zero, List.getElem_cons_succ, List.setIfInBounds_toArray, List.set_cons_zero, List.set_cons_succ]
            refine wpAnyH_ready (rs := [9, 11]) (by kernel_rfl) (by simp) (AllReadyH.cons rfl (fun Kt hK => ?_) (AllReadyH.cons rfl (fun Kt hK => ?_) AllReadyH.nil))
            · refine wanted_pos rfl ?_; refine wp_two rfl rfl rfl (fun p9 W _ c9 d9 hb => hK.out _ _ trivial (fun _ => ?_)); have HB := K.call HB hb; have h8 := Row8.keep h8 hb; clear hK Kt; simp only [Act.put, List.getElem_toArray, List.getElem_cons_zero, List.getElem_cons_succ, List.setIfInBounds_toArray, List.set_cons_zero, List.set_cons_succ]
              refine wpAnyH_ready (rs := [10, 11]) (by kernel_rfl) (by simp) (AllReadyH.cons rfl (fun Kt hK => ?_) (AllReadyH.cons rfl (fun Kt hK => ?_) AllReadyH.nil))
              · refine wanted_pos rfl ?_; refine wp_sum rfl rfl (C2.out _ _ HB c9 d9) (fun W hb => hK.out _ _ trivial (fun _ => ?_)); have HB := K.call HB hb; have h8 := Row8.keep h8 hb; clear hK Kt; simp only [Act.put, List.getElem_toArray, List.getElem_cons_zero, List.getElem_cons_succ, List.setIfInBounds_toArray, List.set_cons_zero, List.set_cons_succ]
                refine wpAnyH_ready (rs := [11]) (by kernel_rfl) (by simp) (AllReadyH.cons rfl (fun Kt hK => ?_) AllReadyH.nil)
                refine wanted_pos rfl ?_; refine wp_hash rfl (fun p7 W q7 h7 hb => hK.out _ _ trivial (fun _ => ?_)); have e7 := le_of_eq7 q7 HB; have ne : p7 ≠ p8 := (by have := h8.lt; omega); clear q7; have HB := K.call HB hb; have h8 := Row8.keep h8 hb; clear hK Kt; simp only [Act.put, List.getElem_toArray, List.getElem_cons_zero, List.getElem_cons_succ, List.setIfInBounds_toArray, List.set_cons_zero, List.set_cons_succ]
                refine wpAnyH_ready (rs := [13]) (by kernel_rfl) (by simp) (AllReadyH.cons rfl (fun Kt hK => ?_) AllReadyH.nil)
                refine wanted_pos rfl ?_; refine wp_store_mid 25 _ _ rfl p7 0 (ab U 32).toArray rfl rfl (RowB.there h7 U) (inH _) (all_oneCell_toArray (ab_one _ _)) (hK.out _ _ trivial (fun _ => ?_)); obtain ⟨h7, h8, HB⟩ := stored2 (U := U) h7 h8 HB ne e7; generalize W.setCells p7 0 (ab U 32).toArray.toList = W at *; clear hK Kt
                refine wpAnyH_ready (rs := [14]) (by kernel_rfl) (by simp) (AllReadyH.cons rfl (fun Kt hK => ?_) AllReadyH.nil)
                refine wanted_pos rfl ?_; refine wp_store_mid 25 _ _ rfl p8 0 (ab U 32).toArray rfl rfl (RowB.there h8 U) (inH _) (all_oneCell_toArray (ab_one _ _)) (hK.out _ _ trivial (fun _ => ?_)); obtain ⟨h8, h7, HB⟩ := stored2 (U := U) h8 h7 HB (Ne.symm ne) e8; generalize W.setCells p8 0 (ab U 32).toArray.toList = W at *; clear hK Kt
                refine wpAnyH_done (by kernel_rfl) ?_ _
                refine NoPanic.normal ?_
                exact ⟨p1, p9, p7, p8, rfl, h7, h8, HB⟩
              · refine wanted_pos rfl ?_; refine wp_hash rfl (fun p7 W q7 h7 hb => hK.out _ _ trivial (fun _ => ?_)); have e7 := le_of_eq7 q7 HB; have ne : p7 ≠ p8 := (by have := h8.lt; omega); clear q7; have HB := K.call HB hb; have c9 := later hb c9; have d9 := later hb d9; have h8 := Row8.keep h8 hb; clear hK Kt; simp only [Act.put, List.getElem_toArray, List.getElem_cons_zero, List.getElem_cons_succ, List.setIfInBounds_toArray, List.set_cons_zero, List.set_cons_succ]
                refine wpAnyH_ready (rs := [10]) (by kernel_rfl) (by simp) (AllReadyH.cons rfl (fun Kt hK => ?_) AllReadyH.nil)
                refine wanted_pos rfl ?_; refine wp_sum rfl rfl (C2.out _ _ HB c9 d9) (fun W hb => hK.out _ _ trivial (fun _ => ?_)); have HB := K.call HB hb; have h7 := Row8.keep h7 hb; have h8 := Row8.keep h8 hb; clear hK Kt; simp only [Act.put, List.getElem_toArray, List.getElem_cons_zero, List.getElem_cons_succ, List.setIfInBounds_toArray, List.set_cons_zero, List.set_cons_succ]
                refine wpAnyH_ready (rs := [13]) (by kernel_rfl) (by simp) (AllReadyH.cons rfl (fun Kt hK => ?_) AllReadyH.nil)
                refine wanted_pos rfl ?_; refine wp_store_mid 25 _ _ rfl p7 0 (ab U 32).toArray rfl rfl (RowB.there h7 U) (inH _) (all_oneCell_toArray (ab_one _ _)) (hK.out _ _ trivial (fun _ => ?_)); obtain ⟨h7, h8, HB⟩ := stored2 (U := U) h7 h8 HB ne e7; generalize W.setCells p7 0 (ab U 32).toArray.toList = W at *; clear hK Kt
                refine wpAnyH_ready (rs := [14]) (by kernel_rfl) (by simp) (AllReadyH.cons rfl (fun Kt hK => ?_) AllReadyH.nil)
                refine wanted_pos rfl ?_; refine wp_store_mid 25 _ _ rfl p8 0 (ab U 32).toArray rfl rfl (RowB.there h8 U) (inH _) (all_oneCell_toArray (ab_one _ _)) (hK.out _ _ trivial (fun _ => ?_)); obtain ⟨h8, h7, HB⟩ := stored2 (U := U) h8 h7 HB (Ne.symm ne) e8; generalize W.setCells p8 0 (ab U 32).toArray.toList = W at *; clear hK Kt
                refine wpAnyH_done (by kernel_rfl) ?_ _
                refine NoPanic.normal ?_
                exact ⟨p1, p9, p7, p8, rfl, h7, h8, HB⟩
            · refine wanted_pos rfl ?_; refine wp_hash rfl (fun p7 W q7 h7 hb => hK.out _ _ trivial (fun _ => ?_)); have e7 := le_of_eq7 q7 HB; have ne : p7 ≠ p8 := (by have := h8.lt; omega); clear q7; have HB := K.call HB hb; have h8 := Row8.keep h8 hb; clear hK Kt; simp only [Act.put, List.getElem_toArray, List.getElem_cons_zero, List.getElem_cons_succ, List.setIfInBounds_toArray, List.set_cons_zero, List.set_cons_succ]
              refine wpAnyH_ready (rs := [9]) (by kernel_rfl) (by simp) (AllReadyH.cons rfl (fun Kt hK => ?_) AllReadyH.nil)
              refine wanted_pos rfl ?_; refine wp_two rfl rfl rfl (fun p9 W _ c9 d9 hb => hK.out _ _ trivial (fun _ => ?_)); have HB := K.call HB hb; have h7 := Row8.keep h7 hb; have h8 := Row8.keep h8 hb; clear hK Kt; simp only [Act.put, List.getElem_toArray, List.getElem_cons_zero, List.getElem_cons_succ, List.setIfInBounds_toArray, List.set_cons_zero, List.set_cons_succ]
              refine wpAnyH_ready (rs := [10]) (by kernel_rfl) (by simp) (AllReadyH.cons rfl (fun Kt hK => ?_) AllReadyH.nil)
              refine wanted_pos rfl ?_; refine wp_sum rfl rfl (C2.out _ _ HB c9 d9) (fun W hb => hK.out _ _ trivial (fun _ => ?_)); have HB := K.call HB hb; have h7 := Row8.keep h7 hb; have h8 := Row8.keep h8 hb; clear hK Kt; simp only [Act.put, List.getElem_toArray, List.getElem_cons_zero, List.getElem_cons_succ, List.setIfInBounds_toArray, List.set_cons_zero, List.set_cons_succ]
              refine wpAnyH_ready (rs := [13]) (by kernel_rfl) (by simp) (AllReadyH.cons rfl (fun Kt hK => ?_) AllReadyH.nil)
              refine wanted_pos rfl ?_; refine wp_store_mid 25 _ _ rfl p7 0 (ab U 32).toArray rfl rfl (RowB.there h7 U) (inH _) (all_oneCell_toArray (ab_one _ _)) (hK.out _ _ trivial (fun _ => ?_)); obtain ⟨h7, h8, HB⟩ := stored2 (U := U) h7 h8 HB ne e7; generalize W.setCells p7 0 (ab U 32).toArray.toList = W at *; clear hK Kt
              refine wpAnyH_ready (rs := [14]) (by kernel_rfl) (by simp) (AllReadyH.cons rfl (fun Kt hK => ?_) AllReadyH.nil)
              refine wanted_pos rfl ?_; refine wp_store_mid 25 _ _ rfl p8 0 (ab U 32).toArray rfl rfl (RowB.there h8 U) (inH _) (all_oneCell_toArray (ab_one _ _)) (hK.out _ _ trivial (fun _ => ?_)); obtain ⟨h8, h7, HB⟩ := stored2 (U := U) h8 h7 HB (Ne.symm ne) e8; generalize W.setCells p8 0 (ab U 32).toArray.toList = W at *; clear hK Kt
              refine wpAnyH_done (by kernel_rfl) ?_ _
              refine NoPanic.normal ?_
              exact ⟨p1, p9, p7, p8, rfl, h7, h8, HB⟩
        · refine wanted_pos rfl ?_; refine wp_two rfl rfl rfl (fun p9 W _ c9 d9 hb => hK.out _ _ trivial (fun _ => ?_)); have HB := K.call HB hb; have c1 := later hb c1; clear hK Kt; simp only [Act.put, List.getElem_toArray, List.getElem_cons_zero, List.getElem_cons_succ, List.setIfInBounds_toArray, List.set_cons_zero, List.set_cons_succ]
          refine wpAnyH_ready (rs := [2, 11, 12]) (by kernel_rfl) (by simp) (AllReadyH.cons rfl (fun Kt hK => ?_) (AllReadyH.cons rfl (fun Kt hK => ?_) (AllReadyH.cons rfl (fun Kt hK => ?_) AllReadyH.nil)))
          · refine wanted_pos rfl ?_; refine wp_sum rfl rfl (C1.out _ _ HB c1) (fun W hb => hK.out _ _ trivial (fun _ => ?_)); have HB := K.call HB hb; have c9 := later hb c9; have d9 := later hb d9; clear hK Kt; simp only [Act.put, List.getElem_toArray, List.getElem_cons_zero, List.getElem_cons_succ, List.setIfInBounds_toArray, List.set_cons_zero, List.set_cons_succ]
            refine wpAnyH_ready (rs := [10, 11, 12]) (by kernel_rfl) (by simp) (AllReadyH.cons rfl (fun Kt hK => ?_) (AllReadyH.cons rfl (fun Kt hK => ?_) (AllReadyH.cons rfl (fun Kt hK => ?_) AllReadyH.nil)))
            · refine wanted_pos rfl ?_; refine wp_sum rfl rfl (C2.out _ _ HB c9 d9) (fun W hb => hK.out _ _ trivial (fun _ => ?_)); have HB := K.call HB hb; clear hK Kt; simp only [Act.put, List.getElem_toArray, List.getElem_cons_zero, List.getElem_cons_succ, List.setIfInBounds_toArray, List.set_cons_zero, List.set_cons_succ]
              refine wpAnyH_ready (rs := [11, 12]) (by kernel_rfl) (by simp) (AllReadyH.cons rfl (fun Kt hK => ?_) (AllReadyH.cons rfl (fun Kt hK => ?_) AllReadyH.nil))
              · refine wanted_pos rfl ?_; refine wp_hash rfl (fun p7 W q7 h7 hb => hK.out _ _ trivial (fun _ => ?_)); have e7 := le_of_eq7 q7 HB; clear q7; have HB := K.call HB hb; clear hK Kt; simp only [Act.put, List.getElem_toArray, List.getElem_cons_zero, List.getElem_cons_succ, List.setIfInBounds_toArray, List.set_cons_zero, List.set_cons_succ]
                refine wpAnyH_ready (rs := [12]) (by kernel_rfl) (by simp) (AllReadyH.cons rfl (fun Kt hK => ?_) AllReadyH.nil)
                refine wanted_pos rfl ?_; refine wp_hash rfl (fun p8 W q8 h8 hb => hK.out _ _ trivial (fun _ => ?_)); have e8 := le_of_eq7 q8 HB; have ne : p7 ≠ p8 := (by have := h7.lt; omega); clear q8; have HB := K.call HB hb; have h7 := Row8.keep h7 hb; clear hK Kt; simp only [Act.put, List.getElem_toArray, List.getElem_cons_zero, List.getElem_cons_succ, List.setIfInBounds_toArray, List.set_cons_zero, List.set_cons_succ]
                refine wpAnyH_ready (rs := [13]) (by kernel_rfl) (by simp) (AllReadyH.cons rfl (fun Kt hK => ?_) AllReadyH.nil)
                refine wanted_pos rfl ?_; refine wp_store_mid 25 _ _ rfl p7 0 (ab U 32).toArray rfl rfl (RowB.there h7 U) (inH _) (all_oneCell_toArray (ab_one _ _)) (hK.out _ _ trivial (fun _ => ?_)); obtain ⟨h7, h8, HB⟩ := stored2 (U := U) h7 h8 HB ne e7; generalize W.setCells p7 0 (ab U 32).toArray.toList = W at *; clear hK Kt
                refine wpAnyH_ready (rs := [14]) (by kernel_rfl) (by simp) (AllReadyH.cons rfl (fun Kt hK => ?_) AllReadyH.nil)
                refine wanted_pos rfl ?_; refine wp_store_mid 25 _ _ rfl p8 0 (ab U 32).toArray rfl rfl (RowB.there h8 U) (inH _) (all_oneCell_toArray (ab_one _ _)) (hK.out _ _ trivial (fun _ => ?_)); obtain ⟨h8, h7, HB⟩ := stored2 (U := U) h8 h7 HB (Ne.symm ne) e8; generalize W.setCells p8 0 (ab U 32).toArray.toList = W at *; clear hK Kt
                refine wpAnyH_done (by kernel_rfl) ?_ _
                refine NoPanic.normal ?_
                exact ⟨p1, p9, p7, p8, rfl, h7, h8, HB⟩
              · refine wanted_pos rfl ?_; refine wp_hash rfl (fun p8 W q8 h8 hb => hK.out _ _ trivial (fun _ => ?_)); have e8 := le_of_eq7 q8 HB; clear q8; have HB := K.call HB hb; clear hK Kt; simp only [Act.put, List.getElem_toArray, List.getElem_cons_zero, List.getElem_cons_succ, List.setIfInBounds_toArray, List.set_cons_zero, List.set_cons_succ]
                refine wpAnyH_ready (rs := [11]) (by kernel_rfl) (by simp) (AllReadyH.cons rfl (fun Kt hK => ?_) AllReadyH.nil)
                refine wanted_pos rfl ?_; refine wp_hash rfl (fun p7 W q7 h7 hb => hK.out _ _ trivial (fun _ => ?_)); have e7 := le_of_eq7 q7 HB; have ne : p7 ≠ p8 := (by have := h8.lt; omega); clear q7; have HB := K.call HB hb; have h8 := Row8.keep h8 hb; clear hK Kt; simp only [Act.put, List.getElem_toArray, List.getElem_cons_zero, List.getElem_cons_succ, List.setIfInBounds_toArray, List.set_cons_zero, List.set_cons_succ]
                refine wpAnyH_ready (rs := [13]) (by kernel_rfl) (by simp) (AllReadyH.cons rfl (fun Kt hK => ?_) AllReadyH.nil)
                refine wanted_pos rfl ?_; refine wp_store_mid 25 _ _ rfl p7 0 (ab U 32).toArray rfl rfl (RowB.there h7 U) (inH _) (all_oneCell_toArray (ab_one _ _)) (hK.out _ _ trivial (fun _ => ?_)); obtain ⟨h7, h8, HB⟩ := stored2 (U := U) h7 h8 HB ne e7; generalize W.setCells p7 0 (ab U 32).toArray.toList = W at *; clear hK Kt
                refine wpAnyH_ready (rs := [14]) (by kernel_rfl) (by simp) (AllReadyH.cons rfl (fun Kt hK => ?_) AllReadyH.nil)
                refine wanted_pos rfl ?_; refine wp_store_mid 25 _ _ rfl p8 0 (ab U 32).toArray rfl rfl (RowB.there h8 U) (inH _) (all_oneCell_toArray (ab_one _ _)) (hK.out _ _ trivial (fun _ => ?_)); obtain ⟨h8, h7, HB⟩ := stored2 (U := U) h8 h7 HB (Ne.symm ne) e8; generalize W.setCells p8 0 (ab U 32).toArray.toList = W at *; clear hK Kt
                refine wpAnyH_done (by kernel_rfl) ?_ _
                refine NoPanic.normal ?_
                exact ⟨p1, p9, p7, p8, rfl, h7, h8, HB⟩
            · refine wanted_pos rfl ?_; refine wp_hash rfl (fun p7 W q7 h7 hb => hK.out _ _ trivial (fun _ => ?_)); have e7 := le_of_eq7 q7 HB; clear q7; have HB := K.call HB hb; have c9 := later hb c9; have d9 := later hb d9; clear hK Kt; simp only [Act.put, List.getElem_toArray, List.getElem_cons_zero, List.getElem_cons_succ, List.setIfInBounds_toArray, List.set_cons_zero, List.set_cons_succ]
              refine wpAnyH_ready (rs := [10, 12]) (by kernel_rfl) (by simp) (AllReadyH.cons rfl (fun Kt hK => ?_) (AllReadyH.cons rfl (fun Kt hK => ?_) AllReadyH.nil))
              · refine wanted_pos rfl ?_; refine wp_sum rfl rfl (C2.out _ _ HB c9 d9) (fun W hb => hK.out _ _ trivial (fun _ => ?_)); have HB := K.call HB hb; have h7 := Row8.keep h7 hb; clear hK Kt; simp only [Act.put, List.getElem_toArray, List.getElem_cons_zero, List.getElem_cons_succ, List.setIfInBounds_toArray, List.set_cons_zero, List.set_cons_succ]
                refine wpAnyH_ready (rs := [12]) (by kernel_rfl) (by simp) (AllReadyH.cons rfl (fun Kt hK => ?_) AllReadyH.nil)
                refine wanted_pos rfl ?_; refine wp_hash rfl (fun p8 W q8 h8 hb => hK.out _ _ trivial (fun _ => ?_)); have e8 := le_of_eq7 q8 HB; have ne : p7 ≠ p8 := (by have := h7.lt; omega); clear q8; have HB := K.call HB hb; have h7 := Row8.keep h7 hb; clear hK Kt; simp only [Act.put, List.getElem_toArray, List.getElem_cons_zero, List.getElem_cons_succ, List.setIfInBounds_toArray, List.set_cons_zero, List.set_cons_succ]
                refine wpAnyH_ready (rs := [13]) (by kernel_rfl) (by simp) (AllReadyH.cons rfl (fun Kt hK => ?_) AllReadyH.nil)
                refine wanted_pos rfl ?_; refine wp_store_mid 25 _ _ rfl p7 0 (ab U 32).toArray rfl rfl (RowB.there h7 U) (inH _) (all_oneCell_toArray (ab_one _ _)) (hK.out _ _ trivial (fun _ => ?_)); obtain ⟨h7, h8, HB⟩ := stored2 (U := U) h7 h8 HB ne e7; generalize W.setCells p7 0 (ab U 32).toArray.toList = W at *; clear hK Kt
                refine wpAnyH_ready (rs := [14]) (by kernel_rfl) (by simp) (AllReadyH.cons rfl (fun Kt hK => ?_) AllReadyH.nil)
                refine wanted_pos rfl ?_; refine wp_store_mid 25 _ _ rfl p8 0 (ab U 32).toArray rfl rfl (RowB.there h8 U) (inH _) (all_oneCell_toArray (ab_one _ _)) (hK.out _ _ trivial (fun _ => ?_)); obtain ⟨h8, h7, HB⟩ := stored2 (U := U) h8 h7 HB (Ne.symm ne) e8; generalize W.setCells p8 0 (ab U 32).toArray.toList = W at *; clear hK Kt
                refine wpAnyH_done (by kernel_rfl) ?_ _
                refine NoPanic.normal ?_
                exact ⟨p1, p9, p7, p8, rfl, h7, h8, HB⟩
              · refine wanted_pos rfl ?_; refine wp_hash rfl (fun p8 W q8 h8 hb => hK.out _ _ trivial (fun _ => ?_)); have e8 := le_of_eq7 q8 HB; have ne : p7 ≠ p8 := (by have := h7.lt; omega); clear q8; have HB := K.call HB hb; have c9 := later hb c9; have d9 := later hb d9; have h7 := Row8.keep h7 hb; clear hK Kt; simp only [Act.put, List.getElem_toArray, List.getElem_cons_zero, List.getElem_cons_succ, List.setIfInBounds_toArray, List.set_cons_zero, List.set_cons_succ]
                refine wpAnyH_ready (rs := [10]) (by kernel_rfl) (by simp) (AllReadyH.cons rfl (fun Kt hK => ?_) AllReadyH.nil)
                refine wanted_pos rfl ?_; refine wp_sum rfl rfl (C2.out _ _ HB c9 d9) (fun W hb => hK.out _ _ trivial (fun _ => ?_)); have HB := K.call HB hb; have h7 := Row8.keep h7 hb; have h8 := Row8.keep h8 hb; clear hK Kt; simp only [Act.put, List.getElem_toArray, List.getElem_cons_zero, List.getElem_cons_succ, List.setIfInBounds_toArray, List.set_cons_zero, List.set_cons_succ]
                refine wpAnyH_ready (rs := [13]) (by kernel_rfl) (by simp) (AllReadyH.cons rfl (fun Kt hK => ?_) AllReadyH.nil)
                refine wanted_pos rfl ?_; refine wp_store_mid 25 _ _ rfl p7 0 (ab U 32).toArray rfl rfl (RowB.there h7 U) (inH _) (all_oneCell_toArray (ab_one _ _)) (hK.out _ _ trivial (fun _ => ?_)); obtain ⟨h7, h8, HB⟩ := stored2 (U := U) h7 h8 HB ne e7; generalize W.setCells p7 0 (ab U 32).toArray.toList = W at *; clear hK Kt
                refine wpAnyH_ready (rs := [14]) (by kernel_rfl) (by simp) (AllReadyH.cons rfl (fun Kt hK => ?_) AllReadyH.nil)
                refine wanted_pos rfl ?_; refine wp_store_mid 25 _ _ rfl p8 0 (ab U 32).toArray rfl rfl (RowB.there h8 U) (inH _) (all_oneCell_toArray (ab_one _ _)) (hK.out _ _ trivial (fun _ => ?_)); obtain ⟨h8, h7, HB⟩ := stored2 (U := U) h8 h7 HB (Ne.symm ne) e8; generalize W.setCells p8 0 (ab U 32).toArray.toList = W at *; clear hK Kt
                refine wpAnyH_done (by kernel_rfl) ?_ _
                refine NoPanic.normal ?_
                exact ⟨p1, p9, p7, p8, rfl, h7, h8, HB⟩
            · refine wanted_pos rfl ?_; refine wp_hash rfl (fun p8 W q8 h8 hb => hK.out _ _ trivial (fun _ => ?_)); have e8 := le_of_eq7 q8 HB; clear q8; have HB := K.call HB hb; have c9 := later hb c9; have d9 := later hb d9; clear hK Kt; simp only [Act.put, List.getElem_toArray, List.getElem_cons_zero, List.getElem_cons_succ, List.setIfInBounds_toArray, List.set_cons_zero, List.set_cons_succ]
              refine wpAnyH_ready (rs := [10, 11]) (by kernel_rfl) (by simp) (AllReadyH.cons rfl (fun Kt hK => ?_) (AllReadyH.cons rfl (fun Kt hK => ?_) AllReadyH.nil))
              · refine wanted_pos rfl ?_; refine wp_sum rfl rfl (C2.out _ _ HB c9 d9) (fun W hb => hK.out _ _ trivial (fun _ => ?_)); have HB := K.call HB hb; have h8 := Row8.keep h8 hb; clear hK Kt; simp only [Act.put, List.getElem_toArray, List.getElem_cons_zero, List.getElem_cons_succ, List.setIfInBounds_toArray, List.set_cons_zero, List.set_cons_succ]
                refine wpAnyH_ready (rs := [11]) (by kernel_rfl) (by simp) (AllReadyH.cons rfl (fun Kt hK => ?_) AllReadyH.nil)
                refine wanted_pos rfl ?_; refine wp_hash rfl (fun p7 W q7 h7 hb => hK.out _ _ trivial (fun _ => ?_)); have e7 := le_of_eq7 q7 HB; have ne : p7 ≠ p8 := (by have := h8.lt; omega); clear q7; have HB := K.call HB hb; have h8 := Row8.keep h8 hb; clear hK Kt; simp only [Act.put, List.getElem_toArray, List.getElem_cons_zero, List.getElem_cons_succ, List.setIfInBounds_toArray, List.set_cons_zero, List.set_cons_succ]
                refine wpAnyH_ready (rs := [13]) (by kernel_rfl) (by simp) (AllReadyH.cons rfl (fun Kt hK => ?_) AllReadyH.nil)
                refine wanted_pos rfl ?_; refine wp_store_mid 25 _ _ rfl p7 0 (ab U 32).toArray rfl rfl (RowB.there h7 U) (inH _) (all_oneCell_toArray (ab_one _ _)) (hK.out _ _ trivial (fun _ => ?_)); obtain ⟨h7, h8, HB⟩ := stored2 (U := U) h7 h8 HB ne e7; generalize W.setCells p7 0 (ab U 32).toArray.toList = W at *; clear hK Kt
                refine wpAnyH_ready (rs := [14]) (by kernel_rfl) (by simp) (AllReadyH.cons rfl (fun Kt hK => ?_) AllReadyH.nil)
                refine wanted_pos rfl ?_; refine wp_store_mid 25 _ _ rfl p8 0 (ab U 32).toArray rfl rfl (RowB.there h8 U) (inH _) (all_oneCell_toArray (ab_one _ _)) (hK.out _ _ trivial (fun _ => ?_)); obtain ⟨h8, h7, HB⟩ := stored2 (U := U) h8 h7 HB (Ne.symm ne) e8; generalize W.setCells p8 0 (ab U 32).toArray.toList = W at *; clear hK Kt
                refine wpAnyH_done (by kernel_rfl) ?_ _
                refine NoPanic.normal ?_
                exact ⟨p1, p9, p7, p8, rfl, h7, h8, HB⟩
              · refine wanted_pos rfl ?_; refine wp_hash rfl (fun p7 W q7 h7 hb => hK.out _ _ trivial (fun _ => ?_)); have e7 := le_of_eq7 q7 HB; have ne : p7 ≠ p8 := (by have := h8.lt; omega); clear q7; have HB := K.call HB hb; have c9 := later hb c9; have d9 := later hb d9; have h8 := Row8.keep h8 hb; clear hK Kt; simp only [Act.put, List.getElem_toArray, List.getElem_cons_zero, List.getElem_cons_succ, List.setIfInBounds_toArray, List.set_cons_zero, List.set_cons_succ]
                refine wpAnyH_ready (rs := [10]) (by kernel_rfl) (by simp) (AllReadyH.cons rfl (fun Kt hK => ?_) AllReadyH.nil)
                refine wanted_pos rfl ?_; refine wp_sum rfl rfl (C2.out _ _ HB c9 d9) (fun W hb => hK.out _ _ trivial (fun _ => ?_)); have HB := K.call HB hb; have h7 := Row8.keep h7 hb; have h8 := Row8.keep h8 hb; clear hK Kt; simp only [Act.put, List.getElem_toArray, List.getElem_cons_zero, List.getElem_cons_succ, List.setIfInBounds_toArray, List.set_cons_zero, List.set_cons_succ]
                refine wpAnyH_ready (rs := [13]) (by kernel_rfl) (by simp) (AllReadyH.cons rfl (fun Kt hK => ?_) AllReadyH.nil)
                refine wanted_pos rfl ?_; refine wp_store_mid 25 _ _ rfl p7 0 (ab U 32).toArray rfl rfl (RowB.there h7 U) (inH _) (all_oneCell_toArray (ab_one _ _)) (hK.out _ _ trivial (fun _ => ?_)); obtain ⟨h7, h8, HB⟩ := stored2 (U := U) h7 h8 HB ne e7; generalize W.setCells p7 0 (ab U 32).toArray.toList = W at *; clear hK Kt
                refine wpAnyH_ready (rs := [14]) (by kernel_rfl) (by simp) (AllReadyH.cons rfl (fun Kt hK => ?_) AllReadyH.nil)
                refine wanted_pos rfl ?_; refine wp_store_mid 25 _ _ rfl p8 0 (ab U 32).toArray rfl rfl (RowB.there h8 U) (inH _) (all_oneCell_toArray (ab_one _ _)) (hK.out _ _ trivial (fun _ => ?_)); obtain ⟨h8, h7, HB⟩ := stored2 (U := U) h8 h7 HB (Ne.symm ne) e8; generalize W.setCells p8 0 (ab U 32).toArray.toList = W at *; clear hK Kt
                refine wpAnyH_done (by kernel_rfl) ?_ _
                refine NoPanic.normal ?_
                exact ⟨p1, p9, p7, p8, rfl, h7, h8, HB⟩
          · refine wanted_pos rfl ?_; refine wp_hash rfl (fun p7 W q7 h7 hb => hK.out _ _ trivial (fun _ => ?_)); have e7 := le_of_eq7 q7 HB; clear q7; have HB := K.call HB hb; have c1 := later hb c1; have c9 := later hb c9; have d9 := later hb d9; clear hK Kt; simp only [Act.put, List.getElem_toArray, List.getElem_cons_zero, List.getElem_cons_succ, List.setIfInBounds_toArray, List.set_cons_zero, List.set_cons_succ]
            refine wpAnyH_ready (rs := [2, 12]) (by kernel_rfl) (by simp) (AllReadyH.cons rfl (fun Kt hK => ?_) (AllReadyH.cons rfl (fun Kt hK => ?_) AllReadyH.nil))
            · refine wanted_pos rfl ?_; refine wp_sum rfl rfl (C1.out _ _ HB c1) (fun W hb => hK.out _ _ trivial (fun _ => ?_)); have HB := K.call HB hb; have c9 := later hb c9; have d9 := later hb d9; have h7 := Row8.keep h7 hb; clear hK Kt; simp only [Act.put, List.getElem_toArray, List.getElem_cons_zero, List.getElem_cons_succ, List.setIfInBounds_toArray, List.set_cons_zero, List.set_cons_succ]
              refine wpAnyH_ready (rs := [10, 12]) (by kernel_rfl) (by simp) (AllReadyH.cons rfl (fun Kt hK => ?_) (AllReadyH.cons rfl (fun Kt hK => ?_) AllReadyH.nil))
              · refine wanted_pos rfl ?_; refine wp_sum rfl rfl (C2.out _ _ HB c9 d9) (fun W hb => hK.out _ _ trivial (fun _ => ?_)); have HB := K.call HB hb; have h7 := Row8.keep h7 hb; clear hK Kt; simp only [Act.put, List.getElem_toArray, List.getElem_cons_zero, List.getElem_cons_succ, List.setIfInBounds_toArray, List.set_cons_zero, List.set_cons_succ]
                refine wpAnyH_ready (rs := [12]) (by kernel_rfl) (by simp) (AllReadyH.cons rfl (fun Kt hK => ?_) AllReadyH.nil)
                refine wanted_pos rfl ?_; refine wp_hash rfl (fun p8 W q8 h8 hb => hK.out _ _ trivial (fun _ => ?_)); have e8 := le_of_eq7 q8 HB; have ne : p7 ≠ p8 := (by have := h7.lt; omega); clear q8; have HB := K.call HB hb; have h7 := Row8.keep h7 hb; clear hK Kt; simp only [Act.put, List.getElem_toArray, List.getElem_cons_zero, List.getElem_cons_succ, List.setIfInBounds_toArray, List.set_cons_zero, List.set_cons_succ]
                refine wpAnyH_ready (rs := [13]) (by kernel_rfl) (by simp) (AllReadyH.cons rfl (fun Kt hK => ?_) AllReadyH.nil)
                refine wanted_pos rfl ?_; refine wp_store_mid 25 _ _ rfl p7 0 (ab U 32).toArray rfl rfl (RowB.there h7 U) (inH _) (all_oneCell_toArray (ab_one _ _)) (hK.out _ _ trivial (fun _ => ?_)); obtain ⟨h7, h8, HB⟩ := stored2 (U := U) h7 h8 HB ne e7; generalize W.setCells p7 0 (ab U 32).toArray.toList = W at *; clear hK Kt
                refine wpAnyH_ready (rs := [14]) (by kernel_rfl) (by simp) (AllReadyH.cons rfl (fun Kt hK => ?_) AllReadyH.nil)
                refine wanted_pos rfl ?_; refine wp_store_mid 25 _ _ rfl p8 0 (ab U 32).toArray rfl rfl (RowB.there h8 U) (inH _) (all_oneCell_toArray (ab_one _ _)) (hK.out _ _ trivial (fun _ => ?_)); obtain ⟨h8, h7, HB⟩ := stored2 (U := U) h8 h7 HB (Ne.symm ne) e8; generalize W.setCells p8 0 (ab U 32).toArray.toList = W at *; clear hK Kt
                refine wpAnyH_done (by kernel_rfl) ?_ _
                refine NoPanic.normal ?_
                exact ⟨p1, p9, p7, p8, rfl, h7, h8, HB⟩
              · refine wanted_pos rfl ?_; refine wp_hash rfl (fun p8 W q8 h8 hb => hK.out _ _ trivial (fun _ => ?_)); have e8 := le_of_eq7 q8 HB; have ne : p7 ≠ p8 := (by have := h7.lt; omega); clear q8; have HB := K.call HB hb; have c9 := later hb c9; have d9 := later hb d9; have h7 := Row8.keep h7 hb; clear hK Kt; simp only [Act.put, List.getElem_toArray, List.getElem_cons_zero, List.getElem_cons_succ, List.setIfInBounds_toArray, List.set_cons_zero, List.set_cons_succ]
                refine wpAnyH_ready (rs := [10]) (by kernel_rfl) (by simp) (AllReadyH.cons rfl (fun Kt hK => ?_) AllReadyH.nil)
                refine wanted_pos rfl ?_; refine wp_sum rfl rfl (C2.out _ _ HB c9 d9) (fun W hb => hK.out _ _ trivial (fun _ => ?_)); have HB := K.call HB hb; have h7 := Row8.keep h7 hb; have h8 := Row8.keep h8 hb; clear hK Kt; simp only [Act.put, List.getElem_toArray, List.getElem_cons_zero, List.getElem_cons_succ, List.setIfInBounds_toArray, List.set_cons_zero, List.set_cons_succ]
                refine wpAnyH_ready (rs := [13]) (by kernel_rfl) (by simp) (AllReadyH.cons rfl (fun Kt hK => ?_) AllReadyH.nil)
                refine wanted_pos rfl ?_; refine wp_store_mid 25 _ _ rfl p7 0 (ab U 32).toArray rfl rfl (RowB.there h7 U) (inH _) (all_oneCell_toArray (ab_one _ _)) (hK.out _ _ trivial (fun _ => ?_)); obtain ⟨h7, h8, HB⟩ := stored2 (U := U) h7 h8 HB ne e7; generalize W.setCells p7 0 (ab U 32).toArray.toList = W at *; clear hK Kt
                refine wpAnyH_ready (rs := [14]) (by kernel_rfl) (by simp) (AllReadyH.cons rfl (fun Kt hK => ?_) AllReadyH.nil)
                refine wanted_pos rfl ?_; refine wp_store_mid 25 _ _ rfl p8 0 (ab U 32).toArray rfl rfl (RowB.there h8 U) (inH _) (all_oneCell_toArray (ab_one _ _)) (hK.out _ _ trivial (fun _ => ?_)); obtain ⟨h8, h7, HB⟩ := stored2 (U := U) h8 h7 HB (Ne.symm ne) e8; generalize W.setCells p8 0 (ab U 32).toArray.toList = W at *; clear hK Kt
                refine wpAnyH_done (by kernel_rfl) ?_ _
                refine NoPanic.normal ?_
                exact ⟨p1, p9, p7, p8, rfl, h7, h8, HB⟩
            · refine wanted_pos rfl ?_; refine wp_hash rfl (fun p8 W q8 h8 hb => hK.out _ _ trivial (fun _ => ?_)); have e8 := le_of_eq7 q8 HB; have ne : p7 ≠ p8 := (by have := h7.lt; omega); clear q8; have HB := K.call HB hb; have c1 := later hb c1; have c9 := later hb c9; have d9 := later hb d9; have h7 := Row8.keep h7 hb; clear hK Kt; simp only [Act.put, List.getElem_toArray, List.getElem_cons_zero, List.getElem_cons_succ, List.setIfInBounds_toArray, List.set_cons_zero, List.set_cons_succ]
              refine wpAnyH_ready (rs := [2]) (by kernel_rfl) (by simp) (AllReadyH.cons rfl (fun Kt hK => ?_) AllReadyH.nil)
              refine wanted_pos rfl ?_; refine wp_sum rfl rfl (C1.out _ _ HB c1) (fun W hb => hK.out _ _ trivial (fun _ => ?_)); have HB := K.call HB hb; have c9 := later hb c9; have d9 := later hb d9; have h7 := Row8.keep h7 hb; have h8 := Row8.keep h8 hb; clear hK Kt; simp only [Act.put, List.getElem_toArray, List.getElem_cons_zero, List.getElem_cons_succ, List.setIfInBounds_toArray, List.set_cons_zero, List.set_cons_succ]
              refine wpAnyH_ready (rs := [10]) (by kernel_rfl) (by simp) (AllReadyH.cons rfl (fun Kt hK => ?_) AllReadyH.nil)
              refine wanted_pos rfl ?_; refine wp_sum rfl rfl (C2.out _ _ HB c9 d9) (fun W hb => hK.out _ _ trivial (fun _ => ?_)); have HB := K.call HB hb; have h7 := Row8.keep h7 hb; have h8 := Row8.keep h8 hb; clear hK Kt; simp only [Act.put, List.getElem_toArray, List.getElem_cons_zero, List.getElem_cons_succ, List.setIfInBounds_toArray, List.set_cons_zero, List.set_cons_succ]
              refine wpAnyH_ready (rs := [13]) (by kernel_rfl) (by simp) (AllReadyH.cons rfl (fun Kt hK => ?_) AllReadyH.nil)
              refine wanted_pos rfl ?_; refine wp_store_mid 25 _ _ rfl p7 0 (ab U 32).toArray rfl rfl (RowB.there h7 U) (inH _) (all_oneCell_toArray (ab_one _ _)) (hK.out _ _ trivial (fun _ => ?_)); obtain ⟨h7, h8, HB⟩ := stored2 (U := U) h7 h8 HB ne e7; generalize W.setCells p7 0 (ab U 32).toArray.toList = W at *; clear hK Kt
              refine wpAnyH_ready (rs := [14]) (by kernel_rfl) (by simp) (AllReadyH.cons rfl (fun Kt hK => ?_) AllReadyH.nil)
              refine wanted_pos rfl ?_; refine wp_store_mid 25 _ _ rfl p8 0 (ab U 32).toArray rfl rfl (RowB.there h8 U) (inH _) (all_oneCell_toArray (ab_one _ _)) (hK.out _ _ trivial (fun _ => ?_)); obtain ⟨h8, h7, HB⟩ := stored2 (U := U) h8 h7 HB (Ne.symm ne) e8; generalize W.setCells p8 0 (ab U 32).toArray.toList = W at *; clear hK Kt
              refine wpAnyH_done (by kernel_rfl) ?_ _
              refine NoPanic.normal ?_
              exact ⟨p1, p9, p7, p8, rfl, h7, h8, HB⟩
          · refine wanted_pos rfl ?_; refine wp_hash rfl (fun p8 W q8 h8 hb => hK.out _ _ trivial (fun _ => ?_)); have e8 := le_of_eq7 q8 HB; clear q8; have HB := K.call HB hb; have c1 := later hb c1; have c9 := later hb c9; have d9 := later hb d9; clear hK Kt; simp only [Act.put, List.getElem_toArray, List.getElem_cons_zero, List.getElem_cons_succ, List.setIfInBounds_toArray, List.set_cons_zero, List.set_cons_succ]
            refine wpAnyH_ready (rs := [2, 11]) (by kernel_rfl) (by simp) (AllReadyH.cons rfl (fun Kt hK => ?_) (AllReadyH.cons rfl (fun Kt hK => ?_) AllReadyH.nil))
            · refine wanted_pos rfl ?_; refine wp_sum rfl rfl (C1.out _ _ HB c1) (fun W hb => hK.out _ _ trivial (fun _ => ?_)); have HB := K.call HB hb; have c9 := later hb c9; have d9 := later hb d9; have h8 := Row8.keep h8 hb; clear hK Kt; simp only [Act.put, List.getElem_toArray, List.getElem_cons_zero, List.getElem_cons_succ, List.setIfInBounds_toArray, List.set_cons_zero, List.set_cons_succ]
              refine wpAnyH_ready (rs := [10, 11]) (by kernel_rfl) (by simp) (AllReadyH.cons rfl (fun Kt hK => ?_) (AllReadyH.cons rfl (fun Kt hK => ?_) AllReadyH.nil))
              · refine wanted_pos rfl ?_; refine wp_sum rfl rfl (C2.out _ _ HB c9 d9) (fun W hb => hK.out _ _ trivial (fun _ => ?_)); have HB := K.call HB hb; have h8 := Row8.keep h8 hb; clear hK Kt; simp only [Act.put, List.getElem_toArray, List.getElem_cons_zero, List.getElem_cons_succ, List.setIfInBounds_toArray, List.set_cons_zero, List.set_cons_succ]
                refine wpAnyH_ready (rs := [11]) (by kernel_rfl) (by simp) (AllReadyH.cons rfl (fun Kt hK => ?_) AllReadyH.nil)
                refine wanted_pos rfl ?_; refine wp_hash rfl (fun p7 W q7 h7 hb => hK.out _ _ trivial (fun _ => ?_)); have e7 := le_of_eq7 q7 HB; have ne : p7 ≠ p8 := (by have := h8.lt; omega); clear q7; have HB := K.call HB hb; have h8 := Row8.keep h8 hb; clear hK Kt; simp only [Act.put, List.getElem_toArray, List.getElem_cons_zero, List.getElem_cons_succ, List.setIfInBounds_toArray, List.set_cons_zero, List.set_cons_succ]
                refine wpAnyH_ready (rs := [13]) (by kernel_rfl) (by simp) (AllReadyH.cons rfl (fun Kt hK => ?_) AllReadyH.nil)
                refine wanted_pos rfl ?_; refine wp_store_mid 25 _ _ rfl p7 0 (ab U 32).toArray rfl rfl (RowB.there h7 U) (inH _) (all_oneCell_toArray (ab_one _ _)) (hK.out _ _ trivial (fun _ => ?_)); obtain ⟨h7, h8, HB⟩ := stored2 (U := U) h7 h8 HB ne e7; generalize W.setCells p7 0 (ab U 32).toArray.toList = W at *; clear hK Kt
                refine wpAnyH_ready (rs := [14]) (by kernel_rfl) (by simp) (AllReadyH.cons rfl (fun Kt hK => ?_) AllReadyH.nil)
                refine wanted_pos rfl ?_; refine wp_store_mid 25 _ _ rfl p8 0 (ab U 32).toArray rfl rfl (RowB.there h8 U) (inH _) (all_oneCell_toArray (ab_one _ _)) (hK.out _ _ trivial (fun _ => ?_)); obtain ⟨h8, h7, HB⟩ := stored2 (U := U) h8 h7 HB (Ne.symm ne) e8; generalize W.setCells p8 0 (ab U 32).toArray.toList = W at *; clear hK Kt
                refine wpAnyH_done (by kernel_rfl) ?_ _
                refine NoPanic.normal ?_
                exact ⟨p1, p9, p7, p8, rfl, h7, h8, HB⟩
              · refine wanted_pos rfl ?_; refine wp_hash rfl (fun p7 W q7 h7 hb => hK.out _ _ trivial (fun _ => ?_)); have e7 := le_of_eq7 q7 HB; have ne : p7 ≠ p8 := (by have := h8.lt; omega); clear q7; have HB := K.call HB hb; have c9 := later hb c9; have d9 := later hb d9; have h8 := Row8.keep h8 hb; clear hK Kt; simp only [Act.put, List.getElem_toArray, List.getElem_cons_zero, List.getElem_cons_succ, List.setIfInBounds_toArray, List.set_cons_zero, List.set_cons_succ]
                refine wpAnyH_ready (rs := [10]) (by kernel_rfl) (by simp) (AllReadyH.cons rfl (fun Kt hK => ?_) AllReadyH.nil)
                refine wanted_pos rfl ?_; refine wp_sum rfl rfl (C2.out _ _ HB c9 d9) (fun W hb => hK.out _ _ trivial (fun _ => ?_)); have HB := K.call HB hb; have h7 := Row8.keep h7 hb; have h8 := Row8.keep h8 hb; clear hK Kt; simp only [Act.put, List.getElem_toArray, List.getElem_cons_zero, List.getElem_cons_succ, List.setIfInBounds_toArray, List.set_cons_zero, List.set_cons_succ]
                refine wpAnyH_ready (rs := [13]) (by kernel_rfl) (by simp) (AllReadyH.cons rfl (fun Kt hK => ?_) AllReadyH.nil)
                refine wanted_pos rfl ?_; refine wp_store_mid 25 _ _ rfl p7 0 (ab U 32).toArray rfl rfl (RowB.there h7 U) (inH _) (all_oneCell_toArray (ab_one _ _)) (hK.out _ _ trivial (fun _ => ?_)); obtain ⟨h7, h8, HB⟩ := stored2 (U := U) h7 h8 HB ne e7; generalize W.setCells p7 0 (ab U 32).toArray.toList = W at *; clear hK Kt
                refine wpAnyH_ready (rs := [14]) (by kernel_rfl) (by simp) (AllReadyH.cons rfl (fun Kt hK => ?_) AllReadyH.nil)
                refine wanted_pos rfl ?_; refine wp_store_mid 25 _ _ rfl p8 0 (ab U 32).toArray rfl rfl (RowB.there h8 U) (inH _) (all_oneCell_toArray (ab_one _ _)) (hK.out _ _ trivial (fun _ => ?_)); obtain ⟨h8, h7, HB⟩ := stored2 (U := U) h8 h7 HB (Ne.symm ne) e8; generalize W.setCells p8 0 (ab U 32).toArray.toList = W at *; clear hK Kt
                refine wpAnyH_done (by kernel_rfl) ?_ _
                refine NoPanic.normal ?_
                exact ⟨p1, p9, p7, p8, rfl, h7, h8, HB⟩
            · refine wanted_pos rfl ?_; refine wp_hash rfl (fun p7 W q7 h7 hb => hK.out _ _ trivial (fun _ => ?_)); have e7 := le_of_eq7 q7 HB; have ne : p7 ≠ p8 := (by have := h8.lt; omega); clear q7; have HB := K.call HB hb; have c1 := later hb c1; have c9 := later hb c9; have d9 := later hb d9; have h8 := Row8.keep h8 hb; clear hK Kt; simp only [Act.put, List.getElem_toArray, List.getElem_cons_zero, List.getElem_cons_succ, List.setIfInBounds_toArray, List.set_cons_zero, List.set_cons_succ]
              refine wpAnyH_ready (rs := [2]) (by kernel_rfl) (by simp) (AllReadyH.cons rfl (fun Kt hK => ?_) AllReadyH.nil)
              refine wanted_pos rfl ?_; refine wp_sum rfl rfl (C1.out _ _ HB c1) (fun W hb => hK.out _ _ trivial (fun _ => ?_)); have HB := K.call HB hb; have c9 := later hb c9; have d9 := later hb d9; have h7 := Row8.keep h7 hb; have h8 := Row8.keep h8 hb; clear hK Kt; simp only [Act.put, List.getElem_toArray, List.getElem_cons_zero, List.getElem_cons_succ, List.setIfInBounds_toArray, List.set_cons_zero, List.set_cons_succ]
              refine wpAnyH_ready (rs := [10]) (by kernel_rfl) (by simp) (AllReadyH.cons rfl (fun Kt hK => ?_) AllReadyH.nil)
              refine wanted_pos rfl ?_; refine wp_sum rfl rfl (C2.out _ _ HB c9 d9) (fun W hb => hK.out _ _ trivial (fun _ => ?_)); have HB := K.call HB hb; have h7 := Row8.keep h7 hb; have h8 := Row8.keep h8 hb; clear hK Kt; simp only [Act.put, List.getElem_toArray, List.getElem_cons_zero, List.getElem_cons_succ, List.setIfInBounds_toArray, List.set_cons_zero, List.set_cons_succ]
              refine wpAnyH_ready (rs := [13]) (by kernel_rfl) (by simp) (AllReadyH.cons rfl (fun Kt hK => ?_) AllReadyH.nil)
              refine wanted_pos rfl ?_; refine wp_store_mid 25 _ _ rfl p7 0 (ab U 32).toArray rfl rfl (RowB.there h7 U) (inH _) (all_oneCell_toArray (ab_one _ _)) (hK.out _ _ trivial (fun _ => ?_)); obtain ⟨h7, h8, HB⟩ := stored2 (U := U) h7 h8 HB ne e7; generalize W.setCells p7 0 (ab U 32).toArray.toList = W at *; clear hK Kt
              refine wpAnyH_ready (rs := [14]) (by kernel_rfl) (by simp) (AllReadyH.cons rfl (fun Kt hK => ?_) AllReadyH.nil)
              refine wanted_pos rfl ?_; refine wp_store_mid 25 _ _ rfl p8 0 (ab U 32).toArray rfl rfl (RowB.there h8 U) (inH _) (all_oneCell_toArray (ab_one _ _)) (hK.out _ _ trivial (fun _ => ?_)); obtain ⟨h8, h7, HB⟩ := stored2 (U := U) h8 h7 HB (Ne.symm ne) e8; generalize W.setCells p8 0 (ab U 32).toArray.toList = W at *; clear hK Kt
              refine wpAnyH_done (by kernel_rfl) ?_ _
              refine NoPanic.normal ?_
              exact ⟨p1, p9, p7, p8, rfl, h7, h8, HB⟩
        · refine wanted_pos rfl ?_; refine wp_hash rfl (fun p7 W q7 h7 hb => hK.out _ _ trivial (fun _ => ?_)); have e7 := le_of_eq7 q7 HB; clear q7; have HB := K.call HB hb; have c1 := later hb c1; clear hK Kt; simp only [Act.put, List.getElem_toArray, List.getElem_cons_zero, List.getElem_cons_succ, List.setIfInBounds_toArray, List.set_cons_zero, List.set_cons_succ]
          refine wpAnyH_ready (rs := [2, 9, 12]) (by kernel_rfl) (by simp) (AllReadyH.cons rfl (fun Kt hK => ?_) (AllReadyH.cons rfl (fun Kt hK => ?_) (AllReadyH.cons rfl (fun Kt hK => ?_) AllReadyH.nil)))
          · refine wanted_pos rfl ?_; refine wp_sum rfl rfl (C1.out _ _ HB c1) (fun W hb => hK.out _ _ trivial (fun _ => ?_)); have HB := K.call HB hb; have h7 := Row8.keep h7 hb; clear hK Kt; simp only [Act.put, List.getElem_toArray, List.getElem_cons_zero, List.getElem_cons_succ, List.setIfInBounds_toArray, List.set_cons_zero, List.set_cons_succ]
            refine wpAnyH_ready (rs := [9, 12]) (by kernel_rfl) (by simp) (AllReadyH.cons rfl (fun Kt hK => ?_) (AllReadyH.cons rfl (fun Kt hK => ?_) AllReadyH.nil))
            · refine wanted_pos rfl ?_; refine wp_two rfl rfl rfl (fun p9 W _ c9 d9 hb => hK.out _ _ trivial (fun _ => ?_)); have HB := K.call HB hb; have h7 := Row8.keep h7 hb; clear hK Kt; simp only [Act.put, List.getElem_toArray, List.getElem_cons_zero, List.getElem_cons_succ, List.setIfInBounds_toArray, List.set_cons_zero, List.set_cons_succ]
              refine wpAnyH_ready (rs := [10, 12]) (by kernel_rfl) (by simp) (AllReadyH.cons rfl (fun Kt hK => ?_) (AllReadyH.cons rfl (fun Kt hK => ?_) AllReadyH.nil))
              · refine wanted_pos rfl ?_; refine wp_sum rfl rfl (C2.out _ _ HB c9 d9) (fun W hb => hK.out _ _ trivial (fun _ => ?_)); have HB := K.call HB hb; have h7 := Row8.keep h7 hb; clear hK Kt; simp only [Act.put, List.getElem_toArray, List.getElem_cons_zero, List.getElem_cons_succ, List.setIfInBounds_toArray, List.set_cons_zero, List.set_cons_succ]
                refine wpAnyH_ready (rs := [12]) (by kernel_rfl) (by simp) (AllReadyH.cons rfl (fun Kt hK => ?_) AllReadyH.nil)
                refine wanted_pos rfl ?_; refine wp_hash rfl (fun p8 W q8 h8 hb => hK.out _ _ trivial (fun _ => ?_)); have e8 := le_of_eq7 q8 HB; have ne : p7 ≠ p8 := (by have := h7.lt; omega); clear q8; have HB := K.call HB hb; have h7 := Row8.keep h7 hb; clear hK Kt; simp only [Act.put, List.getElem_toArray, List.getElem_cons_zero, List.getElem_cons_succ, List.setIfInBounds_toArray, List.set_cons_zero, List.set_cons_succ]
                refine wpAnyH_ready (rs := [13]) (by kernel_rfl) (by simp) (AllReadyH.cons rfl (fun Kt hK => ?_) AllReadyH.nil)
                refine wanted_pos rfl ?_; refine wp_store_mid 25 _ _ rfl p7 0 (ab U 32).toArray rfl rfl (RowB.there h7 U) (inH _) (all_oneCell_toArray (ab_one _ _)) (hK.out _ _ trivial (fun _ => ?_)); obtain ⟨h7, h8, HB⟩ := stored2 (U := U) h7 h8 HB ne e7; generalize W.setCells p7 0 (ab U 32).toArray.toList = W at *; clear hK Kt
                refine wpAnyH_ready (rs := [14]) (by kernel_rfl) (by simp) (AllReadyH.cons rfl (fun Kt hK => ?_) AllReadyH.nil)
                refine wanted_pos rfl ?_; refine wp_store_mid 25 _ _ rfl p8 0 (ab U 32).toArray rfl rfl (RowB.there h8 U) (inH _) (all_oneCell_toArray (ab_one _ _)) (hK.out _ _ trivial (fun _ => ?_)); obtain ⟨h8, h7, HB⟩ := stored2 (U := U) h8 h7 HB (Ne.symm ne) e8; generalize W.setCells p8 0 (ab U 32).toArray.toList = W at *; clear hK Kt
                refine wpAnyH_done (by kernel_rfl) ?_ _
                refine NoPanic.normal ?_
                exact ⟨p1, p9, p7, p8, rfl, h7, h8, HB⟩
              · refine wanted_pos rfl ?_; refine wp_hash rfl (fun p8 W q8 h8 hb => hK.out _ _ trivial (fun _ => ?_)); have e8 := le_of_eq7 q8 HB; have ne : p7 ≠ p8 := (by have := h7.lt; omega); clear q8; have HB := K.call HB hb; have c9 := later hb c9; have d9 := later hb d9; have h7 := Row8.keep h7 hb; clear hK Kt; simp only [Act.put, List.getElem_toArray, List.getElem_cons_zero, List.getElem_cons_succ, List.setIfInBounds_toArray, List.set_cons_zero, List.set_cons_succ]
                refine wpAnyH_ready (rs := [10]) (by kernel_rfl) (by simp) (AllReadyH.cons rfl (fun Kt hK => ?_) AllReadyH.nil)
                refine wanted_pos rfl ?_; refine wp_sum rfl rfl (C2.out _ _ HB c9 d9) (fun W hb => hK.out _ _ trivial (fun _ => ?_)); have HB := K.call HB hb; have h7 := Row8.keep h7 hb; have h8 := Row8.keep h8 hb; clear hK Kt; simp only [Act.put, List.getElem_toArray, List.getElem_cons_zero, List.getElem_cons_succ, List.setIfInBounds_toArray, List.set_cons_zero, List.set_cons_succ]
                refine wpAnyH_ready (rs := [13]) (by kernel_rfl) (by simp) (AllReadyH.cons rfl (fun Kt hK => ?_) AllReadyH.nil)
                refine wanted_pos rfl ?_; refine wp_store_mid 25 _ _ rfl p7 0 (ab U 32).toArray rfl rfl (RowB.there h7 U) (inH _) (all_oneCell_toArray (ab_one _ _)) (hK.out _ _ trivial (fun _ => ?_)); obtain ⟨h7, h8, HB⟩ := stored2 (U := U) h7 h8 HB ne e7; generalize W.setCells p7 0 (ab U 32).toArray.toList = W at *; clear hK Kt
                refine wpAnyH_ready (rs := [14]) (by kernel_rfl) (by simp) (AllReadyH.cons rfl (fun Kt hK => ?_) AllReadyH.nil)
                refine wanted_pos rfl ?_; refine wp_store_mid 25 _ _ rfl p8 0 (ab U 32).toArray rfl rfl (RowB.there h8 U) (inH _) (all_oneCell_toArray (ab_one _ _)) (hK.out _ _ trivial (fun _ => ?_)); obtain ⟨h8, h7, HB⟩ := stored2 (U := U) h8 h7 HB (Ne.symm ne) e8; generalize W.setCells p8 0 (ab U 32).toArray.toList = W at *; clear hK Kt
                refine wpAnyH_done (by kernel_rfl) ?_ _
                refine NoPanic.normal ?_
                exact ⟨p1, p9, p7, p8, rfl, h7, h8, HB⟩
            · refine wanted_pos rfl ?_; refine wp_hash rfl (fun p8 W q8 h8 hb => hK.out _ _ trivial (fun _ => ?_)); have e8 := le_of_eq7 q8 HB; have ne : p7 ≠ p8 := (by have := h7.lt; omega); clear q8; have HB := K.call HB hb; have h7 := Row8.keep h7 hb; clear hK Kt; simp only [Act.put, List.getElem_toArray, List.getElem_cons_zero, List.getElem_cons_succ, List.setIfInBounds_toArray, List.set_cons_zero, List.set_cons_succ]
              refine wpAnyH_ready (rs := [9]) (by kernel_rfl) (by simp) (AllReadyH.cons rfl (fun Kt hK => ?_) AllReadyH.nil)
              refine wanted_pos rfl ?_; refine wp_two rfl rfl rfl (fun p9 W _ c9 d9 hb => hK.out _ _ trivial (fun _ => ?_)); have HB := K.call HB hb; have h7 := Row8.keep h7 hb; have h8 := Row8.keep h8 hb; clear hK Kt; simp only [Act.put, List.getElem_toArray, List.getElem_cons_zero, List.getElem_cons_succ, List.setIfInBounds_toArray, List.set_cons_zero, List.set_cons_succ]
              refine wpAnyH_ready (rs := [10]) (by kernel_rfl) (by simp) (AllReadyH.cons rfl (fun Kt hK => ?_) AllReadyH.nil)
              refine wanted_pos rfl ?_; refine wp_sum rfl rfl (C2.out _ _ HB c9 d9) (fun W hb => hK.out _ _ trivial (fun _ => ?_)); have HB := K.call HB hb; have h7 := Row8.keep h7 hb; have h8 := Row8.keep h8 hb; clear hK Kt; simp only [Act.put, List.getElem_toArray, List.getElem_cons_zero, List.getElem_cons_succ, List.setIfInBounds_toArray, List.set_cons_zero, List.set_cons_succ]
              refine wpAnyH_ready (rs := [13]) (by kernel_rfl) (by simp) (AllReadyH.cons rfl (fun Kt hK => ?_) AllReadyH.nil)
              refine wanted_pos rfl ?_; refine wp_store_mid 25 _ _ rfl p7 0 (ab U 32).toArray rfl rfl (RowB.there h7 U) (inH _) (all_oneCell_toArray (ab_one _ _)) (hK.out _ _ trivial (fun _ => ?_)); obtain ⟨h7, h8, HB⟩ := stored2 (U := U) h7 h8 HB ne e7; generalize W.setCells p7 0 (ab U 32).toArray.toList = W at *; clear hK Kt
              refine wpAnyH_ready (rs := [14]) (by kernel_rfl) (by simp) (AllReadyH.cons rfl (fun Kt hK => ?_) AllReadyH.nil)
              refine wanted_pos rfl ?_; refine wp_store_mid 25 _ _ rfl p8 0 (ab U 32).toArray rfl rfl (RowB.there h8 U) (inH _) (all_oneCell_toArray (ab_one _ _)) (hK.out _ _ trivial (fun _ => ?_)); obtain ⟨h8, h7, HB⟩ := stored2 (U := U) h8 h7 HB (Ne.symm ne) e8; generalize W.setCells p8 0 (ab U 32).toArray.toList = W at *; clear hK Kt
              refine wpAnyH_done (by kernel_rfl) ?_ _
              refine NoPanic.normal ?_
              exact ⟨p1, p9, p7, p8, rfl, h7, h8, HB⟩
          · refine wanted_pos rfl ?_; refine wp_two rfl rfl rfl (fun p9 W _ c9 d9 hb => hK.out _ _ trivial (fun _ => ?_)); have HB := K.call HB hb; have c1 := later hb c1; have h7 := Row8.keep h7 hb; clear hK Kt; simp only [Act.put, List.getElem_toArray, List.getElem_cons_zero, List.getElem_cons_succ, List.setIfInBounds_toArray, List.set_cons_zero, List.set_cons_succ]
            refine wpAnyH_ready (rs := [2, 12]) (by kernel_rfl) (by simp) (AllReadyH.cons rfl (fun Kt hK => ?_) (AllReadyH.cons rfl (fun Kt hK => ?_) AllReadyH.nil))
            · refine wanted_pos rfl ?_; refine wp_sum rfl rfl (C1.out _ _ HB c1) (fun W hb => hK.out _ _ trivial (fun _ => ?_)); have HB := K.call HB hb; have c9 := later hb c9; have d9 := later hb d9; have h7 := Row8.keep h7 hb; clear hK Kt; simp only [Act.put, List.getElem_toArray, List.getElem_cons_zero, List.getElem_cons_succ, List.setIfInBounds_toArray, List.set_cons_zero, List.set_cons_succ]
              refine wpAnyH_ready (rs := [10, 12]) (by kernel_rfl) (by simp) (AllReadyH.cons rfl (fun Kt hK => ?_) (AllReadyH.cons rfl (fun Kt hK => ?_) AllReadyH.nil))
              · refine wanted_pos rfl ?_; refine wp_sum rfl rfl (C2.out _ _ HB c9 d9) (fun W hb => hK.out _ _ trivial (fun _ => ?_)); have HB := K.call HB hb; have h7 := Row8.keep h7 hb; clear hK Kt; simp only [Act.put, List.getElem_toArray, List.getElem_cons_zero, List.getElem_cons_succ, List.setIfInBounds_toArray, List.set_cons_zero, List.set_cons_succ]
                refine wpAnyH_ready (rs := [12]) (by kernel_rfl) (by simp) (AllReadyH.cons rfl (fun Kt hK => ?_) AllReadyH.nil)
                refine wanted_pos rfl ?_; refine wp_hash rfl (fun p8 W q8 h8 hb => hK.out _ _ trivial (fun _ => ?_)); have e8 := le_of_eq7 q8 HB; have ne : p7 ≠ p8 := (by have := h7.lt; omega); clear q8; have HB := K.call HB hb; have h7 := Row8.keep h7 hb; clear hK Kt; simp only [Act.put, List.getElem_toArray, List.getElem_cons_zero, List.getElem_cons_succ, List.setIfInBounds_toArray, List.set_cons_zero, List.set_cons_succ]
                refine wpAnyH_ready (rs := [13]) (by kernel_rfl) (by simp) (AllReadyH.cons rfl (fun Kt hK => ?_) AllReadyH.nil)
                refine wanted_pos rfl ?_; refine wp_store_mid 25 _ _ rfl p7 0 (ab U 32).toArray rfl rfl (RowB.there h7 U) (inH _) (all_oneCell_toArray (ab_one _ _)) (hK.out _ _ trivial (fun _ => ?_)); obtain ⟨h7, h8, HB⟩ := stored2 (U := U) h7 h8 HB ne e7; generalize W.setCells p7 0 (ab U 32).toArray.toList = W at *; clear hK Kt
                refine wpAnyH_ready (rs := [14]) (by kernel_rfl) (by simp) (AllReadyH.cons rfl (fun Kt hK => ?_) AllReadyH.nil)
                refine wanted_pos rfl ?_; refine wp_store_mid 25 _ _ rfl p8 0 (ab U 32).toArray rfl rfl (RowB.there h8 U) (inH _) (all_oneCell_toArray (ab_one _ _)) (hK.out _ _ trivial (fun _ => ?_)); obtain ⟨h8, h7, HB⟩ := stored2 (U := U) h8 h7 HB (Ne.symm ne) e8; generalize W.setCells p8 0 (ab U 32).toArray.toList = W at *; clear hK Kt
                refine wpAnyH_done (by kernel_rfl) ?_ _
                refine NoPanic.normal ?_
                exact ⟨p1, p9, p7, p8, rfl, h7, h8, HB⟩
              · refine wanted_pos rfl ?_; refine wp_hash rfl (fun p8 W q8 h8 hb => hK.out _ _ trivial (fun _ => ?_)); have e8 := le_of_eq7 q8 HB; have ne : p7 ≠ p8 := (by have := h7.lt; omega); clear q8; have HB := K.call HB hb; have c9 := later hb c9; have d9 := later hb d9; have h7 := Row8.keep h7 hb; clear hK Kt; simp only [Act.put, List.getElem_toArray, List.getElem_cons_zero, List.getElem_cons_succ, List.setIfInBounds_toArray, List.set_cons_zero, List.set_cons_succ]
                refine wpAnyH_ready (rs := [10]) (by kernel_rfl) (by simp) (AllReadyH.cons rfl (fun Kt hK => ?_) AllReadyH.nil)
                refine wanted_pos rfl ?_; refine wp_sum rfl rfl (C2.out _ _ HB c9 d9) (fun W hb => hK.out _ _ trivial (fun _ => ?_)); have HB := K.call HB hb; have h7 := Row8.keep h7 hb; have h8 := Row8.keep h8 hb; clear hK Kt; simp only [Act.put, List.getElem_toArray, List.getElem_cons_zero, List.getElem_cons_succ, List.setIfInBounds_toArray, List.set_cons_zero, List.set_cons_succ]
                refine wpAnyH_ready (rs := [13]) (by kernel_rfl) (by simp) (AllReadyH.cons rfl (fun Kt hK => ?_) AllReadyH.nil)
                refine wanted_pos rfl ?_; refine wp_store_mid 25 _ _ rfl p7 0 (ab U 32).toArray rfl rfl (RowB.there h7 U) (inH _) (all_oneCell_toArray (ab_one _ _)) (hK.out _ _ trivial (fun _ => ?_)); obtain ⟨h7, h8, HB⟩ := stored2 (U := U) h7 h8 HB ne e7; generalize W.setCells p7 0 (ab U 32).toArray.toList = W at *; clear hK Kt
                refine wpAnyH_ready (rs := [14]) (by kernel_rfl) (by simp) (AllReadyH.cons rfl (fun Kt hK => ?_) AllReadyH.nil)
                refine wanted_pos rfl ?_; refine wp_store_mid 25 _ _ rfl p8 0 (ab U 32).toArray rfl rfl (RowB.there h8 U) (inH _) (all_oneCell_toArray (ab_one _ _)) (hK.out _ _ trivial (fun _ => ?_)); obtain ⟨h8, h7, HB⟩ := stored2 (U := U) h8 h7 HB (Ne.symm ne) e8; generalize W.setCells p8 0 (ab U 32).toArray.toList = W at *; clear hK Kt
                refine wpAnyH_done (by kernel_rfl) ?_ _
                refine NoPanic.normal ?_
                exact ⟨p1, p9, p7, p8, rfl, h7, h8, HB⟩
            · refine wanted_pos rfl ?_; refine wp_hash rfl (fun p8 W q8 h8 hb => hK.out _ _ trivial (fun _ => ?_)); have e8 := le_of_eq7 q8 HB; have ne : p7 ≠ p8 := (by have := h7.lt; omega); clear q8; have HB := K.call HB hb; have c1 := later hb c1; have c9 := later hb c9; have d9 := later hb d9; have h7 := Row8.keep h7 hb; clear hK Kt; simp only [Act.put, List.getElem_toArray, List.getElem_cons_zero, List.getElem_cons_succ, List.setIfInBounds_toArray, List.set_cons_zero, List.set_cons_succ]
              refine wpAnyH_ready (rs := [2]) (by kernel_rfl) (by simp) (AllReadyH.cons rfl (fun Kt hK => ?_) AllReadyH.nil)
              refine wanted_pos rfl ?_; refine wp_sum rfl rfl (C1.out _ _ HB c1) (fun W hb => hK.out _ _ trivial (fun _ => ?_)); have HB := K.call HB hb; have c9 := later hb c9; have d9 := later hb d9; have h7 := Row8.keep h7 hb; have h8 := Row8.keep h8 hb; clear hK Kt; simp only [Act.put, List.getElem_toArray, List.getElem_cons_zero, List.getElem_cons_succ, List.setIfInBounds_toArray, List.set_cons_zero, List.set_cons_succ]
              refine wpAnyH_ready (rs := [10]) (by kernel_rfl) (by simp) (AllReadyH.cons rfl (fun Kt hK => ?_) AllReadyH.nil)
              refine wanted_pos rfl ?_; refine wp_sum rfl rfl (C2.out _ _ HB c9 d9) (fun W hb => hK.out _ _ trivial (fun _ => ?_)); have HB := K.call HB hb; have h7 := Row8.keep h7 hb; have h8 := Row8.keep h8 hb; clear hK Kt; simp only [Act.put, List.getElem_toArray, List.getElem_cons_zero, List.getElem_cons_succ, List.setIfInBounds_toArray, List.set_cons_zero, List.set_cons_succ]
              refine wpAnyH_ready (rs := [13]) (by kernel_rfl) (by simp) (AllReadyH.cons rfl (fun Kt hK => ?_) AllReadyH.nil)
              refine wanted_pos rfl ?_; refine wp_store_mid 25 _ _ rfl p7 0 (ab U 32).toArray rfl rfl (RowB.there h7 U) (inH _) (all_oneCell_toArray (ab_one _ _)) (hK.out _ _ trivial (fun _ => ?_)); obtain ⟨h7, h8, HB⟩ := stored2 (U := U) h7 h8 HB ne e7; generalize W.setCells p7 0 (ab U 32).toArray.toList = W at *; clear hK Kt
              refine wpAnyH_ready (rs := [14]) (by kernel_rfl) (by simp) (AllReadyH.cons rfl (fun Kt hK => ?_) AllReadyH.nil)
              refine wanted_pos rfl ?_; refine wp_store_mid 25 _ _ rfl p8 0 (ab U 32).toArray rfl rfl (RowB.there h8 U) (inH _) (all_oneCell_toArray (ab_one _ _)) (hK.out _ _ trivial (fun _ => ?_)); obtain ⟨h8, h7, HB⟩ := stored2 (U := U) h8 h7 HB (Ne.symm ne) e8; generalize W.setCells p8 0 (ab U 32).toArray.toList = W at *; clear hK Kt
              refine wpAnyH_done (by kernel_rfl) ?_ _
              refine NoPanic.normal ?_
              exact ⟨p1, p9, p7, p8, rfl, h7, h8, HB⟩
          · refine wanted_pos rfl ?_; refine wp_hash rfl (fun p8 W q8 h8 hb => hK.out _ _ trivial (fun _ => ?_)); have e8 := le_of_eq7 q8 HB; have ne : p7 ≠ p8 := (by have := h7.lt; omega); clear q8; have HB := K.call HB hb; have c1 := later hb c1; have h7 := Row8.keep h7 hb; clear hK Kt; simp only [Act.put, List.getElem_toArray, List.getElem_cons_zero, List.getElem_cons_succ, List.setIfInBounds_toArray, List.set_cons_zero, List.set_cons_succ]
            refine wpAnyH_ready (rs := [2, 9]) (by kernel_rfl) (by simp) (AllReadyH.cons rfl (fun Kt hK => ?_) (AllReadyH.cons rfl (fun Kt hK => ?_) AllReadyH.nil))
            · refine wanted_pos rfl ?_; refine wp_sum rfl rfl (C1.out _ _ HB c1) (fun W hb => hK.out _ _ trivial (fun _ => ?_)); have HB := K.call HB hb; have h7 := Row8.keep h7 hb; have h8 := Row8.keep h8 hb; clear hK Kt; simp only [Act.put, List.getElem_toArray, List.getElem_cons_zero, List.getElem_cons_succ, List.setIfInBounds_toArray, List.set_cons_zero, List.set_cons_succ]
              refine wpAnyH_ready (rs := [9]) (by kernel_rfl) (by simp) (AllReadyH.cons rfl (fun Kt hK => ?_) AllReadyH.nil)
              refine wanted_pos rfl ?_; refine wp_two rfl rfl rfl (fun p9 W _ c9 d9 hb => hK.out _ _ trivial (fun _ => ?_)); have HB := K.call HB hb; have h7 := Row8.keep h7 hb; have h8 := Row8.keep h8 hb; clear hK Kt; simp only [Act.put, List.getElem_toArray, List.getElem_cons_zero, List.getElem_cons_succ, List.setIfInBounds_toArray, List.set_cons_zero, List.set_cons_succ]
              refine wpAnyH_ready (rs := [10]) (by kernel_rfl) (by simp) (AllReadyH.cons rfl (fun Kt hK => ?_) AllReadyH.nil)
              refine wanted_pos rfl ?_; refine wp_sum rfl rfl (C2.out _ _ HB c9 d9) (fun W hb => hK.out _ _ trivial (fun _ => ?_)); have HB := K.call HB hb; have h7 := Row8.keep h7 hb; have h8 := Row8.keep h8 hb; clear hK Kt; simp only [Act.put, List.getElem_toArray, List.getElem_cons_zero, List.getElem_cons_succ, List.setIfInBounds_toArray, List.set_cons_zero, List.set_cons_succ]
              refine wpAnyH_ready (rs := [13]) (by kernel_rfl) (by simp) (AllReadyH.cons rfl (fun Kt hK => ?_) AllReadyH.nil)
              refine wanted_pos rfl ?_; refine wp_store_mid 25 _ _ rfl p7 0 (ab U 32).toArray rfl rfl (RowB.there h7 U) (inH _) (all_oneCell_toArray (ab_one _ _)) (hK.out _ _ trivial (fun _ => ?_)); obtain ⟨h7, h8, HB⟩ := stored2 (U := U) h7 h8 HB ne e7; generalize W.setCells p7 0 (ab U 32).toArray.toList = W at *; clear hK Kt
              refine wpAnyH_ready (rs := [14]) (by kernel_rfl) (by simp) (AllReadyH.cons rfl (fun Kt hK => ?_) AllReadyH.nil)
              refine wanted_pos rfl ?_; refine wp_store_mid 25 _ _ rfl p8 0 (ab U 32).toArray rfl rfl (RowB.there h8 U) (inH _) (all_oneCell_toArray (ab_one _ _)) (hK.out _ _ trivial (fun _ => ?_)); obtain ⟨h8, h7, HB⟩ := stored2 (U := U) h8 h7 HB (Ne.symm ne) e8; generalize W.setCells p8 0 (ab U 32).toArray.toList = W at *; clear hK Kt
              refine wpAnyH_done (by kernel_rfl) ?_ _
              refine NoPanic.normal ?_
              exact ⟨p1, p9, p7, p8, rfl, h7, h8, HB⟩
            · refine wanted_pos rfl ?_; refine wp_two rfl rfl rfl (fun p9 W _ c9 d9 hb => hK.out _ _ trivial (fun _ => ?_)); have HB := K.call HB hb; have c1 := later hb c1; have h7 := Row8.keep h7 hb; have h8 := Row8.keep h8 hb; clear hK Kt; simp only [Act.put, List.getElem_toArray, List.getElem_cons_zero, List.getElem_cons_succ, List.setIfInBounds_toArray, List.set_cons_zero, List.set_cons_succ]
              refine wpAnyH_ready (rs := [2]) (by kernel_rfl) (by simp) (AllReadyH.cons rfl (fun Kt hK => ?_) AllReadyH.nil)
              refine wanted_pos rfl ?_; refine wp_sum rfl rfl (C1.out _ _ HB c1) (fun W hb => hK.out _ _ trivial (fun _ => ?_)); have HB := K.call HB hb; have c9 := later hb c9; have d9 := later hb d9; have h7 := Row8.keep h7 hb; have h8 := Row8.keep h8 hb; clear hK Kt; simp only [Act.put, List.getElem_toArray, List.getElem_cons_zero, List.getElem_cons_succ, List.setIfInBounds_toArray, List.set_cons_zero, List.set_cons_succ]
              refine wpAnyH_ready (rs := [10]) (by kernel_rfl) (by simp) (AllReadyH.cons rfl (fun Kt hK => ?_) AllReadyH.nil)
              refine wanted_pos rfl ?_; refine wp_sum rfl rfl (C2.out _ _ HB c9 d9) (fun W hb => hK.out _ _ trivial (fun _ => ?_)); have HB := K.call HB hb; have h7 := Row8.keep h7 hb; have h8 := Row8.keep h8 hb; clear hK Kt; simp only [Act.put, List.getElem_toArray, List.getElem_cons_zero, List.getElem_cons_succ, List.setIfInBounds_toArray, List.set_cons_zero, List.set_cons_succ]
              refine wpAnyH_ready (rs := [13]) (by kernel_rfl) (by simp) (AllReadyH.cons rfl (fun Kt hK => ?_) AllReadyH.nil)
              refine wanted_pos rfl ?_; refine wp_store_mid 25 _ _ rfl p7 0 (ab U 32).toArray rfl rfl (RowB.there h7 U) (inH _) (all_oneCell_toArray (ab_one _ _)) (hK.out _ _ trivial (fun _ => ?_)); obtain ⟨h7, h8, HB⟩ := stored2 (U := U) h7 h8 HB ne e7; generalize W.setCells p7 0 (ab U 32).toArray.toList = W at *; clear hK Kt
              refine wpAnyH_ready (rs := [14]) (by kernel_rfl) (by simp) (AllReadyH.cons rfl (fun Kt hK => ?_) AllReadyH.nil)
              refine wanted_pos rfl ?_; refine wp_store_mid 25 _ _ rfl p8 0 (ab U 32).toArray rfl rfl (RowB.there h8 U) (inH _) (all_oneCell_toArray (ab_one _ _)) (hK.out _ _ trivial (fun _ => ?_)); obtain ⟨h8, h7, HB⟩ := stored2 (U := U) h8 h7 HB (Ne.symm ne) e8; generalize W.setCells p8 0 (ab U 32).toArray.toList = W at *; clear hK Kt
              refine wpAnyH_done (by kernel_rfl) ?_ _
              refine NoPanic.normal ?_
              exact ⟨p1, p9, p7, p8, rfl, h7, h8, HB⟩
        · refine wanted_pos rfl ?_; refine wp_hash rfl (fun p8 W q8 h8 hb => hK.out _ _ trivial (fun _ => ?_)); have e8 := le_of_eq7 q8 HB; clear q8; have HB := K.call HB hb; have c1 := later hb c1; clear hK Kt; simp only [Act.put, List.getElem_toArray, List.getElem_cons_zero, List.getElem_cons_succ, List.setIfInBounds_toArray, List.set_cons_zero, List.set_cons_succ]
          refine wpAnyH_ready (rs := [2, 9, 11]) (by kernel_rfl) (by simp) (AllReadyH.cons rfl (fun Kt hK => ?_) (AllReadyH.cons rfl (fun Kt hK => ?_) (AllReadyH.cons rfl (fun Kt hK => ?_) AllReadyH.nil)))
          · refine wanted_pos rfl ?_; refine wp_sum rfl rfl (C1.out _ _ HB c1) (fun W hb => hK.out _ _ trivial (fun _ => ?_)); have HB := K.call HB hb; have h8 := Row8.keep h8 hb; clear hK Kt; simp only [Act.put, List.getElem_toArray, List.getElem_cons_zero, List.getElem_cons_succ, List.setIfInBounds_toArray, List.set_cons_zero, List.set_cons_succ]
            refine wpAnyH_ready (rs := [9, 11]) (by kernel_rfl) (by simp) (AllReadyH.cons rfl (fun Kt hK => ?_) (AllReadyH.cons rfl (fun Kt hK => ?_) AllReadyH.nil))
            · refine wanted_pos rfl ?_; refine wp_two rfl rfl rfl (fun p9 W _ c9 d9 hb => hK.out _ _ trivial (fun _ => ?_)); have HB := K.call HB hb; have h8 := Row8.keep h8 hb; clear hK Kt; simp only [Act.put, List.getElem_toArray, List.getElem_cons_zero, List.getElem_cons_succ, List.setIfInBounds_toArray, List.set_cons_zero, List.set_cons_succ]
              refine wpAnyH_ready (rs := [10, 11]) (by kernel_rfl) (by simp) (AllReadyH.cons rfl (fun Kt hK => ?_) (AllReadyH.cons rfl (fun Kt hK => ?_) AllReadyH.nil))
              · refine wanted_pos rfl ?_; refine wp_sum rfl rfl (C2.out _ _ HB c9 d9) (fun W hb => hK.out _ _ trivial (fun _ => ?_)); have HB := K.call HB hb; have h8 := Row8.keep h8 hb; clear hK Kt; simp only [Act.put, List.getElem_toArray, List.getElem_cons_zero, List.getElem_cons_succ, List.setIfInBounds_toArray, List.set_cons_zero, List.set_cons_succ]
                refine wpAnyH_ready (rs := [11]) (by kernel_rfl) (by simp) (AllReadyH.cons rfl (fun Kt hK => ?_) AllReadyH.nil)
                refine wanted_pos rfl ?_; refine wp_hash rfl (fun p7 W q7 h7 hb => hK.out _ _ trivial (fun _ => ?_)); have e7 := le_of_eq7 q7 HB; have ne : p7 ≠ p8 := (by have := h8.lt; omega); clear q7; have HB := K.call HB hb; have h8 := Row8.keep h8 hb; clear hK Kt; simp only [Act.put, List.getElem_toArray, List.getElem_cons_zero, List.getElem_cons_succ, List.setIfInBounds_toArray, List.set_cons_zero, List.set_cons_succ]
                refine wpAnyH_ready (rs := [13]) (by kernel_rfl) (by simp) (AllReadyH.cons rfl (fun Kt hK => ?_) AllReadyH.nil)
                refine wanted_pos rfl ?_; refine wp_store_mid 25 _ _ rfl p7 0 (ab U 32).toArray rfl rfl (RowB.there h7 U) (inH _) (all_oneCell_toArray (ab_one _ _)) (hK.out _ _ trivial (fun _ => ?_)); obtain ⟨h7, h8, HB⟩ := stored2 (U := U) h7 h8 HB ne e7; generalize W.setCells p7 0 (ab U 32).toArray.toList = W at *; clear hK Kt
                refine wpAnyH_ready (rs := [14]) (by kernel_rfl) (by simp) (AllReadyH.cons rfl (fun Kt hK => ?_) AllReadyH.nil)
                refine wanted_pos rfl ?_; refine wp_store_mid 25 _ _ rfl p8 0 (ab U 32).toArray rfl rfl (RowB.there h8 U) (inH _) (all_oneCell_toArray (ab_one _ _)) (hK.out _ _ trivial (fun _ => ?_)); obtain ⟨h8, h7, HB⟩ := stored2 (U := U) h8 h7 HB (Ne.symm ne) e8; generalize W.setCells p8 0 (ab U 32).toArray.toList = W at *; clear hK Kt
                refine wpAnyH_done (by kernel_rfl) ?_ _
                refine NoPanic.normal ?_
                exact ⟨p1, p9, p7, p8, rfl, h7, h8, HB⟩
              · refine wanted_pos rfl ?_; refine wp_hash rfl (fun p7 W q7 h7 hb => hK.out _ _ trivial (fun _ => ?_)); have e7 := le_of_eq7 q7 HB; have ne : p7 ≠ p8 := (by have := h8.lt; omega); clear q7; have HB := K.call HB hb; have c9 := later hb c9; have d9 := later hb d9; have h8 := Row8.keep h8 hb; clear hK Kt; simp only [Act.put, List.getElem_toArray, List.getElem_cons_zero, List.getElem_cons_succ, List.setIfInBounds_toArray, List.set_cons_zero, List.set_cons_succ]
                refine wpAnyH_ready (rs := [10]) (by kernel_rfl) (by simp) (AllReadyH.cons rfl (fun Kt hK => ?_) AllReadyH.nil)
                refine wanted_pos rfl ?_; refine wp_sum rfl rfl (C2.out _ _ HB c9 d9) (fun W hb => hK.out _ _ trivial (fun _ => ?_)); have HB := K.call HB hb; have h7 := Row8.keep h7 hb; have h8 := Row8.keep h8 hb; clear hK Kt; simp only [Act.put, List.getElem_toArray, List.getElem_cons_zero, List.getElem_cons_succ, List.setIfInBounds_toArray, List.set_cons_zero, List.set_cons_succ]
                refine wpAnyH_ready (rs := [13]) (by kernel_rfl) (by simp) (AllReadyH.cons rfl (fun Kt hK => ?_) AllReadyH.nil)
                refine wanted_pos rfl ?_; refine wp_store_mid 25 _ _ rfl p7 0 (ab U 32).toArray rfl rfl (RowB.there h7 U) (inH _) (all_oneCell_toArray (ab_one _ _)) (hK.out _ _ trivial (fun _ => ?_)); obtain ⟨h7, h8, HB⟩ := stored2 (U := U) h7 h8 HB ne e7; generalize W.setCells p7 0 (ab U 32).toArray.toList = W at *; clear hK Kt
                refine wpAnyH_ready (rs := [14]) (by kernel_rfl) (by simp) (AllReadyH.cons rfl (fun Kt hK => ?_) AllReadyH.nil)
                refine wanted_pos rfl ?_; refine wp_store_mid 25 _ _ rfl p8 0 (ab U 32).toArray rfl rfl (RowB.there h8 U) (inH _) (all_oneCell_toArray (ab_one _ _)) (hK.out _ _ trivial (fun _ => ?_)); obtain ⟨h8, h7, HB⟩ := stored2 (U := U) h8 h7 HB (Ne.symm ne) e8; generalize W.setCells p8 0 (ab U 32).toArray.toList = W at *; clear hK Kt
                refine wpAnyH_done (by kernel_rfl) ?_ _
                refine NoPanic.normal ?_
                exact ⟨p1, p9, p7, p8, rfl, h7, h8, HB⟩
            · refine wanted_pos rfl ?_; refine wp_hash rfl (fun p7 W q7 h7 hb => hK.out _ _ trivial (fun _ => ?_)); have e7 := le_of_eq7 q7 HB; have ne : p7 ≠ p8 := (by have := h8.lt; omega); clear q7; have HB := K.call HB hb; have h8 := Row8.keep h8 hb; clear hK Kt; simp only [Act.put, List.getElem_toArray, List.getElem_cons_zero, List.getElem_cons_succ, List.setIfInBounds_toArray, List.set_cons_zero, List.set_cons_succ]
              refine wpAnyH_ready (rs := [9]) (by kernel_rfl) (by simp) (AllReadyH.cons rfl (fun Kt hK => ?_) AllReadyH.nil)
              refine wanted_pos rfl ?_; refine wp_two rfl rfl rfl (fun p9 W _ c9 d9 hb => hK.out _ _ trivial (fun _ => ?_)); have HB := K.call HB hb; have h7 := Row8.keep h7 hb; have h8 := Row8.keep h8 hb; clear hK Kt; simp only [Act.put, List.getElem_toArray, List.getElem_cons_zero, List.getElem_cons_succ, List.setIfInBounds_toArray, List.set_cons_zero, List.set_cons_succ]
              refine wpAnyH_ready (rs := [10]) (by kernel_rfl) (by simp) (AllReadyH.cons rfl (fun Kt hK => ?_) AllReadyH.nil)
              refine wanted_pos rfl ?_; refine wp_sum rfl rfl (C2.out _ _ HB c9 d9) (fun W hb => hK.out _ _ trivial (fun _ => ?_)); have HB := K.call HB hb; have h7 := Row8.keep h7 hb; have h8 := Row8.keep h8 hb; clear hK Kt; simp only [Act.put, List.getElem_toArray, List.getElem_cons_zero, List.getElem_cons_succ, List.setIfInBounds_toArray, List.set_cons_zero, List.set_cons_succ]
              refine wpAnyH_ready (rs := [13]) (by kernel_rfl) (by simp) (AllReadyH.cons rfl (fun Kt hK => ?_) AllReadyH.nil)
              refine wanted_pos rfl ?_; refine wp_store_mid 25 _ _ rfl p7 0 (ab U 32).toArray rfl rfl (RowB.there h7 U) (inH _) (all_oneCell_toArray (ab_one _ _)) (hK.out _ _ trivial (fun _ => ?_)); obtain ⟨h7, h8, HB⟩ := stored2 (U := U) h7 h8 HB ne e7; generalize W.setCells p7 0 (ab U 32).toArray.toList = W at *; clear hK Kt
              refine wpAnyH_ready (rs := [14]) (by kernel_rfl) (by simp) (AllReadyH.cons rfl (fun Kt hK => ?_) AllReadyH.nil)
              refine wanted_pos rfl ?_; refine wp_store_mid 25 _ _ rfl p8 0 (ab U 32).toArray rfl rfl (RowB.there h8 U) (inH _) (all_oneCell_toArray (ab_one _ _)) (hK.out _ _ trivial (fun _ => ?_)); obtain ⟨h8, h7, HB⟩ := stored2 (U := U) h8 h7 HB (Ne.symm ne) e8; generalize W.setCells p8 0 (ab U 32).toArray.toList = W at *; clear hK Kt
              refine wpAnyH_done (by kernel_rfl) ?_ _
              refine NoPanic.normal ?_
              exact ⟨p1, p9, p7, p8, rfl, h7, h8, HB⟩
          · refine wanted_pos rfl ?_; refine wp_two rfl rfl rfl (fun p9 W _ c9 d9 hb => hK.out _ _ trivial (fun _ => ?_)); have HB := K.call HB hb; have c1 := later hb c1; have h8 := Row8.keep h8 hb; clear hK Kt; simp only [Act.put, List.getElem_toArray, List.getElem_cons_zero, List.getElem_cons_succ, List.setIfInBounds_toArray, List.set_cons_zero, List.set_cons_succ]
            refine wpAnyH_ready (rs := [2, 11]) (by kernel_rfl) (by simp) (AllReadyH.cons rfl (fun Kt hK => ?_) (AllReadyH.cons rfl (fun Kt hK => ?_) AllReadyH.nil))
            · refine wanted_pos rfl ?_; refine wp_sum rfl rfl (C1.out _ _ HB c1) (fun W hb => hK.out _ _ trivial (fun _ => ?_)); have HB := K.call HB hb; have c9 := later hb c9; have d9 := later hb d9; have h8 := Row8.keep h8 hb; clear hK Kt; simp only [Act.put, List.getElem_toArray, List.getElem_cons_zero, List.getElem_cons_succ, List.setIfInBounds_toArray, List.set_cons_zero, List.set_cons_succ]
              refine wpAnyH_ready (rs := [10, 11]) (by kernel_rfl) (by simp) (AllReadyH.cons rfl (fun Kt hK => ?_) (AllReadyH.cons rfl (fun Kt hK => ?_) AllReadyH.nil))
              · refine wanted_pos rfl ?_; refine wp_sum rfl rfl (C2.out _ _ HB c9 d9) (fun W hb => hK.out _ _ trivial (fun _ => ?_)); have HB := K.call HB hb; have h8 := Row8.keep h8 hb; clear hK Kt; simp only [Act.put, List.getElem_toArray, List.getElem_cons_zero, List.getElem_cons_succ, List.setIfInBounds_toArray, List.set_cons_zero, List.set_cons_succ]
                refine wpAnyH_ready (rs := [11]) (by kernel_rfl) (by simp) (AllReadyH.cons rfl (fun Kt hK => ?_) AllReadyH.nil)
                refine wanted_pos rfl ?_; refine wp_hash rfl (fun p7 W q7 h7 hb => hK.out _ _ trivial (fun _ => ?_)); have e7 := le_of_eq7 q7 HB; have ne : p7 ≠ p8 := (by have := h8.lt; omega); clear q7; have HB := K.call HB hb; have h8 := Row8.keep h8 hb; clear hK Kt; simp only [Act.put, List.getElem_toArray, List.getElem_cons_zero, List.getElem_cons_succ, List.setIfInBounds_toArray, List.set_cons_zero, List.set_cons_succ]
                refine wpAnyH_ready (rs := [13]) (by kernel_rfl) (by simp) (AllReadyH.cons rfl (fun Kt hK => ?_) AllReadyH.nil)
                refine wanted_pos rfl ?_; refine wp_store_mid 25 _ _ rfl p7 0 (ab U 32).toArray rfl rfl (RowB.there h7 U) (inH _) (all_oneCell_toArray (ab_one _ _)) (hK.out _ _ trivial (fun _ => ?_)); obtain ⟨h7, h8, HB⟩ := stored2 (U := U) h7 h8 HB ne e7; generalize W.setCells p7 0 (ab U 32).toArray.toList = W at *; clear hK Kt
                refine wpAnyH_ready (rs := [14]) (by kernel_rfl) (by simp) (AllReadyH.cons rfl (fun Kt hK => ?_) AllReadyH.nil)
                refine wanted_pos rfl ?_; refine wp_store_mid 25 _ _ rfl p8 0 (ab U 32).toArray rfl rfl (RowB.there h8 U) (inH _) (all_oneCell_toArray (ab_one _ _)) (hK.out _ _ trivial (fun _ => ?_)); obtain ⟨h8, h7, HB⟩ := stored2 (U := U) h8 h7 HB (Ne.symm ne) e8; generalize W.setCells p8 0 (ab U 32).toArray.toList = W at *; clear hK Kt
                refine wpAnyH_done (by kernel_rfl) ?_ _
                refine NoPanic.normal ?_
                exact ⟨p1, p9, p7, p8, rfl, h7, h8, HB⟩
              · refine wanted_pos rfl ?_; refine wp_hash rfl (fun p7 W q7 h7 hb => hK.out _ _ trivial (fun _ => ?_)); have e7 := le_of_eq7 q7 HB; have ne : p7 ≠ p8 := (by have := h8.lt; omega); clear q7; have HB := K.call HB hb; have c9 := later hb c9; have d9 := later hb d9; have h8 := Row8.keep h8 hb; clear hK Kt; simp only [Act.put, List.getElem_toArray, List.getElem_cons_zero, List.getElem_cons_succ, List.setIfInBounds_toArray, List.set_cons_zero, List.set_cons_succ]
                refine wpAnyH_ready (rs := [10]) (by kernel_rfl) (by simp) (AllReadyH.cons rfl (fun Kt hK => ?_) AllReadyH.nil)
                refine wanted_pos rfl ?_; refine wp_sum rfl rfl (C2.out _ _ HB c9 d9) (fun W hb => hK.out _ _ trivial (fun _ => ?_)); have HB := K.call HB hb; have h7 := Row8.keep h7 hb; have h8 := Row8.keep h8 hb; clear hK Kt; simp only [Act.put, List.getElem_toArray, List.getElem_cons_zero, List.getElem_cons_succ, List.setIfInBounds_toArray, List.set_cons_zero, List.set_cons_succ]
                refine wpAnyH_ready (rs := [13]) (by kernel_rfl) (by simp) (AllReadyH.cons rfl (fun Kt hK => ?_) AllReadyH.nil)
                refine wanted_pos rfl ?_; refine wp_store_mid 25 _ _ rfl p7 0 (ab U 32).toArray rfl rfl (RowB.there h7 U) (inH _) (all_oneCell_toArray (ab_one _ _)) (hK.out _ _ trivial (fun _ => ?_)); obtain ⟨h7, h8, HB⟩ := stored2 (U := U) h7 h8 HB ne e7; generalize W.setCells p7 0 (ab U 32).toArray.toList = W at *; clear hK Kt
                refine wpAnyH_ready (rs := [14]) (by kernel_rfl) (by simp) (AllReadyH.cons rfl (fun Kt hK => ?_) AllReadyH.nil)
                refine wanted_pos rfl ?_; refine wp_store_mid 25 _ _ rfl p8 0 (ab U 32).toArray rfl rfl (RowB.there h8 U) (inH _) (all_oneCell_toArray (ab_one _ _)) (hK.out _ _ trivial (fun _ => ?_)); obtain ⟨h8, h7, HB⟩ := stored2 (U := U) h8 h7 HB (Ne.symm ne) e8; generalize W.setCells p8 0 (ab U 32).toArray.toList = W at *; clear hK Kt
                refine wpAnyH_done (by kernel_rfl) ?_ _
                refine NoPanic.normal ?_
                exact ⟨p1, p9, p7, p8, rfl, h7, h8, HB⟩
            · refine wanted_pos rfl ?_; refine wp_hash rfl (fun p7 W q7 h7 hb => hK.out _ _ trivial (fun _ => ?_)); have e7 := le_of_eq7 q7 HB; have ne : p7 ≠ p8 := (by have := h8.lt; omega); clear q7; have HB := K.call HB hb; have c1 := later hb c1; have c9 := later hb c9; have d9 := later hb d9; have h8 := Row8.keep h8 hb; clear hK Kt; simp only [Act.put, List.getElem_toArray, List.getElem_cons_zero, List.getElem_cons_succ, List.setIfInBounds_toArray, List.set_cons_zero, List.set_cons_succ]
              refine wpAnyH_ready (rs := [2]) (by kernel_rfl) (by simp) (AllReadyH.cons rfl (fun Kt hK => ?_) AllReadyH.nil)
              refine wanted_pos rfl ?_; refine wp_sum rfl rfl (C1.out _ _ HB c1) (fun W hb => hK.out _ _ trivial (fun _ => ?_)); have HB := K.call HB hb; have c9 := later hb c9; have d9 := later hb d9; have h7 := Row8.keep h7 hb; have h8 := Row8.keep h8 hb; clear hK Kt; simp only [Act.put, List.getElem_toArray, List.getElem_cons_zero, List.getElem_cons_succ, List.setIfInBounds_toArray, List.set_cons_zero, List.set_cons_succ]
              refine wpAnyH_ready (rs := [10]) (by kernel_rfl) (by simp) (AllReadyH.cons rfl (fun Kt hK => ?_) AllReadyH.nil)
              refine wanted_pos rfl ?_; refine wp_sum rfl rfl (C2.out _ _ HB c9 d9) (fun W hb => hK.out _ _ trivial (fun _ => ?_)); have HB := K.call HB hb; have h7 := Row8.keep h7 hb; have h8 := Row8.keep h8 hb; clear hK Kt; simp only [Act.put, List.getElem_toArray, List.getElem_cons_zero, List.getElem_cons_succ, List.setIfInBounds_toArray, List.set_cons_zero, List.set_cons_succ]
              refine wpAnyH_ready (rs := [13]) (by kernel_rfl) (by simp) (AllReadyH.cons rfl (fun Kt hK => ?_) AllReadyH.nil)
              refine wanted_pos rfl ?_; refine wp_store_mid 25 _ _ rfl p7 0 (ab U 32).toArray rfl rfl (RowB.there h7 U) (inH _) (all_oneCell_toArray (ab_one _ _)) (hK.out _ _ trivial (fun _ => ?_)); obtain ⟨h7, h8, HB⟩ := stored2 (U := U) h7 h8 HB ne e7; generalize W.setCells p7 0 (ab U 32).toArray.toList = W at *; clear hK Kt
              refine wpAnyH_ready (rs := [14]) (by kernel_rfl) (by simp) (AllReadyH.cons rfl (fun Kt hK => ?_) AllReadyH.nil)
              refine wanted_pos rfl ?_; refine wp_store_mid 25 _ _ rfl p8 0 (ab U 32).toArray rfl rfl (RowB.there h8 U) (inH _) (all_oneCell_toArray (ab_one _ _)) (hK.out _ _ trivial (fun _ => ?_)); obtain ⟨h8, h7, HB⟩ := stored2 (U := U) h8 h7 HB (Ne.symm ne) e8; generalize W.setCells p8 0 (ab U 32).toArray.toList = W at *; clear hK Kt
              refine wpAnyH_done (by kernel_rfl) ?_ _
              refine NoPanic.normal ?_
              exact ⟨p1, p9, p7, p8, rfl, h7, h8, HB⟩
          · refine wanted_pos rfl ?_; refine wp_hash rfl (fun p7 W q7 h7 hb => hK.out _ _ trivial (fun _ => ?_)); have e7 := le_of_eq7 q7 HB; have ne : p7 ≠ p8 := (by have := h8.lt; omega); clear q7; have HB := K.call HB hb; have c1 := later hb c1; have h8 := Row8.keep h8 hb; clear hK Kt; simp only [Act.put, List.getElem_toArray, List.getElem_cons_zero, List.getElem_cons_succ, List.setIfInBounds_toArray, List.set_cons_zero, List.set_cons_succ]
            refine wpAnyH_ready (rs := [2, 9]) (by kernel_rfl) (by simp) (AllReadyH.cons rfl (fun Kt hK => ?_) (AllReadyH.cons rfl (fun Kt hK => ?_) AllReadyH.nil))
            · refine wanted_pos rfl ?_; refine wp_sum rfl rfl (C1.out _ _ HB c1) (fun W hb => hK.out _ _ trivial (fun _ => ?_)); have HB := K.call HB hb; have h7 := Row8.keep h7 hb; have h8 := Row8.keep h8 hb; clear hK Kt; simp only [Act.put, List.getElem_toArray, List.getElem_cons_zero, List.getElem_cons_succ, List.setIfInBounds_toArray, List.set_cons_zero, List.set_cons_succ]
              refine wpAnyH_ready (rs := [9]) (by kernel_rfl) (by simp) (AllReadyH.cons rfl (fun Kt hK => ?_) AllReadyH.nil)
              refine wanted_pos rfl ?_; refine wp_two rfl rfl rfl (fun p9 W _ c9 d9 hb => hK.out _ _ trivial (fun _ => ?_)); have HB := K.call HB hb; have h7 := Row8.keep h7 hb; have h8 := Row8.keep h8 hb; clear hK Kt; simp only [Act.put, List.getElem_toArray, List.getElem_cons_zero, List.getElem_cons_succ, List.setIfInBounds_toArray, List.set_cons_zero, List.set_cons_succ]
              refine wpAnyH_ready (rs := [10]) (by kernel_rfl) (by simp) (AllReadyH.cons rfl (fun Kt hK => ?_) AllReadyH.nil)
              refine wanted_pos rfl ?_; refine wp_sum rfl rfl (C2.out _ _ HB c9 d9) (fun W hb => hK.out _ _ trivial (fun _ => ?_)); have HB := K.call HB hb; have h7 := Row8.keep h7 hb; have h8 := Row8.keep h8 hb; clear hK Kt; simp only [Act.put, List.getElem_toArray, List.getElem_cons_zero, List.getElem_cons_succ, List.setIfInBounds_toArray, List.set_cons_zero, List.set_cons_succ]
              refine wpAnyH_ready (rs := [13]) (by kernel_rfl) (by simp) (AllReadyH.cons rfl (fun Kt hK => ?_) AllReadyH.nil)
              refine wanted_pos rfl ?_; refine wp_store_mid 25 _ _ rfl p7 0 (ab U 32).toArray rfl rfl (RowB.there h7 U) (inH _) (all_oneCell_toArray (ab_one _ _)) (hK.out _ _ trivial (fun _ => ?_)); obtain ⟨h7, h8, HB⟩ := stored2 (U := U) h7 h8 HB ne e7; generalize W.setCells p7 0 (ab U 32).toArray.toList = W at *; clear hK Kt
              refine wpAnyH_ready (rs := [14]) (by kernel_rfl) (by simp) (AllReadyH.cons rfl (fun Kt hK => ?_) AllReadyH.nil)
              refine wanted_pos rfl ?_; refine wp_store_mid 25 _ _ rfl p8 0 (ab U 32).toArray rfl rfl (RowB.there h8 U) (inH _) (all_oneCell_toArray (ab_one _ _)) (hK.out _ _ trivial (fun _ => ?_)); obtain ⟨h8, h7, HB⟩ := stored2 (U := U) h8 h7 HB (Ne.symm ne) e8; generalize W.setCells p8 0 (ab U 32).toArray.toList = W at *; clear hK Kt
              refine wpAnyH_done (by kernel_rfl) ?_ _
              refine NoPanic.normal ?_
              exact ⟨p1, p9, p7, p8, rfl, h7, h8, HB⟩
            · refine wanted_pos rfl ?_; refine wp_two rfl rfl rfl (fun p9 W _ c9 d9 hb => hK.out _ _ trivial (fun _ => ?_)); have HB := K.call HB hb; have c1 := later hb c1; have h7 := Row8.keep h7 hb; have h8 := Row8.keep h8 hb; clear hK Kt; simp only [Act.put, List.getElem_toArray, List.getElem_cons_zero, List.getElem_cons_succ, List.setIfInBounds_toArray, List.set_cons_zero, List.set_cons_succ]
              refine wpAnyH_ready (rs := [2]) (by kernel_rfl) (by simp) (AllReadyH.cons rfl (fun Kt hK => ?_) AllReadyH.nil)
              refine wanted_pos rfl ?_; refine wp_sum rfl rfl (C1.out _ _ HB c1) (fun W hb => hK.out _ _ trivial (fun _ => ?_)); have HB := K.call HB hb; have c9 := later hb c9; have d9 := later hb d9; have h7 := Row8.keep h7 hb; have h8 := Row8.keep h8 hb; clear hK Kt; simp only [Act.put, List.getElem_toArray, List.getElem_cons_zero, List.getElem_cons_succ, List.setIfInBounds_toArray, List.set_cons_zero, List.set_cons_succ]
              refine wpAnyH_ready (rs := [10]) (by kernel_rfl) (by simp) (AllReadyH.cons rfl (fun Kt hK => ?_) AllReadyH.nil)
              refine wanted_pos rfl ?_; refine wp_sum rfl rfl (C2.out _ _ HB c9 d9) (fun W hb => hK.out _ _ trivial (fun _ => ?_)); have HB := K.call HB hb; have h7 := Row8.keep h7 hb; have h8 := Row8.keep h8 hb; clear hK Kt; simp only [Act.put, List.getElem_toArray, List.getElem_cons_zero, List.getElem_cons_succ, List.setIfInBounds_toArray, List.set_cons_zero, List.set_cons_succ]
              refine wpAnyH_ready (rs := [13]) (by kernel_rfl) (by simp) (AllReadyH.cons rfl (fun Kt hK => ?_) AllReadyH.nil)
              refine wanted_pos rfl ?_; refine wp_store_mid 25 _ _ rfl p7 0 (ab U 32).toArray rfl rfl (RowB.there h7 U) (inH _) (all_oneCell_toArray (ab_one _ _)) (hK.out _ _ trivial (fun _ => ?_)); obtain ⟨h7, h8, HB⟩ := stored2 (U := U) h7 h8 HB ne e7; generalize W.setCells p7 0 (ab U 32).toArray.toList = W at *; clear hK Kt
              refine wpAnyH_ready (rs := [14]) (by kernel_rfl) (by simp) (AllReadyH.cons rfl (fun Kt hK => ?_) AllReadyH.nil)
              refine wanted_pos rfl ?_; refine wp_store_mid 25 _ _ rfl p8 0 (ab U 32).toArray rfl rfl (RowB.there h8 U) (inH _) (all_oneCell_toArray (ab_one _ _)) (hK.out _ _ trivial (fun _ => ?_)); obtain ⟨h8, h7, HB⟩ := stored2 (U := U) h8 h7 HB (Ne.symm ne) e8; generalize W.setCells p8 0 (ab U 32).toArray.toList = W at *; clear hK Kt
              refine wpAnyH_done (by kernel_rfl) ?_ _
              refine NoPanic.normal ?_
              exact ⟨p1, p9, p7, p8, rfl, h7, h8, HB⟩
      · refine wanted_pos rfl ?_; refine wp_two rfl rfl rfl (fun p9 W _ c9 d9 hb => hK.out _ _ trivial (fun _ => ?_)); have HB := K.call HB hb; clear hK Kt; simp only [Act.put, List.getElem_toArray, List.getElem_cons_zero, List.getElem_cons_succ, List.setIfInBounds_toArray, List.set_cons_zero, List.set_cons_succ]
        refine wpAnyH_ready (rs := [1, 11, 12]) (by kernel_rfl) (by simp) (AllReadyH.cons rfl (fun Kt hK => ?_) (AllReadyH.cons rfl (fun Kt hK => ?_) (AllReadyH.cons rfl (fun Kt hK => ?_) AllReadyH.nil)))
        · refine wanted_pos rfl ?_; refine wp_one rfl rfl (fun p1 W _ c1 hb => hK.out _ _ trivial (fun _ => ?_)); have HB := K.call HB hb; have c9 := later hb c9; have d9 := later hb d9; clear hK Kt; simp only [Act.put, List.getElem_toArray, List.getElem_cons_zero, List.getElem_cons_succ, List.setIfInBounds_toArray, List.set_cons_zero, List.set_cons_succ]
          refine wpAnyH_ready (rs := [2, 11, 12]) (by kernel_rfl) (by simp) (AllReadyH.cons rfl (fun Kt hK => ?_) (AllReadyH.cons rfl (fun Kt hK => ?_) (AllReadyH.cons rfl (fun Kt hK => ?_) AllReadyH.nil)))
          · refine wanted_pos rfl ?_; refine wp_sum rfl rfl (C1.out _ _ HB c1) (fun W hb => hK.out _ _ trivial (fun _ => ?_)); have HB := K.call HB hb; have c9 := later hb c9; have d9 := later hb d9; clear hK Kt; simp only [Act.put, List.getElem_toArray, List.getElem_cons_zero, List.getElem_cons_succ, List.setIfInBounds_toArray, List.set_cons_zero, List.set_cons_succ]
            refine wpAnyH_ready (rs := [10, 11, 12]) (by kernel_rfl) (by simp) (AllReadyH.cons rfl (fun Kt hK => ?_) (AllReadyH.cons rfl (fun Kt hK => ?_) (AllReadyH.cons rfl (fun Kt hK => ?_) AllReadyH.nil)))
            · refine wanted_pos rfl ?_; refine wp_sum rfl rfl (C2.out _ _ HB c9 d9) (fun W hb => hK.out _ _ trivial (fun _ => ?_)); have HB := K.call HB hb; clear hK Kt; simp only [Act.put, List.getElem_toArray, List.getElem_cons_zero, List.getElem_cons_succ, List.setIfInBounds_toArray, List.set_cons_zero, List.set_cons_succ]
              refine wpAnyH_ready (rs := [11, 12]) (by kernel_rfl) (by simp) (AllReadyH.cons rfl (fun Kt hK => ?_) (AllReadyH.cons rfl (fun Kt hK => ?_) AllReadyH.nil))
              · refine wanted_pos rfl ?_; refine wp_hash rfl (fun p7 W q7 h7 hb => hK.out _ _ trivial (fun _ => ?_)); have e7 := le_of_eq7 q7 HB; clear q7; have HB := K.call HB hb; clear hK Kt; simp only [Act.put, List.getElem_toArray, List.getElem_cons_zero, List.getElem_cons_succ, List.setIfInBounds_toArray, List.set_cons_zero, List.set_cons_succ]
                refine wpAnyH_ready (rs := [12]) (by kernel_rfl) (by simp) (AllReadyH.cons rfl (fun Kt hK => ?_) AllReadyH.nil)
                refine wanted_pos rfl ?_; refine wp_hash rfl (fun p8 W q8 h8 hb => hK.out _ _ trivial (fun _ => ?_)); have e8 := le_of_eq7 q8 HB; have ne : p7 ≠ p8 := (by have := h7.lt; omega); clear q8; have HB := K.call HB hb; have h7 := Row8.keep h7 hb; clear hK Kt; simp only [Act.put, List.getElem_toArray, List.getElem_cons_zero, List.getElem_cons_succ, List.setIfInBounds_toArray, List.set_cons_zero, List.set_cons_succ]
                refine wpAnyH_ready (rs := [13]) (by kernel_rfl) (by simp) (AllReadyH.cons rfl (fun Kt hK => ?_) AllReadyH.nil)
                refine wanted_pos rfl ?_; refine wp_store_mid 25 _ _ rfl p7 0 (ab U 32).toArray rfl rfl (RowB.there h7 U) (inH _) (all_oneCell_toArray (ab_one _ _)) (hK.out _ _ trivial (fun _ => ?_)); obtain ⟨h7, h8, HB⟩ := stored2 (U := U) h7 h8 HB ne e7; generalize W.setCells p7 0 (ab U 32).toArray.toList = W at *; clear hK Kt
                refine wpAnyH_ready (rs := [14]) (by kernel_rfl) (by simp) (AllReadyH.cons rfl (fun Kt hK => ?_) AllReadyH.nil)
                refine wanted_pos rfl ?_; refine wp_store_mid 25 _ _ rfl p8 0 (ab U 32).toArray rfl rfl (RowB.there h8 U) (inH _) (all_oneCell_toArray (ab_one _ _)) (hK.out _ _ trivial (fun _ => ?_)); obtain ⟨h8, h7, HB⟩ := stored2 (U := U) h8 h7 HB (Ne.symm ne) e8; generalize W.setCells p8 0 (ab U 32).toArray.toList = W at *; clear hK Kt
                refine wpAnyH_done (by kernel_rfl) ?_ _
                refine NoPanic.normal ?_
                exact ⟨p1, p9, p7, p8, rfl, h7, h8, HB⟩
              · refine wanted_pos rfl ?_; refine wp_hash rfl (fun p8 W q8 h8 hb => hK.out _ _ trivial (fun _ => ?_)); have e8 := le_of_eq7 q8 HB; clear q8; have HB := K.call HB hb; clear hK Kt; simp only [Act.put, List.getElem_toArray, List.getElem_cons_zero, List.getElem_cons_succ, List.setIfInBounds_toArray, List.set_cons_zero, List.set_cons_succ]
                refine wpAnyH_ready (rs := [11]) (by kernel_rfl) (by simp) (AllReadyH.cons rfl (fun Kt hK => ?_) AllReadyH.nil)
                refine wanted_pos rfl ?_; refine wp_hash rfl (fun p7 W q7 h7 hb => hK.out _ _ trivial (fun _ => ?_)); have e7 := le_of_eq7 q7 HB; have ne : p7 ≠ p8 := (by have := h8.lt; omega); clear q7; have HB := K.call HB hb; have h8 := Row8.keep h8 hb; clear hK Kt; simp only [Act.put, List.getElem_toArray, List.getElem_cons_zero, List.getElem_cons_succ, List.setIfInBounds_toArray, List.set_cons_zero, List.set_cons_succ]
                refine wpAnyH_ready (rs := [13]) (by kernel_rfl) (by simp) (AllReadyH.cons rfl (fun Kt hK => ?_) AllReadyH.nil)
                refine wanted_pos rfl ?_; refine wp_store_mid 25 _ _ rfl p7 0 (ab U 32).toArray rfl rfl (RowB.there h7 U) (inH _) (all_oneCell_toArray (ab_one _ _)) (hK.out _ _ trivial (fun _ => ?_)); obtain ⟨h7, h8, HB⟩ := stored2 (U := U) h7 h8 HB ne e7; generalize W.setCells p7 0 (ab U 32).toArray.toList = W at *; clear hK Kt
                refine wpAnyH_ready (rs := [14]) (by kernel_rfl) (by simp) (AllReadyH.cons rfl (fun Kt hK => ?_) AllReadyH.nil)
                refine wanted_pos rfl ?_; refine wp_store_mid 25 _ _ rfl p8 0 (ab U 32).toArray rfl rfl (RowB.there h8 U) (inH _) (all_oneCell_toArray (ab_one _ _)) (hK.out _ _ trivial (fun _ => ?_)); obtain ⟨h8, h7, HB⟩ := stored2 (U := U) h8 h7 HB (Ne.symm ne) e8; generalize W.setCells p8 0 (ab U 32).toArray.toList = W at *; clear hK Kt
                refine wpAnyH_done (by kernel_rfl) ?_ _
                refine NoPanic.normal ?_
                exact ⟨p1, p9, p7, p8, rfl, h7, h8, HB⟩
            · refine wanted_pos rfl ?_; refine wp_hash rfl (fun p7 W q7 h7 hb => hK.out _ _ trivial (fun _ => ?_)); have e7 := le_of_eq7 q7 HB; clear q7; have HB := K.call HB hb; have c9 := later hb c9; have d9 := later hb d9; clear hK Kt; simp only [Act.put, List.getElem_toArray, List.getElem_cons_zero, List.getElem_cons_succ, List.setIfInBounds_toArray, List.set_cons_zero, List.set_cons_succ]
              refine wpAnyH_ready (rs := [10, 12]) (by kernel_rfl) (by simp) (AllReadyH.cons rfl (fun Kt hK => ?_) (AllReadyH.cons rfl (fun Kt hK => ?_) AllReadyH.nil))
              · refine wanted_pos rfl ?_; refine wp_sum rfl rfl (C2.out _ _ HB c9 d9) (fun W hb => hK.out _ _ trivial (fun _ => ?_)); have HB := K.call HB hb; have h7 := Row8.keep h7 hb; clear hK Kt; simp only [Act.put, List.getElem_toArray, List.getElem_cons_zero, List.getElem_cons_succ, List.setIfInBounds_toArray, List.set_cons_zero, List.set_cons_succ]
                refine wpAnyH_ready (rs := [12]) (by kernel_rfl) (by simp) (AllReadyH.cons rfl (fun Kt hK => ?_) AllReadyH.nil)
                refine wanted_pos rfl ?_; refine wp_hash rfl (fun p8 W q8 h8 hb => hK.out _ _ trivial (fun _ => ?_)); have e8 := le_of_eq7 q8 HB; have ne : p7 ≠ p8 := (by have := h7.lt; omega); clear q8; have HB := K.call HB hb; have h7 := Row8.keep h7 hb; clear hK Kt; simp only [Act.put, List.getElem_toArray, List.getElem_cons_zero, List.getElem_cons_succ, List.setIfInBounds_toArray, List.set_cons_zero, List.set_cons_succ]
                refine wpAnyH_ready (rs := [13]) (by kernel_rfl) (by simp) (AllReadyH.cons rfl (fun Kt hK => ?_) AllReadyH.nil)
                refine wanted_pos rfl ?_; refine wp_store_mid 25 _ _ rfl p7 0 (ab U 32).toArray rfl rfl (RowB.there h7 U) (inH _) (all_oneCell_toArray (ab_one _ _)) (hK.out _ _ trivial (fun _ => ?_)); obtain ⟨h7, h8, HB⟩ := stored2 (U := U) h7 h8 HB ne e7; generalize W.setCells p7 0 (ab U 32).toArray.toList = W at *; clear hK Kt
                refine wpAnyH_ready (rs := [14]) (by kernel_rfl) (by simp) (AllReadyH.cons rfl (fun Kt hK => ?_) AllReadyH.nil)
                refine wanted_pos rfl ?_; refine wp_store_mid 25 _ _ rfl p8 0 (ab U 32).toArray rfl rfl (RowB.there h8 U) (inH _) (all_oneCell_toArray (ab_one _ _)) (hK.out _ _ trivial (fun _ => ?_)); obtain ⟨h8, h7, HB⟩ := stored2 (U := U) h8 h7 HB (Ne.symm ne) e8; generalize W.setCells p8 0 (ab U 32).toArray.toList = W at *; clear hK Kt
                refine wpAnyH_done (by kernel_rfl) ?_ _
                refine NoPanic.normal ?_
                exact ⟨p1, p9, p7, p8, rfl, h7, h8, HB⟩
              · refine wanted_pos rfl ?_; refine wp_hash rfl (fun p8 W q8 h8 hb => hK.out _ _ trivial (fun _ => ?_)); have e8 := le_of_eq7 q8 HB; have ne : p7 ≠ p8 := (by have := h7.lt; omega); clear q8; have HB := K.call HB hb; have c9 := later hb c9; have d9 := later hb d9; have h7 := Row8.keep h7 hb; clear hK Kt; simp only [Act.put, List.getElem_toArray, List.getElem_cons_zero, List.getElem_cons_succ, List.setIfInBounds_toArray, List.set_cons_zero, List.set_cons_succ]
                refine wpAnyH_ready (rs := [10]) (by kernel_rfl) (by simp) (AllReadyH.cons rfl (fun Kt hK => ?_) AllReadyH.nil)
                refine wanted_pos rfl ?_; refine wp_sum rfl rfl (C2.out _ _ HB c9 d9) (fun W hb => hK.out _ _ trivial (fun _ => ?_)); have HB := K.call HB hb; have h7 := Row8.keep h7 hb; have h8 := Row8.keep h8 hb; clear hK Kt; simp only [Act.put, List.getElem_toArray, List.getElem_cons_zero, List.getElem_cons_succ, List.setIfInBounds_toArray, List.set_cons_zero, List.set_cons_succ]
                refine wpAnyH_ready (rs := [13]) (by kernel_rfl) (by simp) (AllReadyH.cons rfl (fun Kt hK => ?_) AllReadyH.nil)
                refine wanted_pos rfl ?_; refine wp_store_mid 25 _ _ rfl p7 0 (ab U 32).toArray rfl rfl (RowB.there h7 U) (inH _) (all_oneCell_toArray (ab_one _ _)) (hK.out _ _ trivial (fun _ => ?_)); obtain ⟨h7, h8, HB⟩ := stored2 (U := U) h7 h8 HB ne e7; generalize W.setCells p7 0 (ab U 32).toArray.toList = W at *; clear hK Kt
                refine wpAnyH_ready (rs := [14]) (by kernel_rfl) (by simp) (AllReadyH.cons rfl (fun Kt hK => ?_) AllReadyH.nil)
                refine wanted_pos rfl ?_; refine wp_store_mid 25 _ _ rfl p8 0 (ab U 32).toArray rfl rfl (RowB.there h8 U) (inH _) (all_oneCell_toArray (ab_one _ _)) (hK.out _ _ trivial (fun _ => ?_)); obtain ⟨h8, h7, HB⟩ := stored2 (U := U) h8 h7 HB (Ne.symm ne) e8; generalize W.setCells p8 0 (ab U 32).toArray.toList = W at *; clear hK Kt
                refine wpAnyH_done (by kernel_rfl) ?_ _
                refine NoPanic.normal ?_
                exact ⟨p1, p9, p7, p8, rfl, h7, h8, HB⟩
            · refine wanted_pos rfl ?_; refine wp_hash rfl (fun p8 W q8 h8 hb => hK.out _ _ trivial (fun _ => ?_)); have e8 := le_of_eq7 q8 HB; clear q8; have HB := K.call HB hb; have c9 := later hb c9; have d9 := later hb d9; clear hK Kt; simp only [Act.put, List.getElem_toArray, List.getElem_cons_zero, List.getElem_cons_succ, List.setIfInBounds_toArray, List.set_cons_zero, List.set_cons_succ]
              refine wpAnyH_ready (rs := [10, 11]) (by kernel_rfl) (by simp) (AllReadyH.cons rfl (fun Kt hK => ?_) (AllReadyH.cons rfl (fun Kt hK => ?_) AllReadyH.nil))
              · refine wanted_pos rfl ?_; refine wp_sum rfl rfl (C2.out _ _ HB c9 d9) (fun W hb => hK.out _ _ trivial (fun _ => ?_)); have HB := K.call HB hb; have h8 := Row8.keep h8 hb; clear hK Kt; simp only [Act.put, List.getElem_toArray, List.getElem_cons_zero, List.getElem_cons_succ, List.setIfInBounds_toArray, List.set_cons_zero, List.set_cons_succ]
                refine wpAnyH_ready (rs := [11]) (by kernel_rfl) (by simp) (AllReadyH.cons rfl (fun Kt hK => ?_) AllReadyH.nil)
                refine wanted_pos rfl ?_; refine wp_hash rfl (fun p7 W q7 h7 hb => hK.out _ _ trivial (fun _ => ?_)); have e7 := le_of_eq7 q7 HB; have ne : p7 ≠ p8 := (by have := h8.lt; omega); clear q7; have HB := K.call HB hb; have h8 := Row8.keep h8 hb; clear hK Kt; simp only [Act.put, List.getElem_toArray, List.getElem_cons_zero, List.getElem_cons_succ, List.setIfInBounds_toArray, List.set_cons_zero, List.set_cons_succ]
                refine wpAnyH_ready (rs := [13]) (by kernel_rfl) (by simp) (AllReadyH.cons rfl (fun Kt hK => ?_) AllReadyH.nil)
                refine wanted_pos rfl ?_; refine wp_store_mid 25 _ _ rfl p7 0 (ab U 32).toArray rfl rfl (RowB.there h7 U) (inH _) (all_oneCell_toArray (ab_one _ _)) (hK.out _ _ trivial (fun _ => ?_)); obtain ⟨h7, h8, HB⟩ := stored2 (U := U) h7 h8 HB ne e7; generalize W.setCells p7 0 (ab U 32).toArray.toList = W at *; clear hK Kt
                refine wpAnyH_ready (rs := [14]) (by kernel_rfl) (by simp) (AllReadyH.cons rfl (fun Kt hK => ?_) AllReadyH.nil)
                refine wanted_pos rfl ?_; refine wp_store_mid 25 _ _ rfl p8 0 (ab U 32).toArray rfl rfl (RowB.there h8 U) (inH _) (all_oneCell_toArray (ab_one _ _)) (hK.out _ _ trivial (fun _ => ?_)); obtain ⟨h8, h7, HB⟩ := stored2 (U := U) h8 h7 HB (Ne.symm ne) e8; generalize W.setCells p8 0 (ab U 32).toArray.toList = W at *; clear hK Kt
                refine wpAnyH_done (by kernel_rfl) ?_ _
                refine NoPanic.normal ?_
                exact ⟨p1, p9, p7, p8, rfl, h7, h8, HB⟩
              · refine wanted_pos rfl ?_; refine wp_hash rfl (fun p7 W q7 h7 hb => hK.out _ _ trivial (fun _ => ?_)); have e7 := le_of_eq7 q7 HB; have ne : p7 ≠ p8 := (by have := h8.lt; omega); clear q7; have HB := K.call HB hb; have c9 := later hb c9; have d9 := later hb d9; have h8 := Row8.keep h8 hb; clear hK Kt; simp only [Act.put, List.getElem_toArray, List.getElem_cons_zero, List.getElem_cons_succ, List.setIfInBounds_toArray, List.set_cons_zero, List.set_cons_succ]
                refine wpAnyH_ready (rs := [10]) (by kernel_rfl) (by simp) (AllReadyH.cons rfl (fun Kt hK => ?_) AllReadyH.nil)
                refine wanted_pos rfl ?_; refine wp_sum rfl rfl (C2.out _ _ HB c9 d9) (fun W hb => hK.out _ _ trivial (fun _ => ?_)); have HB := K.call HB hb; have h7 := Row8.keep h7 hb; have h8 := Row8.keep h8 hb; clear hK Kt; simp only [Act.put, List.getElem_toArray, List.getElem_cons_zero, List.getElem_cons_succ, List.setIfInBounds_toArray, List.set_cons_zero, List.set_cons_succ]
                refine wpAnyH_ready (rs := [13]) (by kernel_rfl) (by simp) (AllReadyH.cons rfl (fun Kt hK => ?_) AllReadyH.nil)
                refine wanted_pos rfl ?_; refine wp_store_mid 25 _ _ rfl p7 0 (ab U 32).toArray rfl rfl (RowB.there h7 U) (inH _) (all_oneCell_toArray (ab_one _ _)) (hK.out _ _ trivial (fun _ => ?_)); obtain ⟨h7, h8, HB⟩ := stored2 (U := U) h7 h8 HB ne e7; generalize W.setCells p7 0 (ab U 32).toArray.toList = W at *; clear hK Kt
                refine wpAnyH_ready (rs := [14]) (by kernel_rfl) (by simp) (AllReadyH.cons rfl (fun Kt hK => ?_) AllReadyH.nil)
                refine wanted_pos rfl ?_; refine wp_store_mid 25 _ _ rfl p8 0 (ab U 32).toArray rfl rfl (RowB.there h8 U) (inH _) (all_oneCell_toArray (ab_one _ _)) (hK.out _ _ trivial (fun _ => ?_)); obtain ⟨h8, h7, HB⟩ := stored2 (U := U) h8 h7 HB (Ne.symm ne) e8; generalize W.setCells p8 0 (ab U 32).toArray.toList = W at *; clear hK Kt
                refine wpAnyH_done (by kernel_rfl) ?_ _
                refine NoPanic.normal ?_
                exact ⟨p1, p9, p7, p8, rfl, h7, h8, HB⟩
          · refine wanted_pos rfl ?_; refine wp_hash rfl (fun p7 W q7 h7 hb => hK.out _ _ trivial (fun _ => ?_)); have e7 := le_of_eq7 q7 HB; clear q7; have HB := K.call HB hb; have c1 := later hb c1; have c9 := later hb c9; have d9 := later hb d9; clear hK Kt; simp only [Act.put, List.getElem_toArray, List.getElem_cons_zero, List.getElem_cons_succ, List.setIfInBounds_toArray, List.set_cons_zero, List.set_cons_succ]
            refine wpAnyH_ready (rs := [2, 12]) (by kernel_rfl) (by simp) (AllReadyH.cons rfl (fun Kt hK => ?_) (AllReadyH.cons rfl (fun Kt hK => ?_) AllReadyH.nil))
            · refine wanted_pos rfl ?_; refine wp_sum rfl rfl (C1.out _ _ HB c1) (fun W hb => hK.out _ _ trivial (fun _ => ?_)); have HB := K.call HB hb; have c9 := later hb c9; have d9 := later hb d9; have h7 := Row8.keep h7 hb; clear hK Kt; simp only [Act.put, List.getElem_toArray, List.getElem_cons_zero, List.getElem_cons_succ, List.setIfInBounds_toArray, List.set_cons_zero, List.set_cons_succ]
              refine wpAnyH_ready (rs := [10, 12]) (by kernel_rfl) (by simp) (AllReadyH.cons rfl (fun Kt hK => ?_) (AllReadyH.cons rfl (fun Kt hK => ?_) AllReadyH.nil))
              · refine wanted_pos rfl ?_; refine wp_sum rfl rfl (C2.out _ _ HB c9 d9) (fun W hb => hK.out _ _ trivial (fun _ => ?_)); have HB := K.call HB hb; have h7 := Row8.keep h7 hb; clear hK Kt; simp only [Act.put, List.getElem_toArray, List.getElem_cons_zero, List.getElem_cons_succ, List.setIfInBounds_toArray, List.set_cons_zero, List.set_cons_succ]
                refine wpAnyH_ready (rs := [12]) (by kernel_rfl) (by simp) (AllReadyH.cons rfl (fun Kt hK => ?_) AllReadyH.nil)
                refine wanted_pos rfl ?_; refine wp_hash rfl (fun p8 W q8 h8 hb => hK.out _ _ trivial (fun _ => ?_)); have e8 := le_of_eq7 q8 HB; have ne : p7 ≠ p8 := (by have := h7.lt; omega); clear q8; have HB := K.call HB hb; have h7 := Row8.keep h7 hb; clear hK Kt; simp only [Act.put, List.getElem_toArray, List.getElem_cons_zero, List.getElem_cons_succ, List.setIfInBounds_toArray, List.set_cons_zero, List.set_cons_succ]
                refine wpAnyH_ready (rs := [13]) (by kernel_rfl) (by simp) (AllReadyH.cons rfl (fun Kt hK => ?_) AllReadyH.nil)
                refine wanted_pos rfl ?_; refine wp_store_mid 25 _ _ rfl p7 0 (ab U 32).toArray rfl rfl (RowB.there h7 U) (inH _) (all_oneCell_toArray (ab_one _ _)) (hK.out _ _ trivial (fun _ => ?_)); obtain ⟨h7, h8, HB⟩ := stored2 (U := U) h7 h8 HB ne e7; generalize W.setCells p7 0 (ab U 32).toArray.toList = W at *; clear hK Kt
                refine wpAnyH_ready (rs := [14]) (by kernel_rfl) (by simp) (AllReadyH.cons rfl (fun Kt hK => ?_) AllReadyH.nil)
                refine wanted_pos rfl ?_; refine wp_store_mid 25 _ _ rfl p8 0 (ab U 32).toArray rfl rfl (RowB.there h8 U) (inH _) (all_oneCell_toArray (ab_one _ _)) (hK.out _ _ trivial (fun _ => ?_)); obtain ⟨h8, h7, HB⟩ := stored2 (U := U) h8 h7 HB (Ne.symm ne) e8; generalize W.setCells p8 0 (ab U 32).toArray.toList = W at *; clear hK Kt
                refine wpAnyH_done (by kernel_rfl) ?_ _
                refine NoPanic.normal ?_
                exact ⟨p1, p9, p7, p8, rfl, h7, h8, HB⟩
              · refine wanted_pos rfl ?_; refine wp_hash rfl (fun p8 W q8 h8 hb => hK.out _ _ trivial (fun _ => ?_)); have e8 := le_of_eq7 q8 HB; have ne : p7 ≠ p8 := (by have := h7.lt; omega); clear q8; have HB := K.call HB hb; have c9 := later hb c9; have d9 := later hb d9; have h7 := Row8.keep h7 hb; clear hK Kt; simp only [Act.put, List.getElem_toArray, List.getElem_cons_zero, List.getElem_cons_succ, List.setIfInBounds_toArray, List.set_cons_zero, List.set_cons_succ]
                refine wpAnyH_ready (rs := [10]) (by kernel_rfl) (by simp) (AllReadyH.cons rfl (fun Kt hK => ?_) AllReadyH.nil)
                refine wanted_pos rfl ?_; refine wp_sum rfl rfl (C2.out _ _ HB c9 d9) (fun W hb => hK.out _ _ trivial (fun _ => ?_)); have HB := K.call HB hb; have h7 := Row8.keep h7 hb; have h8 := Row8.keep h8 hb; clear hK Kt; simp only [Act.put, List.getElem_toArray, List.getElem_cons_zero, List.getElem_cons_succ, List.setIfInBounds_toArray, List.set_cons_zero, List.set_cons_succ]
                refine wpAnyH_ready (rs := [13]) (by kernel_rfl) (by simp) (AllReadyH.cons rfl (fun Kt hK => ?_) AllReadyH.nil)
                refine wanted_pos rfl ?_; refine wp_store_mid 25 _ _ rfl p7 0 (ab U 32).toArray rfl rfl (RowB.there h7 U) (inH _) (all_oneCell_toArray (ab_one _ _)) (hK.out _ _ trivial (fun _ => ?_)); obtain ⟨h7, h8, HB⟩ := stored2 (U := U) h7 h8 HB ne e7; generalize W.setCells p7 0 (ab U 32).toArray.toList = W at *; clear hK Kt
                refine wpAnyH_ready (rs := [14]) (by kernel_rfl) (by simp) (AllReadyH.cons rfl (fun Kt hK => ?_) AllReadyH.nil)
                refine wanted_pos rfl ?_; refine wp_store_mid 25 _ _ rfl p8 0 (ab U 32).toArray rfl rfl (RowB.there h8 U) (inH _) (all_oneCell_toArray (ab_one _ _)) (hK.out _ _ trivial (fun _ => ?_)); obtain ⟨h8, h7, HB⟩ := stored2 (U := U) h8 h7 HB (Ne.symm ne) e8; generalize W.setCells p8 0 (ab U 32).toArray.toList = W at *; clear hK Kt
                refine wpAnyH_done (by kernel_rfl) ?_ _
                refine NoPanic.normal ?_
                exact ⟨p1, p9, p7, p8, rfl, h7, h8, HB⟩
            · refine wanted_pos rfl ?_; refine wp_hash rfl (fun p8 W q8 h8 hb => hK.out _ _ trivial (fun _ => ?_)); have e8 := le_of_eq7 q8 HB; have ne : p7 ≠ p8 := (by have := h7.lt; omega); clear q8; have HB := K.call HB hb; have c1 := later hb c1; have c9 := later hb c9; have d9 := later hb d9; have h7 := Row8.keep h7 hb; clear hK Kt; simp only [Act.put, List.getElem_toArray, List.getElem_cons_zero, List.getElem_cons_succ, List.setIfInBounds_toArray, List.set_cons_zero, List.set_cons_succ]
              refine wpAnyH_ready (rs := [2]) (by kernel_rfl) (by simp) (AllReadyH.cons rfl (fun Kt hK => ?_) AllReadyH.nil)
              refine wanted_pos rfl ?_; refine wp_sum rfl rfl (C1.out _ _ HB c1) (fun W hb => hK.out _ _ trivial (fun _ => ?_)); have HB := K.call HB hb; have c9 := later hb c9; have d9 := later hb d9; have h7 := Row8.keep h7 hb; have h8 := Row8.keep h8 hb; clear hK Kt; simp only [Act.put, List.getElem_toArray, List.getElem_cons_zero, List.getElem_cons_succ, List.setIfInBounds_toArray, List.set_cons_zero, List.set_cons_succ]
              refine wpAnyH_ready (rs := [10]) (by kernel_rfl) (by simp) (AllReadyH.cons rfl (fun Kt hK => ?_) AllReadyH.nil)
              refine wanted_pos rfl ?_; refine wp_sum rfl rfl (C2.out _ _ HB c9 d9) (fun W hb => hK.out _ _ trivial (fun _ => ?_)); have HB := K.call HB hb; have h7 := Row8.keep h7 hb; have h8 := Row8.keep h8 hb; clear hK Kt; simp only [Act.put, List.getElem_toArray, List.getElem_cons_zero, List.getElem_cons_succ, List.setIfInBounds_toArray, List.set_cons_zero, List.set_cons_succ]
              refine wpAnyH_ready (rs := [13]) (by kernel_rfl) (by simp) (AllReadyH.cons rfl (fun Kt hK => ?_) AllReadyH.nil)
              refine wanted_pos rfl ?_; refine wp_store_mid 25 _ _ rfl p7 0 (ab U 32).toArray rfl rfl (RowB.there h7 U) (inH _) (all_oneCell_toArray (ab_one _ _)) (hK.out _ _ trivial (fun _ => ?_)); obtain ⟨h7, h8, HB⟩ := stored2 (U := U) h7 h8 HB ne e7; generalize W.setCells p7 0 (ab U 32).toArray.toList = W at *; clear hK Kt
              refine wpAnyH_ready (rs := [14]) (by kernel_rfl) (by simp) (AllReadyH.cons rfl (fun Kt hK => ?_) AllReadyH.nil)
              refine wanted_pos rfl ?_; refine wp_store_mid 25 _ _ rfl p8 0 (ab U 32).toArray rfl rfl (RowB.there h8 U) (inH _) (all_oneCell_toArray (ab_one _ _)) (hK.out _ _ trivial (fun _ => ?_)); obtain ⟨h8, h7, HB⟩ := stored2 (U := U) h8 h7 HB (Ne.symm ne) e8; generalize W.setCells p8 0 (ab U 32).toArray.toList = W at *; clear hK Kt
              refine wpAnyH_done (by kernel_rfl) ?_ _
              refine NoPanic.normal ?_
              exact ⟨p1, p9, p7, p8, rfl, h7, h8, HB⟩
          · refine wanted_pos rfl ?_; refine wp_hash rfl (fun p8 W q8 h8 hb => hK.out _ _ trivial (fun _ => ?_)); have e8 := le_of_eq7 q8 HB; clear q8; have HB := K.call HB hb; have c1 := later hb c1; have c9 := later hb c9; have d9 := later hb d9; clear hK Kt; simp only [Act.put, List.getElem_toArray, List.getElem_cons_zero, List.getElem_cons_succ, List.setIfInBounds_toArray, List.set_cons_zero, List.set_cons_succ]
            refine wpAnyH_ready (rs := [2, 11]) (by kernel_rfl) (by simp) (AllReadyH.cons rfl (fun Kt hK => ?_) (AllReadyH.cons rfl (fun Kt hK => ?_) AllReadyH.nil))
            · refine wanted_pos rfl ?_; refine wp_sum rfl rfl (C1.out _ _ HB c1) (fun W hb => hK.out _ _ trivial (fun _ => ?_)); have HB := K.call HB hb; have c9 := later hb c9; have d9 := later hb d9; have h8 := Row8.keep h8 hb; clear hK Kt; simp only [Act.put, List.getElem_toArray, List.getElem_cons_zero, List.getElem_cons_succ, List.setIfInBounds_toArray, List.set_cons_zero, List.set_cons_succ]
              refine wpAnyH_ready (rs := [10, 11]) (by kernel_rfl) (by simp) (AllReadyH.cons rfl (fun Kt hK => ?_) (AllReadyH.cons rfl (fun Kt hK => ?_) AllReadyH.nil))
              · refine wanted_pos rfl ?_; refine wp_sum rfl rfl (C2.out _ _ HB c9 d9) (fun W hb => hK.out _ _ trivial (fun _ => ?_)); have HB := K.call HB hb; have h8 := Row8.keep h8 hb; clear hK Kt; simp only [Act.put, List.getElem_toArray, List.getElem_cons_zero, List.getElem_cons_succ, List.setIfInBounds_toArray, List.set_cons_zero, List.set_cons_succ]
                refine wpAnyH_ready (rs := [11]) (by kernel_rfl) (by simp) (AllReadyH.cons rfl (fun Kt hK => ?_) AllReadyH.nil)
                refine wanted_pos rfl ?_; refine wp_hash rfl (fun p7 W q7 h7 hb => hK.out _ _ trivial (fun _ => ?_)); have e7 := le_of_eq7 q7 HB; have ne : p7 ≠ p8 := (by have := h8.lt; omega); clear q7; have HB := K.call HB hb; have h8 := Row8.keep h8 hb; clear hK Kt; simp only [Act.put, List.getElem_toArray, List.getElem_cons_zero, List.getElem_cons_succ, List.setIfInBounds_toArray, List.set_cons_zero, List.set_cons_succ]
                refine wpAnyH_ready (rs := [13]) (by kernel_rfl) (by simp) (AllReadyH.cons rfl (fun Kt hK => ?_) AllReadyH.nil)
                refine wanted_pos rfl ?_; refine wp_store_mid 25 _ _ rfl p7 0 (ab U 32).toArray rfl rfl (RowB.there h7 U) (inH _) (all_oneCell_toArray (ab_one _ _)) (hK.out _ _ trivial (fun _ => ?_)); obtain ⟨h7, h8, HB⟩ := stored2 (U := U) h7 h8 HB ne e7; generalize W.setCells p7 0 (ab U 32).toArray.toList = W at *; clear hK Kt
                refine wpAnyH_ready (rs := [14]) (by kernel_rfl) (by simp) (AllReadyH.cons rfl (fun Kt hK => ?_) AllReadyH.nil)
                refine wanted_pos rfl ?_; refine wp_store_mid 25 _ _ rfl p8 0 (ab U 32).toArray rfl rfl (RowB.there h8 U) (inH _) (all_oneCell_toArray (ab_one _ _)) (hK.out _ _ trivial (fun _ => ?_)); obtain ⟨h8, h7, HB⟩ := stored2 (U := U) h8 h7 HB (Ne.symm ne) e8; generalize W.setCells p8 0 (ab U 32).toArray.toList = W at *; clear hK Kt
                refine wpAnyH_done (by kernel_rfl) ?_ _
                refine NoPanic.normal ?_
                exact ⟨p1, p9, p7, p8, rfl, h7, h8, HB⟩
              · refine wanted_pos rfl ?_; refine wp_hash rfl (fun p7 W q7 h7 hb => hK.out _ _ trivial (fun _ => ?_)); have e7 := le_of_eq7 q7 HB; have ne : p7 ≠ p8 := (by have := h8.lt; omega); clear q7; have HB := K.call HB hb; have c9 := later hb c9; have d9 := later hb d9; have h8 := Row8.keep h8 hb; clear hK Kt; simp only [Act.put, List.getElem_toArray, List.getElem_cons_zero, List.getElem_cons_succ, List.setIfInBounds_toArray, List.set_cons_zero, List.set_cons_succ]
                refine wpAnyH_ready (rs := [10]) (by kernel_rfl) (by simp) (AllReadyH.cons rfl (fun Kt hK => ?_) AllReadyH.nil)
                refine wanted_pos rfl ?_; refine wp_sum rfl rfl (C2.out _ _ HB c9 d9) (fun W hb => hK.out _ _ trivial (fun _ => ?_)); have HB := K.call HB hb; have h7 := Row8.keep h7 hb; have h8 := Row8.keep h8 hb; clear hK Kt; simp only [Act.put, List.getElem_toArray, List.getElem_cons_zero, List.getElem_cons_succ, List.setIfInBounds_toArray, List.set_cons_zero, List.set_cons_succ]
                refine wpAnyH_ready (rs := [13]) (by kernel_rfl) (by simp) (AllReadyH.cons rfl (fun Kt hK => ?_) AllReadyH.nil)
                refine wanted_pos rfl ?_; refine wp_store_mid 25 _ _ rfl p7 0 (ab U 32).toArray rfl rfl (RowB.there h7 U) (inH _) (all_oneCell_toArray (ab_one _ _)) (hK.out _ _ trivial (fun _ => ?_)); obtain ⟨h7, h8, HB⟩ := stored2 (U := U) h7 h8 HB ne e7; generalize W.setCells p7 0 (ab U 32).toArray.toList = W at *; clear hK Kt
                refine wpAnyH_ready (rs := [14]) (by kernel_rfl) (by simp) (AllReadyH.cons rfl (fun Kt hK => ?_) AllReadyH.nil)
                refine wanted_pos rfl ?_; refine wp_store_mid 25 _ _ rfl p8 0 (ab U 32).toArray rfl rfl (RowB.there h8 U) (inH _) (all_oneCell_toArray (ab_one _ _)) (hK.out _ _ trivial (fun _ => ?_)); obtain ⟨h8, h7, HB⟩ := stored2 (U := U) h8 h7 HB (Ne.symm ne) e8; generalize W.setCells p8 0 (ab U 32).toArray.toList = W at *; clear hK Kt
                refine wpAnyH_done (by kernel_rfl) ?_ _
                refine NoPanic.normal ?_
                exact ⟨p1, p9, p7, p8, rfl, h7, h8, HB⟩
            · refine wanted_pos rfl ?_; refine wp_hash rfl (fun p7 W q7 h7 hb => hK.out _ _ trivial (fun _ => ?_)); have e7 := le_of_eq7 q7 HB; have ne : p7 ≠ p8 := (by have := h8.lt; omega); clear q7; have HB := K.call HB hb; have c1 := later hb c1; have c9 := later hb c9; have d9 := later hb d9; have h8 := Row8.keep h8 hb; clear hK Kt; simp only [Act.put, List.getElem_toArray, List.getElem_cons_zero, List.getElem_cons_succ, List.setIfInBounds_toArray, List.set_cons_zero, List.set_cons_succ]
              refine wpAnyH_ready (rs := [2]) (by kernel_rfl) (by simp) (AllReadyH.cons rfl (fun Kt hK => ?_) AllReadyH.nil)
              refine wanted_pos rfl ?_; refine wp_sum rfl rfl (C1.out _ _ HB c1) (fun W hb => hK.out _ _ trivial (fun _ => ?_)); have HB := K.call HB hb; have c9 := later hb c9; have d9 := later hb d9; have h7 := Row8.keep h7 hb; have h8 := Row8.keep h8 hb; clear hK Kt; simp only [Act.put, List.getElem_toArray, List.getElem_cons_zero, List.getElem_cons_succ, List.setIfInBounds_toArray, List.set_cons_zero, List.set_cons_succ]
              refine wpAnyH_ready (rs := [10]) (by kernel_rfl) (by simp) (AllReadyH.cons rfl (fun Kt hK => ?_) AllReadyH.nil)
              refine wanted_pos rfl ?_; refine wp_sum rfl rfl (C2.out _ _ HB c9 d9) (fun W hb => hK.out _ _ trivial (fun _ => ?_)); have HB := K.call HB hb; have h7 := Row8.keep h7 hb; have h8 := Row8.keep h8 hb; clear hK Kt; simp only [Act.put, List.getElem_toArray, List.getElem_cons_zero, List.getElem_cons_succ, List.setIfInBounds_toArray, List.set_cons_zero, List.set_cons_succ]
              refine wpAnyH_ready (rs := [13]) (by kernel_rfl) (by simp) (AllReadyH.cons rfl (fun Kt hK => ?_) AllReadyH.nil)
              refine wanted_pos rfl ?_; refine wp_store_mid 25 _ _ rfl p7 0 (ab U 32).toArray rfl rfl (RowB.there h7 U) (inH _) (all_oneCell_toArray (ab_one _ _)) (hK.out _ _ trivial (fun _ => ?_)); obtain ⟨h7, h8, HB⟩ := stored2 (U := U) h7 h8 HB ne e7; generalize W.setCells p7 0 (ab U 32).toArray.toList = W at *; clear hK Kt
              refine wpAnyH_ready (rs := [14]) (by kernel_rfl) (by simp) (AllReadyH.cons rfl (fun Kt hK => ?_) AllReadyH.nil)
              refine wanted_pos rfl ?_; refine wp_store_mid 25 _ _ rfl p8 0 (ab U 32).toArray rfl rfl (RowB.there h8 U) (inH _) (all_oneCell_toArray (ab_one _ _)) (hK.out _ _ trivial (fun _ => ?_)); obtain ⟨h8, h7, HB⟩ := stored2 (U := U) h8 h7 HB (Ne.symm ne) e8; generalize W.setCells p8 0 (ab U 32).toArray.toList = W at *; clear hK Kt
              refine wpAnyH_done (by kernel_rfl) ?_ _
              refine NoPanic.normal ?_
              exact ⟨p1, p9, p7, p8, rfl, h7, h8, HB⟩
        · refine wanted_pos rfl ?_; refine wp_hash rfl (fun p7 W q7 h7 hb => hK.out _ _ trivial (fun _ => ?_)); have e7 := le_of_eq7 q7 HB; clear q7; have HB := K.call HB hb; have c9 := later hb c9; have d9 := later hb d9; clear hK Kt; simp only [Act.put, List.getElem_toArray, List.getElem_cons_zero, List.getElem_cons_succ, List.setIfInBounds_toArray, List.set_cons_zero, List.set_cons_succ]
          refine wpAnyH_ready (rs := [1, 12]) (by kernel_rfl) (by simp) (AllReadyH.cons rfl (fun Kt hK => ?_) (AllReadyH.cons rfl (fun Kt hK => ?_) AllReadyH.nil))
          · refine wanted_pos rfl ?_; refine wp_one rfl rfl (fun p1 W _ c1 hb => hK.out _ _ trivial (fun _ => ?_)); have HB := K.call HB hb; have c9 := later hb c9; have d9 := later hb d9; have h7 := Row8.keep h7 hb; clear hK Kt; simp only [Act.put, List.getElem_toArray, List.getElem_cons_zero, List.getElem_cons_succ, List.setIfInBounds_toArray, List.set_cons_zero, List.set_cons_succ]
            refine wpAnyH_ready (rs := [2, 12]) (by kernel_rfl) (by simp) (AllReadyH.cons rfl (fun Kt hK => ?_) (AllReadyH.cons rfl (fun Kt hK => ?_) AllReadyH.nil))
            · refine wanted_pos rfl ?_; refine wp_sum rfl rfl (C1.out _ _ HB c1) (fun W hb => hK.out _ _ trivial (fun _ => ?_)); have HB := K.call HB hb; have c9 := later hb c9; have d9 := later hb d9; have h7 := Row8.keep h7 hb; clear hK Kt; simp only [Act.put, List.getElem_toArray, List.getElem_cons_zero, List.getElem_cons_succ, List.setIfInBounds_toArray, List.set_cons_zero, List.set_cons_succ]
              refine wpAnyH_ready (rs := [10, 12]) (by kernel_rfl) (by simp) (AllReadyH.cons rfl (fun Kt hK => ?_) (AllReadyH.cons rfl (fun Kt hK => ?_) AllReadyH.nil))
              · refine wanted_pos rfl ?_; refine wp_sum rfl rfl (C2.out _ _ HB c9 d9) (fun W hb => hK.out _ _ trivial (fun _ => ?_)); have HB := K.call HB hb; have h7 := Row8.keep h7 hb; clear hK Kt; simp only [Act.put, List.getElem_toArray, List.getElem_cons_zero, List.getElem_cons_succ, List.setIfInBounds_toArray, List.set_cons_zero, List.set_cons_succ]
                refine wpAnyH_ready (rs := [12]) (by kernel_rfl) (by simp) (AllReadyH.cons rfl (fun Kt hK => ?_) AllReadyH.nil)
                refine wanted_pos rfl ?_; refine wp_hash rfl (fun p8 W q8 h8 hb => hK.out _ _ trivial (fun _ => ?_)); have e8 := le_of_eq7 q8 HB; have ne : p7 ≠ p8 := (by have := h7.lt; omega); clear q8; have HB := K.call HB hb; have h7 := Row8.keep h7 hb; clear hK Kt; simp only [Act.put, List.getElem_toArray, List.getElem_cons_zero, List.getElem_cons_succ, List.setIfInBounds_toArray, List.set_cons_zero, List.set_cons_succ]
                refine wpAnyH_ready (rs := [13]) (by kernel_rfl) (by simp) (AllReadyH.cons rfl (fun Kt hK => ?_) AllReadyH.nil)
                refine wanted_pos rfl ?_; refine wp_store_mid 25 _ _ rfl p7 0 (ab U 32).toArray rfl rfl (RowB.there h7 U) (inH _) (all_oneCell_toArray (ab_one _ _)) (hK.out _ _ trivial (fun _ => ?_)); obtain ⟨h7, h8, HB⟩ := stored2 (U := U) h7 h8 HB ne e7; generalize W.setCells p7 0 (ab U 32).toArray.toList = W at *; clear hK Kt
                refine wpAnyH_ready (rs := [14]) (by kernel_rfl) (by simp) (AllReadyH.cons rfl (fun Kt hK => ?_) AllReadyH.nil)
                refine wanted_pos rfl ?_; refine wp_store_mid 25 _ _ rfl p8 0 (ab U 32).toArray rfl rfl (RowB.there h8 U) (inH _) (all_oneCell_toArray (ab_one _ _)) (hK.out _ _ trivial (fun _ => ?_)); obtain ⟨h8, h7, HB⟩ := stored2 (U := U) h8 h7 HB (Ne.symm ne) e8; generalize W.setCells p8 0 (ab U 32).toArray.toList = W at *; clear hK Kt
                refine wpAnyH_done (by kernel_rfl) ?_ _
                refine NoPanic.normal ?_
                exact ⟨p1, p9, p7, p8, rfl, h7, h8, HB⟩
              · refine wanted_pos rfl ?_; refine wp_hash rfl (fun p8 W q8 h8 hb => hK.out _ _ trivial (fun _ => ?_)); have e8 := le_of_eq7 q8 HB; have ne : p7 ≠ p8 := (by have := h7.lt; omega); clear q8; have HB := K.call HB hb; have c9 := later hb c9; have d9 := later hb d9; have h7 := Row8.keep h7 hb; clear hK Kt; simp only [Act.put, List.getElem_toArray, List.getElem_cons_zero, List.getElem_cons_succ, List.setIfInBounds_toArray, List.set_cons_zero, List.set_cons_succ]
                refine wpAnyH_ready (rs := [10]) (by kernel_rfl) (by simp) (AllReadyH.cons rfl (fun Kt hK => ?_) AllReadyH.nil)
                refine wanted_pos rfl ?_; refine wp_sum rfl rfl (C2.out _ _ HB c9 d9) (fun W hb => hK.out _ _ trivial (fun _ => ?_)); have HB := K.call HB hb; have h7 := Row8.keep h7 hb; have h8 := Row8.keep h8 hb; clear hK Kt; simp only [Act.put, List.getElem_toArray, List.getElem_cons_zero, List.getElem_cons_succ, List.setIfInBounds_toArray, List.set_cons_zero, List.set_cons_succ]
                refine wpAnyH_ready (rs := [13]) (by kernel_rfl) (by simp) (AllReadyH.cons rfl (fun Kt hK => ?_) AllReadyH.nil)
                refine wanted_pos rfl ?_; refine wp_store_mid 25 _ _ rfl p7 0 (ab U 32).toArray rfl rfl (RowB.there h7 U) (inH _) (all_oneCell_toArray (ab_one _ _)) (hK.out _ _ trivial (fun _ => ?_)); obtain ⟨h7, h8, HB⟩ := stored2 (U := U) h7 h8 HB ne e7; generalize W.setCells p7 0 (ab U 32).toArray.toList = W at *; clear hK Kt
                refine wpAnyH_ready (rs := [14]) (by kernel_rfl) (by simp) (AllReadyH.cons rfl (fun Kt hK => ?_) AllReadyH.nil)
                refine wanted_pos rfl ?_; refine wp_store_mid 25 _ _ rfl p8 0 (ab U 32).toArray rfl rfl (RowB.there h8 U) (inH _) (all_oneCell_toArray (ab_one _ _)) (hK.out _ _ trivial (fun _ => ?_)); obtain ⟨h8, h7, HB⟩ := stored2 (U := U) h8 h7 HB (Ne.symm ne) e8; generalize W.setCells p8 0 (ab U 32).toArray.toList = W at *; clear hK Kt
                refine wpAnyH_done (by kernel_rfl) ?_ _
                refine NoPanic.normal ?_
                exact ⟨p1, p9, p7, p8, rfl, h7, h8, HB⟩
            · refine wanted_pos rfl ?_; refine wp_hash rfl (fun p8 W q8 h8 hb => hK.out _ _ trivial (fun _ => ?_)); have e8 := le_of_eq7 q8 HB; have ne : p7 ≠ p8 := (by have := h7.lt; omega); clear q8; have HB := K.call HB hb; have c1 := later hb c1; have c9 := later hb c9; have d9 := later hb d9; have h7 := Row8.keep h7 hb; clear hK Kt; simp only [Act.put, List.getElem_toArray, List.getElem_cons_zero, List.getElem_cons_succ, List.setIfInBounds_toArray, List.set_cons_zero, List.set_cons_succ]
              refine wpAnyH_ready (rs := [2]) (by kernel_rfl) (by simp) (AllReadyH.cons rfl (fun Kt hK => ?_) AllReadyH.nil)
              refine wanted_pos rfl ?_; refine wp_sum rfl rfl (C1.out _ _ HB c1) (fun W hb => hK.out _ _ trivial (fun _ => ?_)); have HB := K.call HB hb; have c9 := later hb c9; have d9 := later hb d9; have h7 := Row8.keep h7 hb; have h8 := Row8.keep h8 hb; clear hK Kt; simp only [Act.put, List.getElem_toArray, List.getElem_cons_zero, List.getElem_cons_succ, List.setIfInBounds_toArray, List.set_cons_zero, List.set_cons_succ]
              refine wpAnyH_ready (rs := [10]) (by kernel_rfl) (by simp) (AllReadyH.cons rfl (fun Kt hK => ?_) AllReadyH.nil)
              refine wanted_pos rfl ?_; refine wp_sum rfl rfl (C2.out _ _ HB c9 d9) (fun W hb => hK.out _ _ trivial (fun _ => ?_)); have HB := K.call HB hb; have h7 := Row8.keep h7 hb; have h8 := Row8.keep h8 hb; clear hK Kt; simp only [Act.put, List.getElem_toArray, List.getElem_cons_zero, List.getElem_cons_succ, List.setIfInBounds_toArray, List.set_cons_zero, List.set_cons_succ]
              refine wpAnyH_ready (rs := [13]) (by kernel_rfl) (by simp) (AllReadyH.cons rfl (fun Kt hK => ?_) AllReadyH.nil)
              refine wanted_pos rfl ?_; refine wp_store_mid 25 _ _ rfl p7 0 (ab U 32).toArray rfl rfl (RowB.there h7 U) (inH _) (all_oneCell_toArray (ab_one _ _)) (hK.out _ _ trivial (fun _ => ?_)); obtain ⟨h7, h8, HB⟩ := stored2 (U := U) h7 h8 HB ne e7; generalize W.setCells p7 0 (ab U 32).toArray.toList = W at *; clear hK Kt
              refine wpAnyH_ready (rs := [14]) (by kernel_rfl) (by simp) (AllReadyH.cons rfl (fun Kt hK => ?_) AllReadyH.nil)
              refine wanted_pos rfl ?_; refine wp_store_mid 25 _ _ rfl p8 0 (ab U 32).toArray rfl rfl (RowB.there h8 U) (inH _) (all_oneCell_toArray (ab_one _ _)) (hK.out _ _ trivial (fun _ => ?_)); obtain ⟨h8, h7, HB⟩ := stored2 (U := U) h8 h7 HB (Ne.symm ne) e8; generalize W.setCells p8 0 (ab U 32).toArray.toList = W at *; clear hK Kt
              refine wpAnyH_done (by kernel_rfl) ?_ _
              refine NoPanic.normal ?_
              exact ⟨p1, p9, p7, p8, rfl, h7, h8, HB⟩
          · refine wanted_pos rfl ?_; refine wp_hash rfl (fun p8 W q8 h8 hb => hK.out _ _ trivial (fun _ => ?_)); have e8 := le_of_eq7 q8 HB; have ne : p7 ≠ p8 := (by have := h7.lt; omega); clear q8; have HB := K.call HB hb; have c9 := later hb c9; have d9 := later hb d9; have h7 := Row8.keep h7 hb; clear hK Kt; simp only [Act.put, List.getElem_toArray, List.getElem_cons_zero, List.getElem_cons_succ, List.setIfInBounds_toArray, List.set_cons_zero, List.set_cons_succ]
            refine wpAnyH_ready (rs := [1]) (by kernel_rfl) (by simp) (AllReadyH.cons rfl (fun Kt hK => ?_) AllReadyH.nil)
            refine wanted_pos rfl ?_; refine wp_one rfl rfl (fun p1 W _ c1 hb => hK.out _ _ trivial (fun _ => ?_)); have HB := K.call HB hb; have c9 := later hb c9; have d9 := later hb d9; have h7 := Row8.keep h7 hb; have h8 := Row8.keep h8 hb; clear hK Kt; simp only [Act.put, List.getElem_toArray, List.getElem_cons_zero, List.getElem_cons_succ, List.setIfInBounds_toArray, List.set_cons_zero, List.set_cons_succ]
            refine wpAnyH_ready (rs := [2]) (by kernel_rfl) (by simp) (AllReadyH.cons rfl (fun Kt hK => ?_) AllReadyH.nil)
            refine wanted_pos rfl ?_; refine wp_sum rfl rfl (C1.out _ _ HB c1) (fun W hb => hK.out _ _ trivial (fun _ => ?_)); have HB := K.call HB hb; have c9 := later hb c9; have d9 := later hb d9; have h7 := Row8.keep h7 hb; have h8 := Row8.keep h8 hb; clear hK Kt; simp only [Act.put, List.getElem_toArray, List.getElem_cons_zero, List.getElem_cons_succ, List.setIfInBounds_toArray, List.set_cons_zero, List.set_cons_succ]
            refine wpAnyH_ready (rs := [10]) (by kernel_rfl) (by simp) (AllReadyH.cons rfl (fun Kt hK => ?_) AllReadyH.nil)
            refine wanted_pos rfl ?_; refine wp_sum rfl rfl (C2.out _ _ HB c9 d9) (fun W hb => hK.out _ _ trivial (fun _ => ?_)); have HB := K.call HB hb; have h7 := Row8.keep h7 hb; have h8 := Row8.keep h8 hb; clear hK Kt; simp only [Act.put, List.getElem_toArray, List.getElem_cons_zero, List.getElem_cons_succ, List.setIfInBounds_toArray, List.set_cons_zero, List.set_cons_succ]
            refine wpAnyH_ready (rs := [13]) (by kernel_rfl) (by simp) (AllReadyH.cons rfl (fun Kt hK => ?_) AllReadyH.nil)
            refine wanted_pos rfl ?_; refine wp_store_mid 25 _ _ rfl p7 0 (ab U 32).toArray rfl rfl (RowB.there h7 U) (inH _) (all_oneCell_toArray (ab_one _ _)) (hK.out _ _ trivial (fun _ => ?_)); obtain ⟨h7, h8, HB⟩ := stored2 (U := U) h7 h8 HB ne e7; generalize W.setCells p7 0 (ab U 32).toArray.toList = W at *; clear hK Kt
            refine wpAnyH_ready (rs := [14]) (by kernel_rfl) (by simp) (AllReadyH.cons rfl (fun Kt hK => ?_) AllReadyH.nil)
            refine wanted_pos rfl ?_; refine wp_store_mid 25 _ _ rfl p8 0 (ab U 32).toArray rfl rfl (RowB.there h8 U) (inH _) (all_oneCell_toArray (ab_one _ _)) (hK.out _ _ trivial (fun _ => ?_)); obtain ⟨h8, h7, HB⟩ := stored2 (U := U) h8 h7 HB (Ne.symm ne) e8; generalize W.setCells p8 0 (ab U 32).toArray.toList = W at *; clear hK Kt
            refine wpAnyH_done (by kernel_rfl) ?_ _
            refine NoPanic.normal ?_
            exact ⟨p1, p9, p7, p8, rfl, h7, h8, HB⟩
        · refine wanted_pos rfl ?_; refine wp_hash rfl (fun p8 W q8 h8 hb => hK.out _ _ trivial (fun _ => ?_)); have e8 := le_of_eq7 q8 HB; clear q8; have HB := K.call HB hb; have c9 := later hb c9; have d9 := later hb d9; clear hK Kt; simp only [Act.put, List.getElem_toArray, List.getElem_cons_zero, List.getElem_cons_succ, List.setIfInBounds_toArray, List.set_cons_zero, List.set_cons_succ]
          refine wpAnyH_ready (rs := [1, 11]) (by kernel_rfl) (by simp) (AllReadyH.cons rfl (fun Kt hK => ?_) (AllReadyH.cons rfl (fun Kt hK => ?_) AllReadyH.nil))
          · refine wanted_pos rfl ?_; refine wp_one rfl rfl (fun p1 W _ c1 hb => hK.out _ _ trivial (fun _ => ?_)); have HB := K.call HB hb; have c9 := later hb c9; have d9 := later hb d9; have h8 := Row8.keep h8 hb; clear hK Kt; simp only [Act.put, List.getElem_toArray, List.getElem_cons_zero, List.getElem_cons_succ, List.setIfInBounds_toArray, List.set_cons_zero, List.set_cons_succ]
            refine wpAnyH_ready (rs := [2, 11]) (by kernel_rfl) (by simp) (AllReadyH.cons rfl (fun Kt hK => ?_) (AllReadyH.cons rfl (fun Kt hK => ?_) AllReadyH.nil))
            · refine wanted_pos rfl ?_; refine wp_sum rfl rfl (C1.out _ _ HB c1) (fun W hb => hK.out _ _ trivial (fun _ => ?_)); have HB := K.call HB hb; have c9 := later hb c9; have d9 := later hb d9; have h8 := Row8.keep h8 hb; clear hK Kt; simp only [Act.put, List.getElem_toArray, List.getElem_cons_zero, List.getElem_cons_succ, List.setIfInBounds_toArray, List.set_cons_zero, List.set_cons_succ]
              refine wpAnyH_ready (rs := [10, 11]) (by kernel_rfl) (by simp) (AllReadyH.cons rfl (fun Kt hK => ?_) (AllReadyH.cons rfl (fun Kt hK => ?_) AllReadyH.nil))
              · refine wanted_pos rfl ?_; refine wp_sum rfl rfl (C2.out _ _ HB c9 d9) (fun W hb => hK.out _ _ trivial (fun _ => ?_)); have HB := K.call HB hb; have h8 := Row8.keep h8 hb; clear hK Kt; simp only [Act.put, List.getElem_toArray, List.getElem_cons_zero, List.getElem_cons_succ, List.setIfInBounds_toArray, List.set_cons_zero, List.set_cons_succ]
                refine wpAnyH_ready (rs := [11]) (by kernel_rfl) (by simp) (AllReadyH.cons rfl (fun Kt hK => ?_) AllReadyH.nil)
                refine wanted_pos rfl ?_; refine wp_hash rfl (fun p7 W q7 h7 hb => hK.out _ _ trivial (fun _ => ?_)); have e7 := le_of_eq7 q7 HB; have ne : p7 ≠ p8 := (by have := h8.lt; omega); clear q7; have HB := K.call HB hb; have h8 := Row8.keep h8 hb; clear hK Kt; simp only [Act.put, List.getElem_toArray, List.getElem_cons_zero, List.getElem_cons_succ, List.setIfInBounds_toArray, List.set_cons_zero, List.set_cons_succ]
                refine wpAnyH_ready (rs := [13]) (by kernel_rfl) (by simp) (AllReadyH.cons rfl (fun Kt hK => ?_) AllReadyH.nil)
                refine wanted_pos rfl ?_; refine wp_store_mid 25 _ _ rfl p7 0 (ab U 32).toArray rfl rfl (RowB.there h7 U) (inH _) (all_oneCell_toArray (ab_one _ _)) (hK.out _ _ trivial (fun _ => ?_)); obtain ⟨h7, h8, HB⟩ := stored2 (U := U) h7 h8 HB ne e7; generalize W.setCells p7 0 (ab U 32).toArray.toList = W at *; clear hK Kt
                refine wpAnyH_ready (rs := [14]) (by kernel_rfl) (by simp) (AllReadyH.cons rfl (fun Kt hK => ?_) AllReadyH.nil)
                refine wanted_pos rfl ?_; refine wp_store_mid 25 _ _ rfl p8 0 (ab U 32).toArray rfl rfl (RowB.there h8 U) (inH _) (all_oneCell_toArray (ab_one _ _)) (hK.out _ _ trivial (fun _ => ?_)); obtain ⟨h8, h7, HB⟩ := stored2 (U := U) h8 h7 HB (Ne.symm ne) e8; generalize W.setCells p8 0 (ab U 32).toArray.toList = W at *; clear hK Kt
                refine wpAnyH_done (by kernel_rfl) ?_ _
                refine NoPanic.normal ?_
                exact ⟨p1, p9, p7, p8, rfl, h7, h8, HB⟩
              · refine wanted_pos rfl ?_; refine wp_hash rfl (fun p7 W q7 h7 hb => hK.out _ _ trivial (fun _ => ?_)); have e7 := le_of_eq7 q7 HB; have ne : p7 ≠ p8 := (by have := h8.lt; omega); clear q7; have HB := K.call HB hb; have c9 := later hb c9; have d9 := later hb d9; have h8 := Row8.keep h8 hb; clear hK Kt; simp only [Act.put, List.getElem_toArray, List.getElem_cons_zero, List.getElem_cons_succ, List.setIfInBounds_toArray, List.set_cons_zero, List.set_cons_succ]
                refine wpAnyH_ready (rs := [10]) (by kernel_rfl) (by simp) (AllReadyH.cons rfl (fun Kt hK => ?_) AllReadyH.nil)
                refine wanted_pos rfl ?_; refine wp_sum rfl rfl (C2.out _ _ HB c9 d9) (fun W hb => hK.out _ _ trivial (fun _ => ?_)); have HB := K.call HB hb; have h7 := Row8.keep h7 hb; have h8 := Row8.keep h8 hb; clear hK Kt; simp only [Act.put, List.getElem_toArray, List.getElem_cons_zero, List.getElem_cons_succ, List.setIfInBounds_toArray, List.set_cons_zero, List.set_cons_succ]
                refine wpAnyH_ready (rs := [13]) (by kernel_rfl) (by simp) (AllReadyH.cons rfl (fun Kt hK => ?_) AllReadyH.nil)
                refine wanted_pos rfl ?_; refine wp_store_mid 25 _ _ rfl p7 0 (ab U 32).toArray rfl rfl (RowB.there h7 U) (inH _) (all_oneCell_toArray (ab_one _ _)) (hK.out _ _ trivial (fun _ => ?_)); obtain ⟨h7, h8, HB⟩ := stored2 (U := U) h7 h8 HB ne e7; generalize W.setCells p7 0 (ab U 32).toArray.toList = W at *; clear hK Kt
                refine wpAnyH_ready (rs := [14]) (by kernel_rfl) (by simp) (AllReadyH.cons rfl (fun Kt hK => ?_) AllReadyH.nil)
                refine wanted_pos rfl ?_; refine wp_store_mid 25 _ _ rfl p8 0 (ab U 32).toArray rfl rfl (RowB.there h8 U) (inH _) (all_oneCell_toArray (ab_one _ _)) (hK.out _ _ trivial (fun _ => ?_)); obtain ⟨h8, h7, HB⟩ := stored2 (U := U) h8 h7 HB (Ne.symm ne) e8; generalize W.setCells p8 0 (ab U 32).toArray.toList = W at *; clear hK Kt
                refine wpAnyH_done (by kernel_rfl) ?_ _
                refine NoPanic.normal ?_
                exact ⟨p1, p9, p7, p8, rfl, h7, h8, HB⟩
            · refine wanted_pos rfl ?_; refine wp_hash rfl (fun p7 W q7 h7 hb => hK.out _ _ trivial (fun _ => ?_)); have e7 := le_of_eq7 q7 HB; have ne : p7 ≠ p8 := (by have := h8.lt; omega); clear q7; have HB := K.call HB hb; have c1 := later hb c1; have c9 := later hb c9; have d9 := later hb d9; have h8 := Row8.keep h8 hb; clear hK Kt; simp only [Act.put, List.getElem_toArray, List.getElem_cons_zero, List.getElem_cons_succ, List.setIfInBounds_toArray, List.set_cons_zero, List.set_cons_succ]
              refine wpAnyH_ready (rs := [2]) (by kernel_rfl) (by simp) (AllReadyH.cons rfl (fun Kt hK => ?_) AllReadyH.nil)
              refine wanted_pos rfl ?_; refine wp_sum rfl rfl (C1.out _ _ HB c1) (fun W hb => hK.out _ _ trivial (fun _ => ?_)); have HB := K.call HB hb; have c9 := later hb c9; have d9 := later hb d9; have h7 := Row8.keep h7 hb; have h8 := Row8.keep h8 hb; clear hK Kt; simp only [Act.put, List.getElem_toArray, List.getElem_cons_zero, List.getElem_cons_succ, List.setIfInBounds_toArray, List.set_cons_zero, List.set_cons_succ]
              refine wpAnyH_ready (rs := [10]) (by kernel_rfl) (by simp) (AllReadyH.cons rfl (fun Kt hK => ?_) AllReadyH.nil)
              refine wanted_pos rfl ?_; refine wp_sum rfl rfl (C2.out _ _ HB c9 d9) (fun W hb => hK.out _ _ trivial (fun _ => ?_)); have HB := K.call HB hb; have h7 := Row8.keep h7 hb; have h8 := Row8.keep h8 hb; clear hK Kt; simp only [Act.put, List.getElem_toArray, List.getElem_cons_zero, List.getElem_cons_succ, List.setIfInBounds_toArray, List.set_cons_zero, List.set_cons_succ]
              refine wpAnyH_ready (rs := [13]) (by kernel_rfl) (by simp) (AllReadyH.cons rfl (fun Kt hK => ?_) AllReadyH.nil)
              refine wanted_pos rfl ?_; refine wp_store_mid 25 _ _ rfl p7 0 (ab U 32).toArray rfl rfl (RowB.there h7 U) (inH _) (all_oneCell_toArray (ab_one _ _)) (hK.out _ _ trivial (fun _ => ?_)); obtain ⟨h7, h8, HB⟩ := stored2 (U := U) h7 h8 HB ne e7; generalize W.setCells p7 0 (ab U 32).toArray.toList = W at *; clear hK Kt
              refine wpAnyH_ready (rs := [14]) (by kernel_rfl) (by simp) (AllReadyH.cons rfl (fun Kt hK => ?_) AllReadyH.nil)
              refine wanted_pos rfl ?_; refine wp_store_mid 25 _ _ rfl p8 0 (ab U 32).toArray rfl rfl (RowB.there h8 U) (inH _) (all_oneCell_toArray (ab_one _ _)) (hK.out _ _ trivial (fun _ => ?_)); obtain ⟨h8, h7, HB⟩ := stored2 (U := U) h8 h7 HB (Ne.symm ne) e8; generalize W.setCells p8 0 (ab U 32).toArray.toList = W at *; clear hK Kt
              refine wpAnyH_done (by kernel_rfl) ?_ _
              refine NoPanic.normal ?_
              exact ⟨p1, p9, p7, p8, rfl, h7, h8, HB⟩
          · refine wanted_pos rfl ?_; refine wp_hash rfl (fun p7 W q7 h7 hb => hK.out _ _ trivial (fun _ => ?_)); have e7 := le_of_eq7 q7 HB; have ne : p7 ≠ p8 := (by have := h8.lt; omega); clear q7; have HB := K.call HB hb; have c9 := later hb c9; have d9 := later hb d9; have h8 := Row8.keep h8 hb; clear hK Kt; simp only [Act.put, List.getElem_toArray, List.getElem_cons_zero, List.getElem_cons_succ, List.setIfInBounds_toArray, List.set_cons_zero, List.set_cons_succ]
            refine wpAnyH_ready (rs := [1]) (by kernel_rfl) (by simp) (AllReadyH.cons rfl (fun Kt hK => ?_) AllReadyH.nil)
            refine wanted_pos rfl ?_; refine wp_one rfl rfl (fun p1 W _ c1 hb => hK.out _ _ trivial (fun _ => ?_)); have HB := K.call HB hb; have c9 := later hb c9; have d9 := later hb d9; have h7 := Row8.keep h7 hb; have h8 := Row8.keep h8 hb; clear hK Kt; simp only [Act.put, List.getElem_toArray, List.getElem_cons_zero, List.getElem_cons_succ, List.setIfInBounds_toArray, List.set_cons_zero, List.set_cons_succ]
            refine wpAnyH_ready (rs := [2]) (by kernel_rfl) (by simp) (AllReadyH.cons rfl (fun Kt hK => ?_) AllReadyH.nil)
            refine wanted_pos rfl ?_; refine wp_sum rfl rfl (C1.out _ _ HB c1) (fun W hb => hK.out _ _ trivial (fun _ => ?_)); have HB := K.call HB hb; have c9 := later hb c9; have d9 := later hb d9; have h7 := Row8.keep h7 hb; have h8 := Row8.keep h8 hb; clear hK Kt; simp only [Act.put, List.getElem_toArray, List.getElem_cons_zero, List.getElem_cons_succ, List.setIfInBounds_toArray, List.set_cons_zero, List.set_cons_succ]
            refine wpAnyH_ready (rs := [10]) (by kernel_rfl) (by simp) (AllReadyH.cons rfl (fun Kt hK => ?_) AllReadyH.nil)
            refine wanted_pos rfl ?_; refine wp_sum rfl rfl (C2.out _ _ HB c9 d9) (fun W hb => hK.out _ _ trivial (fun _ => ?_)); have HB := K.call HB hb; have h7 := Row8.keep h7 hb; have h8 := Row8.keep h8 hb; clear hK Kt; simp only [Act.put, List.getElem_toArray, List.getElem_cons_zero, List.getElem_cons_succ, List.setIfInBounds_toArray, List.set_cons_zero, List.set_cons_succ]
            refine wpAnyH_ready (rs := [13]) (by kernel_rfl) (by simp) (AllReadyH.cons rfl (fun Kt hK => ?_) AllReadyH.nil)
            refine wanted_pos rfl ?_; refine wp_store_mid 25 _ _ rfl p7 0 (ab U 32).toArray rfl rfl (RowB.there h7 U) (inH _) (all_oneCell_toArray (ab_one _ _)) (hK.out _ _ trivial (fun _ => ?_)); obtain ⟨h7, h8, HB⟩ := stored2 (U := U) h7 h8 HB ne e7; generalize W.setCells p7 0 (ab U 32).toArray.toList = W at *; clear hK Kt
            refine wpAnyH_ready (rs := [14]) (by kernel_rfl) (by simp) (AllReadyH.cons rfl (fun Kt hK => ?_) AllReadyH.nil)
            refine wanted_pos rfl ?_; refine wp_store_mid 25 _ _ rfl p8 0 (ab U 32).toArray rfl rfl (RowB.there h8 U) (inH _) (all_oneCell_toArray (ab_one _ _)) (hK.out _ _ trivial (fun _ => ?_)); obtain ⟨h8, h7, HB⟩ := stored2 (U := U) h8 h7 HB (Ne.symm ne) e8; generalize W.setCells p8 0 (ab U 32).toArray.toList = W at *; clear hK Kt
            refine wpAnyH_done (by kernel_rfl) ?_ _
            refine NoPanic.normal ?_
            exact ⟨p1, p9, p7, p8, rfl, h7, h8, HB⟩
      · refine wanted_pos rfl ?_; refine wp_hash rfl (fun p7 W q7 h7 hb => hK.out _ _ trivial (fun _ => ?_)); have e7 := le_of_eq7 q7 HB; clear q7; have HB := K.call HB hb; clear hK Kt; simp only [Act.put, List.getElem_toArray, List.getElem_cons_zero, List.getElem_cons_succ, List.setIfInBounds_toArray, List.set_cons_zero, List.set_cons_succ]
        refine wpAnyH_ready (rs := [1, 9, 12]) (by kernel_rfl) (by simp) (AllReadyH.cons rfl (fun Kt hK => ?_) (AllReadyH.cons rfl (fun Kt hK => ?_) (AllReadyH.cons rfl (fun Kt hK => ?_) AllReadyH.nil)))
        · refine wanted_pos rfl ?_; refine wp_one rfl rfl (fun p1 W _ c1 hb => hK.out _ _ trivial (fun _ => ?_)); have HB := K.call HB hb; have h7 := Row8.keep h7 hb; clear hK Kt; simp only [Act.put, List.getElem_toArray, List.getElem_cons_zero, List.getElem_cons_succ, List.setIfInBounds_toArray, List.set_cons_zero, List.set_cons_succ]
          refine wpAnyH_ready (rs := [2, 9, 12]) (by kernel_rfl) (by simp) (AllReadyH.cons rfl (fun Kt hK => ?_) (AllReadyH.cons rfl (fun Kt hK => ?_) (AllReadyH.cons rfl (fun Kt hK => ?_) AllReadyH.nil)))
          · refine wanted_pos rfl ?_; refine wp_sum rfl rfl (C1.out _ _ HB c1) (fun W hb => hK.out _ _ trivial (fun _ => ?_)); have HB := K.call HB hb; have h7 := Row8.keep h7 hb; clear hK Kt; simp only [Act.put, List.getElem_toArray, List.getElem_cons_zero, List.getElem_cons_succ, List.setIfInBounds_toArray, List.set_cons_zero, List.set_cons_succ]
            refine wpAnyH_ready (rs := [9, 12]) (by kernel_rfl) (by simp) (AllReadyH.cons rfl (fun Kt hK => ?_) (AllReadyH.cons rfl (fun Kt hK => ?_) AllReadyH.nil))
            · refine wanted_pos rfl ?_; refine wp_two rfl rfl rfl (fun p9 W _ c9 d9 hb => hK.out _ _ trivial (fun _ => ?_)); have HB := K.call HB hb; have h7 := Row8.keep h7 hb; clear hK Kt; simp only [Act.put, List.getElem_toArray, List.getElem_cons_zero, List.getElem_cons_succ, List.setIfInBounds_toArray, List.set_cons_zero, List.set_cons_succ]
              refine wpAnyH_ready (rs := [10, 12]) (by kernel_rfl) (by simp) (AllReadyH.cons rfl (fun Kt hK => ?_) (AllReadyH.cons rfl (fun Kt hK => ?_) AllReadyH.nil))
              · refine wanted_pos rfl ?_; refine wp_sum rfl rfl (C2.out _ _ HB c9 d9) (fun W hb => hK.out _ _ trivial (fun _ => ?_)); have HB := K.call HB hb; have h7 := Row8.keep h7 hb; clear hK Kt; simp only [Act.put, List.getElem_toArray, List.getElem_cons_zero, List.getElem_cons_succ, List.setIfInBounds_toArray, List.set_cons_zero, List.set_cons_succ]
                refine wpAnyH_ready (rs := [12]) (by kernel_rfl) (by simp) (AllReadyH.cons rfl (fun Kt hK => ?_) AllReadyH.nil)
                refine wanted_pos rfl ?_; refine wp_hash rfl (fun p8 W q8 h8 hb => hK.out _ _ trivial (fun _ => ?_)); have e8 := le_of_eq7 q8 HB; have ne : p7 ≠ p8 := (by have := h7.lt; omega); clear q8; have HB := K.call HB hb; have h7 := Row8.keep h7 hb; clear hK Kt; simp only [Act.put, List.getElem_toArray, List.getElem_cons_zero, List.getElem_cons_succ, List.setIfInBounds_toArray, List.set_cons_zero, List.set_cons_succ]
                refine wpAnyH_ready (rs := [13]) (by kernel_rfl) (by simp) (AllReadyH.cons rfl (fun Kt hK => ?_) AllReadyH.nil)
                refine wanted_pos rfl ?_; refine wp_store_mid 25 _ _ rfl p7 0 (ab U 32).toArray rfl rfl (RowB.there h7 U) (inH _) (all_oneCell_toArray (ab_one _ _)) (hK.out _ _ trivial (fun _ => ?_)); obtain ⟨h7, h8, HB⟩ := stored2 (U := U) h7 h8 HB ne e7; generalize W.setCells p7 0 (ab U 32).toArray.toList = W at *; clear hK Kt
                refine wpAnyH_ready (rs := [14]) (by kernel_rfl) (by simp) (AllReadyH.cons rfl (fun Kt hK => ?_) AllReadyH.nil)
                refine wanted_pos rfl ?_; refine wp_store_mid 25 _ _ rfl p8 0 (ab U 32).toArray rfl rfl (RowB.there h8 U) (inH _) (all_oneCell_toArray (ab_one _ _)) (hK.out _ _ trivial (fun _ => ?_)); obtain ⟨h8, h7, HB⟩ := stored2 (U := U) h8 h7 HB (Ne.symm ne) e8; generalize W.setCells p8 0 (ab U 32).toArray.toList = W at *; clear hK Kt
                refine wpAnyH_done (by kernel_rfl) ?_ _
                refine NoPanic.normal ?_
                exact ⟨p1, p9, p7, p8, rfl, h7, h8, HB⟩
              · refine wanted_pos rfl ?_; refine wp_hash rfl (fun p8 W q8 h8 hb => hK.out _ _ trivial (fun _ => ?_)); have e8 := le_of_eq7 q8 HB; have ne : p7 ≠ p8 := (by have := h7.lt; omega); clear q8; have HB := K.call HB hb; have c9 := later hb c9; have d9 := later hb d9; have h7 := Row8.keep h7 hb; clear hK Kt; simp only [Act.put, List.getElem_toArray, List.getElem_cons_zero, List.getElem_cons_succ, List.setIfInBounds_toArray, List.set_cons_zero, List.set_cons_succ]
                refine wpAnyH_ready (rs := [10]) (by kernel_rfl) (by simp) (AllReadyH.cons rfl (fun Kt hK => ?_) AllReadyH.nil)
                refine wanted_pos rfl ?_; refine wp_sum rfl rfl (C2.out _ _ HB c9 d9) (fun W hb => hK.out _ _ trivial (fun _ => ?_)); have HB := K.call HB hb; have h7 := Row8.keep h7 hb; have h8 := Row8.keep h8 hb; clear hK Kt; simp only [Act.put, List.getElem_toArray, List.getElem_cons_zero, List.getElem_cons_succ, List.setIfInBounds_toArray, List.set_cons_zero, List.set_cons_succ]
                refine wpAnyH_ready (rs := [13]) (by kernel_rfl) (by simp) (AllReadyH.cons rfl (fun Kt hK => ?_) AllReadyH.nil)
                refine wanted_pos rfl ?_; refine wp_store_mid 25 _ _ rfl p7 0 (ab U 32).toArray rfl rfl (RowB.there h7 U) (inH _) (all_oneCell_toArray (ab_one _ _)) (hK.out _ _ trivial (fun _ => ?_)); obtain ⟨h7, h8, HB⟩ := stored2 (U := U) h7 h8 HB ne e7; generalize W.setCells p7 0 (ab U 32).toArray.toList = W at *; clear hK Kt
                refine wpAnyH_ready (rs := [14]) (by kernel_rfl) (by simp) (AllReadyH.cons rfl (fun Kt hK => ?_) AllReadyH.nil)
                refine wanted_pos rfl ?_; refine wp_store_mid 25 _ _ rfl p8 0 (ab U 32).toArray rfl rfl (RowB.there h8 U) (inH _) (all_oneCell_toArray (ab_one _ _)) (hK.out _ _ trivial (fun _ => ?_)); obtain ⟨h8, h7, HB⟩ := stored2 (U := U) h8 h7 HB (Ne.symm ne) e8; generalize W.setCells p8 0 (ab U 32).toArray.toList = W at *; clear hK Kt
                refine wpAnyH_done (by kernel_rfl) ?_ _
                refine NoPanic.normal ?_
                exact ⟨p1, p9, p7, p8, rfl, h7, h8, HB⟩
            · refine wanted_pos rfl ?_; refine wp_hash rfl (fun p8 W q8 h8 hb => hK.out _ _ trivial (fun _ => ?_)); have e8 := le_of_eq7 q8 HB; have ne : p7 ≠ p8 := (by have := h7.lt; omega); clear q8; have HB := K.call HB hb; have h7 := Row8.keep h7 hb; clear hK Kt; simp only [Act.put, List.getElem_toArray, List.getElem_cons_zero, List.getElem_cons_succ, List.setIfInBounds_toArray, List.set_cons_zero, List.set_cons_succ]
              refine wpAnyH_ready (rs := [9]) (by kernel_rfl) (by simp) (AllReadyH.cons rfl (fun Kt hK => ?_) AllReadyH.nil)
              refine wanted_pos rfl ?_; refine wp_two rfl rfl rfl (fun p9 W _ c9 d9 hb => hK.out _ _ trivial (fun _ => ?_)); have HB := K.call HB hb; have h7 := Row8.keep h7 hb; have h8 := Row8.keep h8 hb; clear hK Kt; simp only [Act.put, List.getElem_toArray, List.getElem_cons_zero, List.getElem_cons_succ, List.setIfInBounds_toArray, List.set_cons_zero, List.set_cons_succ]
              refine wpAnyH_ready (rs := [10]) (by kernel_rfl) (by simp) (AllReadyH.cons rfl (fun Kt hK => ?_) AllReadyH.nil)
              refine wanted_pos rfl ?_; refine wp_sum rfl rfl (C2.out _ _ HB c9 d9) (fun W hb => hK.out _ _ trivial (fun _ => ?_)); have HB := K.call HB hb; have h7 := Row8.keep h7 hb; have h8 := Row8.keep h8 hb; clear hK Kt; simp only [Act.put, List.getElem_toArray, List.getElem_cons_zero, List.getElem_cons_succ, List.setIfInBounds_toArray, List.set_cons_zero, List.set_cons_succ]
              refine wpAnyH_ready (rs := [13]) (by kernel_rfl) (by simp) (AllReadyH.cons rfl (fun Kt hK => ?_) AllReadyH.nil)
              refine wanted_pos rfl ?_; refine wp_store_mid 25 _ _ rfl p7 0 (ab U 32).toArray rfl rfl (RowB.there h7 U) (inH _) (all_oneCell_toArray (ab_one _ _)) (hK.out _ _ trivial (fun _ => ?_)); obtain ⟨h7, h8, HB⟩ := stored2 (U := U) h7 h8 HB ne e7; generalize W.setCells p7 0 (ab U 32).toArray.toList = W at *; clear hK Kt
              refine wpAnyH_ready (rs := [14]) (by kernel_rfl) (by simp) (AllReadyH.cons rfl (fun Kt hK => ?_) AllReadyH.nil)
              refine wanted_pos rfl ?_; refine wp_store_mid 25 _ _ rfl p8 0 (ab U 32).toArray rfl rfl (RowB.there h8 U) (inH _) (all_oneCell_toArray (ab_one _ _)) (hK.out _ _ trivial (fun _ => ?_)); obtain ⟨h8, h7, HB⟩ := stored2 (U := U) h8 h7 HB (Ne.symm ne) e8; generalize W.setCells p8 0 (ab U 32).toArray.toList = W at *; clear hK Kt
              refine wpAnyH_done (by kernel_rfl) ?_ _
              refine NoPanic.normal ?_
              exact ⟨p1, p9, p7, p8, rfl, h7, h8, HB⟩
          · refine wanted_pos rfl ?_; refine wp_two rfl rfl rfl (fun p9 W _ c9 d9 hb => hK.out _ _ trivial (fun _ => ?_)); have HB := K.call HB hb; have c1 := later hb c1; have h7 := Row8.keep h7 hb; clear hK Kt; simp only [Act.put, List.getElem_toArray, List.getElem_cons_zero, List.getElem_cons_succ, List.setIfInBounds_toArray, List.set_cons_zero, List.set_cons_succ]
            refine wpAnyH_ready (rs := [2, 12]) (by kernel_rfl) (by simp) (AllReadyH.cons rfl (fun Kt hK => ?_) (AllReadyH.cons rfl (fun Kt hK => ?_) AllReadyH.nil))
            · refine wanted_pos rfl ?_; refine wp_sum rfl rfl (C1.out _ _ HB c1) (fun W hb => hK.out _ _ trivial (fun _ => ?_)); have HB := K.call HB hb; have c9 := later hb c9; have d9 := later hb d9; have h7 := Row8.keep h7 hb; clear hK Kt; simp only [Act.put, List.getElem_toArray, List.getElem_cons_zero, List.getElem_cons_succ, List.setIfInBounds_toArray, List.set_cons_zero, List.set_cons_succ]
              refine wpAnyH_ready (rs := [10, 12]) (by kernel_rfl) (by simp) (AllReadyH.cons rfl (fun Kt hK => ?_) (AllReadyH.cons rfl (fun Kt hK => ?_) AllReadyH.nil))
              · refine wanted_pos rfl ?_; refine wp_sum rfl rfl (C2.out _ _ HB c9 d9) (fun W hb => hK.out _ _ trivial (fun _ => ?_)); have HB := K.call HB hb; have h7 := Row8.keep h7 hb; clear hK Kt; simp only [Act.put, List.getElem_toArray, List.getElem_cons_zero, List.getElem_cons_succ, List.setIfInBounds_toArray, List.set_cons_zero, List.set_cons_succ]
                refine wpAnyH_ready (rs := [12]) (by kernel_rfl) (by simp) (AllReadyH.cons rfl (fun Kt hK => ?_) AllReadyH.nil)
                refine wanted_pos rfl ?_; refine wp_hash rfl (fun p8 W q8 h8 hb => hK.out _ _ trivial (fun _ => ?_)); have e8 := le_of_eq7 q8 HB; have ne : p7 ≠ p8 := (by have := h7.lt; omega); clear q8; have HB := K.call HB hb; have h7 := Row8.keep h7 hb; clear hK Kt; simp only [Act.put, List.getElem_toArray, List.getElem_cons_zero, List.getElem_cons_succ, List.setIfInBounds_toArray, List.set_cons_zero, List.set_cons_succ]
                refine wpAnyH_ready (rs := [13]) (by kernel_rfl) (by simp) (AllReadyH.cons rfl (fun Kt hK => ?_) AllReadyH.nil)
                refine wanted_pos rfl ?_; refine wp_store_mid 25 _ _ rfl p7 0 (ab U 32).toArray rfl rfl (RowB.there h7 U) (inH _) (all_oneCell_toArray (ab_one _ _)) (hK.out _ _ trivial (fun _ => ?_)); obtain ⟨h7, h8, HB⟩ := stored2 (U := U) h7 h8 HB ne e7; generalize W.setCells p7 0 (ab U 32).toArray.toList = W at *; clear hK Kt
                refine wpAnyH_ready (rs := [14]) (by kernel_rfl) (by simp) (AllReadyH.cons rfl (fun Kt hK => ?_) AllReadyH.nil)
                refine wanted_pos rfl ?_; refine wp_store_mid 25 _ _ rfl p8 0 (ab U 32).toArray rfl rfl (RowB.there h8 U) (inH _) (all_oneCell_toArray (ab_one _ _)) (hK.out _ _ trivial (fun _ => ?_)); obtain ⟨h8, h7, HB⟩ := stored2 (U := U) h8 h7 HB (Ne.symm ne) e8; generalize W.setCells p8 0 (ab U 32).toArray.toList = W at *; clear hK Kt
                refine wpAnyH_done (by kernel_rfl) ?_ _
                refine NoPanic.normal ?_
                exact ⟨p1, p9, p7, p8, rfl, h7, h8, HB⟩
              · refine wanted_pos rfl ?_; refine wp_hash rfl (fun p8 W q8 h8 hb => hK.out _ _ trivial (fun _ => ?_)); have e8 := le_of_eq7 q8 HB; have ne : p7 ≠ p8 := (by have := h7.lt; omega); clear q8; have HB := K.call HB hb; have c9 := later hb c9; have d9 := later hb d9; have h7 := Row8.keep h7 hb; clear hK Kt; simp only [Act.put, List.getElem_toArray, List.getElem_cons_zero, List.getElem_cons_succ, List.setIfInBounds_toArray, List.set_cons_zero, List.set_cons_succ]
                refine wpAnyH_ready (rs := [10]) (by kernel_rfl) (by simp) (AllReadyH.cons rfl (fun Kt hK => ?_) AllReadyH.nil)
                refine wanted_pos rfl ?_; refine wp_sum rfl rfl (C2.out _ _ HB c9 d9) (fun W hb => hK.out _ _ trivial (fun _ => ?_)); have HB := K.call HB hb; have h7 := Row8.keep h7 hb; have h8 := Row8.keep h8 hb; clear hK Kt; simp only [Act.put, List.getElem_toArray, List.getElem_cons_zero, List.getElem_cons_succ, List.setIfInBounds_toArray, List.set_cons_zero, List.set_cons_succ]
                refine wpAnyH_ready (rs := [13]) (by kernel_rfl) (by simp) (AllReadyH.cons rfl (fun Kt hK => ?_) AllReadyH.nil)
                refine wanted_pos rfl ?_; refine wp_store_mid 25 _ _ rfl p7 0 (ab U 32).toArray rfl rfl (RowB.there h7 U) (inH _) (all_oneCell_toArray (ab_one _ _)) (hK.out _ _ trivial (fun _ => ?_)); obtain ⟨h7, h8, HB⟩ := stored2 (U := U) h7 h8 HB ne e7; generalize W.setCells p7 0 (ab U 32).toArray.toList = W at *; clear hK Kt
                refine wpAnyH_ready (rs := [14]) (by kernel_rfl) (by simp) (AllReadyH.cons rfl (fun Kt hK => ?_) AllReadyH.nil)
                refine wanted_pos rfl ?_; refine wp_store_mid 25 _ _ rfl p8 0 (ab U 32).toArray rfl rfl (RowB.there h8 U) (inH _) (all_oneCell_toArray (ab_one _ _)) (hK.out _ _ trivial (fun _ => ?_)); obtain ⟨h8, h7, HB⟩ := stored2 (U := U) h8 h7 HB (Ne.symm ne) e8; generalize W.setCells p8 0 (ab U 32).toArray.toList = W at *; clear hK Kt
                refine wpAnyH_done (by kernel_rfl) ?_ _
                refine NoPanic.normal ?_
                exact ⟨p1, p9, p7, p8, rfl, h7, h8, HB⟩
            · refine wanted_pos rfl ?_; refine wp_hash rfl (fun p8 W q8 h8 hb => hK.out _ _ trivial (fun _ => ?_)); have e8 := le_of_eq7 q8 HB; have ne : p7 ≠ p8 := (by have := h7.lt; omega); clear q8; have HB := K.call HB hb; have c1 := later hb c1; have c9 := later hb c9; have d9 := later hb d9; have h7 := Row8.keep h7 hb; clear hK Kt; simp only [Act.put, List.getElem_toArray, List.getElem_cons_zero, List.getElem_cons_succ, List.setIfInBounds_toArray, List.set_cons_zero, List.set_cons_succ]
              refine wpAnyH_ready (rs := [2]) (by kernel_rfl) (by simp) (AllReadyH.cons rfl (fun Kt hK => ?_) AllReadyH.nil)
              refine wanted_pos rfl ?_; refine wp_sum rfl rfl (C1.out _ _ HB c1) (fun W hb => hK.out _ _ trivial (fun _ => ?_)); have HB := K.call HB hb; have c9 := later hb c9; have d9 := later hb d9; have h7 := Row8.keep h7 hb; have h8 := Row8.keep h8 hb; clear hK Kt; simp only [Act.put, List.getElem_toArray, List.getElem_cons_zero, List.getElem_cons_succ, List.setIfInBounds_toArray, List.set_cons_zero, List.set_cons_succ]
              refine wpAnyH_ready (rs := [10]) (by kernel_rfl) (by simp) (AllReadyH.cons rfl (fun Kt hK => ?_) AllReadyH.nil)
              refine wanted_pos rfl ?_; refine wp_sum rfl rfl (C2.out _ _ HB c9 d9) (fun W hb => hK.out _ _ trivial (fun _ => ?_)); have HB := K.call HB hb; have h7 := Row8.keep h7 hb; have h8 := Row8.keep h8 hb; clear hK Kt; simp only [Act.put, List.getElem_toArray, List.getElem_cons_zero, List.getElem_cons_succ, List.setIfInBounds_toArray, List.set_cons_zero, List.set_cons_succ]
              refine wpAnyH_ready (rs := [13]) (by kernel_rfl) (by simp) (AllReadyH.cons rfl (fun Kt hK => ?_) AllReadyH.nil)
              refine wanted_pos rfl ?_; refine wp_store_mid 25 _ _ rfl p7 0 (ab U 32).toArray rfl rfl (RowB.there h7 U) (inH _) (all_oneCell_toArray (ab_one _ _)) (hK.out _ _ trivial (fun _ => ?_)); obtain ⟨h7, h8, HB⟩ := stored2 (U := U) h7 h8 HB ne e7; generalize W.setCells p7 0 (ab U 32).toArray.toList = W at *; clear hK Kt
              refine wpAnyH_ready (rs := [14]) (by kernel_rfl) (by simp) (AllReadyH.cons rfl (fun Kt hK => ?_) AllReadyH.nil)
              refine wanted_pos rfl ?_; refine wp_store_mid 25 _ _ rfl p8 0 (ab U 32).toArray rfl rfl (RowB.there h8 U) (inH _) (all_oneCell_toArray (ab_one _ _)) (hK.out _ _ trivial (fun _ => ?_)); obtain ⟨h8, h7, HB⟩ := stored2 (U := U) h8 h7 HB (Ne.symm ne) e8; generalize W.setCells p8 0 (ab U 32).toArray.toList = W at *; clear hK Kt
              refine wpAnyH_done (by kernel_rfl) ?_ _
              refine NoPanic.normal ?_
              exact ⟨p1, p9, p7, p8, rfl, h7, h8, HB⟩
          · refine wanted_pos rfl ?_; refine wp_hash rfl (fun p8 W q8 h8 hb => hK.out _ _ trivial (fun _ => ?_)); have e8 := le_of_eq7 q8 HB; have ne : p7 ≠ p8 := (by have := h7.lt; omega); clear q8; have HB := K.call HB hb; have c1 := later hb c1; have h7 := Row8.keep h7 hb; clear hK Kt; simp only [Act.put, List.getElem_toArray, List.getElem_cons_zero, List.getElem_cons_succ, List.setIfInBounds_toArray, List.set_cons_zero, List.set_cons_succ]
            refine wpAnyH_ready (rs := [2, 9]) (by kernel_rfl) (by simp) (AllReadyH.cons rfl (fun Kt hK => ?_) (AllReadyH.cons rfl (fun Kt hK => ?_) AllReadyH.nil))
            · refine wanted_pos rfl ?_; refine wp_sum rfl rfl (C1.out _ _ HB c1) (fun W hb => hK.out _ _ trivial (fun _ => ?_)); have HB := K.call HB hb; have h7 := Row8.keep h7 hb; have h8 := Row8.keep h8 hb; clear hK Kt; simp only [Act.put, List.getElem_toArray, List.getElem_cons_zero, List.getElem_cons_succ, List.setIfInBounds_toArray, List.set_cons_zero, List.set_cons_succ]
              refine wpAnyH_ready (rs := [9]) (by kernel_rfl) (by simp) (AllReadyH.cons rfl (fun Kt hK => ?_) AllReadyH.nil)
              refine wanted_pos rfl ?_; refine wp_two rfl rfl rfl (fun p9 W _ c9 d9 hb => hK.out _ _ trivial (fun _ => ?_)); have HB := K.call HB hb; have h7 := Row8.keep h7 hb; have h8 := Row8.keep h8 hb; clear hK Kt; simp only [Act.put, List.getElem_toArray, List.getElem_cons_zero, List.getElem_cons_succ, List.setIfInBounds_toArray, List.set_cons_zero, List.set_cons_succ]
              refine wpAnyH_ready (rs := [10]) (by kernel_rfl) (by simp) (AllReadyH.cons rfl (fun Kt hK => ?_) AllReadyH.nil)
              refine wanted_pos rfl ?_; refine wp_sum rfl rfl (C2.out _ _ HB c9 d9) (fun W hb => hK.out _ _ trivial (fun _ => ?_)); have HB := K.call HB hb; have h7 := Row8.keep h7 hb; have h8 := Row8.keep h8 hb; clear hK Kt; simp only [Act.put, List.getElem_toArray, List.getElem_cons_zero, List.getElem_cons_succ, List.setIfInBounds_toArray, List.set_cons_zero, List.set_cons_succ]
              refine wpAnyH_ready (rs := [13]) (by kernel_rfl) (by simp) (AllReadyH.cons rfl (fun Kt hK => ?_) AllReadyH.nil)
              refine wanted_pos rfl ?_; refine wp_store_mid 25 _ _ rfl p7 0 (ab U 32).toArray rfl rfl (RowB.there h7 U) (inH _) (all_oneCell_toArray (ab_one _ _)) (hK.out _ _ trivial (fun _ => ?_)); obtain ⟨h7, h8, HB⟩ := stored2 (U := U) h7 h8 HB ne e7; generalize W.setCells p7 0 (ab U 32).toArray.toList = W at *; clear hK Kt
              refine wpAnyH_ready (rs := [14]) (by kernel_rfl) (by simp) (AllReadyH.cons rfl (fun Kt hK => ?_) AllReadyH.nil)
              refine wanted_pos rfl ?_; refine wp_store_mid 25 _ _ rfl p8 0 (ab U 32).toArray rfl rfl (RowB.there h8 U) (inH _) (all_oneCell_toArray (ab_one _ _)) (hK.out _ _ trivial (fun _ => ?_)); obtain ⟨h8, h7, HB⟩ := stored2 (U := U) h8 h7 HB (Ne.symm ne) e8; generalize W.setCells p8 0 (ab U 32).toArray.toList = W at *; clear hK Kt
              refine wpAnyH_done (by kernel_rfl) ?_ _
              refine NoPanic.normal ?_
              exact ⟨p1, p9, p7, p8, rfl, h7, h8, HB⟩
            · refine wanted_pos rfl ?_; refine wp_two rfl rfl rfl (fun p9 W _ c9 d9 hb => hK.out _ _ trivial (fun _ => ?_)); have HB := K.call HB hb; have c1 := later hb c1; have h7 := Row8.keep h7 hb; have h8 := Row8.keep h8 hb; clear hK Kt; simp only [Act.put, List.getElem_toArray, List.getElem_cons_zero, List.getElem_cons_succ, List.setIfInBounds_toArray, List.set_cons_zero, List.set_cons_succ]
              refine wpAnyH_ready (rs := [2]) (by kernel_rfl) (by simp) (AllReadyH.cons rfl (fun Kt hK => ?_) AllReadyH.nil)
              refine wanted_pos rfl ?_; refine wp_sum rfl rfl (C1.out _ _ HB c1) (fun W hb => hK.out _ _ trivial (fun _ => ?_)); have HB := K.call HB hb; have c9 := later hb c9; have d9 := later hb d9; have h7 := Row8.keep h7 hb; have h8 := Row8.keep h8 hb; clear hK Kt; simp only [Act.put, List.getElem_toArray, List.getElem_cons_zero, List.getElem_cons_succ, List.setIfInBounds_toArray, List.set_cons_zero, List.set_cons_succ]
              refine wpAnyH_ready (rs := [10]) (by kernel_rfl) (by simp) (AllReadyH.cons rfl (fun Kt hK => ?_) AllReadyH.nil)
              refine wanted_pos rfl ?_; refine wp_sum rfl rfl (C2.out _ _ HB c9 d9) (fun W hb => hK.out _ _ trivial (fun _ => ?_)); have HB := K.call HB hb; have h7 := Row8.keep h7 hb; have h8 := Row8.keep h8 hb; clear hK Kt; simp only [Act.put, List.getElem_toArray, List.getElem_cons_zero, List.getElem_cons_succ, List.setIfInBounds_toArray, List.set_cons_zero, List.set_cons_succ]
              refine wpAnyH_ready (rs := [13]) (by kernel_rfl) (by simp) (AllReadyH.cons rfl (fun Kt hK => ?_) AllReadyH.nil)
              refine wanted_pos rfl ?_; refine wp_store_mid 25 _ _ rfl p7 0 (ab U 32).toArray rfl rfl (RowB.there h7 U) (inH _) (all_oneCell_toArray (ab_one _ _)) (hK.out _ _ trivial (fun _ => ?_)); obtain ⟨h7, h8, HB⟩ := stored2 (U := U) h7 h8 HB ne e7; generalize W.setCells p7 0 (ab U 32).toArray.toList = W at *; clear hK Kt
              refine wpAnyH_ready (rs := [14]) (by kernel_rfl) (by simp) (AllReadyH.cons rfl (fun Kt hK => ?_) AllReadyH.nil)
              refine wanted_pos rfl ?_; refine wp_store_mid 25 _ _ rfl p8 0 (ab U 32).toArray rfl rfl (RowB.there h8 U) (inH _) (all_oneCell_toArray (ab_one _ _)) (hK.out _ _ trivial (fun _ => ?_)); obtain ⟨h8, h7, HB⟩ := stored2 (U := U) h8 h7 HB (Ne.symm ne) e8; generalize W.setCells p8 0 (ab U 32).toArray.toList = W at *; clear hK Kt
              refine wpAnyH_done (by kernel_rfl) ?_ _
              refine NoPanic.normal ?_
              exact ⟨p1, p9, p7, p8, rfl, h7, h8, HB⟩
        · refine wanted_pos rfl ?_; refine wp_two rfl rfl rfl (fun p9 W _ c9 d9 hb => hK.out _ _ trivial (fun _ => ?_)); have HB := K.call HB hb; have h7 := Row8.keep h7 hb; clear hK Kt; simp only [Act.put, List.getElem_toArray, List.getElem_cons_zero, List.getElem_cons_succ, List.setIfInBounds_toArray, List.set_cons_zero, List.set_cons_succ]
          refine wpAnyH_ready (rs := [1, 12]) (by kernel_rfl) (by simp) (AllReadyH.cons rfl (fun Kt hK => ?_) (AllReadyH.cons rfl (fun Kt hK => ?_) AllReadyH.nil))
          · refine wanted_pos rfl ?_; refine wp_one rfl rfl (fun p1 W _ c1 hb => hK.out _ _ trivial (fun _ => ?_)); have HB := K.call HB hb; have c9 := later hb c9; have d9 := later hb d9; have h7 := Row8.keep h7 hb; clear hK Kt; simp only [Act.put, List.getElem_toArray, List.getElem_cons_zero, List.getElem_cons_succ, List.setIfInBounds_toArray, List.set_cons_zero, List.set_cons_succ]
            refine wpAnyH_ready (rs := [2, 12]) (by kernel_rfl) (by simp) (AllReadyH.cons rfl (fun Kt hK => ?_) (AllReadyH.cons rfl (fun Kt hK => ?_) AllReadyH.nil))
            · refine wanted_pos rfl ?_; refine wp_sum rfl rfl (C1.out _ _ HB c1) (fun W hb => hK.out _ _ trivial (fun _ => ?_)); have HB := K.call HB hb; have c9 := later hb c9; have d9 := later hb d9; have h7 := Row8.keep h7 hb; clear hK Kt; simp only [Act.put, List.getElem_toArray, List.getElem_cons_zero, List.getElem_cons_succ, List.setIfInBounds_toArray, List.set_cons_zero, List.set_cons_succ]
              refine wpAnyH_ready (rs := [10, 12]) (by kernel_rfl) (by simp) (AllReadyH.cons rfl (fun Kt hK => ?_) (AllReadyH.cons rfl (fun Kt hK => ?_) AllReadyH.nil))
              · refine wanted_pos rfl ?_; refine wp_sum rfl rfl (C2.out _ _ HB c9 d9) (fun W hb => hK.out _ _ trivial (fun _ => ?_)); have HB := K.call HB hb; have h7 := Row8.keep h7 hb; clear hK Kt; simp only [Act.put, List.getElem_toArray, List.getElem_cons_zero, List.getElem_cons_succ, List.setIfInBounds_toArray, List.set_cons_zero, List.set_cons_succ]
                refine wpAnyH_ready (rs := [12]) (by kernel_rfl) (by simp) (AllReadyH.cons rfl (fun Kt hK => ?_) AllReadyH.nil)
                refine wanted_pos rfl ?_; refine wp_hash rfl (fun p8 W q8 h8 hb => hK.out _ _ trivial (fun _ => ?_)); have e8 := le_of_eq7 q8 HB; have ne : p7 ≠ p8 := (by have := h7.lt; omega); clear q8; have HB := K.call HB hb; have h7 := Row8.keep h7 hb; clear hK Kt; simp only [Act.put, List.getElem_toArray, List.getElem_cons_zero, List.getElem_cons_succ, List.setIfInBounds_toArray, List.set_cons_zero, List.set_cons_succ]
                refine wpAnyH_ready (rs := [13]) (by kernel_rfl) (by simp) (AllReadyH.cons rfl (fun Kt hK => ?_) AllReadyH.nil)
                refine wanted_pos rfl ?_; refine wp_store_mid 25 _ _ rfl p7 0 (ab U 32).toArray rfl rfl (RowB.there h7 U) (inH _) (all_oneCell_toArray (ab_one _ _)) (hK.out _ _ trivial (fun _ => ?_)); obtain ⟨h7, h8, HB⟩ := stored2 (U := U) h7 h8 HB ne e7; generalize W.setCells p7 0 (ab U 32).toArray.toList = W at *; clear hK Kt
                refine wpAnyH_ready (rs := [14]) (by kernel_rfl) (by simp) (AllReadyH.cons rfl (fun Kt hK => ?_) AllReadyH.nil)
                refine wanted_pos rfl ?_; refine wp_store_mid 25 _ _ rfl p8 0 (ab U 32).toArray rfl rfl (RowB.there h8 U) (inH _) (all_oneCell_toArray (ab_one _ _)) (hK.out _ _ trivial (fun _ => ?_)); obtain ⟨h8, h7, HB⟩ := stored2 (U := U) h8 h7 HB (Ne.symm ne) e8; generalize W.setCells p8 0 (ab U 32).toArray.toList = W at *; clear hK Kt
                refine wpAnyH_done (by kernel_rfl) ?_ _
                refine NoPanic.normal ?_
                exact ⟨p1, p9, p7, p8, rfl, h7, h8, HB⟩
              · refine wanted_pos rfl ?_; refine wp_hash rfl (fun p8 W q8 h8 hb => hK.out _ _ trivial (fun _ => ?_)); have e8 := le_of_eq7 q8 HB; have ne : p7 ≠ p8 := (by have := h7.lt; omega); clear q8; have HB := K.call HB hb; have c9 := later hb c9; have d9 := later hb d9; have h7 := Row8.keep h7 hb; clear hK Kt; simp only [Act.put, List.getElem_toArray, List.getElem_cons_zero, List.getElem_cons_succ, List.setIfInBounds_toArray, List.set_cons_zero, List.set_cons_succ]
                refine wpAnyH_ready (rs := [10]) (by kernel_rfl) (by simp) (AllReadyH.cons rfl (fun Kt hK => ?_) AllReadyH.nil)
                refine wanted_pos rfl ?_; refine wp_sum rfl rfl (C2.out _ _ HB c9 d9) (fun W hb => hK.out _ _ trivial (fun _ => ?_)); have HB := K.call HB hb; have h7 := Row8.keep h7 hb; have h8 := Row8.keep h8 hb; clear hK Kt; simp only [Act.put, List.getElem_toArray, List.getElem_cons_zero, List.getElem_cons_succ, List.setIfInBounds_toArray, List.set_cons_zero, List.set_cons_succ]
                refine wpAnyH_ready (rs := [13]) (by kernel_rfl) (by simp) (AllReadyH.cons rfl (fun Kt hK => ?_) AllReadyH.nil)
                refine wanted_pos rfl ?_; refine wp_store_mid 25 _ _ rfl p7 0 (ab U 32).toArray rfl rfl (RowB.there h7 U) (inH _) (all_oneCell_toArray (ab_one _ _)) (hK.out _ _ trivial (fun _ => ?_)); obtain ⟨h7, h8, HB⟩ := stored2 (U := U) h7 h8 HB ne e7; generalize W.setCells p7 0 (ab U 32).toArray.toList = W at *; clear hK Kt
                refine wpAnyH_ready (rs := [14]) (by kernel_rfl) (by simp) (AllReadyH.cons rfl (fun Kt hK => ?_) AllReadyH.nil)
                refine wanted_pos rfl ?_; refine wp_store_mid 25 _ _ rfl p8 0 (ab U 32).toArray rfl rfl (RowB.there h8 U) (inH _) (all_oneCell_toArray (ab_one _ _)) (hK.out _ _ trivial (fun _ => ?_)); obtain ⟨h8, h7, HB⟩ := stored2 (U := U) h8 h7 HB (Ne.symm ne) e8; generalize W.setCells p8 0 (ab U 32).toArray.toList = W at *; clear hK Kt
                refine wpAnyH_done (by kernel_rfl) ?_ _
                refine NoPanic.normal ?_
                exact ⟨p1, p9, p7, p8, rfl, h7, h8, HB⟩
            · refine wanted_pos rfl ?_; refine wp_hash rfl (fun p8 W q8 h8 hb => hK.out _ _ trivial (fun _ => ?_)); have e8 := le_of_eq7 q8 HB; have ne : p7 ≠ p8 := (by have := h7.lt; omega); clear q8; have HB := K.call HB hb; have c1 := later hb c1; have c9 := later hb c9; have d9 := later hb d9; have h7 := Row8.keep h7 hb; clear hK Kt; simp only [Act.put, List.getElem_toArray, List.getElem_cons_zero, List.getElem_cons_succ, List.setIfInBounds_toArray, List.set_cons_zero, List.set_cons_succ]
              refine wpAnyH_ready (rs := [2]) (by kernel_rfl) (by simp) (AllReadyH.cons rfl (fun Kt hK => ?_) AllReadyH.nil)
              refine wanted_pos rfl ?_; refine wp_sum rfl rfl (C1.out _ _ HB c1) (fun W hb => hK.out _ _ trivial (fun _ => ?_)); have HB := K.call HB hb; have c9 := later hb c9; have d9 := later hb d9; have h7 := Row8.keep h7 hb; have h8 := Row8.keep h8 hb; clear hK Kt; simp only [Act.put, List.getElem_toArray, List.getElem_cons_zero, List.getElem_cons_succ, List.setIfInBounds_toArray, List.set_cons_zero, List.set_cons_succ]
              refine wpAnyH_ready (rs := [10]) (by kernel_rfl) (by simp) (AllReadyH.cons rfl (fun Kt hK => ?_) AllReadyH.nil)
              refine wanted_pos rfl ?_; refine wp_sum rfl rfl (C2.out _ _ HB c9 d9) (fun W hb => hK.out _ _ trivial (fun _ => ?_)); have HB := K.call HB hb; have h7 := Row8.keep h7 hb; have h8 := Row8.keep h8 hb; clear hK Kt; simp only [Act.put, List.getElem_toArray, List.getElem_cons_zero, List.getElem_cons_succ, List.setIfInBounds_toArray, List.set_cons_zero, List.set_cons_succ]
              refine wpAnyH_ready (rs := [13]) (by kernel_rfl) (by simp) (AllReadyH.cons rfl (fun Kt hK => ?_) AllReadyH.nil)
              refine wanted_pos rfl ?_; refine wp_store_mid 25 _ _ rfl p7 0 (ab U 32).toArray rfl rfl (RowB.there h7 U) (inH _) (all_oneCell_toArray (ab_one _ _)) (hK.out _ _ trivial (fun _ => ?_)); obtain ⟨h7, h8, HB⟩ := stored2 (U := U) h7 h8 HB ne e7; generalize W.setCells p7 0 (ab U 32).toArray.toList = W at *; clear hK Kt
              refine wpAnyH_ready (rs := [14]) (by kernel_rfl) (by simp) (AllReadyH.cons rfl (fun Kt hK => ?_) AllReadyH.nil)
              refine wanted_pos rfl ?_; refine wp_store_mid 25 _ _ rfl p8 0 (ab U 32).toArray rfl rfl (RowB.there h8 U) (inH _) (all_oneCell_toArray (ab_one _ _)) (hK.out _ _ trivial (fun _ => ?_)); obtain ⟨h8, h7, HB⟩ := stored2 (U := U) h8 h7 HB (Ne.symm ne) e8; generalize W.setCells p8 0 (ab U 32).toArray.toList = W at *; clear hK Kt
              refine wpAnyH_done (by kernel_rfl) ?_ _
              refine NoPanic.normal ?_
              exact ⟨p1, p9, p7, p8, rfl, h7, h8, HB⟩
          · refine wanted_pos rfl ?_; refine wp_hash rfl (fun p8 W q8 h8 hb => hK.out _ _ trivial (fun _ => ?_)); have e8 := le_of_eq7 q8 HB; have ne : p7 ≠ p8 := (by have := h7.lt; omega); clear q8; have HB := K.call HB hb; have c9 := later hb c9; have d9 := later hb d9; have h7 := Row8.keep h7 hb; clear hK Kt; simp only [Act.put, List.getElem_toArray, List.getElem_cons_zero, List.getElem_cons_succ, List.setIfInBounds_toArray, List.set_cons_zero, List.set_cons_succ]
            refine wpAnyH_ready (rs := [1]) (by kernel_rfl) (by simp) (AllReadyH.cons rfl (fun Kt hK => ?_) AllReadyH.nil)
            refine wanted_pos rfl ?_; refine wp_one rfl rfl (fun p1 W _ c1 hb => hK.out _ _ trivial (fun _ => ?_)); have HB := K.call HB hb; have c9 := later hb c9; have d9 := later hb d9; have h7 := Row8.keep h7 hb; have h8 := Row8.keep h8 hb; clear hK Kt; simp only [Act.put, List.getElem_toArray, List.getElem_cons_zero, List.getElem_cons_succ, List.setIfInBounds_toArray, List.set_cons_zero, List.set_cons_succ]
            refine wpAnyH_ready (rs := [2]) (by kernel_rfl) (by simp) (AllReadyH.cons rfl (fun Kt hK => ?_) AllReadyH.nil)
            refine wanted_pos rfl ?_; refine wp_sum rfl rfl (C1.out _ _ HB c1) (fun W hb => hK.out _ _ trivial (fun _ => ?_)); have HB := K.call HB hb; have c9 := later hb c9; have d9 := later hb d9; have h7 := Row8.keep h7 hb; have h8 := Row8.keep h8 hb; clear hK Kt; simp only [Act.put, List.getElem_toArray, List.getElem_cons_zero, List.getElem_cons_succ, List.setIfInBounds_toArray, List.set_cons_zero, List.set_cons_succ]
            refine wpAnyH_ready (rs := [10]) (by kernel_rfl) (by simp) (AllReadyH.cons rfl (fun Kt hK => ?_) AllReadyH.nil)
            refine wanted_pos rfl ?_; refine wp_sum rfl rfl (C2.out _ _ HB c9 d9) (fun W hb => hK.out _ _ trivial (fun _ => ?_)); have HB := K.call HB hb; have h7 := Row8.keep h7 hb; have h8 := Row8.keep h8 hb; clear hK Kt; simp only [Act.put, List.getElem_toArray, List.getElem_cons_zero, List.getElem_cons_succ, List.setIfInBounds_toArray, List.set_cons_zero, List.set_cons_succ]
            refine wpAnyH_ready (rs := [13]) (by kernel_rfl) (by simp) (AllReadyH.cons rfl (fun Kt hK => ?_) AllReadyH.nil)
            refine wanted_pos rfl ?_; refine wp_store_mid 25 _ _ rfl p7 0 (ab U 32).toArray rfl rfl (RowB.there h7 U) (inH _) (all_oneCell_toArray (ab_one _ _)) (hK.out _ _ trivial (fun _ => ?_)); obtain ⟨h7, h8, HB⟩ := stored2 (U := U) h7 h8 HB ne e7; generalize W.setCells p7 0 (ab U 32).toArray.toList = W at *; clear hK Kt
            refine wpAnyH_ready (rs := [14]) (by kernel_rfl) (by simp) (AllReadyH.cons rfl (fun Kt hK => ?_) AllReadyH.nil)
            refine wanted_pos rfl ?_; refine wp_store_mid 25 _ _ rfl p8 0 (ab U 32).toArray rfl rfl (RowB.there h8 U) (inH _) (all_oneCell_toArray (ab_one _ _)) (hK.out _ _ trivial (fun _ => ?_)); obtain ⟨h8, h7, HB⟩ := stored2 (U := U) h8 h7 HB (Ne.symm ne) e8; generalize W.setCells p8 0 (ab U 32).toArray.toList = W at *; clear hK Kt
            refine wpAnyH_done (by kernel_rfl) ?_ _
            refine NoPanic.normal ?_
            exact ⟨p1, p9, p7, p8, rfl, h7, h8, HB⟩
        · refine wanted_pos rfl ?_; refine wp_hash rfl (fun p8 W q8 h8 hb => hK.out _ _ trivial (fun _ => ?_)); have e8 := le_of_eq7 q8 HB; have ne : p7 ≠ p8 := (by have := h7.lt; omega); clear q8; have HB := K.call HB hb; have h7 := Row8.keep h7 hb; clear hK Kt; simp only [Act.put, List.getElem_toArray, List.getElem_cons_zero, List.getElem_cons_succ, List.setIfInBounds_toArray, List.set_cons_zero, List.set_cons_succ]
          refine wpAnyH_ready (rs := [1, 9]) (by kernel_rfl) (by simp) (AllReadyH.cons rfl (fun Kt hK => ?_) (AllReadyH.cons rfl (fun Kt hK => ?_) AllReadyH.nil))
          · refine wanted_pos rfl ?_; refine wp_one rfl rfl (fun p1 W _ c1 hb => hK.out _ _ trivial (fun _ => ?_)); have HB := K.call HB hb; have h7 := Row8.keep h7 hb; have h8 := Row8.keep h8 hb; clear hK Kt; simp only [Act.put, List.getElem_toArray, List.getElem_cons_zero, List.getElem_cons_succ, List.setIfInBounds_toArray, List.set_cons_zero, List.set_cons_succ]
            refine wpAnyH_ready (rs := [2, 9]) (by kernel_rfl) (by simp) (AllReadyH.cons rfl (fun Kt hK => ?_) (AllReadyH.cons rfl (fun Kt hK => ?_) AllReadyH.nil))
            · refine wanted_pos rfl ?_; refine wp_sum rfl rfl (C1.out _ _ HB c1) (fun W hb => hK.out _ _ trivial (fun _ => ?_)); have HB := K.call HB hb; have h7 := Row8.keep h7 hb; have h8 := Row8.keep h8 hb; clear hK Kt; simp only [Act.put, List.getElem_toArray, List.getElem_cons_zero, List.getElem_cons_succ, List.setIfInBounds_toArray, List.set_cons_zero, List.set_cons_succ]
              refine wpAnyH_ready (rs := [9]) (by kernel_rfl) (by simp) (AllReadyH.cons rfl (fun Kt hK => ?_) AllReadyH.nil)
              refine wanted_pos rfl ?_; refine wp_two rfl rfl rfl (fun p9 W _ c9 d9 hb => hK.out _ _ trivial (fun _ => ?_)); have HB := K.call HB hb; have h7 := Row8.keep h7 hb; have h8 := Row8.keep h8 hb; clear hK Kt; simp only [Act.put, List.getElem_toArray, List.getElem_cons_zero, List.getElem_cons_succ, List.setIfInBounds_toArray, List.set_cons_zero, List.set_cons_succ]
              refine wpAnyH_ready (rs := [10]) (by kernel_rfl) (by simp) (AllReadyH.cons rfl (fun Kt hK => ?_) AllReadyH.nil)
              refine wanted_pos rfl ?_; refine wp_sum rfl rfl (C2.out _ _ HB c9 d9) (fun W hb => hK.out _ _ trivial (fun _ => ?_)); have HB := K.call HB hb; have h7 := Row8.keep h7 hb; have h8 := Row8.keep h8 hb; clear hK Kt; simp only [Act.put, List.getElem_toArray, List.getElem_cons_zero, List.getElem_cons_succ, List.setIfInBounds_toArray, List.set_cons_zero, List.set_cons_succ]
              refine wpAnyH_ready (rs := [13]) (by kernel_rfl) (by simp) (AllReadyH.cons rfl (fun Kt hK => ?_) AllReadyH.nil)
              refine wanted_pos rfl ?_; refine wp_store_mid 25 _ _ rfl p7 0 (ab U 32).toArray rfl rfl (RowB.there h7 U) (inH _) (all_oneCell_toArray (ab_one _ _)) (hK.out _ _ trivial (fun _ => ?_)); obtain ⟨h7, h8, HB⟩ := stored2 (U := U) h7 h8 HB ne e7; generalize W.setCells p7 0 (ab U 32).toArray.toList = W at *; clear hK Kt
              refine wpAnyH_ready (rs := [14]) (by kernel_rfl) (by simp) (AllReadyH.cons rfl (fun Kt hK => ?_) AllReadyH.nil)
              refine wanted_pos rfl ?_; refine wp_store_mid 25 _ _ rfl p8 0 (ab U 32).toArray rfl rfl (RowB.there h8 U) (inH _) (all_oneCell_toArray (ab_one _ _)) (hK.out _ _ trivial (fun _ => ?_)); obtain ⟨h8, h7, HB⟩ := stored2 (U := U) h8 h7 HB (Ne.symm ne) e8; generalize W.setCells p8 0 (ab U 32).toArray.toList = W at *; clear hK Kt
              refine wpAnyH_done (by kernel_rfl) ?_ _
              refine NoPanic.normal ?_
              exact ⟨p1, p9, p7, p8, rfl, h7, h8, HB⟩
            · refine wanted_pos rfl ?_; refine wp_two rfl rfl rfl (fun p9 W _ c9 d9 hb => hK.out _ _ trivial (fun _ => ?_)); have HB := K.call HB hb; have c1 := later hb c1; have h7 := Row8.keep h7 hb; have h8 := Row8.keep h8 hb; clear hK Kt; simp only [Act.put, List.getElem_toArray, List.getElem_cons_zero, List.getElem_cons_succ, List.setIfInBounds_toArray, List.set_cons_zero, List.set_cons_succ]
              refine wpAnyH_ready (rs := [2]) (by kernel_rfl) (by simp) (AllReadyH.cons rfl (fun Kt hK => ?_) AllReadyH.nil)
              refine wanted_pos rfl ?_; refine wp_sum rfl rfl (C1.out _ _ HB c1) (fun W hb => hK.out _ _ trivial (fun _ => ?_)); have HB := K.call HB hb; have c9 := later hb c9; have d9 := later hb d9; have h7 := Row8.keep h7 hb; have h8 := Row8.keep h8 hb; clear hK Kt; simp only [Act.put, List.getElem_toArray, List.getElem_cons_zero, List.getElem_cons_succ, List.setIfInBounds_toArray, List.set_cons_zero, List.set_cons_succ]
              refine wpAnyH_ready (rs := [10]) (by kernel_rfl) (by simp) (AllReadyH.cons rfl (fun Kt hK => ?_) AllReadyH.nil)
              refine wanted_pos rfl ?_; refine wp_sum rfl rfl (C2.out _ _ HB c9 d9) (fun W hb => hK.out _ _ trivial (fun _ => ?_)); have HB := K.call HB hb; have h7 := Row8.keep h7 hb; have h8 := Row8.keep h8 hb; clear hK Kt; simp only [Act.put, List.getElem_toArray, List.getElem_cons_zero, List.getElem_cons_succ, List.setIfInBounds_toArray, List.set_cons_zero, List.set_cons_succ]
              refine wpAnyH_ready (rs := [13]) (by kernel_rfl) (by simp) (AllReadyH.cons rfl (fun Kt hK => ?_) AllReadyH.nil)
              refine wanted_pos rfl ?_; refine wp_store_mid 25 _ _ rfl p7 0 (ab U 32).toArray rfl rfl (RowB.there h7 U) (inH _) (all_oneCell_toArray (ab_one _ _)) (hK.out _ _ trivial (fun _ => ?_)); obtain ⟨h7, h8, HB⟩ := stored2 (U := U) h7 h8 HB ne e7; generalize W.setCells p7 0 (ab U 32).toArray.toList = W at *; clear hK Kt
              refine wpAnyH_ready (rs := [14]) (by kernel_rfl) (by simp) (AllReadyH.cons rfl (fun Kt hK => ?_) AllReadyH.nil)
              refine wanted_pos rfl ?_; refine wp_store_mid 25 _ _ rfl p8 0 (ab U 32).toArray rfl rfl (RowB.there h8 U) (inH _) (all_oneCell_toArray (ab_one _ _)) (hK.out _ _ trivial (fun _ => ?_)); obtain ⟨h8, h7, HB⟩ := stored2 (U := U) h8 h7 HB (Ne.symm ne) e8; generalize W.setCells p8 0 (ab U 32).toArray.toList = W at *; clear hK Kt
              refine wpAnyH_done (by kernel_rfl) ?_ _
              refine NoPanic.normal ?_
              exact ⟨p1, p9, p7, p8, rfl, h7, h8, HB⟩
          · refine wanted_pos rfl ?_; refine wp_two rfl rfl rfl (fun p9 W _ c9 d9 hb => hK.out _ _ trivial (fun _ => ?_)); have HB := K.call HB hb; have h7 := Row8.keep h7 hb; have h8 := Row8.keep h8 hb; clear hK Kt; simp only [Act.put, List.getElem_toArray, List.getElem_cons_zero, List.getElem_cons_succ, List.setIfInBounds_toArray, List.set_cons_zero, List.set_cons_succ]
            refine wpAnyH_ready (rs := [1]) (by kernel_rfl) (by simp) (AllReadyH.cons rfl (fun Kt hK => ?_) AllReadyH.nil)
            refine wanted_pos rfl ?_; refine wp_one rfl rfl (fun p1 W _ c1 hb => hK.out _ _ trivial (fun _ => ?_)); have HB := K.call HB hb; have c9 := later hb c9; have d9 := later hb d9; have h7 := Row8.keep h7 hb; have h8 := Row8.keep h8 hb; clear hK Kt; simp only [Act.put, List.getElem_toArray, List.getElem_cons_zero, List.getElem_cons_succ, List.setIfInBounds_toArray, List.set_cons_zero, List.set_cons_succ]
            refine wpAnyH_ready (rs := [2]) (by kernel_rfl) (by simp) (AllReadyH.cons rfl (fun Kt hK => ?_) AllReadyH.nil)
            refine wanted_pos rfl ?_; refine wp_sum rfl rfl (C1.out _ _ HB c1) (fun W hb => hK.out _ _ trivial (fun _ => ?_)); have HB := K.call HB hb; have c9 := later hb c9; have d9 := later hb d9; have h7 := Row8.keep h7 hb; have h8 := Row8.keep h8 hb; clear hK Kt; simp only [Act.put, List.getElem_toArray, List.getElem_cons_zero, List.getElem_cons_succ, List.setIfInBounds_toArray, List.set_cons_zero, List.set_cons_succ]
            refine wpAnyH_ready (rs := [10]) (by kernel_rfl) (by simp) (AllReadyH.cons rfl (fun Kt hK => ?_) AllReadyH.nil)
            refine wanted_pos rfl ?_; refine wp_sum rfl rfl (C2.out _ _ HB c9 d9) (fun W hb => hK.out _ _ trivial (fun _ => ?_)); have HB := K.call HB hb; have h7 := Row8.keep h7 hb; have h8 := Row8.keep h8 hb; clear hK Kt; simp only [Act.put, List.getElem_toArray, List.getElem_cons_zero, List.getElem_cons_succ, List.setIfInBounds_toArray, List.set_cons_zero, List.set_cons_succ]
            refine wpAnyH_ready (rs := [13]) (by kernel_rfl) (by simp) (AllReadyH.cons rfl (fun Kt hK => ?_) AllReadyH.nil)
            refine wanted_pos rfl ?_; refine wp_store_mid 25 _ _ rfl p7 0 (ab U 32).toArray rfl rfl (RowB.there h7 U) (inH _) (all_oneCell_toArray (ab_one _ _)) (hK.out _ _ trivial (fun _ => ?_)); obtain ⟨h7, h8, HB⟩ := stored2 (U := U) h7 h8 HB ne e7; generalize W.setCells p7 0 (ab U 32).toArray.toList = W at *; clear hK Kt
            refine wpAnyH_ready (rs := [14]) (by kernel_rfl) (by simp) (AllReadyH.cons rfl (fun Kt hK => ?_) AllReadyH.nil)
            refine wanted_pos rfl ?_; refine wp_store_mid 25 _ _ rfl p8 0 (ab U 32).toArray rfl rfl (RowB.there h8 U) (inH _) (all_oneCell_toArray (ab_one _ _)) (hK.out _ _ trivial (fun _ => ?_)); obtain ⟨h8, h7, HB⟩ := stored2 (U := U) h8 h7 HB (Ne.symm ne) e8; generalize W.setCells p8 0 (ab U 32).toArray.toList = W at *; clear hK Kt
            refine wpAnyH_done (by kernel_rfl) ?_ _
            refine NoPanic.normal ?_
            exact ⟨p1, p9, p7, p8, rfl, h7, h8, HB⟩
      · refine wanted_pos rfl ?_; refine wp_hash rfl (fun p8 W q8 h8 hb => hK.out _ _ trivial (fun _ => ?_)); have e8 := le_of_eq7 q8 HB; clear q8; have HB := K.call HB hb; clear hK Kt; simp only [Act.put, List.getElem_toArray, List.getElem_cons_zero, List.getElem_cons_succ, List.setIfInBounds_toArray, List.set_cons_zero, List.set_cons_succ]
        refine wpAnyH_ready (rs := [1, 9, 11]) (by kernel_rfl) (by simp) (AllReadyH.cons rfl (fun Kt hK => ?_) (AllReadyH.cons rfl (fun Kt hK => ?_) (AllReadyH.cons rfl (fun Kt hK => ?_) AllReadyH.nil)))
        · refine wanted_pos rfl ?_; refine wp_one rfl rfl (fun p1 W _ c1 hb => hK.out _ _ trivial (fun _ => ?_)); have HB := K.call HB hb; have h8 := Row8.keep h8 hb; clear hK Kt; simp only [Act.put, List.getElem_toArray, List.getElem_cons_zero, List.getElem_cons_succ, List.setIfInBounds_toArray, List.set_cons_zero, List.set_cons_succ]
          refine wpAnyH_ready (rs := [2, 9, 11]) (by kernel_rfl) (by simp) (AllReadyH.cons rfl (fun Kt hK => ?_) (AllReadyH.cons rfl (fun Kt hK => ?_) (AllReadyH.cons rfl (fun Kt hK => ?_) AllReadyH.nil)))
          · refine wanted_pos rfl ?_; refine wp_sum rfl rfl (C1.out _ _ HB c1) (fun W hb => hK.out _ _ trivial (fun _ => ?_)); have HB := K.call HB hb; have h8 := Row8.keep h8 hb; clear hK Kt; simp only [Act.put, List.getElem_toArray, List.getElem_cons_zero, List.getElem_cons_succ, List.setIfInBounds_toArray, List.set_cons_zero, List.set_cons_succ]
            refine wpAnyH_ready (rs := [9, 11]) (by kernel_rfl) (by simp) (AllReadyH.cons rfl (fun Kt hK => ?_) (AllReadyH.cons rfl (fun Kt hK => ?_) AllReadyH.nil))
            · refine wanted_pos rfl ?_; refine wp_two rfl rfl rfl (fun p9 W _ c9 d9 hb => hK.out _ _ trivial (fun _ => ?_)); have HB := K.call HB hb; have h8 := Row8.keep h8 hb; clear hK Kt; simp only [Act.put, List.getElem_toArray, List.getElem_cons_zero, List.getElem_cons_succ, List.setIfInBounds_toArray, List.set_cons_zero, List.set_cons_succ]
              refine wpAnyH_ready (rs := [10, 11]) (by kernel_rfl) (by simp) (AllReadyH.cons rfl (fun Kt hK => ?_) (AllReadyH.cons rfl (fun Kt hK => ?_) AllReadyH.nil))
              · refine wanted_pos rfl ?_; refine wp_sum rfl rfl (C2.out _ _ HB c9 d9) (fun W hb => hK.out _ _ trivial (fun _ => ?_)); have HB := K.call HB hb; have h8 := Row8.keep h8 hb; clear hK Kt; simp only [Act.put, List.getElem_toArray, List.getElem_cons_zero, List.getElem_cons_succ, List.setIfInBounds_toArray, List.set_cons_zero, List.set_cons_succ]
                refine wpAnyH_ready (rs := [11]) (by kernel_rfl) (by simp) (AllReadyH.cons rfl (fun Kt hK => ?_) AllReadyH.nil)
                refine wanted_pos rfl ?_; refine wp_hash rfl (fun p7 W q7 h7 hb => hK.out _ _ trivial (fun _ => ?_)); have e7 := le_of_eq7 q7 HB; have ne : p7 ≠ p8 := (by have := h8.lt; omega); clear q7; have HB := K.call HB hb; have h8 := Row8.keep h8 hb; clear hK Kt; simp only [Act.put, List.getElem_toArray, List.getElem_cons_zero, List.getElem_cons_succ, List.setIfInBounds_toArray, List.set_cons_zero, List.set_cons_succ]
                refine wpAnyH_ready (rs := [13]) (by kernel_rfl) (by simp) (AllReadyH.cons rfl (fun Kt hK => ?_) AllReadyH.nil)
                refine wanted_pos rfl ?_; refine wp_store_mid 25 _ _ rfl p7 0 (ab U 32).toArray rfl rfl (RowB.there h7 U) (inH _) (all_oneCell_toArray (ab_one _ _)) (hK.out _ _ trivial (fun _ => ?_)); obtain ⟨h7, h8, HB⟩ := stored2 (U := U) h7 h8 HB ne e7; generalize W.setCells p7 0 (ab U 32).toArray.toList = W at *; clear hK Kt
                refine wpAnyH_ready (rs := [14]) (by kernel_rfl) (by simp) (AllReadyH.cons rfl (fun Kt hK => ?_) AllReadyH.nil)
                refine wanted_pos rfl ?_; refine wp_store_mid 25 _ _ rfl p8 0 (ab U 32).toArray rfl rfl (RowB.there h8 U) (inH _) (all_oneCell_toArray (ab_one _ _)) (hK.out _ _ trivial (fun _ => ?_)); obtain ⟨h8, h7, HB⟩ := stored2 (U := U) h8 h7 HB (Ne.symm ne) e8; generalize W.setCells p8 0 (ab U 32).toArray.toList = W at *; clear hK Kt
                refine wpAnyH_done (by kernel_rfl) ?_ _
                refine NoPanic.normal ?_
                exact ⟨p1, p9, p7, p8, rfl, h7, h8, HB⟩
              · refine wanted_pos rfl ?_; refine wp_hash rfl (fun p7 W q7 h7 hb => hK.out _ _ trivial (fun _ => ?_)); have e7 := le_of_eq7 q7 HB; have ne : p7 ≠ p8 := (by have := h8.lt; omega); clear q7; have HB := K.call HB hb; have c9 := later hb c9; have d9 := later hb d9; have h8 := Row8.keep h8 hb; clear hK Kt; simp only [Act.put, List.getElem_toArray, List.getElem_cons_zero, List.getElem_cons_succ, List.setIfInBounds_toArray, List.set_cons_zero, List.set_cons_succ]
                refine wpAnyH_ready (rs := [10]) (by kernel_rfl) (by simp) (AllReadyH.cons rfl (fun Kt hK => ?_) AllReadyH.nil)
                refine wanted_pos rfl ?_; refine wp_sum rfl rfl (C2.out _ _ HB c9 d9) (fun W hb => hK.out _ _ trivial (fun _ => ?_)); have HB := K.call HB hb; have h7 := Row8.keep h7 hb; have h8 := Row8.keep h8 hb; clear hK Kt; simp only [Act.put, List.getElem_toArray, List.getElem_cons_zero, List.getElem_cons_succ, List.setIfInBounds_toArray, List.set_cons_zero, List.set_cons_succ]
                refine wpAnyH_ready (rs := [13]) (by kernel_rfl) (by simp) (AllReadyH.cons rfl (fun Kt hK => ?_) AllReadyH.nil)
                refine wanted_pos rfl ?_; refine wp_store_mid 25 _ _ rfl p7 0 (ab U 32).toArray rfl rfl (RowB.there h7 U) (inH _) (all_oneCell_toArray (ab_one _ _)) (hK.out _ _ trivial (fun _ => ?_)); obtain ⟨h7, h8, HB⟩ := stored2 (U := U) h7 h8 HB ne e7; generalize W.setCells p7 0 (ab U 32).toArray.toList = W at *; clear hK Kt
                refine wpAnyH_ready (rs := [14]) (by kernel_rfl) (by simp) (AllReadyH.cons rfl (fun Kt hK => ?_) AllReadyH.nil)
                refine wanted_pos rfl ?_; refine wp_store_mid 25 _ _ rfl p8 0 (ab U 32).toArray rfl rfl (RowB.there h8 U) (inH _) (all_oneCell_toArray (ab_one _ _)) (hK.out _ _ trivial (fun _ => ?_)); obtain ⟨h8, h7, HB⟩ := stored2 (U := U) h8 h7 HB (Ne.symm ne) e8; generalize W.setCells p8 0 (ab U 32).toArray.toList = W at *; clear hK Kt
                refine wpAnyH_done (by kernel_rfl) ?_ _
                refine NoPanic.normal ?_
                exact ⟨p1, p9, p7, p8, rfl, h7, h8, HB⟩
            · refine wanted_pos rfl ?_; refine wp_hash rfl (fun p7 W q7 h7 hb => hK.out _ _ trivial (fun _ => ?_)); have e7 := le_of_eq7 q7 HB; have ne : p7 ≠ p8 := (by have := h8.lt; omega); clear q7; have HB := K.call HB hb; have h8 := Row8.keep h8 hb; clear hK Kt; simp only [Act.put, List.getElem_toArray, List.getElem_cons_zero, List.getElem_cons_succ, List.setIfInBounds_toArray, List.set_cons_zero, List.set_cons_succ]
              refine wpAnyH_ready (rs := [9]) (by kernel_rfl) (by simp) (AllReadyH.cons rfl (fun Kt hK => ?_) AllReadyH.nil)
              refine wanted_pos rfl ?_; refine wp_two rfl rfl rfl (fun p9 W _ c9 d9 hb => hK.out _ _ trivial (fun _ => ?_)); have HB := K.call HB hb; have h7 := Row8.keep h7 hb; have h8 := Row8.keep h8 hb; clear hK Kt; simp only [Act.put, List.getElem_toArray, List.getElem_cons_zero, List.getElem_cons_succ, List.setIfInBounds_toArray, List.set_cons_zero, List.set_cons_succ]
              refine wpAnyH_ready (rs := [10]) (by kernel_rfl) (by simp) (AllReadyH.cons rfl (fun Kt hK => ?_) AllReadyH.nil)
              refine wanted_pos rfl ?_; refine wp_sum rfl rfl (C2.out _ _ HB c9 d9) (fun W hb => hK.out _ _ trivial (fun _ => ?_)); have HB := K.call HB hb; have h7 := Row8.keep h7 hb; have h8 := Row8.keep h8 hb; clear hK Kt; simp only [Act.put, List.getElem_toArray, List.getElem_cons_zero, List.getElem_cons_succ, List.setIfInBounds_toArray, List.set_cons_zero, List.set_cons_succ]
              refine wpAnyH_ready (rs := [13]) (by kernel_rfl) (by simp) (AllReadyH.cons rfl (fun Kt hK => ?_) AllReadyH.nil)
              refine wanted_pos rfl ?_; refine wp_store_mid 25 _ _ rfl p7 0 (ab U 32).toArray rfl rfl (RowB.there h7 U) (inH _) (all_oneCell_toArray (ab_one _ _)) (hK.out _ _ trivial (fun _ => ?_)); obtain ⟨h7, h8, HB⟩ := stored2 (U := U) h7 h8 HB ne e7; generalize W.setCells p7 0 (ab U 32).toArray.toList = W at *; clear hK Kt
              refine wpAnyH_ready (rs := [14]) (by kernel_rfl) (by simp) (AllReadyH.cons rfl (fun Kt hK => ?_) AllReadyH.nil)
              refine wanted_pos rfl ?_; refine wp_store_mid 25 _ _ rfl p8 0 (ab U 32).toArray rfl rfl (RowB.there h8 U) (inH _) (all_oneCell_toArray (ab_one _ _)) (hK.out _ _ trivial (fun _ => ?_)); obtain ⟨h8, h7, HB⟩ := stored2 (U := U) h8 h7 HB (Ne.symm ne) e8; generalize W.setCells p8 0 (ab U 32).toArray.toList = W at *; clear hK Kt
              refine wpAnyH_done (by kernel_rfl) ?_ _
              refine NoPanic.normal ?_
              exact ⟨p1, p9, p7, p8, rfl, h7, h8, HB⟩
          · refine wanted_pos rfl ?_; refine wp_two rfl rfl rfl (fun p9 W _ c9 d9 hb => hK.out _ _ trivial (fun _ => ?_)); have HB := K.call HB hb; have c1 := later hb c1; have h8 := Row8.keep h8 hb; clear hK Kt; simp only [Act.put, List.getElem_toArray, List.getElem_cons_zero, List.getElem_cons_succ, List.setIfInBounds_toArray, List.set_cons_zero, List.set_cons_succ]
            refine wpAnyH_ready (rs := [2, 11]) (by kernel_rfl) (by simp) (AllReadyH.cons rfl (fun Kt hK => ?_) (AllReadyH.cons rfl (fun Kt hK => ?_) AllReadyH.nil))
            · refine wanted_pos rfl ?_; refine wp_sum rfl rfl (C1.out _ _ HB c1) (fun W hb => hK.out _ _ trivial (fun _ => ?_)); have HB := K.call HB hb; have c9 := later hb c9; have d9 := later hb d9; have h8 := Row8.keep h8 hb; clear hK Kt; simp only [Act.put, List.getElem_toArray, List.getElem_cons_zero, List.getElem_cons_succ, List.setIfInBounds_toArray, List.set_cons_zero, List.set_cons_succ]
              refine wpAnyH_ready (rs := [10, 11]) (by kernel_rfl) (by simp) (AllReadyH.cons rfl (fun Kt hK => ?_) (AllReadyH.cons rfl (fun Kt hK => ?_) AllReadyH.nil))
              · refine wanted_pos rfl ?_; refine wp_sum rfl rfl (C2.out _ _ HB c9 d9) (fun W hb => hK.out _ _ trivial (fun _ => ?_)); have HB := K.call HB hb; have h8 := Row8.keep h8 hb; clear hK Kt; simp only [Act.put, List.getElem_toArray, List.getElem_cons_zero, List.getElem_cons_succ, List.setIfInBounds_toArray, List.set_cons_zero, List.set_cons_succ]
                refine wpAnyH_ready (rs := [11]) (by kernel_rfl) (by simp) (AllReadyH.cons rfl (fun Kt hK => ?_) AllReadyH.nil)
                refine wanted_pos rfl ?_; refine wp_hash rfl (fun p7 W q7 h7 hb => hK.out _ _ trivial (fun _ => ?_)); have e7 := le_of_eq7 q7 HB; have ne : p7 ≠ p8 := (by have := h8.lt; omega); clear q7; have HB := K.call HB hb; have h8 := Row8.keep h8 hb; clear hK Kt; simp only [Act.put, List.getElem_toArray, List.getElem_cons_zero, List.getElem_cons_succ, List.setIfInBounds_toArray, List.set_cons_zero, List.set_cons_succ]
                refine wpAnyH_ready (rs := [13]) (by kernel_rfl) (by simp) (AllReadyH.cons rfl (fun Kt hK => ?_) AllReadyH.nil)
                refine wanted_pos rfl ?_; refine wp_store_mid 25 _ _ rfl p7 0 (ab U 32).toArray rfl rfl (RowB.there h7 U) (inH _) (all_oneCell_toArray (ab_one _ _)) (hK.out _ _ trivial (fun _ => ?_)); obtain ⟨h7, h8, HB⟩ := stored2 (U := U) h7 h8 HB ne e7; generalize W.setCells p7 0 (ab U 32).toArray.toList = W at *; clear hK Kt
                refine wpAnyH_ready (rs := [14]) (by kernel_rfl) (by simp) (AllReadyH.cons rfl (fun Kt hK => ?_) AllReadyH.nil)
                refine wanted_pos rfl ?_; refine wp_store_mid 25 _ _ rfl p8 0 (ab U 32).toArray rfl rfl (RowB.there h8 U) (inH _) (all_oneCell_toArray (ab_one _ _)) (hK.out _ _ trivial (fun _ => ?_)); obtain ⟨h8, h7, HB⟩ := stored2 (U := U) h8 h7 HB (Ne.symm ne) e8; generalize W.setCells p8 0 (ab U 32).toArray.toList = W at *; clear hK Kt
                refine wpAnyH_done (by kernel_rfl) ?_ _
                refine NoPanic.normal ?_
                exact ⟨p1, p9, p7, p8, rfl, h7, h8, HB⟩
              · refine wanted_pos rfl ?_; refine wp_hash rfl (fun p7 W q7 h7 hb => hK.out _ _ trivial (fun _ => ?_)); have e7 := le_of_eq7 q7 HB; have ne : p7 ≠ p8 := (by have := h8.lt; omega); clear q7; have HB := K.call HB hb; have c9 := later hb c9; have d9 := later hb d9; have h8 := Row8.keep h8 hb; clear hK Kt; simp only [Act.put, List.getElem_toArray, List.getElem_cons_zero, List.getElem_cons_succ, List.setIfInBounds_toArray, List.set_cons_zero, List.set_cons_succ]
                refine wpAnyH_ready (rs := [10]) (by kernel_rfl) (by simp) (AllReadyH.cons rfl (fun Kt hK => ?_) AllReadyH.nil)
                refine wanted_pos rfl ?_; refine wp_sum rfl rfl (C2.out _ _ HB c9 d9) (fun W hb => hK.out _ _ trivial (fun _ => ?_)); have HB := K.call HB hb; have h7 := Row8.keep h7 hb; have h8 := Row8.keep h8 hb; clear hK Kt; simp only [Act.put, List.getElem_toArray, List.getElem_cons_zero, List.getElem_cons_succ, List.setIfInBounds_toArray, List.set_cons_zero, List.set_cons_succ]
                refine wpAnyH_ready (rs := [13]) (by kernel_rfl) (by simp) (AllReadyH.cons rfl (fun Kt hK => ?_) AllReadyH.nil)
                refine wanted_pos rfl ?_; refine wp_store_mid 25 _ _ rfl p7 0 (ab U 32).toArray rfl rfl (RowB.there h7 U) (inH _) (all_oneCell_toArray (ab_one _ _)) (hK.out _ _ trivial (fun _ => ?_)); obtain ⟨h7, h8, HB⟩ := stored2 (U := U) h7 h8 HB ne e7; generalize W.setCells p7 0 (ab U 32).toArray.toList = W at *; clear hK Kt
                refine wpAnyH_ready (rs := [14]) (by kernel_rfl) (by simp) (AllReadyH.cons rfl (fun Kt hK => ?_) AllReadyH.nil)
                refine wanted_pos rfl ?_; refine wp_store_mid 25 _ _ rfl p8 0 (ab U 32).toArray rfl rfl (RowB.there h8 U) (inH _) (all_oneCell_toArray (ab_one _ _)) (hK.out _ _ trivial (fun _ => ?_)); obtain ⟨h8, h7, HB⟩ := stored2 (U := U) h8 h7 HB (Ne.symm ne) e8; generalize W.setCells p8 0 (ab U 32).toArray.toList = W at *; clear hK Kt
                refine wpAnyH_done (by kernel_rfl) ?_ _
                refine NoPanic.normal ?_
                exact ⟨p1, p9, p7, p8, rfl, h7, h8, HB⟩
            · refine wanted_pos rfl ?_; refine wp_hash rfl (fun p7 W q7 h7 hb => hK.out _ _ trivial (fun _ => ?_)); have e7 := le_of_eq7 q7 HB; have ne : p7 ≠ p8 := (by have := h8.lt; omega); clear q7; have HB := K.call HB hb; have c1 := later hb c1; have c9 := later hb c9; have d9 := later hb d9; have h8 := Row8.keep h8 hb; clear hK Kt; simp only [Act.put, List.getElem_toArray, List.getElem_cons_zero, List.getElem_cons_succ, List.setIfInBounds_toArray, List.set_cons_zero, List.set_cons_succ]
              refine wpAnyH_ready (rs := [2]) (by kernel_rfl) (by simp) (AllReadyH.cons rfl (fun Kt hK => ?_) AllReadyH.nil)
              refine wanted_pos rfl ?_; refine wp_sum rfl rfl (C1.out _ _ HB c1) (fun W hb => hK.out _ _ trivial (fun _ => ?_)); have HB := K.call HB hb; have c9 := later hb c9; have d9 := later hb d9; have h7 := Row8.keep h7 hb; have h8 := Row8.keep h8 hb; clear hK Kt; simp only [Act.put, List.getElem_toArray, List.getElem_cons_zero, List.getElem_cons_succ, List.setIfInBounds_toArray, List.set_cons_zero, List.set_cons_succ]
              refine wpAnyH_ready (rs := [10]) (by kernel_rfl) (by simp) (AllReadyH.cons rfl (fun Kt hK => ?_) AllReadyH.nil)
              refine wanted_pos rfl ?_; refine wp_sum rfl rfl (C2.out _ _ HB c9 d9) (fun W hb => hK.out _ _ trivial (fun _ => ?_)); have HB := K.call HB hb; have h7 := Row8.keep h7 hb; have h8 := Row8.keep h8 hb; clear hK Kt; simp only [Act.put, List.getElem_toArray, List.getElem_cons_zero, List.getElem_cons_succ, List.setIfInBounds_toArray, List.set_cons_zero, List.set_cons_succ]
              refine wpAnyH_ready (rs := [13]) (by kernel_rfl) (by simp) (AllReadyH.cons rfl (fun Kt hK => ?_) AllReadyH.nil)
              refine wanted_pos rfl ?_; refine wp_store_mid 25 _ _ rfl p7 0 (ab U 32).toArray rfl rfl (RowB.there h7 U) (inH _) (all_oneCell_toArray (ab_one _ _)) (hK.out _ _ trivial (fun _ => ?_)); obtain ⟨h7, h8, HB⟩ := stored2 (U := U) h7 h8 HB ne e7; generalize W.setCells p7 0 (ab U 32).toArray.toList = W at *; clear hK Kt
              refine wpAnyH_ready (rs := [14]) (by kernel_rfl) (by simp) (AllReadyH.cons rfl (fun Kt hK => ?_) AllReadyH.nil)
              refine wanted_pos rfl ?_; refine wp_store_mid 25 _ _ rfl p8 0 (ab U 32).toArray rfl rfl (RowB.there h8 U) (inH _) (all_oneCell_toArray (ab_one _ _)) (hK.out _ _ trivial (fun _ => ?_)); obtain ⟨h8, h7, HB⟩ := stored2 (U := U) h8 h7 HB (Ne.symm ne) e8; generalize W.setCells p8 0 (ab U 32).toArray.toList = W at *; clear hK Kt
              refine wpAnyH_done (by kernel_rfl) ?_ _
              refine NoPanic.normal ?_
              exact ⟨p1, p9, p7, p8, rfl, h7, h8, HB⟩
          · refine wanted_pos rfl ?_; refine wp_hash rfl (fun p7 W q7 h7 hb => hK.out _ _ trivial (fun _ => ?_)); have e7 := le_of_eq7 q7 HB; have ne : p7 ≠ p8 := (by have := h8.lt; omega); clear q7; have HB := K.call HB hb; have c1 := later hb c1; have h8 := Row8.keep h8 hb; clear hK Kt; simp only [Act.put, List.getElem_toArray, List.getElem_cons_zero, List.getElem_cons_succ, List.setIfInBounds_toArray, List.set_cons_zero, List.set_cons_succ]
            refine wpAnyH_ready (rs := [2, 9]) (by kernel_rfl) (by simp) (AllReadyH.cons rfl (fun Kt hK => ?_) (AllReadyH.cons rfl (fun Kt hK => ?_) AllReadyH.nil))
            · refine wanted_pos rfl ?_; refine wp_sum rfl rfl (C1.out _ _ HB c1) (fun W hb => hK.out _ _ trivial (fun _ => ?_)); have HB := K.call HB hb; have h7 := Row8.keep h7 hb; have h8 := Row8.keep h8 hb; clear hK Kt; simp only [Act.put, List.getElem_toArray, List.getElem_cons_zero, List.getElem_cons_succ, List.setIfInBounds_toArray, List.set_cons_zero, List.set_cons_succ]
              refine wpAnyH_ready (rs := [9]) (by kernel_rfl) (by simp) (AllReadyH.cons rfl (fun Kt hK => ?_) AllReadyH.nil)
              refine wanted_pos rfl ?_; refine wp_two rfl rfl rfl (fun p9 W _ c9 d9 hb => hK.out _ _ trivial (fun _ => ?_)); have HB := K.call HB hb; have h7 := Row8.keep h7 hb; have h8 := Row8.keep h8 hb; clear hK Kt; simp only [Act.put, List.getElem_toArray, List.getElem_cons_zero, List.getElem_cons_succ, List.setIfInBounds_toArray, List.set_cons_zero, List.set_cons_succ]
              refine wpAnyH_ready (rs := [10]) (by kernel_rfl) (by simp) (AllReadyH.cons rfl (fun Kt hK => ?_) AllReadyH.nil)
              refine wanted_pos rfl ?_; refine wp_sum rfl rfl (C2.out _ _ HB c9 d9) (fun W hb => hK.out _ _ trivial (fun _ => ?_)); have HB := K.call HB hb; have h7 := Row8.keep h7 hb; have h8 := Row8.keep h8 hb; clear hK Kt; simp only [Act.put, List.getElem_toArray, List.getElem_cons_zero, List.getElem_cons_succ, List.setIfInBounds_toArray, List.set_cons_zero, List.set_cons_succ]
              refine wpAnyH_ready (rs := [13]) (by kernel_rfl) (by simp) (AllReadyH.cons rfl (fun Kt hK => ?_) AllReadyH.nil)
              refine wanted_pos rfl ?_; refine wp_store_mid 25 _ _ rfl p7 0 (ab U 32).toArray rfl rfl (RowB.there h7 U) (inH _) (all_oneCell_toArray (ab_one _ _)) (hK.out _ _ trivial (fun _ => ?_)); obtain ⟨h7, h8, HB⟩ := stored2 (U := U) h7 h8 HB ne e7; generalize W.setCells p7 0 (ab U 32).toArray.toList = W at *; clear hK Kt
              refine wpAnyH_ready (rs := [14]) (by kernel_rfl) (by simp) (AllReadyH.cons rfl (fun Kt hK => ?_) AllReadyH.nil)
              refine wanted_pos rfl ?_; refine wp_store_mid 25 _ _ rfl p8 0 (ab U 32).toArray rfl rfl (RowB.there h8 U) (inH _) (all_oneCell_toArray (ab_one _ _)) (hK.out _ _ trivial (fun _ => ?_)); obtain ⟨h8, h7, HB⟩ := stored2 (U := U) h8 h7 HB (Ne.symm ne) e8; generalize W.setCells p8 0 (ab U 32).toArray.toList = W at *; clear hK Kt
              refine wpAnyH_done (by kernel_rfl) ?_ _
              refine NoPanic.normal ?_
              exact ⟨p1, p9, p7, p8, rfl, h7, h8, HB⟩
            · refine wanted_pos rfl ?_; refine wp_two rfl rfl rfl (fun p9 W _ c9 d9 hb => hK.out _ _ trivial (fun _ => ?_)); have HB := K.call HB hb; have c1 := later hb c1; have h7 := Row8.keep h7 hb; have h8 := Row8.keep h8 hb; clear hK Kt; simp only [Act.put, List.getElem_toArray, List.getElem_cons_zero, List.getElem_cons_succ, List.setIfInBounds_toArray, List.set_cons_zero, List.set_cons_succ]
              refine wpAnyH_ready (rs := [2]) (by kernel_rfl) (by simp) (AllReadyH.cons rfl (fun Kt hK => ?_) AllReadyH.nil)
              refine wanted_pos rfl ?_; refine wp_sum rfl rfl (C1.out _ _ HB c1) (fun W hb => hK.out _ _ trivial (fun _ => ?_)); have HB := K.call HB hb; have c9 := later hb c9; have d9 := later hb d9; have h7 := Row8.keep h7 hb; have h8 := Row8.keep h8 hb; clear hK Kt; simp only [Act.put, List.getElem_toArray, List.getElem_cons_zero, List.getElem_cons_succ, List.setIfInBounds_toArray, List.set_cons_zero, List.set_cons_succ]
              refine wpAnyH_ready (rs := [10]) (by kernel_rfl) (by simp) (AllReadyH.cons rfl (fun Kt hK => ?_) AllReadyH.nil)
              refine wanted_pos rfl ?_; refine wp_sum rfl rfl (C2.out _ _ HB c9 d9) (fun W hb => hK.out _ _ trivial (fun _ => ?_)); have HB := K.call HB hb; have h7 := Row8.keep h7 hb; have h8 := Row8.keep h8 hb; clear hK Kt; simp only [Act.put, List.getElem_toArray, List.getElem_cons_zero, List.getElem_cons_succ, List.setIfInBounds_toArray, List.set_cons_zero, List.set_cons_succ]
              refine wpAnyH_ready (rs := [13]) (by kernel_rfl) (by simp) (AllReadyH.cons rfl (fun Kt hK => ?_) AllReadyH.nil)
              refine wanted_pos rfl ?_; refine wp_store_mid 25 _ _ rfl p7 0 (ab U 32).toArray rfl rfl (RowB.there h7 U) (inH _) (all_oneCell_toArray (ab_one _ _)) (hK.out _ _ trivial (fun _ => ?_)); obtain ⟨h7, h8, HB⟩ := stored2 (U := U) h7 h8 HB ne e7; generalize W.setCells p7 0 (ab U 32).toArray.toList = W at *; clear hK Kt
              refine wpAnyH_ready (rs := [14]) (by kernel_rfl) (by simp) (AllReadyH.cons rfl (fun Kt hK => ?_) AllReadyH.nil)
              refine wanted_pos rfl ?_; refine wp_store_mid 25 _ _ rfl p8 0 (ab U 32).toArray rfl rfl (RowB.there h8 U) (inH _) (all_oneCell_toArray (ab_one _ _)) (hK.out _ _ trivial (fun _ => ?_)); obtain ⟨h8, h7, HB⟩ := stored2 (U := U) h8 h7 HB (Ne.symm ne) e8; generalize W.setCells p8 0 (ab U 32).toArray.toList = W at *; clear hK Kt
              refine wpAnyH_done (by kernel_rfl) ?_ _
              refine NoPanic.normal ?_
              exact ⟨p1, p9, p7, p8, rfl, h7, h8, HB⟩
        · refine wanted_pos rfl ?_; refine wp_two rfl rfl rfl (fun p9 W _ c9 d9 hb => hK.out _ _ trivial (fun _ => ?_)); have HB := K.call HB hb; have h8 := Row8.keep h8 hb; clear hK Kt; simp only [Act.put, List.getElem_toArray, List.getElem_cons_zero, List.getElem_cons_succ, List.setIfInBounds_toArray, List.set_cons_zero, List.set_cons_succ]
          refine wpAnyH_ready (rs := [1, 11]) (by kernel_rfl) (by simp) (AllReadyH.cons rfl (fun Kt hK => ?_) (AllReadyH.cons rfl (fun Kt hK => ?_) AllReadyH.nil))
          · refine wanted_pos rfl ?_; refine wp_one rfl rfl (fun p1 W _ c1 hb => hK.out _ _ trivial (fun _ => ?_)); have HB := K.call HB hb; have c9 := later hb c9; have d9 := later hb d9; have h8 := Row8.keep h8 hb; clear hK Kt; simp only [Act.put, List.getElem_toArray, List.getElem_cons_zero, List.getElem_cons_succ, List.setIfInBounds_toArray, List.set_cons_zero, List.set_cons_succ]
            refine wpAnyH_ready (rs := [2, 11]) (by kernel_rfl) (by simp) (AllReadyH.cons rfl (fun Kt hK => ?_) (AllReadyH.cons rfl (fun Kt hK => ?_) AllReadyH.nil))
            · refine wanted_pos rfl ?_; refine wp_sum rfl rfl (C1.out _ _ HB c1) (fun W hb => hK.out _ _ trivial (fun _ => ?_)); have HB := K.call HB hb; have c9 := later hb c9; have d9 := later hb d9; have h8 := Row8.keep h8 hb; clear hK Kt; simp only [Act.put, List.getElem_toArray, List.getElem_cons_zero, List.getElem_cons_succ, List.setIfInBounds_toArray, List.set_cons_zero, List.set_cons_succ]
              refine wpAnyH_ready (rs := [10, 11]) (by kernel_rfl) (by simp) (AllReadyH.cons rfl (fun Kt hK => ?_) (AllReadyH.cons rfl (fun Kt hK => ?_) AllReadyH.nil))
              · refine wanted_pos rfl ?_; refine wp_sum rfl rfl (C2.out _ _ HB c9 d9) (fun W hb => hK.out _ _ trivial (fun _ => ?_)); have HB := K.call HB hb; have h8 := Row8.keep h8 hb; clear hK Kt; simp only [Act.put, List.getElem_toArray, List.getElem_cons_zero, List.getElem_cons_succ, List.setIfInBounds_toArray, List.set_cons_zero, List.set_cons_succ]
                refine wpAnyH_ready (rs := [11]) (by kernel_rfl) (by simp) (AllReadyH.cons rfl (fun Kt hK => ?_) AllReadyH.nil)
                refine wanted_pos rfl ?_; refine wp_hash rfl (fun p7 W q7 h7 hb => hK.out _ _ trivial (fun _ => ?_)); have e7 := le_of_eq7 q7 HB; have ne : p7 ≠ p8 := (by have := h8.lt; omega); clear q7; have HB := K.call HB hb; have h8 := Row8.keep h8 hb; clear hK Kt; simp only [Act.put, List.getElem_toArray, List.getElem_cons_zero, List.getElem_cons_succ, List.setIfInBounds_toArray, List.set_cons_zero, List.set_cons_succ]
                refine wpAnyH_ready (rs := [13]) (by kernel_rfl) (by simp) (AllReadyH.cons rfl (fun Kt hK => ?_) AllReadyH.nil)
                refine wanted_pos rfl ?_; refine wp_store_mid 25 _ _ rfl p7 0 (ab U 32).toArray rfl rfl (RowB.there h7 U) (inH _) (all_oneCell_toArray (ab_one _ _)) (hK.out _ _ trivial (fun _ => ?_)); obtain ⟨h7, h8, HB⟩ := stored2 (U := U) h7 h8 HB ne e7; generalize W.setCells p7 0 (ab U 32).toArray.toList = W at *; clear hK Kt
                refine wpAnyH_ready (rs := [14]) (by kernel_rfl) (by simp) (AllReadyH.cons rfl (fun Kt hK => ?_) AllReadyH.nil)
                refine wanted_pos rfl ?_; refine wp_store_mid 25 _ _ rfl p8 0 (ab U 32).toArray rfl rfl (RowB.there h8 U) (inH _) (all_oneCell_toArray (ab_one _ _)) (hK.out _ _ trivial (fun _ => ?_)); obtain ⟨h8, h7, HB⟩ := stored2 (U := U) h8 h7 HB (Ne.symm ne) e8; generalize W.setCells p8 0 (ab U 32).toArray.toList = W at *; clear hK Kt
                refine wpAnyH_done (by kernel_rfl) ?_ _
                refine NoPanic.normal ?_
                exact ⟨p1, p9, p7, p8, rfl, h7, h8, HB⟩
              · refine wanted_pos rfl ?_; refine wp_hash rfl (fun p7 W q7 h7 hb => hK.out _ _ trivial (fun _ => ?_)); have e7 := le_of_eq7 q7 HB; have ne : p7 ≠ p8 := (by have := h8.lt; omega); clear q7; have HB := K.call HB hb; have c9 := later hb c9; have d9 := later hb d9; have h8 := Row8.keep h8 hb; clear hK Kt; simp only [Act.put, List.getElem_toArray, List.getElem_cons_zero, List.getElem_cons_succ, List.setIfInBounds_toArray, List.set_cons_zero, List.set_cons_succ]
                refine wpAnyH_ready (rs := [10]) (by kernel_rfl) (by simp) (AllReadyH.cons rfl (fun Kt hK => ?_) AllReadyH.nil)
                refine wanted_pos rfl ?_; refine wp_sum rfl rfl (C2.out _ _ HB c9 d9) (fun W hb => hK.out _ _ trivial (fun _ => ?_)); have HB := K.call HB hb; have h7 := Row8.keep h7 hb; have h8 := Row8.keep h8 hb; clear hK Kt; simp only [Act.put, List.getElem_toArray, List.getElem_cons_zero, List.getElem_cons_succ, List.setIfInBounds_toArray, List.set_cons_zero, List.set_cons_succ]
                refine wpAnyH_ready (rs := [13]) (by kernel_rfl) (by simp) (AllReadyH.cons rfl (fun Kt hK => ?_) AllReadyH.nil)
                refine wanted_pos rfl ?_; refine wp_store_mid 25 _ _ rfl p7 0 (ab U 32).toArray rfl rfl (RowB.there h7 U) (inH _) (all_oneCell_toArray (ab_one _ _)) (hK.out _ _ trivial (fun _ => ?_)); obtain ⟨h7, h8, HB⟩ := stored2 (U := U) h7 h8 HB ne e7; generalize W.setCells p7 0 (ab U 32).toArray.toList = W at *; clear hK Kt
                refine wpAnyH_ready (rs := [14]) (by kernel_rfl) (by simp) (AllReadyH.cons rfl (fun Kt hK => ?_) AllReadyH.nil)
                refine wanted_pos rfl ?_; refine wp_store_mid 25 _ _ rfl p8 0 (ab U 32).toArray rfl rfl (RowB.there h8 U) (inH _) (all_oneCell_toArray (ab_one _ _)) (hK.out _ _ trivial (fun _ => ?_)); obtain ⟨h8, h7, HB⟩ := stored2 (U := U) h8 h7 HB (Ne.symm ne) e8; generalize W.setCells p8 0 (ab U 32).toArray.toList = W at *; clear hK Kt
                refine wpAnyH_done (by kernel_rfl) ?_ _
                refine NoPanic.normal ?_
                exact ⟨p1, p9, p7, p8, rfl, h7, h8, HB⟩
            · refine wanted_pos rfl ?_; refine wp_hash rfl (fun p7 W q7 h7 hb => hK.out _ _ trivial (fun _ => ?_)); have e7 := le_of_eq7 q7 HB; have ne : p7 ≠ p8 := (by have := h8.lt; omega); clear q7; have HB := K.call HB hb; have c1 := later hb c1; have c9 := later hb c9; have d9 := later hb d9; have h8 := Row8.keep h8 hb; clear hK Kt; simp only [Act.put, List.getElem_toArray, List.getElem_cons_zero, List.getElem_cons_succ, List.setIfInBounds_toArray, List.set_cons_zero, List.set_cons_succ]
              refine wpAnyH_ready (rs := [2]) (by kernel_rfl) (by simp) (AllReadyH.cons rfl (fun Kt hK => ?_) AllReadyH.nil)
              refine wanted_pos rfl ?_; refine wp_sum rfl rfl (C1.out _ _ HB c1) (fun W hb => hK.out _ _ trivial (fun _ => ?_)); have HB := K.call HB hb; have c9 := later hb c9; have d9 := later hb d9; have h7 := Row8.keep h7 hb; have h8 := Row8.keep h8 hb; clear hK Kt; simp only [Act.put, List.getElem_toArray, List.getElem_cons_zero, List.getElem_cons_succ, List.setIfInBounds_toArray, List.set_cons_zero, List.set_cons_succ]
              refine wpAnyH_ready (rs := [10]) (by kernel_rfl) (by simp) (AllReadyH.cons rfl (fun Kt hK => ?_) AllReadyH.nil)
              refine wanted_pos rfl ?_; refine wp_sum rfl rfl (C2.out _ _ HB c9 d9) (fun W hb => hK.out _ _ trivial (fun _ => ?_)); have HB := K.call HB hb; have h7 := Row8.keep h7 hb; have h8 := Row8.keep h8 hb; clear hK Kt; simp only [Act.put, List.getElem_toArray, List.getElem_cons_zero, List.getElem_cons_succ, List.setIfInBounds_toArray, List.set_cons_zero, List.set_cons_succ]
              refine wpAnyH_ready (rs := [13]) (by kernel_rfl) (by simp) (AllReadyH.cons rfl (fun Kt hK => ?_) AllReadyH.nil)
              refine wanted_pos rfl ?_; refine wp_store_mid 25 _ _ rfl p7 0 (ab U 32).toArray rfl rfl (RowB.there h7 U) (inH _) (all_oneCell_toArray (ab_one _ _)) (hK.out _ _ trivial (fun _ => ?_)); obtain ⟨h7, h8, HB⟩ := stored2 (U := U) h7 h8 HB ne e7; generalize W.setCells p7 0 (ab U 32).toArray.toList = W at *; clear hK Kt
              refine wpAnyH_ready (rs := [14]) (by kernel_rfl) (by simp) (AllReadyH.cons rfl (fun Kt hK => ?_) AllReadyH.nil)
              refine wanted_pos rfl ?_; refine wp_store_mid 25 _ _ rfl p8 0 (ab U 32).toArray rfl rfl (RowB.there h8 U) (inH _) (all_oneCell_toArray (ab_one _ _)) (hK.out _ _ trivial (fun _ => ?_)); obtain ⟨h8, h7, HB⟩ := stored2 (U := U) h8 h7 HB (Ne.symm ne) e8; generalize W.setCells p8 0 (ab U 32).toArray.toList = W at *; clear hK Kt
              refine wpAnyH_done (by kernel_rfl) ?_ _
              refine NoPanic.normal ?_
              exact ⟨p1, p9, p7, p8, rfl, h7, h8, HB⟩
          · refine wanted_pos rfl ?_; refine wp_hash rfl (fun p7 W q7 h7 hb => hK.out _ _ trivial (fun _ => ?_)); have e7 := le_of_eq7 q7 HB; have ne : p7 ≠ p8 := (by have := h8.lt; omega); clear q7; have HB := K.call HB hb; have c9 := later hb c9; have d9 := later hb d9; have h8 := Row8.keep h8 hb; clear hK Kt; simp only [Act.put, List.getElem_toArray, List.getElem_cons_zero, List.getElem_cons_succ, List.setIfInBounds_toArray, List.set_cons_zero, List.set_cons_succ]
            refine wpAnyH_ready (rs := [1]) (by kernel_rfl) (by simp) (AllReadyH.cons rfl (fun Kt hK => ?_) AllReadyH.nil)
            refine wanted_pos rfl ?_; refine wp_one rfl rfl (fun p1 W _ c1 hb => hK.out _ _ trivial (fun _ => ?_)); have HB := K.call HB hb; have c9 := later hb c9; have d9 := later hb d9; have h7 := Row8.keep h7 hb; have h8 := Row8.keep h8 hb; clear hK Kt; simp only [Act.put, List.getElem_toArray, List.getElem_cons_zero, List.getElem_cons_succ, List.setIfInBounds_toArray, List.set_cons_zero, List.set_cons_succ]
            refine wpAnyH_ready (rs := [2]) (by kernel_rfl) (by simp) (AllReadyH.cons rfl (fun Kt hK => ?_) AllReadyH.nil)
            refine wanted_pos rfl ?_; refine wp_sum rfl rfl (C1.out _ _ HB c1) (fun W hb => hK.out _ _ trivial (fun _ => ?_)); have HB := K.call HB hb; have c9 := later hb c9; have d9 := later hb d9; have h7 := Row8.keep h7 hb; have h8 := Row8.keep h8 hb; clear hK Kt; simp only [Act.put, List.getElem_toArray, List.getElem_cons_zero, List.getElem_cons_succ, List.setIfInBounds_toArray, List.set_cons_zero, List.set_cons_succ]
            refine wpAnyH_ready (rs := [10]) (by kernel_rfl) (by simp) (AllReadyH.cons rfl (fun Kt hK => ?_) AllReadyH.nil)
            refine wanted_pos rfl ?_; refine wp_sum rfl rfl (C2.out _ _ HB c9 d9) (fun W hb => hK.out _ _ trivial (fun _ => ?_)); have HB := K.call HB hb; have h7 := Row8.keep h7 hb; have h8 := Row8.keep h8 hb; clear hK Kt; simp only [Act.put, List.getElem_toArray, List.getElem_cons_zero, List.getElem_cons_succ, List.setIfInBounds_toArray, List.set_cons_zero, List.set_cons_succ]
            refine wpAnyH_ready (rs := [13]) (by kernel_rfl) (by simp) (AllReadyH.cons rfl (fun Kt hK => ?_) AllReadyH.nil)
            refine wanted_pos rfl ?_; refine wp_store_mid 25 _ _ rfl p7 0 (ab U 32).toArray rfl rfl (RowB.there h7 U) (inH _) (all_oneCell_toArray (ab_one _ _)) (hK.out _ _ trivial (fun _ => ?_)); obtain ⟨h7, h8, HB⟩ := stored2 (U := U) h7 h8 HB ne e7; generalize W.setCells p7 0 (ab U 32).toArray.toList = W at *; clear hK Kt
            refine wpAnyH_ready (rs := [14]) (by kernel_rfl) (by simp) (AllReadyH.cons rfl (fun Kt hK => ?_) AllReadyH.nil)
            refine wanted_pos rfl ?_; refine wp_store_mid 25 _ _ rfl p8 0 (ab U 32).toArray rfl rfl (RowB.there h8 U) (inH _) (all_oneCell_toArray (ab_one _ _)) (hK.out _ _ trivial (fun _ => ?_)); obtain ⟨h8, h7, HB⟩ := stored2 (U := U) h8 h7 HB (Ne.symm ne) e8; generalize W.setCells p8 0 (ab U 32).toArray.toList = W at *; clear hK Kt
            refine wpAnyH_done (by kernel_rfl) ?_ _
            refine NoPanic.normal ?_
            exact ⟨p1, p9, p7, p8, rfl, h7, h8, HB⟩
        · refine wanted_pos rfl ?_; refine wp_hash rfl (fun p7 W q7 h7 hb => hK.out _ _ trivial (fun _ => ?_)); have e7 := le_of_eq7 q7 HB; have ne : p7 ≠ p8 := (by have := h8.lt; omega); clear q7; have HB := K.call HB hb; have h8 := Row8.keep h8 hb; clear hK Kt; simp only [Act.put, List.getElem_toArray, List.getElem_cons_zero, List.getElem_cons_succ, List.setIfInBounds_toArray, List.set_cons_zero, List.set_cons_succ]
          refine wpAnyH_ready (rs := [1, 9]) (by kernel_rfl) (by simp) (AllReadyH.cons rfl (fun Kt hK => ?_) (AllReadyH.cons rfl (fun Kt hK => ?_) AllReadyH.nil))
          · refine wanted_pos rfl ?_; refine wp_one rfl rfl (fun p1 W _ c1 hb => hK.out _ _ trivial (fun _ => ?_)); have HB := K.call HB hb; have h7 := Row8.keep h7 hb; have h8 := Row8.keep h8 hb; clear hK Kt; simp only [Act.put, List.getElem_toArray, List.getElem_cons_zero, List.getElem_cons_succ, List.setIfInBounds_toArray, List.set_cons_zero, List.set_cons_succ]
            refine wpAnyH_ready (rs := [2, 9]) (by kernel_rfl) (by simp) (AllReadyH.cons rfl (fun Kt hK => ?_) (AllReadyH.cons rfl (fun Kt hK => ?_) AllReadyH.nil))
            · refine wanted_pos rfl ?_; refine wp_sum rfl rfl (C1.out _ _ HB c1) (fun W hb => hK.out _ _ trivial (fun _ => ?_)); have HB := K.call HB hb; have h7 := Row8.keep h7 hb; have h8 := Row8.keep h8 hb; clear hK Kt; simp only [Act.put, List.getElem_toArray, List.getElem_cons_zero, List.getElem_cons_succ, List.setIfInBounds_toArray, List.set_cons_zero, List.set_cons_succ]
              refine wpAnyH_ready (rs := [9]) (by kernel_rfl) (by simp) (AllReadyH.cons rfl (fun Kt hK => ?_) AllReadyH.nil)
              refine wanted_pos rfl ?_; refine wp_two rfl rfl rfl (fun p9 W _ c9 d9 hb => hK.out _ _ trivial (fun _ => ?_)); have HB := K.call HB hb; have h7 := Row8.keep h7 hb; have h8 := Row8.keep h8 hb; clear hK Kt; simp only [Act.put, List.getElem_toArray, List.getElem_cons_zero, List.getElem_cons_succ, List.setIfInBounds_toArray, List.set_cons_zero, List.set_cons_succ]
              refine wpAnyH_ready (rs := [10]) (by kernel_rfl) (by simp) (AllReadyH.cons rfl (fun Kt hK => ?_) AllReadyH.nil)
              refine wanted_pos rfl ?_; refine wp_sum rfl rfl (C2.out _ _ HB c9 d9) (fun W hb => hK.out _ _ trivial (fun _ => ?_)); have HB := K.call HB hb; have h7 := Row8.keep h7 hb; have h8 := Row8.keep h8 hb; clear hK Kt; simp only [Act.put, List.getElem_toArray, List.getElem_cons_zero, List.getElem_cons_succ, List.setIfInBounds_toArray, List.set_cons_zero, List.set_cons_succ]
              refine wpAnyH_ready (rs := [13]) (by kernel_rfl) (by simp) (AllReadyH.cons rfl (fun Kt hK => ?_) AllReadyH.nil)
              refine wanted_pos rfl ?_; refine wp_store_mid 25 _ _ rfl p7 0 (ab U 32).toArray rfl rfl (RowB.there h7 U) (inH _) (all_oneCell_toArray (ab_one _ _)) (hK.out _ _ trivial (fun _ => ?_)); obtain ⟨h7, h8, HB⟩ := stored2 (U := U) h7 h8 HB ne e7; generalize W.setCells p7 0 (ab U 32).toArray.toList = W at *; clear hK Kt
              refine wpAnyH_ready (rs := [14]) (by kernel_rfl) (by simp) (AllReadyH.cons rfl (fun Kt hK => ?_) AllReadyH.nil)
              refine wanted_pos rfl ?_; refine wp_store_mid 25 _ _ rfl p8 0 (ab U 32).toArray rfl rfl (RowB.there h8 U) (inH _) (all_oneCell_toArray (ab_one _ _)) (hK.out _ _ trivial (fun _ => ?_)); obtain ⟨h8, h7, HB⟩ := stored2 (U := U) h8 h7 HB (Ne.symm ne) e8; generalize W.setCells p8 0 (ab U 32).toArray.toList = W at *; clear hK Kt
              refine wpAnyH_done (by kernel_rfl) ?_ _
              refine NoPanic.normal ?_
              exact ⟨p1, p9, p7, p8, rfl, h7, h8, HB⟩
            · refine wanted_pos rfl ?_; refine wp_two rfl rfl rfl (fun p9 W _ c9 d9 hb => hK.out _ _ trivial (fun _ => ?_)); have HB := K.call HB hb; have c1 := later hb c1; have h7 := Row8.keep h7 hb; have h8 := Row8.keep h8 hb; clear hK Kt; simp only [Act.put, List.getElem_toArray, List.getElem_cons_zero, List.getElem_cons_succ, List.setIfInBounds_toArray, List.set_cons_zero, List.set_cons_succ]
              refine wpAnyH_ready (rs := [2]) (by kernel_rfl) (by simp) (AllReadyH.cons rfl (fun Kt hK => ?_) AllReadyH.nil)
              refine wanted_pos rfl ?_; refine wp_sum rfl rfl (C1.out _ _ HB c1) (fun W hb => hK.out _ _ trivial (fun _ => ?_)); have HB := K.call HB hb; have c9 := later hb c9; have d9 := later hb d9; have h7 := Row8.keep h7 hb; have h8 := Row8.keep h8 hb; clear hK Kt; simp only [Act.put, List.getElem_toArray, List.getElem_cons_zero, List.getElem_cons_succ, List.setIfInBounds_toArray, List.set_cons_zero, List.set_cons_succ]
              refine wpAnyH_ready (rs := [10]) (by kernel_rfl) (by simp) (AllReadyH.cons rfl (fun Kt hK => ?_) AllReadyH.nil)
              refine wanted_pos rfl ?_; refine wp_sum rfl rfl (C2.out _ _ HB c9 d9) (fun W hb => hK.out _ _ trivial (fun _ => ?_)); have HB := K.call HB hb; have h7 := Row8.keep h7 hb; have h8 := Row8.keep h8 hb; clear hK Kt; simp only [Act.put, List.getElem_toArray, List.getElem_cons_zero, List.getElem_cons_succ, List.setIfInBounds_toArray, List.set_cons_zero, List.set_cons_succ]
              refine wpAnyH_ready (rs := [13]) (by kernel_rfl) (by simp) (AllReadyH.cons rfl (fun Kt hK => ?_) AllReadyH.nil)
              refine wanted_pos rfl ?_; refine wp_store_mid 25 _ _ rfl p7 0 (ab U 32).toArray rfl rfl (RowB.there h7 U) (inH _) (all_oneCell_toArray (ab_one _ _)) (hK.out _ _ trivial (fun _ => ?_)); obtain ⟨h7, h8, HB⟩ := stored2 (U := U) h7 h8 HB ne e7; generalize W.setCells p7 0 (ab U 32).toArray.toList = W at *; clear hK Kt
              refine wpAnyH_ready (rs := [14]) (by kernel_rfl) (by simp) (AllReadyH.cons rfl (fun Kt hK => ?_) AllReadyH.nil)
              refine wanted_pos rfl ?_; refine wp_store_mid 25 _ _ rfl p8 0 (ab U 32).toArray rfl rfl (RowB.there h8 U) (inH _) (all_oneCell_toArray (ab_one _ _)) (hK.out _ _ trivial (fun _ => ?_)); obtain ⟨h8, h7, HB⟩ := stored2 (U := U) h8 h7 HB (Ne.symm ne) e8; generalize W.setCells p8 0 (ab U 32).toArray.toList = W at *; clear hK Kt
              refine wpAnyH_done (by kernel_rfl) ?_ _
              refine NoPanic.normal ?_
              exact ⟨p1, p9, p7, p8, rfl, h7, h8, HB⟩
          · refine wanted_pos rfl ?_; refine wp_two rfl rfl rfl (fun p9 W _ c9 d9 hb => hK.out _ _ trivial (fun _ => ?_)); have HB := K.call HB hb; have h7 := Row8.keep h7 hb; have h8 := Row8.keep h8 hb; clear hK Kt; simp only [Act.put, List.getElem_toArray, List.getElem_cons_zero, List.getElem_cons_succ, List.setIfInBounds_toArray, List.set_cons_zero, List.set_cons_succ]
            refine wpAnyH_ready (rs := [1]) (by kernel_rfl) (by simp) (AllReadyH.cons rfl (fun Kt hK => ?_) AllReadyH.nil)
            refine wanted_pos rfl ?_; refine wp_one rfl rfl (fun p1 W _ c1 hb => hK.out _ _ trivial (fun _ => ?_)); have HB := K.call HB hb; have c9 := later hb c9; have d9 := later hb d9; have h7 := Row8.keep h7 hb; have h8 := Row8.keep h8 hb; clear hK Kt; simp only [Act.put, List.getElem_toArray, List.getElem_cons_zero, List.getElem_cons_succ, List.setIfInBounds_toArray, List.set_cons_zero, List.set_cons_succ]
            refine wpAnyH_ready (rs := [2]) (by kernel_rfl) (by simp) (AllReadyH.cons rfl (fun Kt hK => ?_) AllReadyH.nil)
            refine wanted_pos rfl ?_; refine wp_sum rfl rfl (C1.out _ _ HB c1) (fun W hb => hK.out _ _ trivial (fun _ => ?_)); have HB := K.call HB hb; have c9 := later hb c9; have d9 := later hb d9; have h7 := Row8.keep h7 hb; have h8 := Row8.keep h8 hb; clear hK Kt; simp only [Act.put, List.getElem_toArray, List.getElem_cons_zero, List.getElem_cons_succ, List.setIfInBounds_toArray, List.set_cons_zero, List.set_cons_succ]
            refine wpAnyH_ready (rs := [10]) (by kernel_rfl) (by simp) (AllReadyH.cons rfl (fun Kt hK => ?_) AllReadyH.nil)
            refine wanted_pos rfl ?_; refine wp_sum rfl rfl (C2.out _ _ HB c9 d9) (fun W hb => hK.out _ _ trivial (fun _ => ?_)); have HB := K.call HB hb; have h7 := Row8.keep h7 hb; have h8 := Row8.keep h8 hb; clear hK Kt; simp only [Act.put, List.getElem_toArray, List.getElem_cons_zero, List.getElem_cons_succ, List.setIfInBounds_toArray, List.set_cons_zero, List.set_cons_succ]
            refine wpAnyH_ready (rs := [13]) (by kernel_rfl) (by simp) (AllReadyH.cons rfl (fun Kt hK => ?_) AllReadyH.nil)
            refine wanted_pos rfl ?_; refine wp_store_mid 25 _ _ rfl p7 0 (ab U 32).toArray rfl rfl (RowB.there h7 U) (inH _) (all_oneCell_toArray (ab_one _ _)) (hK.out _ _ trivial (fun _ => ?_)); obtain ⟨h7, h8, HB⟩ := stored2 (U := U) h7 h8 HB ne e7; generalize W.setCells p7 0 (ab U 32).toArray.toList = W at *; clear hK Kt
            refine wpAnyH_ready (rs := [14]) (by kernel_rfl) (by simp) (AllReadyH.cons rfl (fun Kt hK => ?_) AllReadyH.nil)
            refine wanted_pos rfl ?_; refine wp_store_mid 25 _ _ rfl p8 0 (ab U 32).toArray rfl rfl (RowB.there h8 U) (inH _) (all_oneCell_toArray (ab_one _ _)) (hK.out _ _ trivial (fun _ => ?_)); obtain ⟨h8, h7, HB⟩ := stored2 (U := U) h8 h7 HB (Ne.symm ne) e8; generalize W.setCells p8 0 (ab U 32).toArray.toList = W at *; clear hK Kt
            refine wpAnyH_done (by kernel_rfl) ?_ _
            refine NoPanic.normal ?_
            exact ⟨p1, p9, p7, p8, rfl, h7, h8, HB⟩
    · refine Met.out (fun p1 p9 p7 p8 wc h7 h8 hbc => ?_)
      clear C1 C2 hs1 hs2
      have H7 := hide h7
      have H8 := hide h8
      have HBc := hide hbc
      clear h7 h8 hbc
      go_wp2_with fail
      go_loopg [9] n (fun g s9 wr => ∃ i : Nat, g = n - i ∧ i ≤ n ∧ s9 = .int .i64 i ∧ Below wc.heap.size wc wr)
      case atStart => exact ⟨0, rfl, by omega, rfl, Below.refl _ _⟩
      case round =>
        obtain ⟨i, rfl, hi, rfl, hbw⟩ := hrel
        have hbr : Below X.heap.size X wr := K.call HBc.out hbw
        by_cases hlt : i < n
        · obtain ⟨g, rfl, hr⟩ := HO.out (by omega)
          rcases H.out.at_ with h0 | ⟨bb, oo, rfl, hq⟩
          · omega
          have cg := (hr.keep hbr).c i hlt
          rw [Nat.zero_add] at cg
          have cb := (hq.keep hbr).c i hlt
          have hii : (i : Int) < (n : Int) := by omega
          have HL := hide hlt
          have HBw := hide hbw
          clear hi hr hq hbr hlt hbw
          obtain ⟨y, hy⟩ : ∃ y, y = ((f i : Nat) : Int) := ⟨_, rfl⟩
          rw [← hy] at cg cb
          clear hy
          go_upto_region 10 with fail
          go_region_held3 (fun w' => w' = wr.drew ∧ w'.cell? ⟨g, i, none⟩ = some (.int .u8 y) ∧ w'.cell? ⟨bb, oo + i, none⟩ = some (.int .u8 y))
            (first | (with_reducible assumption) | exact ⟨rfl, cg, cb⟩)
            (fail)
          clear cg cb
          go_wp2_with fail
          go_roundg (n - (i + 1))
          case measure => have := HL.out; omega
          case rel => exact ⟨i + 1, rfl, by have := HL.out; omega, by go_num, K.drew HBw.out⟩
        · obtain rfl : i = n := by omega
          have HT9 := hide (HT.out.keep hbr)
          have HB9 := hide (K.call HB.out hbr)
          have R7 := hide (RowB.range (Row8.keep H7.out hbw))
          have R8 := hide (RowB.range (Row8.keep H8.out hbw))
          have HQ := hide (fun W => eqH_same U W)
          clear hi hlt hbw hbr HO H7 H8 HBc
          have IL := hide (ilH U)
          generalize hV : ab U 32 = V at *
          clear hV
          go_wp2_with (first
            | (refine wpList_load_mid rfl 25 _ rfl p7 0 rfl V _ R7.out Tryd.underlying25 rfl IL.out ?_; simp only [Act.put, List.setIfInBounds_toArray, List.set_cons_zero, List.set_cons_succ])
            | (refine wpList_load_mid rfl 25 _ rfl p8 0 rfl V _ R8.out Tryd.underlying25 rfl IL.out ?_; simp only [Act.put, List.setIfInBounds_toArray, List.set_cons_zero, List.set_cons_succ])
            | (refine wpList_eqH (by rfl) _ _ _ rfl _ _ _ rfl rfl (HQ.out _) ?_; simp only [Act.put, List.setIfInBounds_toArray, List.set_cons_zero, List.set_cons_succ]))
          clear R7 R8 HQ IL
          with_reducible refine Calls.mono (sum_none HT9.out nil8) ?_
          rintro e w5 ⟨rfl, hb⟩
          have HB5 := hide (K.call HB9.out hb)
          have HT5 := hide (HT9.out.keep hb)
          clear hb HB9 HT9
          have C3 := hide (fun (q : Nat) (hq : q = w5.heap.size) => sum_two (w := w5) (x := none) (y := none) (n := 0) (c := 0) (m := 0) (d := 0) (g := nil8) (k := nil8) HT5.out ⟨fun _ => by unfold nil8; omega, Or.inl rfl⟩ (Nat.le_refl _) (by unfold maxLen; omega) ⟨fun _ => by unfold nil8; omega, Or.inl rfl⟩ (Nat.le_refl _) (by unfold maxLen; omega) (by omega) 22 hq)
          have e3 : hA (cat nil8 0 nil8) (0 + 0) = hA nil8 0 := hA_congr (fun i hi => by omega)
          rw [e3] at C3
          have HQ2 := hide (fun W => eqV nil8 0 W)
          clear e3
          generalize hA nil8 0 = V2 at *
          go_wp2_with fail
          with_reducible refine Calls.mono (C3.out _ rfl) ?_
          rintro e w6 ⟨rfl, hb⟩
          have HB6 := hide (K.call HB5.out hb)
          clear hb HB5 HT5 C3
          go_wp2_with (refine wpList_eqH (by rfl) _ _ _ rfl _ _ _ rfl rfl (HQ2.out _) ?_; simp only [Act.put, List.setIfInBounds_toArray, List.set_cons_zero, List.set_cons_succ])
          go_ret
          exact ⟨rfl, HB6.out⟩
  · have hni : (2000 : Int) < n := by omega
    clear hn
    go_enter Tryd.func5, Tryd.ntmps5
    go_wp2_with fail
    with_reducible refine Calls.mono (awake_any HT.out) ?_
    rintro e w1 ⟨rfl, hb1⟩
    have HB1 := hide hb1
    clear hb1
    go_wp2_with fail
    with_reducible refine Calls.mono (awake_any (HT.out.keep HB1.out)) ?_
    rintro e w2 ⟨rfl, hb⟩
    have HB2 := hide (K.call HB1.out hb)
    clear hb HB1
    go_wp2_with fail
    go_ret
    exact ⟨rfl, HB2.out⟩
end Go.Proofs.YtgefbeejjbjfhaaDoor
