/- HmacParts. -/
import Derived.Test.YtiahjnfopeiliaaDoorL7Step
namespace Go.Proofs.YtiahjnfopeiliaaDoor
open Go.RowKit
attribute [local go_sem ↓] Go.wp_at_zero Go.wp_at_succ

/-- The region ends in one way, but for where six blocks lie. -/
def MetP (X : World) (A : Nat → Nat → Nat → Nat → Nat → Nat → Act) : Exit → Act → World → Prop
  | .normal, a, w => ∃ q1 q2 q3 p1 q4 p2, a = A q1 q2 q3 p1 q4 p2 ∧ Below X.heap.size X w
  | _, _, _ => False
theorem MetP.out {X : World} {A : Nat → Nat → Nat → Nat → Nat → Nat → Act} {Q : Exit → Act → World → Prop} (h : ∀ q1 q2 q3 p1 q4 p2 w, Below X.heap.size X w → Q .normal (A q1 q2 q3 p1 q4 p2) w) : ∀ e a w, MetP X A e a w → Q e a w := by
  intro e a w hq
  cases e <;> first | exact (hq : False).elim | (obtain ⟨q1, q2, q3, p1, q4, p2, rfl, hb⟩ := hq; exact h q1 q2 q3 p1 q4 p2 w hb)
theorem cat_cut (g : Nat → Nat) (k : Nat) : cat (fun i => g (0 + i)) k (fun i => g (k + i)) = g := by
  funext i
  unfold cat
  split
  · show g (0 + i) = g i
    rw [Nat.zero_add]
  · show g (k + (i - k)) = g i
    congr 1
    omega
/-- A key with a nought behind it does the same. -/
theorem mac_pad {f g : Nat → Nat} {n m : Nat} (hn : n < 64) : macS (cat f n (fun _ => 0)) (n + 1) g m = macS f n g m := by
  have e : kpad (cat f n (fun _ => 0)) (n + 1) = kpad f n := by
    funext i
    unfold kpad cat
    rw [if_pos (show n + 1 ≤ 64 by omega), if_pos (show n ≤ 64 by omega)]
    by_cases h1 : i < n
    · rw [if_pos (show i < n + 1 by omega), if_pos h1]
    · rw [if_neg h1]
      split <;> rfl
  unfold macS
  rw [e]
set_option maxRecDepth 100000 in
set_option maxHeartbeats 16000000 in
theorem hmacParts_walk {w : World} {a b : Option Addr} {n c m d : Nat} {f g : Nat → Nat} (hT : Tab w) (hx : BA w a n f) (hc : n ≤ c) (hcm : c ≤ maxLen) (hy : BA w b m g) (hd : m ≤ d) (hdm : d ≤ maxLen) {t : Int} (ht : 0 ≤ t) (ht2 : t < 65536) :
    Calls Tryd.prog 5 #[.slice a n c, .slice b m d, .int .u16 t] w fun e w' => e = .returned (.bool true) ∧ Below w.heap.size w w' := by
  have HX := hide hx
  have HY := hide hy
  have HT := hide hT
  have HC := hide (And.intro (And.intro hc hcm) (And.intro hd hdm))
  clear hx hy hT hc hcm hd hdm
  by_cases hn : n ≤ 500
  · by_cases hm : m ≤ 500
    · have hni : (n : Int) ≤ 500 := by omega
      have hmi : (m : Int) ≤ 500 := by omega
      have HN := hide (And.intro hn hm)
      clear hn hm
      go_enter Tryd.func5, Tryd.ntmps5
      go_wp2_with fail
      with_reducible refine Calls.mono (awake_any HT.out) ?_
      rintro e w1 ⟨rfl, hb1⟩
      have HB1 := hide hb1
      have HT1 := hide (HT.out.keep hb1)
      have HX1 := hide (HX.out.keep hb1)
      have HY1 := hide (HY.out.keep hb1)
      clear hb1
      obtain ⟨k, hk⟩ : ∃ k : Nat, (k : Int) = t % ((m : Int) + 1) := ⟨(t % ((m : Int) + 1)).toNat, Int.toNat_of_nonneg (Int.emod_nonneg _ (by omega))⟩
      have HKm : Hid (k ≤ m) := by
        have : t % ((m : Int) + 1) < (m : Int) + 1 := Int.emod_lt_of_pos _ (by omega)
        show k ≤ m
        omega
      have k1 : t % ((m : Int) + 1) = (k : Int) := hk.symm
      have k2 : t.tmod ((m : Int) + 1) = (k : Int) := by rw [Int.tmod_eq_emod_of_nonneg ht, hk]
      have k3 : ¬ (m : Int) + 1 = 0 := by omega
      clear hk
      obtain ⟨X, hXe⟩ : ∃ X, X = w1 := ⟨_, rfl⟩
      rw [← hXe] at HB1 HT1 HX1 HY1 ⊢
      clear hXe
      go_upto_region 4 with fail
      clear k1 k2 k3
      have hs1 := fun W => run_firstA (a := b) (n := m) (c := d) HKm.out HC.out.2.1 W
      have hs2 := fun W => run_cutA (a := b) (n := m) (c := d) HKm.out W
      have C1 : Hid (∀ (W : World) (q : Nat), Below X.heap.size X W → W.cell? ⟨q, 0, none⟩ = some (.slice b m d) → Calls Tryd.prog 9 #[.slice a n c, .slice (some ⟨q, 0, none⟩) 1 1] W fun e w' => e = .returned (.agg (ab (hByte (macS f n g m)) 32).toArray) ∧ Below W.heap.size W w') := fun W q hb hq => mac_one_at (HT1.out.keep hb) (HX1.out.keep hb) HC.out.1.1 HC.out.1.2 (by have := HN.out; omega) (HY1.out.keep hb) HC.out.2.1 HC.out.2.2 (by have := HN.out; omega) hq
      have C2 : Hid (∀ (W : World) (q : Nat), Below X.heap.size X W → W.cell? ⟨q, 0, none⟩ = some (.slice (cutA b d 0) k d) → W.cell? ⟨q, 1, none⟩ = some (.slice (cutA b d k) (m - k) (d - k)) → Calls Tryd.prog 9 #[.slice a n c, .slice (some ⟨q, 0, none⟩) 2 2] W fun e w' => e = .returned (.agg (ab (hByte (macS f n g m)) 32).toArray) ∧ Below W.heap.size W w') := fun W q hb hq hq2 => by
        have h := mac_two_at (HT1.out.keep hb) (HX1.out.keep hb) HC.out.1.1 HC.out.1.2 (by have := HN.out; omega) ((HY1.out.keep hb).cut d 0 k (by have := HKm.out; omega) HC.out.2.1) (by have := HKm.out; have := HC.out; omega) HC.out.2.2 ((HY1.out.keep hb).cut d k (m - k) (by have := HKm.out; omega) HC.out.2.1) (by have := HC.out; omega) (by have := HC.out; omega) (by have := HN.out; have := HKm.out; omega) hq hq2
        unfold mA at h
        rw [cat_cut, show k + (m - k) = m by have := HKm.out; omega] at h
        exact h
      have C3 : Hid (∀ (W : World) (q : Nat), Below X.heap.size X W → W.cell? ⟨q, 0, none⟩ = some (.slice b m d) → Calls Tryd.prog 11 #[.slice (some ⟨q, 0, none⟩) 1 1] W fun e w' => ∃ p, e = .returned (.pointer (some ⟨p, 0, none⟩)) ∧ W.heap.size ≤ p ∧ Stm w' p (kvSeed g m) false ∧ Below W.heap.size W w') := fun W q hb hq => new_one_at (HT1.out.keep hb) (HY1.out.keep hb) HC.out.2.1 HC.out.2.2 (by have := HN.out; omega) hq
      have C4 : Hid (∀ (W : World) (q : Nat), Below X.heap.size X W → W.cell? ⟨q, 0, none⟩ = some (.slice (cutA b d 0) k d) → W.cell? ⟨q, 1, none⟩ = some (.slice (cutA b d k) (m - k) (d - k)) → Calls Tryd.prog 11 #[.slice (some ⟨q, 0, none⟩) 2 2] W fun e w' => ∃ p, e = .returned (.pointer (some ⟨p, 0, none⟩)) ∧ W.heap.size ≤ p ∧ Stm w' p (kvSeed g m) false ∧ Below W.heap.size W w') := fun W q hb hq hq2 => by
        have h := new_two_at (HT1.out.keep hb) ((HY1.out.keep hb).cut d 0 k (by have := HKm.out; omega) HC.out.2.1) (by have := HKm.out; have := HC.out; omega) HC.out.2.2 ((HY1.out.keep hb).cut d k (m - k) (by have := HKm.out; omega) HC.out.2.1) (by have := HC.out; omega) (by have := HC.out; omega) (by have := HN.out; have := HKm.out; omega) hq hq2
        rw [cat_cut, show k + (m - k) = m by have := HKm.out; omega] at h
        exact h
      obtain ⟨U2, hU2⟩ : ∃ U2, U2 = (kvMore (kvSeed g m) false).v := ⟨_, rfl⟩
      have C5 : Hid (∀ (W : World) (p : Nat), Below X.heap.size X W → X.heap.size ≤ p → Stm W p (kvSeed g m) false → Calls Tryd.prog 13 #[.pointer (some ⟨p, 0, none⟩)] W fun e w' => e = .returned (.agg (ab U2 32).toArray) ∧ W.grownBy w' (some p)) := fun W p hb hp hS => by
        have h := next_any (HT1.out.keep hb) (by have := HT1.out.lt; omega) hS (kvSeed_ok _ _)
        rw [← hU2] at h
        exact Calls.mono h (fun e w' ⟨h1, _, h3⟩ => ⟨h1, h3⟩)
      have HQ1 := hide (fun W => eqM (hByte (macS f n g m)) W)
      have HQ2 := hide (fun W => eqM U2 W)
      clear hU2
      have D1 := C1
      generalize hByte (macS f n g m) = U1 at C1 C2 HQ1
      apply wp_mono (Q := MetP X _)
      · refine wp_region_noPanic ?_
        refine wp_region_held_drew (S := fun _ => True) (by kernel_rfl) trivial (fun _ => ?_)
        have hB : Below X.heap.size X X.drew := K.drew (Below.refl _ _)
        refine wpAnyH_take (i := 0) (v := .slice a n c) rfl (by kernel_rfl) (by kernel_rfl) (by kernel_rfl) (fun _ _ _ h => h) (Or.inl ⟨by rfl, fun w' _ => by go_simp⟩) trivial ?_
        simp only [Act.put, List.getElem_toArray, List.getElem_cons_zero, List.setIfInBounds_toArray, List.set_cons_zero, List.set_cons_succ]
        refine wpAnyH_take (i := 1) (v := .slice b m d) rfl (by kernel_rfl) (by kernel_rfl) (by kernel_rfl) (fun _ _ _ h => h) (Or.inl ⟨by rfl, fun w' _ => by go_simp⟩) trivial ?_
        simp only [Act.put, List.getElem_toArray, List.getElem_cons_zero, List.getElem_cons_succ, List.setIfInBounds_toArray, List.set_cons_zero, List.set_cons_succ]
        refine wpAnyH_take (i := 4) (v := .slice a n c) rfl (by kernel_rfl) (by kernel_rfl) (by kernel_rfl) (fun _ _ _ h => h) (Or.inl ⟨by rfl, fun w' _ => by go_simp⟩) trivial ?_
        simp only [Act.put, List.getElem_toArray, List.getElem_cons_zero, List.getElem_cons_succ, List.setIfInBounds_toArray, List.set_cons_zero, List.set_cons_succ]
        refine wpAnyH_take (i := 5) (v := .slice b m d) rfl (by kernel_rfl) (by kernel_rfl) (by kernel_rfl) (fun _ _ _ h => h) (Or.inl ⟨by rfl, fun w' _ => by go_simp⟩) trivial ?_
        simp only [Act.put, List.getElem_toArray, List.getElem_cons_zero, List.getElem_cons_succ, List.setIfInBounds_toArray, List.set_cons_zero, List.set_cons_succ]
        refine wpAnyH_take (i := 6) (v := .int .i64 (k : Int)) rfl (by kernel_rfl) (by kernel_rfl) (by kernel_rfl) (fun _ _ _ h => h) (Or.inl ⟨by rfl, fun w' _ => by go_simp⟩) trivial ?_
        simp only [Act.put, List.getElem_toArray, List.getElem_cons_zero, List.getElem_cons_succ, List.setIfInBounds_toArray, List.set_cons_zero, List.set_cons_succ]
        refine wpAnyH_take (i := 7) (v := .slice (cutA b d 0) k d) rfl (by kernel_rfl) (by kernel_rfl) (by kernel_rfl) (fun _ _ _ h => h) (Or.inl ⟨by rfl, fun w' _ => by go_simp⟩) trivial ?_
        simp only [Act.put, List.getElem_toArray, List.getElem_cons_zero, List.getElem_cons_succ, List.setIfInBounds_toArray, List.set_cons_zero, List.set_cons_succ]
        refine wpAnyH_take (i := 8) (v := .slice b m d) rfl (by kernel_rfl) (by kernel_rfl) (by kernel_rfl) (fun _ _ _ h => h) (Or.inl ⟨by rfl, fun w' _ => by go_simp⟩) trivial ?_
        simp only [Act.put, List.getElem_toArray, List.getElem_cons_zero, List.getElem_cons_succ, List.setIfInBounds_toArray, List.set_cons_zero, List.set_cons_succ]
        refine wpAnyH_take (i := 9) (v := .int .i64 (k : Int)) rfl (by kernel_rfl) (by kernel_rfl) (by kernel_rfl) (fun _ _ _ h => h) (Or.inl ⟨by rfl, fun w' _ => by go_simp⟩) trivial ?_
        simp only [Act.put, List.getElem_toArray, List.getElem_cons_zero, List.getElem_cons_succ, List.setIfInBounds_toArray, List.set_cons_zero, List.set_cons_succ]
        refine wpAnyH_take (i := 10) (v := .slice (cutA b d k) (m - k) (d - k)) rfl (by kernel_rfl) (by kernel_rfl) (by kernel_rfl) (fun _ _ _ h => h) (Or.inl ⟨by rfl, fun w' _ => by go_simp⟩) trivial ?_
        simp only [Act.put, List.getElem_toArray, List.getElem_cons_zero, List.getElem_cons_succ, List.setIfInBounds_toArray, List.set_cons_zero, List.set_cons_succ]
        refine wpAnyH_ready (rs := [2, 11]) (by kernel_rfl) (by simp) (AllReadyH.cons rfl (fun Kt hK => ?_) (AllReadyH.cons rfl (fun Kt hK => ?_) AllReadyH.nil))
        · refine wanted_pos rfl ?_
          refine wp_one rfl rfl (fun qa W1 _ hca hw1 => hK.out _ _ trivial (fun _ => ?_))
          clear hK Kt
          simp only [Act.put, List.getElem_toArray, List.getElem_cons_zero, List.getElem_cons_succ, List.setIfInBounds_toArray, List.set_cons_zero, List.set_cons_succ]
          replace hB := K.call hB hw1
          clear hw1
          refine wpAnyH_ready (rs := [3, 11]) (by kernel_rfl) (by simp) (AllReadyH.cons rfl (fun Kt hK => ?_) (AllReadyH.cons rfl (fun Kt hK => ?_) AllReadyH.nil))
          · refine wanted_pos rfl ?_
            refine wp_call (R := fun r w' => r = .agg (ab U1 32).toArray ∧ Below W1.heap.size W1 w') (vs := #[.slice a n c, .slice (some ⟨qa, 0, none⟩) 1 1]) rfl (by simp only [List.map_toArray, List.map_cons, List.map_nil]; rfl) (by go_simp) (Calls.mono (C1.out _ _ hB hca) (fun e w' ⟨he, hb⟩ => ⟨_, he, rfl, hb⟩)) (fun r W2 ⟨hr, hw2⟩ => ?_)
            subst hr
            refine hK.out _ _ trivial (fun _ => ?_)
            clear hK Kt
            simp only [Act.put, List.getElem_toArray, List.getElem_cons_zero, List.getElem_cons_succ, List.setIfInBounds_toArray, List.set_cons_zero, List.set_cons_succ]
            replace hB := K.call hB hw2
            clear hw2 hca
            refine wpAnyH_ready (rs := [11]) (by kernel_rfl) (by simp) (AllReadyH.cons rfl (fun Kt hK => ?_) AllReadyH.nil)
            refine wanted_pos rfl ?_
            refine wp_two rfl rfl rfl (fun qb W3 _ hcb hcbb hw3 => hK.out _ _ trivial (fun _ => ?_))
            clear hK Kt
            simp only [Act.put, List.getElem_toArray, List.getElem_cons_zero, List.getElem_cons_succ, List.setIfInBounds_toArray, List.set_cons_zero, List.set_cons_succ]
            replace hB := K.call hB hw3
            clear hw3
            refine wpAnyH_ready (rs := [12]) (by kernel_rfl) (by simp) (AllReadyH.cons rfl (fun Kt hK => ?_) AllReadyH.nil)
            refine wanted_pos rfl ?_
            refine wp_call (R := fun r w' => r = .agg (ab U1 32).toArray ∧ Below W3.heap.size W3 w') (vs := #[.slice a n c, .slice (some ⟨qb, 0, none⟩) 2 2]) rfl (by simp only [List.map_toArray, List.map_cons, List.map_nil]; rfl) (by go_simp) (Calls.mono (C2.out _ _ hB hcb hcbb) (fun e w' ⟨he, hb⟩ => ⟨_, he, rfl, hb⟩)) (fun r W4 ⟨hr, hw4⟩ => ?_)
            subst hr
            refine hK.out _ _ trivial (fun _ => ?_)
            clear hK Kt
            simp only [Act.put, List.getElem_toArray, List.getElem_cons_zero, List.getElem_cons_succ, List.setIfInBounds_toArray, List.set_cons_zero, List.set_cons_succ]
            replace hB := K.call hB hw4
            clear hw4 hcb hcbb
            refine wpAnyH_ready (rs := [13]) (by kernel_rfl) (by simp) (AllReadyH.cons rfl (fun Kt hK => ?_) AllReadyH.nil)
            refine wanted_pos rfl ?_
            refine wp_neH rfl rfl rfl (HQ1.out _) (hK.out _ _ trivial (fun _ => ?_))
            clear hK Kt
            simp only [Act.put, List.getElem_toArray, List.getElem_cons_zero, List.getElem_cons_succ, List.setIfInBounds_toArray, List.set_cons_zero, List.set_cons_succ]
            refine wpAnyH_take (i := 14) (v := .bool false) rfl (by kernel_rfl) (by kernel_rfl) (by kernel_rfl) (fun _ _ _ h => h) (Or.inl ⟨by rfl, fun w' _ => by go_simp⟩) trivial ?_
            simp only [Act.put, List.getElem_toArray, List.getElem_cons_zero, List.getElem_cons_succ, List.setIfInBounds_toArray, List.set_cons_zero, List.set_cons_succ]
            refine wpAnyH_take (i := 15) (v := .slice b m d) rfl (by kernel_rfl) (by kernel_rfl) (by kernel_rfl) (fun _ _ _ h => h) (Or.inl ⟨by rfl, fun w' _ => by go_simp⟩) trivial ?_
            simp only [Act.put, List.getElem_toArray, List.getElem_cons_zero, List.getElem_cons_succ, List.setIfInBounds_toArray, List.set_cons_zero, List.set_cons_succ]
            refine wpAnyH_take (i := 19) (v := .slice b m d) rfl (by kernel_rfl) (by kernel_rfl) (by kernel_rfl) (fun _ _ _ h => h) (Or.inl ⟨by rfl, fun w' _ => by go_simp⟩) trivial ?_
            simp only [Act.put, List.getElem_toArray, List.getElem_cons_zero, List.getElem_cons_succ, List.setIfInBounds_toArray, List.set_cons_zero, List.set_cons_succ]
            refine wpAnyH_take (i := 20) (v := .int .i64 (k : Int)) rfl (by kernel_rfl) (by kernel_rfl) (by kernel_rfl) (fun _ _ _ h => h) (Or.inl ⟨by rfl, fun w' _ => by go_simp⟩) trivial ?_
            simp only [Act.put, List.getElem_toArray, List.getElem_cons_zero, List.getElem_cons_succ, List.setIfInBounds_toArray, List.set_cons_zero, List.set_cons_succ]
            refine wpAnyH_take (i := 21) (v := .slice (cutA b d 0) k d) rfl (by kernel_rfl) (by kernel_rfl) (by kernel_rfl) (fun _ _ _ h => h) (Or.inl ⟨by rfl, fun w' _ => by go_simp⟩) trivial ?_
            simp only [Act.put, List.getElem_toArray, List.getElem_cons_zero, List.getElem_cons_succ, List.setIfInBounds_toArray, List.set_cons_zero, List.set_cons_succ]
            refine wpAnyH_take (i := 22) (v := .slice b m d) rfl (by kernel_rfl) (by kernel_rfl) (by kernel_rfl) (fun _ _ _ h => h) (Or.inl ⟨by rfl, fun w' _ => by go_simp⟩) trivial ?_
            simp only [Act.put, List.getElem_toArray, List.getElem_cons_zero, List.getElem_cons_succ, List.setIfInBounds_toArray, List.set_cons_zero, List.set_cons_succ]
            refine wpAnyH_take (i := 23) (v := .int .i64 (k : Int)) rfl (by kernel_rfl) (by kernel_rfl) (by kernel_rfl) (fun _ _ _ h => h) (Or.inl ⟨by rfl, fun w' _ => by go_simp⟩) trivial ?_
            simp only [Act.put, List.getElem_toArray, List.getElem_cons_zero, List.getElem_cons_succ, List.setIfInBounds_toArray, List.set_cons_zero, List.set_cons_succ]
            refine wpAnyH_take (i := 24) (v := .slice (cutA b d k) (m - k) (d - k)) rfl (by kernel_rfl) (by kernel_rfl) (by kernel_rfl) (fun _ _ _ h => h) (Or.inl ⟨by rfl, fun w' _ => by go_simp⟩) trivial ?_
            simp only [Act.put, List.getElem_toArray, List.getElem_cons_zero, List.getElem_cons_succ, List.setIfInBounds_toArray, List.set_cons_zero, List.set_cons_succ]
            refine wpAnyH_ready (rs := [16, 25]) (by kernel_rfl) (by simp) (AllReadyH.cons rfl (fun Kt hK => ?_) (AllReadyH.cons rfl (fun Kt hK => ?_) AllReadyH.nil))
            · refine wanted_pos rfl ?_
              refine wp_one rfl rfl (fun qc W5 _ hcc hw5 => hK.out _ _ trivial (fun _ => ?_))
              clear hK Kt
              simp only [Act.put, List.getElem_toArray, List.getElem_cons_zero, List.getElem_cons_succ, List.setIfInBounds_toArray, List.set_cons_zero, List.set_cons_succ]
              replace hB := K.call hB hw5
              clear hw5
              refine wpAnyH_ready (rs := [17, 25]) (by kernel_rfl) (by simp) (AllReadyH.cons rfl (fun Kt hK => ?_) (AllReadyH.cons rfl (fun Kt hK => ?_) AllReadyH.nil))
              · refine wanted_pos rfl ?_
                refine wp_call (R := fun r w' => ∃ p, r = .pointer (some ⟨p, 0, none⟩) ∧ W5.heap.size ≤ p ∧ Stm w' p (kvSeed g m) false ∧ Below W5.heap.size W5 w') (vs := #[.slice (some ⟨qc, 0, none⟩) 1 1]) rfl (by simp only [List.map_toArray, List.map_cons, List.map_nil]; rfl) (by go_simp) (Calls.mono (C3.out _ _ hB hcc) (fun e w' ⟨p, he, h1, h2, hb⟩ => ⟨_, he, p, rfl, h1, h2, hb⟩)) (fun r W6 ⟨p1, hr, hp, hS1, hw6⟩ => ?_)
                subst hr
                refine hK.out _ _ trivial (fun _ => ?_)
                clear hK Kt
                simp only [Act.put, List.getElem_toArray, List.getElem_cons_zero, List.getElem_cons_succ, List.setIfInBounds_toArray, List.set_cons_zero, List.set_cons_succ]
                have gp1 : X.heap.size ≤ p1 := Nat.le_trans hB.size hp
                replace hB := K.call hB hw6
                clear hp hw6 hcc
                refine wpAnyH_ready (rs := [18, 25]) (by kernel_rfl) (by simp) (AllReadyH.cons rfl (fun Kt hK => ?_) (AllReadyH.cons rfl (fun Kt hK => ?_) AllReadyH.nil))
                · refine wanted_pos rfl ?_
                  refine wp_call (R := fun r w' => r = .agg (ab U2 32).toArray ∧ W6.grownBy w' (some p1)) (vs := #[.pointer (some ⟨p1, 0, none⟩)]) rfl (by simp only [List.map_toArray, List.map_cons, List.map_nil]; rfl) (by go_simp) (Calls.mono (C5.out _ _ hB gp1 hS1) (fun e w' ⟨he, hb⟩ => ⟨_, he, rfl, hb⟩)) (fun r W7 ⟨hr, hw7⟩ => ?_)
                  subst hr
                  refine hK.out _ _ trivial (fun _ => ?_)
                  clear hK Kt
                  simp only [Act.put, List.getElem_toArray, List.getElem_cons_zero, List.getElem_cons_succ, List.setIfInBounds_toArray, List.set_cons_zero, List.set_cons_succ]
                  replace hB : Below X.heap.size X W7 := hB.grown hw7 hB.size (fun k hk => by cases hk; exact gp1)
                  clear hw7 hS1
                  refine wpAnyH_ready (rs := [25]) (by kernel_rfl) (by simp) (AllReadyH.cons rfl (fun Kt hK => ?_) AllReadyH.nil)
                  refine wanted_pos rfl ?_
                  refine wp_two rfl rfl rfl (fun qd W8 _ hcd hcdb hw8 => hK.out _ _ trivial (fun _ => ?_))
                  clear hK Kt
                  simp only [Act.put, List.getElem_toArray, List.getElem_cons_zero, List.getElem_cons_succ, List.setIfInBounds_toArray, List.set_cons_zero, List.set_cons_succ]
                  replace hB := K.call hB hw8
                  clear hw8
                  refine wpAnyH_ready (rs := [26]) (by kernel_rfl) (by simp) (AllReadyH.cons rfl (fun Kt hK => ?_) AllReadyH.nil)
                  refine wanted_pos rfl ?_
                  refine wp_call (R := fun r w' => ∃ p, r = .pointer (some ⟨p, 0, none⟩) ∧ W8.heap.size ≤ p ∧ Stm w' p (kvSeed g m) false ∧ Below W8.heap.size W8 w') (vs := #[.slice (some ⟨qd, 0, none⟩) 2 2]) rfl (by simp only [List.map_toArray, List.map_cons, List.map_nil]; rfl) (by go_simp) (Calls.mono (C4.out _ _ hB hcd hcdb) (fun e w' ⟨p, he, h1, h2, hb⟩ => ⟨_, he, p, rfl, h1, h2, hb⟩)) (fun r W9 ⟨p2, hr, hp, hS2, hw9⟩ => ?_)
                  subst hr
                  refine hK.out _ _ trivial (fun _ => ?_)
                  clear hK Kt
                  simp only [Act.put, List.getElem_toArray, List.getElem_cons_zero, List.getElem_cons_succ, List.setIfInBounds_toArray, List.set_cons_zero, List.set_cons_succ]
                  have gp2 : X.heap.size ≤ p2 := Nat.le_trans hB.size hp
                  replace hB := K.call hB hw9
                  clear hp hw9 hcd hcdb
                  refine wpAnyH_ready (rs := [27]) (by kernel_rfl) (by simp) (AllReadyH.cons rfl (fun Kt hK => ?_) AllReadyH.nil)
                  refine wanted_pos rfl ?_
                  refine wp_call (R := fun r w' => r = .agg (ab U2 32).toArray ∧ W9.grownBy w' (some p2)) (vs := #[.pointer (some ⟨p2, 0, none⟩)]) rfl (by simp only [List.map_toArray, List.map_cons, List.map_nil]; rfl) (by go_simp) (Calls.mono (C5.out _ _ hB gp2 hS2) (fun e w' ⟨he, hb⟩ => ⟨_, he, rfl, hb⟩)) (fun r W10 ⟨hr, hw10⟩ => ?_)
                  subst hr
                  refine hK.out _ _ trivial (fun _ => ?_)
                  clear hK Kt
                  simp only [Act.put, List.getElem_toArray, List.getElem_cons_zero, List.getElem_cons_succ, List.setIfInBounds_toArray, List.set_cons_zero, List.set_cons_succ]
                  replace hB : Below X.heap.size X W10 := hB.grown hw10 hB.size (fun k hk => by cases hk; exact gp2)
                  clear hw10 hS2
                  refine wpAnyH_ready (rs := [28]) (by kernel_rfl) (by simp) (AllReadyH.cons rfl (fun Kt hK => ?_) AllReadyH.nil)
                  refine wanted_pos rfl ?_
                  refine wp_neH rfl rfl rfl (HQ2.out _) (hK.out _ _ trivial (fun _ => ?_))
                  clear hK Kt
                  simp only [Act.put, List.getElem_toArray, List.getElem_cons_zero, List.getElem_cons_succ, List.setIfInBounds_toArray, List.set_cons_zero, List.set_cons_succ]
                  refine wpAnyH_take (i := 29) (v := .bool false) rfl (by kernel_rfl) (by kernel_rfl) (by kernel_rfl) (fun _ _ _ h => h) (Or.inl ⟨by rfl, fun w' _ => by go_simp⟩) trivial ?_
                  simp only [Act.put, List.getElem_toArray, List.getElem_cons_zero, List.getElem_cons_succ, List.setIfInBounds_toArray, List.set_cons_zero, List.set_cons_succ]
                  refine wpAnyH_done (by kernel_rfl) ?_ _
                  refine NoPanic.normal ?_
                  exact ⟨qa, qb, qc, p1, qd, p2, rfl, hB⟩
                · refine wanted_pos rfl ?_
                  refine wp_two rfl rfl rfl (fun qd W7 hq hcd hcdb hw7 => hK.out _ _ trivial (fun _ => ?_))
                  clear hK Kt
                  simp only [Act.put, List.getElem_toArray, List.getElem_cons_zero, List.getElem_cons_succ, List.setIfInBounds_toArray, List.set_cons_zero, List.set_cons_succ]
                  have hne : qd ≠ p1 := by have := hS1.lt; omega
                  replace hB := K.call hB hw7
                  replace hS1 := hS1.keep hw7
                  clear hw7
                  refine wpAnyH_ready (rs := [18]) (by kernel_rfl) (by simp) (AllReadyH.cons rfl (fun Kt hK => ?_) AllReadyH.nil)
                  refine wanted_pos rfl ?_
                  refine wp_call (R := fun r w' => r = .agg (ab U2 32).toArray ∧ W7.grownBy w' (some p1)) (vs := #[.pointer (some ⟨p1, 0, none⟩)]) rfl (by simp only [List.map_toArray, List.map_cons, List.map_nil]; rfl) (by go_simp) (Calls.mono (C5.out _ _ hB gp1 hS1) (fun e w' ⟨he, hb⟩ => ⟨_, he, rfl, hb⟩)) (fun r W8 ⟨hr, hw8⟩ => ?_)
                  subst hr
                  refine hK.out _ _ trivial (fun _ => ?_)
                  clear hK Kt
                  simp only [Act.put, List.getElem_toArray, List.getElem_cons_zero, List.getElem_cons_succ, List.setIfInBounds_toArray, List.set_cons_zero, List.set_cons_succ]
                  replace hB : Below X.heap.size X W8 := hB.grown hw8 hB.size (fun k hk => by cases hk; exact gp1)
                  replace hcd := hw8.cell hcd (by simpa using hne)
                  replace hcdb := hw8.cell hcdb (by simpa using hne)
                  clear hw8 hS1
                  refine wpAnyH_ready (rs := [26]) (by kernel_rfl) (by simp) (AllReadyH.cons rfl (fun Kt hK => ?_) AllReadyH.nil)
                  refine wanted_pos rfl ?_
                  refine wp_call (R := fun r w' => ∃ p, r = .pointer (some ⟨p, 0, none⟩) ∧ W8.heap.size ≤ p ∧ Stm w' p (kvSeed g m) false ∧ Below W8.heap.size W8 w') (vs := #[.slice (some ⟨qd, 0, none⟩) 2 2]) rfl (by simp only [List.map_toArray, List.map_cons, List.map_nil]; rfl) (by go_simp) (Calls.mono (C4.out _ _ hB hcd hcdb) (fun e w' ⟨p, he, h1, h2, hb⟩ => ⟨_, he, p, rfl, h1, h2, hb⟩)) (fun r W9 ⟨p2, hr, hp, hS2, hw9⟩ => ?_)
                  subst hr
                  refine hK.out _ _ trivial (fun _ => ?_)
                  clear hK Kt
                  simp only [Act.put, List.getElem_toArray, List.getElem_cons_zero, List.getElem_cons_succ, List.setIfInBounds_toArray, List.set_cons_zero, List.set_cons_succ]
                  have gp2 : X.heap.size ≤ p2 := Nat.le_trans hB.size hp
                  replace hB := K.call hB hw9
                  clear hp hw9 hcd hcdb
                  refine wpAnyH_ready (rs := [27]) (by kernel_rfl) (by simp) (AllReadyH.cons rfl (fun Kt hK => ?_) AllReadyH.nil)
                  refine wanted_pos rfl ?_
                  refine wp_call (R := fun r w' => r = .agg (ab U2 32).toArray ∧ W9.grownBy w' (some p2)) (vs := #[.pointer (some ⟨p2, 0, none⟩)]) rfl (by simp only [List.map_toArray, List.map_cons, List.map_nil]; rfl) (by go_simp) (Calls.mono (C5.out _ _ hB gp2 hS2) (fun e w' ⟨he, hb⟩ => ⟨_, he, rfl, hb⟩)) (fun r W10 ⟨hr, hw10⟩ => ?_)
                  subst hr
                  refine hK.out _ _ trivial (fun _ => ?_)
                  clear hK Kt
                  simp only [Act.put, List.getElem_toArray, List.getElem_cons_zero, List.getElem_cons_succ, List.setIfInBounds_toArray, List.set_cons_zero, List.set_cons_succ]
                  replace hB : Below X.heap.size X W10 := hB.grown hw10 hB.size (fun k hk => by cases hk; exact gp2)
                  clear hw10 hS2
                  refine wpAnyH_ready (rs := [28]) (by kernel_rfl) (by simp) (AllReadyH.cons rfl (fun Kt hK => ?_) AllReadyH.nil)
                  refine wanted_pos rfl ?_
                  refine wp_neH rfl rfl rfl (HQ2.out _) (hK.out _ _ trivial (fun _ => ?_))
                  clear hK Kt
                  simp only [Act.put, List.getElem_toArray, List.getElem_cons_zero, List.getElem_cons_succ, List.setIfInBounds_toArray, List.set_cons_zero, List.set_cons_succ]
                  refine wpAnyH_take (i := 29) (v := .bool false) rfl (by kernel_rfl) (by kernel_rfl) (by kernel_rfl) (fun _ _ _ h => h) (Or.inl ⟨by rfl, fun w' _ => by go_simp⟩) trivial ?_
                  simp only [Act.put, List.getElem_toArray, List.getElem_cons_zero, List.getElem_cons_succ, List.setIfInBounds_toArray, List.set_cons_zero, List.set_cons_succ]
                  refine wpAnyH_done (by kernel_rfl) ?_ _
                  refine NoPanic.normal ?_
                  exact ⟨qa, qb, qc, p1, qd, p2, rfl, hB⟩
              · refine wanted_pos rfl ?_
                refine wp_two rfl rfl rfl (fun qd W6 _ hcd hcdb hw6 => hK.out _ _ trivial (fun _ => ?_))
                clear hK Kt
                simp only [Act.put, List.getElem_toArray, List.getElem_cons_zero, List.getElem_cons_succ, List.setIfInBounds_toArray, List.set_cons_zero, List.set_cons_succ]
                replace hB := K.call hB hw6
                replace hcc := later hw6 hcc
                clear hw6
                refine wpAnyH_ready (rs := [17]) (by kernel_rfl) (by simp) (AllReadyH.cons rfl (fun Kt hK => ?_) AllReadyH.nil)
                refine wanted_pos rfl ?_
                refine wp_call (R := fun r w' => ∃ p, r = .pointer (some ⟨p, 0, none⟩) ∧ W6.heap.size ≤ p ∧ Stm w' p (kvSeed g m) false ∧ Below W6.heap.size W6 w') (vs := #[.slice (some ⟨qc, 0, none⟩) 1 1]) rfl (by simp only [List.map_toArray, List.map_cons, List.map_nil]; rfl) (by go_simp) (Calls.mono (C3.out _ _ hB hcc) (fun e w' ⟨p, he, h1, h2, hb⟩ => ⟨_, he, p, rfl, h1, h2, hb⟩)) (fun r W7 ⟨p1, hr, hp, hS1, hw7⟩ => ?_)
                subst hr
                refine hK.out _ _ trivial (fun _ => ?_)
                clear hK Kt
                simp only [Act.put, List.getElem_toArray, List.getElem_cons_zero, List.getElem_cons_succ, List.setIfInBounds_toArray, List.set_cons_zero, List.set_cons_succ]
                have gp1 : X.heap.size ≤ p1 := Nat.le_trans hB.size hp
                have hne : qd ≠ p1 := by have := World.block_lt_of_cell? _ _ hcd; simp only at this; omega
                replace hB := K.call hB hw7
                replace hcd := later hw7 hcd
                replace hcdb := later hw7 hcdb
                clear hp hw7 hcc
                refine wpAnyH_ready (rs := [18]) (by kernel_rfl) (by simp) (AllReadyH.cons rfl (fun Kt hK => ?_) AllReadyH.nil)
                refine wanted_pos rfl ?_
                refine wp_call (R := fun r w' => r = .agg (ab U2 32).toArray ∧ W7.grownBy w' (some p1)) (vs := #[.pointer (some ⟨p1, 0, none⟩)]) rfl (by simp only [List.map_toArray, List.map_cons, List.map_nil]; rfl) (by go_simp) (Calls.mono (C5.out _ _ hB gp1 hS1) (fun e w' ⟨he, hb⟩ => ⟨_, he, rfl, hb⟩)) (fun r W8 ⟨hr, hw8⟩ => ?_)
                subst hr
                refine hK.out _ _ trivial (fun _ => ?_)
                clear hK Kt
                simp only [Act.put, List.getElem_toArray, List.getElem_cons_zero, List.getElem_cons_succ, List.setIfInBounds_toArray, List.set_cons_zero, List.set_cons_succ]
                replace hB : Below X.heap.size X W8 := hB.grown hw8 hB.size (fun k hk => by cases hk; exact gp1)
                replace hcd := hw8.cell hcd (by simpa using hne)
                replace hcdb := hw8.cell hcdb (by simpa using hne)
                clear hw8 hS1
                refine wpAnyH_ready (rs := [26]) (by kernel_rfl) (by simp) (AllReadyH.cons rfl (fun Kt hK => ?_) AllReadyH.nil)
                refine wanted_pos rfl ?_
                refine wp_call (R := fun r w' => ∃ p, r = .pointer (some ⟨p, 0, none⟩) ∧ W8.heap.size ≤ p ∧ Stm w' p (kvSeed g m) false ∧ Below W8.heap.size W8 w') (vs := #[.slice (some ⟨qd, 0, none⟩) 2 2]) rfl (by simp only [List.map_toArray, List.map_cons, List.map_nil]; rfl) (by go_simp) (Calls.mono (C4.out _ _ hB hcd hcdb) (fun e w' ⟨p, he, h1, h2, hb⟩ => ⟨_, he, p, rfl, h1, h2, hb⟩)) (fun r W9 ⟨p2, hr, hp, hS2, hw9⟩ => ?_)
                subst hr
                refine hK.out _ _ trivial (fun _ => ?_)
                clear hK Kt
                simp only [Act.put, List.getElem_toArray, List.getElem_cons_zero, List.getElem_cons_succ, List.setIfInBounds_toArray, List.set_cons_zero, List.set_cons_succ]
                have gp2 : X.heap.size ≤ p2 := Nat.le_trans hB.size hp
                replace hB := K.call hB hw9
                clear hp hw9 hcd hcdb
                refine wpAnyH_ready (rs := [27]) (by kernel_rfl) (by simp) (AllReadyH.cons rfl (fun Kt hK => ?_) AllReadyH.nil)
                refine wanted_pos rfl ?_
                refine wp_call (R := fun r w' => r = .agg (ab U2 32).toArray ∧ W9.grownBy w' (some p2)) (vs := #[.pointer (some ⟨p2, 0, none⟩)]) rfl (by simp only [List.map_toArray, List.map_cons, List.map_nil]; rfl) (by go_simp) (Calls.mono (C5.out _ _ hB gp2 hS2) (fun e w' ⟨he, hb⟩ => ⟨_, he, rfl, hb⟩)) (fun r W10 ⟨hr, hw10⟩ => ?_)
                subst hr
                refine hK.out _ _ trivial (fun _ => ?_)
                clear hK Kt
                simp only [Act.put, List.getElem_toArray, List.getElem_cons_zero, List.getElem_cons_succ, List.setIfInBounds_toArray, List.set_cons_zero, List.set_cons_succ]
                replace hB : Below X.heap.size X W10 := hB.grown hw10 hB.size (fun k hk => by cases hk; exact gp2)
                clear hw10 hS2
                refine wpAnyH_ready (rs := [28]) (by kernel_rfl) (by simp) (AllReadyH.cons rfl (fun Kt hK => ?_) AllReadyH.nil)
                refine wanted_pos rfl ?_
                refine wp_neH rfl rfl rfl (HQ2.out _) (hK.out _ _ trivial (fun _ => ?_))
                clear hK Kt
                simp only [Act.put, List.getElem_toArray, List.getElem_cons_zero, List.getElem_cons_succ, List.setIfInBounds_toArray, List.set_cons_zero, List.set_cons_succ]
                refine wpAnyH_take (i := 29) (v := .bool false) rfl (by kernel_rfl) (by kernel_rfl) (by kernel_rfl) (fun _ _ _ h => h) (Or.inl ⟨by rfl, fun w' _ => by go_simp⟩) trivial ?_
                simp only [Act.put, List.getElem_toArray, List.getElem_cons_zero, List.getElem_cons_succ, List.setIfInBounds_toArray, List.set_cons_zero, List.set_cons_succ]
                refine wpAnyH_done (by kernel_rfl) ?_ _
                refine NoPanic.normal ?_
                exact ⟨qa, qb, qc, p1, qd, p2, rfl, hB⟩
            · refine wanted_pos rfl ?_
              refine wp_two rfl rfl rfl (fun qd W5 _ hcd hcdb hw5 => hK.out _ _ trivial (fun _ => ?_))
              clear hK Kt
              simp only [Act.put, List.getElem_toArray, List.getElem_cons_zero, List.getElem_cons_succ, List.setIfInBounds_toArray, List.set_cons_zero, List.set_cons_succ]
              replace hB := K.call hB hw5
              clear hw5
              refine wpAnyH_ready (rs := [16]) (by kernel_rfl) (by simp) (AllReadyH.cons rfl (fun Kt hK => ?_) AllReadyH.nil)
              refine wanted_pos rfl ?_
              refine wp_one rfl rfl (fun qc W6 _ hcc hw6 => hK.out _ _ trivial (fun _ => ?_))
              clear hK Kt
              simp only [Act.put, List.getElem_toArray, List.getElem_cons_zero, List.getElem_cons_succ, List.setIfInBounds_toArray, List.set_cons_zero, List.set_cons_succ]
              replace hB := K.call hB hw6
              replace hcd := later hw6 hcd
              replace hcdb := later hw6 hcdb
              clear hw6
              refine wpAnyH_ready (rs := [17]) (by kernel_rfl) (by simp) (AllReadyH.cons rfl (fun Kt hK => ?_) AllReadyH.nil)
              refine wanted_pos rfl ?_
              refine wp_call (R := fun r w' => ∃ p, r = .pointer (some ⟨p, 0, none⟩) ∧ W6.heap.size ≤ p ∧ Stm w' p (kvSeed g m) false ∧ Below W6.heap.size W6 w') (vs := #[.slice (some ⟨qc, 0, none⟩) 1 1]) rfl (by simp only [List.map_toArray, List.map_cons, List.map_nil]; rfl) (by go_simp) (Calls.mono (C3.out _ _ hB hcc) (fun e w' ⟨p, he, h1, h2, hb⟩ => ⟨_, he, p, rfl, h1, h2, hb⟩)) (fun r W7 ⟨p1, hr, hp, hS1, hw7⟩ => ?_)
              subst hr
              refine hK.out _ _ trivial (fun _ => ?_)
              clear hK Kt
              simp only [Act.put, List.getElem_toArray, List.getElem_cons_zero, List.getElem_cons_succ, List.setIfInBounds_toArray, List.set_cons_zero, List.set_cons_succ]
              have gp1 : X.heap.size ≤ p1 := Nat.le_trans hB.size hp
              have hne : qd ≠ p1 := by have := World.block_lt_of_cell? _ _ hcd; simp only at this; omega
              replace hB := K.call hB hw7
              replace hcd := later hw7 hcd
              replace hcdb := later hw7 hcdb
              clear hp hw7 hcc
              refine wpAnyH_ready (rs := [18]) (by kernel_rfl) (by simp) (AllReadyH.cons rfl (fun Kt hK => ?_) AllReadyH.nil)
              refine wanted_pos rfl ?_
              refine wp_call (R := fun r w' => r = .agg (ab U2 32).toArray ∧ W7.grownBy w' (some p1)) (vs := #[.pointer (some ⟨p1, 0, none⟩)]) rfl (by simp only [List.map_toArray, List.map_cons, List.map_nil]; rfl) (by go_simp) (Calls.mono (C5.out _ _ hB gp1 hS1) (fun e w' ⟨he, hb⟩ => ⟨_, he, rfl, hb⟩)) (fun r W8 ⟨hr, hw8⟩ => ?_)
              subst hr
              refine hK.out _ _ trivial (fun _ => ?_)
              clear hK Kt
              simp only [Act.put, List.getElem_toArray, List.getElem_cons_zero, List.getElem_cons_succ, List.setIfInBounds_toArray, List.set_cons_zero, List.set_cons_succ]
              replace hB : Below X.heap.size X W8 := hB.grown hw8 hB.size (fun k hk => by cases hk; exact gp1)
              replace hcd := hw8.cell hcd (by simpa using hne)
              replace hcdb := hw8.cell hcdb (by simpa using hne)
              clear hw8 hS1
              refine wpAnyH_ready (rs := [26]) (by kernel_rfl) (by simp) (AllReadyH.cons rfl (fun Kt hK => ?_) AllReadyH.nil)
              refine wanted_pos rfl ?_
              refine wp_call (R := fun r w' => ∃ p, r = .pointer (some ⟨p, 0, none⟩) ∧ W8.heap.size ≤ p ∧ Stm w' p (kvSeed g m) false ∧ Below W8.heap.size W8 w') (vs := #[.slice (some ⟨qd, 0, none⟩) 2 2]) rfl (by simp only [List.map_toArray, List.map_cons, List.map_nil]; rfl) (by go_simp) (Calls.mono (C4.out _ _ hB hcd hcdb) (fun e w' ⟨p, he, h1, h2, hb⟩ => ⟨_, he, p, rfl, h1, h2, hb⟩)) (fun r W9 ⟨p2, hr, hp, hS2, hw9⟩ => ?_)
              subst hr
              refine hK.out _ _ trivial (fun _ => ?_)
              clear hK Kt
              simp only [Act.put, List.getElem_toArray, List.getElem_cons_zero, List.getElem_cons_succ, List.setIfInBounds_toArray, List.set_cons_zero, List.set_cons_succ]
              have gp2 : X.heap.size ≤ p2 := Nat.le_trans hB.size hp
              replace hB := K.call hB hw9
              clear hp hw9 hcd hcdb
              refine wpAnyH_ready (rs := [27]) (by kernel_rfl) (by simp) (AllReadyH.cons rfl (fun Kt hK => ?_) AllReadyH.nil)
              refine wanted_pos rfl ?_
              refine wp_call (R := fun r w' => r = .agg (ab U2 32).toArray ∧ W9.grownBy w' (some p2)) (vs := #[.pointer (some ⟨p2, 0, none⟩)]) rfl (by simp only [List.map_toArray, List.map_cons, List.map_nil]; rfl) (by go_simp) (Calls.mono (C5.out _ _ hB gp2 hS2) (fun e w' ⟨he, hb⟩ => ⟨_, he, rfl, hb⟩)) (fun r W10 ⟨hr, hw10⟩ => ?_)
              subst hr
              refine hK.out _ _ trivial (fun _ => ?_)
              clear hK Kt
              simp only [Act.put, List.getElem_toArray, List.getElem_cons_zero, List.getElem_cons_succ, List.setIfInBounds_toArray, List.set_cons_zero, List.set_cons_succ]
              replace hB : Below X.heap.size X W10 := hB.grown hw10 hB.size (fun k hk => by cases hk; exact gp2)
              clear hw10 hS2
              refine wpAnyH_ready (rs := [28]) (by kernel_rfl) (by simp) (AllReadyH.cons rfl (fun Kt hK => ?_) AllReadyH.nil)
              refine wanted_pos rfl ?_
              refine wp_neH rfl rfl rfl (HQ2.out _) (hK.out _ _ trivial (fun _ => ?_))
              clear hK Kt
              simp only [Act.put, List.getElem_toArray, List.getElem_cons_zero, List.getElem_cons_succ, List.setIfInBounds_toArray, List.set_cons_zero, List.set_cons_succ]
              refine wpAnyH_take (i := 29) (v := .bool false) rfl (by kernel_rfl) (by kernel_rfl) (by kernel_rfl) (fun _ _ _ h => h) (Or.inl ⟨by rfl, fun w' _ => by go_simp⟩) trivial ?_
              simp only [Act.put, List.getElem_toArray, List.getElem_cons_zero, List.getElem_cons_succ, List.setIfInBounds_toArray, List.set_cons_zero, List.set_cons_succ]
              refine wpAnyH_done (by kernel_rfl) ?_ _
              refine NoPanic.normal ?_
              exact ⟨qa, qb, qc, p1, qd, p2, rfl, hB⟩
          · refine wanted_pos rfl ?_
            refine wp_two rfl rfl rfl (fun qb W2 _ hcb hcbb hw2 => hK.out _ _ trivial (fun _ => ?_))
            clear hK Kt
            simp only [Act.put, List.getElem_toArray, List.getElem_cons_zero, List.getElem_cons_succ, List.setIfInBounds_toArray, List.set_cons_zero, List.set_cons_succ]
            replace hB := K.call hB hw2
            replace hca := later hw2 hca
            clear hw2
            refine wpAnyH_ready (rs := [3]) (by kernel_rfl) (by simp) (AllReadyH.cons rfl (fun Kt hK => ?_) AllReadyH.nil)
            refine wanted_pos rfl ?_
            refine wp_call (R := fun r w' => r = .agg (ab U1 32).toArray ∧ Below W2.heap.size W2 w') (vs := #[.slice a n c, .slice (some ⟨qa, 0, none⟩) 1 1]) rfl (by simp only [List.map_toArray, List.map_cons, List.map_nil]; rfl) (by go_simp) (Calls.mono (C1.out _ _ hB hca) (fun e w' ⟨he, hb⟩ => ⟨_, he, rfl, hb⟩)) (fun r W3 ⟨hr, hw3⟩ => ?_)
            subst hr
            refine hK.out _ _ trivial (fun _ => ?_)
            clear hK Kt
            simp only [Act.put, List.getElem_toArray, List.getElem_cons_zero, List.getElem_cons_succ, List.setIfInBounds_toArray, List.set_cons_zero, List.set_cons_succ]
            replace hB := K.call hB hw3
            replace hcb := later hw3 hcb
            replace hcbb := later hw3 hcbb
            clear hw3 hca
            refine wpAnyH_ready (rs := [12]) (by kernel_rfl) (by simp) (AllReadyH.cons rfl (fun Kt hK => ?_) AllReadyH.nil)
            refine wanted_pos rfl ?_
            refine wp_call (R := fun r w' => r = .agg (ab U1 32).toArray ∧ Below W3.heap.size W3 w') (vs := #[.slice a n c, .slice (some ⟨qb, 0, none⟩) 2 2]) rfl (by simp only [List.map_toArray, List.map_cons, List.map_nil]; rfl) (by go_simp) (Calls.mono (C2.out _ _ hB hcb hcbb) (fun e w' ⟨he, hb⟩ => ⟨_, he, rfl, hb⟩)) (fun r W4 ⟨hr, hw4⟩ => ?_)
            subst hr
            refine hK.out _ _ trivial (fun _ => ?_)
            clear hK Kt
            simp only [Act.put, List.getElem_toArray, List.getElem_cons_zero, List.getElem_cons_succ, List.setIfInBounds_toArray, List.set_cons_zero, List.set_cons_succ]
            replace hB := K.call hB hw4
            clear hw4 hcb hcbb
            refine wpAnyH_ready (rs := [13]) (by kernel_rfl) (by simp) (AllReadyH.cons rfl (fun Kt hK => ?_) AllReadyH.nil)
            refine wanted_pos rfl ?_
            refine wp_neH rfl rfl rfl (HQ1.out _) (hK.out _ _ trivial (fun _ => ?_))
            clear hK Kt
            simp only [Act.put, List.getElem_toArray, List.getElem_cons_zero, List.getElem_cons_succ, List.setIfInBounds_toArray, List.set_cons_zero, List.set_cons_succ]
            refine wpAnyH_take (i := 14) (v := .bool false) rfl (by kernel_rfl) (by kernel_rfl) (by kernel_rfl) (fun _ _ _ h => h) (Or.inl ⟨by rfl, fun w' _ => by go_simp⟩) trivial ?_
            simp only [Act.put, List.getElem_toArray, List.getElem_cons_zero, List.getElem_cons_succ, List.setIfInBounds_toArray, List.set_cons_zero, List.set_cons_succ]
            refine wpAnyH_take (i := 15) (v := .slice b m d) rfl (by kernel_rfl) (by kernel_rfl) (by kernel_rfl) (fun _ _ _ h => h) (Or.inl ⟨by rfl, fun w' _ => by go_simp⟩) trivial ?_
            simp only [Act.put, List.getElem_toArray, List.getElem_cons_zero, List.getElem_cons_succ, List.setIfInBounds_toArray, List.set_cons_zero, List.set_cons_succ]
            refine wpAnyH_take (i := 19) (v := .slice b m d) rfl (by kernel_rfl) (by kernel_rfl) (by kernel_rfl) (fun _ _ _ h => h) (Or.inl ⟨by rfl, fun w' _ => by go_simp⟩) trivial ?_
            simp only [Act.put, List.getElem_toArray, List.getElem_cons_zero, List.getElem_cons_succ, List.setIfInBounds_toArray, List.set_cons_zero, List.set_cons_succ]
            refine wpAnyH_take (i := 20) (v := .int .i64 (k : Int)) rfl (by kernel_rfl) (by kernel_rfl) (by kernel_rfl) (fun _ _ _ h => h) (Or.inl ⟨by rfl, fun w' _ => by go_simp⟩) trivial ?_
            simp only [Act.put, List.getElem_toArray, List.getElem_cons_zero, List.getElem_cons_succ, List.setIfInBounds_toArray, List.set_cons_zero, List.set_cons_succ]
            refine wpAnyH_take (i := 21) (v := .slice (cutA b d 0) k d) rfl (by kernel_rfl) (by kernel_rfl) (by kernel_rfl) (fun _ _ _ h => h) (Or.inl ⟨by rfl, fun w' _ => by go_simp⟩) trivial ?_
            simp only [Act.put, List.getElem_toArray, List.getElem_cons_zero, List.getElem_cons_succ, List.setIfInBounds_toArray, List.set_cons_zero, List.set_cons_succ]
            refine wpAnyH_take (i := 22) (v := .slice b m d) rfl (by kernel_rfl) (by kernel_rfl) (by kernel_rfl) (fun _ _ _ h => h) (Or.inl ⟨by rfl, fun w' _ => by go_simp⟩) trivial ?_
            simp only [Act.put, List.getElem_toArray, List.getElem_cons_zero, List.getElem_cons_succ, List.setIfInBounds_toArray, List.set_cons_zero, List.set_cons_succ]
            refine wpAnyH_take (i := 23) (v := .int .i64 (k : Int)) rfl (by kernel_rfl) (by kernel_rfl) (by kernel_rfl) (fun _ _ _ h => h) (Or.inl ⟨by rfl, fun w' _ => by go_simp⟩) trivial ?_
            simp only [Act.put, List.getElem_toArray, List.getElem_cons_zero, List.getElem_cons_succ, List.setIfInBounds_toArray, List.set_cons_zero, List.set_cons_succ]
            refine wpAnyH_take (i := 24) (v := .slice (cutA b d k) (m - k) (d - k)) rfl (by kernel_rfl) (by kernel_rfl) (by kernel_rfl) (fun _ _ _ h => h) (Or.inl ⟨by rfl, fun w' _ => by go_simp⟩) trivial ?_
            simp only [Act.put, List.getElem_toArray, List.getElem_cons_zero, List.getElem_cons_succ, List.setIfInBounds_toArray, List.set_cons_zero, List.set_cons_succ]
            refine wpAnyH_ready (rs := [16, 25]) (by kernel_rfl) (by simp) (AllReadyH.cons rfl (fun Kt hK => ?_) (AllReadyH.cons rfl (fun Kt hK => ?_) AllReadyH.nil))
            · refine wanted_pos rfl ?_
              refine wp_one rfl rfl (fun qc W5 _ hcc hw5 => hK.out _ _ trivial (fun _ => ?_))
              clear hK Kt
              simp only [Act.put, List.getElem_toArray, List.getElem_cons_zero, List.getElem_cons_succ, List.setIfInBounds_toArray, List.set_cons_zero, List.set_cons_succ]
              replace hB := K.call hB hw5
              clear hw5
              refine wpAnyH_ready (rs := [17, 25]) (by kernel_rfl) (by simp) (AllReadyH.cons rfl (fun Kt hK => ?_) (AllReadyH.cons rfl (fun Kt hK => ?_) AllReadyH.nil))
              · refine wanted_pos rfl ?_
                refine wp_call (R := fun r w' => ∃ p, r = .pointer (some ⟨p, 0, none⟩) ∧ W5.heap.size ≤ p ∧ Stm w' p (kvSeed g m) false ∧ Below W5.heap.size W5 w') (vs := #[.slice (some ⟨qc, 0, none⟩) 1 1]) rfl (by simp only [List.map_toArray, List.map_cons, List.map_nil]; rfl) (by go_simp) (Calls.mono (C3.out _ _ hB hcc) (fun e w' ⟨p, he, h1, h2, hb⟩ => ⟨_, he, p, rfl, h1, h2, hb⟩)) (fun r W6 ⟨p1, hr, hp, hS1, hw6⟩ => ?_)
                subst hr
                refine hK.out _ _ trivial (fun _ => ?_)
                clear hK Kt
                simp only [Act.put, List.getElem_toArray, List.getElem_cons_zero, List.getElem_cons_succ, List.setIfInBounds_toArray, List.set_cons_zero, List.set_cons_succ]
                have gp1 : X.heap.size ≤ p1 := Nat.le_trans hB.size hp
                replace hB := K.call hB hw6
                clear hp hw6 hcc
                refine wpAnyH_ready (rs := [18, 25]) (by kernel_rfl) (by simp) (AllReadyH.cons rfl (fun Kt hK => ?_) (AllReadyH.cons rfl (fun Kt hK => ?_) AllReadyH.nil))
                · refine wanted_pos rfl ?_
                  refine wp_call (R := fun r w' => r = .agg (ab U2 32).toArray ∧ W6.grownBy w' (some p1)) (vs := #[.pointer (some ⟨p1, 0, none⟩)]) rfl (by simp only [List.map_toArray, List.map_cons, List.map_nil]; rfl) (by go_simp) (Calls.mono (C5.out _ _ hB gp1 hS1) (fun e w' ⟨he, hb⟩ => ⟨_, he, rfl, hb⟩)) (fun r W7 ⟨hr, hw7⟩ => ?_)
                  subst hr
                  refine hK.out _ _ trivial (fun _ => ?_)
                  clear hK Kt
                  simp only [Act.put, List.getElem_toArray, List.getElem_cons_zero, List.getElem_cons_succ, List.setIfInBounds_toArray, List.set_cons_zero, List.set_cons_succ]
                  replace hB : Below X.heap.size X W7 := hB.grown hw7 hB.size (fun k hk => by cases hk; exact gp1)
                  clear hw7 hS1
                  refine wpAnyH_ready (rs := [25]) (by kernel_rfl) (by simp) (AllReadyH.cons rfl (fun Kt hK => ?_) AllReadyH.nil)
                  refine wanted_pos rfl ?_
                  refine wp_two rfl rfl rfl (fun qd W8 _ hcd hcdb hw8 => hK.out _ _ trivial (fun _ => ?_))
                  clear hK Kt
                  simp only [Act.put, List.getElem_toArray, List.getElem_cons_zero, List.getElem_cons_succ, List.setIfInBounds_toArray, List.set_cons_zero, List.set_cons_succ]
                  replace hB := K.call hB hw8
                  clear hw8
                  refine wpAnyH_ready (rs := [26]) (by kernel_rfl) (by simp) (AllReadyH.cons rfl (fun Kt hK => ?_) AllReadyH.nil)
                  refine wanted_pos rfl ?_
                  refine wp_call (R := fun r w' => ∃ p, r = .pointer (some ⟨p, 0, none⟩) ∧ W8.heap.size ≤ p ∧ Stm w' p (kvSeed g m) false ∧ Below W8.heap.size W8 w') (vs := #[.slice (some ⟨qd, 0, none⟩) 2 2]) rfl (by simp only [List.map_toArray, List.map_cons, List.map_nil]; rfl) (by go_simp) (Calls.mono (C4.out _ _ hB hcd hcdb) (fun e w' ⟨p, he, h1, h2, hb⟩ => ⟨_, he, p, rfl, h1, h2, hb⟩)) (fun r W9 ⟨p2, hr, hp, hS2, hw9⟩ => ?_)
                  subst hr
                  refine hK.out _ _ trivial (fun _ => ?_)
                  clear hK Kt
                  simp only [Act.put, List.getElem_toArray, List.getElem_cons_zero, List.getElem_cons_succ, List.setIfInBounds_toArray, List.set_cons_zero, List.set_cons_succ]
                  have gp2 : X.heap.size ≤ p2 := Nat.le_trans hB.size hp
                  replace hB := K.call hB hw9
                  clear hp hw9 hcd hcdb
                  refine wpAnyH_ready (rs := [27]) (by kernel_rfl) (by simp) (AllReadyH.cons rfl (fun Kt hK => ?_) AllReadyH.nil)
                  refine wanted_pos rfl ?_
                  refine wp_call (R := fun r w' => r = .agg (ab U2 32).toArray ∧ W9.grownBy w' (some p2)) (vs := #[.pointer (some ⟨p2, 0, none⟩)]) rfl (by simp only [List.map_toArray, List.map_cons, List.map_nil]; rfl) (by go_simp) (Calls.mono (C5.out _ _ hB gp2 hS2) (fun e w' ⟨he, hb⟩ => ⟨_, he, rfl, hb⟩)) (fun r W10 ⟨hr, hw10⟩ => ?_)
                  subst hr
                  refine hK.out _ _ trivial (fun _ => ?_)
                  clear hK Kt
                  simp only [Act.put, List.getElem_toArray, List.getElem_cons_zero, List.getElem_cons_succ, List.setIfInBounds_toArray, List.set_cons_zero, List.set_cons_succ]
                  replace hB : Below X.heap.size X W10 := hB.grown hw10 hB.size (fun k hk => by cases hk; exact gp2)
                  clear hw10 hS2
                  refine wpAnyH_ready (rs := [28]) (by kernel_rfl) (by simp) (AllReadyH.cons rfl (fun Kt hK => ?_) AllReadyH.nil)
                  refine wanted_pos rfl ?_
                  refine wp_neH rfl rfl rfl (HQ2.out _) (hK.out _ _ trivial (fun _ => ?_))
                  clear hK Kt
                  simp only [Act.put, List.getElem_toArray, List.getElem_cons_zero, List.getElem_cons_succ, List.setIfInBounds_toArray, List.set_cons_zero, List.set_cons_succ]
                  refine wpAnyH_take (i := 29) (v := .bool false) rfl (by kernel_rfl) (by kernel_rfl) (by kernel_rfl) (fun _ _ _ h => h) (Or.inl ⟨by rfl, fun w' _ => by go_simp⟩) trivial ?_
                  simp only [Act.put, List.getElem_toArray, List.getElem_cons_zero, List.getElem_cons_succ, List.setIfInBounds_toArray, List.set_cons_zero, List.set_cons_succ]
                  refine wpAnyH_done (by kernel_rfl) ?_ _
                  refine NoPanic.normal ?_
                  exact ⟨qa, qb, qc, p1, qd, p2, rfl, hB⟩
                · refine wanted_pos rfl ?_
                  refine wp_two rfl rfl rfl (fun qd W7 hq hcd hcdb hw7 => hK.out _ _ trivial (fun _ => ?_))
                  clear hK Kt
                  simp only [Act.put, List.getElem_toArray, List.getElem_cons_zero, List.getElem_cons_succ, List.setIfInBounds_toArray, List.set_cons_zero, List.set_cons_succ]
                  have hne : qd ≠ p1 := by have := hS1.lt; omega
                  replace hB := K.call hB hw7
                  replace hS1 := hS1.keep hw7
                  clear hw7
                  refine wpAnyH_ready (rs := [18]) (by kernel_rfl) (by simp) (AllReadyH.cons rfl (fun Kt hK => ?_) AllReadyH.nil)
                  refine wanted_pos rfl ?_
                  refine wp_call (R := fun r w' => r = .agg (ab U2 32).toArray ∧ W7.grownBy w' (some p1)) (vs := #[.pointer (some ⟨p1, 0, none⟩)]) rfl (by simp only [List.map_toArray, List.map_cons, List.map_nil]; rfl) (by go_simp) (Calls.mono (C5.out _ _ hB gp1 hS1) (fun e w' ⟨he, hb⟩ => ⟨_, he, rfl, hb⟩)) (fun r W8 ⟨hr, hw8⟩ => ?_)
                  subst hr
                  refine hK.out _ _ trivial (fun _ => ?_)
                  clear hK Kt
                  simp only [Act.put, List.getElem_toArray, List.getElem_cons_zero, List.getElem_cons_succ, List.setIfInBounds_toArray, List.set_cons_zero, List.set_cons_succ]
                  replace hB : Below X.heap.size X W8 := hB.grown hw8 hB.size (fun k hk => by cases hk; exact gp1)
                  replace hcd := hw8.cell hcd (by simpa using hne)
                  replace hcdb := hw8.cell hcdb (by simpa using hne)
                  clear hw8 hS1
                  refine wpAnyH_ready (rs := [26]) (by kernel_rfl) (by simp) (AllReadyH.cons rfl (fun Kt hK => ?_) AllReadyH.nil)
                  refine wanted_pos rfl ?_
                  refine wp_call (R := fun r w' => ∃ p, r = .pointer (some ⟨p, 0, none⟩) ∧ W8.heap.size ≤ p ∧ Stm w' p (kvSeed g m) false ∧ Below W8.heap.size W8 w') (vs := #[.slice (some ⟨qd, 0, none⟩) 2 2]) rfl (by simp only [List.map_toArray, List.map_cons, List.map_nil]; rfl) (by go_simp) (Calls.mono (C4.out _ _ hB hcd hcdb) (fun e w' ⟨p, he, h1, h2, hb⟩ => ⟨_, he, p, rfl, h1, h2, hb⟩)) (fun r W9 ⟨p2, hr, hp, hS2, hw9⟩ => ?_)
                  subst hr
                  refine hK.out _ _ trivial (fun _ => ?_)
                  clear hK Kt
                  simp only [Act.put, List.getElem_toArray, List.getElem_cons_zero, List.getElem_cons_succ, List.setIfInBounds_toArray, List.set_cons_zero, List.set_cons_succ]
                  have gp2 : X.heap.size ≤ p2 := Nat.le_trans hB.size hp
                  replace hB := K.call hB hw9
                  clear hp hw9 hcd hcdb
                  refine wpAnyH_ready (rs := [27]) (by kernel_rfl) (by simp) (AllReadyH.cons rfl (fun Kt hK => ?_) AllReadyH.nil)
                  refine wanted_pos rfl ?_
                  refine wp_call (R := fun r w' => r = .agg (ab U2 32).toArray ∧ W9.grownBy w' (some p2)) (vs := #[.pointer (some ⟨p2, 0, none⟩)]) rfl (by simp only [List.map_toArray, List.map_cons, List.map_nil]; rfl) (by go_simp) (Calls.mono (C5.out _ _ hB gp2 hS2) (fun e w' ⟨he, hb⟩ => ⟨_, he, rfl, hb⟩)) (fun r W10 ⟨hr, hw10⟩ => ?_)
                  subst hr
                  refine hK.out _ _ trivial (fun _ => ?_)
                  clear hK Kt
                  simp only [Act.put, List.getElem_toArray, List.getElem_cons_zero, List.getElem_cons_succ, List.setIfInBounds_toArray, List.set_cons_zero, List.set_cons_succ]
                  replace hB : Below X.heap.size X W10 := hB.grown hw10 hB.size (fun k hk => by cases hk; exact gp2)
                  clear hw10 hS2
                  refine wpAnyH_ready (rs := [28]) (by kernel_rfl) (by simp) (AllReadyH.cons rfl (fun Kt hK => ?_) AllReadyH.nil)
                  refine wanted_pos rfl ?_
                  refine wp_neH rfl rfl rfl (HQ2.out _) (hK.out _ _ trivial (fun _ => ?_))
                  clear hK Kt
                  simp only [Act.put, List.getElem_toArray, List.getElem_cons_zero, List.getElem_cons_succ, List.setIfInBounds_toArray, List.set_cons_zero, List.set_cons_succ]
                  refine wpAnyH_take (i := 29) (v := .bool false) rfl (by kernel_rfl) (by kernel_rfl) (by kernel_rfl) (fun _ _ _ h => h) (Or.inl ⟨by rfl, fun w' _ => by go_simp⟩) trivial ?_
                  simp only [Act.put, List.getElem_toArray, List.getElem_cons_zero, List.getElem_cons_succ, List.setIfInBounds_toArray, List.set_cons_zero, List.set_cons_succ]
                  refine wpAnyH_done (by kernel_rfl) ?_ _
                  refine NoPanic.normal ?_
                  exact ⟨qa, qb, qc, p1, qd, p2, rfl, hB⟩
              · refine wanted_pos rfl ?_
                refine wp_two rfl rfl rfl (fun qd W6 _ hcd hcdb hw6 => hK.out _ _ trivial (fun _ => ?_))
                clear hK Kt
                simp only [Act.put, List.getElem_toArray, List.getElem_cons_zero, List.getElem_cons_succ, List.setIfInBounds_toArray, List.set_cons_zero, List.set_cons_succ]
                replace hB := K.call hB hw6
                replace hcc := later hw6 hcc
                clear hw6
                refine wpAnyH_ready (rs := [17]) (by kernel_rfl) (by simp) (AllReadyH.cons rfl (fun Kt hK => ?_) AllReadyH.nil)
                refine wanted_pos rfl ?_
                refine wp_call (R := fun r w' => ∃ p, r = .pointer (some ⟨p, 0, none⟩) ∧ W6.heap.size ≤ p ∧ Stm w' p (kvSeed g m) false ∧ Below W6.heap.size W6 w') (vs := #[.slice (some ⟨qc, 0, none⟩) 1 1]) rfl (by simp only [List.map_toArray, List.map_cons, List.map_nil]; rfl) (by go_simp) (Calls.mono (C3.out _ _ hB hcc) (fun e w' ⟨p, he, h1, h2, hb⟩ => ⟨_, he, p, rfl, h1, h2, hb⟩)) (fun r W7 ⟨p1, hr, hp, hS1, hw7⟩ => ?_)
                subst hr
                refine hK.out _ _ trivial (fun _ => ?_)
                clear hK Kt
                simp only [Act.put, List.getElem_toArray, List.getElem_cons_zero, List.getElem_cons_succ, List.setIfInBounds_toArray, List.set_cons_zero, List.set_cons_succ]
                have gp1 : X.heap.size ≤ p1 := Nat.le_trans hB.size hp
                have hne : qd ≠ p1 := by have := World.block_lt_of_cell? _ _ hcd; simp only at this; omega
                replace hB := K.call hB hw7
                replace hcd := later hw7 hcd
                replace hcdb := later hw7 hcdb
                clear hp hw7 hcc
                refine wpAnyH_ready (rs := [18]) (by kernel_rfl) (by simp) (AllReadyH.cons rfl (fun Kt hK => ?_) AllReadyH.nil)
                refine wanted_pos rfl ?_
                refine wp_call (R := fun r w' => r = .agg (ab U2 32).toArray ∧ W7.grownBy w' (some p1)) (vs := #[.pointer (some ⟨p1, 0, none⟩)]) rfl (by simp only [List.map_toArray, List.map_cons, List.map_nil]; rfl) (by go_simp) (Calls.mono (C5.out _ _ hB gp1 hS1) (fun e w' ⟨he, hb⟩ => ⟨_, he, rfl, hb⟩)) (fun r W8 ⟨hr, hw8⟩ => ?_)
                subst hr
                refine hK.out _ _ trivial (fun _ => ?_)
                clear hK Kt
                simp only [Act.put, List.getElem_toArray, List.getElem_cons_zero, List.getElem_cons_succ, List.setIfInBounds_toArray, List.set_cons_zero, List.set_cons_succ]
                replace hB : Below X.heap.size X W8 := hB.grown hw8 hB.size (fun k hk => by cases hk; exact gp1)
                replace hcd := hw8.cell hcd (by simpa using hne)
                replace hcdb := hw8.cell hcdb (by simpa using hne)
                clear hw8 hS1
                refine wpAnyH_ready (rs := [26]) (by kernel_rfl) (by simp) (AllReadyH.cons rfl (fun Kt hK => ?_) AllReadyH.nil)
                refine wanted_pos rfl ?_
                refine wp_call (R := fun r w' => ∃ p, r = .pointer (some ⟨p, 0, none⟩) ∧ W8.heap.size ≤ p ∧ Stm w' p (kvSeed g m) false ∧ Below W8.heap.size W8 w') (vs := #[.slice (some ⟨qd, 0, none⟩) 2 2]) rfl (by simp only [List.map_toArray, List.map_cons, List.map_nil]; rfl) (by go_simp) (Calls.mono (C4.out _ _ hB hcd hcdb) (fun e w' ⟨p, he, h1, h2, hb⟩ => ⟨_, he, p, rfl, h1, h2, hb⟩)) (fun r W9 ⟨p2, hr, hp, hS2, hw9⟩ => ?_)
                subst hr
                refine hK.out _ _ trivial (fun _ => ?_)
                clear hK Kt
                simp only [Act.put, List.getElem_toArray, List.getElem_cons_zero, List.getElem_cons_succ, List.setIfInBounds_toArray, List.set_cons_zero, List.set_cons_succ]
                have gp2 : X.heap.size ≤ p2 := Nat.le_trans hB.size hp
                replace hB := K.call hB hw9
                clear hp hw9 hcd hcdb
                refine wpAnyH_ready (rs := [27]) (by kernel_rfl) (by simp) (AllReadyH.cons rfl (fun Kt hK => ?_) AllReadyH.nil)
                refine wanted_pos rfl ?_
                refine wp_call (R := fun r w' => r = .agg (ab U2 32).toArray ∧ W9.grownBy w' (some p2)) (vs := #[.pointer (some ⟨p2, 0, none⟩)]) rfl (by simp only [List.map_toArray, List.map_cons, List.map_nil]; rfl) (by go_simp) (Calls.mono (C5.out _ _ hB gp2 hS2) (fun e w' ⟨he, hb⟩ => ⟨_, he, rfl, hb⟩)) (fun r W10 ⟨hr, hw10⟩ => ?_)
                subst hr
                refine hK.out _ _ trivial (fun _ => ?_)
                clear hK Kt
                simp only [Act.put, List.getElem_toArray, List.getElem_cons_zero, List.getElem_cons_succ, List.setIfInBounds_toArray, List.set_cons_zero, List.set_cons_succ]
                replace hB : Below X.heap.size X W10 := hB.grown hw10 hB.size (fun k hk => by cases hk; exact gp2)
                clear hw10 hS2
                refine wpAnyH_ready (rs := [28]) (by kernel_rfl) (by simp) (AllReadyH.cons rfl (fun Kt hK => ?_) AllReadyH.nil)
                refine wanted_pos rfl ?_
                refine wp_neH rfl rfl rfl (HQ2.out _) (hK.out _ _ trivial (fun _ => ?_))
                clear hK Kt
                simp only [Act.put, List.getElem_toArray, List.getElem_cons_zero, List.getElem_cons_succ, List.setIfInBounds_toArray, List.set_cons_zero, List.set_cons_succ]
                refine wpAnyH_take (i := 29) (v := .bool false) rfl (by kernel_rfl) (by kernel_rfl) (by kernel_rfl) (fun _ _ _ h => h) (Or.inl ⟨by rfl, fun w' _ => by go_simp⟩) trivial ?_
                simp only [Act.put, List.getElem_toArray, List.getElem_cons_zero, List.getElem_cons_succ, List.setIfInBounds_toArray, List.set_cons_zero, List.set_cons_succ]
                refine wpAnyH_done (by kernel_rfl) ?_ _
                refine NoPanic.normal ?_
                exact ⟨qa, qb, qc, p1, qd, p2, rfl, hB⟩
            · refine wanted_pos rfl ?_
              refine wp_two rfl rfl rfl (fun qd W5 _ hcd hcdb hw5 => hK.out _ _ trivial (fun _ => ?_))
              clear hK Kt
              simp only [Act.put, List.getElem_toArray, List.getElem_cons_zero, List.getElem_cons_succ, List.setIfInBounds_toArray, List.set_cons_zero, List.set_cons_succ]
              replace hB := K.call hB hw5
              clear hw5
              refine wpAnyH_ready (rs := [16]) (by kernel_rfl) (by simp) (AllReadyH.cons rfl (fun Kt hK => ?_) AllReadyH.nil)
              refine wanted_pos rfl ?_
              refine wp_one rfl rfl (fun qc W6 _ hcc hw6 => hK.out _ _ trivial (fun _ => ?_))
              clear hK Kt
              simp only [Act.put, List.getElem_toArray, List.getElem_cons_zero, List.getElem_cons_succ, List.setIfInBounds_toArray, List.set_cons_zero, List.set_cons_succ]
              replace hB := K.call hB hw6
              replace hcd := later hw6 hcd
              replace hcdb := later hw6 hcdb
              clear hw6
              refine wpAnyH_ready (rs := [17]) (by kernel_rfl) (by simp) (AllReadyH.cons rfl (fun Kt hK => ?_) AllReadyH.nil)
              refine wanted_pos rfl ?_
              refine wp_call (R := fun r w' => ∃ p, r = .pointer (some ⟨p, 0, none⟩) ∧ W6.heap.size ≤ p ∧ Stm w' p (kvSeed g m) false ∧ Below W6.heap.size W6 w') (vs := #[.slice (some ⟨qc, 0, none⟩) 1 1]) rfl (by simp only [List.map_toArray, List.map_cons, List.map_nil]; rfl) (by go_simp) (Calls.mono (C3.out _ _ hB hcc) (fun e w' ⟨p, he, h1, h2, hb⟩ => ⟨_, he, p, rfl, h1, h2, hb⟩)) (fun r W7 ⟨p1, hr, hp, hS1, hw7⟩ => ?_)
              subst hr
              refine hK.out _ _ trivial (fun _ => ?_)
              clear hK Kt
              simp only [Act.put, List.getElem_toArray, List.getElem_cons_zero, List.getElem_cons_succ, List.setIfInBounds_toArray, List.set_cons_zero, List.set_cons_succ]
              have gp1 : X.heap.size ≤ p1 := Nat.le_trans hB.size hp
              have hne : qd ≠ p1 := by have := World.block_lt_of_cell? _ _ hcd; simp only at this; omega
              replace hB := K.call hB hw7
              replace hcd := later hw7 hcd
              replace hcdb := later hw7 hcdb
              clear hp hw7 hcc
              refine wpAnyH_ready (rs := [18]) (by kernel_rfl) (by simp) (AllReadyH.cons rfl (fun Kt hK => ?_) AllReadyH.nil)
              refine wanted_pos rfl ?_
              refine wp_call (R := fun r w' => r = .agg (ab U2 32).toArray ∧ W7.grownBy w' (some p1)) (vs := #[.pointer (some ⟨p1, 0, none⟩)]) rfl (by simp only [List.map_toArray, List.map_cons, List.map_nil]; rfl) (by go_simp) (Calls.mono (C5.out _ _ hB gp1 hS1) (fun e w' ⟨he, hb⟩ => ⟨_, he, rfl, hb⟩)) (fun r W8 ⟨hr, hw8⟩ => ?_)
              subst hr
              refine hK.out _ _ trivial (fun _ => ?_)
              clear hK Kt
              simp only [Act.put, List.getElem_toArray, List.getElem_cons_zero, List.getElem_cons_succ, List.setIfInBounds_toArray, List.set_cons_zero, List.set_cons_succ]
              replace hB : Below X.heap.size X W8 := hB.grown hw8 hB.size (fun k hk => by cases hk; exact gp1)
              replace hcd := hw8.cell hcd (by simpa using hne)
              replace hcdb := hw8.cell hcdb (by simpa using hne)
              clear hw8 hS1
              refine wpAnyH_ready (rs := [26]) (by kernel_rfl) (by simp) (AllReadyH.cons rfl (fun Kt hK => ?_) AllReadyH.nil)
              refine wanted_pos rfl ?_
              refine wp_call (R := fun r w' => ∃ p, r = .pointer (some ⟨p, 0, none⟩) ∧ W8.heap.size ≤ p ∧ Stm w' p (kvSeed g m) false ∧ Below W8.heap.size W8 w') (vs := #[.slice (some ⟨qd, 0, none⟩) 2 2]) rfl (by simp only [List.map_toArray, List.map_cons, List.map_nil]; rfl) (by go_simp) (Calls.mono (C4.out _ _ hB hcd hcdb) (fun e w' ⟨p, he, h1, h2, hb⟩ => ⟨_, he, p, rfl, h1, h2, hb⟩)) (fun r W9 ⟨p2, hr, hp, hS2, hw9⟩ => ?_)
              subst hr
              refine hK.out _ _ trivial (fun _ => ?_)
              clear hK Kt
              simp only [Act.put, List.getElem_toArray, List.getElem_cons_zero, List.getElem_cons_succ, List.setIfInBounds_toArray, List.set_cons_zero, List.set_cons_succ]
              have gp2 : X.heap.size ≤ p2 := Nat.le_trans hB.size hp
              replace hB := K.call hB hw9
              clear hp hw9 hcd hcdb
              refine wpAnyH_ready (rs := [27]) (by kernel_rfl) (by simp) (AllReadyH.cons rfl (fun Kt hK => ?_) AllReadyH.nil)
              refine wanted_pos rfl ?_
              refine wp_call (R := fun r w' => r = .agg (ab U2 32).toArray ∧ W9.grownBy w' (some p2)) (vs := #[.pointer (some ⟨p2, 0, none⟩)]) rfl (by simp only [List.map_toArray, List.map_cons, List.map_nil]; rfl) (by go_simp) (Calls.mono (C5.out _ _ hB gp2 hS2) (fun e w' ⟨he, hb⟩ => ⟨_, he, rfl, hb⟩)) (fun r W10 ⟨hr, hw10⟩ => ?_)
              subst hr
              refine hK.out _ _ trivial (fun _ => ?_)
              clear hK Kt
              simp only [Act.put, List.getElem_toArray, List.getElem_cons_zero, List.getElem_cons_succ, List.setIfInBounds_toArray, List.set_cons_zero, List.set_cons_succ]
              replace hB : Below X.heap.size X W10 := hB.grown hw10 hB.size (fun k hk => by cases hk; exact gp2)
              clear hw10 hS2
              refine wpAnyH_ready (rs := [28]) (by kernel_rfl) (by simp) (AllReadyH.cons rfl (fun Kt hK => ?_) AllReadyH.nil)
              refine wanted_pos rfl ?_
              refine wp_neH rfl rfl rfl (HQ2.out _) (hK.out _ _ trivial (fun _ => ?_))
              clear hK Kt
              simp only [Act.put, List.getElem_toArray, List.getElem_cons_zero, List.getElem_cons_succ, List.setIfInBounds_toArray, List.set_cons_zero, List.set_cons_succ]
              refine wpAnyH_take (i := 29) (v := .bool false) rfl (by kernel_rfl) (by kernel_rfl) (by kernel_rfl) (fun _ _ _ h => h) (Or.inl ⟨by rfl, fun w' _ => by go_simp⟩) trivial ?_
              simp only [Act.put, List.getElem_toArray, List.getElem_cons_zero, List.getElem_cons_succ, List.setIfInBounds_toArray, List.set_cons_zero, List.set_cons_succ]
              refine wpAnyH_done (by kernel_rfl) ?_ _
              refine NoPanic.normal ?_
              exact ⟨qa, qb, qc, p1, qd, p2, rfl, hB⟩
        · refine wanted_pos rfl ?_
          refine wp_two rfl rfl rfl (fun qb W1 _ hcb hcbb hw1 => hK.out _ _ trivial (fun _ => ?_))
          clear hK Kt
          simp only [Act.put, List.getElem_toArray, List.getElem_cons_zero, List.getElem_cons_succ, List.setIfInBounds_toArray, List.set_cons_zero, List.set_cons_succ]
          replace hB := K.call hB hw1
          clear hw1
          refine wpAnyH_ready (rs := [2]) (by kernel_rfl) (by simp) (AllReadyH.cons rfl (fun Kt hK => ?_) AllReadyH.nil)
          refine wanted_pos rfl ?_
          refine wp_one rfl rfl (fun qa W2 _ hca hw2 => hK.out _ _ trivial (fun _ => ?_))
          clear hK Kt
          simp only [Act.put, List.getElem_toArray, List.getElem_cons_zero, List.getElem_cons_succ, List.setIfInBounds_toArray, List.set_cons_zero, List.set_cons_succ]
          replace hB := K.call hB hw2
          replace hcb := later hw2 hcb
          replace hcbb := later hw2 hcbb
          clear hw2
          refine wpAnyH_ready (rs := [3]) (by kernel_rfl) (by simp) (AllReadyH.cons rfl (fun Kt hK => ?_) AllReadyH.nil)
          refine wanted_pos rfl ?_
          refine wp_call (R := fun r w' => r = .agg (ab U1 32).toArray ∧ Below W2.heap.size W2 w') (vs := #[.slice a n c, .slice (some ⟨qa, 0, none⟩) 1 1]) rfl (by simp only [List.map_toArray, List.map_cons, List.map_nil]; rfl) (by go_simp) (Calls.mono (C1.out _ _ hB hca) (fun e w' ⟨he, hb⟩ => ⟨_, he, rfl, hb⟩)) (fun r W3 ⟨hr, hw3⟩ => ?_)
          subst hr
          refine hK.out _ _ trivial (fun _ => ?_)
          clear hK Kt
          simp only [Act.put, List.getElem_toArray, List.getElem_cons_zero, List.getElem_cons_succ, List.setIfInBounds_toArray, List.set_cons_zero, List.set_cons_succ]
          replace hB := K.call hB hw3
          replace hcb := later hw3 hcb
          replace hcbb := later hw3 hcbb
          clear hw3 hca
          refine wpAnyH_ready (rs := [12]) (by kernel_rfl) (by simp) (AllReadyH.cons rfl (fun Kt hK => ?_) AllReadyH.nil)
          refine wanted_pos rfl ?_
          refine wp_call (R := fun r w' => r = .agg (ab U1 32).toArray ∧ Below W3.heap.size W3 w') (vs := #[.slice a n c, .slice (some ⟨qb, 0, none⟩) 2 2]) rfl (by simp only [List.map_toArray, List.map_cons, List.map_nil]; rfl) (by go_simp) (Calls.mono (C2.out _ _ hB hcb hcbb) (fun e w' ⟨he, hb⟩ => ⟨_, he, rfl, hb⟩)) (fun r W4 ⟨hr, hw4⟩ => ?_)
          subst hr
          refine hK.out _ _ trivial (fun _ => ?_)
          clear hK Kt
          simp only [Act.put, List.getElem_toArray, List.getElem_cons_zero, List.getElem_cons_succ, List.setIfInBounds_toArray, List.set_cons_zero, List.set_cons_succ]
          replace hB := K.call hB hw4
          clear hw4 hcb hcbb
          refine wpAnyH_ready (rs := [13]) (by kernel_rfl) (by simp) (AllReadyH.cons rfl (fun Kt hK => ?_) AllReadyH.nil)
          refine wanted_pos rfl ?_
          refine wp_neH rfl rfl rfl (HQ1.out _) (hK.out _ _ trivial (fun _ => ?_))
          clear hK Kt
          simp only [Act.put, List.getElem_toArray, List.getElem_cons_zero, List.getElem_cons_succ, List.setIfInBounds_toArray, List.set_cons_zero, List.set_cons_succ]
          refine wpAnyH_take (i := 14) (v := .bool false) rfl (by kernel_rfl) (by kernel_rfl) (by kernel_rfl) (fun _ _ _ h => h) (Or.inl ⟨by rfl, fun w' _ => by go_simp⟩) trivial ?_
          simp only [Act.put, List.getElem_toArray, List.getElem_cons_zero, List.getElem_cons_succ, List.setIfInBounds_toArray, List.set_cons_zero, List.set_cons_succ]
          refine wpAnyH_take (i := 15) (v := .slice b m d) rfl (by kernel_rfl) (by kernel_rfl) (by kernel_rfl) (fun _ _ _ h => h) (Or.inl ⟨by rfl, fun w' _ => by go_simp⟩) trivial ?_
          simp only [Act.put, List.getElem_toArray, List.getElem_cons_zero, List.getElem_cons_succ, List.setIfInBounds_toArray, List.set_cons_zero, List.set_cons_succ]
          refine wpAnyH_take (i := 19) (v := .slice b m d) rfl (by kernel_rfl) (by kernel_rfl) (by kernel_rfl) (fun _ _ _ h => h) (Or.inl ⟨by rfl, fun w' _ => by go_simp⟩) trivial ?_
          simp only [Act.put, List.getElem_toArray, List.getElem_cons_zero, List.getElem_cons_succ, List.setIfInBounds_toArray, List.set_cons_zero, List.set_cons_succ]
          refine wpAnyH_take (i := 20) (v := .int .i64 (k : Int)) rfl (by kernel_rfl) (by kernel_rfl) (by kernel_rfl) (fun _ _ _ h => h) (Or.inl ⟨by rfl, fun w' _ => by go_simp⟩) trivial ?_
          simp only [Act.put, List.getElem_toArray, List.getElem_cons_zero, List.getElem_cons_succ, List.setIfInBounds_toArray, List.set_cons_zero, List.set_cons_succ]
          refine wpAnyH_take (i := 21) (v := .slice (cutA b d 0) k d) rfl (by kernel_rfl) (by kernel_rfl) (by kernel_rfl) (fun _ _ _ h => h) (Or.inl ⟨by rfl, fun w' _ => by go_simp⟩) trivial ?_
          simp only [Act.put, List.getElem_toArray, List.getElem_cons_zero, List.getElem_cons_succ, List.setIfInBounds_toArray, List.set_cons_zero, List.set_cons_succ]
          refine wpAnyH_take (i := 22) (v := .slice b m d) rfl (by kernel_rfl) (by kernel_rfl) (by kernel_rfl) (fun _ _ _ h => h) (Or.inl ⟨by rfl, fun w' _ => by go_simp⟩) trivial ?_
          simp only [Act.put, List.getElem_toArray, List.getElem_cons_zero, List.getElem_cons_succ, List.setIfInBounds_toArray, List.set_cons_zero, List.set_cons_succ]
          refine wpAnyH_take (i := 23) (v := .int .i64 (k : Int)) rfl (by kernel_rfl) (by kernel_rfl) (by kernel_rfl) (fun _ _ _ h => h) (Or.inl ⟨by rfl, fun w' _ => by go_simp⟩) trivial ?_
          simp only [Act.put, List.getElem_toArray, List.getElem_cons_zero, List.getElem_cons_succ, List.setIfInBounds_toArray, List.set_cons_zero, List.set_cons_succ]
          refine wpAnyH_take (i := 24) (v := .slice (cutA b d k) (m - k) (d - k)) rfl (by kernel_rfl) (by kernel_rfl) (by kernel_rfl) (fun _ _ _ h => h) (Or.inl ⟨by rfl, fun w' _ => by go_simp⟩) trivial ?_
          simp only [Act.put, List.getElem_toArray, List.getElem_cons_zero, List.getElem_cons_succ, List.setIfInBounds_toArray, List.set_cons_zero, List.set_cons_succ]
          refine wpAnyH_ready (rs := [16, 25]) (by kernel_rfl) (by simp) (AllReadyH.cons rfl (fun Kt hK => ?_) (AllReadyH.cons rfl (fun Kt hK => ?_) AllReadyH.nil))
          · refine wanted_pos rfl ?_
            refine wp_one rfl rfl (fun qc W5 _ hcc hw5 => hK.out _ _ trivial (fun _ => ?_))
            clear hK Kt
            simp only [Act.put, List.getElem_toArray, List.getElem_cons_zero, List.getElem_cons_succ, List.setIfInBounds_toArray, List.set_cons_zero, List.set_cons_succ]
            replace hB := K.call hB hw5
            clear hw5
            refine wpAnyH_ready (rs := [17, 25]) (by kernel_rfl) (by simp) (AllReadyH.cons rfl (fun Kt hK => ?_) (AllReadyH.cons rfl (fun Kt hK => ?_) AllReadyH.nil))
            · refine wanted_pos rfl ?_
              refine wp_call (R := fun r w' => ∃ p, r = .pointer (some ⟨p, 0, none⟩) ∧ W5.heap.size ≤ p ∧ Stm w' p (kvSeed g m) false ∧ Below W5.heap.size W5 w') (vs := #[.slice (some ⟨qc, 0, none⟩) 1 1]) rfl (by simp only [List.map_toArray, List.map_cons, List.map_nil]; rfl) (by go_simp) (Calls.mono (C3.out _ _ hB hcc) (fun e w' ⟨p, he, h1, h2, hb⟩ => ⟨_, he, p, rfl, h1, h2, hb⟩)) (fun r W6 ⟨p1, hr, hp, hS1, hw6⟩ => ?_)
              subst hr
              refine hK.out _ _ trivial (fun _ => ?_)
              clear hK Kt
              simp only [Act.put, List.getElem_toArray, List.getElem_cons_zero, List.getElem_cons_succ, List.setIfInBounds_toArray, List.set_cons_zero, List.set_cons_succ]
              have gp1 : X.heap.size ≤ p1 := Nat.le_trans hB.size hp
              replace hB := K.call hB hw6
              clear hp hw6 hcc
              refine wpAnyH_ready (rs := [18, 25]) (by kernel_rfl) (by simp) (AllReadyH.cons rfl (fun Kt hK => ?_) (AllReadyH.cons rfl (fun Kt hK => ?_) AllReadyH.nil))
              · refine wanted_pos rfl ?_
                refine wp_call (R := fun r w' => r = .agg (ab U2 32).toArray ∧ W6.grownBy w' (some p1)) (vs := #[.pointer (some ⟨p1, 0, none⟩)]) rfl (by simp only [List.map_toArray, List.map_cons, List.map_nil]; rfl) (by go_simp) (Calls.mono (C5.out _ _ hB gp1 hS1) (fun e w' ⟨he, hb⟩ => ⟨_, he, rfl, hb⟩)) (fun r W7 ⟨hr, hw7⟩ => ?_)
                subst hr
                refine hK.out _ _ trivial (fun _ => ?_)
                clear hK Kt
                simp only [Act.put, List.getElem_toArray, List.getElem_cons_zero, List.getElem_cons_succ, List.setIfInBounds_toArray, List.set_cons_zero, List.set_cons_succ]
                replace hB : Below X.heap.size X W7 := hB.grown hw7 hB.size (fun k hk => by cases hk; exact gp1)
                clear hw7 hS1
                refine wpAnyH_ready (rs := [25]) (by kernel_rfl) (by simp) (AllReadyH.cons rfl (fun Kt hK => ?_) AllReadyH.nil)
                refine wanted_pos rfl ?_
                refine wp_two rfl rfl rfl (fun qd W8 _ hcd hcdb hw8 => hK.out _ _ trivial (fun _ => ?_))
                clear hK Kt
                simp only [Act.put, List.getElem_toArray, List.getElem_cons_zero, List.getElem_cons_succ, List.setIfInBounds_toArray, List.set_cons_zero, List.set_cons_succ]
                replace hB := K.call hB hw8
                clear hw8
                refine wpAnyH_ready (rs := [26]) (by kernel_rfl) (by simp) (AllReadyH.cons rfl (fun Kt hK => ?_) AllReadyH.nil)
                refine wanted_pos rfl ?_
                refine wp_call (R := fun r w' => ∃ p, r = .pointer (some ⟨p, 0, none⟩) ∧ W8.heap.size ≤ p ∧ Stm w' p (kvSeed g m) false ∧ Below W8.heap.size W8 w') (vs := #[.slice (some ⟨qd, 0, none⟩) 2 2]) rfl (by simp only [List.map_toArray, List.map_cons, List.map_nil]; rfl) (by go_simp) (Calls.mono (C4.out _ _ hB hcd hcdb) (fun e w' ⟨p, he, h1, h2, hb⟩ => ⟨_, he, p, rfl, h1, h2, hb⟩)) (fun r W9 ⟨p2, hr, hp, hS2, hw9⟩ => ?_)
                subst hr
                refine hK.out _ _ trivial (fun _ => ?_)
                clear hK Kt
                simp only [Act.put, List.getElem_toArray, List.getElem_cons_zero, List.getElem_cons_succ, List.setIfInBounds_toArray, List.set_cons_zero, List.set_cons_succ]
                have gp2 : X.heap.size ≤ p2 := Nat.le_trans hB.size hp
                replace hB := K.call hB hw9
                clear hp hw9 hcd hcdb
                refine wpAnyH_ready (rs := [27]) (by kernel_rfl) (by simp) (AllReadyH.cons rfl (fun Kt hK => ?_) AllReadyH.nil)
                refine wanted_pos rfl ?_
                refine wp_call (R := fun r w' => r = .agg (ab U2 32).toArray ∧ W9.grownBy w' (some p2)) (vs := #[.pointer (some ⟨p2, 0, none⟩)]) rfl (by simp only [List.map_toArray, List.map_cons, List.map_nil]; rfl) (by go_simp) (Calls.mono (C5.out _ _ hB gp2 hS2) (fun e w' ⟨he, hb⟩ => ⟨_, he, rfl, hb⟩)) (fun r W10 ⟨hr, hw10⟩ => ?_)
                subst hr
                refine hK.out _ _ trivial (fun _ => ?_)
                clear hK Kt
                simp only [Act.put, List.getElem_toArray, List.getElem_cons_zero, List.getElem_cons_succ, List.setIfInBounds_toArray, List.set_cons_zero, List.set_cons_succ]
                replace hB : Below X.heap.size X W10 := hB.grown hw10 hB.size (fun k hk => by cases hk; exact gp2)
                clear hw10 hS2
                refine wpAnyH_ready (rs := [28]) (by kernel_rfl) (by simp) (AllReadyH.cons rfl (fun Kt hK => ?_) AllReadyH.nil)
                refine wanted_pos rfl ?_
                refine wp_neH rfl rfl rfl (HQ2.out _) (hK.out _ _ trivial (fun _ => ?_))
                clear hK Kt
                simp only [Act.put, List.getElem_toArray, List.getElem_cons_zero, List.getElem_cons_succ, List.setIfInBounds_toArray, List.set_cons_zero, List.set_cons_succ]
                refine wpAnyH_take (i := 29) (v := .bool false) rfl (by kernel_rfl) (by kernel_rfl) (by kernel_rfl) (fun _ _ _ h => h) (Or.inl ⟨by rfl, fun w' _ => by go_simp⟩) trivial ?_
                simp only [Act.put, List.getElem_toArray, List.getElem_cons_zero, List.getElem_cons_succ, List.setIfInBounds_toArray, List.set_cons_zero, List.set_cons_succ]
                refine wpAnyH_done (by kernel_rfl) ?_ _
                refine NoPanic.normal ?_
                exact ⟨qa, qb, qc, p1, qd, p2, rfl, hB⟩
              · refine wanted_pos rfl ?_
                refine wp_two rfl rfl rfl (fun qd W7 hq hcd hcdb hw7 => hK.out _ _ trivial (fun _ => ?_))
                clear hK Kt
                simp only [Act.put, List.getElem_toArray, List.getElem_cons_zero, List.getElem_cons_succ, List.setIfInBounds_toArray, List.set_cons_zero, List.set_cons_succ]
                have hne : qd ≠ p1 := by have := hS1.lt; omega
                replace hB := K.call hB hw7
                replace hS1 := hS1.keep hw7
                clear hw7
                refine wpAnyH_ready (rs := [18]) (by kernel_rfl) (by simp) (AllReadyH.cons rfl (fun Kt hK => ?_) AllReadyH.nil)
                refine wanted_pos rfl ?_
                refine wp_call (R := fun r w' => r = .agg (ab U2 32).toArray ∧ W7.grownBy w' (some p1)) (vs := #[.pointer (some ⟨p1, 0, none⟩)]) rfl (by simp only [List.map_toArray, List.map_cons, List.map_nil]; rfl) (by go_simp) (Calls.mono (C5.out _ _ hB gp1 hS1) (fun e w' ⟨he, hb⟩ => ⟨_, he, rfl, hb⟩)) (fun r W8 ⟨hr, hw8⟩ => ?_)
                subst hr
                refine hK.out _ _ trivial (fun _ => ?_)
                clear hK Kt
                simp only [Act.put, List.getElem_toArray, List.getElem_cons_zero, List.getElem_cons_succ, List.setIfInBounds_toArray, List.set_cons_zero, List.set_cons_succ]
                replace hB : Below X.heap.size X W8 := hB.grown hw8 hB.size (fun k hk => by cases hk; exact gp1)
                replace hcd := hw8.cell hcd (by simpa using hne)
                replace hcdb := hw8.cell hcdb (by simpa using hne)
                clear hw8 hS1
                refine wpAnyH_ready (rs := [26]) (by kernel_rfl) (by simp) (AllReadyH.cons rfl (fun Kt hK => ?_) AllReadyH.nil)
                refine wanted_pos rfl ?_
                refine wp_call (R := fun r w' => ∃ p, r = .pointer (some ⟨p, 0, none⟩) ∧ W8.heap.size ≤ p ∧ Stm w' p (kvSeed g m) false ∧ Below W8.heap.size W8 w') (vs := #[.slice (some ⟨qd, 0, none⟩) 2 2]) rfl (by simp only [List.map_toArray, List.map_cons, List.map_nil]; rfl) (by go_simp) (Calls.mono (C4.out _ _ hB hcd hcdb) (fun e w' ⟨p, he, h1, h2, hb⟩ => ⟨_, he, p, rfl, h1, h2, hb⟩)) (fun r W9 ⟨p2, hr, hp, hS2, hw9⟩ => ?_)
                subst hr
                refine hK.out _ _ trivial (fun _ => ?_)
                clear hK Kt
                simp only [Act.put, List.getElem_toArray, List.getElem_cons_zero, List.getElem_cons_succ, List.setIfInBounds_toArray, List.set_cons_zero, List.set_cons_succ]
                have gp2 : X.heap.size ≤ p2 := Nat.le_trans hB.size hp
                replace hB := K.call hB hw9
                clear hp hw9 hcd hcdb
                refine wpAnyH_ready (rs := [27]) (by kernel_rfl) (by simp) (AllReadyH.cons rfl (fun Kt hK => ?_) AllReadyH.nil)
                refine wanted_pos rfl ?_
                refine wp_call (R := fun r w' => r = .agg (ab U2 32).toArray ∧ W9.grownBy w' (some p2)) (vs := #[.pointer (some ⟨p2, 0, none⟩)]) rfl (by simp only [List.map_toArray, List.map_cons, List.map_nil]; rfl) (by go_simp) (Calls.mono (C5.out _ _ hB gp2 hS2) (fun e w' ⟨he, hb⟩ => ⟨_, he, rfl, hb⟩)) (fun r W10 ⟨hr, hw10⟩ => ?_)
                subst hr
                refine hK.out _ _ trivial (fun _ => ?_)
                clear hK Kt
                simp only [Act.put, List.getElem_toArray, List.getElem_cons_zero, List.getElem_cons_succ, List.setIfInBounds_toArray, List.set_cons_zero, List.set_cons_succ]
                replace hB : Below X.heap.size X W10 := hB.grown hw10 hB.size (fun k hk => by cases hk; exact gp2)
                clear hw10 hS2
                refine wpAnyH_ready (rs := [28]) (by kernel_rfl) (by simp) (AllReadyH.cons rfl (fun Kt hK => ?_) AllReadyH.nil)
                refine wanted_pos rfl ?_
                refine wp_neH rfl rfl rfl (HQ2.out _) (hK.out _ _ trivial (fun _ => ?_))
                clear hK Kt
                simp only [Act.put, List.getElem_toArray, List.getElem_cons_zero, List.getElem_cons_succ, List.setIfInBounds_toArray, List.set_cons_zero, List.set_cons_succ]
                refine wpAnyH_take (i := 29) (v := .bool false) rfl (by kernel_rfl) (by kernel_rfl) (by kernel_rfl) (fun _ _ _ h => h) (Or.inl ⟨by rfl, fun w' _ => by go_simp⟩) trivial ?_
                simp only [Act.put, List.getElem_toArray, List.getElem_cons_zero, List.getElem_cons_succ, List.setIfInBounds_toArray, List.set_cons_zero, List.set_cons_succ]
                refine wpAnyH_done (by kernel_rfl) ?_ _
                refine NoPanic.normal ?_
                exact ⟨qa, qb, qc, p1, qd, p2, rfl, hB⟩
            · refine wanted_pos rfl ?_
              refine wp_two rfl rfl rfl (fun qd W6 _ hcd hcdb hw6 => hK.out _ _ trivial (fun _ => ?_))
              clear hK Kt
              simp only [Act.put, List.getElem_toArray, List.getElem_cons_zero, List.getElem_cons_succ, List.setIfInBounds_toArray, List.set_cons_zero, List.set_cons_succ]
              replace hB := K.call hB hw6
              replace hcc := later hw6 hcc
              clear hw6
              refine wpAnyH_ready (rs := [17]) (by kernel_rfl) (by simp) (AllReadyH.cons rfl (fun Kt hK => ?_) AllReadyH.nil)
              refine wanted_pos rfl ?_
              refine wp_call (R := fun r w' => ∃ p, r = .pointer (some ⟨p, 0, none⟩) ∧ W6.heap.size ≤ p ∧ Stm w' p (kvSeed g m) false ∧ Below W6.heap.size W6 w') (vs := #[.slice (some ⟨qc, 0, none⟩) 1 1]) rfl (by simp only [List.map_toArray, List.map_cons, List.map_nil]; rfl) (by go_simp) (Calls.mono (C3.out _ _ hB hcc) (fun e w' ⟨p, he, h1, h2, hb⟩ => ⟨_, he, p, rfl, h1, h2, hb⟩)) (fun r W7 ⟨p1, hr, hp, hS1, hw7⟩ => ?_)
              subst hr
              refine hK.out _ _ trivial (fun _ => ?_)
              clear hK Kt
              simp only [Act.put, List.getElem_toArray, List.getElem_cons_zero, List.getElem_cons_succ, List.setIfInBounds_toArray, List.set_cons_zero, List.set_cons_succ]
              have gp1 : X.heap.size ≤ p1 := Nat.le_trans hB.size hp
              have hne : qd ≠ p1 := by have := World.block_lt_of_cell? _ _ hcd; simp only at this; omega
              replace hB := K.call hB hw7
              replace hcd := later hw7 hcd
              replace hcdb := later hw7 hcdb
              clear hp hw7 hcc
              refine wpAnyH_ready (rs := [18]) (by kernel_rfl) (by simp) (AllReadyH.cons rfl (fun Kt hK => ?_) AllReadyH.nil)
              refine wanted_pos rfl ?_
              refine wp_call (R := fun r w' => r = .agg (ab U2 32).toArray ∧ W7.grownBy w' (some p1)) (vs := #[.pointer (some ⟨p1, 0, none⟩)]) rfl (by simp only [List.map_toArray, List.map_cons, List.map_nil]; rfl) (by go_simp) (Calls.mono (C5.out _ _ hB gp1 hS1) (fun e w' ⟨he, hb⟩ => ⟨_, he, rfl, hb⟩)) (fun r W8 ⟨hr, hw8⟩ => ?_)
              subst hr
              refine hK.out _ _ trivial (fun _ => ?_)
              clear hK Kt
              simp only [Act.put, List.getElem_toArray, List.getElem_cons_zero, List.getElem_cons_succ, List.setIfInBounds_toArray, List.set_cons_zero, List.set_cons_succ]
              replace hB : Below X.heap.size X W8 := hB.grown hw8 hB.size (fun k hk => by cases hk; exact gp1)
              replace hcd := hw8.cell hcd (by simpa using hne)
              replace hcdb := hw8.cell hcdb (by simpa using hne)
              clear hw8 hS1
              refine wpAnyH_ready (rs := [26]) (by kernel_rfl) (by simp) (AllReadyH.cons rfl (fun Kt hK => ?_) AllReadyH.nil)
              refine wanted_pos rfl ?_
              refine wp_call (R := fun r w' => ∃ p, r = .pointer (some ⟨p, 0, none⟩) ∧ W8.heap.size ≤ p ∧ Stm w' p (kvSeed g m) false ∧ Below W8.heap.size W8 w') (vs := #[.slice (some ⟨qd, 0, none⟩) 2 2]) rfl (by simp only [List.map_toArray, List.map_cons, List.map_nil]; rfl) (by go_simp) (Calls.mono (C4.out _ _ hB hcd hcdb) (fun e w' ⟨p, he, h1, h2, hb⟩ => ⟨_, he, p, rfl, h1, h2, hb⟩)) (fun r W9 ⟨p2, hr, hp, hS2, hw9⟩ => ?_)
              subst hr
              refine hK.out _ _ trivial (fun _ => ?_)
              clear hK Kt
              simp only [Act.put, List.getElem_toArray, List.getElem_cons_zero, List.getElem_cons_succ, List.setIfInBounds_toArray, List.set_cons_zero, List.set_cons_succ]
              have gp2 : X.heap.size ≤ p2 := Nat.le_trans hB.size hp
              replace hB := K.call hB hw9
              clear hp hw9 hcd hcdb
              refine wpAnyH_ready (rs := [27]) (by kernel_rfl) (by simp) (AllReadyH.cons rfl (fun Kt hK => ?_) AllReadyH.nil)
              refine wanted_pos rfl ?_
              refine wp_call (R := fun r w' => r = .agg (ab U2 32).toArray ∧ W9.grownBy w' (some p2)) (vs := #[.pointer (some ⟨p2, 0, none⟩)]) rfl (by simp only [List.map_toArray, List.map_cons, List.map_nil]; rfl) (by go_simp) (Calls.mono (C5.out _ _ hB gp2 hS2) (fun e w' ⟨he, hb⟩ => ⟨_, he, rfl, hb⟩)) (fun r W10 ⟨hr, hw10⟩ => ?_)
              subst hr
              refine hK.out _ _ trivial (fun _ => ?_)
              clear hK Kt
              simp only [Act.put, List.getElem_toArray, List.getElem_cons_zero, List.getElem_cons_succ, List.setIfInBounds_toArray, List.set_cons_zero, List.set_cons_succ]
              replace hB : Below X.heap.size X W10 := hB.grown hw10 hB.size (fun k hk => by cases hk; exact gp2)
              clear hw10 hS2
              refine wpAnyH_ready (rs := [28]) (by kernel_rfl) (by simp) (AllReadyH.cons rfl (fun Kt hK => ?_) AllReadyH.nil)
              refine wanted_pos rfl ?_
              refine wp_neH rfl rfl rfl (HQ2.out _) (hK.out _ _ trivial (fun _ => ?_))
              clear hK Kt
              simp only [Act.put, List.getElem_toArray, List.getElem_cons_zero, List.getElem_cons_succ, List.setIfInBounds_toArray, List.set_cons_zero, List.set_cons_succ]
              refine wpAnyH_take (i := 29) (v := .bool false) rfl (by kernel_rfl) (by kernel_rfl) (by kernel_rfl) (fun _ _ _ h => h) (Or.inl ⟨by rfl, fun w' _ => by go_simp⟩) trivial ?_
              simp only [Act.put, List.getElem_toArray, List.getElem_cons_zero, List.getElem_cons_succ, List.setIfInBounds_toArray, List.set_cons_zero, List.set_cons_succ]
              refine wpAnyH_done (by kernel_rfl) ?_ _
              refine NoPanic.normal ?_
              exact ⟨qa, qb, qc, p1, qd, p2, rfl, hB⟩
          · refine wanted_pos rfl ?_
            refine wp_two rfl rfl rfl (fun qd W5 _ hcd hcdb hw5 => hK.out _ _ trivial (fun _ => ?_))
            clear hK Kt
            simp only [Act.put, List.getElem_toArray, List.getElem_cons_zero, List.getElem_cons_succ, List.setIfInBounds_toArray, List.set_cons_zero, List.set_cons_succ]
            replace hB := K.call hB hw5
            clear hw5
            refine wpAnyH_ready (rs := [16]) (by kernel_rfl) (by simp) (AllReadyH.cons rfl (fun Kt hK => ?_) AllReadyH.nil)
            refine wanted_pos rfl ?_
            refine wp_one rfl rfl (fun qc W6 _ hcc hw6 => hK.out _ _ trivial (fun _ => ?_))
            clear hK Kt
            simp only [Act.put, List.getElem_toArray, List.getElem_cons_zero, List.getElem_cons_succ, List.setIfInBounds_toArray, List.set_cons_zero, List.set_cons_succ]
            replace hB := K.call hB hw6
            replace hcd := later hw6 hcd
            replace hcdb := later hw6 hcdb
            clear hw6
            refine wpAnyH_ready (rs := [17]) (by kernel_rfl) (by simp) (AllReadyH.cons rfl (fun Kt hK => ?_) AllReadyH.nil)
            refine wanted_pos rfl ?_
            refine wp_call (R := fun r w' => ∃ p, r = .pointer (some ⟨p, 0, none⟩) ∧ W6.heap.size ≤ p ∧ Stm w' p (kvSeed g m) false ∧ Below W6.heap.size W6 w') (vs := #[.slice (some ⟨qc, 0, none⟩) 1 1]) rfl (by simp only [List.map_toArray, List.map_cons, List.map_nil]; rfl) (by go_simp) (Calls.mono (C3.out _ _ hB hcc) (fun e w' ⟨p, he, h1, h2, hb⟩ => ⟨_, he, p, rfl, h1, h2, hb⟩)) (fun r W7 ⟨p1, hr, hp, hS1, hw7⟩ => ?_)
            subst hr
            refine hK.out _ _ trivial (fun _ => ?_)
            clear hK Kt
            simp only [Act.put, List.getElem_toArray, List.getElem_cons_zero, List.getElem_cons_succ, List.setIfInBounds_toArray, List.set_cons_zero, List.set_cons_succ]
            have gp1 : X.heap.size ≤ p1 := Nat.le_trans hB.size hp
            have hne : qd ≠ p1 := by have := World.block_lt_of_cell? _ _ hcd; simp only at this; omega
            replace hB := K.call hB hw7
            replace hcd := later hw7 hcd
            replace hcdb := later hw7 hcdb
            clear hp hw7 hcc
            refine wpAnyH_ready (rs := [18]) (by kernel_rfl) (by simp) (AllReadyH.cons rfl (fun Kt hK => ?_) AllReadyH.nil)
            refine wanted_pos rfl ?_
            refine wp_call (R := fun r w' => r = .agg (ab U2 32).toArray ∧ W7.grownBy w' (some p1)) (vs := #[.pointer (some ⟨p1, 0, none⟩)]) rfl (by simp only [List.map_toArray, List.map_cons, List.map_nil]; rfl) (by go_simp) (Calls.mono (C5.out _ _ hB gp1 hS1) (fun e w' ⟨he, hb⟩ => ⟨_, he, rfl, hb⟩)) (fun r W8 ⟨hr, hw8⟩ => ?_)
            subst hr
            refine hK.out _ _ trivial (fun _ => ?_)
            clear hK Kt
            simp only [Act.put, List.getElem_toArray, List.getElem_cons_zero, List.getElem_cons_succ, List.setIfInBounds_toArray, List.set_cons_zero, List.set_cons_succ]
            replace hB : Below X.heap.size X W8 := hB.grown hw8 hB.size (fun k hk => by cases hk; exact gp1)
            replace hcd := hw8.cell hcd (by simpa using hne)
            replace hcdb := hw8.cell hcdb (by simpa using hne)
            clear hw8 hS1
            refine wpAnyH_ready (rs := [26]) (by kernel_rfl) (by simp) (AllReadyH.cons rfl (fun Kt hK => ?_) AllReadyH.nil)
            refine wanted_pos rfl ?_
            refine wp_call (R := fun r w' => ∃ p, r = .pointer (some ⟨p, 0, none⟩) ∧ W8.heap.size ≤ p ∧ Stm w' p (kvSeed g m) false ∧ Below W8.heap.size W8 w') (vs := #[.slice (some ⟨qd, 0, none⟩) 2 2]) rfl (by simp only [List.map_toArray, List.map_cons, List.map_nil]; rfl) (by go_simp) (Calls.mono (C4.out _ _ hB hcd hcdb) (fun e w' ⟨p, he, h1, h2, hb⟩ => ⟨_, he, p, rfl, h1, h2, hb⟩)) (fun r W9 ⟨p2, hr, hp, hS2, hw9⟩ => ?_)
            subst hr
            refine hK.out _ _ trivial (fun _ => ?_)
            clear hK Kt
            simp only [Act.put, List.getElem_toArray, List.getElem_cons_zero, List.getElem_cons_succ, List.setIfInBounds_toArray, List.set_cons_zero, List.set_cons_succ]
            have gp2 : X.heap.size ≤ p2 := Nat.le_trans hB.size hp
            replace hB := K.call hB hw9
            clear hp hw9 hcd hcdb
            refine wpAnyH_ready (rs := [27]) (by kernel_rfl) (by simp) (AllReadyH.cons rfl (fun Kt hK => ?_) AllReadyH.nil)
            refine wanted_pos rfl ?_
            refine wp_call (R := fun r w' => r = .agg (ab U2 32).toArray ∧ W9.grownBy w' (some p2)) (vs := #[.pointer (some ⟨p2, 0, none⟩)]) rfl (by simp only [List.map_toArray, List.map_cons, List.map_nil]; rfl) (by go_simp) (Calls.mono (C5.out _ _ hB gp2 hS2) (fun e w' ⟨he, hb⟩ => ⟨_, he, rfl, hb⟩)) (fun r W10 ⟨hr, hw10⟩ => ?_)
            subst hr
            refine hK.out _ _ trivial (fun _ => ?_)
            clear hK Kt
            simp only [Act.put, List.getElem_toArray, List.getElem_cons_zero, List.getElem_cons_succ, List.setIfInBounds_toArray, List.set_cons_zero, List.set_cons_succ]
            replace hB : Below X.heap.size X W10 := hB.grown hw10 hB.size (fun k hk => by cases hk; exact gp2)
            clear hw10 hS2
            refine wpAnyH_ready (rs := [28]) (by kernel_rfl) (by simp) (AllReadyH.cons rfl (fun Kt hK => ?_) AllReadyH.nil)
            refine wanted_pos rfl ?_
            refine wp_neH rfl rfl rfl (HQ2.out _) (hK.out _ _ trivial (fun _ => ?_))
            clear hK Kt
            simp only [Act.put, List.getElem_toArray, List.getElem_cons_zero, List.getElem_cons_succ, List.setIfInBounds_toArray, List.set_cons_zero, List.set_cons_succ]
            refine wpAnyH_take (i := 29) (v := .bool false) rfl (by kernel_rfl) (by kernel_rfl) (by kernel_rfl) (fun _ _ _ h => h) (Or.inl ⟨by rfl, fun w' _ => by go_simp⟩) trivial ?_
            simp only [Act.put, List.getElem_toArray, List.getElem_cons_zero, List.getElem_cons_succ, List.setIfInBounds_toArray, List.set_cons_zero, List.set_cons_succ]
            refine wpAnyH_done (by kernel_rfl) ?_ _
            refine NoPanic.normal ?_
            exact ⟨qa, qb, qc, p1, qd, p2, rfl, hB⟩
      · refine MetP.out (fun q1 q2 q3 p1 q4 p2 wc hbc => ?_)
        clear C1 C2 C3 C4 C5 hs1 hs2 HQ1 HQ2 D1
        have HBc := hide (K.call HB1.out hbc)
        have HTc := hide (HT1.out.keep hbc)
        have HXc := hide (HX1.out.keep hbc)
        have HYc := hide (HY1.out.keep hbc)
        clear hbc HB1 HT1 HX1 HY1
        have ha := K.alloc (Below.refl _ wc) (.cells #[] 5)
        have HO0 := hide (own_empty wc wc.heap.size (Nat.le_refl _))
        have HXa := hide (HXc.out.keep ha)
        have HAa := hide ha
        clear ha
        go_upto_region 7 with (at_builtin; first
          | (refine wpList_app rfl _ _ rfl rfl HO0.out rfl HXa.out (by have := HN.out; omega) HAa.out.size ?_; intro v5 w5 hO5 hg5)
          | (refine wpList_app rfl _ _ rfl rfl (hO5.alloc _) rfl (one_made w5 0 (by omega)) (by have := HN.out; omega) (by have := (HAa.out.grown hg5 HAa.out.size (fun k hk => by cases hk; exact Nat.le_refl _)).size; simp; omega) ?_; intro v6 w6 hO6 hg6))
        have hb5 : Below wc.heap.size wc w5 := HAa.out.grown hg5 HAa.out.size (fun k hk => by cases hk; exact Nat.le_refl _)
        have hb6 : Below wc.heap.size wc w6 := (K.alloc hb5 _).grown hg6 (K.alloc hb5 _).size (fun k hk => (hO5.lt k hk).1)
        rw [Nat.zero_add, List.nil_append, fl_cat] at hO6
        obtain ⟨a6, c6, rfl, hc6, hm6⟩ := own_max hO6
        have HL6 := hide (own_ba hO6 (cat_lt HX.out.lt (fun _ => by show 0 < 256; omega) n))
        have HC6 := hide (And.intro hc6 hm6)
        have HB6 := hide (K.call HBc.out hb6)
        have HT6 := hide (HTc.out.keep hb6)
        have HX6 := hide (HXc.out.keep hb6)
        have HY6 := hide (HYc.out.keep hb6)
        clear hb5 hb6 hO5 hO6 hg5 hg6 hc6 hm6 HBc HTc HXc HYc HO0 HXa HAa
        by_cases h64 : n < 64
        · have h64i : (n : Int) < 64 := by omega
          have h64d : decide ((64 : Int) ≤ (n : Int)) = false := decide_eq_false (by omega)
          have HM6 := hide (mac_pad (f := f) (g := g) (m := m) h64)
          clear h64
          go_wp2_with fail
          with_reducible refine Calls.mono (mac_one HT6.out HX6.out HC.out.1.1 HC.out.1.2 (by have := HN.out; omega) HY6.out HC.out.2.1 HC.out.2.2 (by have := HN.out; omega) _ rfl) ?_
          rintro e w7 ⟨rfl, hb⟩
          have HB7 := hide (K.call HB6.out hb)
          have HT7 := hide (HT6.out.keep hb)
          have HL7 := hide (HL6.out.keep hb)
          have HY7 := hide (HY6.out.keep hb)
          clear hb HB6 HT6 HL6 HY6 HX6
          go_wp2_with fail
          with_reducible refine Calls.mono (mac_one HT7.out HL7.out HC6.out.1 HC6.out.2 (by have := HN.out; omega) HY7.out HC.out.2.1 HC.out.2.2 (by have := HN.out; omega) _ rfl) ?_
          rintro e w8 ⟨rfl, hb⟩
          have HB8 := hide (K.call HB7.out hb)
          clear hb HB7 HT7 HL7 HY7
          have HQ := hide (fun W => eqM (hByte (macS f n g m)) W)
          unfold mA
          rw [HM6.out]
          generalize (ab (hByte (macS f n g m)) 32).toArray = V at *
          go_wp2_with (refine wpList_eqH (by rfl) _ _ _ rfl _ _ _ rfl rfl (HQ.out _) ?_; simp only [Act.put, List.setIfInBounds_toArray, List.set_cons_zero, List.set_cons_succ])
          go_ret
          exact ⟨rfl, HB8.out⟩
        · have h64i : (64 : Int) ≤ n := by omega
          clear h64
          go_wp2_with fail
          go_ret
          exact ⟨rfl, HB6.out⟩
    · have hni : (n : Int) ≤ 500 := by omega
      have hmi : (500 : Int) < m := by omega
      clear hn hm
      go_enter Tryd.func5, Tryd.ntmps5
      go_wp2_with fail
      with_reducible refine Calls.mono (awake_any HT.out) ?_
      rintro e w1 ⟨rfl, hb1⟩
      have HB1 := hide hb1
      clear hb1
      go_wp2_with fail
      with_reducible refine Calls.mono (awake_any (HT.out.keep HB1.out)) ?_
      rintro e w2 ⟨rfl, hb⟩
      have HB2 := hide (K.call HB1.out hb)
      clear hb HB1
      go_wp2_with fail
      go_ret
      exact ⟨rfl, HB2.out⟩

  · have hni : (500 : Int) < n := by omega
    clear hn
    go_enter Tryd.func5, Tryd.ntmps5
    go_wp2_with fail
    with_reducible refine Calls.mono (awake_any HT.out) ?_
    rintro e w1 ⟨rfl, hb1⟩
    have HB1 := hide hb1
    clear hb1
    go_wp2_with fail
    with_reducible refine Calls.mono (awake_any (HT.out.keep HB1.out)) ?_
    rintro e w2 ⟨rfl, hb⟩
    have HB2 := hide (K.call HB1.out hb)
    clear hb HB1
    go_wp2_with fail
    go_ret
    exact ⟨rfl, HB2.out⟩
end Go.Proofs.YtiahjnfopeiliaaDoor
