/- TextParts. -/
import Derived.Test.YtloboidolhpogaaTPartsB
import Derived.Deep.DeepCutAuto
namespace Go.Proofs.Ytloboidolhpogaa
open Go.RowKit
attribute [local go_sem ↓] Go.wp_at_zero Go.wp_at_succ
attribute [local go_sem] tx_size tx_append

theorem own_nought {w : World} {base : Nat} {v : Value} {k m : Nat} {l r : List Nat} (h : w.ownsRow base 5 1 v (0 + k + m) (cells8 ([] ++ l ++ r))) : w.ownsRow base 5 1 v (k + m) (cells8 (l ++ r)) := by
  rw [Nat.zero_add] at h; exact h
set_option maxRecDepth 100000 in
set_option maxHeartbeats 8000000 in
theorem textParts_some {ad : Addr} {n c : Nat} {f : Nat → Nat} {w : World} {a2 : Option Addr} {n2 c2 : Nat} {f2 : Nat → Nat} (h : BA w (some ad) n f) (hc : n ≤ c) (h2 : BA w a2 n2 f2) (hc2 : n2 ≤ c2) (hn : n ≤ 300) (hl : n2 ≤ 300) :
    Calls Try.prog 5 #[.slice (some ad) n c, .slice a2 n2 c2] w fun e w' => e = .returned (.bool true) ∧ Below w.heap.size w w' := by
  have H : Hid (BA w (some ad) n f) := h
  have H2 : Hid (BA w a2 n2 f2) := h2
  clear h h2
  have hni : (n : Int) ≤ 300 := by omega
  have hli : (n2 : Int) ≤ 300 := by omega
  obtain ⟨q, hq⟩ : ∃ q, q = n / 3 := ⟨_, rfl⟩
  obtain ⟨k, hk⟩ : ∃ k, k = 3 * q := ⟨_, rfl⟩
  have hkI : (n : Int) / 3 * 3 = (k : Int) := by omega
  have hkn : k ≤ n := by omega
  have hkc : (k : Int) ≤ c := by omega
  have HK : Hid (k = 3 * q) := hk
  have hcq : (k : Int) ≤ 300 := by omega
  have HP : Hid (∀ {w}, BA w (some ad) n f → BA w (some ad) k f) := by
    intro w hw
    refine ⟨hw.lt, ?_⟩
    rcases hw.at_ with e | ⟨b, o, e, hr⟩
    · exact Or.inl (by omega)
    · exact Or.inr ⟨b, o, e, hr.first k (by omega)⟩
  clear hq hk
  have HE1 : Hid (∀ w, BA w (some ad) n f → Calls Try.prog 10 #[.slice (some ad) k c] w fun e w' => e = .returned (.string (tx (enc f k))) ∧ Below w.heap.size w w') := fun w hw => encode_any (HP.out hw) (by omega) (by omega)
  have HE2 : Hid (∀ w, BA w a2 n2 f2 → Calls Try.prog 10 #[.slice a2 n2 c2] w fun e w' => e = .returned (.string (tx (enc f2 n2))) ∧ Below w.heap.size w w') := fun w hw => encode_any hw hc2 (by omega)
  have HE3 : Hid (∀ w base v, w.ownsRow base 5 1 v (k + n2) (cells8 (fl f k ++ fl f2 n2)) → Calls Try.prog 10 #[v] w fun e w' => e = .returned (.string (tx (enc f k ++ enc f2 n2))) ∧ Below w.heap.size w w') := fun w base v hv => by
    have := encode_own hv (fun x hx => by
      rcases List.mem_append.1 hx with hx | hx
      · exact fl_lt H.out.lt _ x hx
      · exact fl_lt H2.out.lt _ x hx) (by omega)
    rw [HK.out, enc_both] at this
    rw [HK.out]
    exact this
  have le1 : (enc f k).length ≤ 1000 := by rw [enc_len]; omega
  have le2 : (enc f2 n2).length ≤ 1000 := by rw [enc_len]; omega
  generalize enc f k = T1 at *
  generalize enc f2 n2 = T2 at *
  have hb1 : k + n2 ≤ 2000 := by omega
  have hcat : ¬ 9223372036854775807 < T1.length + T2.length := by omega
  have hcat2 : T1.length + T2.length ≤ 9223372036854775807 := by omega
  have hb0 : 0 + k ≤ 2000 := by omega
  go_enter Try.func5, Try.ntmps5
  go_wp2_with fail
  with_reducible refine Calls.mono (awake_any _) ?_
  rintro e W0 ⟨rfl, hb⟩
  have HA : Hid (∀ w', Below W0.heap.size W0 w' → BA w' (some ad) n f) := fun w' hb' => (H.out.keep hb).keep hb'
  have HA2 : Hid (∀ w', Below W0.heap.size W0 w' → BA w' a2 n2 f2) := fun w' hb' => (H2.out.keep hb).keep hb'
  have HBW : Hid (Below w.heap.size w W0) := hb
  clear hb H H2
  have hO0 : ((W0.alloc (.cells #[] 5)).drew).ownsRow W0.heap.size 5 1 (.slice (some ⟨W0.heap.size, 0, none⟩) 0 0) 0 (cells8 []) := (own_empty W0 W0.heap.size (Nat.le_refl _)).drew
  have hQ0 : Below W0.heap.size W0 ((W0.alloc (.cells #[] 5)).drew) := K.drew (K.alloc (Below.refl _ _) _)
  have HB0 := hide (HP.out (HA.out _ hQ0))
  have HO0 := hide hO0
  have HB1 : Hid (0 + k + n2 ≤ 2000) := by show _ ≤ _; omega
  clear hO0
  go_upto_region 4 with fail
  go_region_held3 (fun w' => Below W0.heap.size W0 w')
    (first | (with_reducible exact hQ) | (with_reducible exact hQ0) | (with_reducible exact K.drew (Below.refl _ _)) | (with_reducible exact K.alloc (K.drew (Below.refl _ _)) _) | (with_reducible exact K.drew (K.alloc (Below.refl _ _) _)) | (with_reducible exact K.alloc (Below.refl _ _) _) | (with_reducible exact Below.refl _ _) | (with_reducible exact K.alloc (by with_reducible assumption) _))
    (first
      | (go_at_call 10; with_reducible refine Calls.mono (HE3.out _ _ _ HO2.out) ?_; rintro e w' ⟨rfl, hk'⟩; have hQ : Below W0.heap.size W0 w' := K.call hQ hk')
      | (go_at_call 10; with_reducible refine Calls.mono (HE1.out _ (HA.out _ hQ)) ?_; rintro e w' ⟨rfl, hk'⟩; have hQ : Below W0.heap.size W0 w' := K.call hQ hk')
      | (go_at_call 10; with_reducible refine Calls.mono (HE2.out _ (HA2.out _ hQ)) ?_; rintro e w' ⟨rfl, hk'⟩; have hQ : Below W0.heap.size W0 w' := K.call hQ hk')
      | (refine step_app (by rfl) _ _ (by rfl) (by rfl) HO0.out (by rfl) HB0.out hb0 hQ0.size ?_; intro v1 w' hO1 hgrow; have hQ : Below W0.heap.size W0 w' := below_append hQ0 HO0.out hgrow; have HO1 := hide hO1; clear hgrow hO1)
      | (refine step_app (by rfl) _ _ (by rfl) (by rfl) HO1.out (by rfl) (HA2.out _ hQ) HB1.out hQ.size ?_; intro v2 w' hO2 hgrow; have hQ : Below W0.heap.size W0 w' := below_append hQ HO1.out hgrow; have HO2 := hide (own_nought hO2); clear hgrow hO2))
  have hH := ‹Below W0.heap.size W0 _›
  (try go_wp2_with fail)
  go_ret
  exact ⟨rfl, K.call HBW.out hQ⟩
set_option maxRecDepth 100000 in
set_option maxHeartbeats 8000000 in
theorem textParts_none {n c : Nat} {f : Nat → Nat} {w : World} {a2 : Option Addr} {n2 c2 : Nat} {f2 : Nat → Nat} (h : BA w none n f) (hc : n ≤ c) (h2 : BA w a2 n2 f2) (hc2 : n2 ≤ c2) (hn : n ≤ 300) (hl : n2 ≤ 300) :
    Calls Try.prog 5 #[.slice none n c, .slice a2 n2 c2] w fun e w' => e = .returned (.bool true) ∧ Below w.heap.size w w' := by
  have H : Hid (BA w none n f) := h
  have H2 : Hid (BA w a2 n2 f2) := h2
  clear h h2
  have hni : (n : Int) ≤ 300 := by omega
  have hli : (n2 : Int) ≤ 300 := by omega
  obtain ⟨q, hq⟩ : ∃ q, q = n / 3 := ⟨_, rfl⟩
  obtain ⟨k, hk⟩ : ∃ k, k = 3 * q := ⟨_, rfl⟩
  have hkI : (n : Int) / 3 * 3 = (k : Int) := by omega
  have hkn : k ≤ n := by omega
  have hkc : (k : Int) ≤ c := by omega
  have HK : Hid (k = 3 * q) := hk
  have hcq : (k : Int) ≤ 300 := by omega
  have HP : Hid (∀ {w}, BA w none n f → BA w none k f) := by
    intro w hw
    refine ⟨hw.lt, ?_⟩
    rcases hw.at_ with e | ⟨b, o, e, hr⟩
    · exact Or.inl (by omega)
    · exact Or.inr ⟨b, o, e, hr.first k (by omega)⟩
  clear hq hk
  have HE1 : Hid (∀ w, BA w none n f → Calls Try.prog 10 #[.slice none k c] w fun e w' => e = .returned (.string (tx (enc f k))) ∧ Below w.heap.size w w') := fun w hw => encode_any (HP.out hw) (by omega) (by omega)
  have HE2 : Hid (∀ w, BA w a2 n2 f2 → Calls Try.prog 10 #[.slice a2 n2 c2] w fun e w' => e = .returned (.string (tx (enc f2 n2))) ∧ Below w.heap.size w w') := fun w hw => encode_any hw hc2 (by omega)
  have HE3 : Hid (∀ w base v, w.ownsRow base 5 1 v (k + n2) (cells8 (fl f k ++ fl f2 n2)) → Calls Try.prog 10 #[v] w fun e w' => e = .returned (.string (tx (enc f k ++ enc f2 n2))) ∧ Below w.heap.size w w') := fun w base v hv => by
    have := encode_own hv (fun x hx => by
      rcases List.mem_append.1 hx with hx | hx
      · exact fl_lt H.out.lt _ x hx
      · exact fl_lt H2.out.lt _ x hx) (by omega)
    rw [HK.out, enc_both] at this
    rw [HK.out]
    exact this
  have le1 : (enc f k).length ≤ 1000 := by rw [enc_len]; omega
  have le2 : (enc f2 n2).length ≤ 1000 := by rw [enc_len]; omega
  generalize enc f k = T1 at *
  generalize enc f2 n2 = T2 at *
  have hb1 : k + n2 ≤ 2000 := by omega
  have hcat : ¬ 9223372036854775807 < T1.length + T2.length := by omega
  have hcat2 : T1.length + T2.length ≤ 9223372036854775807 := by omega
  have hb0 : 0 + k ≤ 2000 := by omega
  go_enter Try.func5, Try.ntmps5
  go_wp2_with fail
  with_reducible refine Calls.mono (awake_any _) ?_
  rintro e W0 ⟨rfl, hb⟩
  have HA : Hid (∀ w', Below W0.heap.size W0 w' → BA w' none n f) := fun w' hb' => (H.out.keep hb).keep hb'
  have HA2 : Hid (∀ w', Below W0.heap.size W0 w' → BA w' a2 n2 f2) := fun w' hb' => (H2.out.keep hb).keep hb'
  have HBW : Hid (Below w.heap.size w W0) := hb
  clear hb H H2
  have hO0 : ((W0.alloc (.cells #[] 5)).drew).ownsRow W0.heap.size 5 1 (.slice (some ⟨W0.heap.size, 0, none⟩) 0 0) 0 (cells8 []) := (own_empty W0 W0.heap.size (Nat.le_refl _)).drew
  have hQ0 : Below W0.heap.size W0 ((W0.alloc (.cells #[] 5)).drew) := K.drew (K.alloc (Below.refl _ _) _)
  have HB0 := hide (HP.out (HA.out _ hQ0))
  have HO0 := hide hO0
  have HB1 : Hid (0 + k + n2 ≤ 2000) := by show _ ≤ _; omega
  clear hO0
  go_upto_region 4 with fail
  go_region_held3 (fun w' => Below W0.heap.size W0 w')
    (first | (with_reducible exact hQ) | (with_reducible exact hQ0) | (with_reducible exact K.drew (Below.refl _ _)) | (with_reducible exact K.alloc (K.drew (Below.refl _ _)) _) | (with_reducible exact K.drew (K.alloc (Below.refl _ _) _)) | (with_reducible exact K.alloc (Below.refl _ _) _) | (with_reducible exact Below.refl _ _) | (with_reducible exact K.alloc (by with_reducible assumption) _))
    (first
      | (go_at_call 10; with_reducible refine Calls.mono (HE3.out _ _ _ HO2.out) ?_; rintro e w' ⟨rfl, hk'⟩; have hQ : Below W0.heap.size W0 w' := K.call hQ hk')
      | (go_at_call 10; with_reducible refine Calls.mono (HE1.out _ (HA.out _ hQ)) ?_; rintro e w' ⟨rfl, hk'⟩; have hQ : Below W0.heap.size W0 w' := K.call hQ hk')
      | (go_at_call 10; with_reducible refine Calls.mono (HE2.out _ (HA2.out _ hQ)) ?_; rintro e w' ⟨rfl, hk'⟩; have hQ : Below W0.heap.size W0 w' := K.call hQ hk')
      | (refine step_app (by rfl) _ _ (by rfl) (by rfl) HO0.out (by rfl) HB0.out hb0 hQ0.size ?_; intro v1 w' hO1 hgrow; have hQ : Below W0.heap.size W0 w' := below_append hQ0 HO0.out hgrow; have HO1 := hide hO1; clear hgrow hO1)
      | (refine step_app (by rfl) _ _ (by rfl) (by rfl) HO1.out (by rfl) (HA2.out _ hQ) HB1.out hQ.size ?_; intro v2 w' hO2 hgrow; have hQ : Below W0.heap.size W0 w' := below_append hQ HO1.out hgrow; have HO2 := hide (own_nought hO2); clear hgrow hO2))
  have hH := ‹Below W0.heap.size W0 _›
  (try go_wp2_with fail)
  go_ret
  exact ⟨rfl, K.call HBW.out hQ⟩

set_option maxHeartbeats 2000000 in
theorem textParts_walk {x : Option Addr} {n c : Nat} {f : Nat → Nat} {w : World} {a2 : Option Addr} {n2 c2 : Nat} {f2 : Nat → Nat} (h : BA w x n f) (hc : n ≤ c) (h2 : BA w a2 n2 f2) (hc2 : n2 ≤ c2) :
    Calls Try.prog 5 #[.slice x n c, .slice a2 n2 c2] w fun e w' => e = .returned (.bool true) ∧ Below w.heap.size w w' := by
  by_cases hn : n ≤ 300
  · by_cases hl : n2 ≤ 300
    · cases x with
      | none => exact textParts_none h hc h2 hc2 hn hl
      | some ad => exact textParts_some h hc h2 hc2 hn hl
    · have hni : (n : Int) ≤ 300 := by omega
      have hli : ¬ (n2 : Int) ≤ 300 := by omega
      go_enter Try.func5, Try.ntmps5
      go_wp2_with fail
      with_reducible refine Calls.mono (awake_any _) ?_
      rintro e w1 ⟨rfl, hb1⟩
      go_wp2_with fail
      with_reducible refine Calls.mono (awake_any _) ?_
      rintro e w2 ⟨rfl, hb2⟩
      go_wp2_with fail
      go_ret
      exact ⟨rfl, K.call hb1 hb2⟩
  · have hni : ¬ (n : Int) ≤ 300 := by omega
    go_enter Try.func5, Try.ntmps5
    go_wp2_with fail
    with_reducible refine Calls.mono (awake_any _) ?_
    rintro e w1 ⟨rfl, hb1⟩
    go_wp2_with fail
    with_reducible refine Calls.mono (awake_any _) ?_
    rintro e w2 ⟨rfl, hb2⟩
    go_wp2_with fail
    go_ret
    exact ⟨rfl, K.call hb1 hb2⟩
end Go.Proofs.Ytloboidolhpogaa
