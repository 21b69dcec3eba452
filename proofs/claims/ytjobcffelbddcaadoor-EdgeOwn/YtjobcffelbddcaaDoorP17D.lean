/- Layer 17: the program's own parts, Len, Edge. -/
import Derived.Test.YtjobcffelbddcaaDoorP17C
import Derived.Test.YtjobcffelbddcaaDoorP16B
namespace Go.Proofs.YtjobcffelbddcaaDoor
set_option maxRecDepth 100000
open Go.RowKit
attribute [local go_sem ↓] Go.wp_at_zero Go.wp_at_succ

/-- What a tree's parts answers. -/
def PtP (w : World) (P : Value) (Q : List Pt2) : Prop := ∃ a n c, n = Q.length ∧ n ≤ c ∧ c ≤ maxLen ∧ PLs w a Q ∧ Calls Tryd.prog 16 #[P] w fun e w' => e = .returned (.slice a n c) ∧ w' = w
theorem parts_nil (w : World) : PtP w (.pointer none) [] := by
  refine ⟨none, 0, 0, rfl, Nat.le_refl _, by unfold maxLen; omega, Or.inl rfl, ?_⟩
  go_enter Tryd.func16, Tryd.ntmps16
  go_wp2_with fail
  go_ret
  exact ⟨rfl, rfl⟩
theorem parts_tree {w : World} {b : Nat} {Q : List Pt2} (h : TrQ w b Q) : PtP w (.pointer (some ⟨b, 0, none⟩)) Q := by
  obtain ⟨v, hb, ho⟩ := h
  obtain ⟨a, c, rfl, h1, h2⟩ := ho.form
  refine ⟨a, _, c, rfl, h1, h2, ho.pls, ?_⟩
  have hc := hb.cell
  clear ho h1 h2 hb
  go_enter Tryd.func16, Tryd.ntmps16
  go_wp2_with fail
  go_ret
  exact ⟨rfl, rfl⟩
theorem sm_le {Q : List Pt2} {i : Nat} {q : Pt2} (hq : Q[i]? = some q) : sm (Q.take i) + q.2 ≤ sm Q := by
  rw [← sm_rev rfl hq]
  exact sm_take Q (i + 1)
set_option maxRecDepth 100000 in
set_option maxHeartbeats 8000000 in
theorem len_any {w : World} {P : Value} {Q : List Pt2} (h : PtP w P Q) (hs : sm Q ≤ 1000000) (hl : Q.length ≤ 100000) :
    Calls Tryd.prog 9 #[P] w fun e w' => e = .returned (.int .i64 ((sm Q : Nat) : Int)) ∧ Below w.heap.size w w' := by
  obtain ⟨a, n, c, hn, hc1, hc2, hp, hC⟩ := h
  have HP := hide hp
  have HC := hide hC
  have HN := hide hn
  have HS := hide hs
  have hn9 : n ≤ 100000 := by omega
  clear hp hC hs hc2 hl hn
  go_enter Tryd.func9, Tryd.ntmps9
  go_wp2_with fail
  with_reducible refine Calls.mono HC.out ?_
  rintro e w1 ⟨rfl, hw⟩
  replace hw := hw.symm
  subst hw
  go_wp2_with fail
  go_loopg [3, 9] n (fun g s3 s9 wr => ∃ i : Nat, g = n - i ∧ i ≤ n ∧ s3 = .int .i64 ((sm (Q.take i) : Nat) : Int) ∧ s9 = .int .i64 (i : Int) ∧ Below w.heap.size w wr)
  case atStart => exact ⟨0, rfl, Nat.zero_le _, rfl, rfl, Below.refl _ _⟩
  case round =>
    obtain ⟨i, rfl, hi, rfl, rfl, hB⟩ := hrel
    by_cases hlt : i < n
    · obtain ⟨q, hq⟩ : ∃ q, Q[i]? = some q := ⟨_, List.getElem?_eq_getElem (by rw [← HN.out]; exact hlt)⟩
      have h2 := sm_rev (Q := Q) (k := i + 1) rfl hq
      have h3 := sm_le hq
      have h4 := HS.out
      rcases HP.out with h0 | ⟨sb, so, ha, hr⟩
      · subst h0; simp at hq
      subst ha
      have HR := hide (range_keep (hr i q hq) hB)
      have HB := hide hB
      have hlt' : (i : Int) < (n : Int) := by omega
      obtain ⟨s, hs⟩ : ∃ s, s = sm (Q.take i) := ⟨_, rfl⟩
      obtain ⟨s2, hs2⟩ : ∃ s2, s2 = sm (Q.take (i + 1)) := ⟨_, rfl⟩
      rw [← hs] at h2 h3 ⊢
      rw [← hs2] at h2
      have hw : wrap64 ((s : Int) + ((q.2 : Nat) : Int)) = (s2 : Int) := by unfold wrap64; omega
      have HE := hide hs2
      clear hr hq h2 h3 h4 hs hs2 hB
      go_wp2_with (first
        | (refine wpList_load_part rfl _ rfl rfl HR.out ?_)
        | (refine wpList_alloc_part rfl rfl ?_; intro V1 hp1; have HV1 := hide hp1; clear hp1)
        | (refine wpList_store_part rfl _ _ rfl rfl rfl HV1.out ?_; intro V2 hp2; have hc2 := pa_size hp2.r; rw [Nat.zero_add] at hc2; have HB2 := hide (K.call HB.out hp2.bl); clear hp2))
      go_roundg (n - (i + 1))
      case measure => omega
      case rel => exact ⟨i + 1, rfl, hlt, by rw [hw, HE.out], by simp, HB2.out⟩
    · obtain rfl : i = n := by omega
      have HB := hide hB
      have HE : Hid (Q.take i = Q) := by show _ = _; rw [HN.out, List.take_length]
      clear hB
      go_wp2_with fail
      go_ret
      exact ⟨by rw [HE.out]; rfl, HB.out⟩
/-- What Edge answers. -/
def EgP (w : World) (L : List (Nat → Nat)) (e : Ending) (w' : World) : Prop := ∃ v, e = .returned v ∧ OH w' w.heap.size v L.length (lF L) ∧ Below w.heap.size w w'
theorem map_take {Q : List Pt2} {i : Nat} {q : Pt2} (hq : Q[i]? = some q) : (Q.take (i + 1)).map Prod.fst = (Q.take i).map Prod.fst ++ [q.1] := by
  rw [List.take_add_one, hq, List.map_append]
  rfl
set_option maxRecDepth 100000 in
set_option maxHeartbeats 8000000 in
theorem edge_any {w : World} {P : Value} {Q : List Pt2} (h : PtP w P Q) (hQ : ∀ (i : Nat) (q : Pt2), Q[i]? = some q → ∀ j, q.1 j < 256) (hl : Q.length ≤ 100000) :
    Calls Tryd.prog 11 #[P] w (EgP w (Q.map Prod.fst)) := by
  obtain ⟨a, n, c, hn, hc1, hc2, hp, hC⟩ := h
  have HP := hide hp
  have HC := hide hC
  have HN := hide hn
  have HQ := hide hQ
  have hn9 : n ≤ 100000 := by omega
  clear hp hC hc2 hl hn hQ
  go_enter Tryd.func11, Tryd.ntmps11
  go_wp2_with fail
  with_reducible refine Calls.mono HC.out ?_
  rintro e w1 ⟨rfl, hw⟩
  replace hw := hw.symm
  subst hw
  go_wp2_with fail
  go_loopg [3, 9] n (fun g s3 s9 wr => ∃ (i : Nat) (L : List (Nat → Nat)), g = n - i ∧ i ≤ n ∧ L = (Q.take i).map Prod.fst ∧ L.length = i ∧ OH wr w.heap.size s3 L.length (lF L) ∧ s9 = .int .i64 (i : Int) ∧ Below w.heap.size w wr)
  case atStart => exact ⟨0, [], rfl, Nat.zero_le _, rfl, rfl, OH.nil _ _ _, rfl, Below.refl _ _⟩
  case round =>
    obtain ⟨i, L, rfl, hi, hL, hLi, hO, rfl, hB⟩ := hrel
    by_cases hlt : i < n
    · obtain ⟨q, hq⟩ : ∃ q, Q[i]? = some q := ⟨_, List.getElem?_eq_getElem (by rw [← HN.out]; exact hlt)⟩
      rcases HP.out with h0 | ⟨sb, so, ha, hr⟩
      · subst h0; simp at hq
      subst ha
      have HR := hide (range_keep (hr i q hq) hB)
      have HB := hide hB
      have HO := hide hO
      have HE : Hid (L ++ [q.1] = (Q.take (i + 1)).map Prod.fst) := by show _ = _; rw [map_take hq, hL]
      have HF := hide (HQ.out i q hq)
      have HLi := hide hLi
      have hlt' : (i : Int) < (n : Int) := by omega
      clear hr hq hL hO hB hLi
      go_wp2_with (first
        | (refine wpList_load_part rfl _ rfl rfl HR.out ?_)
        | (refine wpList_alloc_part rfl rfl ?_; intro V1 hp1; have HV1 := hide hp1; clear hp1)
        | (refine wpList_store_part rfl _ _ rfl rfl rfl HV1.out ?_; intro V2 hp2; have HV2 := hide (pa_root hp2.r); have HB2 := hide (K.call HB.out hp2.bl); have HO2 := hide (HO.out.keep hp2.bl); clear hp2)
        | (refine wpList_load_h rfl _ rfl rfl HV2.out ?_)
        | (refine wpList_oneH rfl rfl (by rfl) HF.out ?_; intro q3 W4 hq4 hl4 ho4 hb4; have HO4 := hide (HO2.out.keep hb4); have HL4 := hide ho4; have HB4 := hide (K.call HB2.out hb4); clear hq4 hl4 ho4 hb4)
        | (at_builtin; refine wpList_appH rfl _ _ rfl rfl HO4.out rfl HL4.out (by have := HLi.out; omega) HB4.out.size ?_; intro v5 W5 ho5 hg5; have HB5 := hide (OH.below HO4.out HB4.out hg5); have HO5 := hide (OH.snoc ho5); clear ho5 hg5))
      go_roundg (n - (i + 1))
      case measure => omega
      case rel => exact ⟨i + 1, L ++ [q.1], rfl, hlt, HE.out, by rw [List.length_append, HLi.out]; rfl, HO5.out, by simp, HB5.out⟩
    · obtain rfl : i = n := by omega
      have HB := hide hB
      have HO := hide hO
      have HE : Hid (L = Q.map Prod.fst) := by show _ = _; rw [hL, HN.out, List.take_length]
      clear hB hO hL
      go_wp2_with fail
      go_ret
      exact ⟨_, rfl, by rw [← HE.out]; exact HO.out, HB.out⟩
end Go.Proofs.YtjobcffelbddcaaDoor
