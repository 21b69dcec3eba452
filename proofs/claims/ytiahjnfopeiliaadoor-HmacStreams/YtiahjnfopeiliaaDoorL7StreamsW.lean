/- HmacStreams. -/
import Derived.Test.YtiahjnfopeiliaaDoorL7Step
namespace Go.Proofs.YtiahjnfopeiliaaDoor
open Go.RowKit
attribute [local go_sem ↓] Go.wp_at_zero Go.wp_at_succ

theorem HL.keptG {W w1 : World} {x : Option Addr} {n r : Nat} {F : Nat → Nat → Nat} (h : HL W x n F) (hg : W.grownBy w1 (some r)) (hr : ∀ p, x = some p → p.block ≠ r) : HL w1 x n F :=
  ⟨h.at_.elim Or.inl fun ⟨b, e, hc⟩ => Or.inr ⟨b, e, fun i hi j hj => hg.cell (hc i hi j hj) (by have := hr _ e; simpa using this)⟩⟩
theorem HL.range {w : World} {x : Option Addr} {n : Nat} {F : Nat → Nat → Nat} (h : HL w x n F) (b : Nat) (hx : x = some ⟨b, 0, none⟩) (i : Nat) (hi : i < n) (v : Nat → Nat) (hv : v = F i) : w.rangeAt b (32 * i) (ab v 32) := fun j u hu => by
  have hj : j < 32 := by
    rcases Nat.lt_or_ge j 32 with h' | h'
    · exact h'
    · rw [List.getElem?_eq_none (by rw [ab_len]; exact h')] at hu; cases hu
  rw [ab_at _ hj] at hu
  rcases h.at_ with h0 | ⟨b', e, hc⟩
  · omega
  · rw [hx] at e
    cases e
    rw [hc i hi j hj, ← hu, hv]
theorem next_at {w : World} {b n i : Nat} {f : Nat → Nat} (hT : Tab w) (h2 : 2 ≤ b) (hS : Stm w b (kvAt f n i) (decide (0 < i))) :
    Calls Tryd.prog 13 #[.pointer (some ⟨b, 0, none⟩)] w fun e w' => e = .returned (.agg (ab (kvAt f n (i + 1)).v 32).toArray) ∧ Stm w' b (kvAt f n (i + 1)) true ∧ w.grownBy w' (some b) := by
  have h := next_any hT h2 hS (kvAt_ok _ _ _)
  rw [kvAt_next] at h
  exact h
theorem Stm.tell {w : World} {b : Nat} {s : KV} {t u : Bool} (h : Stm w b s t) (e : u = t) : Stm w b s u := by rw [e]; exact h
set_option maxRecDepth 100000 in
set_option maxHeartbeats 16000000 in
theorem hmacStreams_walk {w : World} {a : Option Addr} {n c : Nat} {f : Nat → Nat} (hT : Tab w) (hx : BA w a n f) (hc : n ≤ c) (hcm : c ≤ maxLen) {z : Nat} (hz : z < 256) :
    Calls Tryd.prog 4 #[.slice a n c, .int .u8 (z : Int)] w fun e w' => e = .returned (.bool true) ∧ Below w.heap.size w w' := by
  have HX := hide hx
  have HT := hide hT
  have HL2 := hide hT.lt
  have HC := hide (And.intro hc hcm)
  have hzi : (z : Int) < 256 := by omega
  clear hx hT hc hcm
  by_cases hn : n ≤ 300
  · have hni : (n : Int) ≤ 300 := by omega
    have HN := hide hn
    clear hn
    go_enter Tryd.func4, Tryd.ntmps4
    go_wp2_with fail
    with_reducible refine Calls.mono (awake_any HT.out) ?_
    rintro e w1 ⟨rfl, hb1⟩
    have HB1 := hide hb1
    have HT1 := hide (HT.out.keep hb1)
    have HX1 := hide (HX.out.keep hb1)
    clear hb1
    obtain ⟨k, hk⟩ : ∃ k : Nat, k = z % 11 := ⟨_, rfl⟩
    have hz1 : (z : Int) % 11 = (k : Int) := by omega
    have hz2 : (z : Int).tmod 11 = (k : Int) := by rw [Int.tmod_eq_emod_of_nonneg (by omega)]; omega
    have hkb : (k : Int) < 11 := by omega
    have hk11 : k < 11 := by omega
    have hkw : IntKind.u8.wrap (k : Int) = (k : Int) := by rw [IntKind.wrap_u8']; omega
    have hkw2 : IntKind.i64.wrap (k : Int) = (k : Int) := by rw [IntKind.wrap_i64]; omega
    have HKn := hide hk11
    clear hk hk11
    go_wp2_with fail
    with_reducible refine Calls.mono (new_one HT1.out HX1.out HC.out.1 HC.out.2 (by have := HN.out; omega) _ rfl) ?_
    rintro e w2 ⟨p, rfl, hp, hS, hb⟩
    have HB2 := hide (K.call HB1.out hb)
    have HT2 := hide (HT1.out.keep hb)
    have HX2 := hide (HX1.out.keep hb)
    have HSp : Hid (Stm w2 p (kvAt f n 0) false) := hS
    have HP : Hid (w.heap.size ≤ p) := Nat.le_trans HB1.out.size hp
    clear hb hS hp HB1 HT1 HX1
    clear hz1 hz2 hkw hkw2
    go_wp2_with fail
    with_reducible refine Calls.mono (refNumbers_any HX2.out (by have := HN.out; omega) (by have := HKn.out; omega)) ?_
    rintro e w3 ⟨x, c2, rfl, hH, hfr, hb⟩
    have HB3 := hide (K.call HB2.out hb)
    have HT3 := hide (HT2.out.keep hb)
    have HNx : Hid (∀ q, x = some q → q.block ≠ p) := fun q hq => by have h1 := hfr q hq; have h2 := HSp.out.lt; omega
    have HSp := hide (HSp.out.keep hb)
    have HH := hide hH
    have lp : 2 ≤ p := by have := HP.out; have := HL2.out; omega
    have HLp := hide lp
    clear hb hH hfr lp HB2 HT2 HX2
    go_wp2_with fail
    go_loopg [8] k (fun g' s8 wr => ∃ i : Nat, g' = k - i ∧ i ≤ k ∧ s8 = .int .i64 i ∧ Stm wr p (kvAt f n i) (decide (0 < i)) ∧ Tab wr ∧ HL wr x k (fun i => (kvAt f n (i + 1)).v) ∧ Below w.heap.size w wr)
    case atStart => exact ⟨0, rfl, by omega, rfl, HSp.out, HT3.out, HH.out, HB3.out⟩
    case round =>
      clear HSp HT3 HH HB3
      obtain ⟨i, rfl, hi, rfl, hSp, hT, hH, hB⟩ := hrel
      by_cases hlt : i < k
      · rcases hH.at_ with h0 | ⟨xb, rfl, _⟩
        · omega
        have hii : (i : Int) < (k : Int) := by omega
        have hi32 : 32 * i = i * 32 := by omega
        obtain ⟨v1, hv1⟩ : ∃ v1, v1 = (kvAt f n (i + 1)).v := ⟨_, rfl⟩
        have HV1 := hide hv1
        have HI := hide hlt
        have HQ := hide (fun W => eqM v1 W)
        have HS := hide hSp
        have HT4 := hide hT
        have HH := hide hH
        have HB := hide hB
        clear hv1 hi hlt hSp hT hH hB
        go_upto_region 9 with fail
        have hd := K.drew (Below.refl _ wr)
        have hT := HT4.out.keep hd
        have hSp := HS.out.keep hd
        have hH := HH.out.keep hd
        have hB := K.call HB.out hd
        have lp := HLp.out
        have gp := HP.out
        clear hd HS HT4 HH HB
        refine wp_region_noPanic ?_
        refine wp_region_held_drew (S := fun _ => True) (by kernel_rfl) trivial (fun _ => ?_)
        refine wpAnyH_take (i := 0) (v := .pointer (some ⟨p, 0, none⟩)) rfl (by kernel_rfl) (by kernel_rfl) (by kernel_rfl) (fun _ _ _ h => h) (Or.inl ⟨by rfl, fun w' _ => by go_simp⟩) trivial ?_
        simp only [Act.put, List.getElem_toArray, List.getElem_cons_zero, List.setIfInBounds_toArray, List.set_cons_zero, List.set_cons_succ]
        refine wpAnyH_take (i := 2) (v := .slice (some ⟨xb, 0, none⟩) k c2) rfl (by kernel_rfl) (by kernel_rfl) (by kernel_rfl) (fun _ _ _ h => h) (Or.inl ⟨by rfl, fun w' _ => by go_simp⟩) trivial ?_
        simp only [Act.put, List.getElem_toArray, List.getElem_cons_zero, List.getElem_cons_succ, List.setIfInBounds_toArray, List.set_cons_zero, List.set_cons_succ]
        refine wpAnyH_take (i := 3) (v := .int .i64 (i : Int)) rfl (by kernel_rfl) (by kernel_rfl) (by kernel_rfl) (fun _ _ _ h => h) (Or.inl ⟨by rfl, fun w' _ => by go_simp⟩) trivial ?_
        simp only [Act.put, List.getElem_toArray, List.getElem_cons_zero, List.getElem_cons_succ, List.setIfInBounds_toArray, List.set_cons_zero, List.set_cons_succ]
        refine wpAnyH_take (i := 4) (v := .pointer (some ⟨xb, 32 * i, none⟩)) rfl (by kernel_rfl) (by kernel_rfl) (by kernel_rfl) (fun _ _ _ h => h) (Or.inl ⟨by rfl, fun w' _ => by go_simp⟩) trivial ?_
        simp only [Act.put, List.getElem_toArray, List.getElem_cons_zero, List.getElem_cons_succ, List.setIfInBounds_toArray, List.set_cons_zero, List.set_cons_succ]
        refine wpAnyH_ready (rs := [1, 5]) (by kernel_rfl) (by simp) (AllReadyH.cons rfl (fun Kt hK => ?_) (AllReadyH.cons rfl (fun Kt hK => ?_) AllReadyH.nil))
        · refine wanted_pos rfl ?_
          refine wp_call (R := fun r w' => r = .agg (ab v1 32).toArray ∧ Stm w' p (kvAt f n (i + 1)) true ∧ wr.drew.grownBy w' (some p)) (vs := #[.pointer (some ⟨p, 0, none⟩)]) rfl (by simp only [List.map_toArray, List.map_cons, List.map_nil]; rfl) (by go_simp) (Calls.mono (next_at hT lp hSp) (fun e w' ⟨he, hb⟩ => ⟨_, he, by rw [HV1.out], hb⟩)) (fun r W1 ⟨hr, hSp', hw1⟩ => ?_)
          subst hr
          refine hK.out _ _ trivial (fun _ => ?_)
          clear hK Kt
          simp only [Act.put, List.getElem_toArray, List.getElem_cons_zero, List.getElem_cons_succ, List.setIfInBounds_toArray, List.set_cons_zero, List.set_cons_succ]
          replace hT := hT.kept hw1 lp
          replace hB : Below w.heap.size w W1 := hB.grown hw1 hB.size (fun k hk => by cases hk; exact gp)
          replace hH := hH.keptG hw1 HNx.out
          replace hSp := hSp'
          clear hw1 hSp'
          refine wpAnyH_ready (rs := [5]) (by kernel_rfl) (by simp) (AllReadyH.cons rfl (fun Kt hK => ?_) AllReadyH.nil)
          refine wanted_pos rfl ?_
          refine wp_load_mid 25 _ rfl xb (32 * i) rfl (ab v1 32) _ (hH.range xb rfl i HI.out v1 HV1.out) Tryd.underlying25 rfl (ilH _) (hK.out _ _ trivial (fun _ => ?_))
          clear hK Kt
          simp only [Act.put, List.getElem_toArray, List.getElem_cons_zero, List.getElem_cons_succ, List.setIfInBounds_toArray, List.set_cons_zero, List.set_cons_succ]
          refine wpAnyH_ready (rs := [6]) (by kernel_rfl) (by simp) (AllReadyH.cons rfl (fun Kt hK => ?_) AllReadyH.nil)
          refine wanted_pos rfl ?_
          refine wp_neH rfl rfl rfl (HQ.out _) (hK.out _ _ trivial (fun _ => ?_))
          clear hK Kt
          simp only [Act.put, List.getElem_toArray, List.getElem_cons_zero, List.getElem_cons_succ, List.setIfInBounds_toArray, List.set_cons_zero, List.set_cons_succ]
          refine wpAnyH_done (by kernel_rfl) ?_ _
          refine NoPanic.normal ?_
          have HSp := hide hSp
          have HB := hide hB
          have HTr := hide hT
          have HH := hide hH
          clear hSp hB hT hH
          go_wp2_with fail
          go_roundg (k - (i + 1))
          case measure => have := HI.out; omega
          case rel => exact ⟨i + 1, rfl, HI.out, by go_num, HSp.out.tell (by rw [decide_eq_true (by omega)]), HTr.out, HH.out, HB.out⟩
        · refine wanted_pos rfl ?_
          refine wp_load_mid 25 _ rfl xb (32 * i) rfl (ab v1 32) _ (hH.range xb rfl i HI.out v1 HV1.out) Tryd.underlying25 rfl (ilH _) (hK.out _ _ trivial (fun _ => ?_))
          clear hK Kt
          simp only [Act.put, List.getElem_toArray, List.getElem_cons_zero, List.getElem_cons_succ, List.setIfInBounds_toArray, List.set_cons_zero, List.set_cons_succ]
          refine wpAnyH_ready (rs := [1]) (by kernel_rfl) (by simp) (AllReadyH.cons rfl (fun Kt hK => ?_) AllReadyH.nil)
          refine wanted_pos rfl ?_
          refine wp_call (R := fun r w' => r = .agg (ab v1 32).toArray ∧ Stm w' p (kvAt f n (i + 1)) true ∧ wr.drew.grownBy w' (some p)) (vs := #[.pointer (some ⟨p, 0, none⟩)]) rfl (by simp only [List.map_toArray, List.map_cons, List.map_nil]; rfl) (by go_simp) (Calls.mono (next_at hT lp hSp) (fun e w' ⟨he, hb⟩ => ⟨_, he, by rw [HV1.out], hb⟩)) (fun r W1 ⟨hr, hSp', hw1⟩ => ?_)
          subst hr
          refine hK.out _ _ trivial (fun _ => ?_)
          clear hK Kt
          simp only [Act.put, List.getElem_toArray, List.getElem_cons_zero, List.getElem_cons_succ, List.setIfInBounds_toArray, List.set_cons_zero, List.set_cons_succ]
          replace hT := hT.kept hw1 lp
          replace hB : Below w.heap.size w W1 := hB.grown hw1 hB.size (fun k hk => by cases hk; exact gp)
          replace hH := hH.keptG hw1 HNx.out
          replace hSp := hSp'
          clear hw1 hSp'
          refine wpAnyH_ready (rs := [6]) (by kernel_rfl) (by simp) (AllReadyH.cons rfl (fun Kt hK => ?_) AllReadyH.nil)
          refine wanted_pos rfl ?_
          refine wp_neH rfl rfl rfl (HQ.out _) (hK.out _ _ trivial (fun _ => ?_))
          clear hK Kt
          simp only [Act.put, List.getElem_toArray, List.getElem_cons_zero, List.getElem_cons_succ, List.setIfInBounds_toArray, List.set_cons_zero, List.set_cons_succ]
          refine wpAnyH_done (by kernel_rfl) ?_ _
          refine NoPanic.normal ?_
          have HSp := hide hSp
          have HB := hide hB
          have HTr := hide hT
          have HH := hide hH
          clear hSp hB hT hH
          go_wp2_with fail
          go_roundg (k - (i + 1))
          case measure => have := HI.out; omega
          case rel => exact ⟨i + 1, rfl, HI.out, by go_num, HSp.out.tell (by rw [decide_eq_true (by omega)]), HTr.out, HH.out, HB.out⟩
      · obtain rfl : k = i := by omega
        have HB := hide hB
        clear hSp hT hH hB hi hlt
        go_wp2_with fail
        go_ret
        exact ⟨rfl, HB.out⟩
  · have hni : (300 : Int) < n := by omega
    clear hn
    go_enter Tryd.func4, Tryd.ntmps4
    go_wp2_with fail
    with_reducible refine Calls.mono (awake_any HT.out) ?_
    rintro e w1 ⟨rfl, hb1⟩
    have HB1 := hide hb1
    clear hb1
    go_wp2_with fail
    with_reducible refine Calls.mono (awake_any (HT.out.keep HB1.out)) ?_
    rintro e w2 ⟨rfl, hb⟩
    have HB2 := hide (K.call HB1.out hb)
    clear hb HB1
    go_wp2_with fail
    go_ret
    exact ⟨rfl, HB2.out⟩
theorem hmacStreams_int {w : World} {a : Option Addr} {n c : Nat} {f : Nat → Nat} (hT : Tab w) (hx : BA w a n f) (hc : n ≤ c) (hcm : c ≤ maxLen) {z : Int} (h0 : 0 ≤ z) (h1 : z < 256) :
    Calls Tryd.prog 4 #[.slice a n c, .int .u8 z] w fun e w' => e = .returned (.bool true) ∧ Below w.heap.size w w' := by
  obtain ⟨k, rfl⟩ := Int.eq_ofNat_of_zero_le h0
  exact hmacStreams_walk hT hx hc hcm (by omega)
end Go.Proofs.YtiahjnfopeiliaaDoor
