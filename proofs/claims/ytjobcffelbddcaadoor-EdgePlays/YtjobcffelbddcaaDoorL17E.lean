/- EdgePlays. -/
import Derived.Test.YtjobcffelbddcaaDoorL17D
namespace Go.Proofs.YtjobcffelbddcaaDoor
set_option maxRecDepth 100000
open Go.RowKit
attribute [local go_sem ↓] Go.wp_at_zero Go.wp_at_succ

set_option maxRecDepth 100000 in
set_option maxHeartbeats 16000000 in
theorem edgePlays_walk {w : World} {z : Option Addr} {n c : Nat} {F : Nat → Nat → Nat} (hT : Tab w) (hx : HL w z n F) (hc : n ≤ c) (hcm : c ≤ maxLen) :
    Calls Tryd.prog 3 #[.slice z n c] w fun e w' => e = .returned (.bool true) ∧ Below w.heap.size w w' := by
  have HT := hide hT
  have HX := hide hx
  have HC := hide (And.intro hc hcm)
  clear hT hx hc hcm
  by_cases hn : n ≤ 60
  · have hq : (n : Int) ≤ 60 := by omega
    have HN := hide hn
    clear hn
    go_enter Tryd.func3, Tryd.ntmps3
    go_upto_region 3 with (go_at_call 8; refine Calls.mono (awake_any HT.out) ?_; rintro e W1 ⟨rfl, hb⟩; have HB1 := hide hb; clear hb)
    go_upto_region 4 with fail
    refine wp_world (fun X hX => ?_)
    obtain ⟨hB, hTa⟩ := boxT1 HX.out.lt HB1.out hX
    clear hX
    obtain ⟨b, hb⟩ : ∃ b, W1.heap.size = b := ⟨_, rfl⟩
    have hwb : w.heap.size ≤ b := by rw [← hb]; exact HB1.out.size
    rw [hb] at hTa ⊢
    have HB := hide hB
    have HTa := hide hTa
    clear hB hTa HB1 hb
    go_wp2_with fail
    go_loopg [4] (n + 1) (fun g s4 wr => ∃ i : Nat, g = n + 1 - i ∧ i ≤ n + 1 ∧ s4 = .int .i64 (i : Int) ∧ (i ≤ n → Tr wr b i F) ∧ Below w.heap.size w wr)
    case atStart => exact ⟨0, rfl, Nat.zero_le _, rfl, fun _ => HTa.out, HB.out⟩
    case round =>
      clear HTa HB
      obtain ⟨i, rfl, hi, rfl, hTa, hB⟩ := hrel
      by_cases hle : i ≤ n
      · have hle' : (i : Int) ≤ (n : Int) := by omega
        have hic : i ≤ c := by have := HC.out.1; omega
        have hi6 : i ≤ 60 := by have := HN.out; omega
        have HTa := hide (hTa hle)
        have HB := hide hB
        have HXh := hide ((HX.out.keep hB).head i hle)
        obtain ⟨ro, hr⟩ : ∃ ro, rt F i = ro := ⟨_, rfl⟩
        obtain ⟨L, hL⟩ : ∃ L, eL F i = L := ⟨_, rfl⟩
        obtain ⟨k, hk⟩ : ∃ k, L.length = k := ⟨_, rfl⟩
        have HE0 := hide (eL_lF HX.out.lt i)
        rw [hL] at HE0
        have HK := hide hk
        have hkl : k ≤ 1000000 := by
          obtain ⟨es, e1, e2⟩ := desc_ex i (by omega)
          have h := hL
          rw [← e2, eL_parts F e1] at h
          have h2 := desc_len es
          rw [← hk, ← h, pR_len]
          omega
        have HLn := hide (fun W (h : Below wr.heap.size wr W) => tr_len (HTa.out.keep h) (by omega))
        have HEd := hide (fun W (h : Below wr.heap.size wr W) => tr_edge (HTa.out.keep h) (by omega))
        have HEr : Hid (∀ W, Below wr.heap.size wr W → Calls Tryd.prog 12 #[.slice z i c] W (EgP W (eL F i))) := fun W h => refEdge_any (c := c) (HXh.out.keep h) hic HC.out.2 (by omega)
        have HRt := hide (fun W (h : Below wr.heap.size wr W) => tr_root ((HT.out.keep HB.out).keep h) (HTa.out.keep h) (by omega))
        have HRr := hide (fun W (h : Below wr.heap.size wr W) => refRoot_any i (c := c) (HXh.out.keep h) hic HC.out.2 (by omega))
        have HSm := hide (fun W (_ : Below wr.heap.size wr W) a c a2 c2 (hx : HL W a k (lF L)) (hy : HL W a2 k (lF L)) => refSame_any (x := a) (c := c) (d := c2) hx hy hkl)
        have HEq := hide (fun W => eqH_same ro W)
        rw [hr] at HRt HRr
        rw [hL] at HEd HEr
        unfold hv at HRt HRr
        clear hr hL hk hkl hTa hB
        go_wp2_with fail
        refine wp_region_noPanic ?_
        refine wp_region_held_drew (S := fun w' => Below wr.heap.size wr w') (by kernel_rfl) (Go.Proofs.YtjobcffelbddcaaDoor.K.drew (Below.refl _ wr)) (fun hS0 => ?_)
        refine wpAnyH_take (i := 0) (v := .pointer (some ⟨b, 0, none⟩)) rfl (by kernel_rfl) (by kernel_rfl) (by kernel_rfl) (fun _ _ _ h => h) (Or.inl ⟨by rfl, fun w' _ => by go_simp⟩) hS0 ?_
        simp only [Act.put, List.getElem_toArray, List.getElem_cons_zero, List.setIfInBounds_toArray, List.set_cons_zero, List.set_cons_succ]
        refine wpAnyH_take (i := 2) (v := .int .i64 (i : Int)) rfl (by kernel_rfl) (by kernel_rfl) (by kernel_rfl) (fun _ _ _ h => h) (Or.inl ⟨by rfl, fun w' _ => by go_simp⟩) hS0 ?_
        simp only [Act.put, List.getElem_toArray, List.getElem_cons_zero, List.getElem_cons_succ, List.setIfInBounds_toArray, List.set_cons_zero, List.set_cons_succ]
        refine wpAnyH_ready (rs := [1]) (by kernel_rfl) (by simp) (AllReadyH.cons rfl (fun Kt hK => ?_) AllReadyH.nil)
        refine wanted_pos rfl ?_
        refine wp_call (R := fun r w' => r = .int .i64 (i : Int) ∧ Below wr.heap.size wr w') (vs := #[.pointer (some ⟨b, 0, none⟩)]) rfl (by simp only [List.map_toArray, List.map_cons, List.map_nil]; rfl) (by go_simp) (Calls.mono (HLn.out _ hS0) (fun e w' ⟨he, hb⟩ => ⟨_, he, rfl, K.call hS0 hb⟩)) (fun r W1 ⟨hr, hb⟩ => ?_)
        subst hr
        refine hK.out _ _ hb (fun hS1 => ?_)
        clear hK Kt hb
        simp only [Act.put, List.getElem_toArray, List.getElem_cons_zero, List.getElem_cons_succ, List.setIfInBounds_toArray, List.set_cons_zero, List.set_cons_succ]
        refine wpAnyH_take (i := 3) (v := .bool false) rfl (by kernel_rfl) (by kernel_rfl) (by kernel_rfl) (fun _ _ _ h => h) (Or.inl ⟨by rfl, fun w' _ => by go_simp⟩) hS1 ?_
        simp only [Act.put, List.getElem_toArray, List.getElem_cons_zero, List.getElem_cons_succ, List.setIfInBounds_toArray, List.set_cons_zero, List.set_cons_succ]
        refine wpAnyH_take (i := 4) (v := .bool false) rfl (by kernel_rfl) (by kernel_rfl) (by kernel_rfl) (fun _ _ _ h => h) (Or.inl ⟨by rfl, fun w' _ => by go_simp⟩) hS1 ?_
        simp only [Act.put, List.getElem_toArray, List.getElem_cons_zero, List.getElem_cons_succ, List.setIfInBounds_toArray, List.set_cons_zero, List.set_cons_succ]
        refine wpAnyH_take (i := 5) (v := .pointer (some ⟨b, 0, none⟩)) rfl (by kernel_rfl) (by kernel_rfl) (by kernel_rfl) (fun _ _ _ h => h) (Or.inl ⟨by rfl, fun w' _ => by go_simp⟩) hS1 ?_
        simp only [Act.put, List.getElem_toArray, List.getElem_cons_zero, List.getElem_cons_succ, List.setIfInBounds_toArray, List.set_cons_zero, List.set_cons_succ]
        refine wpAnyH_take (i := 7) (v := .slice z n c) rfl (by kernel_rfl) (by kernel_rfl) (by kernel_rfl) (fun _ _ _ h => h) (Or.inl ⟨by rfl, fun w' _ => by go_simp⟩) hS1 ?_
        simp only [Act.put, List.getElem_toArray, List.getElem_cons_zero, List.getElem_cons_succ, List.setIfInBounds_toArray, List.set_cons_zero, List.set_cons_succ]
        refine wpAnyH_take (i := 8) (v := .int .i64 (i : Int)) rfl (by kernel_rfl) (by kernel_rfl) (by kernel_rfl) (fun _ _ _ h => h) (Or.inl ⟨by rfl, fun w' _ => by go_simp⟩) hS1 ?_
        simp only [Act.put, List.getElem_toArray, List.getElem_cons_zero, List.getElem_cons_succ, List.setIfInBounds_toArray, List.set_cons_zero, List.set_cons_succ]
        refine wpAnyH_take (i := 9) (v := .slice z i c) rfl (by kernel_rfl) (by kernel_rfl) (by kernel_rfl) (fun _ _ _ h => h) (Or.inl ⟨by rfl, fun w' _ => by go_simp⟩) hS1 ?_
        simp only [Act.put, List.getElem_toArray, List.getElem_cons_zero, List.getElem_cons_succ, List.setIfInBounds_toArray, List.set_cons_zero, List.set_cons_succ]
        refine wpAnyH_ready (rs := [6]) (by kernel_rfl) (by simp) (AllReadyH.cons rfl (fun Kt hK => ?_) AllReadyH.nil)
        refine wanted_pos rfl ?_
        refine wp_call (R := fun r w' => ∃ a c, r = .slice a k c ∧ HL w' a k (lF L) ∧ Below wr.heap.size wr w') (vs := #[.pointer (some ⟨b, 0, none⟩)]) rfl (by simp only [List.map_toArray, List.map_cons, List.map_nil]; rfl) (by go_simp) (Calls.mono (HEd.out _ hS1) (fun e w' hE => by
          obtain ⟨v, he, ho, hb⟩ := hE
          obtain ⟨a, c, e2, _, _⟩ := ho.form
          subst e2
          have hh := ho.hl HE0.out
          rw [HK.out] at hh he
          exact ⟨_, he, a, c, rfl, hh, K.call hS1 hb⟩)) (fun r W2 hr => ?_)
        obtain ⟨ae1, ce1, hr, hhl, hb⟩ := hr
        subst hr
        have HHe1 := hide hhl
        have HWe1 : Hid (Below wr.heap.size wr W2) := hb
        refine hK.out _ _ hb (fun hS2 => ?_)
        clear hK Kt hb hhl
        simp only [Act.put, List.getElem_toArray, List.getElem_cons_zero, List.getElem_cons_succ, List.setIfInBounds_toArray, List.set_cons_zero, List.set_cons_succ]
        refine wpAnyH_ready (rs := [10]) (by kernel_rfl) (by simp) (AllReadyH.cons rfl (fun Kt hK => ?_) AllReadyH.nil)
        refine wanted_pos rfl ?_
        refine wp_call (R := fun r w' => ∃ a c, r = .slice a k c ∧ HL w' a k (lF L) ∧ HL w' ae1 k (lF L) ∧ Below wr.heap.size wr w') (vs := #[.slice z i c]) rfl (by simp only [List.map_toArray, List.map_cons, List.map_nil]; rfl) (by go_simp) (Calls.mono (HEr.out _ hS2) (fun e w' hE => by
          obtain ⟨v, he, ho, hb⟩ := hE
          obtain ⟨a, c, e2, _, _⟩ := ho.form
          subst e2
          have hh := ho.hl HE0.out
          rw [HK.out] at hh he
          exact ⟨_, he, a, c, rfl, hh, HHe1.out.keep hb, K.call hS2 hb⟩)) (fun r W3 hr => ?_)
        obtain ⟨ae2, ce2, hr, hhl, hh1, hb⟩ := hr
        subst hr
        have HHe2 := hide hhl
        have HHx := hide hh1
        refine hK.out _ _ hb (fun hS3 => ?_)
        clear hK Kt hb hhl hh1
        simp only [Act.put, List.getElem_toArray, List.getElem_cons_zero, List.getElem_cons_succ, List.setIfInBounds_toArray, List.set_cons_zero, List.set_cons_succ]
        refine wpAnyH_ready (rs := [11]) (by kernel_rfl) (by simp) (AllReadyH.cons rfl (fun Kt hK => ?_) AllReadyH.nil)
        refine wanted_pos rfl ?_
        refine wp_call (R := fun r w' => r = .bool true ∧ Below wr.heap.size wr w') (vs := #[.slice ae1 k ce1, .slice ae2 k ce2]) rfl (by simp only [List.map_toArray, List.map_cons, List.map_nil]; rfl) (by go_simp) (Calls.mono (HSm.out _ hS3 ae1 ce1 ae2 ce2 HHx.out HHe2.out) (fun e w' ⟨he, hb⟩ => ⟨_, he, by rw [eqL_same]; simp, K.call hS3 hb⟩)) (fun r W4 ⟨hr, hb⟩ => ?_)
        subst hr
        refine hK.out _ _ hb (fun hS4 => ?_)
        clear hK Kt hb
        simp only [Act.put, List.getElem_toArray, List.getElem_cons_zero, List.getElem_cons_succ, List.setIfInBounds_toArray, List.set_cons_zero, List.set_cons_succ]
        refine wpAnyH_take (i := 12) (v := .bool false) rfl (by kernel_rfl) (by kernel_rfl) (by kernel_rfl) (fun _ _ _ h => h) (Or.inl ⟨by rfl, fun w' _ => by go_simp⟩) hS4 ?_
        simp only [Act.put, List.getElem_toArray, List.getElem_cons_zero, List.getElem_cons_succ, List.setIfInBounds_toArray, List.set_cons_zero, List.set_cons_succ]
        refine wpAnyH_take (i := 13) (v := .bool false) rfl (by kernel_rfl) (by kernel_rfl) (by kernel_rfl) (fun _ _ _ h => h) (Or.inl ⟨by rfl, fun w' _ => by go_simp⟩) hS4 ?_
        simp only [Act.put, List.getElem_toArray, List.getElem_cons_zero, List.getElem_cons_succ, List.setIfInBounds_toArray, List.set_cons_zero, List.set_cons_succ]
        refine wpAnyH_take (i := 14) (v := .bool false) rfl (by kernel_rfl) (by kernel_rfl) (by kernel_rfl) (fun _ _ _ h => h) (Or.inl ⟨by rfl, fun w' _ => by go_simp⟩) hS4 ?_
        simp only [Act.put, List.getElem_toArray, List.getElem_cons_zero, List.getElem_cons_succ, List.setIfInBounds_toArray, List.set_cons_zero, List.set_cons_succ]
        refine wpAnyH_take (i := 15) (v := .pointer (some ⟨b, 0, none⟩)) rfl (by kernel_rfl) (by kernel_rfl) (by kernel_rfl) (fun _ _ _ h => h) (Or.inl ⟨by rfl, fun w' _ => by go_simp⟩) hS4 ?_
        simp only [Act.put, List.getElem_toArray, List.getElem_cons_zero, List.getElem_cons_succ, List.setIfInBounds_toArray, List.set_cons_zero, List.set_cons_succ]
        refine wpAnyH_take (i := 17) (v := .slice z n c) rfl (by kernel_rfl) (by kernel_rfl) (by kernel_rfl) (fun _ _ _ h => h) (Or.inl ⟨by rfl, fun w' _ => by go_simp⟩) hS4 ?_
        simp only [Act.put, List.getElem_toArray, List.getElem_cons_zero, List.getElem_cons_succ, List.setIfInBounds_toArray, List.set_cons_zero, List.set_cons_succ]
        refine wpAnyH_take (i := 18) (v := .int .i64 (i : Int)) rfl (by kernel_rfl) (by kernel_rfl) (by kernel_rfl) (fun _ _ _ h => h) (Or.inl ⟨by rfl, fun w' _ => by go_simp⟩) hS4 ?_
        simp only [Act.put, List.getElem_toArray, List.getElem_cons_zero, List.getElem_cons_succ, List.setIfInBounds_toArray, List.set_cons_zero, List.set_cons_succ]
        refine wpAnyH_take (i := 19) (v := .slice z i c) rfl (by kernel_rfl) (by kernel_rfl) (by kernel_rfl) (fun _ _ _ h => h) (Or.inl ⟨by rfl, fun w' _ => by go_simp⟩) hS4 ?_
        simp only [Act.put, List.getElem_toArray, List.getElem_cons_zero, List.getElem_cons_succ, List.setIfInBounds_toArray, List.set_cons_zero, List.set_cons_succ]
        refine wpAnyH_ready (rs := [16]) (by kernel_rfl) (by simp) (AllReadyH.cons rfl (fun Kt hK => ?_) AllReadyH.nil)
        refine wanted_pos rfl ?_
        refine wp_call (R := fun r w' => r = .agg (ab ro 32).toArray ∧ Below wr.heap.size wr w') (vs := #[.pointer (some ⟨b, 0, none⟩)]) rfl (by simp only [List.map_toArray, List.map_cons, List.map_nil]; rfl) (by go_simp) (Calls.mono (HRt.out _ hS4) (fun e w' ⟨he, hb⟩ => ⟨_, he, rfl, K.call hS4 hb⟩)) (fun r W5 ⟨hr, hb⟩ => ?_)
        subst hr
        refine hK.out _ _ hb (fun hS5 => ?_)
        clear hK Kt hb
        simp only [Act.put, List.getElem_toArray, List.getElem_cons_zero, List.getElem_cons_succ, List.setIfInBounds_toArray, List.set_cons_zero, List.set_cons_succ]
        refine wpAnyH_ready (rs := [20]) (by kernel_rfl) (by simp) (AllReadyH.cons rfl (fun Kt hK => ?_) AllReadyH.nil)
        refine wanted_pos rfl ?_
        refine wp_call (R := fun r w' => r = .agg (ab ro 32).toArray ∧ Below wr.heap.size wr w') (vs := #[.slice z i c]) rfl (by simp only [List.map_toArray, List.map_cons, List.map_nil]; rfl) (by go_simp) (Calls.mono (HRr.out _ hS5) (fun e w' ⟨he, hb⟩ => ⟨_, he, rfl, K.call hS5 hb⟩)) (fun r W6 ⟨hr, hb⟩ => ?_)
        subst hr
        refine hK.out _ _ hb (fun hS6 => ?_)
        clear hK Kt hb
        simp only [Act.put, List.getElem_toArray, List.getElem_cons_zero, List.getElem_cons_succ, List.setIfInBounds_toArray, List.set_cons_zero, List.set_cons_succ]
        refine wpAnyH_take (i := 21) (v := .bool false) rfl (by kernel_rfl) (by kernel_rfl) (by kernel_rfl) (fun _ _ _ h => h) (yieldsIf_neH (by rfl) (ab ro 32).toArray (ab ro 32).toArray true rfl (by rfl) (by rfl) HEq.out) hS6 ?_
        simp only [Act.put, List.getElem_toArray, List.getElem_cons_zero, List.getElem_cons_succ, List.setIfInBounds_toArray, List.set_cons_zero, List.set_cons_succ]
        refine wpAnyH_take (i := 22) (v := .bool false) rfl (by kernel_rfl) (by kernel_rfl) (by kernel_rfl) (fun _ _ _ h => h) (Or.inl ⟨by rfl, fun w' _ => by go_simp⟩) hS6 ?_
        simp only [Act.put, List.getElem_toArray, List.getElem_cons_zero, List.getElem_cons_succ, List.setIfInBounds_toArray, List.set_cons_zero, List.set_cons_succ]
        refine wpAnyH_done (by kernel_rfl) ?_ _
        refine NoPanic.normal ?_
        have HB7 : Hid (Below w.heap.size w W6) := K.call HB.out hS6
        have hT7 := HTa.out.keep hS6
        by_cases hlt : i < n
        · have hlt' : (i : Int) < (n : Int) := by omega
          rcases HX.out.at_ with h0 | ⟨bz, oz, rfl, _⟩
          · omega
          have HR := hide ((HX.out.keep HB7.out).range hlt)
          have HP := hide (tr_push (HT.out.keep HB7.out) hT7 HX.out.lt (fun _ _ => rfl) (rfl : F i = F i) (by omega))
          clear hT7
          go_wp2_with (first
            | (refine wpList_load_h rfl _ rfl rfl HR.out ?_)
            | (go_at_call 15; refine Calls.mono HP.out ?_; rintro e W9 hp; obtain ⟨⟨v9, rfl⟩, hp2, hp3⟩ := hp; have HT9 := hide hp2; have HB9 := hide (HB7.out.grown hp3 HB7.out.size (fun k hk => by cases hk; omega)); clear hp2 hp3))
          go_roundg (n + 1 - (i + 1))
          case measure => omega
          case rel => exact ⟨i + 1, rfl, by omega, by simp, fun _ => HT9.out, HB9.out⟩
        · obtain rfl : i = n := by omega
          clear hT7
          go_wp2_with fail
          go_roundg (i + 1 - (i + 1))
          case measure => omega
          case rel => exact ⟨i + 1, rfl, by omega, by simp, fun h => by omega, HB7.out⟩
      · have hle' : (n : Int) < (i : Int) := by omega
        have HB := hide hB
        clear hB hTa
        go_wp2_with fail
        go_ret
        exact ⟨rfl, HB.out⟩
  · have hq : (60 : Int) < (n : Int) := by omega
    clear hn
    go_enter Tryd.func3, Tryd.ntmps3
    go_upto_region 2 with (go_at_call 8; refine Calls.mono (awake_any HT.out) ?_; rintro e W1 ⟨rfl, hb⟩; have HB1 := hide hb; clear hb)
    go_wp2_with (go_at_call 8; refine Calls.mono (awake_any (HT.out.keep HB1.out)) ?_; rintro e W2 ⟨rfl, hb⟩; have HB2 := hide (Go.Proofs.YtjobcffelbddcaaDoor.K.call HB1.out hb); clear hb)
    go_ret
    exact ⟨rfl, HB2.out⟩
end Go.Proofs.YtjobcffelbddcaaDoor
