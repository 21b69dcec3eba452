/- EdgeParts. -/
import Derived.Test.YtjobcffelbddcaaDoorL17D
namespace Go.Proofs.YtjobcffelbddcaaDoor
set_option maxRecDepth 100000
open Go.RowKit
attribute [local go_sem ↓] Go.wp_at_zero Go.wp_at_succ

theorem eL_pow (F : Nat → Nat → Nat) (e : Nat) : eL F (2 ^ e) = [rt F (2 ^ e)] := by
  have h := eL_parts F (es := [e]) trivial
  have e1 : sz [e] = 2 ^ e := by rw [sz, sz, Nat.add_zero]
  rw [e1] at h
  exact h
theorem eL_two (F : Nat → Nat → Nat) : eL F 2 = [rt F 2] := eL_pow F 1
theorem eL_pow1 (F : Nat → Nat → Nat) {e : Nat} (he : 0 < e) : eL F (2 ^ e + 1) = [rt F (2 ^ e), F (2 ^ e)] := by
  have h := eL_parts F (es := [e, 0]) ⟨he, trivial⟩
  have e1 : sz [e, 0] = 2 ^ e + 1 := by rw [sz, sz, sz, Nat.pow_zero]
  rw [e1] at h
  rw [h, pR, pR, pR, Nat.pow_zero, rt_one, Nat.add_zero]
theorem lF_0 (f : Nat → Nat) (L : List (Nat → Nat)) : lF (f :: L) 0 = f := rfl
theorem lF_1 (f g : Nat → Nat) (L : List (Nat → Nat)) : lF (f :: g :: L) 1 = g := rfl
theorem pow_le {e : Nat} (he : e < 6) : 2 ^ e ≤ 32 := Nat.pow_le_pow_right (n := 2) (by omega) (show e ≤ 5 by omega)
theorem mod6 {m : Int} (hm0 : 0 ≤ m) : ∃ e : Nat, m.tmod 6 = (e : Int) ∧ e < 6 := by
  have ht : m.tmod 6 = m % 6 := Int.tmod_eq_emod_of_nonneg hm0
  obtain ⟨e, he⟩ := Int.eq_ofNat_of_zero_le (Int.emod_nonneg m (show (6 : Int) ≠ 0 by decide))
  have h6 := Int.emod_lt_of_pos m (show (0 : Int) < 6 by decide)
  exact ⟨e, ht.trans he, by rw [he] at h6; exact Int.ofNat_lt.1 h6⟩
theorem pow_int {N e : Nat} (hN : 2 ^ e = N) : (2 : Int) ^ e = (N : Int) := by rw [← hN]; simp
theorem min_e {e : Nat} (he6 : e < 6) : min e 64 = e := by omega
theorem wrap_s {N : Nat} (h : N ≤ 1000) : wrap64 (N : Int) = (N : Int) := by unfold wrap64; omega
theorem wrap_s1 {N : Nat} (h : N ≤ 1000) : wrap64 ((N : Int) + 1) = (N : Int) + 1 := by unfold wrap64; omega
theorem OH.tree {w w' : World} {base n b : Nat} {v : Value} {F : Nat → Nat → Nat} (h : OH w base v n F) (hb : TB w b) (hg : w.grownBy w' (some b)) : OH w' base v n F := by
  obtain ⟨u, hb⟩ := hb
  have hn := hb.not_row (by decide) h
  refine ⟨h.1, ?_⟩
  rcases h.2 with h0 | ⟨x, cap, cur, rfl, hx, hh, h1, h2, h3, h4⟩
  · exact Or.inl h0
  · refine Or.inr ⟨x, cap, cur, rfl, hx, ?_, h1, h2, h3, h4⟩
    rw [hg.block x (h.lt x rfl).2 (Ne.symm hn)]
    exact hh
theorem one_lt {f : Nat → Nat} (hf : ∀ j, f j < 256) (i j : Nat) : lF [f] i j < 256 := lF_lt (fun g hg j => by rw [List.mem_singleton] at hg; subst hg; exact hf j) i j
theorem two_lt {f g : Nat → Nat} (hf : ∀ j, f j < 256) (hg : ∀ j, g j < 256) (i j : Nat) : lF [f, g] i j < 256 := lF_lt (fun x hx j => by
  rcases List.mem_cons.1 hx with e | e
  · rw [e]; exact hf j
  · rw [List.mem_singleton] at e; rw [e]; exact hg j) i j
theorem HL.first {w : World} {b o n : Nat} {F : Nat → Nat → Nat} (h : HL w (some ⟨b, o, none⟩) n F) (hn : 0 < n) : w.rangeAt b o (ab (F 0) 32) := by
  have := h.range hn
  rwa [Nat.zero_mul, Nat.add_zero] at this
theorem HL.second {w : World} {b o n : Nat} {F : Nat → Nat → Nat} (h : HL w (some ⟨b, o, none⟩) n F) (hn : 1 < n) : w.rangeAt b (o + 32) (ab (F 1) 32) := by
  have := h.range hn
  rwa [Nat.one_mul] at this
theorem HL.ad {w : World} {a : Option Addr} {n : Nat} {F : Nat → Nat → Nat} (h : HL w a n F) (hn : 0 < n) : ∃ b o, a = some ⟨b, o, none⟩ :=
  h.at_.elim (fun e => by omega) fun ⟨b, o, e, _⟩ => ⟨b, o, e⟩
set_option maxRecDepth 100000 in
set_option maxHeartbeats 16000000 in
theorem edgeParts_walk {w : World} {z : Option Addr} {n c : Nat} {F : Nat → Nat → Nat} {m : Int} (hT : Tab w) (hx : HL w z n F) (hc : n ≤ c) (hcm : c ≤ maxLen) (hm0 : 0 ≤ m) (_hm1 : m < 256) :
    Calls Tryd.prog 7 #[.slice z n c, .int .u8 m] w fun e w' => e = .returned (.bool true) ∧ Below w.heap.size w w' := by
  have HT := hide hT
  have HX := hide hx
  have HC := hide (And.intro hc hcm)
  obtain ⟨e, he, he6⟩ := mod6 hm0
  obtain ⟨N, hN⟩ : ∃ N, 2 ^ e = N := ⟨_, rfl⟩
  have hN1 : 1 ≤ N := by rw [← hN]; exact Nat.two_pow_pos e
  have hN32 : N ≤ 32 := by rw [← hN]; exact pow_le he6
  have hI : (2 : Int) ^ e = (N : Int) := pow_int hN
  have hw3 : wrap64 (e : Int) = (e : Int) := wrap_s (Nat.le_trans (Nat.le_of_lt he6) (by decide))
  have hw4 : wrap64 (N : Int) = (N : Int) := wrap_s (Nat.le_trans hN32 (by decide))
  have hw5 : wrap64 ((N : Int) + 1) = (N : Int) + 1 := wrap_s1 (Nat.le_trans hN32 (by decide))
  have hmn : min e 64 = e := min_e he6
  have hneg : ¬ ((e : Int) < 0) := Int.not_lt.2 (Int.natCast_nonneg e)
  have HNe := hide hN
  have HN3 := hide (And.intro hN1 hN32)
  clear hT hx hc hcm hN
  by_cases hn : n ≤ 64
  · by_cases hn2 : N + 1 ≤ n
    · have hq : (n : Int) ≤ 64 := by omega
      have hq2 : (N : Int) + 1 ≤ (n : Int) := by omega
      rcases HX.out.at_ with h0 | ⟨bz, oz, rfl, _⟩
      · omega
      have HN := hide (And.intro hn hn2)
      go_enter Tryd.func7, Tryd.ntmps7
      go_upto_region 4 with (go_at_call 8; refine Calls.mono (awake_any HT.out) ?_; rintro e W1 ⟨rfl, hb⟩; have HB1 := hide hb; clear hb)
      go_upto_region 5 with fail
      refine wp_world (fun X hX => ?_)
      obtain ⟨hB, hTa⟩ := boxT1 HX.out.lt HB1.out hX
      clear hX
      obtain ⟨b, hb⟩ : ∃ b, W1.heap.size = b := ⟨_, rfl⟩
      have hwb : w.heap.size ≤ b := by rw [← hb]; exact HB1.out.size
      rw [hb] at hTa ⊢
      have HB := hide hB
      have HTa := hide hTa
      have HWb := hide hwb
      clear hB hTa HB1 hb hI hw3 hmn hneg he he6 hm0
      go_wp2_with fail
      go_loopg [7] N (fun g s7 wr => ∃ i : Nat, g = N - i ∧ i ≤ N ∧ s7 = .int .i64 (i : Int) ∧ Tr wr b i F ∧ Below w.heap.size w wr)
      case atStart => exact ⟨0, rfl, Nat.zero_le _, rfl, HTa.out, HB.out⟩
      case round =>
        clear HTa HB
        obtain ⟨i, rfl, hi, rfl, hTa, hB⟩ := hrel
        by_cases hlt : i < N
        · have hlt' : (i : Int) < (N : Int) := by omega
          have hln : (i : Int) < (n : Int) := by omega
          have HR := hide ((HX.out.keep hB).range (show i < n by omega))
          have HP := hide (tr_push (HT.out.keep hB) hTa HX.out.lt (fun _ _ => rfl) (rfl : F i = F i) (by omega))
          have HB := hide hB
          clear hTa hB
          go_wp2_with (first
            | (refine wpList_load_h rfl _ rfl rfl HR.out ?_)
            | (go_at_call 15; refine Calls.mono HP.out ?_; rintro e W3 hp; obtain ⟨⟨v3, rfl⟩, hp2, hp3⟩ := hp; have HTa3 := hide hp2; have HB3 := hide (HB.out.grown hp3 HB.out.size (fun k hk => by cases hk; exact HWb.out)); clear hp2 hp3))
          go_roundg (N - (i + 1))
          case measure => omega
          case rel => exact ⟨i + 1, rfl, hlt, by simp, HTa3.out, HB3.out⟩
        · obtain rfl : i = N := by omega
          have HTa := hide hTa
          have HB := hide hB
          have hNn : (i : Int) < (n : Int) := by omega
          have hed := tr_edge hTa (by omega)
          have h1 : eL F i = [rt F i] := by rw [← HNe.out]; exact eL_pow F e
          rw [h1] at hed
          have HEd := hide hed
          have HR := hide ((HX.out.keep hB).range (show i < n by omega))
          have HF0 := hide (fun j => HX.out.lt i j)
          have HFr := hide (rt_lt HX.out.lt i)
          obtain ⟨ro, hr⟩ : ∃ ro, rt F i = ro := ⟨_, rfl⟩
          obtain ⟨f1, hf1⟩ : ∃ f1, F i = f1 := ⟨_, rfl⟩
          have HRo := hide hr
          have HFi := hide hf1
          clear hed hTa hB h1 hr hf1
          go_upto_region 10 with (go_at_call 11; refine Calls.mono HEd.out ?_; rintro e' V4 hE; obtain ⟨v4, rfl, hO4, hB4⟩ := hE; obtain ⟨a4, c4, rfl, h1, h2⟩ := hO4.form; have hh := hO4.hl (lF_lt (fun f hf j => by rw [List.mem_singleton] at hf; subst hf; exact HFr.out j)); have HB4 := hide (Go.Proofs.YtjobcffelbddcaaDoor.K.call HB.out hB4); have HTa4 := hide (HTa.out.keep hB4); have HHa := hide hh; have HR4 := hide (range_keep HR.out hB4); have HP := hide (tr_push (HT.out.keep HB4.out) HTa4.out HX.out.lt (fun _ _ => rfl) (rfl : F i = F i) (by omega)); have HOa := hide hO4; clear hO4 hB4 h1 h2 hh)
          obtain ⟨ga, oa, rfl⟩ := HHa.out.ad (by show 0 < 1; omega)
          go_upto_region 11 with (first
            | (refine wpList_load_h rfl _ rfl rfl HR4.out ?_)
            | (go_at_call 15; refine Calls.mono HP.out ?_; rintro e' V5 hp; obtain ⟨⟨v5, rfl⟩, hp2, hp3⟩ := hp; have HG5 := hide hp3; have HTa5 := hide hp2; have HB5 := hide (HB4.out.grown hp3 HB4.out.size (fun k hk => by cases hk; exact HWb.out)); clear hp2 hp3))
          have HHb := hide ((HOa.out.tree HTa4.out.tb HG5.out).hl (one_lt HFr.out))
          have HEq := hide (fun W => eqH_same ro W)
          have HEf := hide (fun W => eqH_same f1 W)
          have hic : i ≤ c := by have := HC.out.1; have := HN.out; omega
          clear HG5 HOa HHa HP HR4 HTa HB HEd HR HTa4
          by_cases h1 : i = 1
          · have hed := tr_edge HTa5.out (by omega)
            have h2 : eL F (i + 1) = [rt F 2] := by rw [h1]; exact eL_two F
            rw [h2] at hed
            have HEd := hide hed
            have HH1 := hide h1
            clear hed h2 h1
            go_upto_region 12 with (go_at_call 11; refine Calls.mono HEd.out ?_; rintro e' V6 hE; obtain ⟨v6, rfl, hO6, hB6⟩ := hE; obtain ⟨a6, c6, rfl, _, _⟩ := hO6.form; have HB6 := hide (Go.Proofs.YtjobcffelbddcaaDoor.K.call HB5.out hB6); have HRa := hide (range_keep (HHb.out.first (by show 0 < 1; omega)) hB6); clear hO6 hB6)
            have hrr := fun W (h : Below V6.heap.size V6 W) => refRoot_any i (c := c) (((HX.out.keep HB6.out).keep h).head i (by have := HN.out; omega)) hic HC.out.2 (by omega)
            unfold hv at hrr
            rw [lF_0, HRo.out] at HRa
            rw [HRo.out] at hrr
            have HRr := hide hrr
            clear hrr
            refine wp_region_noPanic ?_
            refine wp_region_held_drew (S := fun w' => Below V6.heap.size V6 w') (by kernel_rfl) (Go.Proofs.YtjobcffelbddcaaDoor.K.drew (Below.refl _ V6)) (fun hS0 => ?_)
            refine wpAnyH_take (i := 0) (v := .slice (some ⟨ga, oa, none⟩) 1 c4) rfl (by kernel_rfl) (by kernel_rfl) (by kernel_rfl) (fun _ _ _ h => h) (Or.inl ⟨by rfl, fun w' _ => by go_simp⟩) hS0 ?_
            simp only [Act.put, List.getElem_toArray, List.getElem_cons_zero, List.setIfInBounds_toArray, List.set_cons_zero, List.set_cons_succ]
            refine wpAnyH_take (i := 1) (v := .int .i64 1) rfl (by kernel_rfl) (by kernel_rfl) (by kernel_rfl) (fun _ _ _ h => h) (Or.inl ⟨by rfl, fun w' _ => by go_simp⟩) hS0 ?_
            simp only [Act.put, List.getElem_toArray, List.getElem_cons_zero, List.getElem_cons_succ, List.setIfInBounds_toArray, List.set_cons_zero, List.set_cons_succ]
            refine wpAnyH_take (i := 2) (v := .bool false) rfl (by kernel_rfl) (by kernel_rfl) (by kernel_rfl) (fun _ _ _ h => h) (Or.inl ⟨by rfl, fun w' _ => by go_simp⟩) hS0 ?_
            simp only [Act.put, List.getElem_toArray, List.getElem_cons_zero, List.getElem_cons_succ, List.setIfInBounds_toArray, List.set_cons_zero, List.set_cons_succ]
            refine wpAnyH_take (i := 3) (v := .bool false) rfl (by kernel_rfl) (by kernel_rfl) (by kernel_rfl) (fun _ _ _ h => h) (Or.inl ⟨by rfl, fun w' _ => by go_simp⟩) hS0 ?_
            simp only [Act.put, List.getElem_toArray, List.getElem_cons_zero, List.getElem_cons_succ, List.setIfInBounds_toArray, List.set_cons_zero, List.set_cons_succ]
            refine wpAnyH_take (i := 4) (v := .slice (some ⟨ga, oa, none⟩) 1 c4) rfl (by kernel_rfl) (by kernel_rfl) (by kernel_rfl) (fun _ _ _ h => h) (Or.inl ⟨by rfl, fun w' _ => by go_simp⟩) hS0 ?_
            simp only [Act.put, List.getElem_toArray, List.getElem_cons_zero, List.getElem_cons_succ, List.setIfInBounds_toArray, List.set_cons_zero, List.set_cons_succ]
            refine wpAnyH_take (i := 5) (v := .pointer (some ⟨ga, oa, none⟩)) rfl (by kernel_rfl) (by kernel_rfl) (by kernel_rfl) (fun _ _ _ h => h) (Or.inl ⟨by rfl, fun w' _ => by go_simp⟩) hS0 ?_
            simp only [Act.put, List.getElem_toArray, List.getElem_cons_zero, List.getElem_cons_succ, List.setIfInBounds_toArray, List.set_cons_zero, List.set_cons_succ]
            refine wpAnyH_take (i := 6) (v := .agg (ab ro 32).toArray) rfl (by kernel_rfl) (by kernel_rfl) (by kernel_rfl) (fun _ _ _ h => h) (yieldsIf_load_mid (by rfl) 33 _ rfl ga oa (by rfl) (ab ro 32) _ (fun w' hS => range_keep HRa.out hS) Tryd.underlying33 rfl (ilH _)) hS0 ?_
            simp only [Act.put, List.getElem_toArray, List.getElem_cons_zero, List.getElem_cons_succ, List.setIfInBounds_toArray, List.set_cons_zero, List.set_cons_succ]
            refine wpAnyH_take (i := 7) (v := .slice (some ⟨bz, oz, none⟩) n c) rfl (by kernel_rfl) (by kernel_rfl) (by kernel_rfl) (fun _ _ _ h => h) (Or.inl ⟨by rfl, fun w' _ => by go_simp⟩) hS0 ?_
            simp only [Act.put, List.getElem_toArray, List.getElem_cons_zero, List.getElem_cons_succ, List.setIfInBounds_toArray, List.set_cons_zero, List.set_cons_succ]
            refine wpAnyH_take (i := 8) (v := .int .i64 (i : Int)) rfl (by kernel_rfl) (by kernel_rfl) (by kernel_rfl) (fun _ _ _ h => h) (Or.inl ⟨by rfl, fun w' _ => by go_simp⟩) hS0 ?_
            simp only [Act.put, List.getElem_toArray, List.getElem_cons_zero, List.getElem_cons_succ, List.setIfInBounds_toArray, List.set_cons_zero, List.set_cons_succ]
            refine wpAnyH_take (i := 9) (v := .slice (some ⟨bz, oz, none⟩) i c) rfl (by kernel_rfl) (by kernel_rfl) (by kernel_rfl) (fun _ _ _ h => h) (Or.inl ⟨by rfl, fun w' _ => by go_simp⟩) hS0 ?_
            simp only [Act.put, List.getElem_toArray, List.getElem_cons_zero, List.getElem_cons_succ, List.setIfInBounds_toArray, List.set_cons_zero, List.set_cons_succ]
            refine wpAnyH_ready (rs := [10]) (by kernel_rfl) (by simp) (AllReadyH.cons rfl (fun Kt hK => ?_) AllReadyH.nil)
            refine wanted_pos rfl ?_
            refine wp_call (R := fun r w' => r = .agg (ab ro 32).toArray ∧ Below V6.heap.size V6 w') (vs := #[.slice (some ⟨bz, oz, none⟩) i c]) rfl (by simp only [List.map_toArray, List.map_cons, List.map_nil]; rfl) (by go_simp) (Calls.mono (HRr.out _ hS0) (fun e w' ⟨he, hb⟩ => ⟨_, he, rfl, K.call hS0 hb⟩)) (fun r W1 ⟨hr, hb⟩ => ?_)
            subst hr
            refine hK.out _ _ hb (fun hS1 => ?_)
            clear hK Kt hb
            simp only [Act.put, List.getElem_toArray, List.getElem_cons_zero, List.getElem_cons_succ, List.setIfInBounds_toArray, List.set_cons_zero, List.set_cons_succ]
            refine wpAnyH_take (i := 11) (v := .bool false) rfl (by kernel_rfl) (by kernel_rfl) (by kernel_rfl) (fun _ _ _ h => h) (yieldsIf_neH (by rfl) (ab ro 32).toArray (ab ro 32).toArray true rfl (by rfl) (by rfl) HEq.out) hS1 ?_
            simp only [Act.put, List.getElem_toArray, List.getElem_cons_zero, List.getElem_cons_succ, List.setIfInBounds_toArray, List.set_cons_zero, List.set_cons_succ]
            refine wpAnyH_take (i := 12) (v := .bool false) rfl (by kernel_rfl) (by kernel_rfl) (by kernel_rfl) (fun _ _ _ h => h) (Or.inl ⟨by rfl, fun w' _ => by go_simp⟩) hS1 ?_
            simp only [Act.put, List.getElem_toArray, List.getElem_cons_zero, List.getElem_cons_succ, List.setIfInBounds_toArray, List.set_cons_zero, List.set_cons_succ]
            refine wpAnyH_done (by kernel_rfl) ?_ _
            refine NoPanic.normal ?_
            have hS9 := hS1
            have hi1 : (i : Int) = 1 := by have := HH1.out; omega
            go_wp2_with fail
            refine wp_region_noPanic ?_
            refine wp_region_held_drew (S := fun w' => Below W1.heap.size W1 w') (by kernel_rfl) (Go.Proofs.YtjobcffelbddcaaDoor.K.drew (Below.refl _ W1)) (fun hS0 => ?_)
            refine wpAnyH_take (i := 0) (v := .int .i64 (i : Int)) rfl (by kernel_rfl) (by kernel_rfl) (by kernel_rfl) (fun _ _ _ h => h) (Or.inl ⟨by rfl, fun w' _ => by go_simp⟩) hS0 ?_
            simp only [Act.put, List.getElem_toArray, List.getElem_cons_zero, List.setIfInBounds_toArray, List.set_cons_zero, List.set_cons_succ]
            refine wpAnyH_take (i := 1) (v := .bool true) rfl (by kernel_rfl) (by kernel_rfl) (by kernel_rfl) (fun _ _ _ h => h) (Or.inl ⟨by rfl, fun w' _ => by go_simp⟩) hS0 ?_
            simp only [Act.put, List.getElem_toArray, List.getElem_cons_zero, List.getElem_cons_succ, List.setIfInBounds_toArray, List.set_cons_zero, List.set_cons_succ]
            refine wpAnyH_take (i := 2) (v := .bool true) rfl (by kernel_rfl) (by kernel_rfl) (by kernel_rfl) (fun _ _ _ h => h) (Or.inl ⟨by rfl, fun w' _ => by go_simp⟩) hS0 ?_
            simp only [Act.put, List.getElem_toArray, List.getElem_cons_zero, List.getElem_cons_succ, List.setIfInBounds_toArray, List.set_cons_zero, List.set_cons_succ]
            refine wpAnyH_take (i := 3) (v := .slice a6 1 c6) rfl (by kernel_rfl) (by kernel_rfl) (by kernel_rfl) (fun _ _ _ h => h) (Or.inl ⟨by rfl, fun w' _ => by go_simp⟩) hS0 ?_
            simp only [Act.put, List.getElem_toArray, List.getElem_cons_zero, List.getElem_cons_succ, List.setIfInBounds_toArray, List.set_cons_zero, List.set_cons_succ]
            refine wpAnyH_take (i := 4) (v := .int .i64 1) rfl (by kernel_rfl) (by kernel_rfl) (by kernel_rfl) (fun _ _ _ h => h) (Or.inl ⟨by rfl, fun w' _ => by go_simp⟩) hS0 ?_
            simp only [Act.put, List.getElem_toArray, List.getElem_cons_zero, List.getElem_cons_succ, List.setIfInBounds_toArray, List.set_cons_zero, List.set_cons_succ]
            refine wpAnyH_take (i := 5) (v := .bool true) rfl (by kernel_rfl) (by kernel_rfl) (by kernel_rfl) (fun _ _ _ h => h) (Or.inl ⟨by rfl, fun w' _ => by go_simp⟩) hS0 ?_
            simp only [Act.put, List.getElem_toArray, List.getElem_cons_zero, List.getElem_cons_succ, List.setIfInBounds_toArray, List.set_cons_zero, List.set_cons_succ]
            refine wpAnyH_take (i := 6) (v := .bool true) rfl (by kernel_rfl) (by kernel_rfl) (by kernel_rfl) (fun _ _ _ h => h) (Or.inl ⟨by rfl, fun w' _ => by go_simp⟩) hS0 ?_
            simp only [Act.put, List.getElem_toArray, List.getElem_cons_zero, List.getElem_cons_succ, List.setIfInBounds_toArray, List.set_cons_zero, List.set_cons_succ]
            refine wpAnyH_take (i := 7) (v := .bool true) rfl (by kernel_rfl) (by kernel_rfl) (by kernel_rfl) (fun _ _ _ h => h) (Or.inl ⟨by rfl, fun w' _ => by go_simp⟩) hS0 ?_
            simp only [Act.put, List.getElem_toArray, List.getElem_cons_zero, List.getElem_cons_succ, List.setIfInBounds_toArray, List.set_cons_zero, List.set_cons_succ]
            refine wpAnyH_take (i := 8) (v := undef) rfl (by kernel_rfl) (by kernel_rfl) (by kernel_rfl) (fun _ _ _ h => h) (Or.inr ⟨by rfl, rfl⟩) hS0 ?_
            simp only [Act.put, List.getElem_toArray, List.getElem_cons_zero, List.getElem_cons_succ, List.setIfInBounds_toArray, List.set_cons_zero, List.set_cons_succ]
            refine wpAnyH_take (i := 9) (v := undef) rfl (by kernel_rfl) (by kernel_rfl) (by kernel_rfl) (fun _ _ _ h => h) (Or.inr ⟨by rfl, rfl⟩) hS0 ?_
            simp only [Act.put, List.getElem_toArray, List.getElem_cons_zero, List.getElem_cons_succ, List.setIfInBounds_toArray, List.set_cons_zero, List.set_cons_succ]
            refine wpAnyH_take (i := 10) (v := undef) rfl (by kernel_rfl) (by kernel_rfl) (by kernel_rfl) (fun _ _ _ h => h) (Or.inr ⟨by rfl, rfl⟩) hS0 ?_
            simp only [Act.put, List.getElem_toArray, List.getElem_cons_zero, List.getElem_cons_succ, List.setIfInBounds_toArray, List.set_cons_zero, List.set_cons_succ]
            refine wpAnyH_take (i := 11) (v := undef) rfl (by kernel_rfl) (by kernel_rfl) (by kernel_rfl) (fun _ _ _ h => h) (Or.inr ⟨by rfl, rfl⟩) hS0 ?_
            simp only [Act.put, List.getElem_toArray, List.getElem_cons_zero, List.getElem_cons_succ, List.setIfInBounds_toArray, List.set_cons_zero, List.set_cons_succ]
            refine wpAnyH_take (i := 12) (v := undef) rfl (by kernel_rfl) (by kernel_rfl) (by kernel_rfl) (fun _ _ _ h => h) (Or.inr ⟨by rfl, rfl⟩) hS0 ?_
            simp only [Act.put, List.getElem_toArray, List.getElem_cons_zero, List.getElem_cons_succ, List.setIfInBounds_toArray, List.set_cons_zero, List.set_cons_succ]
            refine wpAnyH_take (i := 13) (v := undef) rfl (by kernel_rfl) (by kernel_rfl) (by kernel_rfl) (fun _ _ _ h => h) (Or.inr ⟨by rfl, rfl⟩) hS0 ?_
            simp only [Act.put, List.getElem_toArray, List.getElem_cons_zero, List.getElem_cons_succ, List.setIfInBounds_toArray, List.set_cons_zero, List.set_cons_succ]
            refine wpAnyH_take (i := 14) (v := undef) rfl (by kernel_rfl) (by kernel_rfl) (by kernel_rfl) (fun _ _ _ h => h) (Or.inr ⟨by rfl, rfl⟩) hS0 ?_
            simp only [Act.put, List.getElem_toArray, List.getElem_cons_zero, List.getElem_cons_succ, List.setIfInBounds_toArray, List.set_cons_zero, List.set_cons_succ]
            refine wpAnyH_take (i := 15) (v := undef) rfl (by kernel_rfl) (by kernel_rfl) (by kernel_rfl) (fun _ _ _ h => h) (Or.inr ⟨by rfl, rfl⟩) hS0 ?_
            simp only [Act.put, List.getElem_toArray, List.getElem_cons_zero, List.getElem_cons_succ, List.setIfInBounds_toArray, List.set_cons_zero, List.set_cons_succ]
            refine wpAnyH_take (i := 16) (v := undef) rfl (by kernel_rfl) (by kernel_rfl) (by kernel_rfl) (fun _ _ _ h => h) (Or.inr ⟨by rfl, rfl⟩) hS0 ?_
            simp only [Act.put, List.getElem_toArray, List.getElem_cons_zero, List.getElem_cons_succ, List.setIfInBounds_toArray, List.set_cons_zero, List.set_cons_succ]
            refine wpAnyH_take (i := 17) (v := undef) rfl (by kernel_rfl) (by kernel_rfl) (by kernel_rfl) (fun _ _ _ h => h) (Or.inr ⟨by rfl, rfl⟩) hS0 ?_
            simp only [Act.put, List.getElem_toArray, List.getElem_cons_zero, List.getElem_cons_succ, List.setIfInBounds_toArray, List.set_cons_zero, List.set_cons_succ]
            refine wpAnyH_take (i := 18) (v := undef) rfl (by kernel_rfl) (by kernel_rfl) (by kernel_rfl) (fun _ _ _ h => h) (Or.inr ⟨by rfl, rfl⟩) hS0 ?_
            simp only [Act.put, List.getElem_toArray, List.getElem_cons_zero, List.getElem_cons_succ, List.setIfInBounds_toArray, List.set_cons_zero, List.set_cons_succ]
            refine wpAnyH_take (i := 19) (v := undef) rfl (by kernel_rfl) (by kernel_rfl) (by kernel_rfl) (fun _ _ _ h => h) (Or.inr ⟨by rfl, rfl⟩) hS0 ?_
            simp only [Act.put, List.getElem_toArray, List.getElem_cons_zero, List.getElem_cons_succ, List.setIfInBounds_toArray, List.set_cons_zero, List.set_cons_succ]
            refine wpAnyH_take (i := 20) (v := undef) rfl (by kernel_rfl) (by kernel_rfl) (by kernel_rfl) (fun _ _ _ h => h) (Or.inr ⟨by rfl, rfl⟩) hS0 ?_
            simp only [Act.put, List.getElem_toArray, List.getElem_cons_zero, List.getElem_cons_succ, List.setIfInBounds_toArray, List.set_cons_zero, List.set_cons_succ]
            refine wpAnyH_take (i := 21) (v := undef) rfl (by kernel_rfl) (by kernel_rfl) (by kernel_rfl) (fun _ _ _ h => h) (Or.inr ⟨by rfl, rfl⟩) hS0 ?_
            simp only [Act.put, List.getElem_toArray, List.getElem_cons_zero, List.getElem_cons_succ, List.setIfInBounds_toArray, List.set_cons_zero, List.set_cons_succ]
            refine wpAnyH_take (i := 22) (v := undef) rfl (by kernel_rfl) (by kernel_rfl) (by kernel_rfl) (fun _ _ _ h => h) (Or.inr ⟨by rfl, rfl⟩) hS0 ?_
            simp only [Act.put, List.getElem_toArray, List.getElem_cons_zero, List.getElem_cons_succ, List.setIfInBounds_toArray, List.set_cons_zero, List.set_cons_succ]
            refine wpAnyH_take (i := 23) (v := undef) rfl (by kernel_rfl) (by kernel_rfl) (by kernel_rfl) (fun _ _ _ h => h) (Or.inr ⟨by rfl, rfl⟩) hS0 ?_
            simp only [Act.put, List.getElem_toArray, List.getElem_cons_zero, List.getElem_cons_succ, List.setIfInBounds_toArray, List.set_cons_zero, List.set_cons_succ]
            refine wpAnyH_take (i := 24) (v := undef) rfl (by kernel_rfl) (by kernel_rfl) (by kernel_rfl) (fun _ _ _ h => h) (Or.inr ⟨by rfl, rfl⟩) hS0 ?_
            simp only [Act.put, List.getElem_toArray, List.getElem_cons_zero, List.getElem_cons_succ, List.setIfInBounds_toArray, List.set_cons_zero, List.set_cons_succ]
            refine wpAnyH_take (i := 25) (v := undef) rfl (by kernel_rfl) (by kernel_rfl) (by kernel_rfl) (fun _ _ _ h => h) (Or.inr ⟨by rfl, rfl⟩) hS0 ?_
            simp only [Act.put, List.getElem_toArray, List.getElem_cons_zero, List.getElem_cons_succ, List.setIfInBounds_toArray, List.set_cons_zero, List.set_cons_succ]
            refine wpAnyH_take (i := 26) (v := undef) rfl (by kernel_rfl) (by kernel_rfl) (by kernel_rfl) (fun _ _ _ h => h) (Or.inr ⟨by rfl, rfl⟩) hS0 ?_
            simp only [Act.put, List.getElem_toArray, List.getElem_cons_zero, List.getElem_cons_succ, List.setIfInBounds_toArray, List.set_cons_zero, List.set_cons_succ]
            refine wpAnyH_take (i := 27) (v := undef) rfl (by kernel_rfl) (by kernel_rfl) (by kernel_rfl) (fun _ _ _ h => h) (Or.inr ⟨by rfl, rfl⟩) hS0 ?_
            simp only [Act.put, List.getElem_toArray, List.getElem_cons_zero, List.getElem_cons_succ, List.setIfInBounds_toArray, List.set_cons_zero, List.set_cons_succ]
            refine wpAnyH_take (i := 28) (v := undef) rfl (by kernel_rfl) (by kernel_rfl) (by kernel_rfl) (fun _ _ _ h => h) (Or.inr ⟨by rfl, rfl⟩) hS0 ?_
            simp only [Act.put, List.getElem_toArray, List.getElem_cons_zero, List.getElem_cons_succ, List.setIfInBounds_toArray, List.set_cons_zero, List.set_cons_succ]
            refine wpAnyH_take (i := 29) (v := undef) rfl (by kernel_rfl) (by kernel_rfl) (by kernel_rfl) (fun _ _ _ h => h) (Or.inr ⟨by rfl, rfl⟩) hS0 ?_
            simp only [Act.put, List.getElem_toArray, List.getElem_cons_zero, List.getElem_cons_succ, List.setIfInBounds_toArray, List.set_cons_zero, List.set_cons_succ]
            refine wpAnyH_take (i := 30) (v := .bool true) rfl (by kernel_rfl) (by kernel_rfl) (by kernel_rfl) (fun _ _ _ h => h) (Or.inl ⟨by rfl, fun w' _ => by go_simp⟩) hS0 ?_
            simp only [Act.put, List.getElem_toArray, List.getElem_cons_zero, List.getElem_cons_succ, List.setIfInBounds_toArray, List.set_cons_zero, List.set_cons_succ]
            refine wpAnyH_take (i := 31) (v := .bool true) rfl (by kernel_rfl) (by kernel_rfl) (by kernel_rfl) (fun _ _ _ h => h) (Or.inl ⟨by rfl, fun w' _ => by go_simp⟩) hS0 ?_
            simp only [Act.put, List.getElem_toArray, List.getElem_cons_zero, List.getElem_cons_succ, List.setIfInBounds_toArray, List.set_cons_zero, List.set_cons_succ]
            refine wpAnyH_done (by kernel_rfl) ?_ _
            refine NoPanic.normal ?_
            go_wp2_with fail
            go_ret
            exact ⟨rfl, K.call HB6.out (K.call hS9 hS0)⟩
          · have hi1 : ¬ ((i : Int) = 1) := by omega
            have he0 : 0 < e := Nat.pos_of_ne_zero (fun e0 => h1 (by rw [← HNe.out, e0]))
            have hed := tr_edge HTa5.out (by omega)
            have h2 : eL F (i + 1) = [rt F i, F i] := by rw [← HNe.out]; exact eL_pow1 F he0
            rw [h2] at hed
            have HEd := hide hed
            have HNn := hide hNn
            clear hed h2 h1 he0
            go_upto_region 12 with (go_at_call 11; refine Calls.mono HEd.out ?_; rintro e' V6 hE; obtain ⟨v6, rfl, hO6, hB6⟩ := hE; obtain ⟨a6, c6, rfl, _, _⟩ := hO6.form; have hh := hO6.hl (two_lt HFr.out HF0.out); obtain ⟨gb, ob, rfl⟩ := hh.ad (by show 0 < 2; omega); have HRb0 := hide (hh.first (by show 0 < 2; omega)); have HRb1 := hide (hh.second (by show 1 < 2; omega)); have HB6 := hide (Go.Proofs.YtjobcffelbddcaaDoor.K.call HB5.out hB6); have HRa := hide (range_keep (HHb.out.first (by show 0 < 1; omega)) hB6); clear hO6 hB6 hh)
            have hrr := fun W (h : Below V6.heap.size V6 W) => refRoot_any i (c := c) (((HX.out.keep HB6.out).keep h).head i (by have := HN.out; omega)) hic HC.out.2 (by omega)
            unfold hv at hrr
            rw [lF_0, HRo.out] at HRa
            rw [lF_0, HRo.out] at HRb0
            rw [lF_1, HFi.out] at HRb1
            rw [HRo.out] at hrr
            have HRr := hide hrr
            have hrl := (HX.out.keep HB6.out).range (show i < n by have := HN.out; omega)
            rw [HFi.out] at hrl
            have HRl := hide hrl
            clear hrr hrl
            refine wp_region_noPanic ?_
            refine wp_region_held_drew (S := fun w' => Below V6.heap.size V6 w') (by kernel_rfl) (Go.Proofs.YtjobcffelbddcaaDoor.K.drew (Below.refl _ V6)) (fun hS0 => ?_)
            refine wpAnyH_take (i := 0) (v := .slice (some ⟨ga, oa, none⟩) 1 c4) rfl (by kernel_rfl) (by kernel_rfl) (by kernel_rfl) (fun _ _ _ h => h) (Or.inl ⟨by rfl, fun w' _ => by go_simp⟩) hS0 ?_
            simp only [Act.put, List.getElem_toArray, List.getElem_cons_zero, List.setIfInBounds_toArray, List.set_cons_zero, List.set_cons_succ]
            refine wpAnyH_take (i := 1) (v := .int .i64 1) rfl (by kernel_rfl) (by kernel_rfl) (by kernel_rfl) (fun _ _ _ h => h) (Or.inl ⟨by rfl, fun w' _ => by go_simp⟩) hS0 ?_
            simp only [Act.put, List.getElem_toArray, List.getElem_cons_zero, List.getElem_cons_succ, List.setIfInBounds_toArray, List.set_cons_zero, List.set_cons_succ]
            refine wpAnyH_take (i := 2) (v := .bool false) rfl (by kernel_rfl) (by kernel_rfl) (by kernel_rfl) (fun _ _ _ h => h) (Or.inl ⟨by rfl, fun w' _ => by go_simp⟩) hS0 ?_
            simp only [Act.put, List.getElem_toArray, List.getElem_cons_zero, List.getElem_cons_succ, List.setIfInBounds_toArray, List.set_cons_zero, List.set_cons_succ]
            refine wpAnyH_take (i := 3) (v := .bool false) rfl (by kernel_rfl) (by kernel_rfl) (by kernel_rfl) (fun _ _ _ h => h) (Or.inl ⟨by rfl, fun w' _ => by go_simp⟩) hS0 ?_
            simp only [Act.put, List.getElem_toArray, List.getElem_cons_zero, List.getElem_cons_succ, List.setIfInBounds_toArray, List.set_cons_zero, List.set_cons_succ]
            refine wpAnyH_take (i := 4) (v := .slice (some ⟨ga, oa, none⟩) 1 c4) rfl (by kernel_rfl) (by kernel_rfl) (by kernel_rfl) (fun _ _ _ h => h) (Or.inl ⟨by rfl, fun w' _ => by go_simp⟩) hS0 ?_
            simp only [Act.put, List.getElem_toArray, List.getElem_cons_zero, List.getElem_cons_succ, List.setIfInBounds_toArray, List.set_cons_zero, List.set_cons_succ]
            refine wpAnyH_take (i := 5) (v := .pointer (some ⟨ga, oa, none⟩)) rfl (by kernel_rfl) (by kernel_rfl) (by kernel_rfl) (fun _ _ _ h => h) (Or.inl ⟨by rfl, fun w' _ => by go_simp⟩) hS0 ?_
            simp only [Act.put, List.getElem_toArray, List.getElem_cons_zero, List.getElem_cons_succ, List.setIfInBounds_toArray, List.set_cons_zero, List.set_cons_succ]
            refine wpAnyH_take (i := 6) (v := .agg (ab ro 32).toArray) rfl (by kernel_rfl) (by kernel_rfl) (by kernel_rfl) (fun _ _ _ h => h) (yieldsIf_load_mid (by rfl) 33 _ rfl ga oa (by rfl) (ab ro 32) _ (fun w' hS => range_keep HRa.out hS) Tryd.underlying33 rfl (ilH _)) hS0 ?_
            simp only [Act.put, List.getElem_toArray, List.getElem_cons_zero, List.getElem_cons_succ, List.setIfInBounds_toArray, List.set_cons_zero, List.set_cons_succ]
            refine wpAnyH_take (i := 7) (v := .slice (some ⟨bz, oz, none⟩) n c) rfl (by kernel_rfl) (by kernel_rfl) (by kernel_rfl) (fun _ _ _ h => h) (Or.inl ⟨by rfl, fun w' _ => by go_simp⟩) hS0 ?_
            simp only [Act.put, List.getElem_toArray, List.getElem_cons_zero, List.getElem_cons_succ, List.setIfInBounds_toArray, List.set_cons_zero, List.set_cons_succ]
            refine wpAnyH_take (i := 8) (v := .int .i64 (i : Int)) rfl (by kernel_rfl) (by kernel_rfl) (by kernel_rfl) (fun _ _ _ h => h) (Or.inl ⟨by rfl, fun w' _ => by go_simp⟩) hS0 ?_
            simp only [Act.put, List.getElem_toArray, List.getElem_cons_zero, List.getElem_cons_succ, List.setIfInBounds_toArray, List.set_cons_zero, List.set_cons_succ]
            refine wpAnyH_take (i := 9) (v := .slice (some ⟨bz, oz, none⟩) i c) rfl (by kernel_rfl) (by kernel_rfl) (by kernel_rfl) (fun _ _ _ h => h) (Or.inl ⟨by rfl, fun w' _ => by go_simp⟩) hS0 ?_
            simp only [Act.put, List.getElem_toArray, List.getElem_cons_zero, List.getElem_cons_succ, List.setIfInBounds_toArray, List.set_cons_zero, List.set_cons_succ]
            refine wpAnyH_ready (rs := [10]) (by kernel_rfl) (by simp) (AllReadyH.cons rfl (fun Kt hK => ?_) AllReadyH.nil)
            refine wanted_pos rfl ?_
            refine wp_call (R := fun r w' => r = .agg (ab ro 32).toArray ∧ Below V6.heap.size V6 w') (vs := #[.slice (some ⟨bz, oz, none⟩) i c]) rfl (by simp only [List.map_toArray, List.map_cons, List.map_nil]; rfl) (by go_simp) (Calls.mono (HRr.out _ hS0) (fun e w' ⟨he, hb⟩ => ⟨_, he, rfl, K.call hS0 hb⟩)) (fun r W1 ⟨hr, hb⟩ => ?_)
            subst hr
            refine hK.out _ _ hb (fun hS1 => ?_)
            clear hK Kt hb
            simp only [Act.put, List.getElem_toArray, List.getElem_cons_zero, List.getElem_cons_succ, List.setIfInBounds_toArray, List.set_cons_zero, List.set_cons_succ]
            refine wpAnyH_take (i := 11) (v := .bool false) rfl (by kernel_rfl) (by kernel_rfl) (by kernel_rfl) (fun _ _ _ h => h) (yieldsIf_neH (by rfl) (ab ro 32).toArray (ab ro 32).toArray true rfl (by rfl) (by rfl) HEq.out) hS1 ?_
            simp only [Act.put, List.getElem_toArray, List.getElem_cons_zero, List.getElem_cons_succ, List.setIfInBounds_toArray, List.set_cons_zero, List.set_cons_succ]
            refine wpAnyH_take (i := 12) (v := .bool false) rfl (by kernel_rfl) (by kernel_rfl) (by kernel_rfl) (fun _ _ _ h => h) (Or.inl ⟨by rfl, fun w' _ => by go_simp⟩) hS1 ?_
            simp only [Act.put, List.getElem_toArray, List.getElem_cons_zero, List.getElem_cons_succ, List.setIfInBounds_toArray, List.set_cons_zero, List.set_cons_succ]
            refine wpAnyH_done (by kernel_rfl) ?_ _
            refine NoPanic.normal ?_
            have hS9 := hS1
            have HRav := hide (range_keep HRa.out hS1)
            have HRb0v := hide (range_keep HRb0.out hS1)
            have HRb1v := hide (range_keep HRb1.out hS1)
            have HRlv := hide (range_keep HRl.out hS1)
            go_wp2_with fail
            refine wp_region_noPanic ?_
            refine wp_region_held_drew (S := fun w' => Below W1.heap.size W1 w') (by kernel_rfl) (Go.Proofs.YtjobcffelbddcaaDoor.K.drew (Below.refl _ W1)) (fun hS0 => ?_)
            refine wpAnyH_take (i := 0) (v := .int .i64 (i : Int)) rfl (by kernel_rfl) (by kernel_rfl) (by kernel_rfl) (fun _ _ _ h => h) (Or.inl ⟨by rfl, fun w' _ => by go_simp⟩) hS0 ?_
            simp only [Act.put, List.getElem_toArray, List.getElem_cons_zero, List.setIfInBounds_toArray, List.set_cons_zero, List.set_cons_succ]
            refine wpAnyH_take (i := 1) (v := .bool false) rfl (by kernel_rfl) (by kernel_rfl) (by kernel_rfl) (fun _ _ _ h => h) (Or.inl ⟨by rfl, fun w' _ => by go_simp⟩) hS0 ?_
            simp only [Act.put, List.getElem_toArray, List.getElem_cons_zero, List.getElem_cons_succ, List.setIfInBounds_toArray, List.set_cons_zero, List.set_cons_succ]
            refine wpAnyH_take (i := 2) (v := .bool false) rfl (by kernel_rfl) (by kernel_rfl) (by kernel_rfl) (fun _ _ _ h => h) (Or.inl ⟨by rfl, fun w' _ => by go_simp⟩) hS0 ?_
            simp only [Act.put, List.getElem_toArray, List.getElem_cons_zero, List.getElem_cons_succ, List.setIfInBounds_toArray, List.set_cons_zero, List.set_cons_succ]
            refine wpAnyH_take (i := 3) (v := undef) rfl (by kernel_rfl) (by kernel_rfl) (by kernel_rfl) (fun _ _ _ h => h) (Or.inr ⟨by rfl, rfl⟩) hS0 ?_
            simp only [Act.put, List.getElem_toArray, List.getElem_cons_zero, List.getElem_cons_succ, List.setIfInBounds_toArray, List.set_cons_zero, List.set_cons_succ]
            refine wpAnyH_take (i := 4) (v := undef) rfl (by kernel_rfl) (by kernel_rfl) (by kernel_rfl) (fun _ _ _ h => h) (Or.inr ⟨by rfl, rfl⟩) hS0 ?_
            simp only [Act.put, List.getElem_toArray, List.getElem_cons_zero, List.getElem_cons_succ, List.setIfInBounds_toArray, List.set_cons_zero, List.set_cons_succ]
            refine wpAnyH_take (i := 5) (v := undef) rfl (by kernel_rfl) (by kernel_rfl) (by kernel_rfl) (fun _ _ _ h => h) (Or.inr ⟨by rfl, rfl⟩) hS0 ?_
            simp only [Act.put, List.getElem_toArray, List.getElem_cons_zero, List.getElem_cons_succ, List.setIfInBounds_toArray, List.set_cons_zero, List.set_cons_succ]
            refine wpAnyH_take (i := 6) (v := .bool false) rfl (by kernel_rfl) (by kernel_rfl) (by kernel_rfl) (fun _ _ _ h => h) (Or.inl ⟨by rfl, fun w' _ => by go_simp⟩) hS0 ?_
            simp only [Act.put, List.getElem_toArray, List.getElem_cons_zero, List.getElem_cons_succ, List.setIfInBounds_toArray, List.set_cons_zero, List.set_cons_succ]
            refine wpAnyH_take (i := 7) (v := .bool false) rfl (by kernel_rfl) (by kernel_rfl) (by kernel_rfl) (fun _ _ _ h => h) (Or.inl ⟨by rfl, fun w' _ => by go_simp⟩) hS0 ?_
            simp only [Act.put, List.getElem_toArray, List.getElem_cons_zero, List.getElem_cons_succ, List.setIfInBounds_toArray, List.set_cons_zero, List.set_cons_succ]
            refine wpAnyH_take (i := 8) (v := .slice (some ⟨gb, ob, none⟩) 2 c6) rfl (by kernel_rfl) (by kernel_rfl) (by kernel_rfl) (fun _ _ _ h => h) (Or.inl ⟨by rfl, fun w' _ => by go_simp⟩) hS0 ?_
            simp only [Act.put, List.getElem_toArray, List.getElem_cons_zero, List.getElem_cons_succ, List.setIfInBounds_toArray, List.set_cons_zero, List.set_cons_succ]
            refine wpAnyH_take (i := 9) (v := .int .i64 2) rfl (by kernel_rfl) (by kernel_rfl) (by kernel_rfl) (fun _ _ _ h => h) (Or.inl ⟨by rfl, fun w' _ => by go_simp⟩) hS0 ?_
            simp only [Act.put, List.getElem_toArray, List.getElem_cons_zero, List.getElem_cons_succ, List.setIfInBounds_toArray, List.set_cons_zero, List.set_cons_succ]
            refine wpAnyH_take (i := 10) (v := .bool true) rfl (by kernel_rfl) (by kernel_rfl) (by kernel_rfl) (fun _ _ _ h => h) (Or.inl ⟨by rfl, fun w' _ => by go_simp⟩) hS0 ?_
            simp only [Act.put, List.getElem_toArray, List.getElem_cons_zero, List.getElem_cons_succ, List.setIfInBounds_toArray, List.set_cons_zero, List.set_cons_succ]
            refine wpAnyH_take (i := 11) (v := .bool true) rfl (by kernel_rfl) (by kernel_rfl) (by kernel_rfl) (fun _ _ _ h => h) (Or.inl ⟨by rfl, fun w' _ => by go_simp⟩) hS0 ?_
            simp only [Act.put, List.getElem_toArray, List.getElem_cons_zero, List.getElem_cons_succ, List.setIfInBounds_toArray, List.set_cons_zero, List.set_cons_succ]
            refine wpAnyH_take (i := 12) (v := .slice (some ⟨gb, ob, none⟩) 2 c6) rfl (by kernel_rfl) (by kernel_rfl) (by kernel_rfl) (fun _ _ _ h => h) (Or.inl ⟨by rfl, fun w' _ => by go_simp⟩) hS0 ?_
            simp only [Act.put, List.getElem_toArray, List.getElem_cons_zero, List.getElem_cons_succ, List.setIfInBounds_toArray, List.set_cons_zero, List.set_cons_succ]
            refine wpAnyH_take (i := 13) (v := .pointer (some ⟨gb, ob, none⟩)) rfl (by kernel_rfl) (by kernel_rfl) (by kernel_rfl) (fun _ _ _ h => h) (Or.inl ⟨by rfl, fun w' _ => by go_simp⟩) hS0 ?_
            simp only [Act.put, List.getElem_toArray, List.getElem_cons_zero, List.getElem_cons_succ, List.setIfInBounds_toArray, List.set_cons_zero, List.set_cons_succ]
            refine wpAnyH_take (i := 14) (v := .agg (ab ro 32).toArray) rfl (by kernel_rfl) (by kernel_rfl) (by kernel_rfl) (fun _ _ _ h => h) (yieldsIf_load_mid (by rfl) 33 _ rfl gb ob (by rfl) (ab ro 32) _ (fun w' hS => range_keep HRb0v.out hS) Tryd.underlying33 rfl (ilH _)) hS0 ?_
            simp only [Act.put, List.getElem_toArray, List.getElem_cons_zero, List.getElem_cons_succ, List.setIfInBounds_toArray, List.set_cons_zero, List.set_cons_succ]
            refine wpAnyH_take (i := 15) (v := .slice (some ⟨ga, oa, none⟩) 1 c4) rfl (by kernel_rfl) (by kernel_rfl) (by kernel_rfl) (fun _ _ _ h => h) (Or.inl ⟨by rfl, fun w' _ => by go_simp⟩) hS0 ?_
            simp only [Act.put, List.getElem_toArray, List.getElem_cons_zero, List.getElem_cons_succ, List.setIfInBounds_toArray, List.set_cons_zero, List.set_cons_succ]
            refine wpAnyH_take (i := 16) (v := .pointer (some ⟨ga, oa, none⟩)) rfl (by kernel_rfl) (by kernel_rfl) (by kernel_rfl) (fun _ _ _ h => h) (Or.inl ⟨by rfl, fun w' _ => by go_simp⟩) hS0 ?_
            simp only [Act.put, List.getElem_toArray, List.getElem_cons_zero, List.getElem_cons_succ, List.setIfInBounds_toArray, List.set_cons_zero, List.set_cons_succ]
            refine wpAnyH_take (i := 17) (v := .agg (ab ro 32).toArray) rfl (by kernel_rfl) (by kernel_rfl) (by kernel_rfl) (fun _ _ _ h => h) (yieldsIf_load_mid (by rfl) 33 _ rfl ga oa (by rfl) (ab ro 32) _ (fun w' hS => range_keep HRav.out hS) Tryd.underlying33 rfl (ilH _)) hS0 ?_
            simp only [Act.put, List.getElem_toArray, List.getElem_cons_zero, List.getElem_cons_succ, List.setIfInBounds_toArray, List.set_cons_zero, List.set_cons_succ]
            refine wpAnyH_take (i := 18) (v := .bool true) rfl (by kernel_rfl) (by kernel_rfl) (by kernel_rfl) (fun _ _ _ h => h) (yieldsIf_eqH (by rfl) (ab ro 32).toArray (ab ro 32).toArray true rfl (by rfl) (by rfl) HEq.out) hS0 ?_
            simp only [Act.put, List.getElem_toArray, List.getElem_cons_zero, List.getElem_cons_succ, List.setIfInBounds_toArray, List.set_cons_zero, List.set_cons_succ]
            refine wpAnyH_take (i := 19) (v := .bool true) rfl (by kernel_rfl) (by kernel_rfl) (by kernel_rfl) (fun _ _ _ h => h) (Or.inl ⟨by rfl, fun w' _ => by go_simp⟩) hS0 ?_
            simp only [Act.put, List.getElem_toArray, List.getElem_cons_zero, List.getElem_cons_succ, List.setIfInBounds_toArray, List.set_cons_zero, List.set_cons_succ]
            refine wpAnyH_take (i := 20) (v := .bool true) rfl (by kernel_rfl) (by kernel_rfl) (by kernel_rfl) (fun _ _ _ h => h) (Or.inl ⟨by rfl, fun w' _ => by go_simp⟩) hS0 ?_
            simp only [Act.put, List.getElem_toArray, List.getElem_cons_zero, List.getElem_cons_succ, List.setIfInBounds_toArray, List.set_cons_zero, List.set_cons_succ]
            refine wpAnyH_take (i := 21) (v := .slice (some ⟨gb, ob, none⟩) 2 c6) rfl (by kernel_rfl) (by kernel_rfl) (by kernel_rfl) (fun _ _ _ h => h) (Or.inl ⟨by rfl, fun w' _ => by go_simp⟩) hS0 ?_
            simp only [Act.put, List.getElem_toArray, List.getElem_cons_zero, List.getElem_cons_succ, List.setIfInBounds_toArray, List.set_cons_zero, List.set_cons_succ]
            refine wpAnyH_take (i := 22) (v := .pointer (some ⟨gb, ob + 32, none⟩)) rfl (by kernel_rfl) (by kernel_rfl) (by kernel_rfl) (fun _ _ _ h => h) (Or.inl ⟨by rfl, fun w' _ => by go_simp⟩) hS0 ?_
            simp only [Act.put, List.getElem_toArray, List.getElem_cons_zero, List.getElem_cons_succ, List.setIfInBounds_toArray, List.set_cons_zero, List.set_cons_succ]
            refine wpAnyH_take (i := 23) (v := .agg (ab f1 32).toArray) rfl (by kernel_rfl) (by kernel_rfl) (by kernel_rfl) (fun _ _ _ h => h) (yieldsIf_load_mid (by rfl) 33 _ rfl gb (ob + 32) (by rfl) (ab f1 32) _ (fun w' hS => range_keep HRb1v.out hS) Tryd.underlying33 rfl (ilH _)) hS0 ?_
            simp only [Act.put, List.getElem_toArray, List.getElem_cons_zero, List.getElem_cons_succ, List.setIfInBounds_toArray, List.set_cons_zero, List.set_cons_succ]
            refine wpAnyH_take (i := 24) (v := .slice (some ⟨bz, oz, none⟩) n c) rfl (by kernel_rfl) (by kernel_rfl) (by kernel_rfl) (fun _ _ _ h => h) (Or.inl ⟨by rfl, fun w' _ => by go_simp⟩) hS0 ?_
            simp only [Act.put, List.getElem_toArray, List.getElem_cons_zero, List.getElem_cons_succ, List.setIfInBounds_toArray, List.set_cons_zero, List.set_cons_succ]
            refine wpAnyH_take (i := 25) (v := .int .i64 (i : Int)) rfl (by kernel_rfl) (by kernel_rfl) (by kernel_rfl) (fun _ _ _ h => h) (Or.inl ⟨by rfl, fun w' _ => by go_simp⟩) hS0 ?_
            simp only [Act.put, List.getElem_toArray, List.getElem_cons_zero, List.getElem_cons_succ, List.setIfInBounds_toArray, List.set_cons_zero, List.set_cons_succ]
            refine wpAnyH_take (i := 26) (v := .pointer (some ⟨bz, oz + i * 32, none⟩)) rfl (by kernel_rfl) (by kernel_rfl) (by kernel_rfl) (fun _ _ _ h => h) (Or.inl ⟨by rfl, fun w' _ => by go_simp⟩) hS0 ?_
            simp only [Act.put, List.getElem_toArray, List.getElem_cons_zero, List.getElem_cons_succ, List.setIfInBounds_toArray, List.set_cons_zero, List.set_cons_succ]
            refine wpAnyH_take (i := 27) (v := .agg (ab f1 32).toArray) rfl (by kernel_rfl) (by kernel_rfl) (by kernel_rfl) (fun _ _ _ h => h) (yieldsIf_load_mid (by rfl) 33 _ rfl bz (oz + i * 32) (by rfl) (ab f1 32) _ (fun w' hS => range_keep HRlv.out hS) Tryd.underlying33 rfl (ilH _)) hS0 ?_
            simp only [Act.put, List.getElem_toArray, List.getElem_cons_zero, List.getElem_cons_succ, List.setIfInBounds_toArray, List.set_cons_zero, List.set_cons_succ]
            refine wpAnyH_take (i := 28) (v := .bool true) rfl (by kernel_rfl) (by kernel_rfl) (by kernel_rfl) (fun _ _ _ h => h) (yieldsIf_eqH (by rfl) (ab f1 32).toArray (ab f1 32).toArray true rfl (by rfl) (by rfl) HEf.out) hS0 ?_
            simp only [Act.put, List.getElem_toArray, List.getElem_cons_zero, List.getElem_cons_succ, List.setIfInBounds_toArray, List.set_cons_zero, List.set_cons_succ]
            refine wpAnyH_take (i := 29) (v := .bool true) rfl (by kernel_rfl) (by kernel_rfl) (by kernel_rfl) (fun _ _ _ h => h) (Or.inl ⟨by rfl, fun w' _ => by go_simp⟩) hS0 ?_
            simp only [Act.put, List.getElem_toArray, List.getElem_cons_zero, List.getElem_cons_succ, List.setIfInBounds_toArray, List.set_cons_zero, List.set_cons_succ]
            refine wpAnyH_take (i := 30) (v := .bool true) rfl (by kernel_rfl) (by kernel_rfl) (by kernel_rfl) (fun _ _ _ h => h) (Or.inl ⟨by rfl, fun w' _ => by go_simp⟩) hS0 ?_
            simp only [Act.put, List.getElem_toArray, List.getElem_cons_zero, List.getElem_cons_succ, List.setIfInBounds_toArray, List.set_cons_zero, List.set_cons_succ]
            refine wpAnyH_take (i := 31) (v := .bool true) rfl (by kernel_rfl) (by kernel_rfl) (by kernel_rfl) (fun _ _ _ h => h) (Or.inl ⟨by rfl, fun w' _ => by go_simp⟩) hS0 ?_
            simp only [Act.put, List.getElem_toArray, List.getElem_cons_zero, List.getElem_cons_succ, List.setIfInBounds_toArray, List.set_cons_zero, List.set_cons_succ]
            refine wpAnyH_done (by kernel_rfl) ?_ _
            refine NoPanic.normal ?_
            go_wp2_with fail
            go_ret
            exact ⟨rfl, K.call HB6.out (K.call hS9 hS0)⟩
    · have hq : (n : Int) ≤ 64 := by omega
      have hq2 : (n : Int) < (N : Int) + 1 := by omega
      clear hn2
      go_enter Tryd.func7, Tryd.ntmps7
      go_upto_region 3 with (go_at_call 8; refine Calls.mono (awake_any HT.out) ?_; rintro e W1 ⟨rfl, hb⟩; have HB1 := hide hb; clear hb)
      go_wp2_with (go_at_call 8; refine Calls.mono (awake_any (HT.out.keep HB1.out)) ?_; rintro e W2 ⟨rfl, hb⟩; have HB2 := hide (Go.Proofs.YtjobcffelbddcaaDoor.K.call HB1.out hb); clear hb)
      go_ret
      exact ⟨rfl, HB2.out⟩
  · have hq : (64 : Int) < (n : Int) := by omega
    clear hn
    go_enter Tryd.func7, Tryd.ntmps7
    go_upto_region 3 with (go_at_call 8; refine Calls.mono (awake_any HT.out) ?_; rintro e W1 ⟨rfl, hb⟩; have HB1 := hide hb; clear hb)
    go_wp2_with (go_at_call 8; refine Calls.mono (awake_any (HT.out.keep HB1.out)) ?_; rintro e W2 ⟨rfl, hb⟩; have HB2 := hide (Go.Proofs.YtjobcffelbddcaaDoor.K.call HB1.out hb); clear hb)
    go_ret
    exact ⟨rfl, HB2.out⟩
end Go.Proofs.YtjobcffelbddcaaDoor
