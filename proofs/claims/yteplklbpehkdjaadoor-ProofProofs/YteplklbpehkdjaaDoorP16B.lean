/- Layer 16: the program's own Split and Root. -/
import Derived.Test.YteplklbpehkdjaaDoorP16A
import Derived.Test.YteplklbpehkdjaaDoorDBits
import Derived.Lib.BitFns
namespace Go.Proofs.YteplklbpehkdjaaDoor
set_option maxRecDepth 100000
open Go.RowKit Go.Shelf
attribute [local go_sem ↓] Go.wp_at_zero Go.wp_at_succ

theorem bit_log : ∀ (f x : Nat), x ≠ 0 → x < 2 ^ f → Lib.bitLenAux f x = x.log2 + 1
  | 0, x, h0, h1 => by rw [Nat.pow_zero] at h1; omega
  | f + 1, x, h0, h1 => by
    rw [Lib.bitLenAux, if_neg h0]
    by_cases h2 : x / 2 = 0
    · obtain rfl : x = 1 := by omega
      rw [h2, show Nat.log2 1 = 0 by decide]
      cases f <;> simp [Lib.bitLenAux]
    · have h3 := Nat.log2_self_le h2
      have h4 : x / 2 < 2 ^ ((x / 2).log2 + 1) := Nat.lt_log2_self
      have h5 : x.log2 = (x / 2).log2 + 1 := (Nat.log2_eq_iff h0).2 ⟨by rw [Nat.pow_succ]; omega, by rw [Nat.pow_succ]; omega⟩
      rw [bit_log f (x / 2) h2 (by rw [Nat.pow_succ] at h1; omega), h5]
      omega
theorem sp_log {n : Nat} (h : 2 ≤ n) (h2 : n < 2 ^ 64) : Lib.bitLen (n - 1) = (n - 1).log2 + 1 := bit_log 64 _ (by omega) (by omega)
theorem split_any (w : World) {k : Int} (h1 : -9223372036854775808 ≤ k) (h2 : k < 9223372036854775808) : Calls Tryd.prog 21 #[.int .i64 k] w fun e w' => e = .returned (.int .i64 (sp k.toNat : Int)) ∧ w' = w := by
  by_cases h : k < 2
  · have e : sp k.toNat = 0 := sp_small (by omega)
    rw [e]
    go_enter Tryd.func21, Tryd.ntmps21
    go_wp2_with fail
    go_ret
    exact ⟨rfl, rfl⟩
  · obtain ⟨n, rfl⟩ : ∃ n : Nat, k = (n : Int) := ⟨k.toNat, by omega⟩
    have hn : 2 ≤ n := by omega
    have HL := hide (Any.bits_Len lays125 ((n : Int) - 1) w (by omega) (by omega))
    rw [show ((n : Int) - 1).toNat = n - 1 by omega, sp_log hn (by omega)] at HL
    rw [Int.toNat_natCast, sp_pow hn]
    have hw1 : wrap64 ((n : Int) - 1) = (n : Int) - 1 := by unfold wrap64; omega
    have hw2 : ((n : Int) - 1) % 18446744073709551616 = (n : Int) - 1 := by omega
    have he : (n - 1).log2 ≤ 62 := by
      have h5 := (Nat.log2_lt (n := n - 1) (k := 63) (by omega)).2 (by omega)
      omega
    generalize (n - 1).log2 = e at *
    have hp : (2 : Int) ^ e ≤ 4611686018427387904 := by
      have h6 : 2 ^ e ≤ 2 ^ 62 := Nat.pow_le_pow_right (by decide) he
      have h7 : ((2 ^ e : Nat) : Int) = (2 : Int) ^ e := by simp
      omega
    have hp0 : (0 : Int) ≤ 2 ^ e := Int.pow_nonneg (by decide)
    have hw3 : wrap64 (e : Int) = (e : Int) := by unfold wrap64; omega
    have hw4 : wrap64 ((2 : Int) ^ e) = 2 ^ e := by unfold wrap64; omega
    have hm : min e 64 = e := by omega
    have hneg : ¬ ((e : Int) < 0) := by omega
    clear hp hp0 he hn
    go_enter Tryd.func21, Tryd.ntmps21
    go_wp2_with (go_at_call 27; refine Calls.mono HL.out ?_; rintro e' w ⟨rfl, rfl⟩)
    go_ret
    exact ⟨by show Ending.returned (Value.int .i64 (wrap64 (2 ^ e))) = _; rw [hw4]; simp, rfl⟩
section
variable {w : World} {ops : Array Oper} {rest : List Oper} {o : Oper} {a : Act} {Q : Exit → Act → World → Prop}
theorem wpList_load_h (hgd : o.guard = none) (x : Operand) (hop : o.op = Op.load 32 x) {g off : Nat} {f : Nat → Nat} (hx : a.eval x = .pointer (some ⟨g, off, none⟩)) (ht : w.rangeAt g off (ab f 32)) (hK : wpList Tryd.prog ops Q rest (a.put o.dst (.agg (ab f 32).toArray)) w) : wpList Tryd.prog ops Q (o :: rest) a w :=
  wpList_load_mid hgd 32 x hop g off hx (ab f 32) _ ht Tryd.underlying32 rfl (ilH _) hK
end
theorem HL.tail {w : World} {b o n : Nat} {F : Nat → Nat → Nat} (h : HL w (some ⟨b, o, none⟩) n F) (k : Nat) : HL w (some ⟨b, o + k * 32, none⟩) (n - k) (fun i => F (k + i)) := by
  refine ⟨fun i => h.lt _, ?_⟩
  rcases h.at_ with hn | ⟨b', o', e, hr⟩
  · exact Or.inl (by omega)
  · cases e
    refine Or.inr ⟨b, o + k * 32, rfl, fun i hi => ?_⟩
    have := hr (k + i) (by omega)
    rw [Nat.add_mul, ← Nat.add_assoc] at this
    exact this
theorem hA_e0 : hA (fun _ => 0) 0 = (ab e0 32).toArray := rfl
/-- What is at hand once the result's variable is made. -/
theorem made_h {w X : World} (hX : X = w.alloc (.cells (ab (fun _ => 0) 32).toArray 32)) : Below w.heap.size w X ∧ RowB X w.heap.size 32 (fun _ => 0) := by
  rw [hX]
  exact ⟨K.alloc (Below.refl _ _) _, RowB.made w 32 32 (fun _ => 0) _ rfl⟩
/-- A hash is put into the result's variable. -/
theorem put_h {w X W : World} {b0 : Nat} (hb0 : w.heap.size = b0) (hH : RowB X b0 32 (fun _ => 0)) (hB : Below b0 w X) (hK : Below X.heap.size X W) (f : Nat → Nat) :
    Hid (W.there b0 0 (ab f 32).toArray.size) ∧ Hid (RowB (W.setCells b0 0 (ab f 32).toArray.toList) b0 32 f) ∧ Hid (Below b0 w (W.setCells b0 0 (ab f 32).toArray.toList)) := by
  subst hb0
  have h3 := Row8.keep hH hK
  exact ⟨RowB.there h3 f, RowB.stored h3 f, below_setCells _ _ (K.call hB hK) (Nat.le_refl _)⟩
set_option maxRecDepth 100000 in
set_option maxHeartbeats 8000000 in
theorem root_any : ∀ (n : Nat) {w : World} {x : Option Addr} {c : Nat} {F : Nat → Nat → Nat}, Tab w → HL w x n F → n ≤ c → c ≤ maxLen → n ≤ 1000000 → Calls Tryd.prog 22 #[.slice x n c] w fun e w' => e = .returned (hv (rt F n)) ∧ Below w.heap.size w w' := fun n => by
  induction n using Nat.strongRecOn with
  | ind n ih =>
    intro w x c F hT hL hc hmx hn
    have HT := hide hT
    have HLs := hide hL
    have HC := hide (And.intro hc hmx)
    have HIH := hide ih
    have HN := hide hn
    clear hT hL hmx ih hc hn
    by_cases h0 : n = 0
    · subst h0
      rw [rt_zero]
      go_enter Tryd.func22, Tryd.ntmps22
      go_upto_region 1 with fail
      refine wp_world (fun X hX => ?_)
      rw [zeros32] at hX
      obtain ⟨hB, hH⟩ := made_h hX
      clear hX
      obtain ⟨b0, hb0⟩ : ∃ b0, w.heap.size = b0 := ⟨_, rfl⟩
      have HS := hide (sum_none (HT.out.keep hB) (fun _ => 0))
      rw [hA_e0] at HS
      rw [hb0] at hB hH ⊢
      have HH := hide (And.intro hB hH)
      clear hB hH
      go_wp2_with fail
      with_reducible refine Calls.mono HS.out ?_
      rintro e W3 ⟨rfl, hb⟩
      obtain ⟨HTH, HST, HB⟩ := put_h hb0 HH.out.2 HH.out.1 hb e0
      clear hb HS HH
      generalize hs2 : e0 = s2 at HTH HST HB ⊢
      have HS2 := hide hs2
      clear hs2
      go_wp2_with (refine wpList_store_mid rfl 32 _ _ rfl b0 0 (ab s2 32).toArray rfl rfl HTH.out (inH _) (all_oneCell_toArray (ab_one _ _)) ?_; generalize W3.setCells b0 0 (ab s2 32).toArray.toList = Z at HST HB ⊢)
      exact bodyPost_ret (results_cell_mid Tryd.results22 _ _ b0 (ab s2 32) _ rfl (RowB.range HST.out) Tryd.underlying32 rfl (ilH _)) rfl ⟨by (try unfold hv); rw [HS2.out], by first | exact HB.out | (rw [hb0]; exact HB.out)⟩
    by_cases h1 : n = 1
    · subst h1
      rw [rt_one]
      rcases HLs.out.at_ with h2 | ⟨b, o, rfl, hr⟩
      · omega
      have hr0 := hr 0 (by omega)
      rw [Nat.zero_mul, Nat.add_zero] at hr0
      go_enter Tryd.func22, Tryd.ntmps22
      go_upto_region 1 with fail
      refine wp_world (fun X hX => ?_)
      rw [zeros32] at hX
      obtain ⟨hB, hH⟩ := made_h hX
      clear hX
      obtain ⟨b0, hb0⟩ : ∃ b0, w.heap.size = b0 := ⟨_, rfl⟩
      have HR := hide (range_keep hr0 hB)
      rw [hb0] at hB hH ⊢
      obtain ⟨HTH, HST, HB⟩ := put_h hb0 hH hB (Below.refl _ X) (F 0)
      clear hB hH hr hr0
      generalize hs2 : F 0 = s2 at HTH HST HB HR ⊢
      have HS2 := hide hs2
      clear hs2
      go_upto_region 5 with fail
      go_wp2_with (first
        | refine wpList_load_h rfl _ rfl rfl HR.out ?_
        | (refine wpList_store_mid rfl 32 _ _ rfl b0 0 (ab s2 32).toArray rfl rfl HTH.out (inH _) (all_oneCell_toArray (ab_one _ _)) ?_; generalize X.setCells b0 0 (ab s2 32).toArray.toList = Z at HST HB ⊢))
      exact bodyPost_ret (results_cell_mid Tryd.results22 _ _ b0 (ab s2 32) _ rfl (RowB.range HST.out) Tryd.underlying32 rfl (ilH _)) rfl ⟨by (try unfold hv); rw [HS2.out], by first | exact HB.out | (rw [hb0]; exact HB.out)⟩
    have h2 : 2 ≤ n := by omega
    rcases HLs.out.at_ with h3 | ⟨b, o, rfl, _⟩
    · omega
    have hi0 : ¬ ((n : Int) = 0) := by omega
    have hi1 : ¬ ((n : Int) = 1) := by omega
    have HSp := hide (fun W => split_any W (k := (n : Int)) (by omega) (by have := HN.out; omega))
    rw [Int.toNat_natCast] at HSp
    rw [rt_more F h2]
    have k1 := sp_lt h2
    have k2 := sp_pos h2
    generalize sp n = k at *
    have hkc : k ≤ c := by have := HC.out.1; omega
    have hkn : k ≤ n := by omega
    have hne : ¬ (c = k) := by have := HC.out.1; omega
    have HA := hide (And.intro k1 (show n - k < n by omega))
    have HKk := hide (And.intro k1 k2)
    clear h0 h1 h2 k1 k2
    go_enter Tryd.func22, Tryd.ntmps22
    go_upto_region 1 with fail
    refine wp_world (fun X hX => ?_)
    rw [zeros32] at hX
    obtain ⟨hB, hH⟩ := made_h hX
    clear hX
    obtain ⟨b0, hb0⟩ : ∃ b0, w.heap.size = b0 := ⟨_, rfl⟩
    have HTX := hide (HT.out.keep hB)
    have HLX := hide (HLs.out.keep hB)
    rw [hb0] at hB hH ⊢
    have HH := hide (And.intro hB hH)
    clear hB hH
    go_upto_region 7 with (go_at_call 21; refine Calls.mono (HSp.out _) ?_; rintro e' w' ⟨rfl, hw⟩; replace hw := hw.symm; subst hw)
    have HB : Hid (Below X.heap.size X X.drew) := Go.Proofs.YteplklbpehkdjaaDoor.K.drew (Below.refl _ X)
    refine wp_region_noPanic ?_
    refine wp_region_held_drew (S := fun _ => True) (by kernel_rfl) trivial (fun hS0 => ?_)
    refine wpAnyH_take (i := 0) (v := .slice (some ⟨b, o, none⟩) n c) rfl (by kernel_rfl) (by kernel_rfl) (by kernel_rfl) (fun _ _ _ h => h) (Or.inl ⟨by rfl, fun w' _ => by go_simp⟩) trivial ?_
    simp only [Act.put, List.getElem_toArray, List.getElem_cons_zero, List.setIfInBounds_toArray, List.set_cons_zero, List.set_cons_succ]
    refine wpAnyH_take (i := 1) (v := .int .i64 (k : Int)) rfl (by kernel_rfl) (by kernel_rfl) (by kernel_rfl) (fun _ _ _ h => h) (Or.inl ⟨by rfl, fun w' _ => by go_simp⟩) trivial ?_
    simp only [Act.put, List.getElem_toArray, List.getElem_cons_zero, List.getElem_cons_succ, List.setIfInBounds_toArray, List.set_cons_zero, List.set_cons_succ]
    refine wpAnyH_take (i := 2) (v := .slice (some ⟨b, o, none⟩) k c) rfl (by kernel_rfl) (by kernel_rfl) (by kernel_rfl) (fun _ _ _ h => h) (Or.inl ⟨by rfl, fun w' _ => by go_simp⟩) trivial ?_
    simp only [Act.put, List.getElem_toArray, List.getElem_cons_zero, List.getElem_cons_succ, List.setIfInBounds_toArray, List.set_cons_zero, List.set_cons_succ]
    refine wpAnyH_take (i := 4) (v := .slice (some ⟨b, o, none⟩) n c) rfl (by kernel_rfl) (by kernel_rfl) (by kernel_rfl) (fun _ _ _ h => h) (Or.inl ⟨by rfl, fun w' _ => by go_simp⟩) trivial ?_
    simp only [Act.put, List.getElem_toArray, List.getElem_cons_zero, List.getElem_cons_succ, List.setIfInBounds_toArray, List.set_cons_zero, List.set_cons_succ]
    refine wpAnyH_take (i := 5) (v := .int .i64 (k : Int)) rfl (by kernel_rfl) (by kernel_rfl) (by kernel_rfl) (fun _ _ _ h => h) (Or.inl ⟨by rfl, fun w' _ => by go_simp⟩) trivial ?_
    simp only [Act.put, List.getElem_toArray, List.getElem_cons_zero, List.getElem_cons_succ, List.setIfInBounds_toArray, List.set_cons_zero, List.set_cons_succ]
    refine wpAnyH_take (i := 6) (v := .slice (some ⟨b, o + k * 32, none⟩) (n - k) (c - k)) rfl (by kernel_rfl) (by kernel_rfl) (by kernel_rfl) (fun _ _ _ h => h) (Or.inl ⟨by rfl, fun w' _ => by go_simp⟩) trivial ?_
    simp only [Act.put, List.getElem_toArray, List.getElem_cons_zero, List.getElem_cons_succ, List.setIfInBounds_toArray, List.set_cons_zero, List.set_cons_succ]
    refine wpAnyH_ready (rs := [3]) (by kernel_rfl) (by simp) (AllReadyH.cons rfl (fun Kt hK => ?_) AllReadyH.nil)
    refine wanted_pos rfl ?_
    refine wp_call (R := fun r w' => r = hv (rt F k) ∧ Below X.heap.size X w') (vs := #[.slice (some ⟨b, o, none⟩) k c]) rfl (by simp only [List.map_toArray, List.map_cons, List.map_nil]; rfl) (by go_simp) (Calls.mono (HIH.out k HA.out.1 (HTX.out.keep HB.out) ((HLX.out.head k hkn).keep HB.out) hkc HC.out.2 (by have := HN.out; omega)) (fun e w' ⟨he, hb⟩ => ⟨_, he, rfl, K.call HB.out hb⟩)) (fun r W1 ⟨hr, hb⟩ => ?_)
    subst hr
    have HB1 : Hid (Below X.heap.size X W1) := hb
    clear hb
    refine hK.out _ _ trivial (fun _ => ?_)
    clear hK Kt
    simp only [Act.put, List.getElem_toArray, List.getElem_cons_zero, List.getElem_cons_succ, List.setIfInBounds_toArray, List.set_cons_zero, List.set_cons_succ]
    refine wpAnyH_ready (rs := [7]) (by kernel_rfl) (by simp) (AllReadyH.cons rfl (fun Kt hK => ?_) AllReadyH.nil)
    refine wanted_pos rfl ?_
    refine wp_call (R := fun r w' => r = hv (rt (fun i => F (k + i)) (n - k)) ∧ Below X.heap.size X w') (vs := #[.slice (some ⟨b, o + k * 32, none⟩) (n - k) (c - k)]) rfl (by simp only [List.map_toArray, List.map_cons, List.map_nil]; rfl) (by go_simp) (Calls.mono (HIH.out (n - k) HA.out.2 (HTX.out.keep HB1.out) ((HLX.out.tail k).keep HB1.out) (by have := HC.out.1; omega) (by have := HC.out.2; omega) (by have := HN.out; omega)) (fun e w' ⟨he, hb⟩ => ⟨_, he, rfl, K.call HB1.out hb⟩)) (fun r W2 ⟨hr, hb⟩ => ?_)
    subst hr
    have HB2 : Hid (Below X.heap.size X W2) := hb
    clear hb
    refine hK.out _ _ trivial (fun _ => ?_)
    clear hK Kt
    simp only [Act.put, List.getElem_toArray, List.getElem_cons_zero, List.getElem_cons_succ, List.setIfInBounds_toArray, List.set_cons_zero, List.set_cons_succ]
    refine wpAnyH_ready (rs := [8]) (by kernel_rfl) (by simp) (AllReadyH.cons rfl (fun Kt hK => ?_) AllReadyH.nil)
    refine wanted_pos rfl ?_
    refine wp_call (R := fun r w' => r = hv (nd (rt F k) (rt (fun i => F (k + i)) (n - k))) ∧ Below X.heap.size X w') (vs := #[hv (rt F k), hv (rt (fun i => F (k + i)) (n - k))]) rfl (by simp only [List.map_toArray, List.map_cons, List.map_nil]; rfl) (by go_simp) (Calls.mono (node_any (HTX.out.keep HB2.out) (rt_lt HLs.out.lt k) (rt_lt (fun i => HLs.out.lt (k + i)) (n - k))) (fun e w' ⟨he, hb⟩ => ⟨_, he, rfl, K.call HB2.out hb⟩)) (fun r W3 ⟨hr, hb⟩ => ?_)
    subst hr
    have HB3 : Hid (Below X.heap.size X W3) := hb
    clear hb
    refine hK.out _ _ trivial (fun _ => ?_)
    clear hK Kt
    simp only [Act.put, List.getElem_toArray, List.getElem_cons_zero, List.getElem_cons_succ, List.setIfInBounds_toArray, List.set_cons_zero, List.set_cons_succ]
    refine wpAnyH_ready (rs := [9]) (by kernel_rfl) (by simp) (AllReadyH.cons rfl (fun Kt hK => ?_) AllReadyH.nil)
    refine wanted_pos rfl ?_
    obtain ⟨HTH, HST, HB9⟩ := put_h hb0 HH.out.2 HH.out.1 HB3.out (nd (rt F k) (rt (fun i => F (k + i)) (n - k)))
    generalize hs2 : nd (rt F k) (rt (fun i => F (k + i)) (n - k)) = s2 at HTH HST HB9 ⊢
    have HS2 := hide hs2
    clear hs2
    refine wp_store_mid 32 _ _ rfl b0 0 (ab s2 32).toArray (by rfl) (by rfl) HTH.out (inH _) (all_oneCell_toArray (ab_one _ _)) (hK.out _ _ trivial (fun _ => ?_))
    clear hK Kt
    generalize W3.setCells b0 0 (ab s2 32).toArray.toList = Z at HST HB9 ⊢
    refine wpAnyH_done (by kernel_rfl) ?_ _
    refine NoPanic.normal ?_
    go_wp2_with fail
    exact bodyPost_ret (results_cell_mid Tryd.results22 _ _ b0 (ab s2 32) _ rfl (RowB.range HST.out) Tryd.underlying32 rfl (ilH _)) rfl ⟨by (try unfold hv); rw [HS2.out], by first | exact HB9.out | (rw [hb0]; exact HB9.out)⟩
end Go.Proofs.YteplklbpehkdjaaDoor
