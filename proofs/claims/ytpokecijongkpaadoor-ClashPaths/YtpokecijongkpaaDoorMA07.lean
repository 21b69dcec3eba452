/- Layer 16: the document's own Split, Root, Same. Layer 17: the edge of a growing tree (no function of the program is named). Lists of hashes that are told as lists; a slice literal of one hash. Layer 18: paths and proofs (no function of the program is named). Layer 18: the document's own turned and Path. Layer 18: the document's own Path. -/
import Derived.Test.YtpokecijongkpaaDoorMA06
import Derived.Test.YtpokecijongkpaaDoorMA05
import Derived.Great.BuildSlice
namespace Go.Proofs.YtpokecijongkpaaDoor
set_option maxRecDepth 100000
open Go.RowKit
attribute [local go_sem ↓] Go.wp_at_zero Go.wp_at_succ

theorem refSplit_any (w : World) {n : Nat} (hn : n < 4611686018427387904) : Calls Tryd.prog 28 #[.int .i64 (n : Int)] w fun e w' => e = .returned (.int .i64 (sp n : Int)) ∧ w' = w := by
  by_cases h : n < 2
  · have h' : (n : Int) < 2 := by omega
    rw [sp_small h]
    go_enter Tryd.func28, Tryd.ntmps28
    go_wp2_with fail
    go_ret
    exact ⟨rfl, rfl⟩
  · have h' : ¬ ((n : Int) < 2) := by omega
    go_enter Tryd.func28, Tryd.ntmps28
    go_wp2_with fail
    go_loopg [3] (n - 1) (fun g s wr => ∃ k j : Nat, g = n - k ∧ k = 2 ^ j ∧ k < n ∧ s = .int .i64 (k : Int) ∧ wr = w)
    case atStart => exact ⟨1, 0, rfl, rfl, by omega, rfl, rfl⟩
    case round =>
      obtain ⟨k, j, rfl, hk, hkn, rfl, rfl⟩ := hrel
      have hp := Nat.two_pow_pos j
      have hk1 : 1 ≤ k := by omega
      have hw1 : wrap64 ((n : Int) - (k : Int)) = (n : Int) - (k : Int) := by unfold wrap64; omega
      by_cases hl : 2 * k < n
      · have hc : (k : Int) < (n : Int) - (k : Int) := by omega
        have hw2 : wrap64 (2 * (k : Int)) = 2 * (k : Int) := by unfold wrap64; omega
        have HK := hide hk
        clear hk hp
        go_wp2_with fail
        go_roundg (n - 2 * k)
        case measure => omega
        case rel => exact ⟨2 * k, j + 1, rfl, by rw [HK.out, Nat.pow_succ]; omega, hl, by simp, rfl⟩
      · have hc : ¬ ((k : Int) < (n : Int) - (k : Int)) := by omega
        have hs : sp n = k := by rw [hk]; exact sp_of (by omega) (by omega)
        clear hk hp
        go_wp2_with fail
        go_ret
        exact ⟨rfl, rfl⟩
set_option maxRecDepth 100000 in
set_option maxHeartbeats 8000000 in
theorem refRoot_any : ∀ (n : Nat) {w : World} {x : Option Addr} {c : Nat} {F : Nat → Nat → Nat}, HL w x n F → n ≤ c → c ≤ maxLen → n ≤ 1000000 → Calls Tryd.prog 15 #[.slice x n c] w fun e w' => e = .returned (hv (rt F n)) ∧ Below w.heap.size w w' := fun n => by
  induction n using Nat.strongRecOn with
  | ind n ih =>
    intro w x c F hL hc hmx hn
    have HLs := hide hL
    have HC := hide (And.intro hc hmx)
    have HIH := hide ih
    have HN := hide hn
    clear hL hmx ih hc hn
    by_cases h0 : n = 0
    · subst h0
      rw [rt_zero]
      go_enter Tryd.func15, Tryd.ntmps15
      go_upto_region 1 with fail
      refine wp_world (fun X hX => ?_)
      rw [zeros32] at hX
      obtain ⟨hB, hH⟩ := made_h hX
      clear hX
      obtain ⟨b0, hb0⟩ : ∃ b0, w.heap.size = b0 := ⟨_, rfl⟩
      have HS := hide (refSum_hA (w := X) (x := none) (n := 0) (c := 0) (f := fun _ => 0) ⟨fun _ => by omega, Or.inl rfl⟩ (by omega))
      rw [hA_e0] at HS
      rw [hb0] at hB hH ⊢
      have HH := hide (And.intro hB hH)
      clear hB hH
      go_wp2_with fail
      with_reducible refine Calls.mono HS.out ?_
      rintro e W3 ⟨rfl, hb⟩
      obtain ⟨HTH, HST, HB⟩ := put_h hb0 HH.out.2 HH.out.1 hb e0
      clear hb HS HH
      generalize hs2 : e0 = s2 at HTH HST HB ⊢
      have HS2 := hide hs2
      clear hs2
      go_wp2_with (refine wpList_store_mid rfl 24 _ _ rfl b0 0 (ab s2 32).toArray rfl rfl HTH.out (inH _) (all_oneCell_toArray (ab_one _ _)) ?_; generalize W3.setCells b0 0 (ab s2 32).toArray.toList = Z at HST HB ⊢)
      exact bodyPost_ret (results_cell_mid Tryd.results15 _ _ b0 (ab s2 32) _ rfl (RowB.range HST.out) Tryd.underlying24 rfl (ilH _)) rfl ⟨by (try unfold hv); rw [HS2.out], by first | exact HB.out | (rw [hb0]; exact HB.out)⟩
    by_cases h1 : n = 1
    · subst h1
      rw [rt_one]
      rcases HLs.out.at_ with h2 | ⟨b, o, rfl, hr⟩
      · omega
      have hr0 := hr 0 (by omega)
      rw [Nat.zero_mul, Nat.add_zero] at hr0
      go_enter Tryd.func15, Tryd.ntmps15
      go_upto_region 1 with fail
      refine wp_world (fun X hX => ?_)
      rw [zeros32] at hX
      obtain ⟨hB, hH⟩ := made_h hX
      clear hX
      obtain ⟨b0, hb0⟩ : ∃ b0, w.heap.size = b0 := ⟨_, rfl⟩
      have HR := hide (range_keep hr0 hB)
      rw [hb0] at hB hH ⊢
      obtain ⟨HTH, HST, HB⟩ := put_h hb0 hH hB (Below.refl _ X) (F 0)
      clear hB hH hr hr0
      generalize hs2 : F 0 = s2 at HTH HST HB HR ⊢
      have HS2 := hide hs2
      clear hs2
      go_upto_region 4 with fail
      go_wp2_with (first
        | refine wpList_load_h rfl _ rfl rfl HR.out ?_
        | (refine wpList_store_mid rfl 24 _ _ rfl b0 0 (ab s2 32).toArray rfl rfl HTH.out (inH _) (all_oneCell_toArray (ab_one _ _)) ?_; generalize X.setCells b0 0 (ab s2 32).toArray.toList = Z at HST HB ⊢))
      exact bodyPost_ret (results_cell_mid Tryd.results15 _ _ b0 (ab s2 32) _ rfl (RowB.range HST.out) Tryd.underlying24 rfl (ilH _)) rfl ⟨by (try unfold hv); rw [HS2.out], by first | exact HB.out | (rw [hb0]; exact HB.out)⟩
    have h2 : 2 ≤ n := by omega
    rcases HLs.out.at_ with h3 | ⟨b, o, rfl, _⟩
    · omega
    have hi0 : ¬ ((n : Int) = 0) := by omega
    have hi1 : ¬ ((n : Int) = 1) := by omega
    have HSp := hide (fun W => refSplit_any W (n := n) (by have := HN.out; omega))
    rw [rt_more F h2]
    have k1 := sp_lt h2
    have k2 := sp_pos h2
    generalize sp n = k at *
    have hkc : k ≤ c := by have := HC.out.1; omega
    have hkn : k ≤ n := by omega
    have hne : ¬ (c = k) := by have := HC.out.1; omega
    have HA := hide (And.intro k1 (show n - k < n by omega))
    have HKk := hide (And.intro k1 k2)
    clear h0 h1 h2 k1 k2
    go_enter Tryd.func15, Tryd.ntmps15
    go_upto_region 1 with fail
    refine wp_world (fun X hX => ?_)
    rw [zeros32] at hX
    obtain ⟨hB, hH⟩ := made_h hX
    clear hX
    obtain ⟨b0, hb0⟩ : ∃ b0, w.heap.size = b0 := ⟨_, rfl⟩
    have HLX := hide (HLs.out.keep hB)
    rw [hb0] at hB hH ⊢
    have HH := hide (And.intro hB hH)
    clear hB hH
    go_upto_region 6 with (go_at_call 28; refine Calls.mono (HSp.out _) ?_; rintro e' w' ⟨rfl, hw⟩; replace hw := hw.symm; subst hw)
    have HB : Hid (Below X.heap.size X X.drew) := Go.Proofs.YtpokecijongkpaaDoor.K.drew (Below.refl _ X)
    refine wp_region_noPanic ?_
    refine wp_region_held_drew (S := fun _ => True) (by kernel_rfl) trivial (fun hS0 => ?_)
    refine wpAnyH_take (i := 0) (v := .slice (some ⟨b, o, none⟩) n c) rfl (by kernel_rfl) (by kernel_rfl) (by kernel_rfl) (fun _ _ _ h => h) (Or.inl ⟨by rfl, fun w' _ => by go_simp⟩) trivial ?_
    simp only [Act.put, List.getElem_toArray, List.getElem_cons_zero, List.setIfInBounds_toArray, List.set_cons_zero, List.set_cons_succ]
    refine wpAnyH_take (i := 1) (v := .int .i64 (k : Int)) rfl (by kernel_rfl) (by kernel_rfl) (by kernel_rfl) (fun _ _ _ h => h) (Or.inl ⟨by rfl, fun w' _ => by go_simp⟩) trivial ?_
    simp only [Act.put, List.getElem_toArray, List.getElem_cons_zero, List.getElem_cons_succ, List.setIfInBounds_toArray, List.set_cons_zero, List.set_cons_succ]
    refine wpAnyH_take (i := 2) (v := .slice (some ⟨b, o, none⟩) k c) rfl (by kernel_rfl) (by kernel_rfl) (by kernel_rfl) (fun _ _ _ h => h) (Or.inl ⟨by rfl, fun w' _ => by go_simp⟩) trivial ?_
    simp only [Act.put, List.getElem_toArray, List.getElem_cons_zero, List.getElem_cons_succ, List.setIfInBounds_toArray, List.set_cons_zero, List.set_cons_succ]
    refine wpAnyH_take (i := 4) (v := .slice (some ⟨b, o, none⟩) n c) rfl (by kernel_rfl) (by kernel_rfl) (by kernel_rfl) (fun _ _ _ h => h) (Or.inl ⟨by rfl, fun w' _ => by go_simp⟩) trivial ?_
    simp only [Act.put, List.getElem_toArray, List.getElem_cons_zero, List.getElem_cons_succ, List.setIfInBounds_toArray, List.set_cons_zero, List.set_cons_succ]
    refine wpAnyH_take (i := 5) (v := .int .i64 (k : Int)) rfl (by kernel_rfl) (by kernel_rfl) (by kernel_rfl) (fun _ _ _ h => h) (Or.inl ⟨by rfl, fun w' _ => by go_simp⟩) trivial ?_
    simp only [Act.put, List.getElem_toArray, List.getElem_cons_zero, List.getElem_cons_succ, List.setIfInBounds_toArray, List.set_cons_zero, List.set_cons_succ]
    refine wpAnyH_take (i := 6) (v := .slice (some ⟨b, o + k * 32, none⟩) (n - k) (c - k)) rfl (by kernel_rfl) (by kernel_rfl) (by kernel_rfl) (fun _ _ _ h => h) (Or.inl ⟨by rfl, fun w' _ => by go_simp⟩) trivial ?_
    simp only [Act.put, List.getElem_toArray, List.getElem_cons_zero, List.getElem_cons_succ, List.setIfInBounds_toArray, List.set_cons_zero, List.set_cons_succ]
    refine wpAnyH_ready (rs := [3]) (by kernel_rfl) (by simp) (AllReadyH.cons rfl (fun Kt hK => ?_) AllReadyH.nil)
    refine wanted_pos rfl ?_
    refine wp_call (R := fun r w' => r = hv (rt F k) ∧ Below X.heap.size X w') (vs := #[.slice (some ⟨b, o, none⟩) k c]) rfl (by simp only [List.map_toArray, List.map_cons, List.map_nil]; rfl) (by go_simp) (Calls.mono (HIH.out k HA.out.1 ((HLX.out.head k hkn).keep HB.out) hkc HC.out.2 (by have := HN.out; omega)) (fun e w' ⟨he, hb⟩ => ⟨_, he, rfl, K.call HB.out hb⟩)) (fun r W1 ⟨hr, hb⟩ => ?_)
    subst hr
    have HB1 : Hid (Below X.heap.size X W1) := hb
    clear hb
    refine hK.out _ _ trivial (fun _ => ?_)
    clear hK Kt
    simp only [Act.put, List.getElem_toArray, List.getElem_cons_zero, List.getElem_cons_succ, List.setIfInBounds_toArray, List.set_cons_zero, List.set_cons_succ]
    refine wpAnyH_ready (rs := [7]) (by kernel_rfl) (by simp) (AllReadyH.cons rfl (fun Kt hK => ?_) AllReadyH.nil)
    refine wanted_pos rfl ?_
    refine wp_call (R := fun r w' => r = hv (rt (fun i => F (k + i)) (n - k)) ∧ Below X.heap.size X w') (vs := #[.slice (some ⟨b, o + k * 32, none⟩) (n - k) (c - k)]) rfl (by simp only [List.map_toArray, List.map_cons, List.map_nil]; rfl) (by go_simp) (Calls.mono (HIH.out (n - k) HA.out.2 ((HLX.out.tail k).keep HB1.out) (by have := HC.out.1; omega) (by have := HC.out.2; omega) (by have := HN.out; omega)) (fun e w' ⟨he, hb⟩ => ⟨_, he, rfl, K.call HB1.out hb⟩)) (fun r W2 ⟨hr, hb⟩ => ?_)
    subst hr
    have HB2 : Hid (Below X.heap.size X W2) := hb
    clear hb
    refine hK.out _ _ trivial (fun _ => ?_)
    clear hK Kt
    simp only [Act.put, List.getElem_toArray, List.getElem_cons_zero, List.getElem_cons_succ, List.setIfInBounds_toArray, List.set_cons_zero, List.set_cons_succ]
    refine wpAnyH_ready (rs := [8]) (by kernel_rfl) (by simp) (AllReadyH.cons rfl (fun Kt hK => ?_) AllReadyH.nil)
    refine wanted_pos rfl ?_
    refine wp_call (R := fun r w' => r = hv (nd (rt F k) (rt (fun i => F (k + i)) (n - k))) ∧ Below X.heap.size X w') (vs := #[hv (rt F k), hv (rt (fun i => F (k + i)) (n - k))]) rfl (by simp only [List.map_toArray, List.map_cons, List.map_nil]; rfl) (by go_simp) (Calls.mono (refNode_any (rt_lt HLs.out.lt k) (rt_lt (fun i => HLs.out.lt (k + i)) (n - k))) (fun e w' ⟨he, hb⟩ => ⟨_, he, rfl, K.call HB2.out hb⟩)) (fun r W3 ⟨hr, hb⟩ => ?_)
    subst hr
    have HB3 : Hid (Below X.heap.size X W3) := hb
    clear hb
    refine hK.out _ _ trivial (fun _ => ?_)
    clear hK Kt
    simp only [Act.put, List.getElem_toArray, List.getElem_cons_zero, List.getElem_cons_succ, List.setIfInBounds_toArray, List.set_cons_zero, List.set_cons_succ]
    refine wpAnyH_ready (rs := [9]) (by kernel_rfl) (by simp) (AllReadyH.cons rfl (fun Kt hK => ?_) AllReadyH.nil)
    refine wanted_pos rfl ?_
    obtain ⟨HTH, HST, HB9⟩ := put_h hb0 HH.out.2 HH.out.1 HB3.out (nd (rt F k) (rt (fun i => F (k + i)) (n - k)))
    generalize hs2 : nd (rt F k) (rt (fun i => F (k + i)) (n - k)) = s2 at HTH HST HB9 ⊢
    have HS2 := hide hs2
    clear hs2
    refine wp_store_mid 24 _ _ rfl b0 0 (ab s2 32).toArray (by rfl) (by rfl) HTH.out (inH _) (all_oneCell_toArray (ab_one _ _)) (hK.out _ _ trivial (fun _ => ?_))
    clear hK Kt
    generalize W3.setCells b0 0 (ab s2 32).toArray.toList = Z at HST HB9 ⊢
    refine wpAnyH_done (by kernel_rfl) ?_ _
    refine NoPanic.normal ?_
    go_wp2_with fail
    exact bodyPost_ret (results_cell_mid Tryd.results15 _ _ b0 (ab s2 32) _ rfl (RowB.range HST.out) Tryd.underlying24 rfl (ilH _)) rfl ⟨by (try unfold hv); rw [HS2.out], by first | exact HB9.out | (rw [hb0]; exact HB9.out)⟩
end Go.Proofs.YtpokecijongkpaaDoor
namespace Go.Proofs.YtpokecijongkpaaDoor
set_option maxRecDepth 100000
open Go.RowKit

/-- How many hashes parts of such powers of two have. -/
def sz : List Nat → Nat
  | [] => 0
  | e :: es => 2 ^ e + sz es
/-- From the greatest on, no two the same. -/
def Desc : List Nat → Prop
  | [] => True
  | [_] => True
  | e :: x :: es => x < e ∧ Desc (x :: es)
theorem Desc.tail {e : Nat} : ∀ {es : List Nat}, Desc (e :: es) → Desc es
  | [], _ => trivial
  | _ :: _, h => h.2
/-- A stack of parts, whose last one may be as great as the one ahead of it. -/
structure Stk (es : List Nat) (e : Nat) : Prop where
  d : Desc es
  l : ∀ x, es.getLast? = some x → e ≤ x
theorem Desc.snoc : ∀ {es : List Nat} {e : Nat}, Desc es → (∀ x, es.getLast? = some x → e < x) → Desc (es ++ [e])
  | [], _, _, _ => trivial
  | [a], e, _, h => ⟨h a rfl, trivial⟩
  | a :: b :: es, e, h, hl => ⟨h.1, Desc.snoc (es := b :: es) h.2 (fun x hx => hl x (by rw [List.getLast?_cons_cons]; exact hx))⟩
theorem Stk.done {es : List Nat} {e : Nat} (h : Stk es e) (hn : ∀ x, es.getLast? = some x → x ≠ e) : Desc (es ++ [e]) := h.d.snoc (fun x hx => by
  have h1 := h.l x hx
  have h2 := hn x hx
  omega)
def on : Nat → Nat → Nat
  | 0, _ => 0
  | f + 1, n => if n = 0 then 0 else n % 2 + on f (n / 2)
end Go.Proofs.YtpokecijongkpaaDoor
namespace Go.Proofs.YtpokecijongkpaaDoor
set_option maxRecDepth 100000
open Go.RowKit

/-- A list of hashes, as a function. -/
def lF (L : List (Nat → Nat)) : Nat → Nat → Nat := fun i => L.getD i (fun _ => 0)
theorem lF_lt {L : List (Nat → Nat)} (h : ∀ f ∈ L, ∀ j, f j < 256) (i j : Nat) : lF L i j < 256 := by
  unfold lF
  rw [List.getD_eq_getElem?_getD]
  by_cases hi : i < L.length
  · rw [List.getElem?_eq_getElem hi]
    exact h _ (List.getElem_mem hi) j
  · rw [List.getElem?_eq_none (by omega)]
    show 0 < 256
    omega
theorem hc_congr {F G : Nat → Nat → Nat} {n : Nat} (h : ∀ i, i < n → F i = G i) : hc F n = hc G n := by
  unfold hc hfl fl
  congr 1
  apply List.map_congr_left
  intro k hk
  have := List.mem_range.1 hk
  rw [h (k / 32) (by omega)]
theorem OH.congr {w : World} {base n : Nat} {v : Value} {F G : Nat → Nat → Nat} (h : OH w base v n F) (e : ∀ i, i < n → F i = G i) : OH w base v n G := by
  show w.ownsRow base 24 32 v n (hc G n)
  rw [← hc_congr e]
  exact h
/-- One more at the end. -/
theorem OH.snoc {w : World} {base : Nat} {v : Value} {L : List (Nat → Nat)} {f : Nat → Nat} (h : OH w base v (L.length + 1) (hcat (lF L) L.length (fun _ => f))) : OH w base v (L ++ [f]).length (lF (L ++ [f])) := by
  rw [List.length_append]
  refine OH.congr h (fun i hi => ?_)
  unfold hcat lF
  rw [List.getD_eq_getElem?_getD, List.getD_eq_getElem?_getD]
  by_cases hi2 : i < L.length
  · rw [if_pos hi2, List.getElem?_append_left hi2]
  · have h1 : i < L.length + 1 := hi
    have e : i = L.length := by omega
    subst e
    rw [if_neg hi2, List.getElem?_append_right (Nat.le_refl _), Nat.sub_self]
    rfl
end Go.Proofs.YtpokecijongkpaaDoor
namespace Go.Proofs.YtpokecijongkpaaDoor
set_option maxRecDepth 100000
open Go.RowKit

end Go.Proofs.YtpokecijongkpaaDoor
namespace Go.Proofs.YtpokecijongkpaaDoor
set_option maxRecDepth 100000
open Go.RowKit
attribute [local go_sem ↓] Go.wp_at_zero Go.wp_at_succ

end Go.Proofs.YtpokecijongkpaaDoor
namespace Go.Proofs.YtpokecijongkpaaDoor
set_option maxRecDepth 100000
open Go.RowKit
attribute [local go_sem ↓] Go.wp_at_zero Go.wp_at_succ

/-- What is told with no error. -/
def PthP (w : World) (L : List (Nat → Nat)) (e : Ending) (w' : World) : Prop := ∃ v, e = .returned (.tuple #[v, .int .i64 0]) ∧ OH w' w.heap.size v L.length (lF L) ∧ Below w.heap.size w w'
end Go.Proofs.YtpokecijongkpaaDoor
