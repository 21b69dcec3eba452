/- Layer 16: the document's own Split, Root, Same. Layer 17: the edge of a growing tree (no function of the program is named). Lists of hashes that are told as lists; a slice literal of one hash. Layer 18: paths and proofs (no function of the program is named). Layer 18: the document's own turned and Path. Layer 18: the document's own Path. -/
import Derived.Test.YtpokecijongkpaaDoorMC06
import Derived.Test.YtpokecijongkpaaDoorMC05
import Derived.Great.BuildSlice
namespace Go.Proofs.YtpokecijongkpaaDoor
set_option maxRecDepth 100000
open Go.RowKit
attribute [local go_sem ↓] Go.wp_at_zero Go.wp_at_succ

theorem refSplit_any (w : World) {n : Nat} (hn : n < 4611686018427387904) : Calls Tryd.prog 28 #[.int .i64 (n : Int)] w fun e w' => e = .returned (.int .i64 (sp n : Int)) ∧ w' = w := by
  by_cases h : n < 2
  · have h' : (n : Int) < 2 := by omega
    rw [sp_small h]
    go_enter Tryd.func28, Tryd.ntmps28
    go_wp2_with fail
    go_ret
    exact ⟨rfl, rfl⟩
  · have h' : ¬ ((n : Int) < 2) := by omega
    go_enter Tryd.func28, Tryd.ntmps28
    go_wp2_with fail
    go_loopg [3] (n - 1) (fun g s wr => ∃ k j : Nat, g = n - k ∧ k = 2 ^ j ∧ k < n ∧ s = .int .i64 (k : Int) ∧ wr = w)
    case atStart => exact ⟨1, 0, rfl, rfl, by omega, rfl, rfl⟩
    case round =>
      obtain ⟨k, j, rfl, hk, hkn, rfl, rfl⟩ := hrel
      have hp := Nat.two_pow_pos j
      have hk1 : 1 ≤ k := by omega
      have hw1 : wrap64 ((n : Int) - (k : Int)) = (n : Int) - (k : Int) := by unfold wrap64; omega
      by_cases hl : 2 * k < n
      · have hc : (k : Int) < (n : Int) - (k : Int) := by omega
        have hw2 : wrap64 (2 * (k : Int)) = 2 * (k : Int) := by unfold wrap64; omega
        have HK := hide hk
        clear hk hp
        go_wp2_with fail
        go_roundg (n - 2 * k)
        case measure => omega
        case rel => exact ⟨2 * k, j + 1, rfl, by rw [HK.out, Nat.pow_succ]; omega, hl, by simp, rfl⟩
      · have hc : ¬ ((k : Int) < (n : Int) - (k : Int)) := by omega
        have hs : sp n = k := by rw [hk]; exact sp_of (by omega) (by omega)
        clear hk hp
        go_wp2_with fail
        go_ret
        exact ⟨rfl, rfl⟩
set_option maxRecDepth 100000 in
set_option maxHeartbeats 8000000 in
theorem refRoot_any : ∀ (n : Nat) {w : World} {x : Option Addr} {c : Nat} {F : Nat → Nat → Nat}, HL w x n F → n ≤ c → c ≤ maxLen → n ≤ 1000000 → Calls Tryd.prog 15 #[.slice x n c] w fun e w' => e = .returned (hv (rt F n)) ∧ Below w.heap.size w w' := fun n => by
  induction n using Nat.strongRecOn with
  | ind n ih =>
    intro w x c F hL hc hmx hn
    have HLs := hide hL
    have HC := hide (And.intro hc hmx)
    have HIH := hide ih
    have HN := hide hn
    clear hL hmx ih hc hn
    by_cases h0 : n = 0
    · subst h0
      rw [rt_zero]
      go_enter Tryd.func15, Tryd.ntmps15
      go_upto_region 1 with fail
      refine wp_world (fun X hX => ?_)
      rw [zeros32] at hX
      obtain ⟨hB, hH⟩ := made_h hX
      clear hX
      obtain ⟨b0, hb0⟩ : ∃ b0, w.heap.size = b0 := ⟨_, rfl⟩
      have HS := hide (refSum_hA (w := X) (x := none) (n := 0) (c := 0) (f := fun _ => 0) ⟨fun _ => by omega, Or.inl rfl⟩ (by omega))
      rw [hA_e0] at HS
      rw [hb0] at hB hH ⊢
      have HH := hide (And.intro hB hH)
      clear hB hH
      go_wp2_with fail
      with_reducible refine Calls.mono HS.out ?_
      rintro e W3 ⟨rfl, hb⟩
      obtain ⟨HTH, HST, HB⟩ := put_h hb0 HH.out.2 HH.out.1 hb e0
      clear hb HS HH
      generalize hs2 : e0 = s2 at HTH HST HB ⊢
      have HS2 := hide hs2
      clear hs2
      go_wp2_with (refine wpList_store_mid rfl 24 _ _ rfl b0 0 (ab s2 32).toArray rfl rfl HTH.out (inH _) (all_oneCell_toArray (ab_one _ _)) ?_; generalize W3.setCells b0 0 (ab s2 32).toArray.toList = Z at HST HB ⊢)
      exact bodyPost_ret (results_cell_mid Tryd.results15 _ _ b0 (ab s2 32) _ rfl (RowB.range HST.out) Tryd.underlying24 rfl (ilH _)) rfl ⟨by (try unfold hv); rw [HS2.out], by first | exact HB.out | (rw [hb0]; exact HB.out)⟩
    by_cases h1 : n = 1
    · subst h1
      rw [rt_one]
      rcases HLs.out.at_ with h2 | ⟨b, o, rfl, hr⟩
      · omega
      have hr0 := hr 0 (by omega)
      rw [Nat.zero_mul, Nat.add_zero] at hr0
      go_enter Tryd.func15, Tryd.ntmps15
      go_upto_region 1 with fail
      refine wp_world (fun X hX => ?_)
      rw [zeros32] at hX
      obtain ⟨hB, hH⟩ := made_h hX
      clear hX
      obtain ⟨b0, hb0⟩ : ∃ b0, w.heap.size = b0 := ⟨_, rfl⟩
      have HR := hide (range_keep hr0 hB)
      rw [hb0] at hB hH ⊢
      obtain ⟨HTH, HST, HB⟩ := put_h hb0 hH hB (Below.refl _ X) (F 0)
      clear hB hH hr hr0
      generalize hs2 : F 0 = s2 at HTH HST HB HR ⊢
      have HS2 := hide hs2
      clear hs2
      go_upto_region 4 with fail
      go_wp2_with (first
        | refine wpList_load_h rfl _ rfl rfl HR.out ?_
        | (refine wpList_store_mid rfl 24 _ _ rfl b0 0 (ab s2 32).toArray rfl rfl HTH.out (inH _) (all_oneCell_toArray (ab_one _ _)) ?_; generalize X.setCells b0 0 (ab s2 32).toArray.toList = Z at HST HB ⊢))
      exact bodyPost_ret (results_cell_mid Tryd.results15 _ _ b0 (ab s2 32) _ rfl (RowB.range HST.out) Tryd.underlying24 rfl (ilH _)) rfl ⟨by (try unfold hv); rw [HS2.out], by first | exact HB.out | (rw [hb0]; exact HB.out)⟩
    have h2 : 2 ≤ n := by omega
    rcases HLs.out.at_ with h3 | ⟨b, o, rfl, _⟩
    · omega
    have hi0 : ¬ ((n : Int) = 0) := by omega
    have hi1 : ¬ ((n : Int) = 1) := by omega
    have HSp := hide (fun W => refSplit_any W (n := n) (by have := HN.out; omega))
    rw [rt_more F h2]
    have k1 := sp_lt h2
    have k2 := sp_pos h2
    generalize sp n = k at *
    have hkc : k ≤ c := by have := HC.out.1; omega
    have hkn : k ≤ n := by omega
    have hne : ¬ (c = k) := by have := HC.out.1; omega
    have HA := hide (And.intro k1 (show n - k < n by omega))
    have HKk := hide (And.intro k1 k2)
    clear h0 h1 h2 k1 k2
    go_enter Tryd.func15, Tryd.ntmps15
    go_upto_region 1 with fail
    refine wp_world (fun X hX => ?_)
    rw [zeros32] at hX
    obtain ⟨hB, hH⟩ := made_h hX
    clear hX
    obtain ⟨b0, hb0⟩ : ∃ b0, w.heap.size = b0 := ⟨_, rfl⟩
    have HLX := hide (HLs.out.keep hB)
    rw [hb0] at hB hH ⊢
    have HH := hide (And.intro hB hH)
    clear hB hH
    go_upto_region 6 with (go_at_call 28; refine Calls.mono (HSp.out _) ?_; rintro e' w' ⟨rfl, hw⟩; replace hw := hw.symm; subst hw)
    have HB : Hid (Below X.heap.size X X.drew) := Go.Proofs.YtpokecijongkpaaDoor.K.drew (Below.refl _ X)
    refine wp_region_noPanic ?_
    refine wp_region_held_drew (S := fun _ => True) (by kernel_rfl) trivial (fun hS0 => ?_)
    refine wpAnyH_take (i := 0) (v := .slice (some ⟨b, o, none⟩) n c) rfl (by kernel_rfl) (by kernel_rfl) (by kernel_rfl) (fun _ _ _ h => h) (Or.inl ⟨by rfl, fun w' _ => by go_simp⟩) trivial ?_
    simp only [Act.put, List.getElem_toArray, List.getElem_cons_zero, List.setIfInBounds_toArray, List.set_cons_zero, List.set_cons_succ]
    refine wpAnyH_take (i := 1) (v := .int .i64 (k : Int)) rfl (by kernel_rfl) (by kernel_rfl) (by kernel_rfl) (fun _ _ _ h => h) (Or.inl ⟨by rfl, fun w' _ => by go_simp⟩) trivial ?_
    simp only [Act.put, List.getElem_toArray, List.getElem_cons_zero, List.getElem_cons_succ, List.setIfInBounds_toArray, List.set_cons_zero, List.set_cons_succ]
    refine wpAnyH_take (i := 2) (v := .slice (some ⟨b, o, none⟩) k c) rfl (by kernel_rfl) (by kernel_rfl) (by kernel_rfl) (fun _ _ _ h => h) (Or.inl ⟨by rfl, fun w' _ => by go_simp⟩) trivial ?_
    simp only [Act.put, List.getElem_toArray, List.getElem_cons_zero, List.getElem_cons_succ, List.setIfInBounds_toArray, List.set_cons_zero, List.set_cons_succ]
    refine wpAnyH_take (i := 4) (v := .slice (some ⟨b, o, none⟩) n c) rfl (by kernel_rfl) (by kernel_rfl) (by kernel_rfl) (fun _ _ _ h => h) (Or.inl ⟨by rfl, fun w' _ => by go_simp⟩) trivial ?_
    simp only [Act.put, List.getElem_toArray, List.getElem_cons_zero, List.getElem_cons_succ, List.setIfInBounds_toArray, List.set_cons_zero, List.set_cons_succ]
    refine wpAnyH_take (i := 5) (v := .int .i64 (k : Int)) rfl (by kernel_rfl) (by kernel_rfl) (by kernel_rfl) (fun _ _ _ h => h) (Or.inl ⟨by rfl, fun w' _ => by go_simp⟩) trivial ?_
    simp only [Act.put, List.getElem_toArray, List.getElem_cons_zero, List.getElem_cons_succ, List.setIfInBounds_toArray, List.set_cons_zero, List.set_cons_succ]
    refine wpAnyH_take (i := 6) (v := .slice (some ⟨b, o + k * 32, none⟩) (n - k) (c - k)) rfl (by kernel_rfl) (by kernel_rfl) (by kernel_rfl) (fun _ _ _ h => h) (Or.inl ⟨by rfl, fun w' _ => by go_simp⟩) trivial ?_
    simp only [Act.put, List.getElem_toArray, List.getElem_cons_zero, List.getElem_cons_succ, List.setIfInBounds_toArray, List.set_cons_zero, List.set_cons_succ]
    refine wpAnyH_ready (rs := [3]) (by kernel_rfl) (by simp) (AllReadyH.cons rfl (fun Kt hK => ?_) AllReadyH.nil)
    refine wanted_pos rfl ?_
    refine wp_call (R := fun r w' => r = hv (rt F k) ∧ Below X.heap.size X w') (vs := #[.slice (some ⟨b, o, none⟩) k c]) rfl (by simp only [List.map_toArray, List.map_cons, List.map_nil]; rfl) (by go_simp) (Calls.mono (HIH.out k HA.out.1 ((HLX.out.head k hkn).keep HB.out) hkc HC.out.2 (by have := HN.out; omega)) (fun e w' ⟨he, hb⟩ => ⟨_, he, rfl, K.call HB.out hb⟩)) (fun r W1 ⟨hr, hb⟩ => ?_)
    subst hr
    have HB1 : Hid (Below X.heap.size X W1) := hb
    clear hb
    refine hK.out _ _ trivial (fun _ => ?_)
    clear hK Kt
    simp only [Act.put, List.getElem_toArray, List.getElem_cons_zero, List.getElem_cons_succ, List.setIfInBounds_toArray, List.set_cons_zero, List.set_cons_succ]
    refine wpAnyH_ready (rs := [7]) (by kernel_rfl) (by simp) (AllReadyH.cons rfl (fun Kt hK => ?_) AllReadyH.nil)
    refine wanted_pos rfl ?_
    refine wp_call (R := fun r w' => r = hv (rt (fun i => F (k + i)) (n - k)) ∧ Below X.heap.size X w') (vs := #[.slice (some ⟨b, o + k * 32, none⟩) (n - k) (c - k)]) rfl (by simp only [List.map_toArray, List.map_cons, List.map_nil]; rfl) (by go_simp) (Calls.mono (HIH.out (n - k) HA.out.2 ((HLX.out.tail k).keep HB1.out) (by have := HC.out.1; omega) (by have := HC.out.2; omega) (by have := HN.out; omega)) (fun e w' ⟨he, hb⟩ => ⟨_, he, rfl, K.call HB1.out hb⟩)) (fun r W2 ⟨hr, hb⟩ => ?_)
    subst hr
    have HB2 : Hid (Below X.heap.size X W2) := hb
    clear hb
    refine hK.out _ _ trivial (fun _ => ?_)
    clear hK Kt
    simp only [Act.put, List.getElem_toArray, List.getElem_cons_zero, List.getElem_cons_succ, List.setIfInBounds_toArray, List.set_cons_zero, List.set_cons_succ]
    refine wpAnyH_ready (rs := [8]) (by kernel_rfl) (by simp) (AllReadyH.cons rfl (fun Kt hK => ?_) AllReadyH.nil)
    refine wanted_pos rfl ?_
    refine wp_call (R := fun r w' => r = hv (nd (rt F k) (rt (fun i => F (k + i)) (n - k))) ∧ Below X.heap.size X w') (vs := #[hv (rt F k), hv (rt (fun i => F (k + i)) (n - k))]) rfl (by simp only [List.map_toArray, List.map_cons, List.map_nil]; rfl) (by go_simp) (Calls.mono (refNode_any (rt_lt HLs.out.lt k) (rt_lt (fun i => HLs.out.lt (k + i)) (n - k))) (fun e w' ⟨he, hb⟩ => ⟨_, he, rfl, K.call HB2.out hb⟩)) (fun r W3 ⟨hr, hb⟩ => ?_)
    subst hr
    have HB3 : Hid (Below X.heap.size X W3) := hb
    clear hb
    refine hK.out _ _ trivial (fun _ => ?_)
    clear hK Kt
    simp only [Act.put, List.getElem_toArray, List.getElem_cons_zero, List.getElem_cons_succ, List.setIfInBounds_toArray, List.set_cons_zero, List.set_cons_succ]
    refine wpAnyH_ready (rs := [9]) (by kernel_rfl) (by simp) (AllReadyH.cons rfl (fun Kt hK => ?_) AllReadyH.nil)
    refine wanted_pos rfl ?_
    obtain ⟨HTH, HST, HB9⟩ := put_h hb0 HH.out.2 HH.out.1 HB3.out (nd (rt F k) (rt (fun i => F (k + i)) (n - k)))
    generalize hs2 : nd (rt F k) (rt (fun i => F (k + i)) (n - k)) = s2 at HTH HST HB9 ⊢
    have HS2 := hide hs2
    clear hs2
    refine wp_store_mid 24 _ _ rfl b0 0 (ab s2 32).toArray (by rfl) (by rfl) HTH.out (inH _) (all_oneCell_toArray (ab_one _ _)) (hK.out _ _ trivial (fun _ => ?_))
    clear hK Kt
    generalize W3.setCells b0 0 (ab s2 32).toArray.toList = Z at HST HB9 ⊢
    refine wpAnyH_done (by kernel_rfl) ?_ _
    refine NoPanic.normal ?_
    go_wp2_with fail
    exact bodyPost_ret (results_cell_mid Tryd.results15 _ _ b0 (ab s2 32) _ rfl (RowB.range HST.out) Tryd.underlying24 rfl (ilH _)) rfl ⟨by (try unfold hv); rw [HS2.out], by first | exact HB9.out | (rw [hb0]; exact HB9.out)⟩
end Go.Proofs.YtpokecijongkpaaDoor
namespace Go.Proofs.YtpokecijongkpaaDoor
set_option maxRecDepth 100000
open Go.RowKit

/-- How many hashes parts of such powers of two have. -/
def sz : List Nat → Nat
  | [] => 0
  | e :: es => 2 ^ e + sz es
/-- From the greatest on, no two the same. -/
def Desc : List Nat → Prop
  | [] => True
  | [_] => True
  | e :: x :: es => x < e ∧ Desc (x :: es)
theorem Desc.tail {e : Nat} : ∀ {es : List Nat}, Desc (e :: es) → Desc es
  | [], _ => trivial
  | _ :: _, h => h.2
/-- A stack of parts, whose last one may be as great as the one ahead of it. -/
structure Stk (es : List Nat) (e : Nat) : Prop where
  d : Desc es
  l : ∀ x, es.getLast? = some x → e ≤ x
theorem Desc.snoc : ∀ {es : List Nat} {e : Nat}, Desc es → (∀ x, es.getLast? = some x → e < x) → Desc (es ++ [e])
  | [], _, _, _ => trivial
  | [a], e, _, h => ⟨h a rfl, trivial⟩
  | a :: b :: es, e, h, hl => ⟨h.1, Desc.snoc (es := b :: es) h.2 (fun x hx => hl x (by rw [List.getLast?_cons_cons]; exact hx))⟩
theorem Stk.done {es : List Nat} {e : Nat} (h : Stk es e) (hn : ∀ x, es.getLast? = some x → x ≠ e) : Desc (es ++ [e]) := h.d.snoc (fun x hx => by
  have h1 := h.l x hx
  have h2 := hn x hx
  omega)
def on : Nat → Nat → Nat
  | 0, _ => 0
  | f + 1, n => if n = 0 then 0 else n % 2 + on f (n / 2)
end Go.Proofs.YtpokecijongkpaaDoor
namespace Go.Proofs.YtpokecijongkpaaDoor
set_option maxRecDepth 100000
open Go.RowKit

/-- A list of hashes, as a function. -/
def lF (L : List (Nat → Nat)) : Nat → Nat → Nat := fun i => L.getD i (fun _ => 0)
theorem lF_lt {L : List (Nat → Nat)} (h : ∀ f ∈ L, ∀ j, f j < 256) (i j : Nat) : lF L i j < 256 := by
  unfold lF
  rw [List.getD_eq_getElem?_getD]
  by_cases hi : i < L.length
  · rw [List.getElem?_eq_getElem hi]
    exact h _ (List.getElem_mem hi) j
  · rw [List.getElem?_eq_none (by omega)]
    show 0 < 256
    omega
theorem hc_congr {F G : Nat → Nat → Nat} {n : Nat} (h : ∀ i, i < n → F i = G i) : hc F n = hc G n := by
  unfold hc hfl fl
  congr 1
  apply List.map_congr_left
  intro k hk
  have := List.mem_range.1 hk
  rw [h (k / 32) (by omega)]
theorem OH.congr {w : World} {base n : Nat} {v : Value} {F G : Nat → Nat → Nat} (h : OH w base v n F) (e : ∀ i, i < n → F i = G i) : OH w base v n G := by
  show w.ownsRow base 24 32 v n (hc G n)
  rw [← hc_congr e]
  exact h
/-- One more at the end. -/
theorem OH.snoc {w : World} {base : Nat} {v : Value} {L : List (Nat → Nat)} {f : Nat → Nat} (h : OH w base v (L.length + 1) (hcat (lF L) L.length (fun _ => f))) : OH w base v (L ++ [f]).length (lF (L ++ [f])) := by
  rw [List.length_append]
  refine OH.congr h (fun i hi => ?_)
  unfold hcat lF
  rw [List.getD_eq_getElem?_getD, List.getD_eq_getElem?_getD]
  by_cases hi2 : i < L.length
  · rw [if_pos hi2, List.getElem?_append_left hi2]
  · have h1 : i < L.length + 1 := hi
    have e : i = L.length := by omega
    subst e
    rw [if_neg hi2, List.getElem?_append_right (Nat.le_refl _), Nat.sub_self]
    rfl
theorem hl_one (w : World) (f : Nat → Nat) (hf : ∀ i, f i < 256) : HL (w.alloc (.cells (ab f 32).toArray 24)) (some ⟨w.heap.size, 0, none⟩) 1 (fun _ => f) :=
  ⟨fun _ => hf, Or.inr ⟨_, _, rfl, fun i hi => by
    obtain rfl : i = 0 := by omega
    exact RowB.range (RowB.made w 24 32 f _ rfl)⟩⟩
set_option maxRecDepth 100000 in
theorem fillH (f : Nat → Nat) (z : Value) (hz : z = .agg (ab (fun _ => 0) 32).toArray) : Instr.fill (fun i => some (i * 32, 32)) ((Array.range (1 * 32)).map (z.cells[· % z.cells.size]!)) [(0, .agg (ab f 32).toArray)] = some (ab f 32).toArray := by
  subst hz
  kernel_rfl
theorem wpList_oneH {ops : Array Oper} {rest : List Oper} {op : Oper} {a : Act} {w : World} {Q : Exit → Act → World → Prop} {x : Operand} {f : Nat → Nat} (hg : op.guard = none) (ho : op.op = .buildSlice 22 1 #[(0, x)]) (hx : a.eval x = .agg (ab f 32).toArray) (hf : ∀ i, f i < 256)
    (h : ∀ p W', p = w.heap.size → p < W'.heap.size → HL W' (some ⟨p, 0, none⟩) 1 (fun _ => f) → Below w.heap.size w W' → wpList Tryd.prog ops Q rest (a.put op.dst (.slice (some ⟨p, 0, none⟩) 1 1)) W') : wpList Tryd.prog ops Q (op :: rest) a w := by
  obtain ⟨ie, hi, hz, hs, _⟩ := info_parts infoHv
  refine wpList_buildSlice hg 22 24 1 #[(0, x)] ho (ab f 32).toArray ie _ Tryd.underlying22 hi hz (by rw [hs]; decide) (by rw [hs]; decide) ?_ (h w.heap.size _ rfl (by simp) (hl_one w f hf) (K.alloc (Below.refl _ _) _))
  rw [hs]
  simp only [List.map_toArray, List.map_cons, List.map_nil, hx]
  exact fillH f _ rfl
end Go.Proofs.YtpokecijongkpaaDoor
namespace Go.Proofs.YtpokecijongkpaaDoor
set_option maxRecDepth 100000
open Go.RowKit

/-- The path of the m-th of n hashes. -/
def pth (F : Nat → Nat → Nat) (n m : Nat) : List (Nat → Nat) :=
  if _h : n < 2 then [] else if m < sp n then pth F (sp n) m ++ [rt (fun i => F (sp n + i)) (n - sp n)] else pth (fun i => F (sp n + i)) (n - sp n) (m - sp n) ++ [rt F (sp n)]
termination_by n
decreasing_by
  · exact sp_lt (by omega)
  · have := sp_pos (n := n) (by omega)
    omega
theorem pth_small (F : Nat → Nat → Nat) {n : Nat} (m : Nat) (h : n < 2) : pth F n m = [] := by rw [pth, dif_pos h]
theorem pth_low (F : Nat → Nat → Nat) {n m : Nat} (h : 2 ≤ n) (hm : m < sp n) : pth F n m = pth F (sp n) m ++ [rt (fun i => F (sp n + i)) (n - sp n)] := by rw [pth, dif_neg (by omega), if_pos hm]
theorem pth_up (F : Nat → Nat → Nat) {n m : Nat} (h : 2 ≤ n) (hm : ¬ m < sp n) : pth F n m = pth (fun i => F (sp n + i)) (n - sp n) (m - sp n) ++ [rt F (sp n)] := by rw [pth, dif_neg (by omega), if_neg hm]
/-- The proof of the first m of n hashes. -/
def prf (F : Nat → Nat → Nat) (n m : Nat) (b : Bool) : List (Nat → Nat) :=
  if _h : n ≤ m ∨ n < 2 then (if b then [] else [rt F n]) else if m ≤ sp n then prf F (sp n) m b ++ [rt (fun i => F (sp n + i)) (n - sp n)] else prf (fun i => F (sp n + i)) (n - sp n) (m - sp n) false ++ [rt F (sp n)]
termination_by n
decreasing_by
  · exact sp_lt (by omega)
  · have := sp_pos (n := n) (by omega)
    omega
theorem prf_end (F : Nat → Nat → Nat) {n m : Nat} (b : Bool) (h : n ≤ m ∨ n < 2) : prf F n m b = if b then [] else [rt F n] := by rw [prf, dif_pos h]
theorem prf_low (F : Nat → Nat → Nat) {n m : Nat} (b : Bool) (h : m < n) (h2 : 2 ≤ n) (hm : m ≤ sp n) : prf F n m b = prf F (sp n) m b ++ [rt (fun i => F (sp n + i)) (n - sp n)] := by rw [prf, dif_neg (by omega), if_pos hm]
theorem prf_up (F : Nat → Nat → Nat) {n m : Nat} (b : Bool) (h : m < n) (h2 : 2 ≤ n) (hm : ¬ m ≤ sp n) : prf F n m b = prf (fun i => F (sp n + i)) (n - sp n) (m - sp n) false ++ [rt F (sp n)] := by rw [prf, dif_neg (by omega), if_neg hm]
end Go.Proofs.YtpokecijongkpaaDoor
namespace Go.Proofs.YtpokecijongkpaaDoor
set_option maxRecDepth 100000
open Go.RowKit
attribute [local go_sem ↓] Go.wp_at_zero Go.wp_at_succ

theorem rev_take {L : List (Nat → Nat)} {k i : Nat} (hi : i + k + 1 = L.length) : L.reverse.take k ++ [lF L i] = L.reverse.take (k + 1) := by
  have h : L.reverse[k]? = some (lF L i) := by
    rw [List.getElem?_reverse (by omega), show L.length - 1 - k = i by omega]
    unfold lF
    rw [List.getD_eq_getElem?_getD, List.getElem?_eq_getElem (by omega)]
    rfl
  rw [List.take_add_one, h]
  rfl
/-- What a list of hashes that is told is. -/
def TuP (w : World) (L : List (Nat → Nat)) (e : Ending) (w' : World) : Prop := ∃ v, e = .returned v ∧ OH w' w.heap.size v L.length (lF L) ∧ Below w.heap.size w w'
structure TuR (w wr : World) (L : List (Nat → Nat)) (k : Nat) (s3 : Value) : Prop where
  b : Below w.heap.size w wr
  o : OH wr w.heap.size s3 (L.reverse.take k).length (lF (L.reverse.take k))
set_option maxRecDepth 100000 in
set_option maxHeartbeats 4000000 in
theorem turned_any {w : World} {x : Option Addr} {c n : Nat} {L : List (Nat → Nat)} (hx : HL w x n (lF L)) (hl : L.length = n) (hn : n ≤ 100000) :
    Calls Tryd.prog 29 #[.slice x n c] w (TuP w L.reverse) := by
  have HX := hide hx
  have HN := hide (And.intro hn hl)
  have HE0 : Hid (TuR w w L 0 (.slice none 0 0)) := ⟨Below.refl _ _, OH.nil _ _ _⟩
  have hw0 : wrap64 ((n : Int) - 1) = (n : Int) - 1 := by unfold wrap64; omega
  clear hx hn hl
  go_enter Tryd.func29, Tryd.ntmps29
  go_wp2_with fail
  go_loopg [3, 4] n (fun g' s3 s4 wr => ∃ (k : Nat) (z : Int), g' = n - k ∧ k ≤ n ∧ z = (n : Int) - 1 - (k : Int) ∧ s4 = .int .i64 z ∧ TuR w wr L k s3)
  case atStart => exact ⟨0, _, rfl, Nat.zero_le _, by omega, rfl, HE0.out⟩
  case round =>
    clear HE0 hw0
    obtain ⟨k, z, rfl, hk, hz, rfl, hT⟩ := hrel
    have HT := hide hT
    clear hT
    by_cases hlt : k < n
    · obtain ⟨i, hi⟩ : ∃ i : Nat, z = (i : Int) := ⟨z.toNat, by omega⟩
      subst hi
      have hin : i + k + 1 = n := by omega
      have hi0 : ¬ ((i : Int) < 0) := by omega
      have hi1 : (0 : Int) ≤ (i : Int) := by omega
      have hi2 : (i : Int) < (n : Int) := by omega
      have hw1 : wrap64 ((i : Int) - 1) = (i : Int) - 1 := by unfold wrap64; have := HN.out.1; omega
      rcases HX.out.at_ with h5 | ⟨b, o, rfl, hr⟩
      · omega
      have HR := hide (range_keep (hr i (by omega)) HT.out.b)
      have HFl : Hid (∀ j, lF L i j < 256) := HX.out.lt i
      have HIk := hide (And.intro hin hlt)
      obtain ⟨s1, hs1⟩ : ∃ s1, s1 = lF L i := ⟨_, rfl⟩
      rw [← hs1] at HR HFl
      have HS1 := hide hs1
      have hb3 := HT.out.b.size
      have hlk : (L.reverse.take k).length = k := by rw [List.length_take, List.length_reverse, HN.out.2]; omega
      clear hr hs1 hz hin
      go_upto_region 4 with (first
        | refine wpList_load_h rfl _ rfl rfl HR.out ?_
        | (refine wpList_oneH rfl rfl (by rfl) HFl.out ?_; intro q W4 hq4 hl4 ho4 hb4; have HO4 := hide (HT.out.o.keep hb4); have HL4 := hide ho4; have HB4 := hide (K.call HT.out.b hb4); clear hq4 hl4 ho4 hb4)
        | (at_builtin; refine wpList_appH rfl _ _ rfl rfl HO4.out rfl HL4.out (by have := HN.out.1; omega) HB4.out.size ?_; intro v5 W5 ho5 hg5; have HB5 := hide (OH.below HO4.out HB4.out hg5); have HO5 := hide (OH.snoc ho5); clear ho5 hg5))
      go_wp2_with fail
      go_roundg (n - (k + 1))
      case measure => have := HIk.out.2; omega
      case rel => exact ⟨k + 1, _, rfl, HIk.out.2, by have := HIk.out.1; omega, rfl, HB5.out, by
        have h5 := HO5.out
        rw [HS1.out, rev_take (by rw [HN.out.2]; exact HIk.out.1)] at h5
        exact h5⟩
    · have h0 : k = n := by omega
      have hi1 : ¬ ((0 : Int) ≤ z) := by omega
      have HK := hide h0
      clear hz h0
      go_wp2_with fail
      go_ret
      have hO := HT.out.o
      rw [HK.out, List.take_of_length_le (by rw [List.length_reverse, HN.out.2]; exact Nat.le_refl _)] at hO
      exact ⟨_, rfl, hO, HT.out.b⟩
end Go.Proofs.YtpokecijongkpaaDoor
namespace Go.Proofs.YtpokecijongkpaaDoor
set_option maxRecDepth 100000
open Go.RowKit
attribute [local go_sem ↓] Go.wp_at_zero Go.wp_at_succ

/-- While a path is told: the hashes from p on, q of them, are left, of which the m-th is asked; acc is told. -/
structure PaR (w wr : World) (n p q m c' : Nat) (F : Nat → Nat → Nat) (y : Option Addr) (acc : List (Nat → Nat)) (s6 : Value) (R : List (Nat → Nat)) (T : List (Nat → Nat)) : Prop where
  k : Below w.heap.size w wr
  e : R = T ++ acc.reverse
  o : OH wr w.heap.size s6 acc.length (lF acc)
  h : HL w y q (fun i => F (p + i))
  c1 : q ≤ c'
  c2 : c' ≤ maxLen
  ln : acc.length + q ≤ n
  mq : m < q
  al : ∀ f ∈ acc, ∀ j, f j < 256
theorem shift2 (F : Nat → Nat → Nat) (p k : Nat) : (fun i => F (p + (k + i))) = fun i => F (p + k + i) := by funext i; rw [Nat.add_assoc]
theorem PaR.next {w wr w1 : World} {n p q m c' p2 q2 m2 c2 : Nat} {F : Nat → Nat → Nat} {y y2 : Option Addr} {acc : List (Nat → Nat)} {s6 s7 : Value} {R T T2 : List (Nat → Nat)} {f : Nat → Nat} (h : PaR w wr n p q m c' F y acc s6 R T) (hB : Below w.heap.size w w1) (ho : OH w1 w.heap.size s7 (acc ++ [f]).length (lF (acc ++ [f]))) (hT : T = T2 ++ [f]) (hh : HL w y2 q2 (fun i => F (p2 + i))) (h1 : q2 ≤ c2) (h2 : c2 ≤ maxLen) (hq : q2 < q) (hm : m2 < q2) (hf : ∀ j, f j < 256) : PaR w w1 n p2 q2 m2 c2 F y2 (acc ++ [f]) s7 R T2 :=
  ⟨hB, by rw [h.e, hT, List.reverse_append, List.append_assoc]; rfl, ho, hh, h1, h2, by rw [List.length_append]; have := h.ln; show acc.length + 1 + q2 ≤ n; omega, hm, fun g hg => by
    rcases List.mem_append.1 hg with e | e
    · exact h.al g e
    · rw [List.mem_singleton.1 e]; exact hf⟩
theorem OH.le {w : World} {base base' n : Nat} {v : Value} {F : Nat → Nat → Nat} (h : OH w base v n F) (hb : base' ≤ base) : OH w base' v n F := by
  refine ⟨h.1, ?_⟩
  rcases h.2 with h0 | ⟨g, cap, cur, e, hg, r⟩
  · exact Or.inl h0
  · exact Or.inr ⟨g, cap, cur, e, Nat.le_trans hb hg, r⟩
/-- What is told with no error. -/
def PthP (w : World) (L : List (Nat → Nat)) (e : Ending) (w' : World) : Prop := ∃ v, e = .returned (.tuple #[v, .int .i64 0]) ∧ OH w' w.heap.size v L.length (lF L) ∧ Below w.heap.size w w'
set_option maxRecDepth 100000 in
set_option maxHeartbeats 4000000 in
theorem refPath_any {w : World} {x : Option Addr} {n c m : Nat} {F : Nat → Nat → Nat} (hx : HL w x n F) (hc : n ≤ c) (hmx : c ≤ maxLen) (hn : n ≤ 100000) (hm : m < n) :
    Calls Tryd.prog 13 #[.slice x n c, .int .i64 (m : Int)] w (PthP w (pth F n m)) := by
  have HN := hide hn
  have HF : Hid (∀ i j, F i j < 256) := hx.lt
  have e0 : (fun i => F (0 + i)) = F := by funext i; rw [Nat.zero_add]
  have HE0 : Hid (PaR w w n 0 n m c F x [] (.slice none 0 0) (pth F n m) (pth (fun i => F (0 + i)) n m)) := ⟨Below.refl _ _, by rw [e0, List.reverse_nil, List.append_nil], OH.nil _ _ _, by rw [e0]; exact hx, hc, hmx, by show 0 + n ≤ n; omega, hm, fun f hf => by cases hf⟩
  have hq1 : ¬ ((m : Int) < 0) := by omega
  have hq2 : (m : Int) < (n : Int) := by omega
  clear hx hc hmx hn hm e0
  go_enter Tryd.func13, Tryd.ntmps13
  go_wp2_with fail
  go_loopg [0, 1, 6] n (fun g' s0 s1 s6 wr => ∃ (p q m' c' : Nat) (y : Option Addr) (acc : List (Nat → Nat)), q = g' ∧ s0 = .slice y q c' ∧ s1 = .int .i64 (m' : Int) ∧ PaR w wr n p q m' c' F y acc s6 (pth F n m) (pth (fun i => F (p + i)) q m'))
  case atStart => exact ⟨0, n, m, c, x, [], rfl, rfl, rfl, HE0.out⟩
  case round =>
    clear HE0
    obtain ⟨p, q, m', c', y, acc, rfl, rfl, rfl, hE⟩ := hrel
    have HE := hide hE
    clear hE
    have hb0 := HE.out.k.size
    by_cases hlt : 2 ≤ q
    · have hqI : (1 : Int) < (q : Int) := by omega
      have hqn : q ≤ 100000 := by have := HE.out.ln; have := HN.out; omega
      rcases HE.out.h.at_ with h5 | ⟨b, o, rfl, _⟩
      · omega
      have HSp := hide (fun W => refSplit_any W (n := q) (by omega))
      have k1 := sp_lt hlt
      have k2 := sp_pos hlt
      by_cases hmk : m' < sp q
      · have hT := pth_low (fun i => F (p + i)) hlt hmk
        generalize sp q = k at *
        rw [shift2] at hT
        have hkc : k ≤ c' := by have := HE.out.c1; omega
        have hne : ¬ (c' = k) := by have := HE.out.c1; omega
        have hI1 : (m' : Int) < (k : Int) := by omega
        have hI2 : (k : Int) ≤ (q : Int) := by omega
        have hTl := HE.out.h.tail k
        rw [shift2] at hTl
        obtain ⟨s1, hs1⟩ : ∃ s1, s1 = rt (fun i => F (p + k + i)) (q - k) := ⟨_, rfl⟩
        have HRt := hide (refRoot_any (q - k) (c := c' - k) (hTl.keep HE.out.k) (by have := HE.out.c1; omega) (by have := HE.out.c2; omega) (by omega))
        have HFl : Hid (∀ i, s1 i < 256) := by rw [hs1]; exact rt_lt (fun i => HF.out (p + k + i)) _
        unfold hv at HRt
        rw [← hs1] at HRt hT
        have HT := hide hT
        have HK := hide (And.intro k1 (And.intro k2 (And.intro hkc hmk)))
        clear hT hTl hs1 k1 k2 hmk
        go_wp2_with fail
        with_reducible refine Calls.mono (HSp.out _) ?_
        rintro e W3 ⟨rfl, hw⟩
        replace hw := hw.symm
        subst hw
        go_wp2_with fail
        with_reducible refine Calls.mono HRt.out ?_
        rintro e W3 ⟨rfl, hb⟩
        have HB3 := hide (K.call HE.out.k hb)
        have HO3 := hide (HE.out.o.keep hb)
        clear hb HRt
        go_upto_region 8 with (first
          | (refine wpList_oneH rfl rfl (by rfl) HFl.out ?_; intro q4 W4 hq4 hl4 ho4 hb4; have HO4 := hide (HO3.out.keep hb4); have HL4 := hide ho4; have HB4 := hide (K.call HB3.out hb4); clear hq4 hl4 ho4 hb4)
          | (at_builtin; refine wpList_appH rfl _ _ rfl rfl HO4.out rfl HL4.out (by have := HE.out.ln; have := HN.out; omega) HB4.out.size ?_; intro v5 W5 ho5 hg5; have HB5 := hide (OH.below HO4.out HB4.out hg5); have HO5 := hide (OH.snoc ho5); clear ho5 hg5))
        go_wp2_with fail
        go_roundg k
        case measure => exact HK.out.1
        case rel => exact ⟨p, k, m', c', some ⟨b, o, none⟩, acc ++ [s1], rfl, rfl, rfl, HE.out.next HB5.out HO5.out HT.out (HE.out.h.head k (Nat.le_of_lt HK.out.1)) HK.out.2.2.1 HE.out.c2 HK.out.1 HK.out.2.2.2 HFl.out⟩
      · have hT := pth_up (fun i => F (p + i)) hlt hmk
        generalize sp q = k at *
        rw [shift2] at hT
        have hkc : k ≤ c' := by have := HE.out.c1; omega
        have hne : ¬ (c' = k) := by have := HE.out.c1; omega
        have hI1 : ¬ ((m' : Int) < (k : Int)) := by omega
        have hI2 : (k : Int) ≤ (q : Int) := by omega
        have hmq := HE.out.mq
        have hw1 : wrap64 ((m' : Int) - (k : Int)) = ((m' - k : Nat) : Int) := by unfold wrap64; omega
        have hTl := HE.out.h.tail k
        rw [shift2] at hTl
        obtain ⟨s1, hs1⟩ : ∃ s1, s1 = rt (fun i => F (p + i)) k := ⟨_, rfl⟩
        have HRt := hide (refRoot_any k (c := c') ((HE.out.h.head k (Nat.le_of_lt k1)).keep HE.out.k) hkc HE.out.c2 (by omega))
        have HFl : Hid (∀ i, s1 i < 256) := by rw [hs1]; exact rt_lt (fun i => HF.out (p + i)) _
        unfold hv at HRt
        rw [← hs1] at HRt hT
        have HT := hide hT
        have HTl := hide hTl
        have HK := hide (And.intro k1 (And.intro k2 (And.intro hkc (And.intro hmk hmq))))
        clear hT hTl hs1 k1 k2 hmk hmq
        go_wp2_with fail
        with_reducible refine Calls.mono (HSp.out _) ?_
        rintro e W3 ⟨rfl, hw⟩
        replace hw := hw.symm
        subst hw
        go_wp2_with fail
        with_reducible refine Calls.mono HRt.out ?_
        rintro e W3 ⟨rfl, hb⟩
        have HB3 := hide (K.call HE.out.k hb)
        have HO3 := hide (HE.out.o.keep hb)
        clear hb HRt
        go_upto_region 10 with (first
          | (refine wpList_oneH rfl rfl (by rfl) HFl.out ?_; intro q4 W4 hq4 hl4 ho4 hb4; have HO4 := hide (HO3.out.keep hb4); have HL4 := hide ho4; have HB4 := hide (K.call HB3.out hb4); clear hq4 hl4 ho4 hb4)
          | (at_builtin; refine wpList_appH rfl _ _ rfl rfl HO4.out rfl HL4.out (by have := HE.out.ln; have := HN.out; omega) HB4.out.size ?_; intro v5 W5 ho5 hg5; have HB5 := hide (OH.below HO4.out HB4.out hg5); have HO5 := hide (OH.snoc ho5); clear ho5 hg5))
        go_wp2_with fail
        go_roundg (q - k)
        case measure => have := HK.out; omega
        case rel => exact ⟨p + k, q - k, m' - k, c' - k, some ⟨b, o + k * 32, none⟩, acc ++ [s1], rfl, rfl, by rw [hw1], HE.out.next HB5.out HO5.out HT.out HTl.out (by have := HE.out.c1; omega) (by have := HE.out.c2; omega) (by have := HK.out; omega) (by have := HK.out; omega) HFl.out⟩
    · have hqI : ¬ ((1 : Int) < (q : Int)) := by omega
      have hR := HE.out.e
      rw [pth_small (fun i => F (p + i)) m' (by omega), List.nil_append] at hR
      have HR := hide hR
      obtain ⟨a6, c6, e6, _, _⟩ := OH.form HE.out.o
      have hO := HE.out.o
      subst e6
      have HTu := hide (turned_any (c := c6) (hO.hl (fun i j => lF_lt HE.out.al i j)) rfl (by have := HE.out.ln; have := HN.out; omega))
      clear hR hO
      go_wp2_with fail
      with_reducible refine Calls.mono HTu.out ?_
      rintro e W3 htp
      obtain ⟨v3, rfl, ho3, hb3⟩ := htp
      have HO3 := hide ho3
      have HB3 := hide hb3
      clear ho3 hb3
      go_wp2_with fail
      go_ret2
      exact ⟨v3, rfl, by rw [HR.out]; exact OH.le HO3.out hb0, K.call HE.out.k HB3.out⟩
end Go.Proofs.YtpokecijongkpaaDoor
