/- Layer 18: the program's own Proof. -/
import Derived.Test.YteplklbpehkdjaaDoorP18
namespace Go.Proofs.YteplklbpehkdjaaDoor
set_option maxRecDepth 100000
open Go.RowKit
attribute [local go_sem ↓] Go.wp_at_zero Go.wp_at_succ

/-- A row of one hash, as it is made. -/
theorem oh_one (w : World) {base : Nat} (hb : base ≤ w.heap.size) (f : Nat → Nat) : OH (w.alloc (.cells (ab f 32).toArray 32)) base (.slice (some ⟨w.heap.size, 0, none⟩) 1 1) [f].length (lF [f]) := by
  have e : ab f 32 = hc (lF [f]) 1 := by
    apply List.ext_getElem?
    intro i
    rcases Nat.lt_or_ge i 32 with h | h
    · rw [ab_at f h, hc_get _ (n := 1) (by omega), show i / 32 = 0 by omega, show i % 32 = i by omega]
      rfl
    · rw [List.getElem?_eq_none (by rw [ab_len]; exact h), List.getElem?_eq_none (by rw [hc_len]; omega)]
  refine ⟨hc_len _ _, Or.inr ⟨w.heap.size, 1, (ab f 32).toArray, rfl, hb, heap_alloc_new w _, Nat.le_refl _, by unfold maxLen; omega, by simp [ab_len], ?_⟩⟩
  show List.take (1 * 32) (ab f 32) = hc (lF [f]) 1
  rw [← e, List.take_of_length_le (by rw [ab_len]; omega)]
theorem wpList_oneO {ops : Array Oper} {rest : List Oper} {op : Oper} {a : Act} {w : World} {Q : Exit → Act → World → Prop} {x : Operand} {f : Nat → Nat} {base : Nat} (hg : op.guard = none) (ho : op.op = .buildSlice 22 1 #[(0, x)]) (hx : a.eval x = .agg (ab f 32).toArray) (hb : base ≤ w.heap.size)
    (h : ∀ p W', OH W' base (.slice (some ⟨p, 0, none⟩) 1 1) [f].length (lF [f]) → Below w.heap.size w W' → wpList Tryd.prog ops Q rest (a.put op.dst (.slice (some ⟨p, 0, none⟩) 1 1)) W') : wpList Tryd.prog ops Q (op :: rest) a w := by
  obtain ⟨ie, hi, hz, hs, _⟩ := info_parts infoHv
  refine wpList_buildSlice hg 22 32 1 #[(0, x)] ho (ab f 32).toArray ie _ Tryd.underlying22 hi hz (by rw [hs]; decide) (by rw [hs]; decide) ?_ (h w.heap.size _ (oh_one w hb f) (K.alloc (Below.refl _ _) _))
  rw [hs]
  simp only [List.map_toArray, List.map_cons, List.map_nil, hx]
  exact fillH f _ rfl
set_option maxRecDepth 100000 in
set_option maxHeartbeats 8000000 in
theorem proof_n : ∀ (n : Nat) {w : World} {x : Option Addr} {c m : Nat} {b0 : Bool} {F : Nat → Nat → Nat}, Tab w → HL w x n F → n ≤ c → c ≤ maxLen → n ≤ 100000 → 1 ≤ m → m ≤ n → Calls Tryd.prog 18 #[.slice x n c, .int .i64 (m : Int), .bool b0] w (RwP w (prf F n m b0)) := fun n => by
  induction n using Nat.strongRecOn with
  | ind n ih =>
    intro w x c m b0 F hT hL hc hmx hn h1m hm
    by_cases h2 : m = n
    · subst h2
      rw [prf_end F b0 (Or.inl (Nat.le_refl _))]
      clear ih
      cases b0 with
      | true =>
        rw [if_pos rfl]
        go_enter Tryd.func18, Tryd.ntmps18
        go_wp2_with fail
        go_ret
        exact ⟨_, rfl, OH.nil _ _ _, Below.refl _ _⟩
      | false =>
        rw [if_neg (by decide)]
        obtain ⟨rr, hrr⟩ : ∃ rr, rt F m = rr := ⟨_, rfl⟩
        have hro := root_any m (c := c) hT hL hc hmx (by omega)
        unfold hv at hro
        rw [hrr] at hro ⊢
        have HRo := hide hro
        clear hro hT hL hc hmx hn h1m hm hrr
        go_enter Tryd.func18, Tryd.ntmps18
        go_upto_region 4 with fail
        go_wp2_with (first
          | (go_at_call 22; with_reducible refine Calls.mono HRo.out ?_; rintro e W1 ⟨rfl, hb⟩; have HB1 := hide hb; clear hb)
          | (refine wpList_oneO rfl rfl (by rfl) HB1.out.size ?_; intro p2 W2 ho2 hb2; have HO2 := hide ho2; have HB2 := hide (Go.Proofs.YteplklbpehkdjaaDoor.K.call HB1.out hb2); clear ho2 hb2))
        go_ret
        exact ⟨_, rfl, HO2.out, HB2.out⟩
    · have hlt : m < n := by omega
      have h2n : 2 ≤ n := by omega
      have k1 := sp_lt h2n
      have k0 := sp_pos h2n
      have HSp := hide (fun W => split_any W (k := (n : Int)) (by omega) (by omega))
      rw [Int.toNat_natCast] at HSp
      obtain ⟨k, hk⟩ : ∃ k, sp n = k := ⟨_, rfl⟩
      rw [hk] at HSp k1 k0
      rcases hL.at_ with h5 | ⟨b, o, rfl, _⟩
      · omega
      have hne : ¬ ((m : Int) = (n : Int)) := by omega
      have hkn : k < n := k1
      have hkc : k ≤ c := by omega
      have hck : ¬ (c = k) := by omega
      have hkI : (k : Int) ≤ (n : Int) := by omega
      have hkJ : (k : Int) ≤ (c : Int) := by omega
      have HT := hide hT
      have HLs := hide hL
      have HC := hide (And.intro hc hmx)
      have HN := hide (And.intro hn (And.intro hlt k0))
      by_cases hmk : m ≤ k
      · have hmk' : (m : Int) ≤ (k : Int) := by omega
        have hlow := prf_low F (n := n) (m := m) b0 hlt h2n (by rw [hk]; exact hmk)
        rw [hk] at hlow
        obtain ⟨rr, hrr⟩ : ∃ rr, rt (fun i => F (k + i)) (n - k) = rr := ⟨_, rfl⟩
        have hrl : ∀ j, rr j < 256 := by rw [← hrr]; exact rt_all hL.lt _ _
        obtain ⟨LB, hLB⟩ : ∃ L, prf F k m b0 = L := ⟨_, rfl⟩
        have hnB : LB.length ≤ 1000 + n := by rw [← hLB]; exact Nat.le_trans (prf_len_n k m b0 F) (by omega)
        have HIH := hide (fun W (h : Below w.heap.size w W) => ih k k1 (b0 := b0) (hT.keep h) ((hL.keep h).head k (by omega)) hkc hmx (by omega) h1m hmk)
        have HRo := hide (fun W (h : Below w.heap.size w W) => root_any (n - k) (c := c - k) (hT.keep h) ((hL.keep h).tail k) (by omega) (by omega) (by omega))
        rw [hLB] at HIH
        unfold hv at HRo
        rw [hrr] at HRo
        rw [hLB, hrr] at hlow
        rw [hlow]
        have HRl := hide hrl
        have HnB := hide hnB
        clear ih hT hL hc hmx hn hm hlow hrl hnB hLB hrr hk h2 hmk k1 k0 h1m hlt h2n
        go_enter Tryd.func18, Tryd.ntmps18
        go_upto_region 7 with (go_at_call 21; with_reducible refine Calls.mono (HSp.out _) ?_; rintro e' w' ⟨rfl, hw⟩; replace hw := hw.symm; subst hw)
        refine wp_region_noPanic ?_
        refine wp_region_held_drew (S := fun w' => Below w.heap.size w w') (by kernel_rfl) (Go.Proofs.YteplklbpehkdjaaDoor.K.drew (Below.refl _ w)) (fun hS0 => ?_)
        refine wpAnyH_take (i := 0) (v := .slice (some ⟨b, o, none⟩) n c) rfl (by kernel_rfl) (by kernel_rfl) (by kernel_rfl) (fun _ _ _ h => h) (Or.inl ⟨by rfl, fun w' _ => by go_simp⟩) hS0 ?_
        simp only [Act.put, List.getElem_toArray, List.getElem_cons_zero, List.setIfInBounds_toArray, List.set_cons_zero, List.set_cons_succ]
        refine wpAnyH_take (i := 1) (v := .int .i64 (k : Int)) rfl (by kernel_rfl) (by kernel_rfl) (by kernel_rfl) (fun _ _ _ h => h) (Or.inl ⟨by rfl, fun w' _ => by go_simp⟩) hS0 ?_
        simp only [Act.put, List.getElem_toArray, List.getElem_cons_zero, List.getElem_cons_succ, List.setIfInBounds_toArray, List.set_cons_zero, List.set_cons_succ]
        refine wpAnyH_take (i := 2) (v := .slice (some ⟨b, o, none⟩) k c) rfl (by kernel_rfl) (by kernel_rfl) (by kernel_rfl) (fun _ _ _ h => h) (Or.inl ⟨by rfl, fun w' _ => by go_simp⟩) hS0 ?_
        simp only [Act.put, List.getElem_toArray, List.getElem_cons_zero, List.getElem_cons_succ, List.setIfInBounds_toArray, List.set_cons_zero, List.set_cons_succ]
        refine wpAnyH_take (i := 3) (v := .int .i64 (m : Int)) rfl (by kernel_rfl) (by kernel_rfl) (by kernel_rfl) (fun _ _ _ h => h) (Or.inl ⟨by rfl, fun w' _ => by go_simp⟩) hS0 ?_
        simp only [Act.put, List.getElem_toArray, List.getElem_cons_zero, List.getElem_cons_succ, List.setIfInBounds_toArray, List.set_cons_zero, List.set_cons_succ]
        refine wpAnyH_take (i := 4) (v := .bool b0) rfl (by kernel_rfl) (by kernel_rfl) (by kernel_rfl) (fun _ _ _ h => h) (Or.inl ⟨by rfl, fun w' _ => by go_simp⟩) hS0 ?_
        simp only [Act.put, List.getElem_toArray, List.getElem_cons_zero, List.getElem_cons_succ, List.setIfInBounds_toArray, List.set_cons_zero, List.set_cons_succ]
        refine wpAnyH_take (i := 6) (v := .slice (some ⟨b, o, none⟩) n c) rfl (by kernel_rfl) (by kernel_rfl) (by kernel_rfl) (fun _ _ _ h => h) (Or.inl ⟨by rfl, fun w' _ => by go_simp⟩) hS0 ?_
        simp only [Act.put, List.getElem_toArray, List.getElem_cons_zero, List.getElem_cons_succ, List.setIfInBounds_toArray, List.set_cons_zero, List.set_cons_succ]
        refine wpAnyH_take (i := 7) (v := .int .i64 (k : Int)) rfl (by kernel_rfl) (by kernel_rfl) (by kernel_rfl) (fun _ _ _ h => h) (Or.inl ⟨by rfl, fun w' _ => by go_simp⟩) hS0 ?_
        simp only [Act.put, List.getElem_toArray, List.getElem_cons_zero, List.getElem_cons_succ, List.setIfInBounds_toArray, List.set_cons_zero, List.set_cons_succ]
        refine wpAnyH_take (i := 8) (v := .slice (some ⟨b, o + k * 32, none⟩) (n - k) (c - k)) rfl (by kernel_rfl) (by kernel_rfl) (by kernel_rfl) (fun _ _ _ h => h) (Or.inl ⟨by rfl, fun w' _ => by go_simp⟩) hS0 ?_
        simp only [Act.put, List.getElem_toArray, List.getElem_cons_zero, List.getElem_cons_succ, List.setIfInBounds_toArray, List.set_cons_zero, List.set_cons_succ]
        refine wpAnyH_ready (rs := [5]) (by kernel_rfl) (by simp) (AllReadyH.cons rfl (fun Kt hK => ?_) AllReadyH.nil)
        refine wanted_pos rfl ?_
        refine wp_call (R := fun r w' => ∃ a c, r = .slice a LB.length c ∧ OH w' w.heap.size r LB.length (lF LB) ∧ Below w.heap.size w w') (vs := #[.slice (some ⟨b, o, none⟩) k c, .int .i64 (m : Int), .bool b0]) rfl (by simp only [List.map_toArray, List.map_cons, List.map_nil]; rfl) (by go_simp) (Calls.mono (HIH.out _ hS0) (fun e w' hE => by
          obtain ⟨v, he, ho, hb⟩ := hE
          obtain ⟨a, c, e2, _, _⟩ := ho.form
          subst e2
          exact ⟨_, he, a, c, rfl, OH.le ho hS0.size, K.call hS0 hb⟩)) (fun r W1 hr => ?_)
        obtain ⟨ar, cr, hr, ho, hb⟩ := hr
        subst hr
        have HO1 := hide ho
        have HWr : Hid (Below w.heap.size w W1) := hb
        refine hK.out _ _ hb (fun hS1 => ?_)
        clear hK Kt hb ho
        simp only [Act.put, List.getElem_toArray, List.getElem_cons_zero, List.getElem_cons_succ, List.setIfInBounds_toArray, List.set_cons_zero, List.set_cons_succ]
        refine wpAnyH_ready (rs := [9]) (by kernel_rfl) (by simp) (AllReadyH.cons rfl (fun Kt hK => ?_) AllReadyH.nil)
        refine wanted_pos rfl ?_
        refine wp_call (R := fun r w' => r = .agg (ab rr 32).toArray ∧ OH w' w.heap.size (.slice ar LB.length cr) LB.length (lF LB) ∧ Below w.heap.size w w') (vs := #[.slice (some ⟨b, o + k * 32, none⟩) (n - k) (c - k)]) rfl (by simp only [List.map_toArray, List.map_cons, List.map_nil]; rfl) (by go_simp) (Calls.mono (HRo.out _ hS1) (fun e w' ⟨he, hb⟩ => ⟨_, he, rfl, HO1.out.keep hb, K.call hS1 hb⟩)) (fun r W2 ⟨hr, ho, hb⟩ => ?_)
        subst hr
        have HO2 := hide ho
        refine hK.out _ _ hb (fun hS2 => ?_)
        clear hK Kt hb ho
        simp only [Act.put, List.getElem_toArray, List.getElem_cons_zero, List.getElem_cons_succ, List.setIfInBounds_toArray, List.set_cons_zero, List.set_cons_succ]
        refine wpAnyH_ready (rs := [10]) (by kernel_rfl) (by simp) (AllReadyH.cons rfl (fun Kt hK => ?_) AllReadyH.nil)
        refine wanted_pos rfl ?_
        refine wp_oneH rfl (by rfl) HRl.out (fun p1 W3 hh hb => ?_)
        have HO3 := hide (HO2.out.keep hb)
        have HH3 := hide hh
        refine hK.out _ _ (K.call hS2 hb) (fun hS3 => ?_)
        clear hK Kt hb hh
        simp only [Act.put, List.getElem_toArray, List.getElem_cons_zero, List.getElem_cons_succ, List.setIfInBounds_toArray, List.set_cons_zero, List.set_cons_succ]
        refine wpAnyH_ready (rs := [11]) (by kernel_rfl) (by simp) (AllReadyH.cons rfl (fun Kt hK => ?_) AllReadyH.nil)
        refine wanted_pos rfl ?_
        refine wp_appH _ _ rfl (by rfl) HO3.out (by rfl) HH3.out (by have := HnB.out; have := HN.out.1; omega) hS3.size (fun v4 W4 ho hg => ?_)
        have hb4 := OH.below HO3.out hS3 hg
        have HO4 := hide (OH.snoc ho)
        refine hK.out _ _ hb4 (fun hS4 => ?_)
        clear hK Kt ho hg hb4
        simp only [Act.put, List.getElem_toArray, List.getElem_cons_zero, List.getElem_cons_succ, List.setIfInBounds_toArray, List.set_cons_zero, List.set_cons_succ]
        refine wpAnyH_take (i := 12) (v := v4) rfl (by kernel_rfl) (by kernel_rfl) (by kernel_rfl) (fun _ _ _ h => h) (Or.inl ⟨by rfl, fun w' _ => by go_simp⟩) hS4 ?_
        simp only [Act.put, List.getElem_toArray, List.getElem_cons_zero, List.getElem_cons_succ, List.setIfInBounds_toArray, List.set_cons_zero, List.set_cons_succ]
        refine wpAnyH_done (by kernel_rfl) ?_ _
        refine NoPanic.normal ?_
        go_wp2_with fail
        go_ret
        exact ⟨_, rfl, HO4.out, hS4⟩
      · have hmk' : ¬ ((m : Int) ≤ (k : Int)) := by omega
        obtain ⟨q, hq⟩ : ∃ q, m - k = q := ⟨_, rfl⟩
        have hw : IntKind.i64.wrap ((m : Int) - (k : Int)) = (q : Int) := by rw [IntKind.wrap_i64]; omega
        have hlow := prf_up F (n := n) (m := m) b0 hlt h2n (by rw [hk]; exact hmk)
        rw [hk, hq] at hlow
        obtain ⟨rr, hrr⟩ : ∃ rr, rt F k = rr := ⟨_, rfl⟩
        have hrl : ∀ j, rr j < 256 := by rw [← hrr]; exact rt_lt hL.lt _
        obtain ⟨LB, hLB⟩ : ∃ L, prf (fun i => F (k + i)) (n - k) q false = L := ⟨_, rfl⟩
        have hnB : LB.length ≤ 1000 + n := by rw [← hLB]; exact Nat.le_trans (prf_len_n _ _ _ _) (by omega)
        have HIH := hide (fun W (h : Below w.heap.size w W) => ih (n - k) (by omega) (b0 := false) (hT.keep h) ((hL.keep h).tail k) (show n - k ≤ c - k by omega) (by omega) (by omega) (show 1 ≤ q by omega) (show q ≤ n - k by omega))
        have HRo := hide (fun W (h : Below w.heap.size w W) => root_any k (c := c) (hT.keep h) ((hL.keep h).head k (by omega)) hkc hmx (by omega))
        rw [hLB] at HIH
        unfold hv at HRo
        rw [hrr] at HRo
        rw [hLB, hrr] at hlow
        rw [hlow]
        have HRl := hide hrl
        have HnB := hide hnB
        clear ih hT hL hc hmx hn hm hlow hrl hnB hLB hrr hk h2 hmk k1 k0 hq h1m hlt h2n
        go_enter Tryd.func18, Tryd.ntmps18
        go_upto_region 8 with (go_at_call 21; with_reducible refine Calls.mono (HSp.out _) ?_; rintro e' w' ⟨rfl, hw⟩; replace hw := hw.symm; subst hw)
        refine wp_region_noPanic ?_
        refine wp_region_held_drew (S := fun w' => Below w.heap.size w w') (by kernel_rfl) (Go.Proofs.YteplklbpehkdjaaDoor.K.drew (Below.refl _ w)) (fun hS0 => ?_)
        refine wpAnyH_take (i := 0) (v := .slice (some ⟨b, o, none⟩) n c) rfl (by kernel_rfl) (by kernel_rfl) (by kernel_rfl) (fun _ _ _ h => h) (Or.inl ⟨by rfl, fun w' _ => by go_simp⟩) hS0 ?_
        simp only [Act.put, List.getElem_toArray, List.getElem_cons_zero, List.setIfInBounds_toArray, List.set_cons_zero, List.set_cons_succ]
        refine wpAnyH_take (i := 1) (v := .int .i64 (k : Int)) rfl (by kernel_rfl) (by kernel_rfl) (by kernel_rfl) (fun _ _ _ h => h) (Or.inl ⟨by rfl, fun w' _ => by go_simp⟩) hS0 ?_
        simp only [Act.put, List.getElem_toArray, List.getElem_cons_zero, List.getElem_cons_succ, List.setIfInBounds_toArray, List.set_cons_zero, List.set_cons_succ]
        refine wpAnyH_take (i := 2) (v := .slice (some ⟨b, o + k * 32, none⟩) (n - k) (c - k)) rfl (by kernel_rfl) (by kernel_rfl) (by kernel_rfl) (fun _ _ _ h => h) (Or.inl ⟨by rfl, fun w' _ => by go_simp⟩) hS0 ?_
        simp only [Act.put, List.getElem_toArray, List.getElem_cons_zero, List.getElem_cons_succ, List.setIfInBounds_toArray, List.set_cons_zero, List.set_cons_succ]
        refine wpAnyH_take (i := 3) (v := .int .i64 (m : Int)) rfl (by kernel_rfl) (by kernel_rfl) (by kernel_rfl) (fun _ _ _ h => h) (Or.inl ⟨by rfl, fun w' _ => by go_simp⟩) hS0 ?_
        simp only [Act.put, List.getElem_toArray, List.getElem_cons_zero, List.getElem_cons_succ, List.setIfInBounds_toArray, List.set_cons_zero, List.set_cons_succ]
        refine wpAnyH_take (i := 4) (v := .int .i64 (k : Int)) rfl (by kernel_rfl) (by kernel_rfl) (by kernel_rfl) (fun _ _ _ h => h) (Or.inl ⟨by rfl, fun w' _ => by go_simp⟩) hS0 ?_
        simp only [Act.put, List.getElem_toArray, List.getElem_cons_zero, List.getElem_cons_succ, List.setIfInBounds_toArray, List.set_cons_zero, List.set_cons_succ]
        refine wpAnyH_take (i := 5) (v := .int .i64 (q : Int)) rfl (by kernel_rfl) (by kernel_rfl) (by kernel_rfl) (fun _ _ _ h => h) (Or.inl ⟨by rfl, fun w' _ => by go_simp⟩) hS0 ?_
        simp only [Act.put, List.getElem_toArray, List.getElem_cons_zero, List.getElem_cons_succ, List.setIfInBounds_toArray, List.set_cons_zero, List.set_cons_succ]
        refine wpAnyH_take (i := 7) (v := .slice (some ⟨b, o, none⟩) n c) rfl (by kernel_rfl) (by kernel_rfl) (by kernel_rfl) (fun _ _ _ h => h) (Or.inl ⟨by rfl, fun w' _ => by go_simp⟩) hS0 ?_
        simp only [Act.put, List.getElem_toArray, List.getElem_cons_zero, List.getElem_cons_succ, List.setIfInBounds_toArray, List.set_cons_zero, List.set_cons_succ]
        refine wpAnyH_take (i := 8) (v := .int .i64 (k : Int)) rfl (by kernel_rfl) (by kernel_rfl) (by kernel_rfl) (fun _ _ _ h => h) (Or.inl ⟨by rfl, fun w' _ => by go_simp⟩) hS0 ?_
        simp only [Act.put, List.getElem_toArray, List.getElem_cons_zero, List.getElem_cons_succ, List.setIfInBounds_toArray, List.set_cons_zero, List.set_cons_succ]
        refine wpAnyH_take (i := 9) (v := .slice (some ⟨b, o, none⟩) k c) rfl (by kernel_rfl) (by kernel_rfl) (by kernel_rfl) (fun _ _ _ h => h) (Or.inl ⟨by rfl, fun w' _ => by go_simp⟩) hS0 ?_
        simp only [Act.put, List.getElem_toArray, List.getElem_cons_zero, List.getElem_cons_succ, List.setIfInBounds_toArray, List.set_cons_zero, List.set_cons_succ]
        refine wpAnyH_ready (rs := [6]) (by kernel_rfl) (by simp) (AllReadyH.cons rfl (fun Kt hK => ?_) AllReadyH.nil)
        refine wanted_pos rfl ?_
        refine wp_call (R := fun r w' => ∃ a c, r = .slice a LB.length c ∧ OH w' w.heap.size r LB.length (lF LB) ∧ Below w.heap.size w w') (vs := #[.slice (some ⟨b, o + k * 32, none⟩) (n - k) (c - k), .int .i64 (q : Int), .bool false]) rfl (by simp only [List.map_toArray, List.map_cons, List.map_nil]; rfl) (by go_simp) (Calls.mono (HIH.out _ hS0) (fun e w' hE => by
          obtain ⟨v, he, ho, hb⟩ := hE
          obtain ⟨a, c, e2, _, _⟩ := ho.form
          subst e2
          exact ⟨_, he, a, c, rfl, OH.le ho hS0.size, K.call hS0 hb⟩)) (fun r W1 hr => ?_)
        obtain ⟨ar, cr, hr, ho, hb⟩ := hr
        subst hr
        have HO1 := hide ho
        have HWr : Hid (Below w.heap.size w W1) := hb
        refine hK.out _ _ hb (fun hS1 => ?_)
        clear hK Kt hb ho
        simp only [Act.put, List.getElem_toArray, List.getElem_cons_zero, List.getElem_cons_succ, List.setIfInBounds_toArray, List.set_cons_zero, List.set_cons_succ]
        refine wpAnyH_ready (rs := [10]) (by kernel_rfl) (by simp) (AllReadyH.cons rfl (fun Kt hK => ?_) AllReadyH.nil)
        refine wanted_pos rfl ?_
        refine wp_call (R := fun r w' => r = .agg (ab rr 32).toArray ∧ OH w' w.heap.size (.slice ar LB.length cr) LB.length (lF LB) ∧ Below w.heap.size w w') (vs := #[.slice (some ⟨b, o, none⟩) k c]) rfl (by simp only [List.map_toArray, List.map_cons, List.map_nil]; rfl) (by go_simp) (Calls.mono (HRo.out _ hS1) (fun e w' ⟨he, hb⟩ => ⟨_, he, rfl, HO1.out.keep hb, K.call hS1 hb⟩)) (fun r W2 ⟨hr, ho, hb⟩ => ?_)
        subst hr
        have HO2 := hide ho
        refine hK.out _ _ hb (fun hS2 => ?_)
        clear hK Kt hb ho
        simp only [Act.put, List.getElem_toArray, List.getElem_cons_zero, List.getElem_cons_succ, List.setIfInBounds_toArray, List.set_cons_zero, List.set_cons_succ]
        refine wpAnyH_ready (rs := [11]) (by kernel_rfl) (by simp) (AllReadyH.cons rfl (fun Kt hK => ?_) AllReadyH.nil)
        refine wanted_pos rfl ?_
        refine wp_oneH rfl (by rfl) HRl.out (fun p1 W3 hh hb => ?_)
        have HO3 := hide (HO2.out.keep hb)
        have HH3 := hide hh
        refine hK.out _ _ (K.call hS2 hb) (fun hS3 => ?_)
        clear hK Kt hb hh
        simp only [Act.put, List.getElem_toArray, List.getElem_cons_zero, List.getElem_cons_succ, List.setIfInBounds_toArray, List.set_cons_zero, List.set_cons_succ]
        refine wpAnyH_ready (rs := [12]) (by kernel_rfl) (by simp) (AllReadyH.cons rfl (fun Kt hK => ?_) AllReadyH.nil)
        refine wanted_pos rfl ?_
        refine wp_appH _ _ rfl (by rfl) HO3.out (by rfl) HH3.out (by have := HnB.out; have := HN.out.1; omega) hS3.size (fun v4 W4 ho hg => ?_)
        have hb4 := OH.below HO3.out hS3 hg
        have HO4 := hide (OH.snoc ho)
        refine hK.out _ _ hb4 (fun hS4 => ?_)
        clear hK Kt ho hg hb4
        simp only [Act.put, List.getElem_toArray, List.getElem_cons_zero, List.getElem_cons_succ, List.setIfInBounds_toArray, List.set_cons_zero, List.set_cons_succ]
        refine wpAnyH_take (i := 13) (v := v4) rfl (by kernel_rfl) (by kernel_rfl) (by kernel_rfl) (fun _ _ _ h => h) (Or.inl ⟨by rfl, fun w' _ => by go_simp⟩) hS4 ?_
        simp only [Act.put, List.getElem_toArray, List.getElem_cons_zero, List.getElem_cons_succ, List.setIfInBounds_toArray, List.set_cons_zero, List.set_cons_succ]
        refine wpAnyH_done (by kernel_rfl) ?_ _
        refine NoPanic.normal ?_
        go_wp2_with fail
        go_ret
        exact ⟨_, rfl, HO4.out, hS4⟩
theorem proof_any {w : World} {x : Option Addr} {n c m : Nat} {F : Nat → Nat → Nat} (hT : Tab w) (hx : HL w x n F) (hc : n ≤ c) (hmx : c ≤ maxLen) (hn : n ≤ 100000) (hm : 1 ≤ m ∧ m ≤ n) :
    Calls Tryd.prog 12 #[.slice x n c, .int .i64 (m : Int)] w (PthP w (prf F n m true)) := by
  have HP := hide (proof_n n (b0 := true) hT hx hc hmx hn hm.1 hm.2)
  have h1 : ¬ ((m : Int) < 1) := by omega
  have h2 : ¬ ((n : Int) < (m : Int)) := by omega
  have h3 : (m : Int) ≤ (n : Int) := by omega
  clear hT hx hc hmx hn hm
  go_enter Tryd.func12, Tryd.ntmps12
  go_wp2_with (go_at_call 18; refine Calls.mono HP.out ?_; rintro e W1 hp; obtain ⟨v, hv2, ho, hb⟩ := hp; subst hv2; have HO := hide ho; have HB := hide hb; clear ho hb)
  go_ret2
  exact ⟨_, rfl, HO.out, HB.out⟩
theorem proof_er {w : World} {x : Option Addr} {n c : Nat} {m : Int} (h : m < 1 ∨ (n : Int) < m) : Calls Tryd.prog 12 #[.slice x n c, .int .i64 m] w (PthE w) := by
  by_cases h0 : m < 1
  · clear h
    go_enter Tryd.func12, Tryd.ntmps12
    go_wp2_with fail
    go_ret2
    exact ⟨rfl, Below.refl _ _⟩
  · have h1 : (n : Int) < m := h.resolve_left h0
    clear h
    go_enter Tryd.func12, Tryd.ntmps12
    go_wp2_with fail
    go_ret2
    exact ⟨rfl, Below.refl _ _⟩
end Go.Proofs.YteplklbpehkdjaaDoor
