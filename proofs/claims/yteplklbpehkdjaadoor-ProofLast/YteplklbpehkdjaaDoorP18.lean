/- Layer 18: the program's own Path. -/
import Derived.Test.YteplklbpehkdjaaDoorH18
namespace Go.Proofs.YteplklbpehkdjaaDoor
set_option maxRecDepth 100000
open Go.RowKit
attribute [local go_sem ↓] Go.wp_at_zero Go.wp_at_succ

theorem wp_oneH {op : Oper} {a : Act} {w : World} {Kt : Act → World → Prop} {Q : Exit → Act → World → Prop} {x : Operand} {f : Nat → Nat} (ho : op.op = .buildSlice 22 1 #[(0, x)]) (hx : a.eval x = .agg (ab f 32).toArray) (hf : ∀ i, f i < 256)
    (h : ∀ p W', HL W' (some ⟨p, 0, none⟩) 1 (fun _ => f) → Below w.heap.size w W' → Kt (a.put op.dst (.slice (some ⟨p, 0, none⟩) 1 1)) W') : Oper.wp Tryd.prog op a w Kt Q := by
  obtain ⟨ie, hi, hz, hs, _⟩ := info_parts infoHv
  refine wp_buildSlice 22 32 1 #[(0, x)] ho (ab f 32).toArray ie _ Tryd.underlying22 hi hz (by rw [hs]; decide) (by rw [hs]; decide) ?_ (h w.heap.size _ (hl_one w f hf) (K.alloc (Below.refl _ _) _))
  rw [hs]
  simp only [List.map_toArray, List.map_cons, List.map_nil, hx]
  exact fillH f _ rfl
/-- A row that was told. -/
def RwP (w : World) (L : List (Nat → Nat)) (e : Ending) (w' : World) : Prop := ∃ v, e = .returned v ∧ OH w' w.heap.size v L.length (lF L) ∧ Below w.heap.size w w'
set_option maxRecDepth 100000 in
set_option maxHeartbeats 8000000 in
theorem path_n : ∀ (n : Nat) {w : World} {x : Option Addr} {c m : Nat} {F : Nat → Nat → Nat}, Tab w → HL w x n F → n ≤ c → c ≤ maxLen → n ≤ 100000 → m < n → Calls Tryd.prog 16 #[.slice x n c, .int .i64 (m : Int)] w (RwP w (pth F n m)) := fun n => by
  induction n using Nat.strongRecOn with
  | ind n ih =>
    intro w x c m F hT hL hc hmx hn hm
    by_cases h2 : n < 2
    · obtain rfl : n = 1 := by omega
      rw [pth_small F m h2]
      clear ih h2
      go_enter Tryd.func16, Tryd.ntmps16
      go_wp2_with fail
      go_ret
      exact ⟨_, rfl, OH.nil _ _ _, Below.refl _ _⟩
    · have k1 := sp_lt (n := n) (by omega)
      have k0 := sp_pos (n := n) (by omega)
      have HSp := hide (fun W => split_any W (k := (n : Int)) (by omega) (by omega))
      rw [Int.toNat_natCast] at HSp
      obtain ⟨k, hk⟩ : ∃ k, sp n = k := ⟨_, rfl⟩
      rw [hk] at HSp k1 k0
      rcases hL.at_ with h5 | ⟨b, o, rfl, _⟩
      · omega
      have hne : ¬ ((n : Int) = 1) := by omega
      have hkn : k < n := k1
      have hkc : k ≤ c := by omega
      have hck : ¬ (c = k) := by omega
      have hkI : (k : Int) ≤ (n : Int) := by omega
      have hkJ : (k : Int) ≤ (c : Int) := by omega
      have HT := hide hT
      have HLs := hide hL
      have HC := hide (And.intro hc hmx)
      have HN := hide (And.intro hn (And.intro hm k0))
      by_cases hmk : m < k
      · have hmk' : (m : Int) < (k : Int) := by omega
        have hlow := pth_low F (n := n) (m := m) (by omega) (by rw [hk]; exact hmk)
        rw [hk] at hlow
        obtain ⟨rr, hrr⟩ : ∃ rr, rt (fun i => F (k + i)) (n - k) = rr := ⟨_, rfl⟩
        have hrl : ∀ j, rr j < 256 := by rw [← hrr]; exact rt_all hL.lt _ _
        obtain ⟨LB, hLB⟩ : ∃ L, pth F k m = L := ⟨_, rfl⟩
        have hnB : LB.length ≤ 1000 + n := by rw [← hLB]; exact Nat.le_trans (pth_len_n k m F) (by omega)
        have HIH := hide (fun W (h : Below w.heap.size w W) => ih k k1 (hT.keep h) ((hL.keep h).head k (by omega)) hkc hmx (by omega) hmk)
        have HRo := hide (fun W (h : Below w.heap.size w W) => root_any (n - k) (c := c - k) (hT.keep h) ((hL.keep h).tail k) (by omega) (by omega) (by omega))
        rw [hLB] at HIH
        unfold hv at HRo
        rw [hrr] at HRo
        rw [hLB, hrr] at hlow
        rw [hlow]
        have HRl := hide hrl
        have HnB := hide hnB
        clear ih hT hL hc hmx hn hm hlow hrl hnB hLB hrr hk h2 hmk k1 k0
        go_enter Tryd.func16, Tryd.ntmps16
        go_upto_region 5 with (go_at_call 21; with_reducible refine Calls.mono (HSp.out _) ?_; rintro e' w' ⟨rfl, hw⟩; replace hw := hw.symm; subst hw)
        refine wp_region_noPanic ?_
        refine wp_region_held_drew (S := fun w' => Below w.heap.size w w') (by kernel_rfl) (Go.Proofs.YteplklbpehkdjaaDoor.K.drew (Below.refl _ w)) (fun hS0 => ?_)
        refine wpAnyH_take (i := 0) (v := .slice (some ⟨b, o, none⟩) n c) rfl (by kernel_rfl) (by kernel_rfl) (by kernel_rfl) (fun _ _ _ h => h) (Or.inl ⟨by rfl, fun w' _ => by go_simp⟩) hS0 ?_
        simp only [Act.put, List.getElem_toArray, List.getElem_cons_zero, List.setIfInBounds_toArray, List.set_cons_zero, List.set_cons_succ]
        refine wpAnyH_take (i := 1) (v := .int .i64 (k : Int)) rfl (by kernel_rfl) (by kernel_rfl) (by kernel_rfl) (fun _ _ _ h => h) (Or.inl ⟨by rfl, fun w' _ => by go_simp⟩) hS0 ?_
        simp only [Act.put, List.getElem_toArray, List.getElem_cons_zero, List.getElem_cons_succ, List.setIfInBounds_toArray, List.set_cons_zero, List.set_cons_succ]
        refine wpAnyH_take (i := 2) (v := .slice (some ⟨b, o, none⟩) k c) rfl (by kernel_rfl) (by kernel_rfl) (by kernel_rfl) (fun _ _ _ h => h) (Or.inl ⟨by rfl, fun w' _ => by go_simp⟩) hS0 ?_
        simp only [Act.put, List.getElem_toArray, List.getElem_cons_zero, List.getElem_cons_succ, List.setIfInBounds_toArray, List.set_cons_zero, List.set_cons_succ]
        refine wpAnyH_take (i := 3) (v := .int .i64 (m : Int)) rfl (by kernel_rfl) (by kernel_rfl) (by kernel_rfl) (fun _ _ _ h => h) (Or.inl ⟨by rfl, fun w' _ => by go_simp⟩) hS0 ?_
        simp only [Act.put, List.getElem_toArray, List.getElem_cons_zero, List.getElem_cons_succ, List.setIfInBounds_toArray, List.set_cons_zero, List.set_cons_succ]
        refine wpAnyH_take (i := 5) (v := .slice (some ⟨b, o, none⟩) n c) rfl (by kernel_rfl) (by kernel_rfl) (by kernel_rfl) (fun _ _ _ h => h) (Or.inl ⟨by rfl, fun w' _ => by go_simp⟩) hS0 ?_
        simp only [Act.put, List.getElem_toArray, List.getElem_cons_zero, List.getElem_cons_succ, List.setIfInBounds_toArray, List.set_cons_zero, List.set_cons_succ]
        refine wpAnyH_take (i := 6) (v := .int .i64 (k : Int)) rfl (by kernel_rfl) (by kernel_rfl) (by kernel_rfl) (fun _ _ _ h => h) (Or.inl ⟨by rfl, fun w' _ => by go_simp⟩) hS0 ?_
        simp only [Act.put, List.getElem_toArray, List.getElem_cons_zero, List.getElem_cons_succ, List.setIfInBounds_toArray, List.set_cons_zero, List.set_cons_succ]
        refine wpAnyH_take (i := 7) (v := .slice (some ⟨b, o + k * 32, none⟩) (n - k) (c - k)) rfl (by kernel_rfl) (by kernel_rfl) (by kernel_rfl) (fun _ _ _ h => h) (Or.inl ⟨by rfl, fun w' _ => by go_simp⟩) hS0 ?_
        simp only [Act.put, List.getElem_toArray, List.getElem_cons_zero, List.getElem_cons_succ, List.setIfInBounds_toArray, List.set_cons_zero, List.set_cons_succ]
        refine wpAnyH_ready (rs := [4]) (by kernel_rfl) (by simp) (AllReadyH.cons rfl (fun Kt hK => ?_) AllReadyH.nil)
        refine wanted_pos rfl ?_
        refine wp_call (R := fun r w' => ∃ a c, r = .slice a LB.length c ∧ OH w' w.heap.size r LB.length (lF LB) ∧ Below w.heap.size w w') (vs := #[.slice (some ⟨b, o, none⟩) k c, .int .i64 (m : Int)]) rfl (by simp only [List.map_toArray, List.map_cons, List.map_nil]; rfl) (by go_simp) (Calls.mono (HIH.out _ hS0) (fun e w' hE => by
          obtain ⟨v, he, ho, hb⟩ := hE
          obtain ⟨a, c, e2, _, _⟩ := ho.form
          subst e2
          exact ⟨_, he, a, c, rfl, OH.le ho hS0.size, K.call hS0 hb⟩)) (fun r W1 hr => ?_)
        obtain ⟨ar, cr, hr, ho, hb⟩ := hr
        subst hr
        have HO1 := hide ho
        have HWr : Hid (Below w.heap.size w W1) := hb
        refine hK.out _ _ hb (fun hS1 => ?_)
        clear hK Kt hb ho
        simp only [Act.put, List.getElem_toArray, List.getElem_cons_zero, List.getElem_cons_succ, List.setIfInBounds_toArray, List.set_cons_zero, List.set_cons_succ]
        refine wpAnyH_ready (rs := [8]) (by kernel_rfl) (by simp) (AllReadyH.cons rfl (fun Kt hK => ?_) AllReadyH.nil)
        refine wanted_pos rfl ?_
        refine wp_call (R := fun r w' => r = .agg (ab rr 32).toArray ∧ OH w' w.heap.size (.slice ar LB.length cr) LB.length (lF LB) ∧ Below w.heap.size w w') (vs := #[.slice (some ⟨b, o + k * 32, none⟩) (n - k) (c - k)]) rfl (by simp only [List.map_toArray, List.map_cons, List.map_nil]; rfl) (by go_simp) (Calls.mono (HRo.out _ hS1) (fun e w' ⟨he, hb⟩ => ⟨_, he, rfl, HO1.out.keep hb, K.call hS1 hb⟩)) (fun r W2 ⟨hr, ho, hb⟩ => ?_)
        subst hr
        have HO2 := hide ho
        refine hK.out _ _ hb (fun hS2 => ?_)
        clear hK Kt hb ho
        simp only [Act.put, List.getElem_toArray, List.getElem_cons_zero, List.getElem_cons_succ, List.setIfInBounds_toArray, List.set_cons_zero, List.set_cons_succ]
        refine wpAnyH_ready (rs := [9]) (by kernel_rfl) (by simp) (AllReadyH.cons rfl (fun Kt hK => ?_) AllReadyH.nil)
        refine wanted_pos rfl ?_
        refine wp_oneH rfl (by rfl) HRl.out (fun p1 W3 hh hb => ?_)
        have HO3 := hide (HO2.out.keep hb)
        have HH3 := hide hh
        refine hK.out _ _ (K.call hS2 hb) (fun hS3 => ?_)
        clear hK Kt hb hh
        simp only [Act.put, List.getElem_toArray, List.getElem_cons_zero, List.getElem_cons_succ, List.setIfInBounds_toArray, List.set_cons_zero, List.set_cons_succ]
        refine wpAnyH_ready (rs := [10]) (by kernel_rfl) (by simp) (AllReadyH.cons rfl (fun Kt hK => ?_) AllReadyH.nil)
        refine wanted_pos rfl ?_
        refine wp_appH _ _ rfl (by rfl) HO3.out (by rfl) HH3.out (by have := HnB.out; have := HN.out.1; omega) hS3.size (fun v4 W4 ho hg => ?_)
        have hb4 := OH.below HO3.out hS3 hg
        have HO4 := hide (OH.snoc ho)
        refine hK.out _ _ hb4 (fun hS4 => ?_)
        clear hK Kt ho hg hb4
        simp only [Act.put, List.getElem_toArray, List.getElem_cons_zero, List.getElem_cons_succ, List.setIfInBounds_toArray, List.set_cons_zero, List.set_cons_succ]
        refine wpAnyH_take (i := 11) (v := v4) rfl (by kernel_rfl) (by kernel_rfl) (by kernel_rfl) (fun _ _ _ h => h) (Or.inl ⟨by rfl, fun w' _ => by go_simp⟩) hS4 ?_
        simp only [Act.put, List.getElem_toArray, List.getElem_cons_zero, List.getElem_cons_succ, List.setIfInBounds_toArray, List.set_cons_zero, List.set_cons_succ]
        refine wpAnyH_done (by kernel_rfl) ?_ _
        refine NoPanic.normal ?_
        go_wp2_with fail
        go_ret
        exact ⟨_, rfl, HO4.out, hS4⟩
      · have hmk' : ¬ ((m : Int) < (k : Int)) := by omega
        obtain ⟨q, hq⟩ : ∃ q, m - k = q := ⟨_, rfl⟩
        have hw : IntKind.i64.wrap ((m : Int) - (k : Int)) = (q : Int) := by rw [IntKind.wrap_i64]; omega
        have hlow := pth_up F (n := n) (m := m) (by omega) (by rw [hk]; exact hmk)
        rw [hk, hq] at hlow
        obtain ⟨rr, hrr⟩ : ∃ rr, rt F k = rr := ⟨_, rfl⟩
        have hrl : ∀ j, rr j < 256 := by rw [← hrr]; exact rt_lt hL.lt _
        obtain ⟨LB, hLB⟩ : ∃ L, pth (fun i => F (k + i)) (n - k) q = L := ⟨_, rfl⟩
        have hnB : LB.length ≤ 1000 + n := by rw [← hLB]; exact Nat.le_trans (pth_len_n _ _ _) (by omega)
        have HIH := hide (fun W (h : Below w.heap.size w W) => ih (n - k) (by omega) (hT.keep h) ((hL.keep h).tail k) (show n - k ≤ c - k by omega) (by omega) (by omega) (show q < n - k by omega))
        have HRo := hide (fun W (h : Below w.heap.size w W) => root_any k (c := c) (hT.keep h) ((hL.keep h).head k (by omega)) hkc hmx (by omega))
        rw [hLB] at HIH
        unfold hv at HRo
        rw [hrr] at HRo
        rw [hLB, hrr] at hlow
        rw [hlow]
        have HRl := hide hrl
        have HnB := hide hnB
        clear ih hT hL hc hmx hn hm hlow hrl hnB hLB hrr hk h2 hmk k1 k0 hq
        go_enter Tryd.func16, Tryd.ntmps16
        go_upto_region 6 with (go_at_call 21; with_reducible refine Calls.mono (HSp.out _) ?_; rintro e' w' ⟨rfl, hw⟩; replace hw := hw.symm; subst hw)
        refine wp_region_noPanic ?_
        refine wp_region_held_drew (S := fun w' => Below w.heap.size w w') (by kernel_rfl) (Go.Proofs.YteplklbpehkdjaaDoor.K.drew (Below.refl _ w)) (fun hS0 => ?_)
        refine wpAnyH_take (i := 0) (v := .slice (some ⟨b, o, none⟩) n c) rfl (by kernel_rfl) (by kernel_rfl) (by kernel_rfl) (fun _ _ _ h => h) (Or.inl ⟨by rfl, fun w' _ => by go_simp⟩) hS0 ?_
        simp only [Act.put, List.getElem_toArray, List.getElem_cons_zero, List.setIfInBounds_toArray, List.set_cons_zero, List.set_cons_succ]
        refine wpAnyH_take (i := 1) (v := .int .i64 (k : Int)) rfl (by kernel_rfl) (by kernel_rfl) (by kernel_rfl) (fun _ _ _ h => h) (Or.inl ⟨by rfl, fun w' _ => by go_simp⟩) hS0 ?_
        simp only [Act.put, List.getElem_toArray, List.getElem_cons_zero, List.getElem_cons_succ, List.setIfInBounds_toArray, List.set_cons_zero, List.set_cons_succ]
        refine wpAnyH_take (i := 2) (v := .slice (some ⟨b, o + k * 32, none⟩) (n - k) (c - k)) rfl (by kernel_rfl) (by kernel_rfl) (by kernel_rfl) (fun _ _ _ h => h) (Or.inl ⟨by rfl, fun w' _ => by go_simp⟩) hS0 ?_
        simp only [Act.put, List.getElem_toArray, List.getElem_cons_zero, List.getElem_cons_succ, List.setIfInBounds_toArray, List.set_cons_zero, List.set_cons_succ]
        refine wpAnyH_take (i := 3) (v := .int .i64 (m : Int)) rfl (by kernel_rfl) (by kernel_rfl) (by kernel_rfl) (fun _ _ _ h => h) (Or.inl ⟨by rfl, fun w' _ => by go_simp⟩) hS0 ?_
        simp only [Act.put, List.getElem_toArray, List.getElem_cons_zero, List.getElem_cons_succ, List.setIfInBounds_toArray, List.set_cons_zero, List.set_cons_succ]
        refine wpAnyH_take (i := 4) (v := .int .i64 (k : Int)) rfl (by kernel_rfl) (by kernel_rfl) (by kernel_rfl) (fun _ _ _ h => h) (Or.inl ⟨by rfl, fun w' _ => by go_simp⟩) hS0 ?_
        simp only [Act.put, List.getElem_toArray, List.getElem_cons_zero, List.getElem_cons_succ, List.setIfInBounds_toArray, List.set_cons_zero, List.set_cons_succ]
        refine wpAnyH_take (i := 5) (v := .int .i64 (q : Int)) rfl (by kernel_rfl) (by kernel_rfl) (by kernel_rfl) (fun _ _ _ h => h) (Or.inl ⟨by rfl, fun w' _ => by go_simp⟩) hS0 ?_
        simp only [Act.put, List.getElem_toArray, List.getElem_cons_zero, List.getElem_cons_succ, List.setIfInBounds_toArray, List.set_cons_zero, List.set_cons_succ]
        refine wpAnyH_take (i := 7) (v := .slice (some ⟨b, o, none⟩) n c) rfl (by kernel_rfl) (by kernel_rfl) (by kernel_rfl) (fun _ _ _ h => h) (Or.inl ⟨by rfl, fun w' _ => by go_simp⟩) hS0 ?_
        simp only [Act.put, List.getElem_toArray, List.getElem_cons_zero, List.getElem_cons_succ, List.setIfInBounds_toArray, List.set_cons_zero, List.set_cons_succ]
        refine wpAnyH_take (i := 8) (v := .int .i64 (k : Int)) rfl (by kernel_rfl) (by kernel_rfl) (by kernel_rfl) (fun _ _ _ h => h) (Or.inl ⟨by rfl, fun w' _ => by go_simp⟩) hS0 ?_
        simp only [Act.put, List.getElem_toArray, List.getElem_cons_zero, List.getElem_cons_succ, List.setIfInBounds_toArray, List.set_cons_zero, List.set_cons_succ]
        refine wpAnyH_take (i := 9) (v := .slice (some ⟨b, o, none⟩) k c) rfl (by kernel_rfl) (by kernel_rfl) (by kernel_rfl) (fun _ _ _ h => h) (Or.inl ⟨by rfl, fun w' _ => by go_simp⟩) hS0 ?_
        simp only [Act.put, List.getElem_toArray, List.getElem_cons_zero, List.getElem_cons_succ, List.setIfInBounds_toArray, List.set_cons_zero, List.set_cons_succ]
        refine wpAnyH_ready (rs := [6]) (by kernel_rfl) (by simp) (AllReadyH.cons rfl (fun Kt hK => ?_) AllReadyH.nil)
        refine wanted_pos rfl ?_
        refine wp_call (R := fun r w' => ∃ a c, r = .slice a LB.length c ∧ OH w' w.heap.size r LB.length (lF LB) ∧ Below w.heap.size w w') (vs := #[.slice (some ⟨b, o + k * 32, none⟩) (n - k) (c - k), .int .i64 (q : Int)]) rfl (by simp only [List.map_toArray, List.map_cons, List.map_nil]; rfl) (by go_simp) (Calls.mono (HIH.out _ hS0) (fun e w' hE => by
          obtain ⟨v, he, ho, hb⟩ := hE
          obtain ⟨a, c, e2, _, _⟩ := ho.form
          subst e2
          exact ⟨_, he, a, c, rfl, OH.le ho hS0.size, K.call hS0 hb⟩)) (fun r W1 hr => ?_)
        obtain ⟨ar, cr, hr, ho, hb⟩ := hr
        subst hr
        have HO1 := hide ho
        have HWr : Hid (Below w.heap.size w W1) := hb
        refine hK.out _ _ hb (fun hS1 => ?_)
        clear hK Kt hb ho
        simp only [Act.put, List.getElem_toArray, List.getElem_cons_zero, List.getElem_cons_succ, List.setIfInBounds_toArray, List.set_cons_zero, List.set_cons_succ]
        refine wpAnyH_ready (rs := [10]) (by kernel_rfl) (by simp) (AllReadyH.cons rfl (fun Kt hK => ?_) AllReadyH.nil)
        refine wanted_pos rfl ?_
        refine wp_call (R := fun r w' => r = .agg (ab rr 32).toArray ∧ OH w' w.heap.size (.slice ar LB.length cr) LB.length (lF LB) ∧ Below w.heap.size w w') (vs := #[.slice (some ⟨b, o, none⟩) k c]) rfl (by simp only [List.map_toArray, List.map_cons, List.map_nil]; rfl) (by go_simp) (Calls.mono (HRo.out _ hS1) (fun e w' ⟨he, hb⟩ => ⟨_, he, rfl, HO1.out.keep hb, K.call hS1 hb⟩)) (fun r W2 ⟨hr, ho, hb⟩ => ?_)
        subst hr
        have HO2 := hide ho
        refine hK.out _ _ hb (fun hS2 => ?_)
        clear hK Kt hb ho
        simp only [Act.put, List.getElem_toArray, List.getElem_cons_zero, List.getElem_cons_succ, List.setIfInBounds_toArray, List.set_cons_zero, List.set_cons_succ]
        refine wpAnyH_ready (rs := [11]) (by kernel_rfl) (by simp) (AllReadyH.cons rfl (fun Kt hK => ?_) AllReadyH.nil)
        refine wanted_pos rfl ?_
        refine wp_oneH rfl (by rfl) HRl.out (fun p1 W3 hh hb => ?_)
        have HO3 := hide (HO2.out.keep hb)
        have HH3 := hide hh
        refine hK.out _ _ (K.call hS2 hb) (fun hS3 => ?_)
        clear hK Kt hb hh
        simp only [Act.put, List.getElem_toArray, List.getElem_cons_zero, List.getElem_cons_succ, List.setIfInBounds_toArray, List.set_cons_zero, List.set_cons_succ]
        refine wpAnyH_ready (rs := [12]) (by kernel_rfl) (by simp) (AllReadyH.cons rfl (fun Kt hK => ?_) AllReadyH.nil)
        refine wanted_pos rfl ?_
        refine wp_appH _ _ rfl (by rfl) HO3.out (by rfl) HH3.out (by have := HnB.out; have := HN.out.1; omega) hS3.size (fun v4 W4 ho hg => ?_)
        have hb4 := OH.below HO3.out hS3 hg
        have HO4 := hide (OH.snoc ho)
        refine hK.out _ _ hb4 (fun hS4 => ?_)
        clear hK Kt ho hg hb4
        simp only [Act.put, List.getElem_toArray, List.getElem_cons_zero, List.getElem_cons_succ, List.setIfInBounds_toArray, List.set_cons_zero, List.set_cons_succ]
        refine wpAnyH_take (i := 13) (v := v4) rfl (by kernel_rfl) (by kernel_rfl) (by kernel_rfl) (fun _ _ _ h => h) (Or.inl ⟨by rfl, fun w' _ => by go_simp⟩) hS4 ?_
        simp only [Act.put, List.getElem_toArray, List.getElem_cons_zero, List.getElem_cons_succ, List.setIfInBounds_toArray, List.set_cons_zero, List.set_cons_succ]
        refine wpAnyH_done (by kernel_rfl) ?_ _
        refine NoPanic.normal ?_
        go_wp2_with fail
        go_ret
        exact ⟨_, rfl, HO4.out, hS4⟩
theorem path_any {w : World} {x : Option Addr} {n c m : Nat} {F : Nat → Nat → Nat} (hT : Tab w) (hx : HL w x n F) (hc : n ≤ c) (hmx : c ≤ maxLen) (hn : n ≤ 100000) (hm : m < n) :
    Calls Tryd.prog 9 #[.slice x n c, .int .i64 (m : Int)] w (PthP w (pth F n m)) := by
  have HP := hide (path_n n hT hx hc hmx hn hm)
  have h1 : ¬ ((m : Int) < 0) := by omega
  have h2 : (m : Int) < (n : Int) := by omega
  clear hT hx hc hmx hn hm
  go_enter Tryd.func9, Tryd.ntmps9
  go_wp2_with (go_at_call 16; refine Calls.mono HP.out ?_; rintro e W1 hp; obtain ⟨v, hv2, ho, hb⟩ := hp; subst hv2; have HO := hide ho; have HB := hide hb; clear ho hb)
  go_ret2
  exact ⟨_, rfl, HO.out, HB.out⟩
theorem path_er {w : World} {x : Option Addr} {n c : Nat} {m : Int} (h : m < 0 ∨ (n : Int) ≤ m) : Calls Tryd.prog 9 #[.slice x n c, .int .i64 m] w (PthE w) := by
  by_cases h0 : m < 0
  · clear h
    go_enter Tryd.func9, Tryd.ntmps9
    go_wp2_with fail
    go_ret2
    exact ⟨rfl, Below.refl _ _⟩
  · have h1 : (n : Int) ≤ m := h.resolve_left h0
    clear h
    go_enter Tryd.func9, Tryd.ntmps9
    go_wp2_with fail
    go_ret2
    exact ⟨rfl, Below.refl _ _⟩
end Go.Proofs.YteplklbpehkdjaaDoor
