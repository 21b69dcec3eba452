/- Layer 15: the mark's value is read; Open. Layer 15: the document's Commit. -/
import Derived.Test.YtpophfeommlajaaMP38
namespace Go.Proofs.Ytpophfeommlajaa
open Go.RowKit Go.Maps
attribute [local go_sem ↓] Go.wp_at_zero Go.wp_at_succ

theorem pn8 (f : Nat → Nat) : pn f 8 = num8 f := by
  unfold num8
  simp only [pn, Nat.pow_zero, Nat.mul_one, Nat.pow_one, show (256 : Nat) ^ 2 = 65536 from rfl, show (256 : Nat) ^ 3 = 16777216 from rfl, show (256 : Nat) ^ 4 = 4294967296 from rfl, show (256 : Nat) ^ 5 = 1099511627776 from rfl, show (256 : Nat) ^ 6 = 281474976710656 from rfl, show (256 : Nat) ^ 7 = 72057594037927936 from rfl]
  omega
theorem pn_mkN (l : List Nat) : pn (fun i => l.getD (0 + i) 0) 8 = mkN l := by
  rw [pn8]
  exact num8_congr (fun i _ => by rw [Nat.zero_add])
theorem pn_mkU (l : List Nat) : pn (fun i => l.getD (8 + i) 0) 8 = mkU l := pn8 _
/-- The value may be that of a disk with so much room. -/
def rvOk (l : List Nat) (r : Nat) : Prop := mkN l ≤ mkU l ∧ mkU l ≤ r ∧ l = pd (mkf (mkN l) (mkU l)) 16
def RvP (w : World) (l : List Nat) (r : Nat) (e : Ending) (w' : World) : Prop := Below w.heap.size w w' ∧ ((rvOk l r ∧ e = .returned (.tuple #[.int .i64 (mkN l : Int), .int .i64 (mkU l : Int), .bool true])) ∨ (¬ rvOk l r ∧ ∃ a b : Int, e = .returned (.tuple #[.int .i64 a, .int .i64 b, .bool false])))
set_option maxRecDepth 100000 in
set_option maxHeartbeats 8000000 in
theorem readval_n {w : World} {g : Nat} {l : List Nat} (h : w.rangeAt g 0 (cells8 l)) (hl : sec l) (hg : g < w.heap.size) {r : Nat} (hr : r ≤ 4096) : Calls Try.prog 24 #[s64 g, .int .i64 (r : Int)] w (RvP w l r) := by
  obtain ⟨c, hc⟩ : ∃ c, c = mkN l := ⟨_, rfl⟩
  obtain ⟨t, ht⟩ : ∃ t, t = mkU l := ⟨_, rfl⟩
  have hdr : Below w.heap.size w w.drew := Go.Proofs.Ytpophfeommlajaa.K.drew (Below.refl _ _)
  have hrd : w.drew.rangeAt g 0 (cells8 l) := fun j v hv => later hdr (h j v hv)
  have HL1 : Hid (Calls Try.prog 62 #[.slice (some ⟨g, 0, none⟩) 8 64] w.drew fun e w' => e = .returned (.int .u64 (c : Int)) ∧ w' = w.drew) := by
    have h1 := little_n (c := 64) (getD_ba hrd hl.2 (o := 0) (k := 8) (by rw [hl.1]; omega)) (by omega) (by omega)
    rw [pn_mkN, ← hc] at h1
    exact h1
  have HL2 : Hid (Calls Try.prog 62 #[.slice (some ⟨g, 8, none⟩) 8 56] w.drew fun e w' => e = .returned (.int .u64 (t : Int)) ∧ w' = w.drew) := by
    have h1 := little_n (c := 56) (getD_ba hrd hl.2 (o := 8) (k := 8) (by rw [hl.1]; omega)) (by omega) (by omega)
    rw [pn_mkU, ← ht] at h1
    exact h1
  have HDr := hide hdr
  have HRd := hide hrd
  have HS := hide hl
  have HCt := hide (And.intro hc ht)
  have HG := hide hg
  clear h hdr hrd hl hc ht hg
  go_enter Try.func24, Try.ntmps24
  go_upto_region 1 with fail
  refine wp_region_noPanic ?_
  refine wp_region_held_drew (S := fun _ => True) (by kernel_rfl) trivial (fun hS0 => ?_)
  refine wpAnyH_take (i := 0) (v := s64 g) rfl (by kernel_rfl) (by kernel_rfl) (by kernel_rfl) (fun _ _ _ h => h) (Or.inl ⟨by rfl, fun w' _ => by go_simp⟩) hS0 ?_
  simp only [Act.put, List.getElem_toArray, List.getElem_cons_zero, List.setIfInBounds_toArray, List.set_cons_zero, List.set_cons_succ]
  refine wpAnyH_take (i := 1) (v := .slice (some ⟨g, 0, none⟩) 8 64) rfl (by kernel_rfl) (by kernel_rfl) (by kernel_rfl) (fun _ _ _ h => h) (Or.inl ⟨by rfl, fun w' _ => by go_simp⟩) hS0 ?_
  simp only [Act.put, List.getElem_toArray, List.getElem_cons_zero, List.getElem_cons_succ, List.setIfInBounds_toArray, List.set_cons_zero, List.set_cons_succ]
  refine wpAnyH_take (i := 3) (v := s64 g) rfl (by kernel_rfl) (by kernel_rfl) (by kernel_rfl) (fun _ _ _ h => h) (Or.inl ⟨by rfl, fun w' _ => by go_simp⟩) hS0 ?_
  simp only [Act.put, List.getElem_toArray, List.getElem_cons_zero, List.getElem_cons_succ, List.setIfInBounds_toArray, List.set_cons_zero, List.set_cons_succ]
  refine wpAnyH_take (i := 4) (v := .slice (some ⟨g, 8, none⟩) 8 56) rfl (by kernel_rfl) (by kernel_rfl) (by kernel_rfl) (fun _ _ _ h => h) (Or.inl ⟨by rfl, fun w' _ => by go_simp⟩) hS0 ?_
  simp only [Act.put, List.getElem_toArray, List.getElem_cons_zero, List.getElem_cons_succ, List.setIfInBounds_toArray, List.set_cons_zero, List.set_cons_succ]
  refine wpAnyH_ready (rs := [2]) (by kernel_rfl) (by simp) (AllReadyH.cons rfl (fun Kt hK => ?_) AllReadyH.nil)
  refine wanted_pos rfl ?_
  refine wp_call (R := fun x w' => x = .int .u64 (c : Int) ∧ w' = w.drew) (vs := #[.slice (some ⟨g, 0, none⟩) 8 64]) rfl (by simp only [List.map_toArray, List.map_cons, List.map_nil]; rfl) (by go_simp) (Calls.mono HL1.out (fun e w' he => ⟨_, he.1, rfl, he.2⟩)) (fun x W6 hr => ?_)
  obtain ⟨hx, rfl⟩ := hr
  subst hx
  refine hK.out _ _ hS0 (fun _ => ?_)
  clear hK Kt
  simp only [Act.put, List.getElem_toArray, List.getElem_cons_zero, List.getElem_cons_succ, List.setIfInBounds_toArray, List.set_cons_zero, List.set_cons_succ]
  refine wpAnyH_ready (rs := [5]) (by kernel_rfl) (by simp) (AllReadyH.cons rfl (fun Kt hK => ?_) AllReadyH.nil)
  refine wanted_pos rfl ?_
  refine wp_call (R := fun x w' => x = .int .u64 (t : Int) ∧ w' = w.drew) (vs := #[.slice (some ⟨g, 8, none⟩) 8 56]) rfl (by simp only [List.map_toArray, List.map_cons, List.map_nil]; rfl) (by go_simp) (Calls.mono HL2.out (fun e w' he => ⟨_, he.1, rfl, he.2⟩)) (fun x W6 hr => ?_)
  obtain ⟨hx, rfl⟩ := hr
  subst hx
  refine hK.out _ _ hS0 (fun _ => ?_)
  clear hK Kt
  simp only [Act.put, List.getElem_toArray, List.getElem_cons_zero, List.getElem_cons_succ, List.setIfInBounds_toArray, List.set_cons_zero, List.set_cons_succ]
  refine wpAnyH_take (i := 6) (v := .int .u64 (c : Int)) rfl (by kernel_rfl) (by kernel_rfl) (by kernel_rfl) (fun _ _ _ h => h) (Or.inl ⟨by rfl, fun w' _ => by go_simp⟩) hS0 ?_
  simp only [Act.put, List.getElem_toArray, List.getElem_cons_zero, List.getElem_cons_succ, List.setIfInBounds_toArray, List.set_cons_zero, List.set_cons_succ]
  refine wpAnyH_take (i := 7) (v := .int .u64 (t : Int)) rfl (by kernel_rfl) (by kernel_rfl) (by kernel_rfl) (fun _ _ _ h => h) (Or.inl ⟨by rfl, fun w' _ => by go_simp⟩) hS0 ?_
  simp only [Act.put, List.getElem_toArray, List.getElem_cons_zero, List.getElem_cons_succ, List.setIfInBounds_toArray, List.set_cons_zero, List.set_cons_succ]
  refine wpAnyH_done (by kernel_rfl) ?_ _
  refine NoPanic.normal ?_
  have HN : Hid (∀ (a b : Int) (w' : World), ¬ (c ≤ t ∧ t ≤ r ∧ l = pd (mkf c t) 16) → Below w.heap.size w w' → RvP w l r (.returned (.tuple #[.int .i64 a, .int .i64 b, .bool false])) w') := fun a b w' hn hB => ⟨hB, Or.inr ⟨by unfold rvOk; rw [← HCt.out.1, ← HCt.out.2]; exact hn, a, b, rfl⟩⟩
  have HY : Hid (∀ (w' : World), (c ≤ t ∧ t ≤ r ∧ l = pd (mkf c t) 16) → Below w.heap.size w w' → RvP w l r (.returned (.tuple #[.int .i64 (c : Int), .int .i64 (t : Int), .bool true])) w') := fun w' hn hB => ⟨hB, Or.inl ⟨by unfold rvOk; rw [← HCt.out.1, ← HCt.out.2]; exact hn, by rw [← HCt.out.1, ← HCt.out.2]⟩⟩
  by_cases h1 : c ≤ t
  · by_cases h2 : t ≤ r
    · have HV := hide (value_n (w := w.drew) (n := c) (u := t) (by omega) (by omega))
      have HPz : Hid (sec (pd (mkf c t) 16)) := pd_sec (mkf_lt c t) 16
      go_upto_region 5 with fail
      have HQ : Hid (∀ (W : World) (g2 : Nat), Below w.drew.heap.size w.drew W → Rw W g2 64 (pz (mkf c t) 16) → Calls Try.prog 59 #[s64 g, s64 g2] W fun e w' => e = .returned (.bool (decide (l = pd (mkf c t) 16))) ∧ w' = W) := fun W g2 hB hR =>
        eq_any (fun j v hv => later hB (HRd.out j v hv)) HS.out (hR.rng (Nat.le_refl _)) HPz.out
      by_cases h3 : l = pd (mkf c t) 16
      · have hd : decide (l = pd (mkf c t) 16) = true := decide_eq_true h3
        rw [hd] at HQ
        have H3 := hide h3
        clear h3
        go_wp2_with (first
          | (go_at_call 59; refine Calls.mono (HQ.out _ _ HV2.out.2 HV2.out.1) ?_; rintro e W2 ⟨rfl, rfl⟩)
          | (go_at_call 63; refine Calls.mono HV.out ?_; rintro e W2 ⟨g2, rfl, _, _, hr2, hb2⟩; have HV2 := hide (And.intro hr2 hb2); clear hr2 hb2))
        exact bodyPost_ret (by simp [results, Try.results24]) rfl (HY.out _ ⟨h1, h2, H3.out⟩ (HDr.out.trans HV2.out.2))
      · have hd : decide (l = pd (mkf c t) 16) = false := decide_eq_false h3
        rw [hd] at HQ
        have H3 := hide h3
        clear h3
        go_wp2_with (first
          | (go_at_call 59; refine Calls.mono (HQ.out _ _ HV2.out.2 HV2.out.1) ?_; rintro e W2 ⟨rfl, rfl⟩)
          | (go_at_call 63; refine Calls.mono HV.out ?_; rintro e W2 ⟨g2, rfl, _, _, hr2, hb2⟩; have HV2 := hide (And.intro hr2 hb2); clear hr2 hb2))
        exact bodyPost_ret (by simp [results, Try.results24]) rfl (HN.out c t _ (fun hh => H3.out hh.2.2) (HDr.out.trans HV2.out.2))
    · have h2' : (r : Int) < (t : Int) := by omega
      go_wp2_with fail
      exact bodyPost_ret (by simp [results, Try.results24]) rfl (HN.out 0 0 _ (fun hh => h2 hh.2.1) HDr.out)
  · have h1' : (t : Int) < (c : Int) := by omega
    go_wp2_with fail
    exact bodyPost_ret (by simp [results, Try.results24]) rfl (HN.out 0 0 _ (fun hh => h1 hh.1) HDr.out)
theorem opn_lt {v : List Nat} {C : Nat → List Nat} {N : Nat} (hC : ∀ i, (C i).length = 64) (hN : N ≤ 4096) (h : mkU v < mkN v) : opn v C N = none := by
  cases e : opn v C N with
  | none => rfl
  | some l =>
    obtain ⟨_, h2, h3⟩ := lays_opn hC e
    have hl := tks_len l
    have e1 : mkN (mkv l) = l.length := mkN_of (by omega)
    have e2 : mkU (mkv l) = tks l := mkU_of (by omega)
    rw [h2, e1, e2] at h
    omega
/-- What Open looks at is what the document looks at. -/
theorem opn_rv {v : List Nat} {C : Nat → List Nat} {N : Nat} (hC : ∀ i, (C i).length = 64) (hN : N ≤ 4096) (h3 : 3 ≤ N) : (rvOk v (N - 3) → opn v C N = prz C (mkN v) (mkU v)) ∧ (¬ rvOk v (N - 3) → opn v C N = none) := by
  refine ⟨fun h => ?_, fun h => ?_⟩
  · unfold opn
    rw [if_pos ⟨h.2.2, by have := h.2.1; omega⟩]
    rfl
  · by_cases h1 : mkU v < mkN v
    · exact opn_lt hC hN h1
    · unfold opn
      rw [if_neg]
      rintro ⟨h2, h4⟩
      exact h ⟨by omega, by omega, h2⟩
/-- A store that was opened, in memory that is new since W. -/
structure PoR (W wr : World) (t b : Nat) (vk : Value) (l : List (List Nat)) (ck : List Value) : Prop where
  k : Below W.heap.size W wr
  c0 : wr.cell? ⟨t, 0, none⟩ = some (pp b)
  c1 : wr.cell? ⟨t, 1, none⟩ = some vk
  c2 : wr.cell? ⟨t, 2, none⟩ = some (.slice none 0 0)
  c3 : wr.cell? ⟨t, 3, none⟩ = some (.int .i64 (3 + (tks l : Int)))
  c4 : wr.cell? ⟨t, 4, none⟩ = some (.int .i64 (3 + (tks l : Int)))
  c5 : wr.cell? ⟨t, 5, none⟩ = some (.bool false)
  z : ∀ i, i < 6 → wr.frozen? ⟨t, i, none⟩ = false
  tg : W.heap.size ≤ t
  tl : t < wr.heap.size
  s : Lst wr W.heap.size (Xo W.heap.size t) vk l ck
def PoP (w : World) (b lb mb : Nat) (D : DM) (e : Ending) (w' : World) : Prop := ∃ W, Dsk W b lb mb (D.mendD 0) ∧ Kp (X3 b lb mb) w W ∧ Below W.heap.size W w' ∧ ((D.opE = 0 ∧ ∃ t vk ck, e = .returned (.tuple #[pp t, .int .i64 0]) ∧ PoR W w' t b vk D.opL ck ∧ lays (D.mendD 0).cur 0 D.opL ∧ tks D.opL + 3 ≤ D.n) ∨ (D.opE ≠ 0 ∧ e = .returned (.tuple #[.pointer none, .int .i64 D.opE])))
theorem PoR.new {W wr : World} {b : Nat} {vk : Value} {l : List (List Nat)} {ck : List Value} (hB : Below W.heap.size W wr) (hs : Lst wr W.heap.size (Xl W.heap.size) vk l ck) : PoR W (wr.alloc (.cells #[pp b, vk, .slice none 0 0, .int .i64 (3 + (tks l : Int)), .int .i64 (3 + (tks l : Int)), .bool false] 68)) wr.heap.size b vk l ck := by
  have hh : (wr.alloc (.cells #[pp b, vk, .slice none 0 0, .int .i64 (3 + (tks l : Int)), .int .i64 (3 + (tks l : Int)), .bool false] 68)).heap[wr.heap.size]? = some _ := heap_alloc_new wr _
  refine ⟨K.alloc hB _, ?_, ?_, ?_, ?_, ?_, ?_, fun i _ => ?_, hB.size, by simp, ?_⟩
  · exact (cell_of_row _ _ _ _ _ _ hh).trans rfl
  · exact (cell_of_row _ _ _ _ _ _ hh).trans rfl
  · exact (cell_of_row _ _ _ _ _ _ hh).trans rfl
  · exact (cell_of_row _ _ _ _ _ _ hh).trans rfl
  · exact (cell_of_row _ _ _ _ _ _ hh).trans rfl
  · exact (cell_of_row _ _ _ _ _ _ hh).trans rfl
  · unfold World.frozen?
    simp only [hh]
    show (decide (0 ≤ i) && decide (i < 0)) = false
    simp
  · refine (hs.more (fun k hk => ?_)).keep (K.alloc (Below.refl _ _) _)
    rcases Xo_of.1 hk with h1 | h1
    · exact Or.inl (Xl_of.2 h1)
    · exact Or.inr (by rw [h1]; exact Nat.le_refl _)
theorem Lst.base {w : World} {b1 b2 : Nat} {X : Nat → Bool} {v : Value} {L : List (List Nat)} {cs : List Value} (h : Lst w b1 X v L cs) (hb : b2 ≤ b1) : Lst w b2 X v L cs := by
  refine ⟨⟨h.o.1, ?_⟩, h.x, h.e⟩
  rcases h.o.2 with h0 | ⟨g, cap, cur, e, hg, r⟩
  · exact Or.inl h0
  · exact Or.inr ⟨g, cap, cur, e, Nat.le_trans hb hg, r⟩
set_option maxRecDepth 100000 in
set_option maxHeartbeats 8000000 in
theorem open_n {w : World} {b lb mb : Nat} {D : DM} (h : Dsk w b lb mb D) : Calls Try.prog 8 #[pp b] w (PoP w b lb mb D) := by
  have HD := hide h
  have HM := hide (mend_any h (a := 0) (by unfold few9; omega))
  by_cases he : D.mendE 0 = 0
  · obtain ⟨_, o2, o3, o4, _, o6, o7⟩ := mend_ok (a := 0) he
    replace o3 : (D.mendD 0).dn = false := o3
    replace o4 : (D.mendD 0).n = D.n := o4
    replace o6 : (D.mendD 0).ldE 0 = 0 := o6
    rw [he] at HM
    clear h
    go_enter Try.func8, Try.ntmps8
    go_upto_region 4 with (go_at_call 22; refine Calls.mono HM.out ?_; rintro e W1 ⟨rfl, hD1, hK1⟩; have HD1 := hide hD1; have HK1 := hide hK1; clear hD1 hK1)
    obtain ⟨v, hv⟩ : ∃ v, v = (D.mendD 0).ldB 0 := ⟨_, rfl⟩
    have hvs : sec v := by rw [hv]; exact ldB_sec HD1.out.ok o6
    have HLd : Hid (Calls Try.prog 23 #[pp b, .int .i64 0] W1 fun e w' => ∃ g, e = .returned (.tuple #[s64 g, .int .i64 0]) ∧ Got W1 w' g v ∧ Below W1.heap.size W1 w') := by
      refine Calls.mono (load_any HD1.out (a := 0) (by unfold few9; omega)) ?_
      rintro e w' ⟨x, rfl, hn, hB⟩
      rw [o6, ← hv] at *
      rcases hn with ⟨e0, _⟩ | ⟨q2, rfl, h1, h2, hr⟩
      · have := hvs.1
        rw [e0] at this
        cases this
      · rw [hvs.1]
        exact ⟨q2, rfl, ⟨h1, h2, hr⟩, hB⟩
    have HO := hide (And.intro o2 (And.intro o3 (And.intro o4 hv)))
    have HVs := hide hvs
    have HE := hide he
    have HnB := hide HD1.out.ok.n
    clear o2 o3 o4 o6 o7 hv hvs he
    go_upto_region 7 with (go_at_call 23; refine Calls.mono HLd.out ?_; rintro e W2 ⟨g, rfl, hG, hB2⟩; have HG := hide hG; have HB2 := hide hB2; clear hG hB2)
    have HD2 := hide (HD1.out.keep HB2.out)
    have hw3 : wrap64 (((D.mendD 0).n : Int) - 3) = ((D.mendD 0).n : Int) - 3 := by have := HnB.out; exact w_id (by omega) (by omega)
    have HRv : Hid (Calls Try.prog 24 #[s64 g, .int .i64 (((D.mendD 0).n : Int) - 3)] W2 (RvP W2 v ((D.mendD 0).n - 3))) := by
      have h5 := readval_n HG.out.r HVs.out HG.out.lt (r := (D.mendD 0).n - 3) (by have := HnB.out; omega)
      have h6 := HO.out.1
      have h7 := HO.out.2.2.1
      rw [show (((D.mendD 0).n - 3 : Nat) : Int) = ((D.mendD 0).n : Int) - 3 by omega] at h5
      exact h5
    have HOp := hide (opn_rv (v := v) (C := (D.mendD 0).cur) (N := (D.mendD 0).n) (fun i => (DM.cur_sec HD1.out.ok i).1) HnB.out (by have := HO.out.1; have := HO.out.2.2.1; omega))
    have HoE : Hid (D.opO = opn v (D.mendD 0).cur (D.mendD 0).n) := by unfold DM.opO; rw [HO.out.2.2.2, HO.out.2.2.1]; exact rfl
    by_cases hrv : rvOk v ((D.mendD 0).n - 3)
    · have HRv2 : Hid (Calls Try.prog 24 #[s64 g, .int .i64 (((D.mendD 0).n : Int) - 3)] W2 fun e w' => e = .returned (.tuple #[.int .i64 (mkN v : Int), .int .i64 (mkU v : Int), .bool true]) ∧ Below W2.heap.size W2 w') := by
        refine Calls.mono HRv.out ?_
        rintro e w' ⟨hB, ⟨_, rfl⟩ | ⟨hn, _⟩⟩
        · exact ⟨rfl, hB⟩
        · exact absurd hrv hn
      have HoZ : Hid (D.opO = prz (D.mendD 0).cur (mkN v) (mkU v)) := HoE.out.trans (HOp.out.1 hrv)
      have hU : 3 + mkU v ≤ (D.mendD 0).n := by have := hrv.2.1; have := HO.out.1; have := HO.out.2.2.1; omega
      have hN : mkN v ≤ 4096 := by have := hrv.1; have := HnB.out; omega
      have hw4 : wrap64 (3 + (mkU v : Int)) = 3 + (mkU v : Int) := by have := HnB.out; exact w63 (by omega) (by omega)
      clear hrv HRv HOp HoE
      go_upto_region 10 with (first
        | (go_at_call 25; refine Calls.mono (size_any HD2.out) ?_; rintro e W2 ⟨rfl, rfl⟩)
        | (go_at_call 24; refine Calls.mono HRv2.out ?_; rintro e W3 ⟨rfl, hB3⟩; have HB3 := hide hB3; clear hB3))
      have HEs : Hid (Calls Try.prog 26 #[pp b, .int .i64 (mkN v : Int), .int .i64 (3 + (mkU v : Int))] W3 (EsP W3 (D.mendD 0).cur (mkN v) (mkU v))) := by
        have h5 := entries_n (HD2.out.keep HB3.out) HO.out.2.1 (n := mkN v) (u := mkU v) (z := 3 + mkU v) rfl hU hN
        rw [show ((3 + mkU v : Nat) : Int) = 3 + (mkU v : Int) by omega] at h5
        exact h5
      cases hz : prz (D.mendD 0).cur (mkN v) (mkU v) with
      | none =>
        have HEs2 : Hid (Calls Try.prog 26 #[pp b, .int .i64 (mkN v : Int), .int .i64 (3 + (mkU v : Int))] W3 fun e w' => e = .returned (.tuple #[.slice none 0 0, .int .i64 2]) ∧ Below W3.heap.size W3 w') := by
          refine Calls.mono HEs.out ?_
          rintro e w' ⟨hB, ⟨_, rfl⟩ | ⟨l, _, _, hn, _⟩⟩
          · exact ⟨rfl, hB⟩
          · rw [hz] at hn; cases hn
        have HoN : Hid (D.opO = none) := HoZ.out.trans hz
        clear hz HEs HoZ
        go_wp2_with (go_at_call 26; refine Calls.mono HEs2.out ?_; rintro e W4 ⟨rfl, hB4⟩; have HB4 := hide hB4; clear hB4)
        have hE2 : D.opE = 2 := by unfold DM.opE; rw [if_pos HE.out, HoN.out]; rfl
        have hP : PoP w b lb mb D (.returned (.tuple #[.pointer none, .int .i64 2])) W4 := ⟨W1, HD1.out, HK1.out, HB2.out.trans ((HB3.out.trans (HB4.out.mono HB3.out.size)).mono HB2.out.size), Or.inr ⟨by rw [hE2]; decide, by rw [hE2]⟩⟩
        exact bodyPost_ret (by simp [results, Try.results8]) rfl hP
      | some l =>
        have HEs2 : Hid (Calls Try.prog 26 #[pp b, .int .i64 (mkN v : Int), .int .i64 (3 + (mkU v : Int))] W3 fun e w' => ∃ vk cs, e = .returned (.tuple #[vk, .int .i64 0]) ∧ Lst w' W3.heap.size (Xl W3.heap.size) vk l cs ∧ lays (D.mendD 0).cur 0 l ∧ Below W3.heap.size W3 w') := by
          refine Calls.mono HEs.out ?_
          rintro e w' ⟨hB, ⟨hn, _⟩ | ⟨l2, vk, cs, hn, rfl, h1, h2⟩⟩
          · rw [hz] at hn; cases hn
          · rw [hz] at hn
            cases hn
            exact ⟨vk, cs, rfl, h1, h2, hB⟩
        have HoS : Hid (D.opO = some l) := HoZ.out.trans hz
        have HtU : Hid (tks l = mkU v) := by
          unfold prz at hz
          split at hz
          · rename_i l3 e3 hp
            split at hz
            · rename_i h9
              cases hz
              obtain ⟨_, _, q3⟩ := lays_prs (fun i => (DM.cur_sec HD1.out.ok i).1) hp
              rw [Nat.zero_add] at q3
              exact q3.symm.trans h9
            · cases hz
          · cases hz
        clear hz HEs HoZ
        go_upto_region 13 with (go_at_call 26; refine Calls.mono HEs2.out ?_; rintro e W4 ⟨vk, cs, rfl, hs4, hl4, hB4⟩; have HB4 := hide hB4; have HS4 := hide hs4; have HL4 := hide hl4; obtain ⟨zk, kc, ek, _⟩ := hs4.shape; clear hB4 hs4 hl4; subst ek)
        go_wp2_with fail
        have hE2 : D.opE = 0 := by unfold DM.opE; rw [if_pos HE.out, HoS.out]; rfl
        have hL2 : D.opL = l := by unfold DM.opL; rw [HoS.out]; rfl
        have hB14 : Below W1.heap.size W1 W4 := HB2.out.trans ((HB3.out.trans (HB4.out.mono HB3.out.size)).mono HB2.out.size)
        have hsz : W1.heap.size ≤ W3.heap.size := Nat.le_trans HB2.out.size HB3.out.size
        have hPo := PoR.new (b := b) hB14 ((HS4.out.base hsz).sub (fun k hk => Xl_of.2 (Nat.lt_of_lt_of_le (Xl_of.1 hk) hsz)))
        have hP : PoP w b lb mb D (.returned (.tuple #[pp W4.heap.size, .int .i64 0])) _ := ⟨W1, HD1.out, HK1.out, hPo.k, Or.inl ⟨hE2, _, _, cs, rfl, by rw [hL2]; exact hPo, by rw [hL2]; exact HL4.out, by rw [hL2, HtU.out, ← HO.out.2.2.1]; omega⟩⟩
        rw [HtU.out] at hP
        exact bodyPost_ret (by simp [results, Try.results8]) rfl hP
    · have HRv2 : Hid (Calls Try.prog 24 #[s64 g, .int .i64 (((D.mendD 0).n : Int) - 3)] W2 fun e w' => ∃ x y : Int, e = .returned (.tuple #[.int .i64 x, .int .i64 y, .bool false]) ∧ Below W2.heap.size W2 w') := by
        refine Calls.mono HRv.out ?_
        rintro e w' ⟨hB, ⟨hn, _⟩ | ⟨_, x, y, rfl⟩⟩
        · exact absurd hn hrv
        · exact ⟨x, y, rfl, hB⟩
      have HoN : Hid (D.opO = none) := HoE.out.trans (HOp.out.2 hrv)
      clear hrv HRv HOp HoE
      go_wp2_with (first
        | (go_at_call 25; refine Calls.mono (size_any HD2.out) ?_; rintro e W2 ⟨rfl, rfl⟩)
        | (go_at_call 24; refine Calls.mono HRv2.out ?_; rintro e W3 ⟨x, y, rfl, hB3⟩; have HB3 := hide hB3; clear hB3))
      have hE2 : D.opE = 2 := by unfold DM.opE; rw [if_pos HE.out, HoN.out]; rfl
      have hP : PoP w b lb mb D (.returned (.tuple #[.pointer none, .int .i64 2])) W3 := ⟨W1, HD1.out, HK1.out, HB2.out.trans (HB3.out.mono HB2.out.size), Or.inr ⟨by rw [hE2]; decide, by rw [hE2]⟩⟩
      exact bodyPost_ret (by simp [results, Try.results8]) rfl hP
  · have hne : (D.mendE 0 != 0) = true := by simp [he]
    have hE2 : D.opE = D.mendE 0 := by unfold DM.opE; rw [if_neg he]
    obtain ⟨er, her⟩ : ∃ er, er = D.mendE 0 := ⟨_, rfl⟩
    rw [← her] at hne HM
    have HEr := hide (And.intro he (And.intro hE2 her))
    clear h he hE2 her
    go_enter Try.func8, Try.ntmps8
    go_wp2_with (go_at_call 22; refine Calls.mono HM.out ?_; rintro e W1 ⟨rfl, hD1, hK1⟩; have HD1 := hide hD1; have HK1 := hide hK1; clear hD1 hK1)
    have hP : PoP w b lb mb D (.returned (.tuple #[.pointer none, .int .i64 er])) W1 := ⟨W1, HD1.out, HK1.out, Below.refl _ _, Or.inr ⟨by rw [HEr.out.2.1]; exact HEr.out.1, by rw [HEr.out.2.1, ← HEr.out.2.2]⟩⟩
    exact bodyPost_ret (by simp [results, Try.results8]) rfl hP
end Go.Proofs.Ytpophfeommlajaa
namespace Go.Proofs.Ytpophfeommlajaa
set_option maxRecDepth 100000
open Go.RowKit Go.Maps
attribute [local go_sem ↓] Go.wp_at_zero Go.wp_at_succ

theorem Kp.mono {X Y : Nat → Bool} {w w' : World} (h : Kp X w w') (hY : ∀ g, X g = true → Y g = true) : Kp Y w w' := ⟨h.os, h.tape, h.output, h.size, fun k hk hx => h.block k hk (by
  cases hy : X k with
  | false => rfl
  | true => rw [hY k hy] at hx; cases hx)⟩
theorem Xu_of {Y : Nat → Bool} {t g : Nat} (h : Y g = true ∨ g = t) : Xu Y t g = true := by
  unfold Xu
  rcases h with h | h
  · rw [h, Bool.true_or]
  · rw [h, show Nat.beq t t = true from Nat.beq_refl t, Bool.or_true]
theorem Xu_inv {Y : Nat → Bool} {t g : Nat} (h : Xu Y t g = true) : Y g = true ∨ g = t := by
  unfold Xu at h
  rcases Bool.or_eq_true _ _ |>.mp h with h1 | h1
  · exact Or.inl h1
  · exact Or.inr (Nat.eq_of_beq_eq_true h1)
/-- A list is appended to a list of one's own. -/
theorem run_appL {w : World} {base : Nat} {v : Value} {n : Nat} {xs : List Value} (hown : w.ownsRow base 38 1 v n xs) {b2 m : Nat} {v2 : Value} {ys : List Value} (h2 : w.ownsRow b2 38 1 v2 m ys) (h1 : ∀ u ∈ ys, u.oneCell' = true) (hb : n + m ≤ 1000000) (hbase : base ≤ w.heap.size) (ty : TypeId) :
    ∃ v' w', (Builtin.append_ #[47, 47] ty #[v, v2]).run Try.prog w = .ok v' w' ∧ w'.ownsRow base 38 1 v' (n + m) (xs ++ ys) ∧ w.grownBy w' v.ownBlock ∧ (v'.ownBlock = v.ownBlock ∨ v'.ownBlock = some w.heap.size) := by
  obtain ⟨i0, hi, hz0, hz1, hz2⟩ := info_parts infoBy
  rcases Nat.eq_zero_or_pos m with h0 | h0
  · subst h0
    have hy : ys = [] := List.eq_nil_of_length_eq_zero (by have := h2.1; omega)
    obtain ⟨z, c, e⟩ : ∃ z c, v2 = .slice z 0 c := by
      rcases h2.2 with ⟨e, _⟩ | ⟨g, cap, cur, e, _⟩
      · exact ⟨_, _, e⟩
      · exact ⟨_, _, e⟩
    subst e
    refine ⟨v, w, run_append_zero w base _ _ 38 i0 1 Try.underlying47 hi v n _ hown z c, ?_, World.grownBy.refl _ _, Or.inl rfl⟩
    rw [hy, List.append_nil]
    exact hown
  · obtain ⟨q, cap, rfl, hc⟩ := own_form h2 h0
    have hl : ys.length = m := by have := h2.1; omega
    obtain ⟨v', w', k1, k2, k3, _, k5⟩ := run_append_own_at (P := Try.prog) w base 47 ty 38 i0 (.slice none 0 0) 1 24 Try.underlying47 hi hz0 hz1 hz2 rfl (by decide) v n _ hown ⟨q, 0, none⟩ m cap ys (by omega) (fun j u hu => by
      have hj : j < m := by rw [← hl]; exact (List.getElem?_eq_some_iff.1 hu).1
      rw [Addr.add_mid, Nat.zero_add, hc j hj]
      exact hu) h1 (by unfold maxLen; omega) (by omega) hbase
    exact ⟨v', w', k1, k2, k3, k5⟩
theorem wpList_appL {w : World} {ops : Array Oper} {rest : List Oper} {o : Oper} {a : Act} {Q : Exit → Act → World → Prop} (hgd : o.guard = none) (s x : Operand) (hop : o.op = .call { callee := .builtin .append, args := #[s, x], argTypes := #[47, 47] })
    {base : Nat} {v : Value} {n : Nat} {xs : List Value} (hs : a.eval s = v) (hown : w.ownsRow base 38 1 v n xs) {b2 m : Nat} {v2 : Value} {ys : List Value} (hx : a.eval x = v2) (h2 : w.ownsRow b2 38 1 v2 m ys) (h1 : ∀ u ∈ ys, u.oneCell' = true) (hb : n + m ≤ 1000000) (hbase : base ≤ w.heap.size)
    (hK : ∀ v' w', w'.ownsRow base 38 1 v' (n + m) (xs ++ ys) → w.grownBy w' v.ownBlock → (v'.ownBlock = v.ownBlock ∨ v'.ownBlock = some w.heap.size) → wpList Try.prog ops Q rest (a.put o.dst v') w') : wpList Try.prog ops Q (o :: rest) a w := by
  refine wpList_plain hgd fun K' hK' => ?_
  obtain ⟨v', w', hr, k2, k3, k4⟩ := run_appL hown h2 h1 hb hbase o.type
  unfold Oper.wp execOp
  simp only [hop, resolve, invoke, builtin, Sem.run_bind, Sem.run_pure, Result.andThen_ok, List.map_toArray, List.map_cons, List.map_nil, hs, hx, hr]
  exact hK' _ _ (hK v' w' k2 k3 k4)
theorem Lst.one {w : World} {base : Nat} {X : Nat → Bool} {v : Value} {L : List (List Nat)} {cs : List Value} (h : Lst w base X v L cs) : ∀ u ∈ cs, u.oneCell' = true := fun u hu => by
  obtain ⟨i, hi⟩ := List.mem_iff_getElem?.1 hu
  have hl : cs.length = L.length := by have := h.o.1; omega
  have : i < L.length := by rw [← hl]; exact (List.getElem?_eq_some_iff.1 hi).1
  obtain ⟨x, m, c, f, h1, _⟩ := h.e i _ (List.getElem?_eq_getElem this)
  rw [hi] at h1
  cases h1
  rfl
/-- Two lists one behind the other. -/
theorem Lst.cat {w w' : World} {base b2 : Nat} {X X2 : Nat → Bool} {v v2 v' : Value} {A B : List (List Nat)} {ca cb : List Value} (h : Lst w base X v A ca) (h2 : Lst w b2 X2 v2 B cb) (hX : ∀ k, X k = true → k < w.heap.size) (hsub : ∀ g, X g = true ∨ v.ownBlock = some g → X2 g = true)
    (ho : w'.ownsRow base 38 1 v' (A.length + B.length) (ca ++ cb)) (hG : w.grownBy w' v.ownBlock) (hat : v'.ownBlock = v.ownBlock ∨ v'.ownBlock = some w.heap.size) : Lst w' base X v' (A ++ B) (ca ++ cb) := by
  have hla : ca.length = A.length := by have := h.o.1; omega
  have old : ∀ q, q < w.heap.size → v.ownBlock ≠ some q → v'.ownBlock ≠ some q := fun q hq hne e => by
    rcases hat with e2 | e2
    · exact hne (e2.symm.trans e)
    · rw [e2] at e
      have := Option.some.inj e
      omega
  have hk : ∀ {x : Option Addr} {m : Nat} {f : Nat → Nat}, BA w x m f → (0 < m → ∀ p, x = some p → X p.block = false ∧ v.ownBlock ≠ some p.block) → BA w' x m f ∧ (0 < m → ∀ p, x = some p → X p.block = false ∧ v'.ownBlock ≠ some p.block) := fun hb hx =>
    ⟨ba_same hb (fun hm p hp hlt => hG.block _ hlt (fun e => (hx hm p hp).2 e.symm)), fun hm p hp => ⟨(hx hm p hp).1, by
      obtain ⟨b, o, e, hlt⟩ := ba_lt hb hm
      rw [hp] at e
      obtain rfl := Option.some.inj e
      exact old b hlt (hx hm _ hp).2⟩⟩
  refine ⟨by rw [List.length_append]; exact ho, fun g hg => ?_, fun j l hl => ?_⟩
  · rcases hat with e | e
    · exact h.x g (e.symm.trans hg)
    · rw [e] at hg
      cases hg
      cases hq : X w.heap.size with
      | false => rfl
      | true => have := hX _ hq; omega
  · by_cases hj : j < A.length
    · rw [List.getElem?_append_left hj] at hl
      obtain ⟨x1, m1, c1, f1, h1, h2', h3, h4⟩ := h.e j l hl
      obtain ⟨k1, k2⟩ := hk h2' h4
      exact ⟨x1, m1, c1, f1, by rw [List.getElem?_append_left (by omega)]; exact h1, k1, h3, k2⟩
    · rw [List.getElem?_append_right (by omega)] at hl
      obtain ⟨x1, m1, c1, f1, h1, h2', h3, h4⟩ := h2.e _ l hl
      obtain ⟨k1, k2⟩ := hk h2' (fun hm p hp => by
        have h5 := (h4 hm p hp).1
        refine ⟨?_, fun e => ?_⟩
        · cases hq : X p.block with
          | false => rfl
          | true => rw [hsub _ (Or.inl hq)] at h5; cases h5
        · rw [hsub _ (Or.inr e)] at h5; cases h5)
      exact ⟨x1, m1, c1, f1, by rw [List.getElem?_append_right (by omega), hla]; exact h1, k1, h3, k2⟩
theorem RSt.set {w : World} {bs t o : Nat} {v : Value} {L : List (List Nat)} {cs : List Value} {X : Nat → Bool} {u : Value} (h : Lst w bs X v L cs) (hX : X t = true) : Lst (w.setCell ⟨t, o, none⟩ u) bs X v L cs := h.kp ((Kp.refl _ w).setCell (p := ⟨t, o, none⟩) (Or.inr hX) u)
theorem cell_oth {w : World} {t o o' : Nat} {u : Value} (h : o' ≠ o) : (w.setCell ⟨t, o, none⟩ u).cell? ⟨t, o', none⟩ = w.cell? ⟨t, o', none⟩ := by
  rw [World.cell?_setCell_other]
  exact fun e => h (by cases e; rfl)
theorem cell_at {w : World} {t o : Nat} {u v : Value} (h : w.cell? ⟨t, o, none⟩ = some v) : (w.setCell ⟨t, o, none⟩ u).cell? ⟨t, o, none⟩ = some u := World.cell?_setCell_same' _ _ _ (by rw [h]; rfl)
section
variable {w : World} {bs t r : Nat} {Y : Nat → Bool} {vk vw : Value} {ck cw : List Value} {K Wt : List (List Nat)} {ov : Bool}
theorem RSt.xk (_ : RSt w bs t r Y vk vw ck cw K Wt ov) : Xt Y t vw t = true := by unfold Xt; rw [Xu_of (Or.inr rfl), Bool.true_or]
theorem RSt.over (h : RSt w bs t r Y vk vw ck cw K Wt ov) (b : Bool) : RSt (w.setCell ⟨t, 3, none⟩ (.bool b)) bs t r Y vk vw ck cw K Wt b :=
  ⟨(cell_oth (by decide)).trans h.c0, (cell_oth (by decide)).trans h.c1, (cell_oth (by decide)).trans h.c2, cell_at h.c3, fun i hi => by rw [World.frozen?_setCell]; exact h.z i hi, by simp; exact h.tl, h.ty, RSt.set h.k h.xk, RSt.set h.s (Xu_of (Or.inr rfl))⟩
theorem RSt.done (h : RSt w bs t r Y vk vw ck cw K Wt ov) {va : Value} {M : List (List Nat)} {ca : List Value} (hL : Lst w bs (Xu Y t) va M ca) : RSt ((w.setCell ⟨t, 1, none⟩ va).setCell ⟨t, 2, none⟩ (.slice none 0 0)) bs t r Y va (.slice none 0 0) ca [] M [] ov := by
  refine ⟨(cell_oth (by decide)).trans ((cell_oth (by decide)).trans h.c0), (cell_oth (by decide)).trans (cell_at h.c1), cell_at ((cell_oth (by decide)).trans h.c2), (cell_oth (by decide)).trans ((cell_oth (by decide)).trans h.c3), fun i hi => by rw [World.frozen?_setCell, World.frozen?_setCell]; exact h.z i hi, by simp; exact h.tl, h.ty, ?_, Lst.nil _ _ _⟩
  have hX : Xu Y t t = true := Xu_of (Or.inr rfl)
  refine (RSt.set (RSt.set hL hX) hX).sub (fun k hk => ?_)
  unfold Xt at hk
  rcases Bool.or_eq_true _ _ |>.mp hk with h1 | h1
  · exact h1
  · have := of_decide_eq_true h1; cases this
end
/-- What Commit does to the disk, and answers. -/
def cm (D : DM) (M : List (List Nat)) : DM × Int := if D.syE = 0 then sv D.sy 0 (mkv M) 3 else (D.sy, D.syE)
def cmK (e : Int) (K Wt : List (List Nat)) : List (List Nat) := if e = 0 then K ++ Wt else K
def cmW (e : Int) (Wt : List (List Nat)) : List (List Nat) := if e = 0 then [] else Wt
def cmO (e : Int) : Bool := decide (e = 6)
theorem RDk.set {w : World} {r la na cl cn t o : Nat} {zl zn : Option Addr} {D : DM} {G : Nat → Bool} (h : RDk w r la na cl cn zl zn D G) (hg : ∀ k, G k = true → k ≠ t) (v : Value) : RDk (w.setCell ⟨t, o, none⟩ v) r la na cl cn zl zn D G := h.same (by simp) (fun k hk => Below.heap_setCell _ _ _ _ (hg k hk))
theorem kp_t {X : Nat → Bool} {w : World} {t o : Nat} (v : Value) : Kp (Xu X t) w (w.setCell ⟨t, o, none⟩ v) := (Kp.refl _ w).setCell (p := ⟨t, o, none⟩) (Or.inr (Xu_of (Or.inr rfl))) v
end Go.Proofs.Ytpophfeommlajaa
