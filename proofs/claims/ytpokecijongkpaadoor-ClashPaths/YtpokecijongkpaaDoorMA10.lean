/- Layer 19: the document's own Leads. -/
import Derived.Test.YtpokecijongkpaaDoorMA09
namespace Go.Proofs.YtpokecijongkpaaDoor
set_option maxRecDepth 100000
open Go.RowKit
attribute [local go_sem ↓] Go.wp_at_zero Go.wp_at_succ

/-- What is known of what Leads answers. -/
structure LdA (o : Option (Nat → Nat)) (f : Nat → Nat) (b : Bool) : Prop where
  lt : ∀ j, f j < 256
  b_ : b = o.isSome
  o_ : ∀ y, o = some y → f = y
theorem LdA.one {f : Nat → Nat} (hf : ∀ j, f j < 256) : LdA (some f) f true := ⟨hf, rfl, fun y e => by cases e; rfl⟩
theorem LdA.no {f : Nat → Nat} (hf : ∀ j, f j < 256) : LdA none f false := ⟨hf, rfl, fun y e => by cases e⟩
theorem LdA.map {o : Option (Nat → Nat)} {f : Nat → Nat} {b : Bool} (h : LdA o f b) (g : (Nat → Nat) → Nat → Nat) (hg : ∀ j, g f j < 256) : LdA (o.map g) (g f) b :=
  ⟨hg, by rw [h.b_]; cases o <;> rfl, fun y e => by
    cases o with
    | none => cases e
    | some x => cases e; rw [h.o_ x rfl]⟩
def LdP (w : World) (o : Option (Nat → Nat)) (e : Ending) (w' : World) : Prop := ∃ f b, e = .returned (.tuple #[hv f, .bool b]) ∧ LdA o f b ∧ Below w.heap.size w w'
theorem Vs.boxed {w X : World} {f : Nat → Nat} (hX : X = (w.alloc (.cells (ab f 32).toArray 24)).alloc (.cells (ab (fun _ => 0) 32).toArray 24)) : Vs w X [(w.heap.size + 1, fun _ => 0), (w.heap.size, f)] := by
  rw [hX]
  have h := ((Vs.nil w).made f).made (fun _ => 0)
  have e : ∀ o, (w.alloc o).heap.size = w.heap.size + 1 := fun o => by simp
  rw [e] at h
  exact h
set_option maxRecDepth 100000 in
set_option maxHeartbeats 8000000 in
theorem refLeads_any : ∀ (l : Nat) {w : World} {x : Option Addr} {n m c : Nat} {F : Nat → Nat → Nat} {f : Nat → Nat}, HL w x l F → l ≤ c → c ≤ maxLen → 1 ≤ n → n < 9223372036854775808 → m < n → (∀ j, f j < 256) → Calls Tryd.prog 37 #[.int .i64 (m : Int), .int .i64 (n : Int), hv f, .slice x l c] w (LdP w (ld n m f (rv F l))) := fun l => by
  induction l with
  | zero =>
    intro w x n m c F f hL hc hmx hn1 hn hm hf
    have HF := hide hf
    rw [show rv F 0 = [] from rfl]
    unfold hv
    by_cases h1 : n = 1
    · subst h1
      rw [ld_one m f [] (by omega)]
      show Calls _ _ _ _ (LdP w (some f))
      clear hL hc hmx hn1 hn hm hf
      go_enter Tryd.func37, Tryd.ntmps37
      go_upto_region 1 with fail
      refine wp_world (fun X hX => ?_)
      rw [zeros32] at hX
      have hv := Vs.boxed hX
      clear hX
      obtain ⟨b0, hb0⟩ : ∃ b0, w.heap.size = b0 := ⟨_, rfl⟩
      rw [hb0] at hv ⊢
      have HV := hide hv
      clear hv hb0
      go_wp2_with (first | (refine wpList_load_h rfl _ rfl rfl (HV.out.rg 1 rfl) ?_) | (refine HV.out.listPut 0 rfl rfl rfl rfl rfl (fun Z hz => ?_); have HZ := hide hz; clear hz))
      exact bodyPost_ret (results_cell_tmp Tryd.results37 _ _ (b0 + 1) (ab f 32) _ rfl (HZ.out.rg 0 rfl) Tryd.underlying24 rfl (ilH _) rfl) rfl ⟨f, true, rfl, LdA.one HF.out, HZ.out.k⟩
    · rw [ld_nil m f (by omega)]
      have hb1 : ((n : Int) == 1) = false := beq_eq_false_iff_ne.2 (by omega)
      clear hL hc hmx hn1 hn hm hf h1
      go_enter Tryd.func37, Tryd.ntmps37
      go_upto_region 1 with fail
      refine wp_world (fun X hX => ?_)
      rw [zeros32] at hX
      have hv := Vs.boxed hX
      clear hX
      obtain ⟨b0, hb0⟩ : ∃ b0, w.heap.size = b0 := ⟨_, rfl⟩
      rw [hb0] at hv ⊢
      have HV := hide hv
      clear hv hb0
      go_wp2_with (first | (refine wpList_hk0 rfl rfl ?_) | (refine HV.out.listPut 0 rfl rfl rfl rfl rfl (fun Z hz => ?_); have HZ := hide hz; clear hz))
      exact bodyPost_ret (results_cell_tmp Tryd.results37 _ _ (b0 + 1) (ab (fun _ => 0) 32) _ rfl (HZ.out.rg 0 rfl) Tryd.underlying24 rfl (ilH _) rfl) rfl ⟨(fun _ => 0), false, rfl, LdA.no (fun _ => by omega), HZ.out.k⟩
  | succ l ih =>
    intro w x n m c F f hL hc hmx hn1 hn hm hf
    have HF := hide hf
    rw [show rv F (l + 1) = F l :: rv F l from rfl]
    unfold hv
    obtain ⟨s, hs⟩ : ∃ s, l + 1 = s := ⟨_, rfl⟩
    rw [hs] at hL hc ⊢
    by_cases h1 : n = 1
    · subst h1
      rw [ld_one m f _ (by omega)]
      show Calls _ _ _ _ (LdP w none)
      have hb1 : ((s : Int) == 0) = false := beq_eq_false_iff_ne.2 (by omega)
      clear ih hL hc hmx hn1 hn hm hf hs
      go_enter Tryd.func37, Tryd.ntmps37
      go_upto_region 1 with fail
      refine wp_world (fun X hX => ?_)
      rw [zeros32] at hX
      have hv := Vs.boxed hX
      clear hX
      obtain ⟨b0, hb0⟩ : ∃ b0, w.heap.size = b0 := ⟨_, rfl⟩
      rw [hb0] at hv ⊢
      have HV := hide hv
      clear hv hb0
      go_wp2_with (first | (refine wpList_load_h rfl _ rfl rfl (HV.out.rg 1 rfl) ?_) | (refine HV.out.listPut 0 rfl rfl rfl rfl rfl (fun Z hz => ?_); have HZ := hide hz; clear hz))
      exact bodyPost_ret (results_cell_tmp Tryd.results37 _ _ (b0 + 1) (ab f 32) _ rfl (HZ.out.rg 0 rfl) Tryd.underlying24 rfl (ilH _) rfl) rfl ⟨f, false, rfl, LdA.no HF.out, HZ.out.k⟩
    · have hb1 : ((n : Int) == 1) = false := beq_eq_false_iff_ne.2 (by omega)
      have hb2 : ((s : Int) == 0) = false := beq_eq_false_iff_ne.2 (by omega)
      have k1 := sp_lt (n := n) (by omega)
      have k0 := sp_pos (n := n) (by omega)
      have HSp := hide (fun W => refSplit_big W (n := n) hn)
      obtain ⟨bz, oz, rfl⟩ := hL.ad (by omega)
      obtain ⟨t, ht⟩ : ∃ t, F l = t := ⟨_, rfl⟩
      have htl : ∀ j, t j < 256 := by rw [← ht]; exact hL.lt l
      have hRt : w.rangeAt bz (oz + l * 32) (ab t 32) := by rw [← ht]; exact hL.rangeA (by omega)
      rw [ht]
      have hws : wrap64 ((s : Int) - 1) = (l : Int) := by unfold wrap64; unfold maxLen at hmx; omega
      have hls : (l : Int) ≤ (s : Int) := by omega
      have hlc : (l : Int) ≤ (c : Int) := by omega
      have hlt : (l : Int) < (s : Int) := by omega
      have hc0 : ¬ (c = 0) := by omega
      have HR := hide hRt
      have HTl := hide htl
      by_cases hmk : m < sp n
      · rw [ld_low f t (rv F l) (by omega) hmk]
        obtain ⟨k, hk⟩ : ∃ k, sp n = k := ⟨_, rfl⟩
        rw [hk] at HSp k1 k0 hmk ⊢
        have hmI : (m : Int) < (k : Int) := by omega
        obtain ⟨O, hO⟩ : ∃ O, ld k m f (rv F l) = O := ⟨_, rfl⟩
        have hih := fun W (h : Below w.heap.size w W) => ih (w := W) (c := c) ((hL.keep h).head l (by omega)) (by omega) hmx (by omega) (by omega) hmk hf
        rw [hO] at hih ⊢
        have HIH := hide hih
        clear hih ih hL hc hmx hn1 hn hm hf hs h1 k1 k0 hk hmk hRt htl ht hO
        go_enter Tryd.func37, Tryd.ntmps37
        go_upto_region 1 with fail
        refine wp_world (fun X hX => ?_)
        rw [zeros32] at hX
        have hv := Vs.boxed hX
        clear hX
        obtain ⟨b0, hb0⟩ : ∃ b0, w.heap.size = b0 := ⟨_, rfl⟩
        rw [hb0] at hv ⊢
        have HV := hide hv
        clear hv hb0
        go_upto_region 8 with (go_at_call 28; with_reducible refine Calls.mono (HSp.out _) ?_; rintro e' w' ⟨rfl, hw⟩; replace hw := hw.symm; subst hw)
        have HVd := hide HV.out.drew
        apply meet4 (A := Nat → Nat) (B := Bool) (C := Nat) (D := World)
        · intro hcut
          refine wp_region_noPanic ?_
          refine wp_region_held_drew (S := Sv w [(b0, f)]) (by kernel_rfl) (HVd.out.sv (by simp)) (fun hS0 => ?_)
          refine wpAnyH_take (i := 0) (v := .int .i64 (m : Int)) rfl (by kernel_rfl) (by kernel_rfl) (by kernel_rfl) (fun _ _ _ h => h) (Or.inl ⟨by rfl, fun w' _ => by go_simp⟩) hS0 ?_
          simp only [Act.put, List.getElem_toArray, List.getElem_cons_zero, List.setIfInBounds_toArray, List.set_cons_zero, List.set_cons_succ]
          refine wpAnyH_take (i := 1) (v := .int .i64 (k : Int)) rfl (by kernel_rfl) (by kernel_rfl) (by kernel_rfl) (fun _ _ _ h => h) (Or.inl ⟨by rfl, fun w' _ => by go_simp⟩) hS0 ?_
          simp only [Act.put, List.getElem_toArray, List.getElem_cons_zero, List.getElem_cons_succ, List.setIfInBounds_toArray, List.set_cons_zero, List.set_cons_succ]
          refine wpAnyH_take (i := 2) (v := .agg (ab f 32).toArray) rfl (by kernel_rfl) (by kernel_rfl) (by kernel_rfl) (fun _ _ _ h => h) (yieldsIf_load_mid (by rfl) 24 _ rfl b0 0 (by rfl) (ab f 32) _ (fun w' hS => hS.rg 0 rfl) Tryd.underlying24 rfl (ilH _)) hS0 ?_
          simp only [Act.put, List.getElem_toArray, List.getElem_cons_zero, List.getElem_cons_succ, List.setIfInBounds_toArray, List.set_cons_zero, List.set_cons_succ]
          refine wpAnyH_take (i := 3) (v := .slice (some ⟨bz, oz, none⟩) s c) rfl (by kernel_rfl) (by kernel_rfl) (by kernel_rfl) (fun _ _ _ h => h) (Or.inl ⟨by rfl, fun w' _ => by go_simp⟩) hS0 ?_
          simp only [Act.put, List.getElem_toArray, List.getElem_cons_zero, List.getElem_cons_succ, List.setIfInBounds_toArray, List.set_cons_zero, List.set_cons_succ]
          refine wpAnyH_take (i := 4) (v := .int .i64 (l : Int)) rfl (by kernel_rfl) (by kernel_rfl) (by kernel_rfl) (fun _ _ _ h => h) (Or.inl ⟨by rfl, fun w' _ => by go_simp⟩) hS0 ?_
          simp only [Act.put, List.getElem_toArray, List.getElem_cons_zero, List.getElem_cons_succ, List.setIfInBounds_toArray, List.set_cons_zero, List.set_cons_succ]
          refine wpAnyH_take (i := 5) (v := .slice (some ⟨bz, oz, none⟩) l c) rfl (by kernel_rfl) (by kernel_rfl) (by kernel_rfl) (fun _ _ _ h => h) (Or.inl ⟨by rfl, fun w' _ => by go_simp⟩) hS0 ?_
          simp only [Act.put, List.getElem_toArray, List.getElem_cons_zero, List.getElem_cons_succ, List.setIfInBounds_toArray, List.set_cons_zero, List.set_cons_succ]
          refine wpAnyH_ready (rs := [6, 10]) (by kernel_rfl) (by simp) (AllReadyH.cons rfl (fun Kt hK => ?_) (AllReadyH.cons rfl (fun Kt hK => ?_) AllReadyH.nil))
          · refine wanted_pos rfl ?_
            refine wp_call (R := fun r w' => ∃ f1 t1, r = .tuple #[.agg (ab f1 32).toArray, .bool t1] ∧ LdA O f1 t1 ∧ Below w.heap.size w w' ∧ Vs w w' [(b0 + 1, (fun _ => 0)), (b0, f)]) (vs := #[.int .i64 (m : Int), .int .i64 (k : Int), .agg (ab f 32).toArray, .slice (some ⟨bz, oz, none⟩) l c]) rfl (by simp only [List.map_toArray, List.map_cons, List.map_nil]; rfl) (by go_simp) (Calls.mono (HIH.out _ HVd.out.k) (fun e w' hE => by
              obtain ⟨f1, t1, he, ha, hb⟩ := hE
              exact ⟨_, he, f1, t1, rfl, ha, Go.Proofs.YtpokecijongkpaaDoor.K.call HVd.out.k hb, HVd.out.keep hb⟩)) (fun r W1 hr => ?_)
            obtain ⟨f1, t1, hr, ha, hb, hv⟩ := hr
            subst hr
            have HA := hide ha
            have HVdc := hide hv
            refine hK.out _ _ (HVdc.out.sv (by simp)) (fun hS1 => ?_)
            clear hK Kt hb ha hv
            simp only [Act.put, List.getElem_toArray, List.getElem_cons_zero, List.getElem_cons_succ, List.setIfInBounds_toArray, List.set_cons_zero, List.set_cons_succ]
            refine wpAnyH_take (i := 7) (v := .tuple #[.agg (ab f1 32).toArray, .bool t1]) rfl (by kernel_rfl) (by kernel_rfl) (by kernel_rfl) (fun _ _ _ h => h) (Or.inl ⟨by rfl, fun w' _ => by go_simp⟩) hS1 ?_
            simp only [Act.put, List.getElem_toArray, List.getElem_cons_zero, List.getElem_cons_succ, List.setIfInBounds_toArray, List.set_cons_zero, List.set_cons_succ]
            refine wpAnyH_take (i := 8) (v := .agg (ab f1 32).toArray) rfl (by kernel_rfl) (by kernel_rfl) (by kernel_rfl) (fun _ _ _ h => h) (Or.inl ⟨by rfl, fun w' _ => by go_simp⟩) hS1 ?_
            simp only [Act.put, List.getElem_toArray, List.getElem_cons_zero, List.getElem_cons_succ, List.setIfInBounds_toArray, List.set_cons_zero, List.set_cons_succ]
            refine wpAnyH_take (i := 9) (v := .bool t1) rfl (by kernel_rfl) (by kernel_rfl) (by kernel_rfl) (fun _ _ _ h => h) (Or.inl ⟨by rfl, fun w' _ => by go_simp⟩) hS1 ?_
            simp only [Act.put, List.getElem_toArray, List.getElem_cons_zero, List.getElem_cons_succ, List.setIfInBounds_toArray, List.set_cons_zero, List.set_cons_succ]
            refine wpAnyH_ready (rs := [10]) (by kernel_rfl) (by simp) (AllReadyH.cons rfl (fun Kt hK => ?_) AllReadyH.nil)
            refine wanted_pos rfl ?_
            refine HVdc.out.wpNew rfl (fun y W2 hv hb => ?_)
            have HVdcn := hide hv
            refine hK.out _ _ (HVdcn.out.sv (by simp)) (fun hS2 => ?_)
            clear hK Kt hv hb
            simp only [Act.put, List.getElem_toArray, List.getElem_cons_zero, List.getElem_cons_succ, List.setIfInBounds_toArray, List.set_cons_zero, List.set_cons_succ]
            refine wpAnyH_ready (rs := [11]) (by kernel_rfl) (by simp) (AllReadyH.cons rfl (fun Kt hK => ?_) AllReadyH.nil)
            refine wanted_pos rfl ?_
            refine HVdcn.out.wpPut 0 rfl (by rfl) (by rfl) rfl (fun W3 hv => ?_)
            have HVdcnp := hide hv
            refine hK.out _ _ (HVdcnp.out.sv (by simp)) (fun hS3 => ?_)
            clear hK Kt hv
            simp only [Act.put, List.getElem_toArray, List.getElem_cons_zero, List.getElem_cons_succ]
            refine wpAnyH_take (i := 12) (v := .bool t1) rfl (by kernel_rfl) (by kernel_rfl) (by kernel_rfl) (fun _ _ _ h => h) (Or.inl ⟨by rfl, fun w' _ => by go_simp⟩) hS3 ?_
            simp only [Act.put, List.getElem_toArray, List.getElem_cons_zero, List.getElem_cons_succ, List.setIfInBounds_toArray, List.set_cons_zero, List.set_cons_succ]
            refine wpAnyH_done (by kernel_rfl) ?_ _
            refine NoPanic.normal ?_
            have HVe : Hid (Vs w _ [(y, f1), (b0 + 1, (fun _ => 0)), (b0, f)]) := HVdcnp
            revert HA HVe
            exact hcut f1 t1 y W3
          · refine wanted_pos rfl ?_
            refine HVd.out.wpNew rfl (fun y W4 hv hb => ?_)
            have HVdn := hide hv
            refine hK.out _ _ (HVdn.out.sv (by simp)) (fun hS4 => ?_)
            clear hK Kt hv hb
            simp only [Act.put, List.getElem_toArray, List.getElem_cons_zero, List.getElem_cons_succ, List.setIfInBounds_toArray, List.set_cons_zero, List.set_cons_succ]
            refine wpAnyH_ready (rs := [6]) (by kernel_rfl) (by simp) (AllReadyH.cons rfl (fun Kt hK => ?_) AllReadyH.nil)
            refine wanted_pos rfl ?_
            refine wp_call (R := fun r w' => ∃ f1 t1, r = .tuple #[.agg (ab f1 32).toArray, .bool t1] ∧ LdA O f1 t1 ∧ Below w.heap.size w w' ∧ Vs w w' [(y, (fun _ => 0)), (b0 + 1, (fun _ => 0)), (b0, f)]) (vs := #[.int .i64 (m : Int), .int .i64 (k : Int), .agg (ab f 32).toArray, .slice (some ⟨bz, oz, none⟩) l c]) rfl (by simp only [List.map_toArray, List.map_cons, List.map_nil]; rfl) (by go_simp) (Calls.mono (HIH.out _ HVdn.out.k) (fun e w' hE => by
              obtain ⟨f1, t1, he, ha, hb⟩ := hE
              exact ⟨_, he, f1, t1, rfl, ha, Go.Proofs.YtpokecijongkpaaDoor.K.call HVdn.out.k hb, HVdn.out.keep hb⟩)) (fun r W5 hr => ?_)
            obtain ⟨f1, t1, hr, ha, hb, hv⟩ := hr
            subst hr
            have HA := hide ha
            have HVdnc := hide hv
            refine hK.out _ _ (HVdnc.out.sv (by simp)) (fun hS5 => ?_)
            clear hK Kt hb ha hv
            simp only [Act.put, List.getElem_toArray, List.getElem_cons_zero, List.getElem_cons_succ, List.setIfInBounds_toArray, List.set_cons_zero, List.set_cons_succ]
            refine wpAnyH_take (i := 7) (v := .tuple #[.agg (ab f1 32).toArray, .bool t1]) rfl (by kernel_rfl) (by kernel_rfl) (by kernel_rfl) (fun _ _ _ h => h) (Or.inl ⟨by rfl, fun w' _ => by go_simp⟩) hS5 ?_
            simp only [Act.put, List.getElem_toArray, List.getElem_cons_zero, List.getElem_cons_succ, List.setIfInBounds_toArray, List.set_cons_zero, List.set_cons_succ]
            refine wpAnyH_take (i := 8) (v := .agg (ab f1 32).toArray) rfl (by kernel_rfl) (by kernel_rfl) (by kernel_rfl) (fun _ _ _ h => h) (Or.inl ⟨by rfl, fun w' _ => by go_simp⟩) hS5 ?_
            simp only [Act.put, List.getElem_toArray, List.getElem_cons_zero, List.getElem_cons_succ, List.setIfInBounds_toArray, List.set_cons_zero, List.set_cons_succ]
            refine wpAnyH_take (i := 9) (v := .bool t1) rfl (by kernel_rfl) (by kernel_rfl) (by kernel_rfl) (fun _ _ _ h => h) (Or.inl ⟨by rfl, fun w' _ => by go_simp⟩) hS5 ?_
            simp only [Act.put, List.getElem_toArray, List.getElem_cons_zero, List.getElem_cons_succ, List.setIfInBounds_toArray, List.set_cons_zero, List.set_cons_succ]
            refine wpAnyH_ready (rs := [11]) (by kernel_rfl) (by simp) (AllReadyH.cons rfl (fun Kt hK => ?_) AllReadyH.nil)
            refine wanted_pos rfl ?_
            refine HVdnc.out.wpPut 0 rfl (by rfl) (by rfl) rfl (fun W6 hv => ?_)
            have HVdncp := hide hv
            refine hK.out _ _ (HVdncp.out.sv (by simp)) (fun hS6 => ?_)
            clear hK Kt hv
            simp only [Act.put, List.getElem_toArray, List.getElem_cons_zero, List.getElem_cons_succ]
            refine wpAnyH_take (i := 12) (v := .bool t1) rfl (by kernel_rfl) (by kernel_rfl) (by kernel_rfl) (fun _ _ _ h => h) (Or.inl ⟨by rfl, fun w' _ => by go_simp⟩) hS6 ?_
            simp only [Act.put, List.getElem_toArray, List.getElem_cons_zero, List.getElem_cons_succ, List.setIfInBounds_toArray, List.set_cons_zero, List.set_cons_succ]
            refine wpAnyH_done (by kernel_rfl) ?_ _
            refine NoPanic.normal ?_
            have HVe : Hid (Vs w _ [(y, f1), (b0 + 1, (fun _ => 0)), (b0, f)]) := HVdncp
            revert HA HVe
            exact hcut f1 t1 y W6
        intro f1 t1 y Y HA HVy
        clear HV HVd HIH HSp
        have HNd := hide (fun W => refNode_any (w := W) HA.out.lt HTl.out)
        have HNl := hide (nd_lt f1 t)
        unfold hv at HNd
        obtain ⟨u, hu⟩ : ∃ u, nd f1 t = u := ⟨_, rfl⟩
        rw [hu] at HNd HNl
        have HM := hide (HA.out.map (fun y => nd y t) (by show ∀ j, nd f1 t j < 256; rw [hu]; exact HNl.out))
        rw [hu] at HM
        clear hu
        have HVd := hide HVy.out.drew
        go_upto_region 9 with fail
        refine wp_region_noPanic ?_
        refine wp_region_held_drew (S := Sv w [(y, f1)]) (by kernel_rfl) (HVd.out.sv (by simp)) (fun hS0 => ?_)
        refine wpAnyH_take (i := 0) (v := .agg (ab f1 32).toArray) rfl (by kernel_rfl) (by kernel_rfl) (by kernel_rfl) (fun _ _ _ h => h) (yieldsIf_load_mid (by rfl) 24 _ rfl y 0 (by rfl) (ab f1 32) _ (fun w' hS => hS.rg 0 rfl) Tryd.underlying24 rfl (ilH _)) hS0 ?_
        simp only [Act.put, List.getElem_toArray, List.getElem_cons_zero, List.setIfInBounds_toArray, List.set_cons_zero, List.set_cons_succ]
        refine wpAnyH_take (i := 1) (v := .slice (some ⟨bz, oz, none⟩) s c) rfl (by kernel_rfl) (by kernel_rfl) (by kernel_rfl) (fun _ _ _ h => h) (Or.inl ⟨by rfl, fun w' _ => by go_simp⟩) hS0 ?_
        simp only [Act.put, List.getElem_toArray, List.getElem_cons_zero, List.getElem_cons_succ, List.setIfInBounds_toArray, List.set_cons_zero, List.set_cons_succ]
        refine wpAnyH_take (i := 2) (v := .int .i64 (l : Int)) rfl (by kernel_rfl) (by kernel_rfl) (by kernel_rfl) (fun _ _ _ h => h) (Or.inl ⟨by rfl, fun w' _ => by go_simp⟩) hS0 ?_
        simp only [Act.put, List.getElem_toArray, List.getElem_cons_zero, List.getElem_cons_succ, List.setIfInBounds_toArray, List.set_cons_zero, List.set_cons_succ]
        refine wpAnyH_take (i := 3) (v := .pointer (some ⟨bz, oz + l * 32, none⟩)) rfl (by kernel_rfl) (by kernel_rfl) (by kernel_rfl) (fun _ _ _ h => h) (Or.inl ⟨by rfl, fun w' _ => by go_simp⟩) hS0 ?_
        simp only [Act.put, List.getElem_toArray, List.getElem_cons_zero, List.getElem_cons_succ, List.setIfInBounds_toArray, List.set_cons_zero, List.set_cons_succ]
        refine wpAnyH_take (i := 4) (v := .agg (ab t 32).toArray) rfl (by kernel_rfl) (by kernel_rfl) (by kernel_rfl) (fun _ _ _ h => h) (yieldsIf_load_mid (by rfl) 24 _ rfl bz (oz + l * 32) (by rfl) (ab t 32) _ (fun w' hS => range_keep HR.out hS.1) Tryd.underlying24 rfl (ilH _)) hS0 ?_
        simp only [Act.put, List.getElem_toArray, List.getElem_cons_zero, List.getElem_cons_succ, List.setIfInBounds_toArray, List.set_cons_zero, List.set_cons_succ]
        refine wpAnyH_take (i := 6) (v := .bool t1) rfl (by kernel_rfl) (by kernel_rfl) (by kernel_rfl) (fun _ _ _ h => h) (Or.inl ⟨by rfl, fun w' _ => by go_simp⟩) hS0 ?_
        simp only [Act.put, List.getElem_toArray, List.getElem_cons_zero, List.getElem_cons_succ, List.setIfInBounds_toArray, List.set_cons_zero, List.set_cons_succ]
        refine wpAnyH_ready (rs := [5]) (by kernel_rfl) (by simp) (AllReadyH.cons rfl (fun Kt hK => ?_) AllReadyH.nil)
        refine wanted_pos rfl ?_
        refine wp_call (R := fun r w' => r = .agg (ab u 32).toArray ∧ Vs w w' [(y, f1), (b0 + 1, (fun _ => 0)), (b0, f)]) (vs := #[.agg (ab f1 32).toArray, .agg (ab t 32).toArray]) rfl (by simp only [List.map_toArray, List.map_cons, List.map_nil]; rfl) (by go_simp) (Calls.mono (HNd.out _) (fun e w' ⟨he, hb⟩ => ⟨_, he, rfl, HVd.out.keep hb⟩)) (fun r W1 hr => ?_)
        obtain ⟨hr, hv⟩ := hr
        subst hr
        have HVdd := hide hv
        refine hK.out _ _ (HVdd.out.sv (by simp)) (fun hS1 => ?_)
        clear hK Kt hv
        simp only [Act.put, List.getElem_toArray, List.getElem_cons_zero, List.getElem_cons_succ, List.setIfInBounds_toArray, List.set_cons_zero, List.set_cons_succ]
        refine wpAnyH_ready (rs := [7]) (by kernel_rfl) (by simp) (AllReadyH.cons rfl (fun Kt hK => ?_) AllReadyH.nil)
        refine wanted_pos rfl ?_
        refine HVdd.out.wpPut 1 rfl (by rfl) (by rfl) rfl (fun W2 hv => ?_)
        have HVddp := hide hv
        refine hK.out _ _ (HVddp.out.sv (by simp)) (fun hS2 => ?_)
        clear hK Kt hv
        simp only [Act.put, List.getElem_toArray, List.getElem_cons_zero, List.getElem_cons_succ]
        refine wpAnyH_take (i := 8) (v := .bool t1) rfl (by kernel_rfl) (by kernel_rfl) (by kernel_rfl) (fun _ _ _ h => h) (Or.inl ⟨by rfl, fun w' _ => by go_simp⟩) hS2 ?_
        simp only [Act.put, List.getElem_toArray, List.getElem_cons_zero, List.getElem_cons_succ, List.setIfInBounds_toArray, List.set_cons_zero, List.set_cons_succ]
        refine wpAnyH_done (by kernel_rfl) ?_ _
        refine NoPanic.normal ?_
        go_wp2_with fail
        exact bodyPost_ret (results_cell_tmp Tryd.results37 _ _ (b0 + 1) (ab u 32) _ rfl (HVddp.out.rg 1 rfl) Tryd.underlying24 rfl (ilH _) rfl) rfl ⟨u, t1, rfl, HM.out, HVddp.out.k⟩
      · rw [ld_up f t (rv F l) (by omega) hmk]
        obtain ⟨k, hk⟩ : ∃ k, sp n = k := ⟨_, rfl⟩
        rw [hk] at HSp k1 k0 hmk ⊢
        have hmI : ¬ ((m : Int) < (k : Int)) := by omega
        obtain ⟨q, hq⟩ : ∃ q, m - k = q := ⟨_, rfl⟩
        obtain ⟨r, hr⟩ : ∃ r, n - k = r := ⟨_, rfl⟩
        have hwq : IntKind.i64.wrap ((m : Int) - (k : Int)) = (q : Int) := by rw [IntKind.wrap_i64]; omega
        have hwr : IntKind.i64.wrap ((n : Int) - (k : Int)) = (r : Int) := by rw [IntKind.wrap_i64]; omega
        rw [hq, hr]
        obtain ⟨O, hO⟩ : ∃ O, ld r q f (rv F l) = O := ⟨_, rfl⟩
        have hih := fun W (h : Below w.heap.size w W) => ih (w := W) (c := c) (n := r) (m := q) ((hL.keep h).head l (by omega)) (by omega) hmx (by omega) (by omega) (by omega) hf
        rw [hO] at hih ⊢
        have HIH := hide hih
        clear hih ih hL hc hmx hn1 hn hm hf hs h1 k1 k0 hk hmk hRt htl ht hO hq hr
        go_enter Tryd.func37, Tryd.ntmps37
        go_upto_region 1 with fail
        refine wp_world (fun X hX => ?_)
        rw [zeros32] at hX
        have hv := Vs.boxed hX
        clear hX
        obtain ⟨b0, hb0⟩ : ∃ b0, w.heap.size = b0 := ⟨_, rfl⟩
        rw [hb0] at hv ⊢
        have HV := hide hv
        clear hv hb0
        go_upto_region 10 with (go_at_call 28; with_reducible refine Calls.mono (HSp.out _) ?_; rintro e' w' ⟨rfl, hw⟩; replace hw := hw.symm; subst hw)
        have HVd := hide HV.out.drew
        apply meet4 (A := Nat → Nat) (B := Bool) (C := Nat) (D := World)
        · intro hcut
          refine wp_region_noPanic ?_
          refine wp_region_held_drew (S := Sv w [(b0, f)]) (by kernel_rfl) (HVd.out.sv (by simp)) (fun hS0 => ?_)
          refine wpAnyH_take (i := 0) (v := .int .i64 (m : Int)) rfl (by kernel_rfl) (by kernel_rfl) (by kernel_rfl) (fun _ _ _ h => h) (Or.inl ⟨by rfl, fun w' _ => by go_simp⟩) hS0 ?_
          simp only [Act.put, List.getElem_toArray, List.getElem_cons_zero, List.setIfInBounds_toArray, List.set_cons_zero, List.set_cons_succ]
          refine wpAnyH_take (i := 1) (v := .int .i64 (k : Int)) rfl (by kernel_rfl) (by kernel_rfl) (by kernel_rfl) (fun _ _ _ h => h) (Or.inl ⟨by rfl, fun w' _ => by go_simp⟩) hS0 ?_
          simp only [Act.put, List.getElem_toArray, List.getElem_cons_zero, List.getElem_cons_succ, List.setIfInBounds_toArray, List.set_cons_zero, List.set_cons_succ]
          refine wpAnyH_take (i := 2) (v := .int .i64 (q : Int)) rfl (by kernel_rfl) (by kernel_rfl) (by kernel_rfl) (fun _ _ _ h => h) (Or.inl ⟨by rfl, fun w' _ => by go_simp⟩) hS0 ?_
          simp only [Act.put, List.getElem_toArray, List.getElem_cons_zero, List.getElem_cons_succ, List.setIfInBounds_toArray, List.set_cons_zero, List.set_cons_succ]
          refine wpAnyH_take (i := 3) (v := .int .i64 (n : Int)) rfl (by kernel_rfl) (by kernel_rfl) (by kernel_rfl) (fun _ _ _ h => h) (Or.inl ⟨by rfl, fun w' _ => by go_simp⟩) hS0 ?_
          simp only [Act.put, List.getElem_toArray, List.getElem_cons_zero, List.getElem_cons_succ, List.setIfInBounds_toArray, List.set_cons_zero, List.set_cons_succ]
          refine wpAnyH_take (i := 4) (v := .int .i64 (k : Int)) rfl (by kernel_rfl) (by kernel_rfl) (by kernel_rfl) (fun _ _ _ h => h) (Or.inl ⟨by rfl, fun w' _ => by go_simp⟩) hS0 ?_
          simp only [Act.put, List.getElem_toArray, List.getElem_cons_zero, List.getElem_cons_succ, List.setIfInBounds_toArray, List.set_cons_zero, List.set_cons_succ]
          refine wpAnyH_take (i := 5) (v := .int .i64 (r : Int)) rfl (by kernel_rfl) (by kernel_rfl) (by kernel_rfl) (fun _ _ _ h => h) (Or.inl ⟨by rfl, fun w' _ => by go_simp⟩) hS0 ?_
          simp only [Act.put, List.getElem_toArray, List.getElem_cons_zero, List.getElem_cons_succ, List.setIfInBounds_toArray, List.set_cons_zero, List.set_cons_succ]
          refine wpAnyH_take (i := 6) (v := .agg (ab f 32).toArray) rfl (by kernel_rfl) (by kernel_rfl) (by kernel_rfl) (fun _ _ _ h => h) (yieldsIf_load_mid (by rfl) 24 _ rfl b0 0 (by rfl) (ab f 32) _ (fun w' hS => hS.rg 0 rfl) Tryd.underlying24 rfl (ilH _)) hS0 ?_
          simp only [Act.put, List.getElem_toArray, List.getElem_cons_zero, List.getElem_cons_succ, List.setIfInBounds_toArray, List.set_cons_zero, List.set_cons_succ]
          refine wpAnyH_take (i := 7) (v := .slice (some ⟨bz, oz, none⟩) s c) rfl (by kernel_rfl) (by kernel_rfl) (by kernel_rfl) (fun _ _ _ h => h) (Or.inl ⟨by rfl, fun w' _ => by go_simp⟩) hS0 ?_
          simp only [Act.put, List.getElem_toArray, List.getElem_cons_zero, List.getElem_cons_succ, List.setIfInBounds_toArray, List.set_cons_zero, List.set_cons_succ]
          refine wpAnyH_take (i := 8) (v := .int .i64 (l : Int)) rfl (by kernel_rfl) (by kernel_rfl) (by kernel_rfl) (fun _ _ _ h => h) (Or.inl ⟨by rfl, fun w' _ => by go_simp⟩) hS0 ?_
          simp only [Act.put, List.getElem_toArray, List.getElem_cons_zero, List.getElem_cons_succ, List.setIfInBounds_toArray, List.set_cons_zero, List.set_cons_succ]
          refine wpAnyH_take (i := 9) (v := .slice (some ⟨bz, oz, none⟩) l c) rfl (by kernel_rfl) (by kernel_rfl) (by kernel_rfl) (fun _ _ _ h => h) (Or.inl ⟨by rfl, fun w' _ => by go_simp⟩) hS0 ?_
          simp only [Act.put, List.getElem_toArray, List.getElem_cons_zero, List.getElem_cons_succ, List.setIfInBounds_toArray, List.set_cons_zero, List.set_cons_succ]
          refine wpAnyH_ready (rs := [10, 14]) (by kernel_rfl) (by simp) (AllReadyH.cons rfl (fun Kt hK => ?_) (AllReadyH.cons rfl (fun Kt hK => ?_) AllReadyH.nil))
          · refine wanted_pos rfl ?_
            refine wp_call (R := fun r w' => ∃ f1 t1, r = .tuple #[.agg (ab f1 32).toArray, .bool t1] ∧ LdA O f1 t1 ∧ Below w.heap.size w w' ∧ Vs w w' [(b0 + 1, (fun _ => 0)), (b0, f)]) (vs := #[.int .i64 (q : Int), .int .i64 (r : Int), .agg (ab f 32).toArray, .slice (some ⟨bz, oz, none⟩) l c]) rfl (by simp only [List.map_toArray, List.map_cons, List.map_nil]; rfl) (by go_simp) (Calls.mono (HIH.out _ HVd.out.k) (fun e w' hE => by
              obtain ⟨f1, t1, he, ha, hb⟩ := hE
              exact ⟨_, he, f1, t1, rfl, ha, Go.Proofs.YtpokecijongkpaaDoor.K.call HVd.out.k hb, HVd.out.keep hb⟩)) (fun r W1 hr => ?_)
            obtain ⟨f1, t1, hr, ha, hb, hv⟩ := hr
            subst hr
            have HA := hide ha
            have HVdc := hide hv
            refine hK.out _ _ (HVdc.out.sv (by simp)) (fun hS1 => ?_)
            clear hK Kt hb ha hv
            simp only [Act.put, List.getElem_toArray, List.getElem_cons_zero, List.getElem_cons_succ, List.setIfInBounds_toArray, List.set_cons_zero, List.set_cons_succ]
            refine wpAnyH_take (i := 11) (v := .tuple #[.agg (ab f1 32).toArray, .bool t1]) rfl (by kernel_rfl) (by kernel_rfl) (by kernel_rfl) (fun _ _ _ h => h) (Or.inl ⟨by rfl, fun w' _ => by go_simp⟩) hS1 ?_
            simp only [Act.put, List.getElem_toArray, List.getElem_cons_zero, List.getElem_cons_succ, List.setIfInBounds_toArray, List.set_cons_zero, List.set_cons_succ]
            refine wpAnyH_take (i := 12) (v := .agg (ab f1 32).toArray) rfl (by kernel_rfl) (by kernel_rfl) (by kernel_rfl) (fun _ _ _ h => h) (Or.inl ⟨by rfl, fun w' _ => by go_simp⟩) hS1 ?_
            simp only [Act.put, List.getElem_toArray, List.getElem_cons_zero, List.getElem_cons_succ, List.setIfInBounds_toArray, List.set_cons_zero, List.set_cons_succ]
            refine wpAnyH_take (i := 13) (v := .bool t1) rfl (by kernel_rfl) (by kernel_rfl) (by kernel_rfl) (fun _ _ _ h => h) (Or.inl ⟨by rfl, fun w' _ => by go_simp⟩) hS1 ?_
            simp only [Act.put, List.getElem_toArray, List.getElem_cons_zero, List.getElem_cons_succ, List.setIfInBounds_toArray, List.set_cons_zero, List.set_cons_succ]
            refine wpAnyH_ready (rs := [14]) (by kernel_rfl) (by simp) (AllReadyH.cons rfl (fun Kt hK => ?_) AllReadyH.nil)
            refine wanted_pos rfl ?_
            refine HVdc.out.wpNew rfl (fun y W2 hv hb => ?_)
            have HVdcn := hide hv
            refine hK.out _ _ (HVdcn.out.sv (by simp)) (fun hS2 => ?_)
            clear hK Kt hv hb
            simp only [Act.put, List.getElem_toArray, List.getElem_cons_zero, List.getElem_cons_succ, List.setIfInBounds_toArray, List.set_cons_zero, List.set_cons_succ]
            refine wpAnyH_ready (rs := [15]) (by kernel_rfl) (by simp) (AllReadyH.cons rfl (fun Kt hK => ?_) AllReadyH.nil)
            refine wanted_pos rfl ?_
            refine HVdcn.out.wpPut 0 rfl (by rfl) (by rfl) rfl (fun W3 hv => ?_)
            have HVdcnp := hide hv
            refine hK.out _ _ (HVdcnp.out.sv (by simp)) (fun hS3 => ?_)
            clear hK Kt hv
            simp only [Act.put, List.getElem_toArray, List.getElem_cons_zero, List.getElem_cons_succ]
            refine wpAnyH_take (i := 16) (v := .bool t1) rfl (by kernel_rfl) (by kernel_rfl) (by kernel_rfl) (fun _ _ _ h => h) (Or.inl ⟨by rfl, fun w' _ => by go_simp⟩) hS3 ?_
            simp only [Act.put, List.getElem_toArray, List.getElem_cons_zero, List.getElem_cons_succ, List.setIfInBounds_toArray, List.set_cons_zero, List.set_cons_succ]
            refine wpAnyH_done (by kernel_rfl) ?_ _
            refine NoPanic.normal ?_
            have HVe : Hid (Vs w _ [(y, f1), (b0 + 1, (fun _ => 0)), (b0, f)]) := HVdcnp
            revert HA HVe
            exact hcut f1 t1 y W3
          · refine wanted_pos rfl ?_
            refine HVd.out.wpNew rfl (fun y W4 hv hb => ?_)
            have HVdn := hide hv
            refine hK.out _ _ (HVdn.out.sv (by simp)) (fun hS4 => ?_)
            clear hK Kt hv hb
            simp only [Act.put, List.getElem_toArray, List.getElem_cons_zero, List.getElem_cons_succ, List.setIfInBounds_toArray, List.set_cons_zero, List.set_cons_succ]
            refine wpAnyH_ready (rs := [10]) (by kernel_rfl) (by simp) (AllReadyH.cons rfl (fun Kt hK => ?_) AllReadyH.nil)
            refine wanted_pos rfl ?_
            refine wp_call (R := fun r w' => ∃ f1 t1, r = .tuple #[.agg (ab f1 32).toArray, .bool t1] ∧ LdA O f1 t1 ∧ Below w.heap.size w w' ∧ Vs w w' [(y, (fun _ => 0)), (b0 + 1, (fun _ => 0)), (b0, f)]) (vs := #[.int .i64 (q : Int), .int .i64 (r : Int), .agg (ab f 32).toArray, .slice (some ⟨bz, oz, none⟩) l c]) rfl (by simp only [List.map_toArray, List.map_cons, List.map_nil]; rfl) (by go_simp) (Calls.mono (HIH.out _ HVdn.out.k) (fun e w' hE => by
              obtain ⟨f1, t1, he, ha, hb⟩ := hE
              exact ⟨_, he, f1, t1, rfl, ha, Go.Proofs.YtpokecijongkpaaDoor.K.call HVdn.out.k hb, HVdn.out.keep hb⟩)) (fun r W5 hr => ?_)
            obtain ⟨f1, t1, hr, ha, hb, hv⟩ := hr
            subst hr
            have HA := hide ha
            have HVdnc := hide hv
            refine hK.out _ _ (HVdnc.out.sv (by simp)) (fun hS5 => ?_)
            clear hK Kt hb ha hv
            simp only [Act.put, List.getElem_toArray, List.getElem_cons_zero, List.getElem_cons_succ, List.setIfInBounds_toArray, List.set_cons_zero, List.set_cons_succ]
            refine wpAnyH_take (i := 11) (v := .tuple #[.agg (ab f1 32).toArray, .bool t1]) rfl (by kernel_rfl) (by kernel_rfl) (by kernel_rfl) (fun _ _ _ h => h) (Or.inl ⟨by rfl, fun w' _ => by go_simp⟩) hS5 ?_
            simp only [Act.put, List.getElem_toArray, List.getElem_cons_zero, List.getElem_cons_succ, List.setIfInBounds_toArray, List.set_cons_zero, List.set_cons_succ]
            refine wpAnyH_take (i := 12) (v := .agg (ab f1 32).toArray) rfl (by kernel_rfl) (by kernel_rfl) (by kernel_rfl) (fun _ _ _ h => h) (Or.inl ⟨by rfl, fun w' _ => by go_simp⟩) hS5 ?_
            simp only [Act.put, List.getElem_toArray, List.getElem_cons_zero, List.getElem_cons_succ, List.setIfInBounds_toArray, List.set_cons_zero, List.set_cons_succ]
            refine wpAnyH_take (i := 13) (v := .bool t1) rfl (by kernel_rfl) (by kernel_rfl) (by kernel_rfl) (fun _ _ _ h => h) (Or.inl ⟨by rfl, fun w' _ => by go_simp⟩) hS5 ?_
            simp only [Act.put, List.getElem_toArray, List.getElem_cons_zero, List.getElem_cons_succ, List.setIfInBounds_toArray, List.set_cons_zero, List.set_cons_succ]
            refine wpAnyH_ready (rs := [15]) (by kernel_rfl) (by simp) (AllReadyH.cons rfl (fun Kt hK => ?_) AllReadyH.nil)
            refine wanted_pos rfl ?_
            refine HVdnc.out.wpPut 0 rfl (by rfl) (by rfl) rfl (fun W6 hv => ?_)
            have HVdncp := hide hv
            refine hK.out _ _ (HVdncp.out.sv (by simp)) (fun hS6 => ?_)
            clear hK Kt hv
            simp only [Act.put, List.getElem_toArray, List.getElem_cons_zero, List.getElem_cons_succ]
            refine wpAnyH_take (i := 16) (v := .bool t1) rfl (by kernel_rfl) (by kernel_rfl) (by kernel_rfl) (fun _ _ _ h => h) (Or.inl ⟨by rfl, fun w' _ => by go_simp⟩) hS6 ?_
            simp only [Act.put, List.getElem_toArray, List.getElem_cons_zero, List.getElem_cons_succ, List.setIfInBounds_toArray, List.set_cons_zero, List.set_cons_succ]
            refine wpAnyH_done (by kernel_rfl) ?_ _
            refine NoPanic.normal ?_
            have HVe : Hid (Vs w _ [(y, f1), (b0 + 1, (fun _ => 0)), (b0, f)]) := HVdncp
            revert HA HVe
            exact hcut f1 t1 y W6
        intro f1 t1 y Y HA HVy
        clear HV HVd HIH HSp
        have HNd := hide (fun W => refNode_any (w := W) HTl.out HA.out.lt)
        have HNl := hide (nd_lt t f1)
        unfold hv at HNd
        obtain ⟨u, hu⟩ : ∃ u, nd t f1 = u := ⟨_, rfl⟩
        rw [hu] at HNd HNl
        have HM := hide (HA.out.map (fun y => nd t y) (by show ∀ j, nd t f1 j < 256; rw [hu]; exact HNl.out))
        rw [hu] at HM
        clear hu
        have HVd := hide HVy.out.drew
        go_upto_region 11 with fail
        refine wp_region_noPanic ?_
        refine wp_region_held_drew (S := Sv w [(y, f1)]) (by kernel_rfl) (HVd.out.sv (by simp)) (fun hS0 => ?_)
        refine wpAnyH_take (i := 0) (v := .slice (some ⟨bz, oz, none⟩) s c) rfl (by kernel_rfl) (by kernel_rfl) (by kernel_rfl) (fun _ _ _ h => h) (Or.inl ⟨by rfl, fun w' _ => by go_simp⟩) hS0 ?_
        simp only [Act.put, List.getElem_toArray, List.getElem_cons_zero, List.setIfInBounds_toArray, List.set_cons_zero, List.set_cons_succ]
        refine wpAnyH_take (i := 1) (v := .int .i64 (l : Int)) rfl (by kernel_rfl) (by kernel_rfl) (by kernel_rfl) (fun _ _ _ h => h) (Or.inl ⟨by rfl, fun w' _ => by go_simp⟩) hS0 ?_
        simp only [Act.put, List.getElem_toArray, List.getElem_cons_zero, List.getElem_cons_succ, List.setIfInBounds_toArray, List.set_cons_zero, List.set_cons_succ]
        refine wpAnyH_take (i := 2) (v := .pointer (some ⟨bz, oz + l * 32, none⟩)) rfl (by kernel_rfl) (by kernel_rfl) (by kernel_rfl) (fun _ _ _ h => h) (Or.inl ⟨by rfl, fun w' _ => by go_simp⟩) hS0 ?_
        simp only [Act.put, List.getElem_toArray, List.getElem_cons_zero, List.getElem_cons_succ, List.setIfInBounds_toArray, List.set_cons_zero, List.set_cons_succ]
        refine wpAnyH_take (i := 3) (v := .agg (ab t 32).toArray) rfl (by kernel_rfl) (by kernel_rfl) (by kernel_rfl) (fun _ _ _ h => h) (yieldsIf_load_mid (by rfl) 24 _ rfl bz (oz + l * 32) (by rfl) (ab t 32) _ (fun w' hS => range_keep HR.out hS.1) Tryd.underlying24 rfl (ilH _)) hS0 ?_
        simp only [Act.put, List.getElem_toArray, List.getElem_cons_zero, List.getElem_cons_succ, List.setIfInBounds_toArray, List.set_cons_zero, List.set_cons_succ]
        refine wpAnyH_take (i := 4) (v := .agg (ab f1 32).toArray) rfl (by kernel_rfl) (by kernel_rfl) (by kernel_rfl) (fun _ _ _ h => h) (yieldsIf_load_mid (by rfl) 24 _ rfl y 0 (by rfl) (ab f1 32) _ (fun w' hS => hS.rg 0 rfl) Tryd.underlying24 rfl (ilH _)) hS0 ?_
        simp only [Act.put, List.getElem_toArray, List.getElem_cons_zero, List.getElem_cons_succ, List.setIfInBounds_toArray, List.set_cons_zero, List.set_cons_succ]
        refine wpAnyH_take (i := 6) (v := .bool t1) rfl (by kernel_rfl) (by kernel_rfl) (by kernel_rfl) (fun _ _ _ h => h) (Or.inl ⟨by rfl, fun w' _ => by go_simp⟩) hS0 ?_
        simp only [Act.put, List.getElem_toArray, List.getElem_cons_zero, List.getElem_cons_succ, List.setIfInBounds_toArray, List.set_cons_zero, List.set_cons_succ]
        refine wpAnyH_ready (rs := [5]) (by kernel_rfl) (by simp) (AllReadyH.cons rfl (fun Kt hK => ?_) AllReadyH.nil)
        refine wanted_pos rfl ?_
        refine wp_call (R := fun r w' => r = .agg (ab u 32).toArray ∧ Vs w w' [(y, f1), (b0 + 1, (fun _ => 0)), (b0, f)]) (vs := #[.agg (ab t 32).toArray, .agg (ab f1 32).toArray]) rfl (by simp only [List.map_toArray, List.map_cons, List.map_nil]; rfl) (by go_simp) (Calls.mono (HNd.out _) (fun e w' ⟨he, hb⟩ => ⟨_, he, rfl, HVd.out.keep hb⟩)) (fun r W1 hr => ?_)
        obtain ⟨hr, hv⟩ := hr
        subst hr
        have HVdd := hide hv
        refine hK.out _ _ (HVdd.out.sv (by simp)) (fun hS1 => ?_)
        clear hK Kt hv
        simp only [Act.put, List.getElem_toArray, List.getElem_cons_zero, List.getElem_cons_succ, List.setIfInBounds_toArray, List.set_cons_zero, List.set_cons_succ]
        refine wpAnyH_ready (rs := [7]) (by kernel_rfl) (by simp) (AllReadyH.cons rfl (fun Kt hK => ?_) AllReadyH.nil)
        refine wanted_pos rfl ?_
        refine HVdd.out.wpPut 1 rfl (by rfl) (by rfl) rfl (fun W2 hv => ?_)
        have HVddp := hide hv
        refine hK.out _ _ (HVddp.out.sv (by simp)) (fun hS2 => ?_)
        clear hK Kt hv
        simp only [Act.put, List.getElem_toArray, List.getElem_cons_zero, List.getElem_cons_succ]
        refine wpAnyH_take (i := 8) (v := .bool t1) rfl (by kernel_rfl) (by kernel_rfl) (by kernel_rfl) (fun _ _ _ h => h) (Or.inl ⟨by rfl, fun w' _ => by go_simp⟩) hS2 ?_
        simp only [Act.put, List.getElem_toArray, List.getElem_cons_zero, List.getElem_cons_succ, List.setIfInBounds_toArray, List.set_cons_zero, List.set_cons_succ]
        refine wpAnyH_done (by kernel_rfl) ?_ _
        refine NoPanic.normal ?_
        go_wp2_with fail
        exact bodyPost_ret (results_cell_tmp Tryd.results37 _ _ (b0 + 1) (ab u 32) _ rfl (HVddp.out.rg 1 rfl) Tryd.underlying24 rfl (ilH _) rfl) rfl ⟨u, t1, rfl, HM.out, HVddp.out.k⟩
end Go.Proofs.YtpokecijongkpaaDoor
