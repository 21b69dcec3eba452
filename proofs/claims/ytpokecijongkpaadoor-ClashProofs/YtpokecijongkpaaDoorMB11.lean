/- Layer 19: the document's own Two. -/
import Derived.Test.YtpokecijongkpaaDoorMB10
namespace Go.Proofs.YtpokecijongkpaaDoor
set_option maxRecDepth 100000
open Go.RowKit
attribute [local go_sem ↓] Go.wp_at_zero Go.wp_at_succ

/-- What is known of what Two answers. -/
structure TwA (o : Option ((Nat → Nat) × (Nat → Nat))) (f g : Nat → Nat) (b : Bool) : Prop where
  lt : ∀ j, f j < 256
  lt2 : ∀ j, g j < 256
  b_ : b = o.isSome
  o_ : ∀ q, o = some q → q = (f, g)
theorem TwA.one {f g : Nat → Nat} (hf : ∀ j, f j < 256) (hg : ∀ j, g j < 256) : TwA (some (f, g)) f g true := ⟨hf, hg, rfl, fun q e => by cases e; rfl⟩
theorem TwA.no {f g : Nat → Nat} (hf : ∀ j, f j < 256) (hg : ∀ j, g j < 256) : TwA none f g false := ⟨hf, hg, rfl, fun q e => by cases e⟩
theorem TwA.map {o : Option ((Nat → Nat) × (Nat → Nat))} {f g f' g' : Nat → Nat} {b : Bool} (h : TwA o f g b) (F : (Nat → Nat) × (Nat → Nat) → (Nat → Nat) × (Nat → Nat)) (e : F (f, g) = (f', g')) (hf : ∀ j, f' j < 256) (hg : ∀ j, g' j < 256) : TwA (o.map F) f' g' b :=
  ⟨hf, hg, by rw [h.b_]; cases o <;> rfl, fun q e' => by
    cases o with
    | none => cases e'
    | some x => cases e'; rw [h.o_ x rfl, e]⟩
def TwP (w : World) (o : Option ((Nat → Nat) × (Nat → Nat))) (e : Ending) (w' : World) : Prop := ∃ f g b, e = .returned (.tuple #[hv f, hv g, .bool b]) ∧ TwA o f g b ∧ Below w.heap.size w w'
theorem Vs.perm {w0 W : World} {L L' : List (Nat × (Nat → Nat))} (h : Vs w0 W L) (p : L.Perm L') : Vs w0 W L' := ⟨h.k, (fun q hq => h.at_ q (p.mem_iff.2 hq)), (p.map Prod.fst).nodup_iff.1 h.dn⟩
theorem Vs.boxed2 {w X : World} {f : Nat → Nat} (hX : X = ((w.alloc (.cells (ab f 32).toArray 24)).alloc (.cells (ab (fun _ => 0) 32).toArray 24)).alloc (.cells (ab (fun _ => 0) 32).toArray 24)) : Vs w X [(w.heap.size + 2, fun _ => 0), (w.heap.size + 1, fun _ => 0), (w.heap.size, f)] := by
  rw [hX]
  have h := (((Vs.nil w).made f).made (fun _ => 0)).made (fun _ => 0)
  have e : ∀ o, (w.alloc o).heap.size = w.heap.size + 1 := fun o => by simp
  have e2 : ∀ o o', ((w.alloc o).alloc o').heap.size = w.heap.size + 2 := fun o o' => by simp
  rw [e, e2] at h
  exact h
set_option maxRecDepth 100000 in
set_option maxHeartbeats 8000000 in
theorem refTwos_end {l : Nat} {w : World} {x : Option Addr} {m c : Nat} {F : Nat → Nat → Nat} {f : Nat → Nat} {wh : Bool} (hL : HL w x l F) (hc : l ≤ c) (_hmx : c ≤ maxLen) (hf : ∀ j, f j < 256) : Calls Tryd.prog 44 #[.int .i64 (m : Int), .int .i64 (m : Int), .bool wh, hv f, .slice x l c] w (TwP w (tw m m wh f (rv F l))) := by
  have HF := hide hf
  unfold hv
  have hb0 : ((m : Int) == (m : Int)) = true := beq_self_eq_true _
  cases wh with
  | true =>
    rw [tw_end true f _ (Or.inl (Nat.le_refl _)), if_pos rfl]
    rcases l with _ | l
    · show Calls _ _ _ _ (TwP w (some (f, f)))
      clear hL hc _hmx hf
      go_enter Tryd.func44, Tryd.ntmps44
      go_upto_region 1 with fail
      refine wp_world (fun X hX => ?_)
      rw [zeros32] at hX
      have hv := Vs.boxed2 hX
      clear hX
      obtain ⟨b0, hb0⟩ : ∃ b0, w.heap.size = b0 := ⟨_, rfl⟩
      rw [hb0] at hv ⊢
      have HV := hide hv
      clear hv hb0
      go_upto_region 3 with fail
      have HVd := hide HV.out.drew
      refine wp_region_noPanic ?_
      refine wp_region_held_drew (S := Sv w [(b0, f)]) (by kernel_rfl) (HVd.out.sv (by simp)) (fun hS0 => ?_)
      refine wpAnyH_take (i := 0) (v := .agg (ab f 32).toArray) rfl (by kernel_rfl) (by kernel_rfl) (by kernel_rfl) (fun _ _ _ h => h) (yieldsIf_load_mid (by rfl) 24 _ rfl b0 0 (by rfl) (ab f 32) _ (fun w' hS => hS.rg 0 rfl) Tryd.underlying24 rfl (ilH _)) hS0 ?_
      simp only [Act.put, List.getElem_toArray, List.getElem_cons_zero, List.setIfInBounds_toArray, List.set_cons_zero, List.set_cons_succ]
      refine wpAnyH_take (i := 1) (v := .agg (ab f 32).toArray) rfl (by kernel_rfl) (by kernel_rfl) (by kernel_rfl) (fun _ _ _ h => h) (yieldsIf_load_mid (by rfl) 24 _ rfl b0 0 (by rfl) (ab f 32) _ (fun w' hS => hS.rg 0 rfl) Tryd.underlying24 rfl (ilH _)) hS0 ?_
      simp only [Act.put, List.getElem_toArray, List.getElem_cons_zero, List.getElem_cons_succ, List.setIfInBounds_toArray, List.set_cons_zero, List.set_cons_succ]
      refine wpAnyH_take (i := 2) (v := .slice x 0 c) rfl (by kernel_rfl) (by kernel_rfl) (by kernel_rfl) (fun _ _ _ h => h) (Or.inl ⟨by rfl, fun w' _ => by go_simp⟩) hS0 ?_
      simp only [Act.put, List.getElem_toArray, List.getElem_cons_zero, List.getElem_cons_succ, List.setIfInBounds_toArray, List.set_cons_zero, List.set_cons_succ]
      refine wpAnyH_take (i := 3) (v := .int .i64 0) rfl (by kernel_rfl) (by kernel_rfl) (by kernel_rfl) (fun _ _ _ h => h) (Or.inl ⟨by rfl, fun w' _ => by go_simp⟩) hS0 ?_
      simp only [Act.put, List.getElem_toArray, List.getElem_cons_zero, List.getElem_cons_succ, List.setIfInBounds_toArray, List.set_cons_zero, List.set_cons_succ]
      refine wpAnyH_take (i := 4) (v := .bool true) rfl (by kernel_rfl) (by kernel_rfl) (by kernel_rfl) (fun _ _ _ h => h) (Or.inl ⟨by rfl, fun w' _ => by go_simp⟩) hS0 ?_
      simp only [Act.put, List.getElem_toArray, List.getElem_cons_zero, List.getElem_cons_succ, List.setIfInBounds_toArray, List.set_cons_zero, List.set_cons_succ]
      refine wpAnyH_ready (rs := [5]) (by kernel_rfl) (by simp) (AllReadyH.cons rfl (fun Kt hK => ?_) AllReadyH.nil)
      refine wanted_pos rfl ?_
      refine HVd.out.wpPut 1 rfl (by rfl) (by rfl) rfl (fun W1 hv => ?_)
      have HVdp := hide hv
      refine hK.out _ _ (HVdp.out.sv (by simp)) (fun hS1 => ?_)
      clear hK Kt hv
      simp only [Act.put, List.getElem_toArray, List.getElem_cons_zero, List.getElem_cons_succ]
      refine wpAnyH_ready (rs := [6]) (by kernel_rfl) (by simp) (AllReadyH.cons rfl (fun Kt hK => ?_) AllReadyH.nil)
      refine wanted_pos rfl ?_
      refine HVdp.out.wpPut 0 rfl (by rfl) (by rfl) rfl (fun W2 hv => ?_)
      have HVdpp := hide hv
      refine hK.out _ _ (HVdpp.out.sv (by simp)) (fun hS2 => ?_)
      clear hK Kt hv
      simp only [Act.put, List.getElem_toArray, List.getElem_cons_zero, List.getElem_cons_succ]
      refine wpAnyH_take (i := 7) (v := .bool true) rfl (by kernel_rfl) (by kernel_rfl) (by kernel_rfl) (fun _ _ _ h => h) (Or.inl ⟨by rfl, fun w' _ => by go_simp⟩) hS2 ?_
      simp only [Act.put, List.getElem_toArray, List.getElem_cons_zero, List.getElem_cons_succ, List.setIfInBounds_toArray, List.set_cons_zero, List.set_cons_succ]
      refine wpAnyH_done (by kernel_rfl) ?_ _
      refine NoPanic.normal ?_
      go_wp2_with fail
      exact bodyPost_ret (results_cell2_tmp Tryd.results44 _ _ (b0 + 1) (b0 + 2) (ab f 32) (ab f 32) _ rfl (HVdpp.out.rg 1 rfl) rfl (HVdpp.out.rg 0 rfl) Tryd.underlying24 rfl (ilH _) (ilH _) rfl) rfl ⟨f, f, true, rfl, TwA.one HF.out HF.out, HVdpp.out.k⟩
    · show Calls _ _ _ _ (TwP w none)
      obtain ⟨s, hs⟩ : ∃ s, l + 1 = s := ⟨_, rfl⟩
      rw [hs]
      have hb1 : ((s : Int) == 0) = false := beq_eq_false_iff_ne.2 (by omega)
      clear hL hc _hmx hf hs
      go_enter Tryd.func44, Tryd.ntmps44
      go_upto_region 1 with fail
      refine wp_world (fun X hX => ?_)
      rw [zeros32] at hX
      have hv := Vs.boxed2 hX
      clear hX
      obtain ⟨b0, hb0⟩ : ∃ b0, w.heap.size = b0 := ⟨_, rfl⟩
      rw [hb0] at hv ⊢
      have HV := hide hv
      clear hv hb0
      go_upto_region 3 with fail
      have HVd := hide HV.out.drew
      refine wp_region_noPanic ?_
      refine wp_region_held_drew (S := Sv w [(b0, f)]) (by kernel_rfl) (HVd.out.sv (by simp)) (fun hS0 => ?_)
      refine wpAnyH_take (i := 0) (v := .agg (ab f 32).toArray) rfl (by kernel_rfl) (by kernel_rfl) (by kernel_rfl) (fun _ _ _ h => h) (yieldsIf_load_mid (by rfl) 24 _ rfl b0 0 (by rfl) (ab f 32) _ (fun w' hS => hS.rg 0 rfl) Tryd.underlying24 rfl (ilH _)) hS0 ?_
      simp only [Act.put, List.getElem_toArray, List.getElem_cons_zero, List.setIfInBounds_toArray, List.set_cons_zero, List.set_cons_succ]
      refine wpAnyH_take (i := 1) (v := .agg (ab f 32).toArray) rfl (by kernel_rfl) (by kernel_rfl) (by kernel_rfl) (fun _ _ _ h => h) (yieldsIf_load_mid (by rfl) 24 _ rfl b0 0 (by rfl) (ab f 32) _ (fun w' hS => hS.rg 0 rfl) Tryd.underlying24 rfl (ilH _)) hS0 ?_
      simp only [Act.put, List.getElem_toArray, List.getElem_cons_zero, List.getElem_cons_succ, List.setIfInBounds_toArray, List.set_cons_zero, List.set_cons_succ]
      refine wpAnyH_take (i := 2) (v := .slice x s c) rfl (by kernel_rfl) (by kernel_rfl) (by kernel_rfl) (fun _ _ _ h => h) (Or.inl ⟨by rfl, fun w' _ => by go_simp⟩) hS0 ?_
      simp only [Act.put, List.getElem_toArray, List.getElem_cons_zero, List.getElem_cons_succ, List.setIfInBounds_toArray, List.set_cons_zero, List.set_cons_succ]
      refine wpAnyH_take (i := 3) (v := .int .i64 (s : Int)) rfl (by kernel_rfl) (by kernel_rfl) (by kernel_rfl) (fun _ _ _ h => h) (Or.inl ⟨by rfl, fun w' _ => by go_simp⟩) hS0 ?_
      simp only [Act.put, List.getElem_toArray, List.getElem_cons_zero, List.getElem_cons_succ, List.setIfInBounds_toArray, List.set_cons_zero, List.set_cons_succ]
      refine wpAnyH_take (i := 4) (v := .bool false) rfl (by kernel_rfl) (by kernel_rfl) (by kernel_rfl) (fun _ _ _ h => h) (Or.inl ⟨by rfl, fun w' _ => by go_simp⟩) hS0 ?_
      simp only [Act.put, List.getElem_toArray, List.getElem_cons_zero, List.getElem_cons_succ, List.setIfInBounds_toArray, List.set_cons_zero, List.set_cons_succ]
      refine wpAnyH_ready (rs := [5]) (by kernel_rfl) (by simp) (AllReadyH.cons rfl (fun Kt hK => ?_) AllReadyH.nil)
      refine wanted_pos rfl ?_
      refine HVd.out.wpPut 1 rfl (by rfl) (by rfl) rfl (fun W1 hv => ?_)
      have HVdp := hide hv
      refine hK.out _ _ (HVdp.out.sv (by simp)) (fun hS1 => ?_)
      clear hK Kt hv
      simp only [Act.put, List.getElem_toArray, List.getElem_cons_zero, List.getElem_cons_succ]
      refine wpAnyH_ready (rs := [6]) (by kernel_rfl) (by simp) (AllReadyH.cons rfl (fun Kt hK => ?_) AllReadyH.nil)
      refine wanted_pos rfl ?_
      refine HVdp.out.wpPut 0 rfl (by rfl) (by rfl) rfl (fun W2 hv => ?_)
      have HVdpp := hide hv
      refine hK.out _ _ (HVdpp.out.sv (by simp)) (fun hS2 => ?_)
      clear hK Kt hv
      simp only [Act.put, List.getElem_toArray, List.getElem_cons_zero, List.getElem_cons_succ]
      refine wpAnyH_take (i := 7) (v := .bool false) rfl (by kernel_rfl) (by kernel_rfl) (by kernel_rfl) (fun _ _ _ h => h) (Or.inl ⟨by rfl, fun w' _ => by go_simp⟩) hS2 ?_
      simp only [Act.put, List.getElem_toArray, List.getElem_cons_zero, List.getElem_cons_succ, List.setIfInBounds_toArray, List.set_cons_zero, List.set_cons_succ]
      refine wpAnyH_done (by kernel_rfl) ?_ _
      refine NoPanic.normal ?_
      go_wp2_with fail
      exact bodyPost_ret (results_cell2_tmp Tryd.results44 _ _ (b0 + 1) (b0 + 2) (ab f 32) (ab f 32) _ rfl (HVdpp.out.rg 1 rfl) rfl (HVdpp.out.rg 0 rfl) Tryd.underlying24 rfl (ilH _) (ilH _) rfl) rfl ⟨f, f, false, rfl, TwA.no HF.out HF.out, HVdpp.out.k⟩
  | false =>
    by_cases h1 : l = 1
    · subst h1
      rw [tw_end false f _ (Or.inl (Nat.le_refl _)), if_neg (by decide)]
      obtain ⟨bz, oz, rfl⟩ := hL.ad (by omega)
      obtain ⟨t, ht⟩ : ∃ t, F 0 = t := ⟨_, rfl⟩
      have htl : ∀ j, t j < 256 := by rw [← ht]; exact hL.lt 0
      have hRt : w.rangeAt bz oz (ab t 32) := by rw [← ht]; exact hL.first (by omega)
      have HR := hide hRt
      have HTl := hide htl
      rw [show rv F 1 = [F 0] from rfl, ht]
      show Calls _ _ _ _ (TwP w (some (t, t)))
      have hc0 : ¬ (c = 0) := by omega
      clear hL hc _hmx hf hRt htl ht
      go_enter Tryd.func44, Tryd.ntmps44
      go_upto_region 1 with fail
      refine wp_world (fun X hX => ?_)
      rw [zeros32] at hX
      have hv := Vs.boxed2 hX
      clear hX
      obtain ⟨b0, hb0⟩ : ∃ b0, w.heap.size = b0 := ⟨_, rfl⟩
      rw [hb0] at hv ⊢
      have HV := hide hv
      clear hv hb0
      go_upto_region 6 with fail
      have HVd := hide HV.out.drew
      refine wp_region_noPanic ?_
      refine wp_region_held_drew (S := Sv w [(b0, f)]) (by kernel_rfl) (HVd.out.sv (by simp)) (fun hS0 => ?_)
      refine wpAnyH_take (i := 0) (v := .slice (some ⟨bz, oz, none⟩) 1 c) rfl (by kernel_rfl) (by kernel_rfl) (by kernel_rfl) (fun _ _ _ h => h) (Or.inl ⟨by rfl, fun w' _ => by go_simp⟩) hS0 ?_
      simp only [Act.put, List.getElem_toArray, List.getElem_cons_zero, List.setIfInBounds_toArray, List.set_cons_zero, List.set_cons_succ]
      refine wpAnyH_take (i := 1) (v := .pointer (some ⟨bz, oz, none⟩)) rfl (by kernel_rfl) (by kernel_rfl) (by kernel_rfl) (fun _ _ _ h => h) (Or.inl ⟨by rfl, fun w' _ => by go_simp⟩) hS0 ?_
      simp only [Act.put, List.getElem_toArray, List.getElem_cons_zero, List.getElem_cons_succ, List.setIfInBounds_toArray, List.set_cons_zero, List.set_cons_succ]
      refine wpAnyH_take (i := 2) (v := .agg (ab t 32).toArray) rfl (by kernel_rfl) (by kernel_rfl) (by kernel_rfl) (fun _ _ _ h => h) (yieldsIf_load_mid (by rfl) 24 _ rfl bz oz (by rfl) (ab t 32) _ (fun w' hS => range_keep HR.out hS.1) Tryd.underlying24 rfl (ilH _)) hS0 ?_
      simp only [Act.put, List.getElem_toArray, List.getElem_cons_zero, List.getElem_cons_succ, List.setIfInBounds_toArray, List.set_cons_zero, List.set_cons_succ]
      refine wpAnyH_take (i := 3) (v := .slice (some ⟨bz, oz, none⟩) 1 c) rfl (by kernel_rfl) (by kernel_rfl) (by kernel_rfl) (fun _ _ _ h => h) (Or.inl ⟨by rfl, fun w' _ => by go_simp⟩) hS0 ?_
      simp only [Act.put, List.getElem_toArray, List.getElem_cons_zero, List.getElem_cons_succ, List.setIfInBounds_toArray, List.set_cons_zero, List.set_cons_succ]
      refine wpAnyH_take (i := 4) (v := .pointer (some ⟨bz, oz, none⟩)) rfl (by kernel_rfl) (by kernel_rfl) (by kernel_rfl) (fun _ _ _ h => h) (Or.inl ⟨by rfl, fun w' _ => by go_simp⟩) hS0 ?_
      simp only [Act.put, List.getElem_toArray, List.getElem_cons_zero, List.getElem_cons_succ, List.setIfInBounds_toArray, List.set_cons_zero, List.set_cons_succ]
      refine wpAnyH_take (i := 5) (v := .agg (ab t 32).toArray) rfl (by kernel_rfl) (by kernel_rfl) (by kernel_rfl) (fun _ _ _ h => h) (yieldsIf_load_mid (by rfl) 24 _ rfl bz oz (by rfl) (ab t 32) _ (fun w' hS => range_keep HR.out hS.1) Tryd.underlying24 rfl (ilH _)) hS0 ?_
      simp only [Act.put, List.getElem_toArray, List.getElem_cons_zero, List.getElem_cons_succ, List.setIfInBounds_toArray, List.set_cons_zero, List.set_cons_succ]
      refine wpAnyH_ready (rs := [6]) (by kernel_rfl) (by simp) (AllReadyH.cons rfl (fun Kt hK => ?_) AllReadyH.nil)
      refine wanted_pos rfl ?_
      refine HVd.out.wpPut 1 rfl (by rfl) (by rfl) rfl (fun W1 hv => ?_)
      have HVdp := hide hv
      refine hK.out _ _ (HVdp.out.sv (by simp)) (fun hS1 => ?_)
      clear hK Kt hv
      simp only [Act.put, List.getElem_toArray, List.getElem_cons_zero, List.getElem_cons_succ]
      refine wpAnyH_ready (rs := [7]) (by kernel_rfl) (by simp) (AllReadyH.cons rfl (fun Kt hK => ?_) AllReadyH.nil)
      refine wanted_pos rfl ?_
      refine HVdp.out.wpPut 0 rfl (by rfl) (by rfl) rfl (fun W2 hv => ?_)
      have HVdpp := hide hv
      refine hK.out _ _ (HVdpp.out.sv (by simp)) (fun hS2 => ?_)
      clear hK Kt hv
      simp only [Act.put, List.getElem_toArray, List.getElem_cons_zero, List.getElem_cons_succ]
      refine wpAnyH_take (i := 8) (v := .bool true) rfl (by kernel_rfl) (by kernel_rfl) (by kernel_rfl) (fun _ _ _ h => h) (Or.inl ⟨by rfl, fun w' _ => by go_simp⟩) hS2 ?_
      simp only [Act.put, List.getElem_toArray, List.getElem_cons_zero, List.getElem_cons_succ, List.setIfInBounds_toArray, List.set_cons_zero, List.set_cons_succ]
      refine wpAnyH_done (by kernel_rfl) ?_ _
      refine NoPanic.normal ?_
      go_wp2_with fail
      exact bodyPost_ret (results_cell2_tmp Tryd.results44 _ _ (b0 + 1) (b0 + 2) (ab t 32) (ab t 32) _ rfl (HVdpp.out.rg 1 rfl) rfl (HVdpp.out.rg 0 rfl) Tryd.underlying24 rfl (ilH _) (ilH _) rfl) rfl ⟨t, t, true, rfl, TwA.one HTl.out HTl.out, HVdpp.out.k⟩
    · have e0 : tw m m false f (rv F l) = none := by
        rw [tw_end false f _ (Or.inl (Nat.le_refl _)), if_neg (by decide)]
        rcases l with _ | _ | l
        · rfl
        · exact absurd rfl h1
        · rfl
      rw [e0]
      have hb1 : ((l : Int) != 1) = true := by rw [bne_iff_ne]; omega
      clear hL hc _hmx hf e0
      go_enter Tryd.func44, Tryd.ntmps44
      go_upto_region 1 with fail
      refine wp_world (fun X hX => ?_)
      rw [zeros32] at hX
      have hv := Vs.boxed2 hX
      clear hX
      obtain ⟨b0, hb0⟩ : ∃ b0, w.heap.size = b0 := ⟨_, rfl⟩
      rw [hb0] at hv ⊢
      have HV := hide hv
      clear hv hb0
      go_upto_region 5 with fail
      have HVd := hide HV.out.drew
      refine wp_region_noPanic ?_
      refine wp_region_held_drew (S := Sv w [(b0, f)]) (by kernel_rfl) (HVd.out.sv (by simp)) (fun hS0 => ?_)
      refine wpAnyH_take (i := 0) (v := .agg (ab f 32).toArray) rfl (by kernel_rfl) (by kernel_rfl) (by kernel_rfl) (fun _ _ _ h => h) (yieldsIf_load_mid (by rfl) 24 _ rfl b0 0 (by rfl) (ab f 32) _ (fun w' hS => hS.rg 0 rfl) Tryd.underlying24 rfl (ilH _)) hS0 ?_
      simp only [Act.put, List.getElem_toArray, List.getElem_cons_zero, List.setIfInBounds_toArray, List.set_cons_zero, List.set_cons_succ]
      refine wpAnyH_take (i := 1) (v := .agg (ab f 32).toArray) rfl (by kernel_rfl) (by kernel_rfl) (by kernel_rfl) (fun _ _ _ h => h) (yieldsIf_load_mid (by rfl) 24 _ rfl b0 0 (by rfl) (ab f 32) _ (fun w' hS => hS.rg 0 rfl) Tryd.underlying24 rfl (ilH _)) hS0 ?_
      simp only [Act.put, List.getElem_toArray, List.getElem_cons_zero, List.getElem_cons_succ, List.setIfInBounds_toArray, List.set_cons_zero, List.set_cons_succ]
      refine wpAnyH_ready (rs := [2]) (by kernel_rfl) (by simp) (AllReadyH.cons rfl (fun Kt hK => ?_) AllReadyH.nil)
      refine wanted_pos rfl ?_
      refine HVd.out.wpPut 1 rfl (by rfl) (by rfl) rfl (fun W1 hv => ?_)
      have HVdp := hide hv
      refine hK.out _ _ (HVdp.out.sv (by simp)) (fun hS1 => ?_)
      clear hK Kt hv
      simp only [Act.put, List.getElem_toArray, List.getElem_cons_zero, List.getElem_cons_succ]
      refine wpAnyH_ready (rs := [3]) (by kernel_rfl) (by simp) (AllReadyH.cons rfl (fun Kt hK => ?_) AllReadyH.nil)
      refine wanted_pos rfl ?_
      refine HVdp.out.wpPut 0 rfl (by rfl) (by rfl) rfl (fun W2 hv => ?_)
      have HVdpp := hide hv
      refine hK.out _ _ (HVdpp.out.sv (by simp)) (fun hS2 => ?_)
      clear hK Kt hv
      simp only [Act.put, List.getElem_toArray, List.getElem_cons_zero, List.getElem_cons_succ]
      refine wpAnyH_take (i := 4) (v := .bool false) rfl (by kernel_rfl) (by kernel_rfl) (by kernel_rfl) (fun _ _ _ h => h) (Or.inl ⟨by rfl, fun w' _ => by go_simp⟩) hS2 ?_
      simp only [Act.put, List.getElem_toArray, List.getElem_cons_zero, List.getElem_cons_succ, List.setIfInBounds_toArray, List.set_cons_zero, List.set_cons_succ]
      refine wpAnyH_done (by kernel_rfl) ?_ _
      refine NoPanic.normal ?_
      go_wp2_with fail
      exact bodyPost_ret (results_cell2_tmp Tryd.results44 _ _ (b0 + 1) (b0 + 2) (ab f 32) (ab f 32) _ rfl (HVdpp.out.rg 1 rfl) rfl (HVdpp.out.rg 0 rfl) Tryd.underlying24 rfl (ilH _) (ilH _) rfl) rfl ⟨f, f, false, rfl, TwA.no HF.out HF.out, HVdpp.out.k⟩
set_option maxRecDepth 100000 in
set_option maxHeartbeats 16000000 in
theorem refTwos_any : ∀ (l : Nat) {w : World} {x : Option Addr} {n m c : Nat} {F : Nat → Nat → Nat} {f : Nat → Nat} {wh : Bool}, HL w x l F → l ≤ c → c ≤ maxLen → 1 ≤ m → n < 9223372036854775808 → m ≤ n → (∀ j, f j < 256) → Calls Tryd.prog 44 #[.int .i64 (m : Int), .int .i64 (n : Int), .bool wh, hv f, .slice x l c] w (TwP w (tw n m wh f (rv F l))) := fun l => by
  induction l with
  | zero =>
    intro w x n m c F f wh hL hc hmx hm1 hn hm hf
    by_cases h1 : m = n
    · subst h1
      exact refTwos_end hL hc hmx hf
    · have HF := hide hf
      rw [show rv F 0 = [] from rfl]
      unfold hv
      rw [tw_nil wh f (by omega)]
      have hb1 : ((m : Int) == (n : Int)) = false := beq_eq_false_iff_ne.2 (by omega)
      clear hL hc hmx hm1 hn hm hf h1
      go_enter Tryd.func44, Tryd.ntmps44
      go_upto_region 1 with fail
      refine wp_world (fun X hX => ?_)
      rw [zeros32] at hX
      have hv := Vs.boxed2 hX
      clear hX
      obtain ⟨b0, hb0⟩ : ∃ b0, w.heap.size = b0 := ⟨_, rfl⟩
      rw [hb0] at hv ⊢
      have HV := hide hv
      clear hv hb0
      go_upto_region 8 with fail
      have HVd := hide HV.out.drew
      refine wp_region_noPanic ?_
      refine wp_region_held_drew (S := Sv w [(b0, f)]) (by kernel_rfl) (HVd.out.sv (by simp)) (fun hS0 => ?_)
      refine wpAnyH_take (i := 0) (v := .agg (ab f 32).toArray) rfl (by kernel_rfl) (by kernel_rfl) (by kernel_rfl) (fun _ _ _ h => h) (yieldsIf_load_mid (by rfl) 24 _ rfl b0 0 (by rfl) (ab f 32) _ (fun w' hS => hS.rg 0 rfl) Tryd.underlying24 rfl (ilH _)) hS0 ?_
      simp only [Act.put, List.getElem_toArray, List.getElem_cons_zero, List.setIfInBounds_toArray, List.set_cons_zero, List.set_cons_succ]
      refine wpAnyH_take (i := 1) (v := .agg (ab f 32).toArray) rfl (by kernel_rfl) (by kernel_rfl) (by kernel_rfl) (fun _ _ _ h => h) (yieldsIf_load_mid (by rfl) 24 _ rfl b0 0 (by rfl) (ab f 32) _ (fun w' hS => hS.rg 0 rfl) Tryd.underlying24 rfl (ilH _)) hS0 ?_
      simp only [Act.put, List.getElem_toArray, List.getElem_cons_zero, List.getElem_cons_succ, List.setIfInBounds_toArray, List.set_cons_zero, List.set_cons_succ]
      refine wpAnyH_ready (rs := [2]) (by kernel_rfl) (by simp) (AllReadyH.cons rfl (fun Kt hK => ?_) AllReadyH.nil)
      refine wanted_pos rfl ?_
      refine HVd.out.wpPut 1 rfl (by rfl) (by rfl) rfl (fun W1 hv => ?_)
      have HVdp := hide hv
      refine hK.out _ _ (HVdp.out.sv (by simp)) (fun hS1 => ?_)
      clear hK Kt hv
      simp only [Act.put, List.getElem_toArray, List.getElem_cons_zero, List.getElem_cons_succ]
      refine wpAnyH_ready (rs := [3]) (by kernel_rfl) (by simp) (AllReadyH.cons rfl (fun Kt hK => ?_) AllReadyH.nil)
      refine wanted_pos rfl ?_
      refine HVdp.out.wpPut 0 rfl (by rfl) (by rfl) rfl (fun W2 hv => ?_)
      have HVdpp := hide hv
      refine hK.out _ _ (HVdpp.out.sv (by simp)) (fun hS2 => ?_)
      clear hK Kt hv
      simp only [Act.put, List.getElem_toArray, List.getElem_cons_zero, List.getElem_cons_succ]
      refine wpAnyH_take (i := 4) (v := .bool false) rfl (by kernel_rfl) (by kernel_rfl) (by kernel_rfl) (fun _ _ _ h => h) (Or.inl ⟨by rfl, fun w' _ => by go_simp⟩) hS2 ?_
      simp only [Act.put, List.getElem_toArray, List.getElem_cons_zero, List.getElem_cons_succ, List.setIfInBounds_toArray, List.set_cons_zero, List.set_cons_succ]
      refine wpAnyH_done (by kernel_rfl) ?_ _
      refine NoPanic.normal ?_
      go_wp2_with fail
      exact bodyPost_ret (results_cell2_tmp Tryd.results44 _ _ (b0 + 1) (b0 + 2) (ab f 32) (ab f 32) _ rfl (HVdpp.out.rg 1 rfl) rfl (HVdpp.out.rg 0 rfl) Tryd.underlying24 rfl (ilH _) (ilH _) rfl) rfl ⟨f, f, false, rfl, TwA.no HF.out HF.out, HVdpp.out.k⟩
  | succ l ih =>
    intro w x n m c F f wh hL hc hmx hm1 hn hm hf
    by_cases h1 : m = n
    · subst h1
      exact refTwos_end hL hc hmx hf
    · have HF := hide hf
      rw [show rv F (l + 1) = F l :: rv F l from rfl]
      unfold hv
      obtain ⟨s, hs⟩ : ∃ s, l + 1 = s := ⟨_, rfl⟩
      rw [hs] at hL hc ⊢
      have hb1 : ((m : Int) == (n : Int)) = false := beq_eq_false_iff_ne.2 (by omega)
      have hb2 : ((s : Int) == 0) = false := beq_eq_false_iff_ne.2 (by omega)
      have k1 := sp_lt (n := n) (by omega)
      have k0 := sp_pos (n := n) (by omega)
      have HSp := hide (fun W => refSplit_big W (n := n) hn)
      obtain ⟨bz, oz, rfl⟩ := hL.ad (by omega)
      obtain ⟨t, ht⟩ : ∃ t, F l = t := ⟨_, rfl⟩
      have htl : ∀ j, t j < 256 := by rw [← ht]; exact hL.lt l
      have hRt : w.rangeAt bz (oz + l * 32) (ab t 32) := by rw [← ht]; exact hL.rangeA (by omega)
      rw [ht]
      have hws : wrap64 ((s : Int) - 1) = (l : Int) := by unfold wrap64; unfold maxLen at hmx; omega
      have hls : (l : Int) ≤ (s : Int) := by omega
      have hlc : (l : Int) ≤ (c : Int) := by omega
      have hlt : (l : Int) < (s : Int) := by omega
      have hc0 : ¬ (c = 0) := by omega
      have HR := hide hRt
      have HTl := hide htl
      by_cases hmk : m ≤ sp n
      · rw [tw_low wh f t (rv F l) (by omega) hmk]
        obtain ⟨k, hk⟩ : ∃ k, sp n = k := ⟨_, rfl⟩
        rw [hk] at HSp k1 k0 hmk ⊢
        have hmI : (m : Int) ≤ (k : Int) := by omega
        obtain ⟨O, hO⟩ : ∃ O, tw k m wh f (rv F l) = O := ⟨_, rfl⟩
        have hih := fun W (h : Below w.heap.size w W) => ih (w := W) (c := c) (wh := wh) ((hL.keep h).head l (by omega)) (by omega) hmx hm1 (by omega) hmk hf
        rw [hO] at hih ⊢
        have HIH := hide hih
        clear hih ih hL hc hmx hm1 hn hm hf hs h1 k1 k0 hk hmk hRt htl ht hO
        go_enter Tryd.func44, Tryd.ntmps44
        go_upto_region 1 with fail
        refine wp_world (fun X hX => ?_)
        rw [zeros32] at hX
        have hv := Vs.boxed2 hX
        clear hX
        obtain ⟨b0, hb0⟩ : ∃ b0, w.heap.size = b0 := ⟨_, rfl⟩
        rw [hb0] at hv ⊢
        have HV := hide hv
        clear hv hb0
        go_upto_region 11 with (go_at_call 28; with_reducible refine Calls.mono (HSp.out _) ?_; rintro e' w' ⟨rfl, hw⟩; replace hw := hw.symm; subst hw)
        rw [hws]
        go_upto_region 12 with (first
          | (refine HVx.out.listPut (b := bx) 0 rfl rfl rfl rfl rfl (fun X3 hv => ?_); have HVz : Hid (Vs w X3 [(bx, t), (b0 + 2, fun _ => 0), (b0 + 1, fun _ => 0), (b0, f)]) := hide hv; clear hv HVx)
          | (refine HV.out.listNew rfl rfl (fun bx X2 hv hb => ?_); have HVx := hide hv; clear hv hb HV)
          | (refine wpList_load_h rfl _ rfl rfl (range_keep HR.out HV.out.k) ?_))
        go_upto_region 13 with fail
        have HV := HVz
        clear HVz
        have HVd := hide HV.out.drew
        apply meet6 (A := Nat → Nat) (B := Nat → Nat) (C := Bool) (D := Nat) (E := Nat) (F := World)
        · intro hcut
          refine wp_region_noPanic ?_
          refine wp_region_held_drew (S := Sv w [(b0, f)]) (by kernel_rfl) (HVd.out.sv (by simp)) (fun hS0 => ?_)
          refine wpAnyH_take (i := 0) (v := .int .i64 (m : Int)) rfl (by kernel_rfl) (by kernel_rfl) (by kernel_rfl) (fun _ _ _ h => h) (Or.inl ⟨by rfl, fun w' _ => by go_simp⟩) hS0 ?_
          simp only [Act.put, List.getElem_toArray, List.getElem_cons_zero, List.setIfInBounds_toArray, List.set_cons_zero, List.set_cons_succ]
          refine wpAnyH_take (i := 1) (v := .int .i64 (k : Int)) rfl (by kernel_rfl) (by kernel_rfl) (by kernel_rfl) (fun _ _ _ h => h) (Or.inl ⟨by rfl, fun w' _ => by go_simp⟩) hS0 ?_
          simp only [Act.put, List.getElem_toArray, List.getElem_cons_zero, List.getElem_cons_succ, List.setIfInBounds_toArray, List.set_cons_zero, List.set_cons_succ]
          refine wpAnyH_take (i := 2) (v := .bool wh) rfl (by kernel_rfl) (by kernel_rfl) (by kernel_rfl) (fun _ _ _ h => h) (Or.inl ⟨by rfl, fun w' _ => by go_simp⟩) hS0 ?_
          simp only [Act.put, List.getElem_toArray, List.getElem_cons_zero, List.getElem_cons_succ, List.setIfInBounds_toArray, List.set_cons_zero, List.set_cons_succ]
          refine wpAnyH_take (i := 3) (v := .agg (ab f 32).toArray) rfl (by kernel_rfl) (by kernel_rfl) (by kernel_rfl) (fun _ _ _ h => h) (yieldsIf_load_mid (by rfl) 24 _ rfl b0 0 (by rfl) (ab f 32) _ (fun w' hS => hS.rg 0 rfl) Tryd.underlying24 rfl (ilH _)) hS0 ?_
          simp only [Act.put, List.getElem_toArray, List.getElem_cons_zero, List.getElem_cons_succ, List.setIfInBounds_toArray, List.set_cons_zero, List.set_cons_succ]
          refine wpAnyH_take (i := 4) (v := .slice (some ⟨bz, oz, none⟩) s c) rfl (by kernel_rfl) (by kernel_rfl) (by kernel_rfl) (fun _ _ _ h => h) (Or.inl ⟨by rfl, fun w' _ => by go_simp⟩) hS0 ?_
          simp only [Act.put, List.getElem_toArray, List.getElem_cons_zero, List.getElem_cons_succ, List.setIfInBounds_toArray, List.set_cons_zero, List.set_cons_succ]
          refine wpAnyH_take (i := 5) (v := .int .i64 (l : Int)) rfl (by kernel_rfl) (by kernel_rfl) (by kernel_rfl) (fun _ _ _ h => h) (Or.inl ⟨by rfl, fun w' _ => by go_simp⟩) hS0 ?_
          simp only [Act.put, List.getElem_toArray, List.getElem_cons_zero, List.getElem_cons_succ, List.setIfInBounds_toArray, List.set_cons_zero, List.set_cons_succ]
          refine wpAnyH_take (i := 6) (v := .slice (some ⟨bz, oz, none⟩) l c) rfl (by kernel_rfl) (by kernel_rfl) (by kernel_rfl) (fun _ _ _ h => h) (Or.inl ⟨by rfl, fun w' _ => by go_simp⟩) hS0 ?_
          simp only [Act.put, List.getElem_toArray, List.getElem_cons_zero, List.getElem_cons_succ, List.setIfInBounds_toArray, List.set_cons_zero, List.set_cons_succ]
          refine wpAnyH_ready (rs := [7, 12, 13]) (by kernel_rfl) (by simp) (AllReadyH.cons rfl (fun Kt hK => ?_) (AllReadyH.cons rfl (fun Kt hK => ?_) (AllReadyH.cons rfl (fun Kt hK => ?_) AllReadyH.nil)))
          · refine wanted_pos rfl ?_
            refine wp_call (R := fun r w' => ∃ f1 g1 t1, r = .tuple #[.agg (ab f1 32).toArray, .agg (ab g1 32).toArray, .bool t1] ∧ TwA O f1 g1 t1 ∧ Below w.heap.size w w' ∧ Vs w w' [(bx, t), (b0 + 2, (fun _ => 0)), (b0 + 1, (fun _ => 0)), (b0, f)]) (vs := #[.int .i64 (m : Int), .int .i64 (k : Int), .bool wh, .agg (ab f 32).toArray, .slice (some ⟨bz, oz, none⟩) l c]) rfl (by simp only [List.map_toArray, List.map_cons, List.map_nil]; rfl) (by go_simp) (Calls.mono (HIH.out _ HVd.out.k) (fun e w' hE => by
              obtain ⟨f1, g1, t1, he, ha, hb⟩ := hE
              exact ⟨_, he, f1, g1, t1, rfl, ha, Go.Proofs.YtpokecijongkpaaDoor.K.call HVd.out.k hb, HVd.out.keep hb⟩)) (fun r W1 hr => ?_)
            obtain ⟨f1, g1, t1, hr, ha, hb, hv⟩ := hr
            subst hr
            have HA := hide ha
            have HVdc := hide hv
            refine hK.out _ _ (HVdc.out.sv (by simp)) (fun hS1 => ?_)
            clear hK Kt hb ha hv
            simp only [Act.put, List.getElem_toArray, List.getElem_cons_zero, List.getElem_cons_succ, List.setIfInBounds_toArray, List.set_cons_zero, List.set_cons_succ]
            refine wpAnyH_take (i := 8) (v := .tuple #[.agg (ab f1 32).toArray, .agg (ab g1 32).toArray, .bool t1]) rfl (by kernel_rfl) (by kernel_rfl) (by kernel_rfl) (fun _ _ _ h => h) (Or.inl ⟨by rfl, fun w' _ => by go_simp⟩) hS1 ?_
            simp only [Act.put, List.getElem_toArray, List.getElem_cons_zero, List.getElem_cons_succ, List.setIfInBounds_toArray, List.set_cons_zero, List.set_cons_succ]
            refine wpAnyH_take (i := 9) (v := .agg (ab f1 32).toArray) rfl (by kernel_rfl) (by kernel_rfl) (by kernel_rfl) (fun _ _ _ h => h) (Or.inl ⟨by rfl, fun w' _ => by go_simp⟩) hS1 ?_
            simp only [Act.put, List.getElem_toArray, List.getElem_cons_zero, List.getElem_cons_succ, List.setIfInBounds_toArray, List.set_cons_zero, List.set_cons_succ]
            refine wpAnyH_take (i := 10) (v := .agg (ab g1 32).toArray) rfl (by kernel_rfl) (by kernel_rfl) (by kernel_rfl) (fun _ _ _ h => h) (Or.inl ⟨by rfl, fun w' _ => by go_simp⟩) hS1 ?_
            simp only [Act.put, List.getElem_toArray, List.getElem_cons_zero, List.getElem_cons_succ, List.setIfInBounds_toArray, List.set_cons_zero, List.set_cons_succ]
            refine wpAnyH_take (i := 11) (v := .bool t1) rfl (by kernel_rfl) (by kernel_rfl) (by kernel_rfl) (fun _ _ _ h => h) (Or.inl ⟨by rfl, fun w' _ => by go_simp⟩) hS1 ?_
            simp only [Act.put, List.getElem_toArray, List.getElem_cons_zero, List.getElem_cons_succ, List.setIfInBounds_toArray, List.set_cons_zero, List.set_cons_succ]
            refine wpAnyH_ready (rs := [12, 13]) (by kernel_rfl) (by simp) (AllReadyH.cons rfl (fun Kt hK => ?_) (AllReadyH.cons rfl (fun Kt hK => ?_) AllReadyH.nil))
            · refine wanted_pos rfl ?_
              refine HVdc.out.wpNew rfl (fun y W2 hv hb => ?_)
              have HVdcn := hide hv
              refine hK.out _ _ (HVdcn.out.sv (by simp)) (fun hS2 => ?_)
              clear hK Kt hv hb
              simp only [Act.put, List.getElem_toArray, List.getElem_cons_zero, List.getElem_cons_succ, List.setIfInBounds_toArray, List.set_cons_zero, List.set_cons_succ]
              refine wpAnyH_ready (rs := [13]) (by kernel_rfl) (by simp) (AllReadyH.cons rfl (fun Kt hK => ?_) AllReadyH.nil)
              refine wanted_pos rfl ?_
              refine HVdcn.out.wpNew rfl (fun z W3 hv hb => ?_)
              have HVdcnn := hide hv
              refine hK.out _ _ (HVdcnn.out.sv (by simp)) (fun hS3 => ?_)
              clear hK Kt hv hb
              simp only [Act.put, List.getElem_toArray, List.getElem_cons_zero, List.getElem_cons_succ, List.setIfInBounds_toArray, List.set_cons_zero, List.set_cons_succ]
              refine wpAnyH_ready (rs := [14]) (by kernel_rfl) (by simp) (AllReadyH.cons rfl (fun Kt hK => ?_) AllReadyH.nil)
              refine wanted_pos rfl ?_
              refine HVdcnn.out.wpPut 1 rfl (by rfl) (by rfl) rfl (fun W4 hv => ?_)
              have HVdcnnp := hide hv
              refine hK.out _ _ (HVdcnnp.out.sv (by simp)) (fun hS4 => ?_)
              clear hK Kt hv
              simp only [Act.put, List.getElem_toArray, List.getElem_cons_zero, List.getElem_cons_succ]
              refine wpAnyH_ready (rs := [15]) (by kernel_rfl) (by simp) (AllReadyH.cons rfl (fun Kt hK => ?_) AllReadyH.nil)
              refine wanted_pos rfl ?_
              refine HVdcnnp.out.wpPut 0 rfl (by rfl) (by rfl) rfl (fun W5 hv => ?_)
              have HVdcnnpp := hide hv
              refine hK.out _ _ (HVdcnnpp.out.sv (by simp)) (fun hS5 => ?_)
              clear hK Kt hv
              simp only [Act.put, List.getElem_toArray, List.getElem_cons_zero, List.getElem_cons_succ]
              refine wpAnyH_take (i := 16) (v := .bool t1) rfl (by kernel_rfl) (by kernel_rfl) (by kernel_rfl) (fun _ _ _ h => h) (Or.inl ⟨by rfl, fun w' _ => by go_simp⟩) hS5 ?_
              simp only [Act.put, List.getElem_toArray, List.getElem_cons_zero, List.getElem_cons_succ, List.setIfInBounds_toArray, List.set_cons_zero, List.set_cons_succ]
              refine wpAnyH_done (by kernel_rfl) ?_ _
              refine NoPanic.normal ?_
              have HVe : Hid (Vs w _ [(z, g1), (y, f1), (bx, t), (b0 + 2, (fun _ => 0)), (b0 + 1, (fun _ => 0)), (b0, f)]) := HVdcnnpp
              revert HA HVe
              exact hcut f1 g1 t1 y z W5
            · refine wanted_pos rfl ?_
              refine HVdc.out.wpNew rfl (fun z W6 hv hb => ?_)
              have HVdcn := hide hv
              refine hK.out _ _ (HVdcn.out.sv (by simp)) (fun hS6 => ?_)
              clear hK Kt hv hb
              simp only [Act.put, List.getElem_toArray, List.getElem_cons_zero, List.getElem_cons_succ, List.setIfInBounds_toArray, List.set_cons_zero, List.set_cons_succ]
              refine wpAnyH_ready (rs := [12]) (by kernel_rfl) (by simp) (AllReadyH.cons rfl (fun Kt hK => ?_) AllReadyH.nil)
              refine wanted_pos rfl ?_
              refine HVdcn.out.wpNew rfl (fun y W7 hv hb => ?_)
              have HVdcnn := hide hv
              refine hK.out _ _ (HVdcnn.out.sv (by simp)) (fun hS7 => ?_)
              clear hK Kt hv hb
              simp only [Act.put, List.getElem_toArray, List.getElem_cons_zero, List.getElem_cons_succ, List.setIfInBounds_toArray, List.set_cons_zero, List.set_cons_succ]
              refine wpAnyH_ready (rs := [14]) (by kernel_rfl) (by simp) (AllReadyH.cons rfl (fun Kt hK => ?_) AllReadyH.nil)
              refine wanted_pos rfl ?_
              refine HVdcnn.out.wpPut 0 rfl (by rfl) (by rfl) rfl (fun W8 hv => ?_)
              have HVdcnnp := hide hv
              refine hK.out _ _ (HVdcnnp.out.sv (by simp)) (fun hS8 => ?_)
              clear hK Kt hv
              simp only [Act.put, List.getElem_toArray, List.getElem_cons_zero, List.getElem_cons_succ]
              refine wpAnyH_ready (rs := [15]) (by kernel_rfl) (by simp) (AllReadyH.cons rfl (fun Kt hK => ?_) AllReadyH.nil)
              refine wanted_pos rfl ?_
              refine HVdcnnp.out.wpPut 1 rfl (by rfl) (by rfl) rfl (fun W9 hv => ?_)
              have HVdcnnpp := hide hv
              refine hK.out _ _ (HVdcnnpp.out.sv (by simp)) (fun hS9 => ?_)
              clear hK Kt hv
              simp only [Act.put, List.getElem_toArray, List.getElem_cons_zero, List.getElem_cons_succ]
              refine wpAnyH_take (i := 16) (v := .bool t1) rfl (by kernel_rfl) (by kernel_rfl) (by kernel_rfl) (fun _ _ _ h => h) (Or.inl ⟨by rfl, fun w' _ => by go_simp⟩) hS9 ?_
              simp only [Act.put, List.getElem_toArray, List.getElem_cons_zero, List.getElem_cons_succ, List.setIfInBounds_toArray, List.set_cons_zero, List.set_cons_succ]
              refine wpAnyH_done (by kernel_rfl) ?_ _
              refine NoPanic.normal ?_
              have HVdcnnpps := hide (HVdcnnpp.out.perm (List.Perm.swap (z, g1) (y, f1) _))
              have HVe : Hid (Vs w _ [(z, g1), (y, f1), (bx, t), (b0 + 2, (fun _ => 0)), (b0 + 1, (fun _ => 0)), (b0, f)]) := HVdcnnpps
              revert HA HVe
              exact hcut f1 g1 t1 y z W9
          · refine wanted_pos rfl ?_
            refine HVd.out.wpNew rfl (fun y W10 hv hb => ?_)
            have HVdn := hide hv
            refine hK.out _ _ (HVdn.out.sv (by simp)) (fun hS10 => ?_)
            clear hK Kt hv hb
            simp only [Act.put, List.getElem_toArray, List.getElem_cons_zero, List.getElem_cons_succ, List.setIfInBounds_toArray, List.set_cons_zero, List.set_cons_succ]
            refine wpAnyH_ready (rs := [7, 13]) (by kernel_rfl) (by simp) (AllReadyH.cons rfl (fun Kt hK => ?_) (AllReadyH.cons rfl (fun Kt hK => ?_) AllReadyH.nil))
            · refine wanted_pos rfl ?_
              refine wp_call (R := fun r w' => ∃ f1 g1 t1, r = .tuple #[.agg (ab f1 32).toArray, .agg (ab g1 32).toArray, .bool t1] ∧ TwA O f1 g1 t1 ∧ Below w.heap.size w w' ∧ Vs w w' [(y, (fun _ => 0)), (bx, t), (b0 + 2, (fun _ => 0)), (b0 + 1, (fun _ => 0)), (b0, f)]) (vs := #[.int .i64 (m : Int), .int .i64 (k : Int), .bool wh, .agg (ab f 32).toArray, .slice (some ⟨bz, oz, none⟩) l c]) rfl (by simp only [List.map_toArray, List.map_cons, List.map_nil]; rfl) (by go_simp) (Calls.mono (HIH.out _ HVdn.out.k) (fun e w' hE => by
                obtain ⟨f1, g1, t1, he, ha, hb⟩ := hE
                exact ⟨_, he, f1, g1, t1, rfl, ha, Go.Proofs.YtpokecijongkpaaDoor.K.call HVdn.out.k hb, HVdn.out.keep hb⟩)) (fun r W11 hr => ?_)
              obtain ⟨f1, g1, t1, hr, ha, hb, hv⟩ := hr
              subst hr
              have HA := hide ha
              have HVdnc := hide hv
              refine hK.out _ _ (HVdnc.out.sv (by simp)) (fun hS11 => ?_)
              clear hK Kt hb ha hv
              simp only [Act.put, List.getElem_toArray, List.getElem_cons_zero, List.getElem_cons_succ, List.setIfInBounds_toArray, List.set_cons_zero, List.set_cons_succ]
              refine wpAnyH_take (i := 8) (v := .tuple #[.agg (ab f1 32).toArray, .agg (ab g1 32).toArray, .bool t1]) rfl (by kernel_rfl) (by kernel_rfl) (by kernel_rfl) (fun _ _ _ h => h) (Or.inl ⟨by rfl, fun w' _ => by go_simp⟩) hS11 ?_
              simp only [Act.put, List.getElem_toArray, List.getElem_cons_zero, List.getElem_cons_succ, List.setIfInBounds_toArray, List.set_cons_zero, List.set_cons_succ]
              refine wpAnyH_take (i := 9) (v := .agg (ab f1 32).toArray) rfl (by kernel_rfl) (by kernel_rfl) (by kernel_rfl) (fun _ _ _ h => h) (Or.inl ⟨by rfl, fun w' _ => by go_simp⟩) hS11 ?_
              simp only [Act.put, List.getElem_toArray, List.getElem_cons_zero, List.getElem_cons_succ, List.setIfInBounds_toArray, List.set_cons_zero, List.set_cons_succ]
              refine wpAnyH_take (i := 10) (v := .agg (ab g1 32).toArray) rfl (by kernel_rfl) (by kernel_rfl) (by kernel_rfl) (fun _ _ _ h => h) (Or.inl ⟨by rfl, fun w' _ => by go_simp⟩) hS11 ?_
              simp only [Act.put, List.getElem_toArray, List.getElem_cons_zero, List.getElem_cons_succ, List.setIfInBounds_toArray, List.set_cons_zero, List.set_cons_succ]
              refine wpAnyH_take (i := 11) (v := .bool t1) rfl (by kernel_rfl) (by kernel_rfl) (by kernel_rfl) (fun _ _ _ h => h) (Or.inl ⟨by rfl, fun w' _ => by go_simp⟩) hS11 ?_
              simp only [Act.put, List.getElem_toArray, List.getElem_cons_zero, List.getElem_cons_succ, List.setIfInBounds_toArray, List.set_cons_zero, List.set_cons_succ]
              refine wpAnyH_ready (rs := [13]) (by kernel_rfl) (by simp) (AllReadyH.cons rfl (fun Kt hK => ?_) AllReadyH.nil)
              refine wanted_pos rfl ?_
              refine HVdnc.out.wpNew rfl (fun z W12 hv hb => ?_)
              have HVdncn := hide hv
              refine hK.out _ _ (HVdncn.out.sv (by simp)) (fun hS12 => ?_)
              clear hK Kt hv hb
              simp only [Act.put, List.getElem_toArray, List.getElem_cons_zero, List.getElem_cons_succ, List.setIfInBounds_toArray, List.set_cons_zero, List.set_cons_succ]
              refine wpAnyH_ready (rs := [14]) (by kernel_rfl) (by simp) (AllReadyH.cons rfl (fun Kt hK => ?_) AllReadyH.nil)
              refine wanted_pos rfl ?_
              refine HVdncn.out.wpPut 1 rfl (by rfl) (by rfl) rfl (fun W13 hv => ?_)
              have HVdncnp := hide hv
              refine hK.out _ _ (HVdncnp.out.sv (by simp)) (fun hS13 => ?_)
              clear hK Kt hv
              simp only [Act.put, List.getElem_toArray, List.getElem_cons_zero, List.getElem_cons_succ]
              refine wpAnyH_ready (rs := [15]) (by kernel_rfl) (by simp) (AllReadyH.cons rfl (fun Kt hK => ?_) AllReadyH.nil)
              refine wanted_pos rfl ?_
              refine HVdncnp.out.wpPut 0 rfl (by rfl) (by rfl) rfl (fun W14 hv => ?_)
              have HVdncnpp := hide hv
              refine hK.out _ _ (HVdncnpp.out.sv (by simp)) (fun hS14 => ?_)
              clear hK Kt hv
              simp only [Act.put, List.getElem_toArray, List.getElem_cons_zero, List.getElem_cons_succ]
              refine wpAnyH_take (i := 16) (v := .bool t1) rfl (by kernel_rfl) (by kernel_rfl) (by kernel_rfl) (fun _ _ _ h => h) (Or.inl ⟨by rfl, fun w' _ => by go_simp⟩) hS14 ?_
              simp only [Act.put, List.getElem_toArray, List.getElem_cons_zero, List.getElem_cons_succ, List.setIfInBounds_toArray, List.set_cons_zero, List.set_cons_succ]
              refine wpAnyH_done (by kernel_rfl) ?_ _
              refine NoPanic.normal ?_
              have HVe : Hid (Vs w _ [(z, g1), (y, f1), (bx, t), (b0 + 2, (fun _ => 0)), (b0 + 1, (fun _ => 0)), (b0, f)]) := HVdncnpp
              revert HA HVe
              exact hcut f1 g1 t1 y z W14
            · refine wanted_pos rfl ?_
              refine HVdn.out.wpNew rfl (fun z W15 hv hb => ?_)
              have HVdnn := hide hv
              refine hK.out _ _ (HVdnn.out.sv (by simp)) (fun hS15 => ?_)
              clear hK Kt hv hb
              simp only [Act.put, List.getElem_toArray, List.getElem_cons_zero, List.getElem_cons_succ, List.setIfInBounds_toArray, List.set_cons_zero, List.set_cons_succ]
              refine wpAnyH_ready (rs := [7]) (by kernel_rfl) (by simp) (AllReadyH.cons rfl (fun Kt hK => ?_) AllReadyH.nil)
              refine wanted_pos rfl ?_
              refine wp_call (R := fun r w' => ∃ f1 g1 t1, r = .tuple #[.agg (ab f1 32).toArray, .agg (ab g1 32).toArray, .bool t1] ∧ TwA O f1 g1 t1 ∧ Below w.heap.size w w' ∧ Vs w w' [(z, (fun _ => 0)), (y, (fun _ => 0)), (bx, t), (b0 + 2, (fun _ => 0)), (b0 + 1, (fun _ => 0)), (b0, f)]) (vs := #[.int .i64 (m : Int), .int .i64 (k : Int), .bool wh, .agg (ab f 32).toArray, .slice (some ⟨bz, oz, none⟩) l c]) rfl (by simp only [List.map_toArray, List.map_cons, List.map_nil]; rfl) (by go_simp) (Calls.mono (HIH.out _ HVdnn.out.k) (fun e w' hE => by
                obtain ⟨f1, g1, t1, he, ha, hb⟩ := hE
                exact ⟨_, he, f1, g1, t1, rfl, ha, Go.Proofs.YtpokecijongkpaaDoor.K.call HVdnn.out.k hb, HVdnn.out.keep hb⟩)) (fun r W16 hr => ?_)
              obtain ⟨f1, g1, t1, hr, ha, hb, hv⟩ := hr
              subst hr
              have HA := hide ha
              have HVdnnc := hide hv
              refine hK.out _ _ (HVdnnc.out.sv (by simp)) (fun hS16 => ?_)
              clear hK Kt hb ha hv
              simp only [Act.put, List.getElem_toArray, List.getElem_cons_zero, List.getElem_cons_succ, List.setIfInBounds_toArray, List.set_cons_zero, List.set_cons_succ]
              refine wpAnyH_take (i := 8) (v := .tuple #[.agg (ab f1 32).toArray, .agg (ab g1 32).toArray, .bool t1]) rfl (by kernel_rfl) (by kernel_rfl) (by kernel_rfl) (fun _ _ _ h => h) (Or.inl ⟨by rfl, fun w' _ => by go_simp⟩) hS16 ?_
              simp only [Act.put, List.getElem_toArray, List.getElem_cons_zero, List.getElem_cons_succ, List.setIfInBounds_toArray, List.set_cons_zero, List.set_cons_succ]
              refine wpAnyH_take (i := 9) (v := .agg (ab f1 32).toArray) rfl (by kernel_rfl) (by kernel_rfl) (by kernel_rfl) (fun _ _ _ h => h) (Or.inl ⟨by rfl, fun w' _ => by go_simp⟩) hS16 ?_
              simp only [Act.put, List.getElem_toArray, List.getElem_cons_zero, List.getElem_cons_succ, List.setIfInBounds_toArray, List.set_cons_zero, List.set_cons_succ]
              refine wpAnyH_take (i := 10) (v := .agg (ab g1 32).toArray) rfl (by kernel_rfl) (by kernel_rfl) (by kernel_rfl) (fun _ _ _ h => h) (Or.inl ⟨by rfl, fun w' _ => by go_simp⟩) hS16 ?_
              simp only [Act.put, List.getElem_toArray, List.getElem_cons_zero, List.getElem_cons_succ, List.setIfInBounds_toArray, List.set_cons_zero, List.set_cons_succ]
              refine wpAnyH_take (i := 11) (v := .bool t1) rfl (by kernel_rfl) (by kernel_rfl) (by kernel_rfl) (fun _ _ _ h => h) (Or.inl ⟨by rfl, fun w' _ => by go_simp⟩) hS16 ?_
              simp only [Act.put, List.getElem_toArray, List.getElem_cons_zero, List.getElem_cons_succ, List.setIfInBounds_toArray, List.set_cons_zero, List.set_cons_succ]
              refine wpAnyH_ready (rs := [14]) (by kernel_rfl) (by simp) (AllReadyH.cons rfl (fun Kt hK => ?_) AllReadyH.nil)
              refine wanted_pos rfl ?_
              refine HVdnnc.out.wpPut 1 rfl (by rfl) (by rfl) rfl (fun W17 hv => ?_)
              have HVdnncp := hide hv
              refine hK.out _ _ (HVdnncp.out.sv (by simp)) (fun hS17 => ?_)
              clear hK Kt hv
              simp only [Act.put, List.getElem_toArray, List.getElem_cons_zero, List.getElem_cons_succ]
              refine wpAnyH_ready (rs := [15]) (by kernel_rfl) (by simp) (AllReadyH.cons rfl (fun Kt hK => ?_) AllReadyH.nil)
              refine wanted_pos rfl ?_
              refine HVdnncp.out.wpPut 0 rfl (by rfl) (by rfl) rfl (fun W18 hv => ?_)
              have HVdnncpp := hide hv
              refine hK.out _ _ (HVdnncpp.out.sv (by simp)) (fun hS18 => ?_)
              clear hK Kt hv
              simp only [Act.put, List.getElem_toArray, List.getElem_cons_zero, List.getElem_cons_succ]
              refine wpAnyH_take (i := 16) (v := .bool t1) rfl (by kernel_rfl) (by kernel_rfl) (by kernel_rfl) (fun _ _ _ h => h) (Or.inl ⟨by rfl, fun w' _ => by go_simp⟩) hS18 ?_
              simp only [Act.put, List.getElem_toArray, List.getElem_cons_zero, List.getElem_cons_succ, List.setIfInBounds_toArray, List.set_cons_zero, List.set_cons_succ]
              refine wpAnyH_done (by kernel_rfl) ?_ _
              refine NoPanic.normal ?_
              have HVe : Hid (Vs w _ [(z, g1), (y, f1), (bx, t), (b0 + 2, (fun _ => 0)), (b0 + 1, (fun _ => 0)), (b0, f)]) := HVdnncpp
              revert HA HVe
              exact hcut f1 g1 t1 y z W18
          · refine wanted_pos rfl ?_
            refine HVd.out.wpNew rfl (fun z W19 hv hb => ?_)
            have HVdn := hide hv
            refine hK.out _ _ (HVdn.out.sv (by simp)) (fun hS19 => ?_)
            clear hK Kt hv hb
            simp only [Act.put, List.getElem_toArray, List.getElem_cons_zero, List.getElem_cons_succ, List.setIfInBounds_toArray, List.set_cons_zero, List.set_cons_succ]
            refine wpAnyH_ready (rs := [7, 12]) (by kernel_rfl) (by simp) (AllReadyH.cons rfl (fun Kt hK => ?_) (AllReadyH.cons rfl (fun Kt hK => ?_) AllReadyH.nil))
            · refine wanted_pos rfl ?_
              refine wp_call (R := fun r w' => ∃ f1 g1 t1, r = .tuple #[.agg (ab f1 32).toArray, .agg (ab g1 32).toArray, .bool t1] ∧ TwA O f1 g1 t1 ∧ Below w.heap.size w w' ∧ Vs w w' [(z, (fun _ => 0)), (bx, t), (b0 + 2, (fun _ => 0)), (b0 + 1, (fun _ => 0)), (b0, f)]) (vs := #[.int .i64 (m : Int), .int .i64 (k : Int), .bool wh, .agg (ab f 32).toArray, .slice (some ⟨bz, oz, none⟩) l c]) rfl (by simp only [List.map_toArray, List.map_cons, List.map_nil]; rfl) (by go_simp) (Calls.mono (HIH.out _ HVdn.out.k) (fun e w' hE => by
                obtain ⟨f1, g1, t1, he, ha, hb⟩ := hE
                exact ⟨_, he, f1, g1, t1, rfl, ha, Go.Proofs.YtpokecijongkpaaDoor.K.call HVdn.out.k hb, HVdn.out.keep hb⟩)) (fun r W20 hr => ?_)
              obtain ⟨f1, g1, t1, hr, ha, hb, hv⟩ := hr
              subst hr
              have HA := hide ha
              have HVdnc := hide hv
              refine hK.out _ _ (HVdnc.out.sv (by simp)) (fun hS20 => ?_)
              clear hK Kt hb ha hv
              simp only [Act.put, List.getElem_toArray, List.getElem_cons_zero, List.getElem_cons_succ, List.setIfInBounds_toArray, List.set_cons_zero, List.set_cons_succ]
              refine wpAnyH_take (i := 8) (v := .tuple #[.agg (ab f1 32).toArray, .agg (ab g1 32).toArray, .bool t1]) rfl (by kernel_rfl) (by kernel_rfl) (by kernel_rfl) (fun _ _ _ h => h) (Or.inl ⟨by rfl, fun w' _ => by go_simp⟩) hS20 ?_
              simp only [Act.put, List.getElem_toArray, List.getElem_cons_zero, List.getElem_cons_succ, List.setIfInBounds_toArray, List.set_cons_zero, List.set_cons_succ]
              refine wpAnyH_take (i := 9) (v := .agg (ab f1 32).toArray) rfl (by kernel_rfl) (by kernel_rfl) (by kernel_rfl) (fun _ _ _ h => h) (Or.inl ⟨by rfl, fun w' _ => by go_simp⟩) hS20 ?_
              simp only [Act.put, List.getElem_toArray, List.getElem_cons_zero, List.getElem_cons_succ, List.setIfInBounds_toArray, List.set_cons_zero, List.set_cons_succ]
              refine wpAnyH_take (i := 10) (v := .agg (ab g1 32).toArray) rfl (by kernel_rfl) (by kernel_rfl) (by kernel_rfl) (fun _ _ _ h => h) (Or.inl ⟨by rfl, fun w' _ => by go_simp⟩) hS20 ?_
              simp only [Act.put, List.getElem_toArray, List.getElem_cons_zero, List.getElem_cons_succ, List.setIfInBounds_toArray, List.set_cons_zero, List.set_cons_succ]
              refine wpAnyH_take (i := 11) (v := .bool t1) rfl (by kernel_rfl) (by kernel_rfl) (by kernel_rfl) (fun _ _ _ h => h) (Or.inl ⟨by rfl, fun w' _ => by go_simp⟩) hS20 ?_
              simp only [Act.put, List.getElem_toArray, List.getElem_cons_zero, List.getElem_cons_succ, List.setIfInBounds_toArray, List.set_cons_zero, List.set_cons_succ]
              refine wpAnyH_ready (rs := [12]) (by kernel_rfl) (by simp) (AllReadyH.cons rfl (fun Kt hK => ?_) AllReadyH.nil)
              refine wanted_pos rfl ?_
              refine HVdnc.out.wpNew rfl (fun y W21 hv hb => ?_)
              have HVdncn := hide hv
              refine hK.out _ _ (HVdncn.out.sv (by simp)) (fun hS21 => ?_)
              clear hK Kt hv hb
              simp only [Act.put, List.getElem_toArray, List.getElem_cons_zero, List.getElem_cons_succ, List.setIfInBounds_toArray, List.set_cons_zero, List.set_cons_succ]
              refine wpAnyH_ready (rs := [14]) (by kernel_rfl) (by simp) (AllReadyH.cons rfl (fun Kt hK => ?_) AllReadyH.nil)
              refine wanted_pos rfl ?_
              refine HVdncn.out.wpPut 0 rfl (by rfl) (by rfl) rfl (fun W22 hv => ?_)
              have HVdncnp := hide hv
              refine hK.out _ _ (HVdncnp.out.sv (by simp)) (fun hS22 => ?_)
              clear hK Kt hv
              simp only [Act.put, List.getElem_toArray, List.getElem_cons_zero, List.getElem_cons_succ]
              refine wpAnyH_ready (rs := [15]) (by kernel_rfl) (by simp) (AllReadyH.cons rfl (fun Kt hK => ?_) AllReadyH.nil)
              refine wanted_pos rfl ?_
              refine HVdncnp.out.wpPut 1 rfl (by rfl) (by rfl) rfl (fun W23 hv => ?_)
              have HVdncnpp := hide hv
              refine hK.out _ _ (HVdncnpp.out.sv (by simp)) (fun hS23 => ?_)
              clear hK Kt hv
              simp only [Act.put, List.getElem_toArray, List.getElem_cons_zero, List.getElem_cons_succ]
              refine wpAnyH_take (i := 16) (v := .bool t1) rfl (by kernel_rfl) (by kernel_rfl) (by kernel_rfl) (fun _ _ _ h => h) (Or.inl ⟨by rfl, fun w' _ => by go_simp⟩) hS23 ?_
              simp only [Act.put, List.getElem_toArray, List.getElem_cons_zero, List.getElem_cons_succ, List.setIfInBounds_toArray, List.set_cons_zero, List.set_cons_succ]
              refine wpAnyH_done (by kernel_rfl) ?_ _
              refine NoPanic.normal ?_
              have HVdncnpps := hide (HVdncnpp.out.perm (List.Perm.swap (z, g1) (y, f1) _))
              have HVe : Hid (Vs w _ [(z, g1), (y, f1), (bx, t), (b0 + 2, (fun _ => 0)), (b0 + 1, (fun _ => 0)), (b0, f)]) := HVdncnpps
              revert HA HVe
              exact hcut f1 g1 t1 y z W23
            · refine wanted_pos rfl ?_
              refine HVdn.out.wpNew rfl (fun y W24 hv hb => ?_)
              have HVdnn := hide hv
              refine hK.out _ _ (HVdnn.out.sv (by simp)) (fun hS24 => ?_)
              clear hK Kt hv hb
              simp only [Act.put, List.getElem_toArray, List.getElem_cons_zero, List.getElem_cons_succ, List.setIfInBounds_toArray, List.set_cons_zero, List.set_cons_succ]
              refine wpAnyH_ready (rs := [7]) (by kernel_rfl) (by simp) (AllReadyH.cons rfl (fun Kt hK => ?_) AllReadyH.nil)
              refine wanted_pos rfl ?_
              refine wp_call (R := fun r w' => ∃ f1 g1 t1, r = .tuple #[.agg (ab f1 32).toArray, .agg (ab g1 32).toArray, .bool t1] ∧ TwA O f1 g1 t1 ∧ Below w.heap.size w w' ∧ Vs w w' [(y, (fun _ => 0)), (z, (fun _ => 0)), (bx, t), (b0 + 2, (fun _ => 0)), (b0 + 1, (fun _ => 0)), (b0, f)]) (vs := #[.int .i64 (m : Int), .int .i64 (k : Int), .bool wh, .agg (ab f 32).toArray, .slice (some ⟨bz, oz, none⟩) l c]) rfl (by simp only [List.map_toArray, List.map_cons, List.map_nil]; rfl) (by go_simp) (Calls.mono (HIH.out _ HVdnn.out.k) (fun e w' hE => by
                obtain ⟨f1, g1, t1, he, ha, hb⟩ := hE
                exact ⟨_, he, f1, g1, t1, rfl, ha, Go.Proofs.YtpokecijongkpaaDoor.K.call HVdnn.out.k hb, HVdnn.out.keep hb⟩)) (fun r W25 hr => ?_)
              obtain ⟨f1, g1, t1, hr, ha, hb, hv⟩ := hr
              subst hr
              have HA := hide ha
              have HVdnnc := hide hv
              refine hK.out _ _ (HVdnnc.out.sv (by simp)) (fun hS25 => ?_)
              clear hK Kt hb ha hv
              simp only [Act.put, List.getElem_toArray, List.getElem_cons_zero, List.getElem_cons_succ, List.setIfInBounds_toArray, List.set_cons_zero, List.set_cons_succ]
              refine wpAnyH_take (i := 8) (v := .tuple #[.agg (ab f1 32).toArray, .agg (ab g1 32).toArray, .bool t1]) rfl (by kernel_rfl) (by kernel_rfl) (by kernel_rfl) (fun _ _ _ h => h) (Or.inl ⟨by rfl, fun w' _ => by go_simp⟩) hS25 ?_
              simp only [Act.put, List.getElem_toArray, List.getElem_cons_zero, List.getElem_cons_succ, List.setIfInBounds_toArray, List.set_cons_zero, List.set_cons_succ]
              refine wpAnyH_take (i := 9) (v := .agg (ab f1 32).toArray) rfl (by kernel_rfl) (by kernel_rfl) (by kernel_rfl) (fun _ _ _ h => h) (Or.inl ⟨by rfl, fun w' _ => by go_simp⟩) hS25 ?_
              simp only [Act.put, List.getElem_toArray, List.getElem_cons_zero, List.getElem_cons_succ, List.setIfInBounds_toArray, List.set_cons_zero, List.set_cons_succ]
              refine wpAnyH_take (i := 10) (v := .agg (ab g1 32).toArray) rfl (by kernel_rfl) (by kernel_rfl) (by kernel_rfl) (fun _ _ _ h => h) (Or.inl ⟨by rfl, fun w' _ => by go_simp⟩) hS25 ?_
              simp only [Act.put, List.getElem_toArray, List.getElem_cons_zero, List.getElem_cons_succ, List.setIfInBounds_toArray, List.set_cons_zero, List.set_cons_succ]
              refine wpAnyH_take (i := 11) (v := .bool t1) rfl (by kernel_rfl) (by kernel_rfl) (by kernel_rfl) (fun _ _ _ h => h) (Or.inl ⟨by rfl, fun w' _ => by go_simp⟩) hS25 ?_
              simp only [Act.put, List.getElem_toArray, List.getElem_cons_zero, List.getElem_cons_succ, List.setIfInBounds_toArray, List.set_cons_zero, List.set_cons_succ]
              refine wpAnyH_ready (rs := [14]) (by kernel_rfl) (by simp) (AllReadyH.cons rfl (fun Kt hK => ?_) AllReadyH.nil)
              refine wanted_pos rfl ?_
              refine HVdnnc.out.wpPut 0 rfl (by rfl) (by rfl) rfl (fun W26 hv => ?_)
              have HVdnncp := hide hv
              refine hK.out _ _ (HVdnncp.out.sv (by simp)) (fun hS26 => ?_)
              clear hK Kt hv
              simp only [Act.put, List.getElem_toArray, List.getElem_cons_zero, List.getElem_cons_succ]
              refine wpAnyH_ready (rs := [15]) (by kernel_rfl) (by simp) (AllReadyH.cons rfl (fun Kt hK => ?_) AllReadyH.nil)
              refine wanted_pos rfl ?_
              refine HVdnncp.out.wpPut 1 rfl (by rfl) (by rfl) rfl (fun W27 hv => ?_)
              have HVdnncpp := hide hv
              refine hK.out _ _ (HVdnncpp.out.sv (by simp)) (fun hS27 => ?_)
              clear hK Kt hv
              simp only [Act.put, List.getElem_toArray, List.getElem_cons_zero, List.getElem_cons_succ]
              refine wpAnyH_take (i := 16) (v := .bool t1) rfl (by kernel_rfl) (by kernel_rfl) (by kernel_rfl) (fun _ _ _ h => h) (Or.inl ⟨by rfl, fun w' _ => by go_simp⟩) hS27 ?_
              simp only [Act.put, List.getElem_toArray, List.getElem_cons_zero, List.getElem_cons_succ, List.setIfInBounds_toArray, List.set_cons_zero, List.set_cons_succ]
              refine wpAnyH_done (by kernel_rfl) ?_ _
              refine NoPanic.normal ?_
              have HVdnncpps := hide (HVdnncpp.out.perm (List.Perm.swap (z, g1) (y, f1) _))
              have HVe : Hid (Vs w _ [(z, g1), (y, f1), (bx, t), (b0 + 2, (fun _ => 0)), (b0 + 1, (fun _ => 0)), (b0, f)]) := HVdnncpps
              revert HA HVe
              exact hcut f1 g1 t1 y z W27
        intro f1 g1 t1 y z Y HA HVy
        clear HV HVd HIH HSp
        have HNd := hide (fun W => refNode_any (w := W) HA.out.lt2 HTl.out)
        have HNl := hide (nd_lt g1 t)
        unfold hv at HNd
        obtain ⟨u, hu⟩ : ∃ u, nd g1 t = u := ⟨_, rfl⟩
        rw [hu] at HNd HNl
        have HM := hide (HA.out.map (f' := f1) (g' := u) (fun q => (q.1, nd q.2 t)) (by show (f1, nd g1 t) = _; rw [hu]) HA.out.lt HNl.out)
        clear hu
        have HVd := hide HVy.out.drew
        go_upto_region 14 with fail
        refine wp_region_noPanic ?_
        refine wp_region_held_drew (S := Sv w [(y, f1), (z, g1), (bx, t)]) (by kernel_rfl) (HVd.out.sv (by simp)) (fun hS0 => ?_)
        refine wpAnyH_take (i := 0) (v := .agg (ab f1 32).toArray) rfl (by kernel_rfl) (by kernel_rfl) (by kernel_rfl) (fun _ _ _ h => h) (yieldsIf_load_mid (by rfl) 24 _ rfl y 0 (by rfl) (ab f1 32) _ (fun w' hS => hS.rg 0 rfl) Tryd.underlying24 rfl (ilH _)) hS0 ?_
        simp only [Act.put, List.getElem_toArray, List.getElem_cons_zero, List.setIfInBounds_toArray, List.set_cons_zero, List.set_cons_succ]
        refine wpAnyH_take (i := 1) (v := .agg (ab g1 32).toArray) rfl (by kernel_rfl) (by kernel_rfl) (by kernel_rfl) (fun _ _ _ h => h) (yieldsIf_load_mid (by rfl) 24 _ rfl z 0 (by rfl) (ab g1 32) _ (fun w' hS => hS.rg 1 rfl) Tryd.underlying24 rfl (ilH _)) hS0 ?_
        simp only [Act.put, List.getElem_toArray, List.getElem_cons_zero, List.getElem_cons_succ, List.setIfInBounds_toArray, List.set_cons_zero, List.set_cons_succ]
        refine wpAnyH_take (i := 2) (v := .agg (ab t 32).toArray) rfl (by kernel_rfl) (by kernel_rfl) (by kernel_rfl) (fun _ _ _ h => h) (yieldsIf_load_mid (by rfl) 24 _ rfl bx 0 (by rfl) (ab t 32) _ (fun w' hS => hS.rg 2 rfl) Tryd.underlying24 rfl (ilH _)) hS0 ?_
        simp only [Act.put, List.getElem_toArray, List.getElem_cons_zero, List.getElem_cons_succ, List.setIfInBounds_toArray, List.set_cons_zero, List.set_cons_succ]
        refine wpAnyH_take (i := 4) (v := .bool t1) rfl (by kernel_rfl) (by kernel_rfl) (by kernel_rfl) (fun _ _ _ h => h) (Or.inl ⟨by rfl, fun w' _ => by go_simp⟩) hS0 ?_
        simp only [Act.put, List.getElem_toArray, List.getElem_cons_zero, List.getElem_cons_succ, List.setIfInBounds_toArray, List.set_cons_zero, List.set_cons_succ]
        refine wpAnyH_ready (rs := [3]) (by kernel_rfl) (by simp) (AllReadyH.cons rfl (fun Kt hK => ?_) AllReadyH.nil)
        refine wanted_pos rfl ?_
        refine wp_call (R := fun r w' => r = .agg (ab u 32).toArray ∧ Vs w w' [(z, g1), (y, f1), (bx, t), (b0 + 2, (fun _ => 0)), (b0 + 1, (fun _ => 0)), (b0, f)]) (vs := #[.agg (ab g1 32).toArray, .agg (ab t 32).toArray]) rfl (by simp only [List.map_toArray, List.map_cons, List.map_nil]; rfl) (by go_simp) (Calls.mono (HNd.out _) (fun e w' ⟨he, hb⟩ => ⟨_, he, rfl, HVd.out.keep hb⟩)) (fun r W1 hr => ?_)
        obtain ⟨hr, hv⟩ := hr
        subst hr
        have HVdd := hide hv
        refine hK.out _ _ (HVdd.out.sv (by simp)) (fun hS1 => ?_)
        clear hK Kt hv
        simp only [Act.put, List.getElem_toArray, List.getElem_cons_zero, List.getElem_cons_succ, List.setIfInBounds_toArray, List.set_cons_zero, List.set_cons_succ]
        refine wpAnyH_ready (rs := [5]) (by kernel_rfl) (by simp) (AllReadyH.cons rfl (fun Kt hK => ?_) AllReadyH.nil)
        refine wanted_pos rfl ?_
        refine HVdd.out.wpPut 4 rfl (by rfl) (by rfl) rfl (fun W2 hv => ?_)
        have HVddp := hide hv
        refine hK.out _ _ (HVddp.out.sv (by simp)) (fun hS2 => ?_)
        clear hK Kt hv
        simp only [Act.put, List.getElem_toArray, List.getElem_cons_zero, List.getElem_cons_succ]
        refine wpAnyH_ready (rs := [6]) (by kernel_rfl) (by simp) (AllReadyH.cons rfl (fun Kt hK => ?_) AllReadyH.nil)
        refine wanted_pos rfl ?_
        refine HVddp.out.wpPut 3 rfl (by rfl) (by rfl) rfl (fun W3 hv => ?_)
        have HVddpp := hide hv
        refine hK.out _ _ (HVddpp.out.sv (by simp)) (fun hS3 => ?_)
        clear hK Kt hv
        simp only [Act.put, List.getElem_toArray, List.getElem_cons_zero, List.getElem_cons_succ]
        refine wpAnyH_take (i := 7) (v := .bool t1) rfl (by kernel_rfl) (by kernel_rfl) (by kernel_rfl) (fun _ _ _ h => h) (Or.inl ⟨by rfl, fun w' _ => by go_simp⟩) hS3 ?_
        simp only [Act.put, List.getElem_toArray, List.getElem_cons_zero, List.getElem_cons_succ, List.setIfInBounds_toArray, List.set_cons_zero, List.set_cons_succ]
        refine wpAnyH_done (by kernel_rfl) ?_ _
        refine NoPanic.normal ?_
        go_wp2_with fail
        exact bodyPost_ret (results_cell2_tmp Tryd.results44 _ _ (b0 + 1) (b0 + 2) (ab f1 32) (ab u 32) _ rfl (HVddpp.out.rg 4 rfl) rfl (HVddpp.out.rg 3 rfl) Tryd.underlying24 rfl (ilH _) (ilH _) rfl) rfl ⟨f1, u, t1, rfl, HM.out, HVddpp.out.k⟩
      · rw [tw_up wh f t (rv F l) (by omega) hmk]
        obtain ⟨k, hk⟩ : ∃ k, sp n = k := ⟨_, rfl⟩
        rw [hk] at HSp k1 k0 hmk ⊢
        have hmI : ¬ ((m : Int) ≤ (k : Int)) := by omega
        obtain ⟨q, hq⟩ : ∃ q, m - k = q := ⟨_, rfl⟩
        obtain ⟨r, hr⟩ : ∃ r, n - k = r := ⟨_, rfl⟩
        have hwq : IntKind.i64.wrap ((m : Int) - (k : Int)) = (q : Int) := by rw [IntKind.wrap_i64]; omega
        have hwr : IntKind.i64.wrap ((n : Int) - (k : Int)) = (r : Int) := by rw [IntKind.wrap_i64]; omega
        rw [hq, hr]
        obtain ⟨O, hO⟩ : ∃ O, tw r q false f (rv F l) = O := ⟨_, rfl⟩
        have hih := fun W (h : Below w.heap.size w W) => ih (w := W) (c := c) (n := r) (m := q) (wh := false) ((hL.keep h).head l (by omega)) (by omega) hmx (by omega) (by omega) (by omega) hf
        rw [hO] at hih ⊢
        have HIH := hide hih
        clear hih ih hL hc hmx hm1 hn hm hf hs h1 k1 k0 hk hmk hRt htl ht hO hq hr
        go_enter Tryd.func44, Tryd.ntmps44
        go_upto_region 1 with fail
        refine wp_world (fun X hX => ?_)
        rw [zeros32] at hX
        have hv := Vs.boxed2 hX
        clear hX
        obtain ⟨b0, hb0⟩ : ∃ b0, w.heap.size = b0 := ⟨_, rfl⟩
        rw [hb0] at hv ⊢
        have HV := hide hv
        clear hv hb0
        go_upto_region 11 with (go_at_call 28; with_reducible refine Calls.mono (HSp.out _) ?_; rintro e' w' ⟨rfl, hw⟩; replace hw := hw.symm; subst hw)
        rw [hws]
        go_upto_region 12 with (first
          | (refine HVx.out.listPut (b := bx) 0 rfl rfl rfl rfl rfl (fun X3 hv => ?_); have HVz : Hid (Vs w X3 [(bx, t), (b0 + 2, fun _ => 0), (b0 + 1, fun _ => 0), (b0, f)]) := hide hv; clear hv HVx)
          | (refine HV.out.listNew rfl rfl (fun bx X2 hv hb => ?_); have HVx := hide hv; clear hv hb HV)
          | (refine wpList_load_h rfl _ rfl rfl (range_keep HR.out HV.out.k) ?_))
        go_upto_region 15 with fail
        have HV := HVz
        clear HVz
        have HVd := hide HV.out.drew
        apply meet6 (A := Nat → Nat) (B := Nat → Nat) (C := Bool) (D := Nat) (E := Nat) (F := World)
        · intro hcut
          refine wp_region_noPanic ?_
          refine wp_region_held_drew (S := Sv w [(b0, f)]) (by kernel_rfl) (HVd.out.sv (by simp)) (fun hS0 => ?_)
          refine wpAnyH_take (i := 0) (v := .int .i64 (m : Int)) rfl (by kernel_rfl) (by kernel_rfl) (by kernel_rfl) (fun _ _ _ h => h) (Or.inl ⟨by rfl, fun w' _ => by go_simp⟩) hS0 ?_
          simp only [Act.put, List.getElem_toArray, List.getElem_cons_zero, List.setIfInBounds_toArray, List.set_cons_zero, List.set_cons_succ]
          refine wpAnyH_take (i := 1) (v := .int .i64 (k : Int)) rfl (by kernel_rfl) (by kernel_rfl) (by kernel_rfl) (fun _ _ _ h => h) (Or.inl ⟨by rfl, fun w' _ => by go_simp⟩) hS0 ?_
          simp only [Act.put, List.getElem_toArray, List.getElem_cons_zero, List.getElem_cons_succ, List.setIfInBounds_toArray, List.set_cons_zero, List.set_cons_succ]
          refine wpAnyH_take (i := 2) (v := .int .i64 (q : Int)) rfl (by kernel_rfl) (by kernel_rfl) (by kernel_rfl) (fun _ _ _ h => h) (Or.inl ⟨by rfl, fun w' _ => by go_simp⟩) hS0 ?_
          simp only [Act.put, List.getElem_toArray, List.getElem_cons_zero, List.getElem_cons_succ, List.setIfInBounds_toArray, List.set_cons_zero, List.set_cons_succ]
          refine wpAnyH_take (i := 3) (v := .int .i64 (n : Int)) rfl (by kernel_rfl) (by kernel_rfl) (by kernel_rfl) (fun _ _ _ h => h) (Or.inl ⟨by rfl, fun w' _ => by go_simp⟩) hS0 ?_
          simp only [Act.put, List.getElem_toArray, List.getElem_cons_zero, List.getElem_cons_succ, List.setIfInBounds_toArray, List.set_cons_zero, List.set_cons_succ]
          refine wpAnyH_take (i := 4) (v := .int .i64 (k : Int)) rfl (by kernel_rfl) (by kernel_rfl) (by kernel_rfl) (fun _ _ _ h => h) (Or.inl ⟨by rfl, fun w' _ => by go_simp⟩) hS0 ?_
          simp only [Act.put, List.getElem_toArray, List.getElem_cons_zero, List.getElem_cons_succ, List.setIfInBounds_toArray, List.set_cons_zero, List.set_cons_succ]
          refine wpAnyH_take (i := 5) (v := .int .i64 (r : Int)) rfl (by kernel_rfl) (by kernel_rfl) (by kernel_rfl) (fun _ _ _ h => h) (Or.inl ⟨by rfl, fun w' _ => by go_simp⟩) hS0 ?_
          simp only [Act.put, List.getElem_toArray, List.getElem_cons_zero, List.getElem_cons_succ, List.setIfInBounds_toArray, List.set_cons_zero, List.set_cons_succ]
          refine wpAnyH_take (i := 6) (v := .agg (ab f 32).toArray) rfl (by kernel_rfl) (by kernel_rfl) (by kernel_rfl) (fun _ _ _ h => h) (yieldsIf_load_mid (by rfl) 24 _ rfl b0 0 (by rfl) (ab f 32) _ (fun w' hS => hS.rg 0 rfl) Tryd.underlying24 rfl (ilH _)) hS0 ?_
          simp only [Act.put, List.getElem_toArray, List.getElem_cons_zero, List.getElem_cons_succ, List.setIfInBounds_toArray, List.set_cons_zero, List.set_cons_succ]
          refine wpAnyH_take (i := 7) (v := .slice (some ⟨bz, oz, none⟩) s c) rfl (by kernel_rfl) (by kernel_rfl) (by kernel_rfl) (fun _ _ _ h => h) (Or.inl ⟨by rfl, fun w' _ => by go_simp⟩) hS0 ?_
          simp only [Act.put, List.getElem_toArray, List.getElem_cons_zero, List.getElem_cons_succ, List.setIfInBounds_toArray, List.set_cons_zero, List.set_cons_succ]
          refine wpAnyH_take (i := 8) (v := .int .i64 (l : Int)) rfl (by kernel_rfl) (by kernel_rfl) (by kernel_rfl) (fun _ _ _ h => h) (Or.inl ⟨by rfl, fun w' _ => by go_simp⟩) hS0 ?_
          simp only [Act.put, List.getElem_toArray, List.getElem_cons_zero, List.getElem_cons_succ, List.setIfInBounds_toArray, List.set_cons_zero, List.set_cons_succ]
          refine wpAnyH_take (i := 9) (v := .slice (some ⟨bz, oz, none⟩) l c) rfl (by kernel_rfl) (by kernel_rfl) (by kernel_rfl) (fun _ _ _ h => h) (Or.inl ⟨by rfl, fun w' _ => by go_simp⟩) hS0 ?_
          simp only [Act.put, List.getElem_toArray, List.getElem_cons_zero, List.getElem_cons_succ, List.setIfInBounds_toArray, List.set_cons_zero, List.set_cons_succ]
          refine wpAnyH_ready (rs := [10, 15, 16]) (by kernel_rfl) (by simp) (AllReadyH.cons rfl (fun Kt hK => ?_) (AllReadyH.cons rfl (fun Kt hK => ?_) (AllReadyH.cons rfl (fun Kt hK => ?_) AllReadyH.nil)))
          · refine wanted_pos rfl ?_
            refine wp_call (R := fun r w' => ∃ f1 g1 t1, r = .tuple #[.agg (ab f1 32).toArray, .agg (ab g1 32).toArray, .bool t1] ∧ TwA O f1 g1 t1 ∧ Below w.heap.size w w' ∧ Vs w w' [(bx, t), (b0 + 2, (fun _ => 0)), (b0 + 1, (fun _ => 0)), (b0, f)]) (vs := #[.int .i64 (q : Int), .int .i64 (r : Int), .bool false, .agg (ab f 32).toArray, .slice (some ⟨bz, oz, none⟩) l c]) rfl (by simp only [List.map_toArray, List.map_cons, List.map_nil]; rfl) (by go_simp) (Calls.mono (HIH.out _ HVd.out.k) (fun e w' hE => by
              obtain ⟨f1, g1, t1, he, ha, hb⟩ := hE
              exact ⟨_, he, f1, g1, t1, rfl, ha, Go.Proofs.YtpokecijongkpaaDoor.K.call HVd.out.k hb, HVd.out.keep hb⟩)) (fun r W1 hr => ?_)
            obtain ⟨f1, g1, t1, hr, ha, hb, hv⟩ := hr
            subst hr
            have HA := hide ha
            have HVdc := hide hv
            refine hK.out _ _ (HVdc.out.sv (by simp)) (fun hS1 => ?_)
            clear hK Kt hb ha hv
            simp only [Act.put, List.getElem_toArray, List.getElem_cons_zero, List.getElem_cons_succ, List.setIfInBounds_toArray, List.set_cons_zero, List.set_cons_succ]
            refine wpAnyH_take (i := 11) (v := .tuple #[.agg (ab f1 32).toArray, .agg (ab g1 32).toArray, .bool t1]) rfl (by kernel_rfl) (by kernel_rfl) (by kernel_rfl) (fun _ _ _ h => h) (Or.inl ⟨by rfl, fun w' _ => by go_simp⟩) hS1 ?_
            simp only [Act.put, List.getElem_toArray, List.getElem_cons_zero, List.getElem_cons_succ, List.setIfInBounds_toArray, List.set_cons_zero, List.set_cons_succ]
            refine wpAnyH_take (i := 12) (v := .agg (ab f1 32).toArray) rfl (by kernel_rfl) (by kernel_rfl) (by kernel_rfl) (fun _ _ _ h => h) (Or.inl ⟨by rfl, fun w' _ => by go_simp⟩) hS1 ?_
            simp only [Act.put, List.getElem_toArray, List.getElem_cons_zero, List.getElem_cons_succ, List.setIfInBounds_toArray, List.set_cons_zero, List.set_cons_succ]
            refine wpAnyH_take (i := 13) (v := .agg (ab g1 32).toArray) rfl (by kernel_rfl) (by kernel_rfl) (by kernel_rfl) (fun _ _ _ h => h) (Or.inl ⟨by rfl, fun w' _ => by go_simp⟩) hS1 ?_
            simp only [Act.put, List.getElem_toArray, List.getElem_cons_zero, List.getElem_cons_succ, List.setIfInBounds_toArray, List.set_cons_zero, List.set_cons_succ]
            refine wpAnyH_take (i := 14) (v := .bool t1) rfl (by kernel_rfl) (by kernel_rfl) (by kernel_rfl) (fun _ _ _ h => h) (Or.inl ⟨by rfl, fun w' _ => by go_simp⟩) hS1 ?_
            simp only [Act.put, List.getElem_toArray, List.getElem_cons_zero, List.getElem_cons_succ, List.setIfInBounds_toArray, List.set_cons_zero, List.set_cons_succ]
            refine wpAnyH_ready (rs := [15, 16]) (by kernel_rfl) (by simp) (AllReadyH.cons rfl (fun Kt hK => ?_) (AllReadyH.cons rfl (fun Kt hK => ?_) AllReadyH.nil))
            · refine wanted_pos rfl ?_
              refine HVdc.out.wpNew rfl (fun y W2 hv hb => ?_)
              have HVdcn := hide hv
              refine hK.out _ _ (HVdcn.out.sv (by simp)) (fun hS2 => ?_)
              clear hK Kt hv hb
              simp only [Act.put, List.getElem_toArray, List.getElem_cons_zero, List.getElem_cons_succ, List.setIfInBounds_toArray, List.set_cons_zero, List.set_cons_succ]
              refine wpAnyH_ready (rs := [16]) (by kernel_rfl) (by simp) (AllReadyH.cons rfl (fun Kt hK => ?_) AllReadyH.nil)
              refine wanted_pos rfl ?_
              refine HVdcn.out.wpNew rfl (fun z W3 hv hb => ?_)
              have HVdcnn := hide hv
              refine hK.out _ _ (HVdcnn.out.sv (by simp)) (fun hS3 => ?_)
              clear hK Kt hv hb
              simp only [Act.put, List.getElem_toArray, List.getElem_cons_zero, List.getElem_cons_succ, List.setIfInBounds_toArray, List.set_cons_zero, List.set_cons_succ]
              refine wpAnyH_ready (rs := [17]) (by kernel_rfl) (by simp) (AllReadyH.cons rfl (fun Kt hK => ?_) AllReadyH.nil)
              refine wanted_pos rfl ?_
              refine HVdcnn.out.wpPut 1 rfl (by rfl) (by rfl) rfl (fun W4 hv => ?_)
              have HVdcnnp := hide hv
              refine hK.out _ _ (HVdcnnp.out.sv (by simp)) (fun hS4 => ?_)
              clear hK Kt hv
              simp only [Act.put, List.getElem_toArray, List.getElem_cons_zero, List.getElem_cons_succ]
              refine wpAnyH_ready (rs := [18]) (by kernel_rfl) (by simp) (AllReadyH.cons rfl (fun Kt hK => ?_) AllReadyH.nil)
              refine wanted_pos rfl ?_
              refine HVdcnnp.out.wpPut 0 rfl (by rfl) (by rfl) rfl (fun W5 hv => ?_)
              have HVdcnnpp := hide hv
              refine hK.out _ _ (HVdcnnpp.out.sv (by simp)) (fun hS5 => ?_)
              clear hK Kt hv
              simp only [Act.put, List.getElem_toArray, List.getElem_cons_zero, List.getElem_cons_succ]
              refine wpAnyH_take (i := 19) (v := .bool t1) rfl (by kernel_rfl) (by kernel_rfl) (by kernel_rfl) (fun _ _ _ h => h) (Or.inl ⟨by rfl, fun w' _ => by go_simp⟩) hS5 ?_
              simp only [Act.put, List.getElem_toArray, List.getElem_cons_zero, List.getElem_cons_succ, List.setIfInBounds_toArray, List.set_cons_zero, List.set_cons_succ]
              refine wpAnyH_done (by kernel_rfl) ?_ _
              refine NoPanic.normal ?_
              have HVe : Hid (Vs w _ [(z, g1), (y, f1), (bx, t), (b0 + 2, (fun _ => 0)), (b0 + 1, (fun _ => 0)), (b0, f)]) := HVdcnnpp
              revert HA HVe
              exact hcut f1 g1 t1 y z W5
            · refine wanted_pos rfl ?_
              refine HVdc.out.wpNew rfl (fun z W6 hv hb => ?_)
              have HVdcn := hide hv
              refine hK.out _ _ (HVdcn.out.sv (by simp)) (fun hS6 => ?_)
              clear hK Kt hv hb
              simp only [Act.put, List.getElem_toArray, List.getElem_cons_zero, List.getElem_cons_succ, List.setIfInBounds_toArray, List.set_cons_zero, List.set_cons_succ]
              refine wpAnyH_ready (rs := [15]) (by kernel_rfl) (by simp) (AllReadyH.cons rfl (fun Kt hK => ?_) AllReadyH.nil)
              refine wanted_pos rfl ?_
              refine HVdcn.out.wpNew rfl (fun y W7 hv hb => ?_)
              have HVdcnn := hide hv
              refine hK.out _ _ (HVdcnn.out.sv (by simp)) (fun hS7 => ?_)
              clear hK Kt hv hb
              simp only [Act.put, List.getElem_toArray, List.getElem_cons_zero, List.getElem_cons_succ, List.setIfInBounds_toArray, List.set_cons_zero, List.set_cons_succ]
              refine wpAnyH_ready (rs := [17]) (by kernel_rfl) (by simp) (AllReadyH.cons rfl (fun Kt hK => ?_) AllReadyH.nil)
              refine wanted_pos rfl ?_
              refine HVdcnn.out.wpPut 0 rfl (by rfl) (by rfl) rfl (fun W8 hv => ?_)
              have HVdcnnp := hide hv
              refine hK.out _ _ (HVdcnnp.out.sv (by simp)) (fun hS8 => ?_)
              clear hK Kt hv
              simp only [Act.put, List.getElem_toArray, List.getElem_cons_zero, List.getElem_cons_succ]
              refine wpAnyH_ready (rs := [18]) (by kernel_rfl) (by simp) (AllReadyH.cons rfl (fun Kt hK => ?_) AllReadyH.nil)
              refine wanted_pos rfl ?_
              refine HVdcnnp.out.wpPut 1 rfl (by rfl) (by rfl) rfl (fun W9 hv => ?_)
              have HVdcnnpp := hide hv
              refine hK.out _ _ (HVdcnnpp.out.sv (by simp)) (fun hS9 => ?_)
              clear hK Kt hv
              simp only [Act.put, List.getElem_toArray, List.getElem_cons_zero, List.getElem_cons_succ]
              refine wpAnyH_take (i := 19) (v := .bool t1) rfl (by kernel_rfl) (by kernel_rfl) (by kernel_rfl) (fun _ _ _ h => h) (Or.inl ⟨by rfl, fun w' _ => by go_simp⟩) hS9 ?_
              simp only [Act.put, List.getElem_toArray, List.getElem_cons_zero, List.getElem_cons_succ, List.setIfInBounds_toArray, List.set_cons_zero, List.set_cons_succ]
              refine wpAnyH_done (by kernel_rfl) ?_ _
              refine NoPanic.normal ?_
              have HVdcnnpps := hide (HVdcnnpp.out.perm (List.Perm.swap (z, g1) (y, f1) _))
              have HVe : Hid (Vs w _ [(z, g1), (y, f1), (bx, t), (b0 + 2, (fun _ => 0)), (b0 + 1, (fun _ => 0)), (b0, f)]) := HVdcnnpps
              revert HA HVe
              exact hcut f1 g1 t1 y z W9
          · refine wanted_pos rfl ?_
            refine HVd.out.wpNew rfl (fun y W10 hv hb => ?_)
            have HVdn := hide hv
            refine hK.out _ _ (HVdn.out.sv (by simp)) (fun hS10 => ?_)
            clear hK Kt hv hb
            simp only [Act.put, List.getElem_toArray, List.getElem_cons_zero, List.getElem_cons_succ, List.setIfInBounds_toArray, List.set_cons_zero, List.set_cons_succ]
            refine wpAnyH_ready (rs := [10, 16]) (by kernel_rfl) (by simp) (AllReadyH.cons rfl (fun Kt hK => ?_) (AllReadyH.cons rfl (fun Kt hK => ?_) AllReadyH.nil))
            · refine wanted_pos rfl ?_
              refine wp_call (R := fun r w' => ∃ f1 g1 t1, r = .tuple #[.agg (ab f1 32).toArray, .agg (ab g1 32).toArray, .bool t1] ∧ TwA O f1 g1 t1 ∧ Below w.heap.size w w' ∧ Vs w w' [(y, (fun _ => 0)), (bx, t), (b0 + 2, (fun _ => 0)), (b0 + 1, (fun _ => 0)), (b0, f)]) (vs := #[.int .i64 (q : Int), .int .i64 (r : Int), .bool false, .agg (ab f 32).toArray, .slice (some ⟨bz, oz, none⟩) l c]) rfl (by simp only [List.map_toArray, List.map_cons, List.map_nil]; rfl) (by go_simp) (Calls.mono (HIH.out _ HVdn.out.k) (fun e w' hE => by
                obtain ⟨f1, g1, t1, he, ha, hb⟩ := hE
                exact ⟨_, he, f1, g1, t1, rfl, ha, Go.Proofs.YtpokecijongkpaaDoor.K.call HVdn.out.k hb, HVdn.out.keep hb⟩)) (fun r W11 hr => ?_)
              obtain ⟨f1, g1, t1, hr, ha, hb, hv⟩ := hr
              subst hr
              have HA := hide ha
              have HVdnc := hide hv
              refine hK.out _ _ (HVdnc.out.sv (by simp)) (fun hS11 => ?_)
              clear hK Kt hb ha hv
              simp only [Act.put, List.getElem_toArray, List.getElem_cons_zero, List.getElem_cons_succ, List.setIfInBounds_toArray, List.set_cons_zero, List.set_cons_succ]
              refine wpAnyH_take (i := 11) (v := .tuple #[.agg (ab f1 32).toArray, .agg (ab g1 32).toArray, .bool t1]) rfl (by kernel_rfl) (by kernel_rfl) (by kernel_rfl) (fun _ _ _ h => h) (Or.inl ⟨by rfl, fun w' _ => by go_simp⟩) hS11 ?_
              simp only [Act.put, List.getElem_toArray, List.getElem_cons_zero, List.getElem_cons_succ, List.setIfInBounds_toArray, List.set_cons_zero, List.set_cons_succ]
              refine wpAnyH_take (i := 12) (v := .agg (ab f1 32).toArray) rfl (by kernel_rfl) (by kernel_rfl) (by kernel_rfl) (fun _ _ _ h => h) (Or.inl ⟨by rfl, fun w' _ => by go_simp⟩) hS11 ?_
              simp only [Act.put, List.getElem_toArray, List.getElem_cons_zero, List.getElem_cons_succ, List.setIfInBounds_toArray, List.set_cons_zero, List.set_cons_succ]
              refine wpAnyH_take (i := 13) (v := .agg (ab g1 32).toArray) rfl (by kernel_rfl) (by kernel_rfl) (by kernel_rfl) (fun _ _ _ h => h) (Or.inl ⟨by rfl, fun w' _ => by go_simp⟩) hS11 ?_
              simp only [Act.put, List.getElem_toArray, List.getElem_cons_zero, List.getElem_cons_succ, List.setIfInBounds_toArray, List.set_cons_zero, List.set_cons_succ]
              refine wpAnyH_take (i := 14) (v := .bool t1) rfl (by kernel_rfl) (by kernel_rfl) (by kernel_rfl) (fun _ _ _ h => h) (Or.inl ⟨by rfl, fun w' _ => by go_simp⟩) hS11 ?_
              simp only [Act.put, List.getElem_toArray, List.getElem_cons_zero, List.getElem_cons_succ, List.setIfInBounds_toArray, List.set_cons_zero, List.set_cons_succ]
              refine wpAnyH_ready (rs := [16]) (by kernel_rfl) (by simp) (AllReadyH.cons rfl (fun Kt hK => ?_) AllReadyH.nil)
              refine wanted_pos rfl ?_
              refine HVdnc.out.wpNew rfl (fun z W12 hv hb => ?_)
              have HVdncn := hide hv
              refine hK.out _ _ (HVdncn.out.sv (by simp)) (fun hS12 => ?_)
              clear hK Kt hv hb
              simp only [Act.put, List.getElem_toArray, List.getElem_cons_zero, List.getElem_cons_succ, List.setIfInBounds_toArray, List.set_cons_zero, List.set_cons_succ]
              refine wpAnyH_ready (rs := [17]) (by kernel_rfl) (by simp) (AllReadyH.cons rfl (fun Kt hK => ?_) AllReadyH.nil)
              refine wanted_pos rfl ?_
              refine HVdncn.out.wpPut 1 rfl (by rfl) (by rfl) rfl (fun W13 hv => ?_)
              have HVdncnp := hide hv
              refine hK.out _ _ (HVdncnp.out.sv (by simp)) (fun hS13 => ?_)
              clear hK Kt hv
              simp only [Act.put, List.getElem_toArray, List.getElem_cons_zero, List.getElem_cons_succ]
              refine wpAnyH_ready (rs := [18]) (by kernel_rfl) (by simp) (AllReadyH.cons rfl (fun Kt hK => ?_) AllReadyH.nil)
              refine wanted_pos rfl ?_
              refine HVdncnp.out.wpPut 0 rfl (by rfl) (by rfl) rfl (fun W14 hv => ?_)
              have HVdncnpp := hide hv
              refine hK.out _ _ (HVdncnpp.out.sv (by simp)) (fun hS14 => ?_)
              clear hK Kt hv
              simp only [Act.put, List.getElem_toArray, List.getElem_cons_zero, List.getElem_cons_succ]
              refine wpAnyH_take (i := 19) (v := .bool t1) rfl (by kernel_rfl) (by kernel_rfl) (by kernel_rfl) (fun _ _ _ h => h) (Or.inl ⟨by rfl, fun w' _ => by go_simp⟩) hS14 ?_
              simp only [Act.put, List.getElem_toArray, List.getElem_cons_zero, List.getElem_cons_succ, List.setIfInBounds_toArray, List.set_cons_zero, List.set_cons_succ]
              refine wpAnyH_done (by kernel_rfl) ?_ _
              refine NoPanic.normal ?_
              have HVe : Hid (Vs w _ [(z, g1), (y, f1), (bx, t), (b0 + 2, (fun _ => 0)), (b0 + 1, (fun _ => 0)), (b0, f)]) := HVdncnpp
              revert HA HVe
              exact hcut f1 g1 t1 y z W14
            · refine wanted_pos rfl ?_
              refine HVdn.out.wpNew rfl (fun z W15 hv hb => ?_)
              have HVdnn := hide hv
              refine hK.out _ _ (HVdnn.out.sv (by simp)) (fun hS15 => ?_)
              clear hK Kt hv hb
              simp only [Act.put, List.getElem_toArray, List.getElem_cons_zero, List.getElem_cons_succ, List.setIfInBounds_toArray, List.set_cons_zero, List.set_cons_succ]
              refine wpAnyH_ready (rs := [10]) (by kernel_rfl) (by simp) (AllReadyH.cons rfl (fun Kt hK => ?_) AllReadyH.nil)
              refine wanted_pos rfl ?_
              refine wp_call (R := fun r w' => ∃ f1 g1 t1, r = .tuple #[.agg (ab f1 32).toArray, .agg (ab g1 32).toArray, .bool t1] ∧ TwA O f1 g1 t1 ∧ Below w.heap.size w w' ∧ Vs w w' [(z, (fun _ => 0)), (y, (fun _ => 0)), (bx, t), (b0 + 2, (fun _ => 0)), (b0 + 1, (fun _ => 0)), (b0, f)]) (vs := #[.int .i64 (q : Int), .int .i64 (r : Int), .bool false, .agg (ab f 32).toArray, .slice (some ⟨bz, oz, none⟩) l c]) rfl (by simp only [List.map_toArray, List.map_cons, List.map_nil]; rfl) (by go_simp) (Calls.mono (HIH.out _ HVdnn.out.k) (fun e w' hE => by
                obtain ⟨f1, g1, t1, he, ha, hb⟩ := hE
                exact ⟨_, he, f1, g1, t1, rfl, ha, Go.Proofs.YtpokecijongkpaaDoor.K.call HVdnn.out.k hb, HVdnn.out.keep hb⟩)) (fun r W16 hr => ?_)
              obtain ⟨f1, g1, t1, hr, ha, hb, hv⟩ := hr
              subst hr
              have HA := hide ha
              have HVdnnc := hide hv
              refine hK.out _ _ (HVdnnc.out.sv (by simp)) (fun hS16 => ?_)
              clear hK Kt hb ha hv
              simp only [Act.put, List.getElem_toArray, List.getElem_cons_zero, List.getElem_cons_succ, List.setIfInBounds_toArray, List.set_cons_zero, List.set_cons_succ]
              refine wpAnyH_take (i := 11) (v := .tuple #[.agg (ab f1 32).toArray, .agg (ab g1 32).toArray, .bool t1]) rfl (by kernel_rfl) (by kernel_rfl) (by kernel_rfl) (fun _ _ _ h => h) (Or.inl ⟨by rfl, fun w' _ => by go_simp⟩) hS16 ?_
              simp only [Act.put, List.getElem_toArray, List.getElem_cons_zero, List.getElem_cons_succ, List.setIfInBounds_toArray, List.set_cons_zero, List.set_cons_succ]
              refine wpAnyH_take (i := 12) (v := .agg (ab f1 32).toArray) rfl (by kernel_rfl) (by kernel_rfl) (by kernel_rfl) (fun _ _ _ h => h) (Or.inl ⟨by rfl, fun w' _ => by go_simp⟩) hS16 ?_
              simp only [Act.put, List.getElem_toArray, List.getElem_cons_zero, List.getElem_cons_succ, List.setIfInBounds_toArray, List.set_cons_zero, List.set_cons_succ]
              refine wpAnyH_take (i := 13) (v := .agg (ab g1 32).toArray) rfl (by kernel_rfl) (by kernel_rfl) (by kernel_rfl) (fun _ _ _ h => h) (Or.inl ⟨by rfl, fun w' _ => by go_simp⟩) hS16 ?_
              simp only [Act.put, List.getElem_toArray, List.getElem_cons_zero, List.getElem_cons_succ, List.setIfInBounds_toArray, List.set_cons_zero, List.set_cons_succ]
              refine wpAnyH_take (i := 14) (v := .bool t1) rfl (by kernel_rfl) (by kernel_rfl) (by kernel_rfl) (fun _ _ _ h => h) (Or.inl ⟨by rfl, fun w' _ => by go_simp⟩) hS16 ?_
              simp only [Act.put, List.getElem_toArray, List.getElem_cons_zero, List.getElem_cons_succ, List.setIfInBounds_toArray, List.set_cons_zero, List.set_cons_succ]
              refine wpAnyH_ready (rs := [17]) (by kernel_rfl) (by simp) (AllReadyH.cons rfl (fun Kt hK => ?_) AllReadyH.nil)
              refine wanted_pos rfl ?_
              refine HVdnnc.out.wpPut 1 rfl (by rfl) (by rfl) rfl (fun W17 hv => ?_)
              have HVdnncp := hide hv
              refine hK.out _ _ (HVdnncp.out.sv (by simp)) (fun hS17 => ?_)
              clear hK Kt hv
              simp only [Act.put, List.getElem_toArray, List.getElem_cons_zero, List.getElem_cons_succ]
              refine wpAnyH_ready (rs := [18]) (by kernel_rfl) (by simp) (AllReadyH.cons rfl (fun Kt hK => ?_) AllReadyH.nil)
              refine wanted_pos rfl ?_
              refine HVdnncp.out.wpPut 0 rfl (by rfl) (by rfl) rfl (fun W18 hv => ?_)
              have HVdnncpp := hide hv
              refine hK.out _ _ (HVdnncpp.out.sv (by simp)) (fun hS18 => ?_)
              clear hK Kt hv
              simp only [Act.put, List.getElem_toArray, List.getElem_cons_zero, List.getElem_cons_succ]
              refine wpAnyH_take (i := 19) (v := .bool t1) rfl (by kernel_rfl) (by kernel_rfl) (by kernel_rfl) (fun _ _ _ h => h) (Or.inl ⟨by rfl, fun w' _ => by go_simp⟩) hS18 ?_
              simp only [Act.put, List.getElem_toArray, List.getElem_cons_zero, List.getElem_cons_succ, List.setIfInBounds_toArray, List.set_cons_zero, List.set_cons_succ]
              refine wpAnyH_done (by kernel_rfl) ?_ _
              refine NoPanic.normal ?_
              have HVe : Hid (Vs w _ [(z, g1), (y, f1), (bx, t), (b0 + 2, (fun _ => 0)), (b0 + 1, (fun _ => 0)), (b0, f)]) := HVdnncpp
              revert HA HVe
              exact hcut f1 g1 t1 y z W18
          · refine wanted_pos rfl ?_
            refine HVd.out.wpNew rfl (fun z W19 hv hb => ?_)
            have HVdn := hide hv
            refine hK.out _ _ (HVdn.out.sv (by simp)) (fun hS19 => ?_)
            clear hK Kt hv hb
            simp only [Act.put, List.getElem_toArray, List.getElem_cons_zero, List.getElem_cons_succ, List.setIfInBounds_toArray, List.set_cons_zero, List.set_cons_succ]
            refine wpAnyH_ready (rs := [10, 15]) (by kernel_rfl) (by simp) (AllReadyH.cons rfl (fun Kt hK => ?_) (AllReadyH.cons rfl (fun Kt hK => ?_) AllReadyH.nil))
            · refine wanted_pos rfl ?_
              refine wp_call (R := fun r w' => ∃ f1 g1 t1, r = .tuple #[.agg (ab f1 32).toArray, .agg (ab g1 32).toArray, .bool t1] ∧ TwA O f1 g1 t1 ∧ Below w.heap.size w w' ∧ Vs w w' [(z, (fun _ => 0)), (bx, t), (b0 + 2, (fun _ => 0)), (b0 + 1, (fun _ => 0)), (b0, f)]) (vs := #[.int .i64 (q : Int), .int .i64 (r : Int), .bool false, .agg (ab f 32).toArray, .slice (some ⟨bz, oz, none⟩) l c]) rfl (by simp only [List.map_toArray, List.map_cons, List.map_nil]; rfl) (by go_simp) (Calls.mono (HIH.out _ HVdn.out.k) (fun e w' hE => by
                obtain ⟨f1, g1, t1, he, ha, hb⟩ := hE
                exact ⟨_, he, f1, g1, t1, rfl, ha, Go.Proofs.YtpokecijongkpaaDoor.K.call HVdn.out.k hb, HVdn.out.keep hb⟩)) (fun r W20 hr => ?_)
              obtain ⟨f1, g1, t1, hr, ha, hb, hv⟩ := hr
              subst hr
              have HA := hide ha
              have HVdnc := hide hv
              refine hK.out _ _ (HVdnc.out.sv (by simp)) (fun hS20 => ?_)
              clear hK Kt hb ha hv
              simp only [Act.put, List.getElem_toArray, List.getElem_cons_zero, List.getElem_cons_succ, List.setIfInBounds_toArray, List.set_cons_zero, List.set_cons_succ]
              refine wpAnyH_take (i := 11) (v := .tuple #[.agg (ab f1 32).toArray, .agg (ab g1 32).toArray, .bool t1]) rfl (by kernel_rfl) (by kernel_rfl) (by kernel_rfl) (fun _ _ _ h => h) (Or.inl ⟨by rfl, fun w' _ => by go_simp⟩) hS20 ?_
              simp only [Act.put, List.getElem_toArray, List.getElem_cons_zero, List.getElem_cons_succ, List.setIfInBounds_toArray, List.set_cons_zero, List.set_cons_succ]
              refine wpAnyH_take (i := 12) (v := .agg (ab f1 32).toArray) rfl (by kernel_rfl) (by kernel_rfl) (by kernel_rfl) (fun _ _ _ h => h) (Or.inl ⟨by rfl, fun w' _ => by go_simp⟩) hS20 ?_
              simp only [Act.put, List.getElem_toArray, List.getElem_cons_zero, List.getElem_cons_succ, List.setIfInBounds_toArray, List.set_cons_zero, List.set_cons_succ]
              refine wpAnyH_take (i := 13) (v := .agg (ab g1 32).toArray) rfl (by kernel_rfl) (by kernel_rfl) (by kernel_rfl) (fun _ _ _ h => h) (Or.inl ⟨by rfl, fun w' _ => by go_simp⟩) hS20 ?_
              simp only [Act.put, List.getElem_toArray, List.getElem_cons_zero, List.getElem_cons_succ, List.setIfInBounds_toArray, List.set_cons_zero, List.set_cons_succ]
              refine wpAnyH_take (i := 14) (v := .bool t1) rfl (by kernel_rfl) (by kernel_rfl) (by kernel_rfl) (fun _ _ _ h => h) (Or.inl ⟨by rfl, fun w' _ => by go_simp⟩) hS20 ?_
              simp only [Act.put, List.getElem_toArray, List.getElem_cons_zero, List.getElem_cons_succ, List.setIfInBounds_toArray, List.set_cons_zero, List.set_cons_succ]
              refine wpAnyH_ready (rs := [15]) (by kernel_rfl) (by simp) (AllReadyH.cons rfl (fun Kt hK => ?_) AllReadyH.nil)
              refine wanted_pos rfl ?_
              refine HVdnc.out.wpNew rfl (fun y W21 hv hb => ?_)
              have HVdncn := hide hv
              refine hK.out _ _ (HVdncn.out.sv (by simp)) (fun hS21 => ?_)
              clear hK Kt hv hb
              simp only [Act.put, List.getElem_toArray, List.getElem_cons_zero, List.getElem_cons_succ, List.setIfInBounds_toArray, List.set_cons_zero, List.set_cons_succ]
              refine wpAnyH_ready (rs := [17]) (by kernel_rfl) (by simp) (AllReadyH.cons rfl (fun Kt hK => ?_) AllReadyH.nil)
              refine wanted_pos rfl ?_
              refine HVdncn.out.wpPut 0 rfl (by rfl) (by rfl) rfl (fun W22 hv => ?_)
              have HVdncnp := hide hv
              refine hK.out _ _ (HVdncnp.out.sv (by simp)) (fun hS22 => ?_)
              clear hK Kt hv
              simp only [Act.put, List.getElem_toArray, List.getElem_cons_zero, List.getElem_cons_succ]
              refine wpAnyH_ready (rs := [18]) (by kernel_rfl) (by simp) (AllReadyH.cons rfl (fun Kt hK => ?_) AllReadyH.nil)
              refine wanted_pos rfl ?_
              refine HVdncnp.out.wpPut 1 rfl (by rfl) (by rfl) rfl (fun W23 hv => ?_)
              have HVdncnpp := hide hv
              refine hK.out _ _ (HVdncnpp.out.sv (by simp)) (fun hS23 => ?_)
              clear hK Kt hv
              simp only [Act.put, List.getElem_toArray, List.getElem_cons_zero, List.getElem_cons_succ]
              refine wpAnyH_take (i := 19) (v := .bool t1) rfl (by kernel_rfl) (by kernel_rfl) (by kernel_rfl) (fun _ _ _ h => h) (Or.inl ⟨by rfl, fun w' _ => by go_simp⟩) hS23 ?_
              simp only [Act.put, List.getElem_toArray, List.getElem_cons_zero, List.getElem_cons_succ, List.setIfInBounds_toArray, List.set_cons_zero, List.set_cons_succ]
              refine wpAnyH_done (by kernel_rfl) ?_ _
              refine NoPanic.normal ?_
              have HVdncnpps := hide (HVdncnpp.out.perm (List.Perm.swap (z, g1) (y, f1) _))
              have HVe : Hid (Vs w _ [(z, g1), (y, f1), (bx, t), (b0 + 2, (fun _ => 0)), (b0 + 1, (fun _ => 0)), (b0, f)]) := HVdncnpps
              revert HA HVe
              exact hcut f1 g1 t1 y z W23
            · refine wanted_pos rfl ?_
              refine HVdn.out.wpNew rfl (fun y W24 hv hb => ?_)
              have HVdnn := hide hv
              refine hK.out _ _ (HVdnn.out.sv (by simp)) (fun hS24 => ?_)
              clear hK Kt hv hb
              simp only [Act.put, List.getElem_toArray, List.getElem_cons_zero, List.getElem_cons_succ, List.setIfInBounds_toArray, List.set_cons_zero, List.set_cons_succ]
              refine wpAnyH_ready (rs := [10]) (by kernel_rfl) (by simp) (AllReadyH.cons rfl (fun Kt hK => ?_) AllReadyH.nil)
              refine wanted_pos rfl ?_
              refine wp_call (R := fun r w' => ∃ f1 g1 t1, r = .tuple #[.agg (ab f1 32).toArray, .agg (ab g1 32).toArray, .bool t1] ∧ TwA O f1 g1 t1 ∧ Below w.heap.size w w' ∧ Vs w w' [(y, (fun _ => 0)), (z, (fun _ => 0)), (bx, t), (b0 + 2, (fun _ => 0)), (b0 + 1, (fun _ => 0)), (b0, f)]) (vs := #[.int .i64 (q : Int), .int .i64 (r : Int), .bool false, .agg (ab f 32).toArray, .slice (some ⟨bz, oz, none⟩) l c]) rfl (by simp only [List.map_toArray, List.map_cons, List.map_nil]; rfl) (by go_simp) (Calls.mono (HIH.out _ HVdnn.out.k) (fun e w' hE => by
                obtain ⟨f1, g1, t1, he, ha, hb⟩ := hE
                exact ⟨_, he, f1, g1, t1, rfl, ha, Go.Proofs.YtpokecijongkpaaDoor.K.call HVdnn.out.k hb, HVdnn.out.keep hb⟩)) (fun r W25 hr => ?_)
              obtain ⟨f1, g1, t1, hr, ha, hb, hv⟩ := hr
              subst hr
              have HA := hide ha
              have HVdnnc := hide hv
              refine hK.out _ _ (HVdnnc.out.sv (by simp)) (fun hS25 => ?_)
              clear hK Kt hb ha hv
              simp only [Act.put, List.getElem_toArray, List.getElem_cons_zero, List.getElem_cons_succ, List.setIfInBounds_toArray, List.set_cons_zero, List.set_cons_succ]
              refine wpAnyH_take (i := 11) (v := .tuple #[.agg (ab f1 32).toArray, .agg (ab g1 32).toArray, .bool t1]) rfl (by kernel_rfl) (by kernel_rfl) (by kernel_rfl) (fun _ _ _ h => h) (Or.inl ⟨by rfl, fun w' _ => by go_simp⟩) hS25 ?_
              simp only [Act.put, List.getElem_toArray, List.getElem_cons_zero, List.getElem_cons_succ, List.setIfInBounds_toArray, List.set_cons_zero, List.set_cons_succ]
              refine wpAnyH_take (i := 12) (v := .agg (ab f1 32).toArray) rfl (by kernel_rfl) (by kernel_rfl) (by kernel_rfl) (fun _ _ _ h => h) (Or.inl ⟨by rfl, fun w' _ => by go_simp⟩) hS25 ?_
              simp only [Act.put, List.getElem_toArray, List.getElem_cons_zero, List.getElem_cons_succ, List.setIfInBounds_toArray, List.set_cons_zero, List.set_cons_succ]
              refine wpAnyH_take (i := 13) (v := .agg (ab g1 32).toArray) rfl (by kernel_rfl) (by kernel_rfl) (by kernel_rfl) (fun _ _ _ h => h) (Or.inl ⟨by rfl, fun w' _ => by go_simp⟩) hS25 ?_
              simp only [Act.put, List.getElem_toArray, List.getElem_cons_zero, List.getElem_cons_succ, List.setIfInBounds_toArray, List.set_cons_zero, List.set_cons_succ]
              refine wpAnyH_take (i := 14) (v := .bool t1) rfl (by kernel_rfl) (by kernel_rfl) (by kernel_rfl) (fun _ _ _ h => h) (Or.inl ⟨by rfl, fun w' _ => by go_simp⟩) hS25 ?_
              simp only [Act.put, List.getElem_toArray, List.getElem_cons_zero, List.getElem_cons_succ, List.setIfInBounds_toArray, List.set_cons_zero, List.set_cons_succ]
              refine wpAnyH_ready (rs := [17]) (by kernel_rfl) (by simp) (AllReadyH.cons rfl (fun Kt hK => ?_) AllReadyH.nil)
              refine wanted_pos rfl ?_
              refine HVdnnc.out.wpPut 0 rfl (by rfl) (by rfl) rfl (fun W26 hv => ?_)
              have HVdnncp := hide hv
              refine hK.out _ _ (HVdnncp.out.sv (by simp)) (fun hS26 => ?_)
              clear hK Kt hv
              simp only [Act.put, List.getElem_toArray, List.getElem_cons_zero, List.getElem_cons_succ]
              refine wpAnyH_ready (rs := [18]) (by kernel_rfl) (by simp) (AllReadyH.cons rfl (fun Kt hK => ?_) AllReadyH.nil)
              refine wanted_pos rfl ?_
              refine HVdnncp.out.wpPut 1 rfl (by rfl) (by rfl) rfl (fun W27 hv => ?_)
              have HVdnncpp := hide hv
              refine hK.out _ _ (HVdnncpp.out.sv (by simp)) (fun hS27 => ?_)
              clear hK Kt hv
              simp only [Act.put, List.getElem_toArray, List.getElem_cons_zero, List.getElem_cons_succ]
              refine wpAnyH_take (i := 19) (v := .bool t1) rfl (by kernel_rfl) (by kernel_rfl) (by kernel_rfl) (fun _ _ _ h => h) (Or.inl ⟨by rfl, fun w' _ => by go_simp⟩) hS27 ?_
              simp only [Act.put, List.getElem_toArray, List.getElem_cons_zero, List.getElem_cons_succ, List.setIfInBounds_toArray, List.set_cons_zero, List.set_cons_succ]
              refine wpAnyH_done (by kernel_rfl) ?_ _
              refine NoPanic.normal ?_
              have HVdnncpps := hide (HVdnncpp.out.perm (List.Perm.swap (z, g1) (y, f1) _))
              have HVe : Hid (Vs w _ [(z, g1), (y, f1), (bx, t), (b0 + 2, (fun _ => 0)), (b0 + 1, (fun _ => 0)), (b0, f)]) := HVdnncpps
              revert HA HVe
              exact hcut f1 g1 t1 y z W27
        intro f1 g1 t1 y z Y HA HVy
        clear HV HVd HIH HSp
        have HNe := hide (fun W => refNode_any (w := W) HTl.out HA.out.lt)
        have HNk := hide (nd_lt t f1)
        have HNd := hide (fun W => refNode_any (w := W) HTl.out HA.out.lt2)
        have HNl := hide (nd_lt t g1)
        unfold hv at HNd HNe
        obtain ⟨u, hu⟩ : ∃ u, nd t g1 = u := ⟨_, rfl⟩
        obtain ⟨v, hv⟩ : ∃ v, nd t f1 = v := ⟨_, rfl⟩
        rw [hu] at HNd HNl
        rw [hv] at HNe HNk
        have HM := hide (HA.out.map (f' := v) (g' := u) (fun q => (nd t q.1, nd t q.2)) (by show (nd t f1, nd t g1) = _; rw [hu, hv]) HNk.out HNl.out)
        clear hu hv
        have HVd := hide HVy.out.drew
        go_upto_region 16 with fail
        refine wp_region_noPanic ?_
        refine wp_region_held_drew (S := Sv w [(y, f1), (z, g1), (bx, t)]) (by kernel_rfl) (HVd.out.sv (by simp)) (fun hS0 => ?_)
        refine wpAnyH_take (i := 0) (v := .agg (ab t 32).toArray) rfl (by kernel_rfl) (by kernel_rfl) (by kernel_rfl) (fun _ _ _ h => h) (yieldsIf_load_mid (by rfl) 24 _ rfl bx 0 (by rfl) (ab t 32) _ (fun w' hS => hS.rg 2 rfl) Tryd.underlying24 rfl (ilH _)) hS0 ?_
        simp only [Act.put, List.getElem_toArray, List.getElem_cons_zero, List.setIfInBounds_toArray, List.set_cons_zero, List.set_cons_succ]
        refine wpAnyH_take (i := 1) (v := .agg (ab f1 32).toArray) rfl (by kernel_rfl) (by kernel_rfl) (by kernel_rfl) (fun _ _ _ h => h) (yieldsIf_load_mid (by rfl) 24 _ rfl y 0 (by rfl) (ab f1 32) _ (fun w' hS => hS.rg 0 rfl) Tryd.underlying24 rfl (ilH _)) hS0 ?_
        simp only [Act.put, List.getElem_toArray, List.getElem_cons_zero, List.getElem_cons_succ, List.setIfInBounds_toArray, List.set_cons_zero, List.set_cons_succ]
        refine wpAnyH_take (i := 3) (v := .agg (ab t 32).toArray) rfl (by kernel_rfl) (by kernel_rfl) (by kernel_rfl) (fun _ _ _ h => h) (yieldsIf_load_mid (by rfl) 24 _ rfl bx 0 (by rfl) (ab t 32) _ (fun w' hS => hS.rg 2 rfl) Tryd.underlying24 rfl (ilH _)) hS0 ?_
        simp only [Act.put, List.getElem_toArray, List.getElem_cons_zero, List.getElem_cons_succ, List.setIfInBounds_toArray, List.set_cons_zero, List.set_cons_succ]
        refine wpAnyH_take (i := 4) (v := .agg (ab g1 32).toArray) rfl (by kernel_rfl) (by kernel_rfl) (by kernel_rfl) (fun _ _ _ h => h) (yieldsIf_load_mid (by rfl) 24 _ rfl z 0 (by rfl) (ab g1 32) _ (fun w' hS => hS.rg 1 rfl) Tryd.underlying24 rfl (ilH _)) hS0 ?_
        simp only [Act.put, List.getElem_toArray, List.getElem_cons_zero, List.getElem_cons_succ, List.setIfInBounds_toArray, List.set_cons_zero, List.set_cons_succ]
        refine wpAnyH_take (i := 6) (v := .bool t1) rfl (by kernel_rfl) (by kernel_rfl) (by kernel_rfl) (fun _ _ _ h => h) (Or.inl ⟨by rfl, fun w' _ => by go_simp⟩) hS0 ?_
        simp only [Act.put, List.getElem_toArray, List.getElem_cons_zero, List.getElem_cons_succ, List.setIfInBounds_toArray, List.set_cons_zero, List.set_cons_succ]
        refine wpAnyH_ready (rs := [2]) (by kernel_rfl) (by simp) (AllReadyH.cons rfl (fun Kt hK => ?_) AllReadyH.nil)
        refine wanted_pos rfl ?_
        refine wp_call (R := fun r w' => r = .agg (ab v 32).toArray ∧ Vs w w' [(z, g1), (y, f1), (bx, t), (b0 + 2, (fun _ => 0)), (b0 + 1, (fun _ => 0)), (b0, f)]) (vs := #[.agg (ab t 32).toArray, .agg (ab f1 32).toArray]) rfl (by simp only [List.map_toArray, List.map_cons, List.map_nil]; rfl) (by go_simp) (Calls.mono (HNe.out _) (fun e w' ⟨he, hb⟩ => ⟨_, he, rfl, HVd.out.keep hb⟩)) (fun r W1 hr => ?_)
        obtain ⟨hr, hv⟩ := hr
        subst hr
        have HVdd := hide hv
        refine hK.out _ _ (HVdd.out.sv (by simp)) (fun hS1 => ?_)
        clear hK Kt hv
        simp only [Act.put, List.getElem_toArray, List.getElem_cons_zero, List.getElem_cons_succ, List.setIfInBounds_toArray, List.set_cons_zero, List.set_cons_succ]
        refine wpAnyH_ready (rs := [5]) (by kernel_rfl) (by simp) (AllReadyH.cons rfl (fun Kt hK => ?_) AllReadyH.nil)
        refine wanted_pos rfl ?_
        refine wp_call (R := fun r w' => r = .agg (ab u 32).toArray ∧ Vs w w' [(z, g1), (y, f1), (bx, t), (b0 + 2, (fun _ => 0)), (b0 + 1, (fun _ => 0)), (b0, f)]) (vs := #[.agg (ab t 32).toArray, .agg (ab g1 32).toArray]) rfl (by simp only [List.map_toArray, List.map_cons, List.map_nil]; rfl) (by go_simp) (Calls.mono (HNd.out _) (fun e w' ⟨he, hb⟩ => ⟨_, he, rfl, HVdd.out.keep hb⟩)) (fun r W2 hr => ?_)
        obtain ⟨hr, hv⟩ := hr
        subst hr
        have HVddd := hide hv
        refine hK.out _ _ (HVddd.out.sv (by simp)) (fun hS2 => ?_)
        clear hK Kt hv
        simp only [Act.put, List.getElem_toArray, List.getElem_cons_zero, List.getElem_cons_succ, List.setIfInBounds_toArray, List.set_cons_zero, List.set_cons_succ]
        refine wpAnyH_ready (rs := [7]) (by kernel_rfl) (by simp) (AllReadyH.cons rfl (fun Kt hK => ?_) AllReadyH.nil)
        refine wanted_pos rfl ?_
        refine HVddd.out.wpPut 4 rfl (by rfl) (by rfl) rfl (fun W3 hv => ?_)
        have HVdddp := hide hv
        refine hK.out _ _ (HVdddp.out.sv (by simp)) (fun hS3 => ?_)
        clear hK Kt hv
        simp only [Act.put, List.getElem_toArray, List.getElem_cons_zero, List.getElem_cons_succ]
        refine wpAnyH_ready (rs := [8]) (by kernel_rfl) (by simp) (AllReadyH.cons rfl (fun Kt hK => ?_) AllReadyH.nil)
        refine wanted_pos rfl ?_
        refine HVdddp.out.wpPut 3 rfl (by rfl) (by rfl) rfl (fun W4 hv => ?_)
        have HVdddpp := hide hv
        refine hK.out _ _ (HVdddpp.out.sv (by simp)) (fun hS4 => ?_)
        clear hK Kt hv
        simp only [Act.put, List.getElem_toArray, List.getElem_cons_zero, List.getElem_cons_succ]
        refine wpAnyH_take (i := 9) (v := .bool t1) rfl (by kernel_rfl) (by kernel_rfl) (by kernel_rfl) (fun _ _ _ h => h) (Or.inl ⟨by rfl, fun w' _ => by go_simp⟩) hS4 ?_
        simp only [Act.put, List.getElem_toArray, List.getElem_cons_zero, List.getElem_cons_succ, List.setIfInBounds_toArray, List.set_cons_zero, List.set_cons_succ]
        refine wpAnyH_done (by kernel_rfl) ?_ _
        refine NoPanic.normal ?_
        go_wp2_with fail
        exact bodyPost_ret (results_cell2_tmp Tryd.results44 _ _ (b0 + 1) (b0 + 2) (ab v 32) (ab u 32) _ rfl (HVdddpp.out.rg 4 rfl) rfl (HVdddpp.out.rg 3 rfl) Tryd.underlying24 rfl (ilH _) (ilH _) rfl) rfl ⟨v, u, t1, rfl, HM.out, HVdddpp.out.k⟩
end Go.Proofs.YtpokecijongkpaaDoor
