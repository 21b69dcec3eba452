/- Layer 20: the program's own Path and Proof. -/
import Derived.Test.YtpokecijongkpaaDoorMA18
import Derived.Test.YtpokecijongkpaaDoorMA14
import Derived.Test.YtpokecijongkpaaDoorMA19
import Derived.Test.YtpokecijongkpaaDoorMA21
import Derived.Test.YtpokecijongkpaaDoorMA06
import Derived.Test.YtpokecijongkpaaDoorMA13
namespace Go.Proofs.YtpokecijongkpaaDoor
set_option maxRecDepth 100000
open Go.RowKit
attribute [local go_sem ↓] Go.wp_at_zero Go.wp_at_succ

theorem map_prAt (P : List HP) : (List.range P.length).map (prAt P) = P := by
  refine List.ext_getElem (by rw [List.length_map, List.length_range]) (fun i h1 h2 => ?_)
  rw [List.getElem_map, List.getElem_range]
  unfold prAt
  rw [List.getD_eq_getElem?_getD, List.getElem?_eq_getElem h2]
  rfl
theorem btP_at {P : List HP} (h : BtP P) (i : Nat) : (∀ j, (prAt P i).1 j < 256) ∧ ∀ j, (prAt P i).2 j < 256 := by
  unfold prAt
  by_cases hi : i < P.length
  · rw [List.getD_eq_getElem?_getD, List.getElem?_eq_getElem hi]
    exact h _ (List.getElem_mem hi)
  · rw [List.getD_eq_getElem?_getD, List.getElem?_eq_none (by omega)]
    exact ⟨fun _ => (by decide : 0 < 256), fun _ => (by decide : 0 < 256)⟩
theorem btP_rev {P : List HP} (h : BtP P) : BtP P.reverse := fun q hq => h q (List.mem_reverse.1 hq)
theorem down_any {w : World} {b o n c m l c2 : Nat} {y : Option Addr} {F : Nat → Nat → Nat} {P : List HP} (hT : Tab w) (hx : HL w (some ⟨b, o, none⟩) n F) (hc : n ≤ c) (hcm : c ≤ maxLen) (hn : n ≤ 1000000) (hm : m ≤ 1000000) (hp : PrL w y P.reverse) (hl : P.length = l) (hl1 : l ≤ 1000) (hb : BtP P) (hd : dpt l n m) :
    Calls Tryd.prog 36 #[.slice (some ⟨b, o, none⟩) n c, .int .i64 (m : Int), .slice y l c2] w (DnP w (dn P n m F)) := by
  have h := down_in (c2 := c2) hT hx hc hcm hn hm hp (by rw [List.length_reverse]; exact hl) hl1 (btP_at (btP_rev hb)) hd
  have e : (List.range l).reverse.map (prAt P.reverse) = P := by
    have e2 : P.reverse.length = l := by rw [List.length_reverse]; exact hl
    rw [List.map_reverse, ← e2, map_prAt, List.reverse_reverse]
  rw [e, ← dn_fold] at h
  exact callsIn_wide.1 h
/-- Two texts are told of the pairs that were found. -/
theorem DnP.two {w : World} {D : Option (HP × HP)} {u v u' v' : Nat → Nat} {e : Ending} {w' : World} (h : DnP w D e w') (hD : D.map four = some (u, v, u', v')) (hc : Cls u v u' v') : ClP w true e w' := by
  cases D with
  | none => cases hD
  | some r =>
    obtain ⟨⟨a, a'⟩, ⟨d, d'⟩⟩ := r
    obtain ⟨rfl, rfl, rfl, rfl⟩ : a = u ∧ a' = v ∧ d = u' ∧ d' = v' := by
      have := Option.some.inj hD
      simp only [Prod.mk.injEq] at this
      exact this
    obtain ⟨x, c, y, k, he, hA, hB, hb⟩ := h
    exact ⟨x, 65, c, y, 65, k, _, _, he, hA, hB, Txs.two hc.symm, hb⟩
theorem dcv_tells {n : Nat} {F : Nat → Nat → Nat} {m : Nat} {f : Nat → Nat} {r : List (Nat → Nat)} (h : dcv n F (m : Int) f r = true) : m < n ∧ dpt r.length n m ∧ ∃ u v u' v', (dn (rs f r n m).2 n m F).map four = some (u, v, u', v') ∧ Cls u v u' v' := by
  obtain ⟨hm, u, v, u', v', hc, hC⟩ := dcv_cp h
  unfold dcv at h
  rw [Bool.and_eq_true, ckP_nat hm] at h
  refine ⟨hm, ?_⟩
  cases he : ld n m f r with
  | none => rw [he] at h; cases h.1
  | some y =>
    refine ⟨ld_dpt r n m f y hm he, u, v, u', v', ?_, hC⟩
    rw [← (ld_rs r n m f y F hm he).2]
    exact hc
/-- Up, and down again: what both calls answer. -/
theorem tell_any {w : World} {b o n c l d m : Nat} {y : Option Addr} {F G : Nat → Nat → Nat} {f : Nat → Nat} {u v u' v' : Nat → Nat} (hT : Tab w) (hx : HL w (some ⟨b, o, none⟩) n F) (hc : n ≤ c) (hcm : c ≤ maxLen) (hn : n ≤ 1000) (hm : m ≤ 1000) (hy : HL w y l G) (hd : l ≤ d) (hdm : d ≤ maxLen) (hl : l ≤ 1000) (hf : ∀ j, f j < 256) (hp : dpt l n m) (hu : (dn (rs f (rv G l) n m).2 n m F).map four = some (u, v, u', v')) (hC : Cls u v u' v') :
    ∃ r P, (∀ W, Below w.heap.size w W → Calls Tryd.prog 35 #[.int .i64 (m : Int), .int .i64 (n : Int), .agg (ab f 32).toArray, .slice y l d] W (fun e w' => ∃ a k, e = .returned (.tuple #[.agg (ab r 32).toArray, .slice a l k]) ∧ PrL w' a P ∧ Below W.heap.size W w')) ∧
      (∀ W a k, Below w.heap.size w W → PrL W a P → Calls Tryd.prog 36 #[.slice (some ⟨b, o, none⟩) n c, .int .i64 (m : Int), .slice a l k] W (ClP W true)) := by
  obtain ⟨⟨r, P⟩, hR⟩ : ∃ R, rs f (rv G l) n m = R := ⟨_, rfl⟩
  have hlen := rs_len f (rv G l) n m
  have hlt := (rs_lt hf (rv G l) n m (rv_lt hy.lt l)).2
  rw [hR] at hlen hlt hu
  rw [rv_len] at hlen
  refine ⟨r, P.reverse, fun W h => ?_, fun W a k h hp' => ?_⟩
  · have hc := riseQ_any l (w := W) (c := d) (n := n) (m := m) (hT.keep h) (hy.keep h) hd hdm hl (by omega) (by omega) hf
    rw [hR] at hc
    refine Calls.mono hc ?_
    rintro e w' ⟨v, rfl, ho, hb⟩
    obtain ⟨a, k, rfl, _, _⟩ := ho.form
    have e : P.reverse.length = l := by rw [List.length_reverse]; exact hlen
    refine ⟨a, k, ?_, ho.pls, hb⟩
    rw [e]
  · exact Calls.mono (down_any (hT.keep h) (hx.keep h) hc hcm (by omega) (by omega) hp' hlen hl hlt hp) (fun e w' h => h.two hu hC)
set_option maxRecDepth 100000 in
set_option maxHeartbeats 8000000 in
theorem along_any {w : World} {b o n c l d m : Nat} {y : Option Addr} {F G : Nat → Nat → Nat} {f : Nat → Nat} (hT : Tab w) (hx : HL w (some ⟨b, o, none⟩) n F) (hc : n ≤ c) (hcm : c ≤ maxLen) (hn : n ≤ 1000) (hy : HL w y l G) (hd : l ≤ d) (hdm : d ≤ maxLen) (hl : l ≤ 1000) (hf : ∀ j, f j < 256) (hD : dcv n F (m : Int) f (rv G l) = true) :
    Calls Tryd.prog 21 #[.slice (some ⟨b, o, none⟩) n c, .int .i64 (m : Int), .agg (ab f 32).toArray, .slice y l d] w (ClP w true) := by
  obtain ⟨hm, hp, u, v, u', v', hu, hC⟩ := dcv_tells hD
  rw [rv_len] at hp
  obtain ⟨r, P, hRi, hDn⟩ := tell_any hT hx hc hcm hn (by omega) hy hd hdm hl hf hp hu hC
  have HRi := hide hRi
  have HDn := hide hDn
  clear hT hx hy hD hp hu hC hRi hDn hf hm hn hl hc hcm hd hdm
  go_enter Tryd.func21, Tryd.ntmps21
  go_upto_region 1 with fail
  refine wp_world (fun X hX => ?_)
  have hv : Vs w X [(w.heap.size, f)] := by rw [hX]; exact (Vs.nil w).made f
  clear hX
  obtain ⟨b0, hb0⟩ : ∃ b0, w.heap.size = b0 := ⟨_, rfl⟩
  rw [hb0] at hv ⊢
  have HV := hide hv
  clear hv
  go_upto_region 2 with (first
    | (refine HN1.out.listPut (b := x) 0 rfl rfl rfl rfl rfl (fun X3 hv => ?_); have HN2 : Hid (Vs X1 X3 [(x, r)]) := hide hv; clear hv HN1)
    | (refine HN.out.listNew rfl rfl (fun x X2 hv hb => ?_); have HN1 := hide hv; clear hv hb HN)
    | (refine wpList_load_h (g := b0) rfl _ rfl rfl (HV.out.rg 0 rfl) ?_)
    | (go_at_call 35; (with_reducible refine Calls.mono (HRi.out _ HV.out.k) ?_); rintro e X1 ⟨a, k, rfl, hp, hb⟩; have HVr := hide (HV.out.keep hb); have HP := hide hp; have HN := hide (Vs.nil X1); clear hp hb))
  go_wp2_with (go_at_call 36; (with_reducible refine Calls.mono (HDn.out _ a k ((HVr.out.keep HN2.out.k).k) (HP.out.keep HN2.out.k)) ?_); rintro e X9 ⟨x1, n1, c1, x2, n2, c2, A, B, rfl, hA, hB, hX, hb⟩; have HA := hide (And.intro hA (And.intro hB (And.intro hX hb))); clear hA hB hX hb)
  exact bodyPost_ret (results_tmp3 Tryd.results21 _ _ _) rfl ⟨x1, n1, c1, x2, n2, c2, A, B, rfl, HA.out.1, HA.out.2.1, HA.out.2.2.1, Go.Proofs.YtpokecijongkpaaDoor.K.call ((HVr.out.keep HN2.out.k).k) HA.out.2.2.2⟩
set_option maxRecDepth 100000 in
set_option maxHeartbeats 16000000 in
theorem clashPath_any {w : World} {z y : Option Addr} {n c l d : Nat} {m : Int} {F G : Nat → Nat → Nat} {f : Nat → Nat} (hT : Tab w) (hx : HL w z n F) (hc : n ≤ c) (hcm : c ≤ maxLen) (hn : n ≤ 1000) (hy : HL w y l G) (hd : l ≤ d) (hdm : d ≤ maxLen) (hl : l ≤ 1000) (_hm0 : -9223372036854775808 ≤ m) (_hm1 : m < 9223372036854775808) (hf : ∀ j, f j < 256) :
    Calls Tryd.prog 8 #[.slice z n c, .int .i64 m, hv f, .slice y l d] w (ClP w (dcv n F m f (rv G l))) := by
  have hro := fun W (h : Below w.heap.size w W) => root_any n (w := W) (hT.keep h) (hx.keep h) hc hcm (by omega)
  obtain ⟨rr, hrr⟩ : ∃ r, rt F n = r := ⟨_, rfl⟩
  have hck := fun W (h : Below w.heap.size w W) => checkPath_any (w := W) (m := m) (n := (n : Int)) (f := f) (g := rr) (hT.keep h) (hy.keep h) hd hdm (by omega) (by omega) hf (by rw [← hrr]; exact rt_lt hx.lt n)
  rw [hrr] at hro
  obtain ⟨q, hq⟩ : ∃ q, ckP m n f (rv G l) rr = q := ⟨_, rfl⟩
  rw [hq] at hck
  unfold hv at hro hck ⊢
  have HRo := hide hro
  have HCk := hide hck
  cases q with
  | false =>
    have hD : dcv n F m f (rv G l) = false := by unfold dcv; rw [hrr, hq]; rfl
    rw [hD]
    clear hro hck hq hrr hD hT hx hy hf hn hl hc hcm hd hdm
    go_enter Tryd.func8, Tryd.ntmps8
    go_upto_region 1 with fail
    refine wp_world (fun X hX => ?_)
    have hv : Vs w X [(w.heap.size, f)] := by rw [hX]; exact (Vs.nil w).made f
    clear hX
    obtain ⟨b0, hb0⟩ : ∃ b0, w.heap.size = b0 := ⟨_, rfl⟩
    rw [hb0] at hv ⊢
    have HV := hide hv
    clear hv
    have HVd := hide HV.out.drew
    refine wp_region_noPanic ?_
    refine wp_region_held_drew (S := Sv w [(b0, f)]) (by kernel_rfl) (HVd.out.sv (by simp)) (fun hS0 => ?_)
    refine wpAnyH_take (i := 0) (v := .int .i64 m) rfl (by kernel_rfl) (by kernel_rfl) (by kernel_rfl) (fun _ _ _ h => h) (Or.inl ⟨by rfl, fun w' _ => by go_simp⟩) hS0 ?_
    simp only [Act.put, List.getElem_toArray, List.getElem_cons_zero, List.setIfInBounds_toArray, List.set_cons_zero, List.set_cons_succ]
    refine wpAnyH_take (i := 1) (v := .slice z n c) rfl (by kernel_rfl) (by kernel_rfl) (by kernel_rfl) (fun _ _ _ h => h) (Or.inl ⟨by rfl, fun w' _ => by go_simp⟩) hS0 ?_
    simp only [Act.put, List.getElem_toArray, List.getElem_cons_zero, List.getElem_cons_succ, List.setIfInBounds_toArray, List.set_cons_zero, List.set_cons_succ]
    refine wpAnyH_take (i := 2) (v := .int .i64 (n : Int)) rfl (by kernel_rfl) (by kernel_rfl) (by kernel_rfl) (fun _ _ _ h => h) (Or.inl ⟨by rfl, fun w' _ => by go_simp⟩) hS0 ?_
    simp only [Act.put, List.getElem_toArray, List.getElem_cons_zero, List.getElem_cons_succ, List.setIfInBounds_toArray, List.set_cons_zero, List.set_cons_succ]
    refine wpAnyH_take (i := 3) (v := .agg (ab f 32).toArray) rfl (by kernel_rfl) (by kernel_rfl) (by kernel_rfl) (fun _ _ _ h => h) (yieldsIf_load_mid (by rfl) 24 _ rfl b0 0 (by rfl) (ab f 32) _ (fun w' hS => hS.rg 0 rfl) Tryd.underlying24 rfl (ilH _)) hS0 ?_
    simp only [Act.put, List.getElem_toArray, List.getElem_cons_zero, List.getElem_cons_succ, List.setIfInBounds_toArray, List.set_cons_zero, List.set_cons_succ]
    refine wpAnyH_take (i := 4) (v := .slice y l d) rfl (by kernel_rfl) (by kernel_rfl) (by kernel_rfl) (fun _ _ _ h => h) (Or.inl ⟨by rfl, fun w' _ => by go_simp⟩) hS0 ?_
    simp only [Act.put, List.getElem_toArray, List.getElem_cons_zero, List.getElem_cons_succ, List.setIfInBounds_toArray, List.set_cons_zero, List.set_cons_succ]
    refine wpAnyH_take (i := 5) (v := .slice z n c) rfl (by kernel_rfl) (by kernel_rfl) (by kernel_rfl) (fun _ _ _ h => h) (Or.inl ⟨by rfl, fun w' _ => by go_simp⟩) hS0 ?_
    simp only [Act.put, List.getElem_toArray, List.getElem_cons_zero, List.getElem_cons_succ, List.setIfInBounds_toArray, List.set_cons_zero, List.set_cons_succ]
    refine wpAnyH_ready (rs := [6]) (by kernel_rfl) (by simp) (AllReadyH.cons rfl (fun Kt hK => ?_) AllReadyH.nil)
    refine wanted_pos rfl ?_
    refine wp_call (R := fun r w' => r = .agg (ab rr 32).toArray ∧ Vs w w' [(b0, f)]) (vs := #[.slice z n c]) rfl (by simp only [List.map_toArray, List.map_cons, List.map_nil]; rfl) (by go_simp) (Calls.mono (HRo.out _ HVd.out.k) (fun e w' ⟨he, hb⟩ => ⟨_, he, rfl, HVd.out.keep hb⟩)) (fun r W1 hr => ?_)
    obtain ⟨hr, hv⟩ := hr
    subst hr
    have HVdd := hide hv
    refine hK.out _ _ (HVdd.out.sv (by simp)) (fun hS1 => ?_)
    clear hK Kt hv
    simp only [Act.put, List.getElem_toArray, List.getElem_cons_zero, List.getElem_cons_succ, List.setIfInBounds_toArray, List.set_cons_zero, List.set_cons_succ]
    refine wpAnyH_ready (rs := [7]) (by kernel_rfl) (by simp) (AllReadyH.cons rfl (fun Kt hK => ?_) AllReadyH.nil)
    refine wanted_pos rfl ?_
    refine wp_call (R := fun r w' => r = .bool false ∧ Vs w w' [(b0, f)]) (vs := #[.int .i64 m, .int .i64 (n : Int), .agg (ab f 32).toArray, .slice y l d, .agg (ab rr 32).toArray]) rfl (by simp only [List.map_toArray, List.map_cons, List.map_nil]; rfl) (by go_simp) (Calls.mono (HCk.out _ HVdd.out.k) (fun e w' ⟨he, hb⟩ => ⟨_, he, rfl, HVdd.out.keep hb⟩)) (fun r W2 hr => ?_)
    obtain ⟨hr, hv⟩ := hr
    subst hr
    have HVddd := hide hv
    refine hK.out _ _ (HVddd.out.sv (by simp)) (fun hS2 => ?_)
    clear hK Kt hv
    simp only [Act.put, List.getElem_toArray, List.getElem_cons_zero, List.getElem_cons_succ, List.setIfInBounds_toArray, List.set_cons_zero, List.set_cons_succ]
    refine wpAnyH_take (i := 8) (v := .bool true) rfl (by kernel_rfl) (by kernel_rfl) (by kernel_rfl) (fun _ _ _ h => h) (Or.inl ⟨by rfl, fun w' _ => by go_simp⟩) hS2 ?_
    simp only [Act.put, List.getElem_toArray, List.getElem_cons_zero, List.getElem_cons_succ, List.setIfInBounds_toArray, List.set_cons_zero, List.set_cons_succ]
    refine wpAnyH_take (i := 9) (v := .bool true) rfl (by kernel_rfl) (by kernel_rfl) (by kernel_rfl) (fun _ _ _ h => h) (Or.inl ⟨by rfl, fun w' _ => by go_simp⟩) hS2 ?_
    simp only [Act.put, List.getElem_toArray, List.getElem_cons_zero, List.getElem_cons_succ, List.setIfInBounds_toArray, List.set_cons_zero, List.set_cons_succ]
    refine wpAnyH_take (i := 10) (v := undef) rfl (by kernel_rfl) (by kernel_rfl) (by kernel_rfl) (fun _ _ _ h => h) (Or.inr ⟨by rfl, rfl⟩) hS2 ?_
    simp only [Act.put, List.getElem_toArray, List.getElem_cons_zero, List.getElem_cons_succ, List.setIfInBounds_toArray, List.set_cons_zero, List.set_cons_succ]
    refine wpAnyH_take (i := 11) (v := undef) rfl (by kernel_rfl) (by kernel_rfl) (by kernel_rfl) (fun _ _ _ h => h) (Or.inr ⟨by rfl, rfl⟩) hS2 ?_
    simp only [Act.put, List.getElem_toArray, List.getElem_cons_zero, List.getElem_cons_succ, List.setIfInBounds_toArray, List.set_cons_zero, List.set_cons_succ]
    refine wpAnyH_take (i := 12) (v := undef) rfl (by kernel_rfl) (by kernel_rfl) (by kernel_rfl) (fun _ _ _ h => h) (Or.inr ⟨by rfl, rfl⟩) hS2 ?_
    simp only [Act.put, List.getElem_toArray, List.getElem_cons_zero, List.getElem_cons_succ, List.setIfInBounds_toArray, List.set_cons_zero, List.set_cons_succ]
    refine wpAnyH_take (i := 13) (v := undef) rfl (by kernel_rfl) (by kernel_rfl) (by kernel_rfl) (fun _ _ _ h => h) (Or.inr ⟨by rfl, rfl⟩) hS2 ?_
    simp only [Act.put, List.getElem_toArray, List.getElem_cons_zero, List.getElem_cons_succ, List.setIfInBounds_toArray, List.set_cons_zero, List.set_cons_succ]
    refine wpAnyH_take (i := 14) (v := undef) rfl (by kernel_rfl) (by kernel_rfl) (by kernel_rfl) (fun _ _ _ h => h) (Or.inr ⟨by rfl, rfl⟩) hS2 ?_
    simp only [Act.put, List.getElem_toArray, List.getElem_cons_zero, List.getElem_cons_succ, List.setIfInBounds_toArray, List.set_cons_zero, List.set_cons_succ]
    refine wpAnyH_take (i := 15) (v := undef) rfl (by kernel_rfl) (by kernel_rfl) (by kernel_rfl) (fun _ _ _ h => h) (Or.inr ⟨by rfl, rfl⟩) hS2 ?_
    simp only [Act.put, List.getElem_toArray, List.getElem_cons_zero, List.getElem_cons_succ, List.setIfInBounds_toArray, List.set_cons_zero, List.set_cons_succ]
    refine wpAnyH_take (i := 16) (v := .bool true) rfl (by kernel_rfl) (by kernel_rfl) (by kernel_rfl) (fun _ _ _ h => h) (Or.inl ⟨by rfl, fun w' _ => by go_simp⟩) hS2 ?_
    simp only [Act.put, List.getElem_toArray, List.getElem_cons_zero, List.getElem_cons_succ, List.setIfInBounds_toArray, List.set_cons_zero, List.set_cons_succ]
    refine wpAnyH_done (by kernel_rfl) ?_ _
    refine NoPanic.normal ?_
    have HVe : Hid (Vs w W2 [(b0, f)]) := HVddd
    clear HVd
    go_wp2_with fail
    exact bodyPost_ret (results_tmp3 Tryd.results8 _ _ _) rfl ⟨none, 0, 0, none, 0, 0, fun _ => 0, fun _ => 0, rfl, ⟨fun _ => by omega, Or.inl rfl⟩, ⟨fun _ => by omega, Or.inl rfl⟩, Txs.none rfl rfl, HVe.out.k⟩
  | true =>
    have hmn : ¬ (m < 0 ∨ (n : Int) ≤ m) := fun h => by rw [ckP_not h] at hq; cases hq
    obtain ⟨m, rfl⟩ := Int.eq_ofNat_of_zero_le (show 0 ≤ m by omega)
    have hmn' : m < n := by omega
    obtain ⟨bz, oz, rfl⟩ := hx.ad (show 0 < n by omega)
    obtain ⟨t, ht⟩ : ∃ t, F m = t := ⟨_, rfl⟩
    obtain ⟨e, he⟩ : ∃ e, eqB f t 32 = e := ⟨_, rfl⟩
    have hD : dcv n F (m : Int) f (rv G l) = !e := by unfold dcv; rw [hrr, hq, Int.toNat_natCast, ht, he]; rfl
    have HEq := hide (fun W => eqH f t W)
    rw [he] at HEq
    rw [hD]
    have HRt : Hid (w.rangeAt bz (oz + m * 32) (ab t 32)) := hide (by rw [← ht]; exact hx.rangeA hmn')
    have hmI : (m : Int) < (n : Int) := by omega
    have hcz : ¬ (c = 0) := by omega
    cases e with
    | true =>
      clear hro hck hq hrr hD hT hx hy hf hn hl hc hcm hd hdm ht he hmn hmn'
      show Calls _ _ _ _ (ClP w false)
      go_enter Tryd.func8, Tryd.ntmps8
      go_upto_region 1 with fail
      refine wp_world (fun X hX => ?_)
      have hv : Vs w X [(w.heap.size, f)] := by rw [hX]; exact (Vs.nil w).made f
      clear hX
      obtain ⟨b0, hb0⟩ : ∃ b0, w.heap.size = b0 := ⟨_, rfl⟩
      rw [hb0] at hv ⊢
      have HV := hide hv
      clear hv
      have HVd := hide HV.out.drew
      refine wp_region_noPanic ?_
      refine wp_region_held_drew (S := Sv w [(b0, f)]) (by kernel_rfl) (HVd.out.sv (by simp)) (fun hS0 => ?_)
      refine wpAnyH_take (i := 0) (v := .int .i64 (m : Int)) rfl (by kernel_rfl) (by kernel_rfl) (by kernel_rfl) (fun _ _ _ h => h) (Or.inl ⟨by rfl, fun w' _ => by go_simp⟩) hS0 ?_
      simp only [Act.put, List.getElem_toArray, List.getElem_cons_zero, List.setIfInBounds_toArray, List.set_cons_zero, List.set_cons_succ]
      refine wpAnyH_take (i := 1) (v := .slice (some ⟨bz, oz, none⟩) n c) rfl (by kernel_rfl) (by kernel_rfl) (by kernel_rfl) (fun _ _ _ h => h) (Or.inl ⟨by rfl, fun w' _ => by go_simp⟩) hS0 ?_
      simp only [Act.put, List.getElem_toArray, List.getElem_cons_zero, List.getElem_cons_succ, List.setIfInBounds_toArray, List.set_cons_zero, List.set_cons_succ]
      refine wpAnyH_take (i := 2) (v := .int .i64 (n : Int)) rfl (by kernel_rfl) (by kernel_rfl) (by kernel_rfl) (fun _ _ _ h => h) (Or.inl ⟨by rfl, fun w' _ => by go_simp⟩) hS0 ?_
      simp only [Act.put, List.getElem_toArray, List.getElem_cons_zero, List.getElem_cons_succ, List.setIfInBounds_toArray, List.set_cons_zero, List.set_cons_succ]
      refine wpAnyH_take (i := 3) (v := .agg (ab f 32).toArray) rfl (by kernel_rfl) (by kernel_rfl) (by kernel_rfl) (fun _ _ _ h => h) (yieldsIf_load_mid (by rfl) 24 _ rfl b0 0 (by rfl) (ab f 32) _ (fun w' hS => hS.rg 0 rfl) Tryd.underlying24 rfl (ilH _)) hS0 ?_
      simp only [Act.put, List.getElem_toArray, List.getElem_cons_zero, List.getElem_cons_succ, List.setIfInBounds_toArray, List.set_cons_zero, List.set_cons_succ]
      refine wpAnyH_take (i := 4) (v := .slice y l d) rfl (by kernel_rfl) (by kernel_rfl) (by kernel_rfl) (fun _ _ _ h => h) (Or.inl ⟨by rfl, fun w' _ => by go_simp⟩) hS0 ?_
      simp only [Act.put, List.getElem_toArray, List.getElem_cons_zero, List.getElem_cons_succ, List.setIfInBounds_toArray, List.set_cons_zero, List.set_cons_succ]
      refine wpAnyH_take (i := 5) (v := .slice (some ⟨bz, oz, none⟩) n c) rfl (by kernel_rfl) (by kernel_rfl) (by kernel_rfl) (fun _ _ _ h => h) (Or.inl ⟨by rfl, fun w' _ => by go_simp⟩) hS0 ?_
      simp only [Act.put, List.getElem_toArray, List.getElem_cons_zero, List.getElem_cons_succ, List.setIfInBounds_toArray, List.set_cons_zero, List.set_cons_succ]
      refine wpAnyH_ready (rs := [6]) (by kernel_rfl) (by simp) (AllReadyH.cons rfl (fun Kt hK => ?_) AllReadyH.nil)
      refine wanted_pos rfl ?_
      refine wp_call (R := fun r w' => r = .agg (ab rr 32).toArray ∧ Vs w w' [(b0, f)]) (vs := #[.slice (some ⟨bz, oz, none⟩) n c]) rfl (by simp only [List.map_toArray, List.map_cons, List.map_nil]; rfl) (by go_simp) (Calls.mono (HRo.out _ HVd.out.k) (fun e w' ⟨he, hb⟩ => ⟨_, he, rfl, HVd.out.keep hb⟩)) (fun r W1 hr => ?_)
      obtain ⟨hr, hv⟩ := hr
      subst hr
      have HVdd := hide hv
      refine hK.out _ _ (HVdd.out.sv (by simp)) (fun hS1 => ?_)
      clear hK Kt hv
      simp only [Act.put, List.getElem_toArray, List.getElem_cons_zero, List.getElem_cons_succ, List.setIfInBounds_toArray, List.set_cons_zero, List.set_cons_succ]
      refine wpAnyH_ready (rs := [7]) (by kernel_rfl) (by simp) (AllReadyH.cons rfl (fun Kt hK => ?_) AllReadyH.nil)
      refine wanted_pos rfl ?_
      refine wp_call (R := fun r w' => r = .bool true ∧ Vs w w' [(b0, f)]) (vs := #[.int .i64 (m : Int), .int .i64 (n : Int), .agg (ab f 32).toArray, .slice y l d, .agg (ab rr 32).toArray]) rfl (by simp only [List.map_toArray, List.map_cons, List.map_nil]; rfl) (by go_simp) (Calls.mono (HCk.out _ HVdd.out.k) (fun e w' ⟨he, hb⟩ => ⟨_, he, rfl, HVdd.out.keep hb⟩)) (fun r W2 hr => ?_)
      obtain ⟨hr, hv⟩ := hr
      subst hr
      have HVddd := hide hv
      refine hK.out _ _ (HVddd.out.sv (by simp)) (fun hS2 => ?_)
      clear hK Kt hv
      simp only [Act.put, List.getElem_toArray, List.getElem_cons_zero, List.getElem_cons_succ, List.setIfInBounds_toArray, List.set_cons_zero, List.set_cons_succ]
      refine wpAnyH_take (i := 8) (v := .bool false) rfl (by kernel_rfl) (by kernel_rfl) (by kernel_rfl) (fun _ _ _ h => h) (Or.inl ⟨by rfl, fun w' _ => by go_simp⟩) hS2 ?_
      simp only [Act.put, List.getElem_toArray, List.getElem_cons_zero, List.getElem_cons_succ, List.setIfInBounds_toArray, List.set_cons_zero, List.set_cons_succ]
      refine wpAnyH_take (i := 9) (v := .bool false) rfl (by kernel_rfl) (by kernel_rfl) (by kernel_rfl) (fun _ _ _ h => h) (Or.inl ⟨by rfl, fun w' _ => by go_simp⟩) hS2 ?_
      simp only [Act.put, List.getElem_toArray, List.getElem_cons_zero, List.getElem_cons_succ, List.setIfInBounds_toArray, List.set_cons_zero, List.set_cons_succ]
      refine wpAnyH_take (i := 10) (v := .agg (ab f 32).toArray) rfl (by kernel_rfl) (by kernel_rfl) (by kernel_rfl) (fun _ _ _ h => h) (yieldsIf_load_mid (by rfl) 24 _ rfl b0 0 (by rfl) (ab f 32) _ (fun w' hS => hS.rg 0 rfl) Tryd.underlying24 rfl (ilH _)) hS2 ?_
      simp only [Act.put, List.getElem_toArray, List.getElem_cons_zero, List.getElem_cons_succ, List.setIfInBounds_toArray, List.set_cons_zero, List.set_cons_succ]
      refine wpAnyH_take (i := 11) (v := .slice (some ⟨bz, oz, none⟩) n c) rfl (by kernel_rfl) (by kernel_rfl) (by kernel_rfl) (fun _ _ _ h => h) (Or.inl ⟨by rfl, fun w' _ => by go_simp⟩) hS2 ?_
      simp only [Act.put, List.getElem_toArray, List.getElem_cons_zero, List.getElem_cons_succ, List.setIfInBounds_toArray, List.set_cons_zero, List.set_cons_succ]
      refine wpAnyH_take (i := 12) (v := .int .i64 (m : Int)) rfl (by kernel_rfl) (by kernel_rfl) (by kernel_rfl) (fun _ _ _ h => h) (Or.inl ⟨by rfl, fun w' _ => by go_simp⟩) hS2 ?_
      simp only [Act.put, List.getElem_toArray, List.getElem_cons_zero, List.getElem_cons_succ, List.setIfInBounds_toArray, List.set_cons_zero, List.set_cons_succ]
      refine wpAnyH_take (i := 13) (v := .pointer (some ⟨bz, oz + m * 32, none⟩)) rfl (by kernel_rfl) (by kernel_rfl) (by kernel_rfl) (fun _ _ _ h => h) (Or.inl ⟨by rfl, fun w' _ => by go_simp⟩) hS2 ?_
      simp only [Act.put, List.getElem_toArray, List.getElem_cons_zero, List.getElem_cons_succ, List.setIfInBounds_toArray, List.set_cons_zero, List.set_cons_succ]
      refine wpAnyH_take (i := 14) (v := .agg (ab t 32).toArray) rfl (by kernel_rfl) (by kernel_rfl) (by kernel_rfl) (fun _ _ _ h => h) (yieldsIf_load_mid (by rfl) 24 _ rfl bz (oz + m * 32) (by rfl) (ab t 32) _ (fun w' hS => range_keep HRt.out hS.1) Tryd.underlying24 rfl (ilH _)) hS2 ?_
      simp only [Act.put, List.getElem_toArray, List.getElem_cons_zero, List.getElem_cons_succ, List.setIfInBounds_toArray, List.set_cons_zero, List.set_cons_succ]
      refine wpAnyH_take (i := 15) (v := .bool true) rfl (by kernel_rfl) (by kernel_rfl) (by kernel_rfl) (fun _ _ _ h => h) (yieldsIf_eqH (by rfl) (ab f 32).toArray (ab t 32).toArray true rfl (by rfl) (by rfl) (HEq.out)) hS2 ?_
      simp only [Act.put, List.getElem_toArray, List.getElem_cons_zero, List.getElem_cons_succ, List.setIfInBounds_toArray, List.set_cons_zero, List.set_cons_succ]
      refine wpAnyH_take (i := 16) (v := .bool true) rfl (by kernel_rfl) (by kernel_rfl) (by kernel_rfl) (fun _ _ _ h => h) (Or.inl ⟨by rfl, fun w' _ => by go_simp⟩) hS2 ?_
      simp only [Act.put, List.getElem_toArray, List.getElem_cons_zero, List.getElem_cons_succ, List.setIfInBounds_toArray, List.set_cons_zero, List.set_cons_succ]
      refine wpAnyH_done (by kernel_rfl) ?_ _
      refine NoPanic.normal ?_
      have HVe : Hid (Vs w W2 [(b0, f)]) := HVddd
      clear HVd
      go_wp2_with fail
      exact bodyPost_ret (results_tmp3 Tryd.results8 _ _ _) rfl ⟨none, 0, 0, none, 0, 0, fun _ => 0, fun _ => 0, rfl, ⟨fun _ => by omega, Or.inl rfl⟩, ⟨fun _ => by omega, Or.inl rfl⟩, Txs.none rfl rfl, HVe.out.k⟩
    | false =>
      have HAl := hide (fun W (h : Below w.heap.size w W) => along_any (w := W) (hT.keep h) (hx.keep h) hc hcm hn (hy.keep h) hd hdm hl hf hD)
      clear hro hck hq hrr hD hT hx hy hf hn hl hc hcm hd hdm ht he hmn hmn'
      show Calls _ _ _ _ (ClP w true)
      go_enter Tryd.func8, Tryd.ntmps8
      go_upto_region 1 with fail
      refine wp_world (fun X hX => ?_)
      have hv : Vs w X [(w.heap.size, f)] := by rw [hX]; exact (Vs.nil w).made f
      clear hX
      obtain ⟨b0, hb0⟩ : ∃ b0, w.heap.size = b0 := ⟨_, rfl⟩
      rw [hb0] at hv ⊢
      have HV := hide hv
      clear hv
      have HVd := hide HV.out.drew
      refine wp_region_noPanic ?_
      refine wp_region_held_drew (S := Sv w [(b0, f)]) (by kernel_rfl) (HVd.out.sv (by simp)) (fun hS0 => ?_)
      refine wpAnyH_take (i := 0) (v := .int .i64 (m : Int)) rfl (by kernel_rfl) (by kernel_rfl) (by kernel_rfl) (fun _ _ _ h => h) (Or.inl ⟨by rfl, fun w' _ => by go_simp⟩) hS0 ?_
      simp only [Act.put, List.getElem_toArray, List.getElem_cons_zero, List.setIfInBounds_toArray, List.set_cons_zero, List.set_cons_succ]
      refine wpAnyH_take (i := 1) (v := .slice (some ⟨bz, oz, none⟩) n c) rfl (by kernel_rfl) (by kernel_rfl) (by kernel_rfl) (fun _ _ _ h => h) (Or.inl ⟨by rfl, fun w' _ => by go_simp⟩) hS0 ?_
      simp only [Act.put, List.getElem_toArray, List.getElem_cons_zero, List.getElem_cons_succ, List.setIfInBounds_toArray, List.set_cons_zero, List.set_cons_succ]
      refine wpAnyH_take (i := 2) (v := .int .i64 (n : Int)) rfl (by kernel_rfl) (by kernel_rfl) (by kernel_rfl) (fun _ _ _ h => h) (Or.inl ⟨by rfl, fun w' _ => by go_simp⟩) hS0 ?_
      simp only [Act.put, List.getElem_toArray, List.getElem_cons_zero, List.getElem_cons_succ, List.setIfInBounds_toArray, List.set_cons_zero, List.set_cons_succ]
      refine wpAnyH_take (i := 3) (v := .agg (ab f 32).toArray) rfl (by kernel_rfl) (by kernel_rfl) (by kernel_rfl) (fun _ _ _ h => h) (yieldsIf_load_mid (by rfl) 24 _ rfl b0 0 (by rfl) (ab f 32) _ (fun w' hS => hS.rg 0 rfl) Tryd.underlying24 rfl (ilH _)) hS0 ?_
      simp only [Act.put, List.getElem_toArray, List.getElem_cons_zero, List.getElem_cons_succ, List.setIfInBounds_toArray, List.set_cons_zero, List.set_cons_succ]
      refine wpAnyH_take (i := 4) (v := .slice y l d) rfl (by kernel_rfl) (by kernel_rfl) (by kernel_rfl) (fun _ _ _ h => h) (Or.inl ⟨by rfl, fun w' _ => by go_simp⟩) hS0 ?_
      simp only [Act.put, List.getElem_toArray, List.getElem_cons_zero, List.getElem_cons_succ, List.setIfInBounds_toArray, List.set_cons_zero, List.set_cons_succ]
      refine wpAnyH_take (i := 5) (v := .slice (some ⟨bz, oz, none⟩) n c) rfl (by kernel_rfl) (by kernel_rfl) (by kernel_rfl) (fun _ _ _ h => h) (Or.inl ⟨by rfl, fun w' _ => by go_simp⟩) hS0 ?_
      simp only [Act.put, List.getElem_toArray, List.getElem_cons_zero, List.getElem_cons_succ, List.setIfInBounds_toArray, List.set_cons_zero, List.set_cons_succ]
      refine wpAnyH_ready (rs := [6]) (by kernel_rfl) (by simp) (AllReadyH.cons rfl (fun Kt hK => ?_) AllReadyH.nil)
      refine wanted_pos rfl ?_
      refine wp_call (R := fun r w' => r = .agg (ab rr 32).toArray ∧ Vs w w' [(b0, f)]) (vs := #[.slice (some ⟨bz, oz, none⟩) n c]) rfl (by simp only [List.map_toArray, List.map_cons, List.map_nil]; rfl) (by go_simp) (Calls.mono (HRo.out _ HVd.out.k) (fun e w' ⟨he, hb⟩ => ⟨_, he, rfl, HVd.out.keep hb⟩)) (fun r W1 hr => ?_)
      obtain ⟨hr, hv⟩ := hr
      subst hr
      have HVdd := hide hv
      refine hK.out _ _ (HVdd.out.sv (by simp)) (fun hS1 => ?_)
      clear hK Kt hv
      simp only [Act.put, List.getElem_toArray, List.getElem_cons_zero, List.getElem_cons_succ, List.setIfInBounds_toArray, List.set_cons_zero, List.set_cons_succ]
      refine wpAnyH_ready (rs := [7]) (by kernel_rfl) (by simp) (AllReadyH.cons rfl (fun Kt hK => ?_) AllReadyH.nil)
      refine wanted_pos rfl ?_
      refine wp_call (R := fun r w' => r = .bool true ∧ Vs w w' [(b0, f)]) (vs := #[.int .i64 (m : Int), .int .i64 (n : Int), .agg (ab f 32).toArray, .slice y l d, .agg (ab rr 32).toArray]) rfl (by simp only [List.map_toArray, List.map_cons, List.map_nil]; rfl) (by go_simp) (Calls.mono (HCk.out _ HVdd.out.k) (fun e w' ⟨he, hb⟩ => ⟨_, he, rfl, HVdd.out.keep hb⟩)) (fun r W2 hr => ?_)
      obtain ⟨hr, hv⟩ := hr
      subst hr
      have HVddd := hide hv
      refine hK.out _ _ (HVddd.out.sv (by simp)) (fun hS2 => ?_)
      clear hK Kt hv
      simp only [Act.put, List.getElem_toArray, List.getElem_cons_zero, List.getElem_cons_succ, List.setIfInBounds_toArray, List.set_cons_zero, List.set_cons_succ]
      refine wpAnyH_take (i := 8) (v := .bool false) rfl (by kernel_rfl) (by kernel_rfl) (by kernel_rfl) (fun _ _ _ h => h) (Or.inl ⟨by rfl, fun w' _ => by go_simp⟩) hS2 ?_
      simp only [Act.put, List.getElem_toArray, List.getElem_cons_zero, List.getElem_cons_succ, List.setIfInBounds_toArray, List.set_cons_zero, List.set_cons_succ]
      refine wpAnyH_take (i := 9) (v := .bool false) rfl (by kernel_rfl) (by kernel_rfl) (by kernel_rfl) (fun _ _ _ h => h) (Or.inl ⟨by rfl, fun w' _ => by go_simp⟩) hS2 ?_
      simp only [Act.put, List.getElem_toArray, List.getElem_cons_zero, List.getElem_cons_succ, List.setIfInBounds_toArray, List.set_cons_zero, List.set_cons_succ]
      refine wpAnyH_take (i := 10) (v := .agg (ab f 32).toArray) rfl (by kernel_rfl) (by kernel_rfl) (by kernel_rfl) (fun _ _ _ h => h) (yieldsIf_load_mid (by rfl) 24 _ rfl b0 0 (by rfl) (ab f 32) _ (fun w' hS => hS.rg 0 rfl) Tryd.underlying24 rfl (ilH _)) hS2 ?_
      simp only [Act.put, List.getElem_toArray, List.getElem_cons_zero, List.getElem_cons_succ, List.setIfInBounds_toArray, List.set_cons_zero, List.set_cons_succ]
      refine wpAnyH_take (i := 11) (v := .slice (some ⟨bz, oz, none⟩) n c) rfl (by kernel_rfl) (by kernel_rfl) (by kernel_rfl) (fun _ _ _ h => h) (Or.inl ⟨by rfl, fun w' _ => by go_simp⟩) hS2 ?_
      simp only [Act.put, List.getElem_toArray, List.getElem_cons_zero, List.getElem_cons_succ, List.setIfInBounds_toArray, List.set_cons_zero, List.set_cons_succ]
      refine wpAnyH_take (i := 12) (v := .int .i64 (m : Int)) rfl (by kernel_rfl) (by kernel_rfl) (by kernel_rfl) (fun _ _ _ h => h) (Or.inl ⟨by rfl, fun w' _ => by go_simp⟩) hS2 ?_
      simp only [Act.put, List.getElem_toArray, List.getElem_cons_zero, List.getElem_cons_succ, List.setIfInBounds_toArray, List.set_cons_zero, List.set_cons_succ]
      refine wpAnyH_take (i := 13) (v := .pointer (some ⟨bz, oz + m * 32, none⟩)) rfl (by kernel_rfl) (by kernel_rfl) (by kernel_rfl) (fun _ _ _ h => h) (Or.inl ⟨by rfl, fun w' _ => by go_simp⟩) hS2 ?_
      simp only [Act.put, List.getElem_toArray, List.getElem_cons_zero, List.getElem_cons_succ, List.setIfInBounds_toArray, List.set_cons_zero, List.set_cons_succ]
      refine wpAnyH_take (i := 14) (v := .agg (ab t 32).toArray) rfl (by kernel_rfl) (by kernel_rfl) (by kernel_rfl) (fun _ _ _ h => h) (yieldsIf_load_mid (by rfl) 24 _ rfl bz (oz + m * 32) (by rfl) (ab t 32) _ (fun w' hS => range_keep HRt.out hS.1) Tryd.underlying24 rfl (ilH _)) hS2 ?_
      simp only [Act.put, List.getElem_toArray, List.getElem_cons_zero, List.getElem_cons_succ, List.setIfInBounds_toArray, List.set_cons_zero, List.set_cons_succ]
      refine wpAnyH_take (i := 15) (v := .bool false) rfl (by kernel_rfl) (by kernel_rfl) (by kernel_rfl) (fun _ _ _ h => h) (yieldsIf_eqH (by rfl) (ab f 32).toArray (ab t 32).toArray false rfl (by rfl) (by rfl) (HEq.out)) hS2 ?_
      simp only [Act.put, List.getElem_toArray, List.getElem_cons_zero, List.getElem_cons_succ, List.setIfInBounds_toArray, List.set_cons_zero, List.set_cons_succ]
      refine wpAnyH_take (i := 16) (v := .bool false) rfl (by kernel_rfl) (by kernel_rfl) (by kernel_rfl) (fun _ _ _ h => h) (Or.inl ⟨by rfl, fun w' _ => by go_simp⟩) hS2 ?_
      simp only [Act.put, List.getElem_toArray, List.getElem_cons_zero, List.getElem_cons_succ, List.setIfInBounds_toArray, List.set_cons_zero, List.set_cons_succ]
      refine wpAnyH_done (by kernel_rfl) ?_ _
      refine NoPanic.normal ?_
      have HVe : Hid (Vs w W2 [(b0, f)]) := HVddd
      clear HVd
      go_wp2_with (first
        | (refine wpList_load_h (g := b0) rfl _ rfl rfl (HVe.out.rg 0 rfl) ?_)
        | (go_at_call 21; (with_reducible refine Calls.mono (HAl.out _ HVe.out.k) ?_); rintro e X9 ⟨x1, n1, c1, x2, n2, c2, A, B, rfl, hA, hB, hX, hb⟩; have HA := hide (And.intro hA (And.intro hB (And.intro hX hb))); clear hA hB hX hb))
      exact bodyPost_ret (results_tmp3 Tryd.results8 _ _ _) rfl ⟨x1, n1, c1, x2, n2, c2, A, B, rfl, HA.out.1, HA.out.2.1, HA.out.2.2.1, Go.Proofs.YtpokecijongkpaaDoor.K.call (HVe.out.k) HA.out.2.2.2⟩
end Go.Proofs.YtpokecijongkpaaDoor
