/- What the program's own fill answers. -/
import Derived.Test.YtiahjnfopeiliaaDoorP7Base
namespace Go.Proofs.YtiahjnfopeiliaaDoor
open Go.RowKit
attribute [local go_sem ↓] Go.wp_at_zero Go.wp_at_succ

set_option maxRecDepth 100000 in
set_option maxHeartbeats 8000000 in
theorem fill_any {w : World} {x : Option Addr} {n c : Nat} {f : Nat → Nat} (hT : Tab w) (hx : BA w x n f) (hc : n ≤ c) (hm : c ≤ maxLen) (hn : n ≤ 800000) :
    Calls Tryd.prog 15 #[.slice x n c] w fun e w' => e = .returned (.agg (ab (kpad f n) 64).toArray) ∧ Below w.heap.size w w' := by
  have HT := hide hT
  have HX := hide hx
  have HN := hide (And.intro hc (And.intro hm hn))
  have hni : (n : Int) ≤ 800000 := by omega
  clear hT hx hc hm hn
  go_enter Tryd.func15, Tryd.ntmps15
  go_upto_region 2 with fail
  refine wp_world (fun X hX => ?_)
  have hB : Below w.heap.size w X := by rw [hX]; exact K.alloc (K.alloc (Below.refl _ _) _) _
  have hR : RowB X w.heap.size 64 (fun _ => 0) := by rw [hX]; exact Row8.keep (RowB.made w 41 64 (fun _ => 0) _ zerosKB) (K.alloc (Below.refl _ _) _)
  have hF : RowB X (w.heap.size + 1) 64 (fun _ => 0) := by
    rw [hX]
    have h := RowB.made (w.alloc (.cells (ab (fun _ => 0) 64).toArray 41)) 41 64 (fun _ => 0) _ zerosKB
    rw [← zerosKB] at h
    have e : ∀ o, (w.alloc o).heap.size = w.heap.size + 1 := fun o => by simp
    rw [e] at h
    exact h
  clear hX
  have HXX := hide (HX.out.keep hB)
  have HTX := hide (HT.out.keep hB)
  obtain ⟨b0, hb0⟩ : ∃ b0, w.heap.size = b0 := ⟨_, rfl⟩
  rw [hb0] at hB hR hF ⊢
  have HR := hide hR
  have HF := hide hF
  have HB := hide hB
  clear hR hF hB
  go_upto_if 7 with fail
  go_cut [] (fun wc => RowB wc (b0 + 1) 64 (kpad f n) ∧ RowB wc b0 64 (fun _ => 0) ∧ Below b0 w wc)
  case first =>
    by_cases h64 : n ≤ 64
    · have h64i : (n : Int) ≤ 64 := by omega
      have HRow : Hid (RowB (X.setCells (b0 + 1) 0 (ab f n)) (b0 + 1) 64 (kpad f n)) := Row8.congr (RowB.first HF.out h64 f) (fun i _ => by unfold kpad; rw [if_pos h64])
      have HRes : Hid (RowB (X.setCells (b0 + 1) 0 (ab f n)) b0 64 (fun _ => 0)) := Row8.apart HR.out (by omega) _ _
      have HBel : Hid (Below b0 w (X.setCells (b0 + 1) 0 (ab f n))) := by subst hb0; exact below_setCells _ _ HB.out (by omega)
      have HTh := hide (RowB.thereN HF.out h64)
      have HMin : Hid (n = Nat.min n 64) := (Nat.min_eq_left h64).symm
      clear h64 HR HF HB
      go_wp2_with (refine wpList_copy rfl _ _ rfl rfl rfl HXX.out n HMin.out HTh.out ?_; generalize X.setCells (b0 + 1) 0 (ab f n) = Y at HRow HRes HBel ⊢)
      go_meet
      case rel => exact ⟨HRow.out, HRes.out, HBel.out⟩
    · have h64i : (64 : Int) < n := by omega
      have HE := hide (sum_one HTX.out HXX.out HN.out.1 HN.out.2.1 HN.out.2.2 22 rfl)
      go_wp2_with fail
      with_reducible refine Calls.mono HE.out ?_
      rintro e w2 ⟨rfl, hb⟩
      unfold hA
      obtain ⟨h, hh⟩ : ∃ h, h = hByte (hashS f n) := ⟨_, rfl⟩
      have HK : Hid (∀ i, kpad f n i = if i < 32 then h i else 0) := fun i => by unfold kpad; rw [if_neg h64, hh]
      have HL : Hid (∀ i, h i < 256) := fun i => by rw [hh]; exact hByte_lt _ i
      rw [← hh]
      have HR2 := hide (Row8.keep HR.out hb)
      have HF2 := hide (Row8.keep HF.out hb)
      have HB2 : Hid (Below b0 w w2) := by subst hb0; exact K.call HB.out hb
      have HSZ : Hid (32 = (ab h 32).toArray.size) := by show _ = _; rw [List.size_toArray, ab_len]
      clear hb hh HR HF HB h64 HE HXX HTX
      have hal := K.alloc (Below.refl _ w2) (.cells (ab h 32).toArray 25)
      have HS := hide (RowB.made w2 25 32 h _ rfl)
      have HR3 := hide (Row8.keep HR2.out hal)
      have HF3 := hide (Row8.keep HF2.out hal)
      have HB3 : Hid (Below b0 w (w2.alloc (.cells (ab h 32).toArray 25))) := by subst hb0; exact K.call HB2.out hal
      clear hal HR2 HF2 HB2
      go_upto_region 4 with (refine wpList_store_new rfl 25 _ _ rfl _ (ab h 32).toArray rfl rfl (inH _) HSZ.out (all_oneCell_toArray (ab_one _ _)) ?_; generalize w2.alloc (.cells (ab h 32).toArray 25) = Y at HS HR3 HF3 HB3 ⊢)
      have hd := K.drew (Below.refl _ Y)
      have HSd := hide (RowB.ba (Row8.keep HS.out hd) HL.out)
      have HFd := hide (Row8.keep HF3.out hd)
      have HRd := hide (Row8.keep HR3.out hd)
      have HBd : Hid (Below b0 w Y.drew) := by subst hb0; exact K.call HB3.out hd
      clear hd HS HF3 HR3 HB3
      refine wp_region_noPanic ?_
      refine wp_region_held_drew (S := fun _ => True) (by kernel_rfl) trivial (fun _ => ?_)
      refine wpAnyH_take (i := 0) (v := .slice (some ⟨b0 + 1, 0, none⟩) 64 64) rfl (by kernel_rfl) (by kernel_rfl) (by kernel_rfl) (fun _ _ _ h => h) (Or.inl ⟨by rfl, fun w' _ => by go_simp⟩) trivial ?_
      simp only [Act.put, List.getElem_toArray, List.getElem_cons_zero, List.setIfInBounds_toArray, List.set_cons_zero, List.set_cons_succ]
      refine wpAnyH_take (i := 1) (v := .slice (some ⟨w2.heap.size, 0, none⟩) 32 32) rfl (by kernel_rfl) (by kernel_rfl) (by kernel_rfl) (fun _ _ _ h => h) (Or.inl ⟨by rfl, fun w' _ => by go_simp⟩) trivial ?_
      simp only [Act.put, List.getElem_toArray, List.getElem_cons_zero, List.getElem_cons_succ, List.setIfInBounds_toArray, List.set_cons_zero, List.set_cons_succ]
      refine wpAnyH_ready (rs := [2]) (by kernel_rfl) (by simp) (AllReadyH.cons rfl (fun Kt hK => ?_) AllReadyH.nil)
      refine wanted_pos rfl ?_
      refine wp_copy _ _ rfl rfl rfl HSd.out 32 rfl (RowB.thereN HFd.out (by omega)) (hK.out _ _ trivial (fun _ => ?_))
      clear hK Kt
      have HRow : Hid (RowB (Y.drew.setCells (b0 + 1) 0 (ab h 32)) (b0 + 1) 64 (kpad f n)) := Row8.congr (RowB.first HFd.out (by omega) h) (fun i _ => by rw [HK.out i])
      have HRes : Hid (RowB (Y.drew.setCells (b0 + 1) 0 (ab h 32)) b0 64 (fun _ => 0)) := Row8.apart HRd.out (by omega) _ _
      have HBel : Hid (Below b0 w (Y.drew.setCells (b0 + 1) 0 (ab h 32))) := by subst hb0; exact below_setCells _ _ HBd.out (by omega)
      clear HFd HRd HBd HSd
      generalize Y.drew.setCells (b0 + 1) 0 (ab h 32) = Z at HRow HRes HBel ⊢
      refine wpAnyH_done (by kernel_rfl) ?_ _
      refine NoPanic.normal ?_
      simp only [Act.put, List.getElem_toArray, List.getElem_cons_zero, List.getElem_cons_succ, List.setIfInBounds_toArray, List.set_cons_zero, List.set_cons_succ]
      go_wp2_with fail
      go_meet
      case rel => exact ⟨HRow.out, HRes.out, HBel.out⟩
  case rest =>
    obtain ⟨hF, hR, hB⟩ := hcut
    have HRG := hide (RowB.range hF)
    have HTH := hide (RowB.there hR (kpad f n))
    have HST := hide (RowB.stored hR (kpad f n))
    have HB : Hid (Below b0 w (wc.setCells b0 0 (ab (kpad f n) 64).toArray.toList)) := by subst hb0; exact below_setCells _ _ hB (Nat.le_refl _)
    clear hF hR hB HR HF
    generalize hg : kpad f n = g at HRG HTH HST HB ⊢
    have HG := hide hg
    clear hg
    go_wp2_with (first
      | (refine wpList_load_mid rfl 41 _ rfl _ 0 rfl (ab g 64) _ HRG.out Tryd.underlying41 rfl (ilKB _) ?_; simp only [Act.put, List.setIfInBounds_toArray, List.set_cons_zero, List.set_cons_succ])
      | (refine wpList_store_mid rfl 41 _ _ rfl b0 0 (ab g 64).toArray rfl rfl HTH.out (inKB _) (all_oneCell_toArray (ab_one _ _)) ?_; generalize wc.setCells b0 0 (ab g 64).toArray.toList = Z at HST HB ⊢))
    exact bodyPost_ret (results_cell_mid Tryd.results15 _ _ b0 (ab g 64) _ rfl (RowB.range HST.out) Tryd.underlying41 rfl (ilKB _)) rfl ⟨by rw [HG.out], by rw [hb0]; exact HB.out⟩
end Go.Proofs.YtiahjnfopeiliaaDoor
