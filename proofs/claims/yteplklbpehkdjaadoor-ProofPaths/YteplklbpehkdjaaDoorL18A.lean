/- Layer 18's laws: awake. -/
import Derived.Test.YteplklbpehkdjaaDoorP18B
import Derived.Test.YteplklbpehkdjaaDoorH18
namespace Go.Proofs.YteplklbpehkdjaaDoor
set_option maxRecDepth 100000
open Go.RowKit
attribute [local go_sem ↓] Go.wp_at_zero Go.wp_at_succ

set_option maxRecDepth 100000 in
set_option maxHeartbeats 8000000 in
theorem awake_any {w : World} (hT : Tab w) : Calls Tryd.prog 8 #[] w fun e w' => e = .returned (.bool true) ∧ Below w.heap.size w w' := by
  have HT := hide hT
  clear hT
  have HX := hide (fun W => eqH_same (hk 2) W)
  have HP := hide (fun (W : World) p (hw : Below w.heap.size w W) (hh : HL W (some ⟨p, 0, none⟩) 2 (lF [hk 1, hk 2])) => path_any (c := 2) (m := 0) (HT.out.keep hw) hh (Nat.le_refl _) (by unfold maxLen; omega) (by omega) (by omega))
  rw [pth_two, show ((0 : Nat) : Int) = 0 from rfl] at HP
  go_enter Tryd.func8, Tryd.ntmps8
  go_upto_region 2 with (first
    | (refine wpList_hk1 (by rfl) rfl ?_; simp only [Act.put, List.setIfInBounds_toArray, List.set_cons_zero, List.set_cons_succ])
    | (refine wpList_hk2 (by rfl) rfl ?_; simp only [Act.put, List.setIfInBounds_toArray, List.set_cons_zero, List.set_cons_succ])
    | (refine wpList_twoH (f := hk 1) (g := hk 2) rfl rfl (by rfl) (by rfl) (hk_lt (by omega)) (hk_lt (by omega)) ?_; intro p W1 hpe hh hb; have HH := hide hh; have HB := hide hb; clear hpe hh hb)
    | (go_at_call 9; refine Calls.mono (HP.out _ _ HB.out HH.out) ?_; rintro e W2 hp; obtain ⟨a2, c2, rfl, h2, _, hb2⟩ := hp.out (fun f hf j => by rw [List.mem_singleton] at hf; subst hf; exact two_lt (hk_lt (by omega)) (hk_lt (by omega)) 1 j); have HH2 := hide h2; have HB2 := hide (Go.Proofs.YteplklbpehkdjaaDoor.K.call HB.out hb2); clear h2 hb2 hp))
  obtain ⟨g, o, rfl⟩ := HH2.out.ad (by show 0 < 1; omega)
  have HR := hide (HH2.out.first (by show 0 < 1; omega))
  rw [show lF [lF [hk 1, hk 2] 1] 0 = hk 2 from rfl] at HR
  go_wp2_with (first
    | (refine wpList_hk2 (by rfl) rfl ?_; simp only [Act.put, List.setIfInBounds_toArray, List.set_cons_zero, List.set_cons_succ])
    | (refine wpList_load_g (by rfl) _ rfl rfl HR.out ?_; simp only [Act.put, List.setIfInBounds_toArray, List.set_cons_zero, List.set_cons_succ])
    | (refine wpList_eqH (by rfl) _ _ _ rfl _ _ true rfl rfl (HX.out _) ?_; simp only [Act.put, List.setIfInBounds_toArray, List.set_cons_zero, List.set_cons_succ]))
  go_ret
  exact ⟨rfl, HB2.out⟩
end Go.Proofs.YteplklbpehkdjaaDoor
