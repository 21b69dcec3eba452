/- Layer 16's laws: awake. -/
import Derived.Test.YtpophfeommlajaaDoorR16B
import Derived.Test.YtpophfeommlajaaDoorS16Z
namespace Go.Proofs.YtpophfeommlajaaDoor
open Go.RowKit
attribute [local go_sem ↓] Go.wp_at_zero Go.wp_at_succ

theorem leaf_nil_ne (f : Nat → Nat) : eqB (lf f 0) (fun _ => 0) 32 = false := by
  refine decide_eq_false (fun h => ?_)
  have h0 := h 0 (by omega)
  unfold lf at h0
  rw [hashS_congr (f := cat (fun _ => 0) 1 f) (g := nil8) (fun i hi => by
    obtain rfl : i = 0 := by omega
    rfl), zb_hash] at h0
  exact absurd h0 (by decide)
theorem sp_five : sp 5 = 4 := by decide
set_option maxRecDepth 100000 in
set_option maxHeartbeats 4000000 in
theorem awake_any {w : World} (hT : Tab w) : Calls Tryd.prog 8 #[] w fun e w' => e = .returned (.bool true) ∧ Below w.heap.size w w' := by
  have HS := hide (split_any w (k := 5) (by omega) (by omega))
  rw [show (5 : Int).toNat = 5 from rfl, sp_five] at HS
  have HL := hide (leaf_any (w := w) (x := none) (n := 0) (c := 0) (f := fun _ => 0) hT ⟨fun _ => by omega, Or.inl rfl⟩ (Nat.le_refl _) (by unfold maxLen; omega) (by omega))
  have HE := hide (fun W => eqH (lf (fun _ => 0) 0) (fun _ => 0) W)
  rw [leaf_nil_ne] at HE
  unfold hv at HL
  generalize lf (fun _ => 0) 0 = s2 at HL HE
  clear hT
  go_enter Tryd.func8, Tryd.ntmps8
  go_wp2_with fail
  with_reducible refine Calls.mono HS.out ?_
  rintro e w1 ⟨rfl, hw⟩
  replace hw := hw.symm
  subst hw
  go_wp2_with fail
  with_reducible refine Calls.mono HL.out ?_
  rintro e w2 ⟨rfl, hb⟩
  have HB := hide hb
  clear hb
  go_wp2_with (refine wpList_neH (by rfl) _ _ _ rfl _ _ false rfl rfl (HE.out _) ?_; simp only [Act.put, List.setIfInBounds_toArray, List.set_cons_zero, List.set_cons_succ])
  go_ret
  exact ⟨rfl, HB.out⟩
end Go.Proofs.YtpophfeommlajaaDoor
