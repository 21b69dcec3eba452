/- What the document's own Digits answers. -/
import Derived.Test.YtloboidolhpogaaDoorTTx
namespace Go.Proofs.YtloboidolhpogaaDoor
open Go.RowKit
attribute [local go_sem ↓] Go.wp_at_zero Go.wp_at_succ

set_option maxHeartbeats 1000000 in
theorem refDigits_any : ∀ (k n : Nat) (w : World), k ≤ 30 → n < 10 ^ (k + 1) → n < 18446744073709551616 →
    Calls Tryd.prog 9 #[.int .u64 n] w fun e w' => e = .returned (.string (tx (digs n))) ∧ w' = w := by
  intro k
  induction k with
  | zero =>
    intro n w hk h hu
    have hl : n < 10 := by simpa using h
    have hc := dg_cut n hl
    have hm : (n : Int) % 10 = (n : Int) := by omega
    have hi : (n : Int) < 10 := by omega
    rw [digs_low hl]
    go_enter Tryd.func9, Tryd.ntmps9
    go_wp2_with fail
    go_ret
    exact ⟨congrArg (fun s => Ending.returned (.string s)) hc, rfl⟩
  | succ k ih =>
    intro n w hk h hu
    by_cases hl : n < 10
    · have hc := dg_cut n hl
      have hm : (n : Int) % 10 = (n : Int) := by omega
      have hi : (n : Int) < 10 := by omega
      rw [digs_low hl]
      go_enter Tryd.func9, Tryd.ntmps9
      go_wp2_with fail
      go_ret
      exact ⟨congrArg (fun s => Ending.returned (.string s)) hc, rfl⟩
    · obtain ⟨q, hq⟩ : ∃ q, q = n / 10 := ⟨_, rfl⟩
      obtain ⟨r, hr⟩ : ∃ r, r = n % 10 := ⟨_, rfl⟩
      have hc := dg_cut r (by omega)
      have hm : (n : Int) % 10 = (r : Int) := by omega
      have hd : (n : Int) / 10 = (q : Int) := by omega
      have hi : (r : Int) < 10 := by omega
      have hlow : ¬ (n : Int) < 10 := by omega
      have hql : q < 10 ^ (k + 1) := by rw [Nat.pow_succ] at h; omega
      have IH : Hid (∀ w, Calls Tryd.prog 9 #[.int .u64 q] w fun e w' => e = .returned (.string (tx (digs q))) ∧ w' = w) := fun w => ih q w (by omega) hql (by omega)
      have hlen := digs_len k q hql
      have hsz : (tx (digs q)).size ≤ 100 := by rw [tx_size]; omega
      have HF : Hid (tx (digs q) ++ (tx tens).extract r (r + 1) = tx (digs q ++ [dg r])) := by show _ = _; rw [hc, tx_append]
      rw [digs_up hl, ← hq, ← hr]
      clear ih h hq hr hql hlen hl
      generalize digs q = dq at *
      go_enter Tryd.func9, Tryd.ntmps9
      go_wp2_with fail
      with_reducible refine Calls.mono (IH.out _) ?_
      rintro e w1 ⟨rfl, rfl⟩
      go_wp2_with fail
      go_ret
      exact ⟨congrArg (fun s => Ending.returned (.string s)) HF.out, rfl⟩
end Go.Proofs.YtloboidolhpogaaDoor
