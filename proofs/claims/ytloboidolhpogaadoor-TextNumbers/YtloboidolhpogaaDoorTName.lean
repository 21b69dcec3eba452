/- What the document's own Name answers. -/
import Derived.Test.YtloboidolhpogaaDoorTNameP
import Derived.Deep.LoopGhost
namespace Go.Proofs.YtloboidolhpogaaDoor
open Go.RowKit
attribute [local go_sem ↓] Go.wp_at_zero Go.wp_at_succ

set_option maxHeartbeats 4000000 in
theorem refName_any (s : ByteArray) (hs : s.size ≤ 9223372036854775807) (w : World) :
    Calls Tryd.prog 11 #[.string s] w fun e w' => e = .returned (.bool (nameB s)) ∧ w' = w := by
  go_enter Tryd.func11, Tryd.ntmps11
  go_wp2_with fail
  go_loopg [3] s.size (fun g i wr => wr = w ∧ ∃ k : Nat, g = s.size - k ∧ k ≤ s.size ∧ i = .int .i64 k ∧ ∀ (j : Nat) (_ : j < k) (h : j < s.size), okc (s[j].toNat) = true)
  case atStart => exact ⟨rfl, 0, rfl, by omega, rfl, fun j hj => by omega⟩
  case round =>
    obtain ⟨rfl, k, rfl, hk, rfl, hall⟩ := hrel
    by_cases hlt : k < s.size
    · have HN : Hid (okc (s[k].toNat) = false → nameB s = false) := fun h => name_no k hlt h
      have HY : Hid (okc (s[k].toNat) = true → ∀ (j : Nat) (_ : j < k + 1) (h : j < s.size), okc (s[j].toNat) = true) := fun h j hj hl => by
        by_cases e : j = k
        · subst e; exact h
        · exact hall j (by omega) hl
      have hlti : (k : Int) < s.size := by omega
      have hcl : (0 : Int) ≤ (s[k].toNat : Int) := by omega
      have hch : (s[k].toNat : Int) ≤ 255 := by have := s[k].toNat_lt; omega
      have hcase : ((s[k].toNat : Int) < 45) ∨ (45 ≤ (s[k].toNat : Int) ∧ (s[k].toNat : Int) ≤ 57) ∨ (58 ≤ (s[k].toNat : Int) ∧ (s[k].toNat : Int) ≤ 64) ∨ (65 ≤ (s[k].toNat : Int) ∧ (s[k].toNat : Int) ≤ 90) ∨ (91 ≤ (s[k].toNat : Int) ∧ (s[k].toNat : Int) ≤ 96) ∨ (97 ≤ (s[k].toNat : Int) ∧ (s[k].toNat : Int) ≤ 122) ∨ (123 ≤ (s[k].toNat : Int)) := by omega
      clear hall
      rcases hcase with hr | ⟨hr, hr2⟩ | ⟨hr, hr2⟩ | ⟨hr, hr2⟩ | ⟨hr, hr2⟩ | ⟨hr, hr2⟩ | hr
      all_goals
        go_wp2_with fail
        all_goals first
          | (exfalso; simp only [Bool.not_eq_false', decide_eq_true_eq] at *; omega)
          | (go_ret; exact ⟨ret_bool (HN.out (by unfold okc; rw [decide_eq_false_iff_not]; omega)).symm, rfl⟩)
          | (go_roundg (s.size - (k + 1))
             case measure => omega
             case rel => exact ⟨rfl, k + 1, rfl, by omega, by go_num, HY.out (by unfold okc; rw [decide_eq_true_eq]; omega)⟩)
    · obtain rfl : k = s.size := by omega
      have he := name_end (fun j h => hall j h h)
      clear hall
      by_cases h0 : 0 < s.size
      · by_cases h40 : s.size ≤ 40
        all_goals
          go_wp2_with fail
          go_ret
          exact ⟨ret_bool (by rw [he, Bool.eq_iff_iff]; simp; omega), rfl⟩
      · go_wp2_with fail
        go_ret
        exact ⟨ret_bool (by rw [he, Bool.eq_iff_iff]; simp; omega), rfl⟩
end Go.Proofs.YtloboidolhpogaaDoor
