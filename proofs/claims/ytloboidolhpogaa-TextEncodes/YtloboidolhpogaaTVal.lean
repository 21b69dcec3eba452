/- What the document's own value answers. -/
import Derived.Test.YtloboidolhpogaaTEnc
import Derived.Deep.RegionWith
import Derived.Deep.DeepCutAuto
namespace Go.Proofs.Ytloboidolhpogaa
open Go.RowKit
attribute [local go_sem ↓] Go.wp_at_zero Go.wp_at_succ

/-- The region ends in one way. -/
def Only (A : Act) (W : World) : Exit → Act → World → Prop
  | .normal, a, w => a = A ∧ w = W
  | _, _, _ => False
theorem Only.intro (A : Act) (W : World) : Only A W .normal A W := ⟨rfl, rfl⟩
theorem Only.out {A : Act} {W : World} {Q : Exit → Act → World → Prop} (h : Q .normal A W) : ∀ e a w, Only A W e a w → Q e a w := by
  intro e a w hq
  cases e <;> first | exact (hq : False).elim | (obtain ⟨rfl, rfl⟩ := hq; exact h)

theorem load_one (wr : World) (c : UInt8) : (loadCells ⟨wr.heap.size, 0, none⟩ 1).run Try.prog (wr.alloc (.cells #[.int .u8 (c.toNat : Int)] 5)).drew = .ok #[.int .u8 (c.toNat : Int)] (wr.alloc (.cells #[.int .u8 (c.toNat : Int)] 5)).drew := by
  simp [loadCells, go_sem]
theorem text_one (wr : World) (c : UInt8) : (convert 22 9 (.slice (some ⟨wr.heap.size, 0, none⟩) 1 1)).run Try.prog (wr.alloc (.cells #[.int .u8 (c.toNat : Int)] 5)).drew = .ok (.string (tx [c])) (wr.alloc (.cells #[.int .u8 (c.toNat : Int)] 5)).drew := by
  rw [run_convert_bytes_string _ _ _ 5 _ _ _ Try.underlying22 Try.underlying5 Try.underlying9,
    run_bytesToString _ _ 1 1 [(c.toNat : Int)] (load_one wr c)]
  simp [tx, ByteArray.push, ByteArray.empty, ByteArray.emptyWithCapacity]
  rfl

set_option maxHeartbeats 4000000 in
theorem refValue_any (c : UInt8) (w : World) :
    Calls Try.prog 16 #[.int .u8 c.toNat] w fun e w' => ∃ v : Int, e = .returned (.int .i64 v) ∧ ((∃ n : Nat, n < 64 ∧ v = n ∧ sgn n = c) ∨ (v = -1 ∧ ∀ n, n < 64 → sgn n ≠ c)) ∧ Below w.heap.size w w' := by
  have hc0 : (0 : Int) ≤ (c.toNat : Int) := by omega
  have hc1 : (c.toNat : Int) ≤ 255 := by have := c.toNat_lt; omega
  go_enter Try.func16, Try.ntmps16
  go_wp2_with fail
  go_loopg [3] 64 (fun g i wr => ∃ k : Nat, g = 64 - k ∧ k ≤ 64 ∧ i = .int .i64 k ∧ (∀ n, n < k → sgn n ≠ c) ∧ Below w.heap.size w wr)
  case atStart => exact ⟨0, rfl, by omega, rfl, fun n h => by omega, Below.refl _ _⟩
  case round =>
    obtain ⟨k, rfl, hk, rfl, hno, hB⟩ := hrel
    have HN : Hid (∀ n, n < k → sgn n ≠ c) := hno
    have HB : Hid (Below w.heap.size w wr) := hB
    clear hno hB
    by_cases hlt : k < 64
    · have hki : (k : Int) < 64 := by omega
      have hcv := text_one wr c
      have hbe : ((tx [sgn k]).toList == (tx [c]).toList) = decide (sgn k = c) := by rw [tx_list, tx_list, Bool.eq_iff_iff]; simp
      go_upto_region 4 with fail
      apply wp_mono (Q := Only _ _)
      · go_region_with (go_at_call 18; with_reducible refine Calls.mono (sign_any k hlt _) ?_; rintro e w' ⟨rfl, rfl⟩)
        all_goals exact Only.intro _ _
      refine Only.out ?_
      clear hcv hbe
      by_cases he : sgn k = c
      · have hd : decide (sgn k = c) = true := decide_eq_true he
        rw [hd]
        have HE : Hid (sgn k = c) := he
        clear he hd
        go_wp2_with fail
        go_ret
        exact ⟨_, rfl, Or.inl ⟨k, hlt, rfl, HE.out⟩, K.drew (K.alloc HB.out _)⟩
      · have hd : decide (sgn k = c) = false := decide_eq_false he
        rw [hd]
        have HE : Hid (sgn k ≠ c) := he
        clear he hd
        go_wp2_with fail
        go_roundg (64 - (k + 1))
        case measure => omega
        case rel => exact ⟨k + 1, rfl, by omega, by go_num, fun n hn => by
          by_cases e : n = k
          · rw [e]; exact HE.out
          · exact HN.out n (by omega), K.drew (K.alloc HB.out _)⟩
    · obtain rfl : k = 64 := by omega
      go_wp2_with fail
      go_ret
      exact ⟨_, rfl, Or.inr ⟨rfl, HN.out⟩, HB.out⟩
end Go.Proofs.Ytloboidolhpogaa
