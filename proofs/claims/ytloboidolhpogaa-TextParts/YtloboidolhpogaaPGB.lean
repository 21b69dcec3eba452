/- What text.gatherBytes answers. -/
import Derived.Test.YtloboidolhpogaaKOwn
import Derived.Deep.LoopGhost
import Derived.Deep.DeepCutAuto
import Derived.Laws.BitsLemmas
namespace Go.Proofs.Ytloboidolhpogaa
open Go.RowKit
attribute [local go_sem ↓] Go.wp_at_zero Go.wp_at_succ

/-- Two numbers without a bit in common. -/
theorem or32 (i : Nat) (hi : i ≤ 32) (x y : Int) (h0 : 0 ≤ x) (hx : x % 2 ^ i = 0) (h1 : x < 4294967296) (h2 : 0 ≤ y) (hy : y < 2 ^ i) : bits .or .u32 x y = x + y := by
  refine bits_join .u32 32 (by decide) (fun n h h' => ?_) i x y h0 hx h1 h2 hy (Int.lt_of_lt_of_le hy ?_)
  · rw [IntKind.wrap_u32']; omega
  · have := Nat.pow_le_pow_right (n := 2) (by omega) hi
    have e : ((2 ^ i : Nat) : Int) ≤ ((2 ^ 32 : Nat) : Int) := by omega
    simpa using e
/-- The bits of the first k bytes. -/
def gb (f : Nat → Nat) : Nat → Nat
  | 0 => 0
  | k + 1 => gb f k + f k * 256 ^ (2 - k)
set_option maxHeartbeats 2000000 in
theorem gatherBytes_any {b o cap n : Nat} {f : Nat → Nat} (hf : ∀ i, f i < 256) (hn : n ≤ 3) {w : World} (hD : Rd w b o n (fun i => (f i : Int))) :
    Calls Try.prog 17 #[.slice (some ⟨b, o, none⟩) n cap] w fun e w' => e = .returned (.int .u32 (gb f n : Nat)) ∧ w' = w := by
  have HF : Hid (∀ i, f i < 256) := hf
  have HD : Hid (Rd w b o n (fun i => (f i : Int))) := hD
  clear hf hD
  go_enter Try.func17, Try.ntmps17
  go_wp2_with fail
  go_loopg [3, 8] n (fun g s3 s8 wr => wr = w ∧ ∃ k : Nat, g = n - k ∧ k ≤ n ∧ s8 = .int .i64 k ∧ s3 = .int .u32 (gb f k : Nat))
  case atStart => exact ⟨rfl, 0, rfl, by omega, rfl, rfl⟩
  case round =>
    obtain ⟨rfl, k, rfl, hk, rfl, rfl⟩ := hrel
    by_cases hlt : k < n
    · have hc := HD.out.c k hlt
      have hx := HF.out k
      have hki : (k : Int) < n := by omega
      have hk3 : k = 0 ∨ k = 1 ∨ k = 2 := by omega
      rcases hk3 with rfl | rfl | rfl
      · rw [Nat.add_zero] at hc
        have hG : Hid (((gb f 1 : Nat) : Int) = (gb f 0 : Nat) + (f 0 : Int) * 65536) := by show _ = _; simp only [gb]; omega
        have hb : gb f 0 % 16777216 = 0 ∧ gb f 0 < 16777216 := by
          have := HF.out 0
          have := HF.out 1
          show 0 % 16777216 = 0 ∧ 0 < 16777216; decide
        have hor : bits .or .u32 ((gb f 0 : Nat) : Int) ((f 0 : Int) * 65536) = (gb f 0 : Nat) + (f 0 : Int) * 65536 := or32 24 (by omega) _ _ (by omega) (by have := hb.1; show ((gb f 0 : Nat) : Int) % 16777216 = 0; omega) (by omega) (by omega) (by show (f 0 : Int) * 65536 < 16777216; omega)
        clear hb
        generalize gb f 0 = B at *
        go_wp2_with fail
        go_roundg (n - 1)
        case measure => omega
        case rel => exact ⟨rfl, 1, rfl, by omega, by go_num, by rw [hG.out]⟩
      · skip
        have hG : Hid (((gb f 2 : Nat) : Int) = (gb f 1 : Nat) + (f 1 : Int) * 256) := by show _ = _; simp only [gb]; omega
        have hb : gb f 1 % 65536 = 0 ∧ gb f 1 < 16777216 := by
          have := HF.out 0
          have := HF.out 1
          simp only [gb]; omega
        have hor : bits .or .u32 ((gb f 1 : Nat) : Int) ((f 1 : Int) * 256) = (gb f 1 : Nat) + (f 1 : Int) * 256 := or32 16 (by omega) _ _ (by omega) (by have := hb.1; show ((gb f 1 : Nat) : Int) % 65536 = 0; omega) (by omega) (by omega) (by show (f 1 : Int) * 256 < 65536; omega)
        clear hb
        generalize gb f 1 = B at *
        go_wp2_with fail
        go_roundg (n - 2)
        case measure => omega
        case rel => exact ⟨rfl, 2, rfl, by omega, by go_num, by rw [hG.out]⟩
      · skip
        have hG : Hid (((gb f 3 : Nat) : Int) = (gb f 2 : Nat) + (f 2 : Int)) := by show _ = _; simp only [gb]; omega
        have hb : gb f 2 % 256 = 0 ∧ gb f 2 < 16777216 := by
          have := HF.out 0
          have := HF.out 1
          simp only [gb]; omega
        have hor : bits .or .u32 ((gb f 2 : Nat) : Int) (f 2 : Int) = (gb f 2 : Nat) + (f 2 : Int) := or32 8 (by omega) _ _ (by omega) (by have := hb.1; show ((gb f 2 : Nat) : Int) % 256 = 0; omega) (by omega) (by omega) (by show (f 2 : Int) < 256; omega)
        clear hb
        generalize gb f 2 = B at *
        go_wp2_with fail
        go_roundg (n - 3)
        case measure => omega
        case rel => exact ⟨rfl, 3, rfl, by omega, by go_num, by rw [hG.out]⟩
    · obtain rfl : k = n := by omega
      go_wp2_with fail
      go_ret
      exact ⟨rfl, rfl⟩
end Go.Proofs.Ytloboidolhpogaa
