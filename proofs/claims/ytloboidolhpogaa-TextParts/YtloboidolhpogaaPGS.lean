/- What text.gatherSigns answers. -/
import Derived.Test.YtloboidolhpogaaPIdx
import Derived.Test.YtloboidolhpogaaPSpec
import Derived.Test.YtloboidolhpogaaPGB
namespace Go.Proofs.Ytloboidolhpogaa
open Go.RowKit
attribute [local go_sem ↓] Go.wp_at_zero Go.wp_at_succ
attribute [local go_sem] tx_size

theorem signs_lit : (⟨#[65, 66, 67, 68, 69, 70, 71, 72, 73, 74, 75, 76, 77, 78, 79, 80, 81, 82, 83, 84, 85, 86, 87, 88, 89, 90, 97, 98, 99, 100, 101, 102, 103, 104, 105, 106, 107, 108, 109, 110, 111, 112, 113, 114, 115, 116, 117, 118, 119, 120, 121, 122, 48, 49, 50, 51, 52, 53, 54, 55, 56, 57, 43, 47]⟩ : ByteArray) = tx signs := rfl
/-- The bits of the first k signs. -/
def gs (l : List UInt8) : Nat → Nat
  | 0 => 0
  | k + 1 => gs l k + vz (l.getD k 0) * 64 ^ (3 - k)
theorem tx_get (l : List UInt8) (k : Nat) (h : k < l.length) : (tx l)[k]'(by rw [tx_size]; exact h) = l.getD k 0 := by
  show l.toArray[k] = _
  rw [List.getD_eq_getElem?_getD, List.getElem?_eq_getElem h]
  exact List.getElem_toArray _
theorem gs_bd (l : List UInt8) : ∀ k, k ≤ 4 → gs l k % 64 ^ (4 - k) = 0 ∧ gs l k < 16777216 := by
  intro k hk
  have h0 := vz_lt (l.getD 0 0)
  have h1 := vz_lt (l.getD 1 0)
  have h2 := vz_lt (l.getD 2 0)
  have h3 := vz_lt (l.getD 3 0)
  rcases (show k = 0 ∨ k = 1 ∨ k = 2 ∨ k = 3 ∨ k = 4 by omega) with rfl | rfl | rfl | rfl | rfl
  · exact ⟨rfl, by show 0 < 16777216; decide⟩
  all_goals simp only [gs]; omega
/-- Bits, if all are signs. -/
def GsPost (l : List UInt8) (w : World) (e : Ending) (w' : World) : Prop := w' = w ∧
  (((∀ r, r < l.length → sgn (vz (l.getD r 0)) = l.getD r 0) ∧ e = .returned (.tuple #[.int .u32 (gs l l.length : Nat), .bool true])) ∨
   ((∃ r, r < l.length ∧ sgn (vz (l.getD r 0)) ≠ l.getD r 0) ∧ e = .returned (.tuple #[.int .u32 0, .bool false])))
set_option maxHeartbeats 4000000 in
theorem gatherSigns_any (l : List UInt8) (hn : l.length ≤ 4) (w : World) :
    Calls Try.prog 14 #[.string (tx l)] w fun e w' => GsPost l w e w' := by
  have hls : (tx l).size = l.length := tx_size l
  go_enter Try.func14, Try.ntmps14
  go_wp2_with fail
  go_loopg [4, 9] l.length (fun g s4 s9 wr => wr = w ∧ ∃ k : Nat, g = l.length - k ∧ k ≤ l.length ∧ s9 = .int .i64 k ∧ s4 = .int .u32 (gs l k : Nat) ∧ ∀ r, r < k → sgn (vz (l.getD r 0)) = l.getD r 0)
  case atStart => exact ⟨rfl, 0, rfl, by omega, rfl, rfl, fun r h => by omega⟩
  case round =>
    obtain ⟨rfl, k, rfl, hk, rfl, rfl, hall⟩ := hrel
    by_cases hlt : k < l.length
    · have hki : (k : Int) < l.length := by omega
      obtain ⟨c, hc⟩ : ∃ c, c = l.getD k 0 := ⟨_, rfl⟩
      have hget : (tx l)[k]'(by rw [tx_size]; exact hlt) = c := by rw [hc]; exact tx_get l k hlt
      have HIDX : Hid (Calls Try.prog 20 #[.string (tx signs), .int .u8 (c.toNat : Int)] wr fun e w' => e = .returned (.int .i64 (vi c)) ∧ w' = wr) := idx_any (tx signs) c wr
      rcases vi_or c with ⟨hv, hno⟩ | ⟨hv, hyes⟩
      · rw [hv] at HIDX
        have HP : Hid (GsPost l wr (.returned (.tuple #[.int .u32 0, .bool false])) wr) := ⟨rfl, Or.inr ⟨⟨k, hlt, by rw [← hc]; exact hno _ (vz_lt c)⟩, rfl⟩⟩
        clear hall hno hv hc
        go_wp2_with fail
        rw [signs_lit]
        with_reducible refine Calls.mono HIDX.out ?_
        rintro e w1 ⟨rfl, rfl⟩
        go_wp2_with fail
        go_ret2
        exact HP.out
      · rw [hv] at HIDX
        have hvz := vz_lt c
        have HA : Hid (∀ r, r < k + 1 → sgn (vz (l.getD r 0)) = l.getD r 0) := fun r hr => by
          by_cases e : r = k
          · rw [e, ← hc]; exact hyes
          · exact hall r (by omega)
        have HN : Hid (k < l.length ∧ k < 4) := ⟨hlt, by omega⟩
        have HG : Hid (gs l (k + 1) = gs l k + vz c * 64 ^ (3 - k)) := by show _ = _; rw [hc]; rfl
        have hB : gs l k % 64 ^ (4 - k) = 0 ∧ gs l k < 16777216 := gs_bd l k (by omega)
        clear hall hyes hv hc
        generalize vz c = x at *
        generalize gs l k = B at *
        have hk4 : k = 0 ∨ k = 1 ∨ k = 2 ∨ k = 3 := by omega
        rcases hk4 with rfl | rfl | rfl | rfl
        · have hB1 : (B : Int) % 16777216 = 0 := by have := hB.1; omega
          have hor : bits .or .u32 (B : Int) ((x : Int) * 262144) = (B : Int) + (x : Int) * 262144 := or32 24 (by omega) _ _ (by omega) hB1 (by omega) (by omega) (by show (x : Int) * 262144 < 16777216; omega)
          clear hB hB1
          go_wp2_with fail
          rw [signs_lit]
          with_reducible refine Calls.mono HIDX.out ?_
          rintro e w1 ⟨rfl, rfl⟩
          go_wp2_with fail
          go_roundg (l.length - 1)
          case measure => have := HN.out; omega
          case rel => exact ⟨rfl, 1, rfl, by have := HN.out; omega, by go_num, congrArg (Value.int .u32) (by rw [HG.out]; omega), HA.out⟩
        · have hB1 : (B : Int) % 262144 = 0 := by have := hB.1; omega
          have hor : bits .or .u32 (B : Int) ((x : Int) * 4096) = (B : Int) + (x : Int) * 4096 := or32 18 (by omega) _ _ (by omega) hB1 (by omega) (by omega) (by show (x : Int) * 4096 < 262144; omega)
          clear hB hB1
          go_wp2_with fail
          rw [signs_lit]
          with_reducible refine Calls.mono HIDX.out ?_
          rintro e w1 ⟨rfl, rfl⟩
          go_wp2_with fail
          go_roundg (l.length - 2)
          case measure => have := HN.out; omega
          case rel => exact ⟨rfl, 2, rfl, by have := HN.out; omega, by go_num, congrArg (Value.int .u32) (by rw [HG.out]; omega), HA.out⟩
        · have hB1 : (B : Int) % 4096 = 0 := by have := hB.1; omega
          have hor : bits .or .u32 (B : Int) ((x : Int) * 64) = (B : Int) + (x : Int) * 64 := or32 12 (by omega) _ _ (by omega) hB1 (by omega) (by omega) (by show (x : Int) * 64 < 4096; omega)
          clear hB hB1
          go_wp2_with fail
          rw [signs_lit]
          with_reducible refine Calls.mono HIDX.out ?_
          rintro e w1 ⟨rfl, rfl⟩
          go_wp2_with fail
          go_roundg (l.length - 3)
          case measure => have := HN.out; omega
          case rel => exact ⟨rfl, 3, rfl, by have := HN.out; omega, by go_num, congrArg (Value.int .u32) (by rw [HG.out]; omega), HA.out⟩
        · have hB1 : (B : Int) % 64 = 0 := by have := hB.1; omega
          have hor : bits .or .u32 (B : Int) ((x : Int)) = (B : Int) + (x : Int) := or32 6 (by omega) _ _ (by omega) hB1 (by omega) (by omega) (by show (x : Int) < 64; omega)
          clear hB hB1
          go_wp2_with fail
          rw [signs_lit]
          with_reducible refine Calls.mono HIDX.out ?_
          rintro e w1 ⟨rfl, rfl⟩
          go_wp2_with fail
          go_roundg (l.length - 4)
          case measure => have := HN.out; omega
          case rel => exact ⟨rfl, 4, rfl, by have := HN.out; omega, by go_num, congrArg (Value.int .u32) (by rw [HG.out]; omega), HA.out⟩
    · obtain rfl : k = l.length := by omega
      have HP : Hid (GsPost l wr (.returned (.tuple #[.int .u32 (gs l l.length : Nat), .bool true])) wr) := ⟨rfl, Or.inl ⟨hall, rfl⟩⟩
      clear hall
      go_wp2_with fail
      go_ret2
      exact HP.out
end Go.Proofs.Ytloboidolhpogaa
