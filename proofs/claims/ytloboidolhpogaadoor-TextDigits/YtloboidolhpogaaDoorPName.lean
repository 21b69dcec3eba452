/- What text.Name answers. -/
import Derived.Test.YtloboidolhpogaaDoorPIdx
import Derived.Test.YtloboidolhpogaaDoorTNameP
import Derived.Deep.LoopGhost
namespace Go.Proofs.YtloboidolhpogaaDoor
open Go.RowKit
attribute [local go_sem ↓] Go.wp_at_zero Go.wp_at_succ
attribute [local go_sem] tx_size

def nsigns : List UInt8 := [65, 66, 67, 68, 69, 70, 71, 72, 73, 74, 75, 76, 77, 78, 79, 80, 81, 82, 83, 84, 85, 86, 87, 88, 89, 90, 97, 98, 99, 100, 101, 102, 103, 104, 105, 106, 107, 108, 109, 110, 111, 112, 113, 114, 115, 116, 117, 118, 119, 120, 121, 122, 48, 49, 50, 51, 52, 53, 54, 55, 56, 57, 46, 45, 47]
theorem nsigns_all : ∀ k, k < 256 → decide (Lib.indexByte nsigns (UInt8.ofNat k) < 0) = !okc (UInt8.ofNat k).toNat := by decide +kernel
theorem nsigns_or (c : UInt8) : decide (Lib.indexByte nsigns c < 0) = !okc c.toNat := by
  have := nsigns_all c.toNat c.toNat_lt
  rwa [UInt8.ofNat_toNat] at this
set_option maxRecDepth 100000 in
set_option maxHeartbeats 4000000 in
theorem name_any (s : ByteArray) (hs : s.size ≤ 9223372036854775807) (w : World) :
    Calls Tryd.prog 10 #[.string s] w fun e w' => e = .returned (.bool (nameB s)) ∧ w' = w := by
  by_cases h0 : s.size < 1
  · have hN : Hid (nameB s = false) := by
      show _ = _
      unfold nameB
      rw [decide_eq_false_iff_not]
      intro hh; have := hh.2.1; omega
    have hi : (s.size : Int) < 1 := by omega
    clear h0
    go_enter Tryd.func10, Tryd.ntmps10
    go_wp2_with fail
    go_ret
    exact ⟨ret_bool hN.out.symm, rfl⟩
  · have hi : ¬ (s.size : Int) < 1 := by omega
    by_cases h40 : s.size ≤ 40
    · have hi4 : (s.size : Int) ≤ 40 := by omega
      go_enter Tryd.func10, Tryd.ntmps10
      go_wp2_with fail
      go_loopg [14] s.size (fun g i wr => wr = w ∧ ∃ k : Nat, g = s.size - k ∧ k ≤ s.size ∧ i = .int .i64 k ∧ ∀ (j : Nat) (_ : j < k) (h : j < s.size), okc (s[j].toNat) = true)
      case atStart => exact ⟨rfl, 0, rfl, by omega, rfl, fun j hj => by omega⟩
      case round =>
        obtain ⟨rfl, k, rfl, hk, rfl, hall⟩ := hrel
        by_cases hlt : k < s.size
        · have hlti : (k : Int) < s.size := by omega
          obtain ⟨c, hc⟩ : ∃ c, c = s[k] := ⟨_, rfl⟩
          have HN : Hid (okc (c.toNat) = false → nameB s = false) := fun h => name_no k hlt (by rw [← hc]; exact h)
          have HY : Hid (okc (c.toNat) = true → ∀ (j : Nat) (_ : j < k + 1) (h : j < s.size), okc (s[j].toNat) = true) := fun h j hj hl => by
            by_cases e : j = k
            · subst e; rw [← hc]; exact h
            · exact hall j (by omega) hl
          have hget : s[k] = c := hc.symm
          have hno := nsigns_or c
          have HIDX : Hid (∀ (t : ByteArray), t.data.toList = nsigns → Calls Tryd.prog 15 #[.string t, .int .u8 (c.toNat : Int)] wr fun e w' => e = .returned (.int .i64 (Lib.indexByte nsigns c)) ∧ w' = wr) := fun t ht => by rw [← ht]; exact idx_any t c wr
          generalize Lib.indexByte nsigns c = x at *
          clear hall hc
          by_cases ho : okc c.toNat = true
          · have hx : ¬ x < 0 := by rw [ho] at hno; simpa using hno
            clear hno
            go_wp2_with fail
            with_reducible refine Calls.mono (HIDX.out _ rfl) ?_
            rintro e w1 ⟨rfl, rfl⟩
            go_wp2_with fail
            go_roundg (s.size - (k + 1))
            case measure => omega
            case rel => exact ⟨rfl, k + 1, rfl, by omega, by go_num, HY.out ho⟩
          · have ho : okc c.toNat = false := by simpa using ho
            have hx : x < 0 := by rw [ho] at hno; simpa using hno
            clear hno
            go_wp2_with fail
            with_reducible refine Calls.mono (HIDX.out _ rfl) ?_
            rintro e w1 ⟨rfl, rfl⟩
            go_wp2_with fail
            go_ret
            exact ⟨ret_bool (HN.out ho).symm, rfl⟩
        · obtain rfl : k = s.size := by omega
          have he : Hid (nameB s = true) := by
            show _ = _
            rw [name_end (fun j h => hall j h h), decide_eq_true (by omega), decide_eq_true h40]
            rfl
          clear hall
          go_wp2_with fail
          go_ret
          exact ⟨ret_bool he.out.symm, rfl⟩
    · have hi4 : ¬ (s.size : Int) ≤ 40 := by omega
      have hN : Hid (nameB s = false) := by
        show _ = _
        unfold nameB
        rw [decide_eq_false_iff_not]
        intro hh; have := hh.2.2; omega
      clear h40
      go_enter Tryd.func10, Tryd.ntmps10
      go_wp2_with fail
      go_ret
      exact ⟨ret_bool hN.out.symm, rfl⟩
end Go.Proofs.YtloboidolhpogaaDoor
