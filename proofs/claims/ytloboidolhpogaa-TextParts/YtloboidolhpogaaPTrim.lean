/- What strings.TrimSuffix answers of one =. -/
import Derived.Test.YtloboidolhpogaaPSpec
namespace Go.Proofs.Ytloboidolhpogaa
open Go.RowKit
attribute [local go_sem ↓] Go.wp_at_zero Go.wp_at_succ
attribute [local go_sem] tx_size

theorem tx_last {l : List UInt8} (h : 0 < l.length) : (tx l).extract (l.length - 1) l.length = tx [l.getD (l.length - 1) 0] := by
  have := tx_cut l (l.length - 1) (by omega)
  rw [show l.length - 1 + 1 = l.length by omega] at this
  rw [this, List.getD_eq_getElem?_getD, List.getElem?_eq_getElem (by omega)]
  rfl
theorem tx_first (l : List UInt8) (n : Nat) : (tx l).extract 0 n = tx (l.take n) := by
  unfold tx
  rw [ByteArray.extract_mk]
  simp

set_option maxHeartbeats 1000000 in
theorem trim_any (l : List UInt8) (hl : l.length ≤ 1000000) (w : World) : Calls Try.prog 13 #[.string (tx l), .string ⟨#[61]⟩] w fun e w' => e = .returned (.string (tx (tr l))) ∧ w' = w := by
  by_cases h0 : l = []
  · subst h0
    go_enter Try.func13, Try.ntmps13
    go_wp2
    go_ret
    exact ⟨rfl, rfl⟩
  · have hp : 0 < l.length := List.length_pos_iff.2 h0
    have hx := tx_last hp
    have hs : (tx l).size = l.length := tx_size l
    have hi1 : (1 : Int) ≤ l.length := by omega
    have hi2 : (l.length : Int) ≤ 1000000 := by omega
    have hn : ((l.length : Int) - 1).toNat = l.length - 1 := by omega
    have HF : Hid ((tx l).extract 0 (l.length - 1) = tx (l.take (l.length - 1))) := tx_first l _
    obtain ⟨c, hc⟩ : ∃ c, c = l.getD (l.length - 1) 0 := ⟨_, rfl⟩
    rw [← hc] at hx
    by_cases h1 : c = 61
    · have hb : ((tx [c]).toList == [61]) = true := by rw [tx_list, h1]; rfl
      rw [tr_yes (by rw [← hc]; exact h1)]
      clear h1 h0 hc
      go_enter Try.func13, Try.ntmps13
      go_wp2
      go_ret
      exact ⟨congrArg (fun s => Ending.returned (.string s)) HF.out, rfl⟩
    · have hb : ((tx [c]).toList == [61]) = false := by rw [tx_list, Bool.eq_false_iff]; simpa using h1
      rw [tr_no (by rw [← hc]; exact h1)]
      clear h1 h0 hc
      go_enter Try.func13, Try.ntmps13
      go_wp2
      go_ret
      exact ⟨rfl, rfl⟩
end Go.Proofs.Ytloboidolhpogaa
