/- Texts as lists of bytes (no function of the program is named). -/
import Derived.Test.YtloboidolhpogaaKRows
namespace Go.Proofs.Ytloboidolhpogaa
open Go.RowKit

/-- A text of these bytes. -/
def tx (l : List UInt8) : ByteArray := ⟨l.toArray⟩
theorem tx_append (a b : List UInt8) : tx a ++ tx b = tx (a ++ b) := ByteArray.mk_append_mk a b
theorem tx_size (l : List UInt8) : (tx l).size = l.length := by unfold tx; show l.toArray.size = _; simp
theorem tx_of (s : ByteArray) : s = tx s.data.toList := rfl
theorem tx_cut (l : List UInt8) (n : Nat) (h : n < l.length) : (tx l).extract n (n + 1) = tx [l[n]] := by
  unfold tx
  rw [ByteArray.extract_mk, List.drop_eq_getElem_cons h, show n + 1 - n = 1 by omega]
  rfl

/-- The signs for six bits. -/
def signs : List UInt8 := [65, 66, 67, 68, 69, 70, 71, 72, 73, 74, 75, 76, 77, 78, 79, 80, 81, 82, 83, 84, 85, 86, 87, 88, 89, 90, 97, 98, 99, 100, 101, 102, 103, 104, 105, 106, 107, 108, 109, 110, 111, 112, 113, 114, 115, 116, 117, 118, 119, 120, 121, 122, 48, 49, 50, 51, 52, 53, 54, 55, 56, 57, 43, 47]
theorem signs_len : signs.length = 64 := rfl
def sgn (n : Nat) : UInt8 := signs.getD n 0
theorem sgn_cut (n : Nat) (h : n < 64) : (tx signs).extract n (n + 1) = tx [sgn n] := by
  rw [tx_cut signs n (by rw [signs_len]; exact h)]
  unfold sgn
  rw [List.getD_eq_getElem?_getD, List.getElem?_eq_getElem (by rw [signs_len]; exact h)]
  rfl

theorem tx_list (l : List UInt8) : (tx l).toList = l := by rw [ByteArray.toList_eq]; rfl
theorem eq_one : (⟨#[61]⟩ : ByteArray) = tx [61] := rfl
theorem eq_two : (⟨#[61, 61]⟩ : ByteArray) = tx [61, 61] := rfl
/-- The ten digits. -/
def tens : List UInt8 := [48, 49, 50, 51, 52, 53, 54, 55, 56, 57]
def dg (n : Nat) : UInt8 := tens.getD n 0
theorem dg_cut (n : Nat) (h : n < 10) : (tx tens).extract n (n + 1) = tx [dg n] := by
  rw [tx_cut tens n (by exact h)]
  unfold dg
  rw [List.getD_eq_getElem?_getD, List.getElem?_eq_getElem (by exact h)]
  rfl
/-- A number's digits. -/
def digs (n : Nat) : List UInt8 := if n < 10 then [dg n] else digs (n / 10) ++ [dg (n % 10)]
termination_by n
decreasing_by omega
theorem digs_low {n : Nat} (h : n < 10) : digs n = [dg n] := by rw [digs, if_pos h]
theorem digs_up {n : Nat} (h : ¬ n < 10) : digs n = digs (n / 10) ++ [dg (n % 10)] := by rw [digs, if_neg h]
theorem digs_len : ∀ (k n : Nat), n < 10 ^ (k + 1) → (digs n).length ≤ k + 1
  | 0, n, h => by rw [digs_low (by simpa using h)]; simp
  | k + 1, n, h => by
    by_cases hl : n < 10
    · rw [digs_low hl]; simp
    · rw [digs_up hl]
      have := digs_len k (n / 10) (by rw [Nat.pow_succ] at h; omega)
      simp; omega
end Go.Proofs.Ytloboidolhpogaa
