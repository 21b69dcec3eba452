/- Words for what text.Decode answers. -/
import Derived.Test.YtloboidolhpogaaPTrim
import Derived.Test.YtloboidolhpogaaPGS
import Derived.Test.YtloboidolhpogaaPCut4
namespace Go.Proofs.Ytloboidolhpogaa
open Go.RowKit

/-- What is told of a text of some signs: the bytes, if that is their text; else nothing. -/
def DecP (l : List UInt8) (w : World) (e : Ending) (w' : World) : Prop := Below w.heap.size w w' ∧
  ((enc (fun i => (dl l (l.length / 4)).getD i 0) (3 * (l.length / 4) - eqs l) = l ∧ ∃ g cap, 3 * (l.length / 4) - eqs l ≤ cap ∧ e = .returned (.tuple #[.slice (some ⟨g, 0, none⟩) (3 * (l.length / 4) - eqs l) cap, .bool true]) ∧ Rd w' g 0 (3 * (l.length / 4) - eqs l) (fun i => (((dl l (l.length / 4)).getD i 0 : Nat) : Int))) ∨
   (enc (fun i => (dl l (l.length / 4)).getD i 0) (3 * (l.length / 4) - eqs l) ≠ l ∧ e = .returned (.tuple #[.slice none 0 0, .bool false])))

/-- The signs of one group. -/
def grpS (l : List UInt8) (m G : Nat) : List UInt8 := (l.drop m).take G
theorem grpS_len {l : List UInt8} {m G : Nat} (h : m + G ≤ l.length) : (grpS l m G).length = G := by unfold grpS; rw [List.length_take, List.length_drop]; omega
theorem grpS_at {l : List UInt8} {m G r : Nat} (hr : r < G) : (grpS l m G).getD r 0 = l.getD (m + r) 0 := by
  unfold grpS
  rw [List.getD_eq_getElem?_getD, List.getElem?_take_of_lt hr, List.getElem?_drop, ← List.getD_eq_getElem?_getD]
theorem grpS_cut {l : List UInt8} {q m G : Nat} (h : m + G ≤ q) : (tx (l.take q)).extract m (m + G) = tx (grpS l m G) := by
  unfold tx grpS
  rw [ByteArray.extract_mk, show m + G - m = G by omega, List.drop_take, List.take_take, show min G (q - m) = G by omega]
theorem gs_part {l : List UInt8} {m G : Nat} (h1 : 2 ≤ G) (h2 : G ≤ 4) (h : ∀ r, G ≤ r → r < 4 → l.getD (m + r) 0 = 61) : gs (grpS l m G) G = part l m 4 := by
  have hg : ∀ r, r < G → (grpS l m G).getD r 0 = l.getD (m + r) 0 := fun r hr => grpS_at hr
  rw [part_four]
  rcases (show G = 2 ∨ G = 3 ∨ G = 4 by omega) with rfl | rfl | rfl
  · simp only [gs]
    rw [hg 0 (by omega), hg 1 (by omega), h 2 (by omega) (by omega), h 3 (by omega) (by omega), vz_61]
    omega
  · simp only [gs]
    rw [hg 0 (by omega), hg 1 (by omega), hg 2 (by omega), h 3 (by omega) (by omega), vz_61]
    omega
  · simp only [gs]
    rw [hg 0 (by omega), hg 1 (by omega), hg 2 (by omega), hg 3 (by omega)]
    omega
/-- The bytes behind j groups. -/
def rowD (l : List UInt8) (N j : Nat) : List Nat := (dl l j).take N
theorem rowD_low {l : List UInt8} {N j : Nat} (h : 3 * j ≤ N) : rowD l N j = dl l j := by unfold rowD; rw [List.take_of_length_le (by rw [dl_len]; exact h)]
theorem rowD_step {l : List UInt8} {N j S : Nat} (h : 3 * j ≤ N) (hS : min (3 * (j + 1)) N = 3 * j + S) (h3 : S ≤ 3) : rowD l N (j + 1) = dl l j ++ [part l (4 * j) 4 / 65536, part l (4 * j) 4 / 256 % 256, part l (4 * j) 4 % 256].take S := by
  unfold rowD
  simp only [dl]
  rw [List.take_append, List.take_of_length_le (by rw [dl_len]; exact h), dl_len]
  congr 1
  rcases (show N - 3 * j = S ∨ (S = 3 ∧ 3 ≤ N - 3 * j) by omega) with e | ⟨e, e2⟩
  · rw [e]
  · rw [e, List.take_of_length_le (by simpa using e2), List.take_of_length_le (by simp)]
theorem take_more {V p : Nat} (hV : V < 16777216) (h : p < 3) : [V / 65536, V / 256 % 256, V % 256].take (p + 1) = [V / 65536, V / 256 % 256, V % 256].take p ++ [V / 256 ^ (2 - p) % 256] := by
  rcases (show p = 0 ∨ p = 1 ∨ p = 2 by omega) with rfl | rfl | rfl
  · show [V / 65536] = [V / 65536 % 256]
    rw [Nat.mod_eq_of_lt (by omega)]
  · rfl
  · show [V / 65536, V / 256 % 256, V % 256] = [V / 65536, V / 256 % 256, V / 1 % 256]
    rw [Nat.div_one]
theorem cells8_append (a b : List Nat) : cells8 (a ++ b) = cells8 a ++ cells8 b := List.map_append
end Go.Proofs.Ytloboidolhpogaa
