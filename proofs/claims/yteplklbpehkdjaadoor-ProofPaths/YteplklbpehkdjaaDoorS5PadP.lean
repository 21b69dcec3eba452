/- The message's blocks, as a list (no function of the program is named). -/
import Derived.Test.YteplklbpehkdjaaDoorKApp
import Derived.Test.YteplklbpehkdjaaDoorS5W
namespace Go.Proofs.YteplklbpehkdjaaDoor
set_option maxRecDepth 100000

/-- How many noughts. -/
def zs (n : Nat) : Nat := padLen n - 8 - (n + 1)
theorem zs_eq (n : Nat) : n + 1 + zs n = padLen n - 8 ∧ (n + 1 + zs n) % 64 = 56 ∧ padLen n % 64 = 0 ∧ n + 9 ≤ padLen n := by unfold zs padLen; omega
theorem zs_no {n k : Nat} (h : k < zs n) : (n + 1 + k) % 64 ≠ 56 := by unfold zs padLen at h; omega
/-- The first i bytes of the number of bits. -/
def lenB (n : Nat) : Nat → List Nat
  | 0 => []
  | i + 1 => lenB n i ++ [8 * n / 256 ^ (7 - i) % 256]
theorem lenB_len (n : Nat) : ∀ i, (lenB n i).length = i
  | 0 => rfl
  | i + 1 => by simp [lenB, lenB_len n i]
theorem lenB_at (n : Nat) : ∀ (i j : Nat), j < i → (lenB n i).getD j 0 = 8 * n / 256 ^ (7 - j) % 256
  | 0, j, h => by omega
  | i + 1, j, h => by
    simp only [lenB]
    by_cases e : j = i
    · subst e
      rw [List.getD_eq_getElem?_getD, List.getElem?_append_right (by rw [lenB_len]; omega), lenB_len, Nat.sub_self]; rfl
    · rw [List.getD_eq_getElem?_getD, List.getElem?_append_left (by rw [lenB_len]; omega), ← List.getD_eq_getElem?_getD]
      exact lenB_at n i j (by omega)
def padL (f : Nat → Nat) (n : Nat) : List Nat := fl f n ++ [128] ++ List.replicate (zs n) 0 ++ lenB n 8
theorem padL_len (f : Nat → Nat) (n : Nat) : (padL f n).length = padLen n := by
  have := zs_eq n
  simp only [padL, List.length_append, fl_len, List.length_replicate, lenB_len, List.length_cons, List.length_nil]
  omega
theorem padL_at (f : Nat → Nat) (n i : Nat) (h : i < padLen n) : (padL f n).getD i 0 = pad f n i := by
  have hz := zs_eq n
  unfold pad padL
  by_cases h1 : i < n
  · rw [if_pos h1, List.append_assoc, List.append_assoc, List.getD_eq_getElem?_getD, List.getElem?_append_left (by rw [fl_len]; exact h1), fl_at f h1]; rfl
  · rw [if_neg h1]
    by_cases h2 : i = n
    · rw [if_pos h2, List.append_assoc, List.append_assoc, List.getD_eq_getElem?_getD, List.getElem?_append_right (by rw [fl_len]; omega), fl_len, h2, Nat.sub_self]; rfl
    · rw [if_neg h2]
      by_cases h3 : i < padLen n - 8
      · rw [if_pos h3, List.getD_eq_getElem?_getD, List.getElem?_append_left (by simp only [List.length_append, fl_len, List.length_replicate, List.length_cons, List.length_nil]; omega), List.getElem?_append_right (by simp only [List.length_append, fl_len, List.length_cons, List.length_nil]; omega)]
        simp only [List.length_append, fl_len, List.length_cons, List.length_nil]
        rw [List.getElem?_replicate, if_pos (by omega)]; rfl
      · rw [if_neg h3, List.getD_eq_getElem?_getD, List.getElem?_append_right (by simp only [List.length_append, fl_len, List.length_replicate, List.length_cons, List.length_nil]; omega)]
        simp only [List.length_append, fl_len, List.length_replicate, List.length_cons, List.length_nil]
        rw [← List.getD_eq_getElem?_getD, lenB_at n 8 _ (by omega)]
        congr 2
        congr 1
        omega
theorem pad_lt {f : Nat → Nat} (hf : ∀ i, f i < 256) (n i : Nat) : pad f n i < 256 := by
  unfold pad
  (repeat' split)
  · exact hf i
  · omega
  · omega
  · exact Nat.mod_lt _ (by omega)
/-- What is told byte by byte. -/
def shN (n : Nat) : Nat → Nat
  | 0 => 8 * n
  | i + 1 => shN n i * 256 % 18446744073709551616
theorem shN_lt (n : Nat) (h : n ≤ 100000) : ∀ i, shN n i < 18446744073709551616
  | 0 => by simp only [shN]; omega
  | i + 1 => Nat.mod_lt _ (by decide)
theorem shN_top (n : Nat) (h : n ≤ 100000) (i : Nat) (hi : i < 8) : shN n i / 72057594037927936 = 8 * n / 256 ^ (7 - i) % 256 := by
  rcases (show i = 0 ∨ i = 1 ∨ i = 2 ∨ i = 3 ∨ i = 4 ∨ i = 5 ∨ i = 6 ∨ i = 7 by omega) with e | e | e | e | e | e | e | e <;> subst e <;> simp only [shN] <;> omega
end Go.Proofs.YteplklbpehkdjaaDoor
