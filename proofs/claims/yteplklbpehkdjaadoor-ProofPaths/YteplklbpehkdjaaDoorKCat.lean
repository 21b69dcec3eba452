/- Texts, one behind the other; rows of bytes of one's own, as bytes that are handed on. -/
import Derived.Test.YteplklbpehkdjaaDoorKApp
namespace Go.Proofs.YteplklbpehkdjaaDoor
set_option maxRecDepth 100000
open Go.RowKit

/-- Two texts, one behind the other. -/
def cat (f : Nat → Nat) (n : Nat) (g : Nat → Nat) (i : Nat) : Nat := if i < n then f i else g (i - n)
theorem cat_lt {f g : Nat → Nat} (hf : ∀ i, f i < 256) (hg : ∀ i, g i < 256) (n i : Nat) : cat f n g i < 256 := by unfold cat; split; exact hf _; exact hg _
theorem cat_zero (z g : Nat → Nat) : cat z 0 g = g := by funext i; unfold cat; rw [if_neg (by omega), Nat.sub_zero]
theorem cat_assoc (f g h : Nat → Nat) (n m : Nat) : cat (cat f n g) (n + m) h = cat f n (cat g m h) := by
  funext i
  unfold cat
  by_cases h1 : i < n
  · rw [if_pos (by omega), if_pos h1, if_pos h1]
  · rw [if_neg h1, if_neg h1]
    by_cases h2 : i < n + m
    · rw [if_pos h2, if_pos (by omega)]
    · rw [if_neg h2, if_neg (by omega)]
      congr 1
      omega
theorem own_max {w : World} {base n : Nat} {v : Value} {xs : List Value} (h : w.ownsRow base 5 1 v n xs) : ∃ a cap, v = .slice a n cap ∧ n ≤ cap ∧ cap ≤ maxLen := by
  rcases h.2 with ⟨rfl, rfl⟩ | ⟨g, cap, cur, rfl, _, _, h1, h2, _⟩
  · exact ⟨_, _, rfl, Nat.le_refl _, by unfold maxLen; omega⟩
  · exact ⟨_, _, rfl, h1, h2⟩
theorem own_ba {w : World} {base n cap : Nat} {a : Option Addr} {f : Nat → Nat} (h : w.ownsRow base 5 1 (.slice a n cap) n (cells8 (fl f n))) (hf : ∀ i, f i < 256) : BA w a n f := by
  refine ⟨hf, ?_⟩
  by_cases h0 : n = 0
  · exact Or.inl h0
  · obtain ⟨g, cap', hv, hg, hr⟩ := own_rd (f := fun i => ((f i : Nat) : Int)) h (fun j hj => by rw [cells8_at _ j (by rw [fl_len]; exact hj), List.getD_eq_getElem?_getD, fl_at f hj]; rfl) (by omega)
    cases hv
    exact Or.inr ⟨g, 0, rfl, hr.rd⟩
theorem fl_cat (f g : Nat → Nat) (n m : Nat) : fl f n ++ fl g m = fl (cat f n g) (n + m) := by
  apply List.ext_getElem?
  intro i
  by_cases h1 : i < n
  · rw [List.getElem?_append_left (by rw [fl_len]; exact h1), fl_at _ h1, fl_at _ (by omega)]
    unfold cat
    rw [if_pos h1]
  · rw [List.getElem?_append_right (by rw [fl_len]; omega), fl_len]
    by_cases h2 : i < n + m
    · rw [fl_at _ (by omega), fl_at _ h2]
      unfold cat
      rw [if_neg h1]
    · rw [List.getElem?_eq_none (by rw [fl_len]; omega), List.getElem?_eq_none (by rw [fl_len]; omega)]
end Go.Proofs.YteplklbpehkdjaaDoor
