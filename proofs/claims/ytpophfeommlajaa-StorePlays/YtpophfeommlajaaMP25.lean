/- Two lists of bytes are the same. -/
import Derived.Test.YtpophfeommlajaaMP05
namespace Go.Proofs.Ytpophfeommlajaa
set_option maxRecDepth 100000

/-- Two lists of n bytes are the same. -/
def sameB (f g : Nat → Int) (n : Nat) : Bool := decide (∀ i, i < n → f i = g i)
theorem same_no {f g : Nat → Int} {n k : Nat} (h : k < n) (hne : f k ≠ g k) : sameB f g n = false := by
  unfold sameB
  rw [decide_eq_false_iff_not]
  exact fun hh => hne (hh k h)
theorem same_yes {f g : Nat → Int} {n : Nat} (h : ∀ i, i < n → f i = g i) : sameB f g n = true := decide_eq_true h

end Go.Proofs.Ytpophfeommlajaa
