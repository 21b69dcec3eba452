/- The text of some bytes (no function of the program is named). -/
import Derived.Test.YtloboidolhpogaaTTx
namespace Go.Proofs.Ytloboidolhpogaa

/-- The four signs of three bytes. -/
def quad (x y z : Nat) : List UInt8 := [sgn (x / 4), sgn (x % 4 * 16 + y / 16), sgn (y % 16 * 4 + z / 64), sgn (z % 64)]
/-- The signs of k times three bytes. -/
def encW (f : Nat → Nat) : Nat → List UInt8
  | 0 => []
  | k + 1 => encW f k ++ quad (f (3 * k)) (f (3 * k + 1)) (f (3 * k + 2))
theorem encW_len (f : Nat → Nat) : ∀ k, (encW f k).length = 4 * k
  | 0 => rfl
  | k + 1 => by simp only [encW, List.length_append, encW_len f k, quad, List.length_cons, List.length_nil]; omega
/-- What is left over. -/
def encT (f : Nat → Nat) (n : Nat) : List UInt8 :=
  if n % 3 = 1 then [sgn (f (n - 1) / 4), sgn (f (n - 1) % 4 * 16), 61, 61]
  else if n % 3 = 2 then [sgn (f (n - 2) / 4), sgn (f (n - 2) % 4 * 16 + f (n - 1) / 16), sgn (f (n - 1) % 16 * 4), 61]
  else []
/-- The text of n bytes. -/
def enc (f : Nat → Nat) (n : Nat) : List UInt8 := encW f (n / 3) ++ encT f n
theorem enc_len (f : Nat → Nat) (n : Nat) : (enc f n).length = (n + 2) / 3 * 4 := by
  unfold enc encT
  rw [List.length_append, encW_len]
  split
  · simp; omega
  · split
    · simp; omega
    · simp; omega

end Go.Proofs.Ytloboidolhpogaa
