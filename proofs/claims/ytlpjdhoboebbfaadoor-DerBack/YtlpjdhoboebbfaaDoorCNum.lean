/- Bytes of numbers. -/
import Derived.Test.YtlpjdhoboebbfaaDoorBase
namespace Go.Proofs.YtlpjdhoboebbfaaDoor
open Go.RowKit

/-- The byte of a number that stands for 256^k. -/
def Y (k : Nat) (a : Int) : Int := a / 256 ^ k % 256
theorem Y_lo (k : Nat) (a : Int) : 0 ≤ Y k a := Int.emod_nonneg _ (by omega)
theorem Y_hi (k : Nat) (a : Int) : Y k a < 256 := Int.emod_lt_of_pos _ (by omega)
theorem B_pow (q : Nat) : B ^ q = 256 ^ (8 * q) := by rw [Int.pow_mul]; rfl
theorem byte_word (a : Int) (q r : Nat) (hr : r < 8) : L q a / 256 ^ r % 256 = Y (8 * q + r) a := by
  unfold L Y
  rw [Int.pow_add, ← B_pow, ← Int.ediv_ediv_of_nonneg (Int.le_of_lt (Bk_pos q))]
  generalize a / B ^ q = x
  unfold B
  match r, hr with
  | 0, _ => simp
  | 1, _ => simp; omega
  | 2, _ => simp; omega
  | 3, _ => simp; omega
  | 4, _ => simp; omega
  | 5, _ => simp; omega
  | 6, _ => simp; omega
  | 7, _ => simp; omega
  | n + 8, h => omega

/-- The number of r bytes from place o on, the least first. -/
def E (f : Nat → Int) (o : Nat) : Nat → Int
  | 0 => 0
  | r + 1 => E f o r + f (o + r) * 256 ^ r
theorem E_bd {f : Nat → Int} (hf : ∀ i, 0 ≤ f i ∧ f i < 256) (o : Nat) : ∀ r, 0 ≤ E f o r ∧ E f o r < 256 ^ r
  | 0 => by simp [E]
  | r + 1 => by
    have h := E_bd hf o r
    have hp : (0 : Int) < 256 ^ r := Int.pow_pos (by omega)
    have h1 := (hf (o + r)).1
    have h2 : f (o + r) * 256 ^ r ≤ 255 * 256 ^ r := Int.mul_le_mul_of_nonneg_right (by have := (hf (o + r)).2; omega) (Int.le_of_lt hp)
    have h3 : 0 ≤ f (o + r) * 256 ^ r := Int.mul_nonneg h1 (Int.le_of_lt hp)
    simp only [E, Int.pow_succ]
    omega
theorem E_word (a : Int) (j : Nat) : E (fun i => Y i a) (8 * j) 8 = L j a := by
  have h1 := L_lo j a
  have h2 := L_hi j a
  simp only [E, ← byte_word a j _ (show 0 < 8 by omega), ← byte_word a j _ (show 1 < 8 by omega), ← byte_word a j _ (show 2 < 8 by omega), ← byte_word a j _ (show 3 < 8 by omega), ← byte_word a j _ (show 4 < 8 by omega), ← byte_word a j _ (show 5 < 8 by omega), ← byte_word a j _ (show 6 < 8 by omega), ← byte_word a j _ (show 7 < 8 by omega)]
  generalize L j a = x at *
  simp
  omega
theorem E_congr {f g : Nat → Int} (o : Nat) : ∀ r, (∀ i, i < r → f (o + i) = g (o + i)) → E f o r = E g o r
  | 0, _ => rfl
  | r + 1, h => by simp only [E]; rw [E_congr o r (fun i hi => h i (by omega)), h r (by omega)]

end Go.Proofs.YtlpjdhoboebbfaaDoor
