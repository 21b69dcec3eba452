/- Plain facts on numbers written in words of 64 bits: no program in sight. -/
import Derived.Below
namespace Go.Proofs.Ytjgpopjpmfkfmaa
set_option maxRecDepth 100000

/-- A word's number of values. -/
def B : Int := 18446744073709551616
theorem B_pos : 0 < B := by unfold B; omega
theorem Bk_pos (k : Nat) : 0 < B ^ k := Int.pow_pos B_pos

/-- The word of a number that stands for its power k (of a number below nothing: that of what goes round). -/
def L (k : Nat) (a : Int) : Int := a / B ^ k % B
theorem L_lo (k : Nat) (a : Int) : 0 ≤ L k a := Int.emod_nonneg _ (by have := B_pos; omega)
theorem L_hi (k : Nat) (a : Int) : L k a < 18446744073709551616 := Int.emod_lt_of_pos _ B_pos

theorem mod_succ (a : Int) (k : Nat) : a % B ^ (k + 1) = a % B ^ k + B ^ k * (a / B ^ k % B) := by
  have hk := Bk_pos k
  rw [Int.pow_succ, Int.emod_def, Int.emod_def a (B ^ k), Int.emod_def (a / B ^ k) B, ← Int.ediv_ediv_of_nonneg (Int.le_of_lt hk)]
  generalize a / B ^ k = q
  generalize q / B = z
  rw [Int.mul_sub, Int.mul_assoc]
  omega

theorem div_add (a b : Int) (k : Nat) : (a + b) / B ^ k = a / B ^ k + b / B ^ k + (a % B ^ k + b % B ^ k) / B ^ k := by
  have h := Bk_pos k
  have ha := Int.mul_ediv_add_emod a (B ^ k)
  have hb := Int.mul_ediv_add_emod b (B ^ k)
  have : a + b = (a % B ^ k + b % B ^ k) + B ^ k * (a / B ^ k + b / B ^ k) := by rw [Int.mul_add]; omega
  rw [this, Int.add_mul_ediv_left _ _ (by omega)]
  omega
theorem div_sub (a b : Int) (k : Nat) : (a - b) / B ^ k = a / B ^ k - b / B ^ k + (a % B ^ k - b % B ^ k) / B ^ k := by
  have h := Bk_pos k
  have ha := Int.mul_ediv_add_emod a (B ^ k)
  have hb := Int.mul_ediv_add_emod b (B ^ k)
  have : a - b = (a % B ^ k - b % B ^ k) + B ^ k * (a / B ^ k - b / B ^ k) := by rw [Int.mul_sub]; omega
  rw [this, Int.add_mul_ediv_left _ _ (by omega)]
  omega

/-- The carry into word k of a sum. -/
def C (a b : Int) (k : Nat) : Int := (a % B ^ k + b % B ^ k) / B ^ k
theorem C_zero (a b : Int) : C a b 0 = 0 := by simp [C, Int.emod_one]
theorem C_lo (a b : Int) (k : Nat) : 0 ≤ C a b k := by
  have h := Bk_pos k
  have h1 := Int.emod_nonneg a (by omega : B ^ k ≠ 0)
  have h2 := Int.emod_nonneg b (by omega : B ^ k ≠ 0)
  exact Int.ediv_nonneg (by omega) (by omega)
theorem C_hi (a b : Int) (k : Nat) : C a b k ≤ 1 := by
  have h := Bk_pos k
  have h1 := Int.emod_lt_of_pos a h
  have h2 := Int.emod_lt_of_pos b h
  have : (a % B ^ k + b % B ^ k) / B ^ k < 2 := Int.ediv_lt_of_lt_mul h (by omega)
  unfold C; omega
theorem add_word (a b : Int) (k : Nat) : (L k a + L k b + C a b k) % 18446744073709551616 = L k (a + b) := by
  unfold L C
  rw [div_add a b k]
  generalize a / B ^ k = x
  generalize b / B ^ k = y
  generalize (a % B ^ k + b % B ^ k) / B ^ k = z
  unfold B; omega
theorem add_carry (a b : Int) (k : Nat) : (L k a + L k b + C a b k) / 18446744073709551616 = C a b (k + 1) := by
  have h := Bk_pos k
  have e : (a % B ^ (k + 1) + b % B ^ (k + 1)) / B ^ (k + 1) = ((a % B ^ k + b % B ^ k) / B ^ k + (a / B ^ k % B + b / B ^ k % B)) / B := by
    rw [mod_succ, mod_succ, Int.pow_succ, ← Int.ediv_ediv_of_nonneg (Int.le_of_lt h)]
    have : a % B ^ k + B ^ k * (a / B ^ k % B) + (b % B ^ k + B ^ k * (b / B ^ k % B)) = (a % B ^ k + b % B ^ k) + B ^ k * (a / B ^ k % B + b / B ^ k % B) := by
      rw [Int.mul_add]; omega
    rw [this, Int.add_mul_ediv_left _ _ (by omega)]
  unfold L C
  rw [e]
  generalize a / B ^ k % B = x
  generalize b / B ^ k % B = y
  generalize (a % B ^ k + b % B ^ k) / B ^ k = z
  unfold B; omega

/-- The borrow out of word k of a difference. -/
def D (a b : Int) (k : Nat) : Int := -((a % B ^ k - b % B ^ k) / B ^ k)
theorem D_zero (a b : Int) : D a b 0 = 0 := by simp [D, Int.emod_one]
theorem D_lo (a b : Int) (k : Nat) : 0 ≤ D a b k := by
  have h := Bk_pos k
  have h1 := Int.emod_lt_of_pos a h
  have h2 := Int.emod_nonneg b (by omega : B ^ k ≠ 0)
  have : (a % B ^ k - b % B ^ k) / B ^ k < 1 := Int.ediv_lt_of_lt_mul h (by omega)
  unfold D; omega
theorem D_hi (a b : Int) (k : Nat) : D a b k ≤ 1 := by
  have h := Bk_pos k
  have h1 := Int.emod_nonneg a (by omega : B ^ k ≠ 0)
  have h2 := Int.emod_lt_of_pos b h
  have : -1 ≤ (a % B ^ k - b % B ^ k) / B ^ k := Int.le_ediv_of_mul_le h (by omega)
  unfold D; omega
theorem sub_word (a b : Int) (k : Nat) : (L k a - L k b - D a b k) % 18446744073709551616 = L k (a - b) := by
  unfold L D
  rw [div_sub a b k]
  generalize a / B ^ k = x
  generalize b / B ^ k = y
  generalize (a % B ^ k - b % B ^ k) / B ^ k = z
  unfold B; omega
theorem sub_carry (a b : Int) (k : Nat) : (if L k a < L k b + D a b k then 1 else 0) = D a b (k + 1) := by
  have h := Bk_pos k
  have a1 := L_lo k a
  have a2 := L_hi k a
  have b1 := L_lo k b
  have b2 := L_hi k b
  have d1 := D_lo a b k
  have d2 := D_hi a b k
  have e : (a % B ^ (k + 1) - b % B ^ (k + 1)) / B ^ (k + 1) = ((a % B ^ k - b % B ^ k) / B ^ k + (a / B ^ k % B - b / B ^ k % B)) / B := by
    rw [mod_succ, mod_succ, Int.pow_succ, ← Int.ediv_ediv_of_nonneg (Int.le_of_lt h)]
    have : a % B ^ k + B ^ k * (a / B ^ k % B) - (b % B ^ k + B ^ k * (b / B ^ k % B)) = (a % B ^ k - b % B ^ k) + B ^ k * (a / B ^ k % B - b / B ^ k % B) := by
      rw [Int.mul_sub]; omega
    rw [this, Int.add_mul_ediv_left _ _ (by omega)]
  have e2 : D a b (k + 1) = -((L k a - L k b - D a b k) / B) := by
    unfold D L
    rw [e]
    congr 2
    generalize a / B ^ k % B = x
    generalize b / B ^ k % B = y
    generalize (a % B ^ k - b % B ^ k) / B ^ k = z
    omega
  rw [e2]
  generalize L k a = x at *
  generalize L k b = y at *
  generalize D a b k = z at *
  unfold B
  split <;> omega

/-- 2^256. -/
def M : Int := 115792089237316195423570985008687907853269984665640564039457584007913129639936
theorem M_eq : M = B ^ 4 := by decide
/-- A number of four words. -/
structure Num (a : Int) : Prop where
  lo : 0 ≤ a
  hi : a < M
/-- The sum is 2^256 or more. -/
def over (a b : Int) : Bool := decide (M ≤ a + b)
theorem C_four {a b : Int} (ha : Num a) (hb : Num b) : (C a b 4 == 1) = over a b := by
  obtain ⟨a1, a2⟩ := ha
  obtain ⟨b1, b2⟩ := hb
  unfold C over
  rw [← M_eq, Int.emod_eq_of_lt a1 a2, Int.emod_eq_of_lt b1 b2, Bool.eq_iff_iff]
  simp only [beq_iff_eq, decide_eq_true_eq]
  unfold M at *
  omega
/-- The second is greater. -/
def under (a b : Int) : Bool := decide (a < b)
theorem D_four {a b : Int} (ha : Num a) (hb : Num b) : (D a b 4 == 1) = under a b := by
  obtain ⟨a1, a2⟩ := ha
  obtain ⟨b1, b2⟩ := hb
  unfold D under
  rw [← M_eq, Int.emod_eq_of_lt a1 a2, Int.emod_eq_of_lt b1 b2, Bool.eq_iff_iff]
  simp only [beq_iff_eq, decide_eq_true_eq]
  unfold M at *
  omega

theorem L0 (a : Int) : L 0 a = a % 18446744073709551616 := by simp [L, B]
theorem L1 (a : Int) : L 1 a = a / 18446744073709551616 % 18446744073709551616 := by simp [L, B]
theorem L2 (a : Int) : L 2 a = a / 340282366920938463463374607431768211456 % 18446744073709551616 := by simp [L, B]
theorem L3 (a : Int) : L 3 a = a / 6277101735386680763835789423207666416102355444464034512896 % 18446744073709551616 := by simp [L, B]

/-- Four words are those of one number. -/
theorem num_of (x0 x1 x2 x3 : Int) (h0 : 0 ≤ x0 ∧ x0 < 18446744073709551616) (h1 : 0 ≤ x1 ∧ x1 < 18446744073709551616) (h2 : 0 ≤ x2 ∧ x2 < 18446744073709551616) (h3 : 0 ≤ x3 ∧ x3 < 18446744073709551616) :
    ∃ a, Num a ∧ x0 = L 0 a ∧ x1 = L 1 a ∧ x2 = L 2 a ∧ x3 = L 3 a := by
  refine ⟨x0 + 18446744073709551616 * x1 + 340282366920938463463374607431768211456 * x2 + 6277101735386680763835789423207666416102355444464034512896 * x3, ⟨by omega, by unfold M; omega⟩, ?_, ?_, ?_, ?_⟩
  · rw [L0]; omega
  · rw [L1]; omega
  · rw [L2]; omega
  · rw [L3]; omega
/-- A number of four words is told by them. -/
theorem num_ext {a b : Int} (ha : Num a) (hb : Num b) (h0 : L 0 a = L 0 b) (h1 : L 1 a = L 1 b) (h2 : L 2 a = L 2 b) (h3 : L 3 a = L 3 b) : a = b := by
  obtain ⟨a1, a2⟩ := ha
  obtain ⟨b1, b2⟩ := hb
  rw [L0, L0] at h0
  rw [L1, L1] at h1
  rw [L2, L2] at h2
  rw [L3, L3] at h3
  unfold M at *
  omega
end Go.Proofs.Ytjgpopjpmfkfmaa
