/- The moduli by their numbers, and plain facts on what is left of a number. -/
import Derived.Test.YtffkeabpdmpjbaaDoorNum
namespace Go.Proofs.YtffkeabpdmpjbaaDoor

/-- The modulus of a number; 0 of none. -/
def md (k : Int) : Int := if k = 0 then 115792089210356248762697446949407573530086143415290314195533631308867097853951 else if k = 1 then 115792089210356248762697446949407573529996955224135760342422259061068512044369 else if k = 2 then 57896044618658097711785492504343953926634992332820282019728792003956564819949 else if k = 3 then 7237005577332262213973186563042994240857116359379907606001950938285454250989 else 0
theorem md_num (k : Int) : Num (md k) := by
  unfold md
  (repeat' split) <;> exact ⟨by omega, by unfold M; omega⟩
theorem mod_low {s m : Int} (h0 : 0 ≤ s) (h : s < m) : s % m = s := Int.emod_eq_of_lt h0 h
theorem mod_once {s m : Int} (h0 : m ≤ s) (h : s < m + m) : s % m = s - m := by
  have e : s % m = (s - m) % m := by rw [Int.sub_emod_right]
  rw [e]; exact Int.emod_eq_of_lt (by omega) (by omega)

theorem md_0_0 : L 0 (md 0) = 18446744073709551615 := by decide
theorem md_0_1 : L 1 (md 0) = 4294967295 := by decide
theorem md_0_2 : L 2 (md 0) = 0 := by decide
theorem md_0_3 : L 3 (md 0) = 18446744069414584321 := by decide
theorem md_1_0 : L 0 (md 1) = 17562291160714782033 := by decide
theorem md_1_1 : L 1 (md 1) = 13611842547513532036 := by decide
theorem md_1_2 : L 2 (md 1) = 18446744073709551615 := by decide
theorem md_1_3 : L 3 (md 1) = 18446744069414584320 := by decide
theorem md_2_0 : L 0 (md 2) = 18446744073709551597 := by decide
theorem md_2_1 : L 1 (md 2) = 18446744073709551615 := by decide
theorem md_2_2 : L 2 (md 2) = 18446744073709551615 := by decide
theorem md_2_3 : L 3 (md 2) = 9223372036854775807 := by decide
theorem md_3_0 : L 0 (md 3) = 6346243789798364141 := by decide
theorem md_3_1 : L 1 (md 3) = 1503914060200516822 := by decide
theorem md_3_2 : L 2 (md 3) = 0 := by decide
theorem md_3_3 : L 3 (md 3) = 1152921504606846976 := by decide
theorem md_none {k : Int} (h : k < 0 ∨ 3 < k) : md k = 0 := by unfold md; (repeat' split) <;> omega
theorem L_zero (i : Nat) : L i 0 = 0 := by simp [L]
theorem md_cases {k : Int} (h : 0 ≤ k ∧ k ≤ 3) : k = 0 ∨ k = 1 ∨ k = 2 ∨ k = 3 := by omega
theorem md_pos {k : Int} (h : 0 ≤ k ∧ k ≤ 3) : 0 < md k := by
  rcases md_cases h with rfl | rfl | rfl | rfl <;> decide
theorem md_odd {k : Int} (h : 0 ≤ k ∧ k ≤ 3) : (L 0 (md k) == 0) = false := by
  rcases md_cases h with rfl | rfl | rfl | rfl <;> decide
end Go.Proofs.YtffkeabpdmpjbaaDoor
