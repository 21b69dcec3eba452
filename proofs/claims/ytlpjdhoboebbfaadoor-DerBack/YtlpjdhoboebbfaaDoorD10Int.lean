/- What the document's own integer of layer 10 answers. -/
import Derived.Test.YtlpjdhoboebbfaaDoorB3
import Derived.Test.YtlpjdhoboebbfaaDoorGDer
namespace Go.Proofs.YtlpjdhoboebbfaaDoor
open Go.RowKit
attribute [local go_sem ↓] Go.wp_at_zero Go.wp_at_succ

theorem Y_nat (k A : Nat) : Y k (A : Int) = ((A / 256 ^ k % 256 : Nat) : Int) := by
  unfold Y
  rw [Int.natCast_emod, Int.natCast_ediv, Int.natCast_pow]
  rfl
/-- The bytes ahead are 0: so many bytes are left. -/
theorem lead_lt {A : Nat} (hA : A < 2 ^ 256) : ∀ k, k ≤ 31 → (∀ i, i < k → A / 256 ^ (31 - i) % 256 = 0) → A < 256 ^ (32 - k)
  | 0, _, _ => by rw [show (256 : Nat) ^ (32 - 0) = 2 ^ 256 by decide]; exact hA
  | k + 1, hk, h => by
    have ih := lead_lt hA k (by omega) (fun i hi => h i (by omega))
    have h1 := h k (by omega)
    have e : 256 ^ (32 - k) = 256 ^ (31 - k) * 256 := by rw [← Nat.pow_succ, show (31 - k).succ = 32 - k by omega]
    rw [e] at ih
    have h2 : A / 256 ^ (31 - k) < 256 := Nat.div_lt_of_lt_mul ih
    rw [Nat.mod_eq_of_lt h2] at h1
    rw [show 32 - (k + 1) = 31 - k by omega]
    rcases Nat.lt_or_ge A (256 ^ (31 - k)) with q | q
    · exact q
    · have := Nat.div_pos q (Nat.pow_pos (by decide)); omega
theorem lead_ge {A k : Nat} (h : A / 256 ^ (31 - k) % 256 ≠ 0) : 256 ^ (31 - k) ≤ A := by
  rcases Nat.lt_or_ge A (256 ^ (31 - k)) with q | q
  · rw [Nat.div_eq_of_lt q] at h
    exact absurd rfl h
  · exact q
/-- The bytes that are left. -/
theorem be_fl (A n : Nat) : be A n = fl (fun i => A / 256 ^ (n - 1 - i) % 256) n := by
  apply List.ext_getElem?
  intro i
  by_cases h : i < n
  · rw [be_at A n i h, fl_at _ h]
  · rw [List.getElem?_eq_none (by rw [be_len]; omega), List.getElem?_eq_none (by rw [fl_len]; omega)]
theorem dI_lead {A k : Nat} (hA : A < 2 ^ 256) (hk : k ≤ 31) (h0 : ∀ i, i < k → A / 256 ^ (31 - i) % 256 = 0) (h1 : k = 31 ∨ A / 256 ^ (31 - k) % 256 ≠ 0) : dI A = if 128 ≤ A / 256 ^ (31 - k) % 256 then [2, 33 - k, 0] ++ fl (fun i => A / 256 ^ (31 - (k + i)) % 256) (32 - k) else [2, 32 - k] ++ fl (fun i => A / 256 ^ (31 - (k + i)) % 256) (32 - k) := by
  have hl := lead_lt hA k hk h0
  have e : 256 ^ (32 - k) = 256 ^ (31 - k) * 256 := by rw [← Nat.pow_succ, show (31 - k).succ = 32 - k by omega]
  have hs : A / 256 ^ (31 - k) < 256 := Nat.div_lt_of_lt_mul (by rw [e] at hl; exact hl)
  have hw := dI_way (n := 32 - k) hA (by omega) hl (by
    rcases h1 with h1 | h1
    · exact Or.inl (by omega)
    · exact Or.inr (by rw [show 32 - k - 1 = 31 - k by omega]; exact lead_ge h1))
  have eb : be A (32 - k) = fl (fun i => A / 256 ^ (31 - (k + i)) % 256) (32 - k) := by
    rw [be_fl]
    congr 1
    funext i
    rw [show 32 - k - 1 - i = 31 - (k + i) by omega]
  rw [hw, show 32 - k - 1 = 31 - k by omega, Nat.mod_eq_of_lt hs, eb, show 32 - k + 1 = 33 - k by omega]
  rfl
end Go.Proofs.YtlpjdhoboebbfaaDoor
