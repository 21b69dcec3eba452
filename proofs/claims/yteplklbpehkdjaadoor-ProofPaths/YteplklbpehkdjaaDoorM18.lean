/- Layer 18: paths and proofs (no function of the program is named). -/
import Derived.Test.YteplklbpehkdjaaDoorM16
namespace Go.Proofs.YteplklbpehkdjaaDoor
set_option maxRecDepth 100000
open Go.RowKit

/-- The path of the m-th of n hashes. -/
def pth (F : Nat → Nat → Nat) (n m : Nat) : List (Nat → Nat) :=
  if _h : n < 2 then [] else if m < sp n then pth F (sp n) m ++ [rt (fun i => F (sp n + i)) (n - sp n)] else pth (fun i => F (sp n + i)) (n - sp n) (m - sp n) ++ [rt F (sp n)]
termination_by n
decreasing_by
  · exact sp_lt (by omega)
  · have := sp_pos (n := n) (by omega)
    omega
theorem pth_small (F : Nat → Nat → Nat) {n : Nat} (m : Nat) (h : n < 2) : pth F n m = [] := by rw [pth, dif_pos h]
theorem pth_low (F : Nat → Nat → Nat) {n m : Nat} (h : 2 ≤ n) (hm : m < sp n) : pth F n m = pth F (sp n) m ++ [rt (fun i => F (sp n + i)) (n - sp n)] := by rw [pth, dif_neg (by omega), if_pos hm]
theorem pth_up (F : Nat → Nat → Nat) {n m : Nat} (h : 2 ≤ n) (hm : ¬ m < sp n) : pth F n m = pth (fun i => F (sp n + i)) (n - sp n) (m - sp n) ++ [rt F (sp n)] := by rw [pth, dif_neg (by omega), if_neg hm]
/-- The proof of the first m of n hashes. -/
def prf (F : Nat → Nat → Nat) (n m : Nat) (b : Bool) : List (Nat → Nat) :=
  if _h : n ≤ m ∨ n < 2 then (if b then [] else [rt F n]) else if m ≤ sp n then prf F (sp n) m b ++ [rt (fun i => F (sp n + i)) (n - sp n)] else prf (fun i => F (sp n + i)) (n - sp n) (m - sp n) false ++ [rt F (sp n)]
termination_by n
decreasing_by
  · exact sp_lt (by omega)
  · have := sp_pos (n := n) (by omega)
    omega
theorem prf_end (F : Nat → Nat → Nat) {n m : Nat} (b : Bool) (h : n ≤ m ∨ n < 2) : prf F n m b = if b then [] else [rt F n] := by rw [prf, dif_pos h]
theorem prf_low (F : Nat → Nat → Nat) {n m : Nat} (b : Bool) (h : m < n) (h2 : 2 ≤ n) (hm : m ≤ sp n) : prf F n m b = prf F (sp n) m b ++ [rt (fun i => F (sp n + i)) (n - sp n)] := by rw [prf, dif_neg (by omega), if_pos hm]
theorem prf_up (F : Nat → Nat → Nat) {n m : Nat} (b : Bool) (h : m < n) (h2 : 2 ≤ n) (hm : ¬ m ≤ sp n) : prf F n m b = prf (fun i => F (sp n + i)) (n - sp n) (m - sp n) false ++ [rt F (sp n)] := by rw [prf, dif_neg (by omega), if_neg hm]
theorem sp_half {n e : Nat} (h : n ≤ 2 ^ (e + 1)) (h2 : 2 ≤ n) : sp n ≤ 2 ^ e ∧ n - sp n ≤ 2 ^ e := by
  have h1 := sp_lt h2
  have h3 := sp_le h2
  rw [Nat.pow_succ] at h
  have h4 := sp_pow h2
  have h5 : (n - 1).log2 ≤ e := by
    have h6 := (Nat.log2_lt (n := n - 1) (k := e + 1) (by omega)).2 (by rw [Nat.pow_succ]; omega)
    omega
  have h7 := Nat.pow_le_pow_right (n := 2) (by omega) h5
  rw [h4] at h1 h3 ⊢
  omega
theorem pth_len : ∀ (e : Nat) (F : Nat → Nat → Nat) (n m : Nat), n ≤ 2 ^ e → (pth F n m).length ≤ e
  | 0, F, n, m, h => by
    rw [Nat.pow_zero] at h
    rw [pth_small F m (by omega)]
    exact Nat.le_refl _
  | e + 1, F, n, m, h => by
    by_cases h2 : n < 2
    · rw [pth_small F m h2]
      exact Nat.zero_le _
    · obtain ⟨g1, g2⟩ := sp_half h (by omega)
      by_cases hm : m < sp n
      · rw [pth_low F (by omega) hm, List.length_append]
        have := pth_len e F (sp n) m g1
        show _ + 1 ≤ e + 1
        omega
      · rw [pth_up F (by omega) hm, List.length_append]
        have := pth_len e (fun i => F (sp n + i)) (n - sp n) (m - sp n) g2
        show _ + 1 ≤ e + 1
        omega
theorem prf_len : ∀ (e : Nat) (F : Nat → Nat → Nat) (n m : Nat) (b : Bool), n ≤ 2 ^ e → (prf F n m b).length ≤ e + 1
  | 0, F, n, m, b, h => by
    rw [Nat.pow_zero] at h
    rw [prf_end F b (Or.inr (by omega))]
    cases b
    · exact Nat.le_refl _
    · exact Nat.zero_le _
  | e + 1, F, n, m, b, h => by
    by_cases h2 : n ≤ m ∨ n < 2
    · rw [prf_end F b h2]
      cases b
      · show 1 ≤ e + 1 + 1
        omega
      · exact Nat.zero_le _
    · obtain ⟨g1, g2⟩ := sp_half h (by omega)
      by_cases hm : m ≤ sp n
      · rw [prf_low F b (by omega) (by omega) hm, List.length_append]
        have := prf_len e F (sp n) m b g1
        show _ + 1 ≤ e + 1 + 1
        omega
      · rw [prf_up F b (by omega) (by omega) hm, List.length_append]
        have := prf_len e (fun i => F (sp n + i)) (n - sp n) (m - sp n) false g2
        show _ + 1 ≤ e + 1 + 1
        omega
end Go.Proofs.YteplklbpehkdjaaDoor
