/- Layer 18: what paths and proofs hang on; how many bits a number has (no function of the program is named). -/
import Derived.Test.YteplklbpehkdjaaDoorM18
import Derived.Test.YteplklbpehkdjaaDoorM17B
namespace Go.Proofs.YteplklbpehkdjaaDoor
set_option maxRecDepth 100000
open Go.RowKit

theorem shift_ext {F G : Nat → Nat → Nat} {n k : Nat} (h : ∀ i, i < n → F i = G i) (hk : k ≤ n) : ∀ i, i < n - k → (fun i => F (k + i)) i = (fun i => G (k + i)) i := fun i hi => h (k + i) (by omega)
theorem pth_ext : ∀ (n m : Nat) {F G : Nat → Nat → Nat}, (∀ i, i < n → F i = G i) → pth F n m = pth G n m := fun n => by
  induction n using Nat.strongRecOn with
  | ind n ih =>
    intro m F G h
    by_cases h2 : n < 2
    · rw [pth_small F m h2, pth_small G m h2]
    · have hs := sp_lt (n := n) (by omega)
      have hp := sp_pos (n := n) (by omega)
      by_cases hm : m < sp n
      · rw [pth_low F (by omega) hm, pth_low G (by omega) hm, ih (sp n) hs m (fun i hi => h i (by omega)), rt_ext (n - sp n) (shift_ext h (by omega))]
      · rw [pth_up F (by omega) hm, pth_up G (by omega) hm, ih (n - sp n) (by omega) (m - sp n) (shift_ext h (by omega)), rt_ext (sp n) (fun i hi => h i (by omega))]
theorem prf_ext : ∀ (n m : Nat) (b : Bool) {F G : Nat → Nat → Nat}, (∀ i, i < n → F i = G i) → prf F n m b = prf G n m b := fun n => by
  induction n using Nat.strongRecOn with
  | ind n ih =>
    intro m b F G h
    by_cases h2 : n ≤ m ∨ n < 2
    · rw [prf_end F b h2, prf_end G b h2, rt_ext n h]
    · have hs := sp_lt (n := n) (by omega)
      have hp := sp_pos (n := n) (by omega)
      by_cases hm : m ≤ sp n
      · rw [prf_low F b (by omega) (by omega) hm, prf_low G b (by omega) (by omega) hm, ih (sp n) hs m b (fun i hi => h i (by omega)), rt_ext (n - sp n) (shift_ext h (by omega))]
      · rw [prf_up F b (by omega) (by omega) hm, prf_up G b (by omega) (by omega) hm, ih (n - sp n) (by omega) (m - sp n) false (shift_ext h (by omega)), rt_ext (sp n) (fun i hi => h i (by omega))]
theorem rt_all {F : Nat → Nat → Nat} (hF : ∀ i j, F i j < 256) (p n : Nat) : ∀ j, rt (fun i => F (p + i)) n j < 256 := fun j => rt_lt (fun i => hF (p + i)) n j
theorem pth_lt : ∀ (n m : Nat) {F : Nat → Nat → Nat}, (∀ i j, F i j < 256) → ∀ f ∈ pth F n m, ∀ j, f j < 256 := fun n => by
  induction n using Nat.strongRecOn with
  | ind n ih =>
    intro m F hF f hf
    by_cases h2 : n < 2
    · rw [pth_small F m h2] at hf
      cases hf
    · have hs := sp_lt (n := n) (by omega)
      have hp := sp_pos (n := n) (by omega)
      by_cases hm : m < sp n
      · rw [pth_low F (by omega) hm] at hf
        rcases List.mem_append.1 hf with e | e
        · exact ih (sp n) hs m hF f e
        · rw [List.mem_singleton.1 e]
          exact rt_all hF _ _
      · rw [pth_up F (by omega) hm] at hf
        rcases List.mem_append.1 hf with e | e
        · exact ih (n - sp n) (by omega) (m - sp n) (fun i j => hF (sp n + i) j) f e
        · rw [List.mem_singleton.1 e]
          exact rt_lt hF _
theorem prf_lt : ∀ (n m : Nat) (b : Bool) {F : Nat → Nat → Nat}, (∀ i j, F i j < 256) → ∀ f ∈ prf F n m b, ∀ j, f j < 256 := fun n => by
  induction n using Nat.strongRecOn with
  | ind n ih =>
    intro m b F hF f hf
    by_cases h2 : n ≤ m ∨ n < 2
    · rw [prf_end F b h2] at hf
      cases b
      · rw [if_neg (by decide), List.mem_singleton] at hf
        rw [hf]
        exact rt_lt hF _
      · cases hf
    · have hs := sp_lt (n := n) (by omega)
      have hp := sp_pos (n := n) (by omega)
      by_cases hm : m ≤ sp n
      · rw [prf_low F b (by omega) (by omega) hm] at hf
        rcases List.mem_append.1 hf with e | e
        · exact ih (sp n) hs m b hF f e
        · rw [List.mem_singleton.1 e]
          exact rt_all hF _ _
      · rw [prf_up F b (by omega) (by omega) hm] at hf
        rcases List.mem_append.1 hf with e | e
        · exact ih (n - sp n) (by omega) (m - sp n) false (fun i j => hF (sp n + i) j) f e
        · rw [List.mem_singleton.1 e]
          exact rt_lt hF _
theorem pth_len_n : ∀ (n m : Nat) (F : Nat → Nat → Nat), (pth F n m).length ≤ n := fun n => by
  induction n using Nat.strongRecOn with
  | ind n ih =>
    intro m F
    by_cases h2 : n < 2
    · rw [pth_small F m h2]
      exact Nat.zero_le _
    · have hs := sp_lt (n := n) (by omega)
      have hp := sp_pos (n := n) (by omega)
      by_cases hm : m < sp n
      · rw [pth_low F (by omega) hm, List.length_append]
        have := ih (sp n) hs m F
        show _ + 1 ≤ n
        omega
      · rw [pth_up F (by omega) hm, List.length_append]
        have := ih (n - sp n) (by omega) (m - sp n) (fun i => F (sp n + i))
        show _ + 1 ≤ n
        omega
theorem prf_len_n : ∀ (n m : Nat) (b : Bool) (F : Nat → Nat → Nat), (prf F n m b).length ≤ n + 1 := fun n => by
  induction n using Nat.strongRecOn with
  | ind n ih =>
    intro m b F
    by_cases h2 : n ≤ m ∨ n < 2
    · rw [prf_end F b h2]
      cases b
      · show 1 ≤ n + 1
        omega
      · exact Nat.zero_le _
    · have hs := sp_lt (n := n) (by omega)
      have hp := sp_pos (n := n) (by omega)
      by_cases hm : m ≤ sp n
      · rw [prf_low F b (by omega) (by omega) hm, List.length_append]
        have := ih (sp n) hs m b F
        show _ + 1 ≤ n + 1
        omega
      · rw [prf_up F b (by omega) (by omega) hm, List.length_append]
        have := ih (n - sp n) (by omega) (m - sp n) false (fun i => F (sp n + i))
        show _ + 1 ≤ n + 1
        omega
/-- While bits are counted: b are counted, x is left of k. -/
def BtR (k x b : Nat) : Prop := k < (x + 1) * 2 ^ b
theorem BtR.start (k : Nat) : BtR k k 0 := by unfold BtR; omega
theorem BtR.next {k x b : Nat} (h : BtR k x b) (_hx : 0 < x) : BtR k (x / 2) (b + 1) := by
  unfold BtR at *
  have h1 : (x + 1) * 2 ^ b ≤ ((x / 2 + 1) * 2) * 2 ^ b := Nat.mul_le_mul_right _ (by omega)
  have h2 : (x / 2 + 1) * 2 * 2 ^ b = (x / 2 + 1) * 2 ^ (b + 1) := by rw [Nat.pow_succ, Nat.mul_assoc, Nat.mul_comm 2]
  omega
theorem BtR.done {n b : Nat} (h : BtR (n - 1) 0 b) : n ≤ 2 ^ b := by
  unfold BtR at h
  rw [Nat.zero_add, Nat.one_mul] at h
  omega
end Go.Proofs.YteplklbpehkdjaaDoor
