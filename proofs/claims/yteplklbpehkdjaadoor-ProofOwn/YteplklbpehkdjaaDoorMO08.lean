/- Layer 18: the document's own Proof. Layer 17: parts with their sizes, and how one more is joined to them (no function of the program is named). Layer 18: what paths and proofs hang on; how many bits a number has (no function of the program is named). Layer 18: the document's own Path and Proof where there is none. The hash of a byte 0, word by word. -/
import Derived.Test.YteplklbpehkdjaaDoorMO07
import Derived.Test.YteplklbpehkdjaaDoorMO01
namespace Go.Proofs.YteplklbpehkdjaaDoor
set_option maxRecDepth 100000
open Go.RowKit
attribute [local go_sem ↓] Go.wp_at_zero Go.wp_at_succ

end Go.Proofs.YteplklbpehkdjaaDoor
namespace Go.Proofs.YteplklbpehkdjaaDoor
set_option maxRecDepth 100000
open Go.RowKit

theorem rt_ext : ∀ (n : Nat) {F G : Nat → Nat → Nat}, (∀ i, i < n → F i = G i) → rt F n = rt G n := fun n => by
  induction n using Nat.strongRecOn with
  | ind n ih =>
    intro F G h
    by_cases h2 : n < 2
    · by_cases h0 : n = 0
      · subst h0
        rw [rt_zero, rt_zero]
      · obtain rfl : n = 1 := by omega
        rw [rt_one, rt_one, h 0 (by omega)]
    · have hs := sp_lt (n := n) (by omega)
      have hp := sp_pos (n := n) (by omega)
      rw [rt_more F (by omega), rt_more G (by omega), ih (sp n) hs (fun i hi => h i (by omega)), ih (n - sp n) (by omega) (F := fun i => F (sp n + i)) (G := fun i => G (sp n + i)) (fun i hi => h _ (by omega))]
end Go.Proofs.YteplklbpehkdjaaDoor
namespace Go.Proofs.YteplklbpehkdjaaDoor
set_option maxRecDepth 100000
open Go.RowKit

theorem shift_ext {F G : Nat → Nat → Nat} {n k : Nat} (h : ∀ i, i < n → F i = G i) (hk : k ≤ n) : ∀ i, i < n - k → (fun i => F (k + i)) i = (fun i => G (k + i)) i := fun i hi => h (k + i) (by omega)
theorem pth_ext : ∀ (n m : Nat) {F G : Nat → Nat → Nat}, (∀ i, i < n → F i = G i) → pth F n m = pth G n m := fun n => by
  induction n using Nat.strongRecOn with
  | ind n ih =>
    intro m F G h
    by_cases h2 : n < 2
    · rw [pth_small F m h2, pth_small G m h2]
    · have hs := sp_lt (n := n) (by omega)
      have hp := sp_pos (n := n) (by omega)
      by_cases hm : m < sp n
      · rw [pth_low F (by omega) hm, pth_low G (by omega) hm, ih (sp n) hs m (fun i hi => h i (by omega)), rt_ext (n - sp n) (shift_ext h (by omega))]
      · rw [pth_up F (by omega) hm, pth_up G (by omega) hm, ih (n - sp n) (by omega) (m - sp n) (shift_ext h (by omega)), rt_ext (sp n) (fun i hi => h i (by omega))]
theorem prf_ext : ∀ (n m : Nat) (b : Bool) {F G : Nat → Nat → Nat}, (∀ i, i < n → F i = G i) → prf F n m b = prf G n m b := fun n => by
  induction n using Nat.strongRecOn with
  | ind n ih =>
    intro m b F G h
    by_cases h2 : n ≤ m ∨ n < 2
    · rw [prf_end F b h2, prf_end G b h2, rt_ext n h]
    · have hs := sp_lt (n := n) (by omega)
      have hp := sp_pos (n := n) (by omega)
      by_cases hm : m ≤ sp n
      · rw [prf_low F b (by omega) (by omega) hm, prf_low G b (by omega) (by omega) hm, ih (sp n) hs m b (fun i hi => h i (by omega)), rt_ext (n - sp n) (shift_ext h (by omega))]
      · rw [prf_up F b (by omega) (by omega) hm, prf_up G b (by omega) (by omega) hm, ih (n - sp n) (by omega) (m - sp n) false (shift_ext h (by omega)), rt_ext (sp n) (fun i hi => h i (by omega))]
theorem rt_all {F : Nat → Nat → Nat} (hF : ∀ i j, F i j < 256) (p n : Nat) : ∀ j, rt (fun i => F (p + i)) n j < 256 := fun j => rt_lt (fun i => hF (p + i)) n j
theorem pth_lt : ∀ (n m : Nat) {F : Nat → Nat → Nat}, (∀ i j, F i j < 256) → ∀ f ∈ pth F n m, ∀ j, f j < 256 := fun n => by
  induction n using Nat.strongRecOn with
  | ind n ih =>
    intro m F hF f hf
    by_cases h2 : n < 2
    · rw [pth_small F m h2] at hf
      cases hf
    · have hs := sp_lt (n := n) (by omega)
      have hp := sp_pos (n := n) (by omega)
      by_cases hm : m < sp n
      · rw [pth_low F (by omega) hm] at hf
        rcases List.mem_append.1 hf with e | e
        · exact ih (sp n) hs m hF f e
        · rw [List.mem_singleton.1 e]
          exact rt_all hF _ _
      · rw [pth_up F (by omega) hm] at hf
        rcases List.mem_append.1 hf with e | e
        · exact ih (n - sp n) (by omega) (m - sp n) (fun i j => hF (sp n + i) j) f e
        · rw [List.mem_singleton.1 e]
          exact rt_lt hF _
theorem prf_lt : ∀ (n m : Nat) (b : Bool) {F : Nat → Nat → Nat}, (∀ i j, F i j < 256) → ∀ f ∈ prf F n m b, ∀ j, f j < 256 := fun n => by
  induction n using Nat.strongRecOn with
  | ind n ih =>
    intro m b F hF f hf
    by_cases h2 : n ≤ m ∨ n < 2
    · rw [prf_end F b h2] at hf
      cases b
      · rw [if_neg (by decide), List.mem_singleton] at hf
        rw [hf]
        exact rt_lt hF _
      · cases hf
    · have hs := sp_lt (n := n) (by omega)
      have hp := sp_pos (n := n) (by omega)
      by_cases hm : m ≤ sp n
      · rw [prf_low F b (by omega) (by omega) hm] at hf
        rcases List.mem_append.1 hf with e | e
        · exact ih (sp n) hs m b hF f e
        · rw [List.mem_singleton.1 e]
          exact rt_all hF _ _
      · rw [prf_up F b (by omega) (by omega) hm] at hf
        rcases List.mem_append.1 hf with e | e
        · exact ih (n - sp n) (by omega) (m - sp n) false (fun i j => hF (sp n + i) j) f e
        · rw [List.mem_singleton.1 e]
          exact rt_lt hF _
theorem pth_len_n : ∀ (n m : Nat) (F : Nat → Nat → Nat), (pth F n m).length ≤ n := fun n => by
  induction n using Nat.strongRecOn with
  | ind n ih =>
    intro m F
    by_cases h2 : n < 2
    · rw [pth_small F m h2]
      exact Nat.zero_le _
    · have hs := sp_lt (n := n) (by omega)
      have hp := sp_pos (n := n) (by omega)
      by_cases hm : m < sp n
      · rw [pth_low F (by omega) hm, List.length_append]
        have := ih (sp n) hs m F
        show _ + 1 ≤ n
        omega
      · rw [pth_up F (by omega) hm, List.length_append]
        have := ih (n - sp n) (by omega) (m - sp n) (fun i => F (sp n + i))
        show _ + 1 ≤ n
        omega
theorem prf_len_n : ∀ (n m : Nat) (b : Bool) (F : Nat → Nat → Nat), (prf F n m b).length ≤ n + 1 := fun n => by
  induction n using Nat.strongRecOn with
  | ind n ih =>
    intro m b F
    by_cases h2 : n ≤ m ∨ n < 2
    · rw [prf_end F b h2]
      cases b
      · show 1 ≤ n + 1
        omega
      · exact Nat.zero_le _
    · have hs := sp_lt (n := n) (by omega)
      have hp := sp_pos (n := n) (by omega)
      by_cases hm : m ≤ sp n
      · rw [prf_low F b (by omega) (by omega) hm, List.length_append]
        have := ih (sp n) hs m b F
        show _ + 1 ≤ n + 1
        omega
      · rw [prf_up F b (by omega) (by omega) hm, List.length_append]
        have := ih (n - sp n) (by omega) (m - sp n) false (fun i => F (sp n + i))
        show _ + 1 ≤ n + 1
        omega
/-- While bits are counted: b are counted, x is left of k. -/
def BtR (k x b : Nat) : Prop := k < (x + 1) * 2 ^ b
theorem BtR.start (k : Nat) : BtR k k 0 := by unfold BtR; omega
end Go.Proofs.YteplklbpehkdjaaDoor
namespace Go.Proofs.YteplklbpehkdjaaDoor
set_option maxRecDepth 100000
open Go.RowKit
attribute [local go_sem ↓] Go.wp_at_zero Go.wp_at_succ

end Go.Proofs.YteplklbpehkdjaaDoor
namespace Go.Proofs.YteplklbpehkdjaaDoor
set_option maxRecDepth 100000

end Go.Proofs.YteplklbpehkdjaaDoor
