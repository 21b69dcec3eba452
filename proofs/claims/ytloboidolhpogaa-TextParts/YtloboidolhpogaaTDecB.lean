/- Words for what the document's own Decode gathers. -/
import Derived.Test.YtloboidolhpogaaKOwn
import Derived.Test.YtloboidolhpogaaTEncP
import Derived.Test.YtloboidolhpogaaTSameP
namespace Go.Proofs.Ytloboidolhpogaa
open Go.RowKit
attribute [local go_sem ↓] Go.wp_at_zero Go.wp_at_succ

/-- What a sign stands for; 0 of one that is none. -/
def vz (c : UInt8) : Nat := ((List.range 64).find? (fun n => sgn n == c)).getD 0
theorem vz_sgn : ∀ n, n < 64 → vz (sgn n) = n := by decide +kernel
theorem vz_none {c : UInt8} (h : ∀ n, n < 64 → sgn n ≠ c) : vz c = 0 := by
  unfold vz
  rw [List.find?_eq_none.2 (fun n hn => by simpa using h n (List.mem_range.1 hn))]
  rfl
theorem vz_lt (c : UInt8) : vz c < 64 := by
  unfold vz
  cases h : (List.range 64).find? (fun n => sgn n == c) with
  | none => simp
  | some n => exact List.mem_range.1 (List.mem_of_find?_eq_some h)
/-- The number of r signs from place m on. -/
def part (l : List UInt8) (m : Nat) : Nat → Nat
  | 0 => 0
  | r + 1 => part l m r * 64 + vz (l.getD (m + r) 0)
theorem part_lt (l : List UInt8) (m : Nat) : ∀ r, part l m r < 64 ^ r
  | 0 => by simp [part]
  | r + 1 => by
    have := part_lt l m r
    have := vz_lt (l.getD (m + r) 0)
    simp only [part, Nat.pow_succ]
    omega
/-- The bytes of k times four signs. -/
def dl (l : List UInt8) : Nat → List Nat
  | 0 => []
  | k + 1 => dl l k ++ [part l (4 * k) 4 / 65536, part l (4 * k) 4 / 256 % 256, part l (4 * k) 4 % 256]

theorem dl_len (l : List UInt8) : ∀ k, (dl l k).length = 3 * k
  | 0 => rfl
  | k + 1 => by simp only [dl, List.length_append, dl_len l k, List.length_cons, List.length_nil]; omega
theorem dl_lt (l : List UInt8) : ∀ k, ∀ x ∈ dl l k, x < 256
  | 0, x, h => by cases h
  | k + 1, x, h => by
    simp only [dl] at h
    rcases List.mem_append.1 h with h | h
    · exact dl_lt l k x h
    · have hp := part_lt l (4 * k) 4
      simp only [List.mem_cons, List.not_mem_nil, or_false] at h
      rcases h with rfl | rfl | rfl <;> omega
/-- How many = stand at the end, two at most. -/
def eqs (l : List UInt8) : Nat := if l.getD (l.length - 1) 0 = 61 then (if l.getD (l.length - 1 - 1) 0 = 61 then 2 else 1) else 0
theorem sameB_texts {a b : List UInt8} {n : Nat} (ha : a.length = n) (hb : b.length = n) : sameB (fun i => ((a.getD i 0).toNat : Int)) (fun i => ((b.getD i 0).toNat : Int)) n = decide (a = b) := by
  unfold sameB
  rw [Bool.eq_iff_iff, decide_eq_true_eq, decide_eq_true_eq]
  constructor
  · intro h
    apply List.ext_getElem (by omega)
    intro i h1 h2
    have hi : ((a.getD i 0).toNat : Int) = ((b.getD i 0).toNat : Int) := h i (by omega)
    rw [List.getD_eq_getElem?_getD, List.getD_eq_getElem?_getD, List.getElem?_eq_getElem h1, List.getElem?_eq_getElem h2] at hi
    simp only [Option.getD_some] at hi
    exact UInt8.toNat_inj.1 (by omega)
  · intro h i _
    rw [h]
end Go.Proofs.Ytloboidolhpogaa
