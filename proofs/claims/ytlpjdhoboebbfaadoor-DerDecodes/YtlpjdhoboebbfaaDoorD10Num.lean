/- The number of bytes: what the last 32 of them make. -/
import Derived.Test.YtlpjdhoboebbfaaDoorD10Int
import Derived.Test.YtlpjdhoboebbfaaDoorB3
import Derived.Test.YtlpjdhoboebbfaaDoorVNum
import Derived.Test.YtlpjdhoboebbfaaDoorCBackB
namespace Go.Proofs.YtlpjdhoboebbfaaDoor
open Go.RowKit

theorem foldl_num (b : List Nat) : ∀ x : Nat, b.foldl (fun x b => 256 * x + b) x = x * 256 ^ b.length + b.foldl (fun x b => 256 * x + b) 0 := by
  induction b with
  | nil => intro x; simp
  | cons y b ih =>
    intro x
    rw [List.foldl_cons, List.foldl_cons, ih (256 * x + y), ih (256 * 0 + y), List.length_cons, Nat.pow_succ]
    generalize 256 ^ b.length = p
    rw [Nat.add_mul, Nat.mul_zero, Nat.zero_add, Nat.mul_comm 256 x, Nat.mul_assoc, Nat.mul_comm 256 p]
    omega
theorem num_app (a b : List Nat) : num (a ++ b) = num a * 256 ^ b.length + num b := by
  unfold num
  rw [List.foldl_append]
  exact foldl_num b _
theorem num_zeros (k : Nat) : num (List.replicate k 0) = 0 := by
  induction k with
  | zero => rfl
  | succ k ih => rw [List.replicate_succ', num_snoc, ih]
theorem num_lt {l : List Nat} (h : ∀ x ∈ l, x < 256) : num l < 256 ^ l.length := by
  have h1 := num_be (num l) l.length
  rw [be_num h] at h1
  rw [h1]
  exact Nat.mod_lt _ (Nat.pow_pos (by decide))
theorem num_last {l : List Nat} (h : ∀ x ∈ l, x < 256) (h32 : 32 ≤ l.length) : num (l.drop (l.length - 32)) = num l % 2 ^ 256 := by
  have e := num_app (l.take (l.length - 32)) (l.drop (l.length - 32))
  rw [List.take_append_drop, List.length_drop, show l.length - (l.length - 32) = 32 by omega] at e
  have hb : num (l.drop (l.length - 32)) < 256 ^ 32 := by
    have := num_lt (l := l.drop (l.length - 32)) (fun x hx => h x (List.mem_of_mem_drop hx))
    rw [List.length_drop, show l.length - (l.length - 32) = 32 by omega] at this
    exact this
  have h6 : (2 : Nat) ^ 256 = 256 ^ 32 := by decide
  rw [e, h6, Nat.mul_comm, Nat.mul_add_mod, Nat.mod_eq_of_lt hb]
/-- The document's own Big, of 32 bytes. -/
theorem refBig_num {z : Option Addr} {c : Nat} {w : World} {l : List Nat} (hl : l.length = 32) (hlt : ∀ x ∈ l, x < 256) (h : BA w z 32 (fun i => l.getD i 0)) :
    Calls Tryd.prog 21 [.slice z 32 c].toArray w fun e w' => e = .returned (.tuple [.agg (nc ((num l : Nat) : Int)).toArray, .bool true].toArray) ∧ Below w.heap.size w w' := by
  rcases h.at_ with h0 | ⟨b, o, rfl, hr⟩
  · omega
  have hg := refBig_any (cap := c) (fun i => ⟨by omega, by have := h.lt i; omega⟩) hr
  have hb := be_num hlt
  rw [hl] at hb
  have key : ∀ i, i < 32 → ((l.getD (31 - i) 0 : Nat) : Int) = Y i ((num l : Nat) : Int) := fun i hi => by
    have e := be_at (num l) 32 (31 - i) (by omega)
    rw [hb] at e
    rw [List.getD_eq_getElem?_getD, e, Y_nat]
    simp only [Option.getD_some]
    rw [show 32 - 1 - (31 - i) = i by omega]
  have e : ∀ o, o + 8 ≤ 32 → E (fun i => (fun i => ((l.getD i 0 : Nat) : Int)) (31 - i)) o 8 = E (fun i => Y i ((num l : Nat) : Int)) o 8 := fun o ho => E_congr o 8 (fun i hi => key _ (by omega))
  have w4 := E_words ((num l : Nat) : Int)
  rw [e 0 (by omega), e 8 (by omega), e 16 (by omega), e 24 (by omega), w4.1, w4.2.1, w4.2.2.1, w4.2.2.2] at hg
  exact hg
end Go.Proofs.YtlpjdhoboebbfaaDoor
