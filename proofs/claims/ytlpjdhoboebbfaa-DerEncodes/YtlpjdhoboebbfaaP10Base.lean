/- The program's own PutBig and Big, as things and lists. -/
import Derived.Test.YtlpjdhoboebbfaaB3P
import Derived.Test.YtlpjdhoboebbfaaD10Enc
import Derived.Test.YtlpjdhoboebbfaaVQ6
namespace Go.Proofs.Ytlpjdhoboebbfaa
open Go.RowKit

theorem lt_lit {l : List Nat} (h : ∀ x ∈ l, x < 256) : ∀ x ∈ l, x < 256 := h
theorem lt_app {a b : List Nat} (ha : ∀ x ∈ a, x < 256) (hb : ∀ x ∈ b, x < 256) : ∀ x ∈ a ++ b, x < 256 := fun x hx => (List.mem_append.1 hx).elim (ha x) (hb x)
theorem lt_drop {a : List Nat} (ha : ∀ x ∈ a, x < 256) (k : Nat) : ∀ x ∈ a.drop k, x < 256 := fun x hx => ha x (List.mem_of_mem_drop hx)
theorem lt_take {a : List Nat} (ha : ∀ x ∈ a, x < 256) (k : Nat) : ∀ x ∈ a.take k, x < 256 := fun x hx => ha x (List.mem_of_mem_take hx)
theorem len_app {a b : List Nat} {n m : Nat} (ha : a.length = n) (hb : b.length = m) : (a ++ b).length = n + m := by rw [List.length_append, ha, hb]
theorem len_drop {a : List Nat} {n : Nat} (ha : a.length = n) (k : Nat) : (a.drop k).length = n - k := by rw [List.length_drop, ha]
theorem len_take {a : List Nat} {n : Nat} (ha : a.length = n) (k : Nat) (hk : k ≤ n) : (a.take k).length = k := by rw [List.length_take, ha]; omega
theorem lt_be (A n : Nat) : ∀ x ∈ be A n, x < 256 := be_lt A n
theorem be_getD (A : Nat) {n i : Nat} (h : i < n) : (be A n).getD i 0 = A / 256 ^ (n - 1 - i) % 256 := by
  rw [List.getD_eq_getElem?_getD, be_at A n i h]
  rfl
theorem Row8.inside {w : World} {b n : Nat} {f : Nat → Int} (h : Row8 w b n f) : b < w.heap.size := h.lt
/-- PutBig's bytes, as a thing that is only read. -/
theorem putBig_rd (A : Nat) (w : World) : Calls Try.prog 15 [.agg (nc (A : Int)).toArray].toArray w fun r w' => ∃ v Fp, r = .returned v ∧ (rdPd 32 (be A 32)).p v Fp w' ∧ (∀ b, Fp b = true → w.heap.size ≤ b ∧ b < w'.heap.size) ∧ Below w.heap.size w w' := by
  refine rd_of (be_len A 32) (Calls.mono (putBig_any (A : Int) w) ?_)
  rintro e w' ⟨rfl, hR, hb⟩
  refine ⟨_, 32, rfl, Nat.le_refl _, by omega, hR.inside, ⟨fun i => ?_, Or.inr ⟨_, _, rfl, hR.rd.congr (fun i hi => ?_)⟩⟩, hb⟩
  · rcases Nat.lt_or_ge i 32 with hi | hi
    · show (be A 32).getD i 0 < 256
      rw [be_getD A hi]
      exact Nat.mod_lt _ (by decide)
    · show (be A 32).getD i 0 < 256
      rw [List.getD_eq_getElem?_getD, List.getElem?_eq_none (by rw [be_len]; exact hi)]
      decide
  · show Y (31 - i) (A : Int) = (((be A 32).getD i 0 : Nat) : Int)
    rw [Y_nat, be_getD A hi, show 32 - 1 - i = 31 - i by omega]
end Go.Proofs.Ytlpjdhoboebbfaa
