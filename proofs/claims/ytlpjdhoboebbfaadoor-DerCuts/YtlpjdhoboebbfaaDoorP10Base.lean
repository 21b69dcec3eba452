/- The program's own PutBig and Big, as things and lists. -/
import Derived.Test.YtlpjdhoboebbfaaDoorB3P
import Derived.Test.YtlpjdhoboebbfaaDoorD10Nr
import Derived.Test.YtlpjdhoboebbfaaDoorVQ6
namespace Go.Proofs.YtlpjdhoboebbfaaDoor
open Go.RowKit

theorem lt_lit {l : List Nat} (h : ∀ x ∈ l, x < 256) : ∀ x ∈ l, x < 256 := h
theorem lt_app {a b : List Nat} (ha : ∀ x ∈ a, x < 256) (hb : ∀ x ∈ b, x < 256) : ∀ x ∈ a ++ b, x < 256 := fun x hx => (List.mem_append.1 hx).elim (ha x) (hb x)
theorem lt_drop {a : List Nat} (ha : ∀ x ∈ a, x < 256) (k : Nat) : ∀ x ∈ a.drop k, x < 256 := fun x hx => ha x (List.mem_of_mem_drop hx)
theorem lt_take {a : List Nat} (ha : ∀ x ∈ a, x < 256) (k : Nat) : ∀ x ∈ a.take k, x < 256 := fun x hx => ha x (List.mem_of_mem_take hx)
theorem len_app {a b : List Nat} {n m : Nat} (ha : a.length = n) (hb : b.length = m) : (a ++ b).length = n + m := by rw [List.length_append, ha, hb]
theorem len_drop {a : List Nat} {n : Nat} (ha : a.length = n) (k : Nat) : (a.drop k).length = n - k := by rw [List.length_drop, ha]
theorem len_take {a : List Nat} {n : Nat} (ha : a.length = n) (k : Nat) (hk : k ≤ n) : (a.take k).length = k := by rw [List.length_take, ha]; omega
theorem lt_be (A n : Nat) : ∀ x ∈ be A n, x < 256 := be_lt A n
theorem be_getD (A : Nat) {n i : Nat} (h : i < n) : (be A n).getD i 0 = A / 256 ^ (n - 1 - i) % 256 := by
  rw [List.getD_eq_getElem?_getD, be_at A n i h]
  rfl
theorem Row8.inside {w : World} {b n : Nat} {f : Nat → Int} (h : Row8 w b n f) : b < w.heap.size := h.lt
/-- PutBig's bytes, as a thing that is only read. -/
theorem putBig_rd (A : Nat) (w : World) : Calls Tryd.prog 31 [.agg (nc (A : Int)).toArray].toArray w fun r w' => ∃ v Fp, r = .returned v ∧ (rdPd 32 (be A 32)).p v Fp w' ∧ (∀ b, Fp b = true → w.heap.size ≤ b ∧ b < w'.heap.size) ∧ Below w.heap.size w w' := by
  refine rd_of (be_len A 32) (Calls.mono (putBig_any (A : Int) w) ?_)
  rintro e w' ⟨rfl, hR, hb⟩
  refine ⟨_, 32, rfl, Nat.le_refl _, by omega, hR.inside, ⟨fun i => ?_, Or.inr ⟨_, _, rfl, hR.rd.congr (fun i hi => ?_)⟩⟩, hb⟩
  · rcases Nat.lt_or_ge i 32 with hi | hi
    · show (be A 32).getD i 0 < 256
      rw [be_getD A hi]
      exact Nat.mod_lt _ (by decide)
    · show (be A 32).getD i 0 < 256
      rw [List.getD_eq_getElem?_getD, List.getElem?_eq_none (by rw [be_len]; exact hi)]
      decide
  · show Y (31 - i) (A : Int) = (((be A 32).getD i 0 : Nat) : Int)
    rw [Y_nat, be_getD A hi, show 32 - 1 - i = 31 - i by omega]
/-- Big, of 32 bytes. -/
theorem big_num {z : Option Addr} {c : Nat} {w : World} {l : List Nat} (hl : l.length = 32) (hlt : ∀ x ∈ l, x < 256) (h : BA w z 32 (fun i => l.getD i 0)) :
    Calls Tryd.prog 32 [.slice z 32 c].toArray w fun e w' => e = .returned (.tuple [.agg (nc ((num l : Nat) : Int)).toArray, .bool true].toArray) ∧ Below w.heap.size w w' := by
  rcases h.at_ with h0 | ⟨b, o, rfl, hr⟩
  · omega
  have hg := big_any (cap := c) (fun i => ⟨by omega, by have := h.lt i; omega⟩) hr
  have hb := be_num hlt
  rw [hl] at hb
  have key : ∀ i, i < 32 → ((l.getD (31 - i) 0 : Nat) : Int) = Y i ((num l : Nat) : Int) := fun i hi => by
    have e := be_at (num l) 32 (31 - i) (by omega)
    rw [hb] at e
    rw [List.getD_eq_getElem?_getD, e, Y_nat]
    simp only [Option.getD_some]
    rw [show 32 - 1 - (31 - i) = i by omega]
  have e : ∀ o, o + 8 ≤ 32 → E (fun i => (fun i => ((l.getD i 0 : Nat) : Int)) (31 - i)) o 8 = E (fun i => Y i ((num l : Nat) : Int)) o 8 := fun o ho => E_congr o 8 (fun i hi => key _ (by omega))
  have w4 := E_words ((num l : Nat) : Int)
  rw [e 0 (by omega), e 8 (by omega), e 16 (by omega), e 24 (by omega), w4.1, w4.2.1, w4.2.2.1, w4.2.2.2] at hg
  exact hg
/-- A number's INTEGER, by its bytes from the first on that isn't 0. -/
theorem dI_be {A k : Nat} (hA : A < 2 ^ 256) (hk : k ≤ 31) (h0 : ∀ i, i < k → (be A 32).getD i 0 = 0) (h1 : k = 31 ∨ (be A 32).getD k 0 ≠ 0) : dI A = if 128 ≤ (be A 32).getD k 0 then [2, 33 - k] ++ ([0] ++ (be A 32).drop k) else [2, 32 - k] ++ (be A 32).drop k := by
  have e : ∀ i, i ≤ 31 → (be A 32).getD i 0 = A / 256 ^ (31 - i) % 256 := fun i hi => by rw [be_getD A (by omega), show 32 - 1 - i = 31 - i by omega]
  rw [e k hk] at h1 ⊢
  rw [dI_lead hA hk (fun i hi => by rw [← e i (by omega)]; exact h0 i hi) h1]
  have ed : (be A 32).drop k = fl (fun i => A / 256 ^ (31 - (k + i)) % 256) (32 - k) := by
    rw [be_fl, fl_tail (by omega)]
  rw [ed]
  split <;> rfl
end Go.Proofs.YtlpjdhoboebbfaaDoor
