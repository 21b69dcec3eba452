/- Rows of bytes of one's own, as bytes that are handed on. -/
import Derived.Test.YtiahjnfopeiliaaDoorS5Cat
import Derived.Test.YtiahjnfopeiliaaDoorS5Sum
import Derived.Test.YtiahjnfopeiliaaDoorS5Eq
namespace Go.Proofs.YtiahjnfopeiliaaDoor
open Go.RowKit

theorem own_max {w : World} {base n : Nat} {v : Value} {xs : List Value} (h : w.ownsRow base 5 1 v n xs) : ∃ a cap, v = .slice a n cap ∧ n ≤ cap ∧ cap ≤ maxLen := by
  rcases h.2 with ⟨rfl, rfl⟩ | ⟨g, cap, cur, rfl, _, _, h1, h2, _⟩
  · exact ⟨_, _, rfl, Nat.le_refl _, by unfold maxLen; omega⟩
  · exact ⟨_, _, rfl, h1, h2⟩
theorem own_ba {w : World} {base n cap : Nat} {a : Option Addr} {f : Nat → Nat} (h : w.ownsRow base 5 1 (.slice a n cap) n (cells8 (fl f n))) (hf : ∀ i, f i < 256) : BA w a n f := by
  refine ⟨hf, ?_⟩
  by_cases h0 : n = 0
  · exact Or.inl h0
  · obtain ⟨g, cap', hv, hg, hr⟩ := own_rd (f := fun i => ((f i : Nat) : Int)) h (fun j hj => by rw [cells8_at _ j (by rw [fl_len]; exact hj), List.getD_eq_getElem?_getD, fl_at f hj]; rfl) (by omega)
    cases hv
    exact Or.inr ⟨g, 0, rfl, hr.rd⟩
theorem fl_cat (f g : Nat → Nat) (n m : Nat) : fl f n ++ fl g m = fl (cat f n g) (n + m) := by
  apply List.ext_getElem?
  intro i
  by_cases h1 : i < n
  · rw [List.getElem?_append_left (by rw [fl_len]; exact h1), fl_at _ h1, fl_at _ (by omega)]
    unfold cat
    rw [if_pos h1]
  · rw [List.getElem?_append_right (by rw [fl_len]; omega), fl_len]
    by_cases h2 : i < n + m
    · rw [fl_at _ (by omega), fl_at _ h2]
      unfold cat
      rw [if_neg h1]
    · rw [List.getElem?_eq_none (by rw [fl_len]; omega), List.getElem?_eq_none (by rw [fl_len]; omega)]
theorem refSum_hA {x : Option Addr} {n c : Nat} {f : Nat → Nat} {w : World} (h : BA w x n f) (hn : n ≤ 100000) :
    Calls Tryd.prog 14 #[.slice x n c] w fun e w' => e = .returned (.agg (hA f n)) ∧ Below w.heap.size w w' := by
  unfold hA
  exact refSum_any h hn
/-- A hash's block, as bytes. -/
theorem RowB.ba {w : World} {b n : Nat} {f : Nat → Nat} (h : RowB w b n f) (hf : ∀ i, f i < 256) : BA w (some ⟨b, 0, none⟩) n f := ⟨hf, Or.inr ⟨b, 0, rfl, Row8.rd h⟩⟩
theorem hByte_lt (s : St) (i : Nat) : hByte s i < 256 := Nat.mod_lt _ (by omega)
end Go.Proofs.YtiahjnfopeiliaaDoor
