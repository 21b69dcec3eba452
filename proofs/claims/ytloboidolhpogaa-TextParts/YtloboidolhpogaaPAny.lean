/- What text.Decode answers of all texts. -/
import Derived.Test.YtloboidolhpogaaPAwake
import Derived.Test.YtloboidolhpogaaPDecN
import Derived.Test.YtloboidolhpogaaTSame
namespace Go.Proofs.Ytloboidolhpogaa
open Go.RowKit

theorem encW_congr {f g : Nat → Nat} : ∀ {k : Nat}, (∀ i, i < 3 * k → f i = g i) → encW f k = encW g k
  | 0, _ => rfl
  | k + 1, h => by
    simp only [encW]
    rw [encW_congr (fun i hi => h i (by omega)), h (3 * k) (by omega), h (3 * k + 1) (by omega), h (3 * k + 2) (by omega)]
theorem enc_congr {f g : Nat → Nat} {n : Nat} (h : ∀ i, i < n → f i = g i) : enc f n = enc g n := by
  unfold enc encT
  rw [encW_congr (fun i hi => h i (by omega))]
  congr 1
  rcases (show n % 3 = 0 ∨ n % 3 = 1 ∨ n % 3 = 2 by omega) with e | e | e
  · rw [if_neg (by omega), if_neg (by omega), if_neg (by omega), if_neg (by omega)]
  · rw [if_pos e, if_pos e, h (n - 1) (by omega)]
  · rw [if_neg (by omega), if_pos e, if_neg (by omega), if_pos e, h (n - 1) (by omega), h (n - 2) (by omega)]
theorem dec_none {l : List UInt8} (h0 : 0 < l.length) (h : enc (fun i => (dl l (l.length / 4)).getD i 0) (3 * (l.length / 4) - eqs l) ≠ l) : ∀ n f, (∀ i, f i < 256) → enc f n ≠ l := by
  intro n f hf he
  apply h
  have hn : 0 < n := by
    rcases Nat.eq_zero_or_pos n with e | e
    · subst e
      have := enc_len f 0
      rw [he] at this
      omega
    · exact e
  have e1 := eqs_enc hf n hn
  have e2 := fun i hi => dl_enc hf n i hi
  rw [he] at e1 e2
  rw [e1, ← he]
  rw [he]
  conv => rhs; rw [← he]
  exact enc_congr e2
/-- What is told of a text: the bytes whose text it is, or that there are none. -/
def DecU (l : List UInt8) (w : World) (e : Ending) (w' : World) : Prop := Below w.heap.size w w' ∧
  ((∃ a n c f, BA w' a n f ∧ n ≤ c ∧ enc f n = l ∧ e = .returned (.tuple #[.slice a n c, .bool true])) ∨
   ((∀ n f, (∀ i, f i < 256) → enc f n ≠ l) ∧ e = .returned (.tuple #[.slice none 0 0, .bool false])))
theorem decode_any (l : List UInt8) (hl : l.length ≤ 1000) (w : World) : Calls Try.prog 8 #[.string (tx l)] w fun e w' => DecU l w e w' := by
  by_cases h0 : l = []
  · subst h0
    refine (decode_none w).mono ?_
    rintro e w1 ⟨⟨a, cap, rfl⟩, hb⟩
    exact ⟨hb, Or.inl ⟨a, 0, cap, fun _ => 0, ⟨fun _ => by omega, Or.inl rfl⟩, by omega, rfl, rfl⟩⟩
  · have hp : 0 < l.length := List.length_pos_iff.2 h0
    by_cases h4 : l.length % 4 = 0
    · refine (decode_some l hl h4 hp w).mono ?_
      rintro e w1 ⟨hb, ⟨he, g, cap, hc, rfl, hr⟩ | ⟨he, rfl⟩⟩
      · exact ⟨hb, Or.inl ⟨_, _, cap, _, ⟨getD_lt (dl_lt l _), Or.inr ⟨g, 0, rfl, hr⟩⟩, hc, he, rfl⟩⟩
      · exact ⟨hb, Or.inr ⟨dec_none hp he, rfl⟩⟩
    · refine (decode_odd l h4 w).mono ?_
      rintro e w1 ⟨rfl, rfl⟩
      refine ⟨Below.refl _ _, Or.inr ⟨fun n f _ he => h4 ?_, rfl⟩⟩
      rw [← he, enc_len]
      omega
theorem same_ba {a a2 : Option Addr} {n n2 c c2 : Nat} {f g : Nat → Nat} {w : World} (h : BA w a n f) (h2 : BA w a2 n2 g) (hn : n ≤ 1000000) :
    Calls Try.prog 12 #[.slice a n c, .slice a2 n2 c2] w fun e w' => e = .returned (.bool (decide (n = n2 ∧ ∀ i, i < n → f i = g i))) ∧ Below w.heap.size w w' := by
  by_cases e : n = n2
  · subst e
    by_cases e0 : n = 0
    · subst e0
      refine (same_none a a2 c c2 w).mono ?_
      rintro e w1 ⟨rfl, rfl⟩
      exact ⟨ret_bool (decide_eq_true ⟨rfl, fun i hi => by omega⟩).symm, Below.refl _ _⟩
    · rcases h.at_ with h0 | ⟨b, o, rfl, hr⟩
      · omega
      rcases h2.at_ with h0 | ⟨b2, o2, rfl, hr2⟩
      · omega
      refine (same_any hn hr hr2).mono ?_
      rintro e w1 ⟨rfl, hb⟩
      refine ⟨ret_bool ?_, hb⟩
      unfold sameB
      rw [Bool.eq_iff_iff, decide_eq_true_eq, decide_eq_true_eq]
      exact ⟨fun hh => ⟨rfl, fun i hi => Int.ofNat_inj.1 (hh i hi)⟩, fun hh i hi => congrArg (fun (x : Nat) => (x : Int)) (hh.2 i hi)⟩
  · refine (same_len a a2 n n2 c c2 e w).mono ?_
    rintro e w1 ⟨rfl, rfl⟩
    exact ⟨ret_bool (decide_eq_false (fun hh => e hh.1)).symm, Below.refl _ _⟩
end Go.Proofs.Ytloboidolhpogaa
