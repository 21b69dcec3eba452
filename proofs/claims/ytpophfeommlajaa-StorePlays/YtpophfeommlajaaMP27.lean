/- Two lists of bytes held against each other by the document's own Same. -/
import Derived.Test.YtpophfeommlajaaMP26
import Derived.Test.YtpophfeommlajaaMP07
namespace Go.Proofs.Ytpophfeommlajaa
set_option maxRecDepth 100000
open Go.RowKit

theorem same_ba {a a2 : Option Addr} {n n2 c c2 : Nat} {f g : Nat → Nat} {w : World} (h : BA w a n f) (h2 : BA w a2 n2 g) (hn : n ≤ 1000000) :
    Calls Try.prog 31 #[.slice a n c, .slice a2 n2 c2] w fun e w' => e = .returned (.bool (decide (n = n2 ∧ ∀ i, i < n → f i = g i))) ∧ Below w.heap.size w w' := by
  by_cases e : n = n2
  · subst e
    by_cases e0 : n = 0
    · subst e0
      refine (same_none a a2 c c2 w).mono ?_
      rintro e w1 ⟨rfl, rfl⟩
      exact ⟨ret_bool (decide_eq_true ⟨rfl, fun i hi => by omega⟩).symm, Below.refl _ _⟩
    · rcases h.at_ with h0 | ⟨b, o, rfl, hr⟩
      · omega
      rcases h2.at_ with h0 | ⟨b2, o2, rfl, hr2⟩
      · omega
      refine (same_any hn hr hr2).mono ?_
      rintro e w1 ⟨rfl, hb⟩
      refine ⟨ret_bool ?_, hb⟩
      unfold sameB
      rw [Bool.eq_iff_iff, decide_eq_true_eq, decide_eq_true_eq]
      exact ⟨fun hh => ⟨rfl, fun i hi => Int.ofNat_inj.1 (hh i hi)⟩, fun hh i hi => congrArg (fun (x : Nat) => (x : Int)) (hh.2 i hi)⟩
  · refine (same_len a a2 n n2 c c2 e w).mono ?_
    rintro e w1 ⟨rfl, rfl⟩
    exact ⟨ret_bool (decide_eq_false (fun hh => e hh.1)).symm, Below.refl _ _⟩
/-- .. as lists. -/
theorem same_fl {a a2 : Option Addr} {n n2 c c2 : Nat} {f g : Nat → Nat} {w : World} (h : BA w a n f) (h2 : BA w a2 n2 g) (hn : n ≤ 1000000) :
    Calls Try.prog 31 #[.slice a n c, .slice a2 n2 c2] w fun e w' => e = .returned (.bool (decide (fl f n = fl g n2))) ∧ Below w.heap.size w w' := by
  have e : decide (fl f n = fl g n2) = decide (n = n2 ∧ ∀ i, i < n → f i = g i) := by
    rw [decide_eq_decide]
    constructor
    · intro hh
      have e1 : n = n2 := by
        have := congrArg List.length hh
        rwa [fl_len, fl_len] at this
      subst e1
      refine ⟨rfl, fun i hi => ?_⟩
      have := congrArg (fun l => l[i]?) hh
      simpa [fl_at _ hi] using this
    · rintro ⟨e1, hh⟩
      subst e1
      apply List.ext_getElem?
      intro i
      rcases Nat.lt_or_ge i n with hi | hi
      · rw [fl_at _ hi, fl_at _ hi, hh i hi]
      · rw [List.getElem?_eq_none (by rw [fl_len]; exact hi), List.getElem?_eq_none (by rw [fl_len]; exact hi)]
  rw [e]
  exact same_ba h h2 hn
end Go.Proofs.Ytpophfeommlajaa
