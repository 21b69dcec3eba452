/- A name (no function of the program is named). -/
import Derived.Test.YtloboidolhpogaaDoorTTx
namespace Go.Proofs.YtloboidolhpogaaDoor

/-- A sign that may stand in a name. -/
def okc (c : Nat) : Bool := decide ((97 ≤ c ∧ c ≤ 122) ∨ (65 ≤ c ∧ c ≤ 90) ∨ (45 ≤ c ∧ c ≤ 57))
/-- A name. -/
def nameB (s : ByteArray) : Bool := decide ((∀ (j : Nat) (h : j < s.size), okc (s[j].toNat) = true) ∧ 0 < s.size ∧ s.size ≤ 40)
theorem name_no {s : ByteArray} (k : Nat) (h : k < s.size) (hc : okc (s[k].toNat) = false) : nameB s = false := by
  unfold nameB
  rw [decide_eq_false_iff_not]
  intro hh
  have := hh.1 k h
  rw [hc] at this
  cases this
theorem name_end {s : ByteArray} (h : ∀ (j : Nat) (h : j < s.size), okc (s[j].toNat) = true) : nameB s = (decide (0 < s.size) && decide (s.size ≤ 40)) := by
  unfold nameB
  rw [Bool.eq_iff_iff]
  simp only [decide_eq_true_eq, Bool.and_eq_true]
  exact ⟨fun hh => hh.2, fun hh => ⟨h, hh⟩⟩

end Go.Proofs.YtloboidolhpogaaDoor
