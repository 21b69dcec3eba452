/- How the parameters of layer 10's laws are read before the call. -/
import Derived.Test.YtlpjdhoboebbfaaReads
import Derived.Test.YtlpjdhoboebbfaaKApp
import Derived.Test.YtlpjdhoboebbfaaVNum
import Derived.Carry
namespace Go.Proofs.Ytlpjdhoboebbfaa
open Go.ChangeShapes Go.WideShapes Go.ChangeAt Go.RowKit

theorem Try.laidOut : laidOutB Try.prog = true := by kernel_rfl
theorem cellsU8 : Try.prog.cellsOf 5 = 1 := by kernel_rfl
theorem natOf {a : Int} (h : Num a) : ∃ A : Nat, a = (A : Int) ∧ A < 2 ^ 256 := ⟨a.toNat, by have := h.lo; omega, by have h2 := h.hi; have := h.lo; unfold M at h2; omega⟩
theorem open_slice {H : Type} {enc : TypeId × Value → H} {W : World} {fuel : Nat} {c : Value} {y : DataW H × List MemPlace} (hf : DataW.trod enc Try.prog W 0 (fun _ => true) true fuel 27 [c] = some y) : ∃ a n k f, c = .slice a n k ∧ BA W a n f ∧ n ≤ k := by
  rcases open_ints Try.underlying27 Try.underlying5 cellsU8 hf with ⟨hcs, hx⟩ | ⟨a, len', cap', zs, hcs, _, hl, hm, hz, hx, hcell, hwz⟩
  · simp at hcs
    exact ⟨none, 0, 0, fun _ => 0, hcs, ⟨fun _ => by omega, Or.inl rfl⟩, by omega⟩
  · simp at hcs
    subst hcs
    simp only [if_true] at hz
    have hr : ∀ i, 0 ≤ zs.getD i 0 ∧ zs.getD i 0 < 256 := fun i => by
      have h := range_u8 hwz i
      simp only [List.getD_eq_getElem?_getD]
      omega
    refine ⟨some a, _, _, fun i => (zs.getD i 0).toNat, rfl, ⟨fun i => by have := hr i; omega, ?_⟩, hl⟩
    by_cases h0 : len' = 0
    · exact Or.inl h0
    · obtain ⟨b, off, rfl, hc⟩ := ints_at hcell (by omega)
      exact Or.inr ⟨b, off, rfl, ⟨fun i hi => by
        have := hr i
        rw [hc i (by omega), Int.toNat_of_nonneg this.1]⟩⟩
theorem open_bytes {H : Type} {enc : TypeId × Value → H} {W : World} {base : Nat} {v : Value} {d : DataW H} {p : List MemPlace}
    (hv : Value.okWide Try.prog W .any base 27 v) (h : DataW.Trod enc Try.prog W 0 (fun _ => true) true 27 v d p) :
    ∃ a n c f, v = .slice a n c ∧ BA W a n f ∧ n ≤ c := by
  obtain ⟨a0, len, cap, rfl⟩ := okWide_slice Try.underlying27 hv
  obtain ⟨fuel, hf⟩ := h
  obtain ⟨a, n, k, f, e, h1, h2⟩ := open_slice (c := .slice a0 len cap) hf
  cases e
  exact ⟨_, _, _, f, rfl, h1, h2⟩
end Go.Proofs.Ytlpjdhoboebbfaa
