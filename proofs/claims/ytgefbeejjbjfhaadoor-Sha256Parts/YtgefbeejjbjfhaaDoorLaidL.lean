/- How a list of bytes is read before the call. -/
import Derived.Test.YtgefbeejjbjfhaaDoorLaidS
import Derived.Deep.Matrix
namespace Go.Proofs.YtgefbeejjbjfhaaDoor
open Go.ChangeShapes Go.WideShapes Go.ChangeAt Go.RowKit

theorem cellsBytes : Tryd.prog.cellsOf 22 = 1 := by kernel_rfl
theorem open_lists {H : Type} {enc : TypeId × Value → H} {W : World} {base : Nat} {v : Value} {d : DataW H} {p : List MemPlace}
    (hv : Value.okWide Tryd.prog W .any base 29 v) (h : DataW.Trod enc Tryd.prog W 0 (fun _ => true) true 29 v d p) :
    ∃ x k c A L C G, v = .slice x k c ∧ PL W x k A L C G ∧ k ≤ c ∧ c ≤ maxLen := by
  obtain ⟨a0, len, cap, rfl⟩ := okWide_slice Tryd.underlying29 hv
  obtain ⟨fuel, hf⟩ := h
  rcases Deep.open_int_rows Tryd.underlying29 Tryd.underlying22 Tryd.underlying5 cellsBytes cellsU8 hf with ⟨hcs, _⟩ | ⟨a, len', cap', A, L, C, Z, hcs, _, hl, hm, _, hrow⟩
  · simp [Value.cells] at hcs
    obtain ⟨rfl, rfl, rfl⟩ := hcs
    exact ⟨none, 0, 0, fun _ => none, fun _ => 0, fun _ => 0, fun _ _ => 0, rfl, ⟨fun i hi => by omega, fun i hi => by omega, Or.inl rfl⟩, by omega, by unfold maxLen; omega⟩
  · simp [Value.cells] at hcs
    obtain ⟨rfl, rfl, rfl⟩ := hcs
    refine ⟨some a, len, cap, A, L, C, fun r i => ((Z r).getD i 0).toNat, rfl, ⟨fun r hr => ?_, fun r hr => ?_, ?_⟩, hl, hm⟩
    · obtain ⟨_, h1, h2, h3, hwz, hn, hs⟩ := hrow r (by omega)
      have hr8 : ∀ i, 0 ≤ (Z r).getD i 0 ∧ (Z r).getD i 0 < 256 := fun i => by
        have h := range_u8 hwz i
        simp only [List.getD_eq_getElem?_getD]
        omega
      refine ⟨fun i => by have := hr8 i; omega, ?_⟩
      by_cases h0 : L r = 0
      · exact Or.inl h0
      · cases hA : A r with
        | none => have := hn hA; omega
        | some a' =>
          obtain ⟨b, off, rfl, hc⟩ := ints_at (w := W) (a := a') (k := .u8) (zs := Z r) (fun i hi => (hs a' hA).2 i (by omega)) (by omega)
          exact Or.inr ⟨b, off, rfl, ⟨fun i hi => by
            have := hr8 i
            rw [hc i (by omega), Int.toNat_of_nonneg this.1]⟩⟩
    · obtain ⟨_, h1, h2, _⟩ := hrow r (by omega)
      exact ⟨h1, h2⟩
    · by_cases h0 : len = 0
      · exact Or.inl h0
      · obtain ⟨b, off, spot⟩ := a
        have hspot : spot = none := by simpa [Addr.add] using World.cell?_spot (hrow 0 (by omega)).1
        subst hspot
        exact Or.inr ⟨b, off, rfl, fun i hi => by rw [← Go.WideShapes.add_plain]; exact (hrow i (by omega)).1⟩
end Go.Proofs.YtgefbeejjbjfhaaDoor
