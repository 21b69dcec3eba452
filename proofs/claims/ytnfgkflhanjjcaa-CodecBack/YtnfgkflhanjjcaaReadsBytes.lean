/- How a parameter of bytes is read before the call. -/
import Derived.Test.YtnfgkflhanjjcaaReads
import Derived.Test.YtnfgkflhanjjcaaCAr8
import Derived.Carry
namespace Go.Proofs.Ytnfgkflhanjjcaa
open Go.ChangeShapes Go.WideShapes Go.ChangeAt Go.RowKit

theorem Try.laidOut : laidOutB Try.prog = true := by kernel_rfl
theorem cellsU8 : Try.prog.cellsOf 5 = 1 := by kernel_rfl
theorem open_bytes {H : Type} {enc : TypeId × Value → H} {W : World} {base : Nat} {v : Value} {d : DataW H} {p : List MemPlace}
    (hv : Value.okWide Try.prog W .any base 22 v) (h : DataW.Trod enc Try.prog W 0 (fun _ => true) true 22 v d p) :
    ∃ a n c f, v = .slice a n c ∧ BytesAt W a n c f := by
  obtain ⟨a0, len, cap, rfl⟩ := okWide_slice Try.underlying22 hv
  obtain ⟨fuel, hf⟩ := h
  rcases open_ints Try.underlying22 Try.underlying5 cellsU8 hf with ⟨hcs, hx⟩ | ⟨a, len', cap', zs, hcs, _, hl, hm, hz, hx, hcell, hwz⟩
  · simp [Value.cells] at hcs
    obtain ⟨rfl, rfl, rfl⟩ := hcs
    exact ⟨none, 0, 0, fun _ => 0, rfl, ⟨by omega, by omega, fun _ => ⟨by omega, by omega⟩, Or.inl rfl⟩⟩
  · simp [Value.cells] at hcs
    obtain ⟨rfl, rfl, rfl⟩ := hcs
    simp only [if_true] at hz
    unfold maxLen at hm
    refine ⟨some a, len, cap, fun i => zs.getD i 0, rfl, ⟨hl, by omega, fun i => ?_, ?_⟩⟩
    · have h := range_u8 hwz i
      simp only [List.getD_eq_getElem?_getD]
      omega
    · by_cases h0 : len = 0
      · exact Or.inl h0
      · obtain ⟨b, off, rfl, hc⟩ := ints_at hcell (by omega)
        exact Or.inr ⟨b, off, rfl, ⟨fun i hi => hc i (by omega)⟩⟩
end Go.Proofs.Ytnfgkflhanjjcaa
