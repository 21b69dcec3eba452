/- How the parameters of layer 10's laws are read before the call. -/
import Derived.Test.YtlpjdhoboebbfaaDoorReads
import Derived.Test.YtlpjdhoboebbfaaDoorKApp
import Derived.Test.YtlpjdhoboebbfaaDoorVNum
import Derived.Carry
namespace Go.Proofs.YtlpjdhoboebbfaaDoor
open Go.ChangeShapes Go.WideShapes Go.ChangeAt Go.RowKit

theorem Tryd.laidOut : laidOutB Tryd.prog = true := by kernel_rfl
theorem cellsU8 : Tryd.prog.cellsOf 5 = 1 := by kernel_rfl
theorem natOf {a : Int} (h : Num a) : ∃ A : Nat, a = (A : Int) ∧ A < 2 ^ 256 := ⟨a.toNat, by have := h.lo; omega, by have h2 := h.hi; have := h.lo; unfold M at h2; omega⟩
theorem open_slice {H : Type} {enc : TypeId × Value → H} {W : World} {fuel : Nat} {c : Value} {y : DataW H × List MemPlace} (hf : DataW.trod enc Tryd.prog W 0 (fun _ => true) true fuel 22 [c] = some y) : ∃ a n k f, c = .slice a n k ∧ BA W a n f ∧ n ≤ k := by
  rcases open_ints Tryd.underlying22 Tryd.underlying5 cellsU8 hf with ⟨hcs, hx⟩ | ⟨a, len', cap', zs, hcs, _, hl, hm, hz, hx, hcell, hwz⟩
  · simp at hcs
    exact ⟨none, 0, 0, fun _ => 0, hcs, ⟨fun _ => by omega, Or.inl rfl⟩, by omega⟩
  · simp at hcs
    subst hcs
    simp only [if_true] at hz
    have hr : ∀ i, 0 ≤ zs.getD i 0 ∧ zs.getD i 0 < 256 := fun i => by
      have h := range_u8 hwz i
      simp only [List.getD_eq_getElem?_getD]
      omega
    refine ⟨some a, _, _, fun i => (zs.getD i 0).toNat, rfl, ⟨fun i => by have := hr i; omega, ?_⟩, hl⟩
    by_cases h0 : len' = 0
    · exact Or.inl h0
    · obtain ⟨b, off, rfl, hc⟩ := ints_at hcell (by omega)
      exact Or.inr ⟨b, off, rfl, ⟨fun i hi => by
        have := hr i
        rw [hc i (by omega), Int.toNat_of_nonneg this.1]⟩⟩
theorem open_bytes {H : Type} {enc : TypeId × Value → H} {W : World} {base : Nat} {v : Value} {d : DataW H} {p : List MemPlace}
    (hv : Value.okWide Tryd.prog W .any base 22 v) (h : DataW.Trod enc Tryd.prog W 0 (fun _ => true) true 22 v d p) :
    ∃ a n c f, v = .slice a n c ∧ BA W a n f ∧ n ≤ c := by
  obtain ⟨a0, len, cap, rfl⟩ := okWide_slice Tryd.underlying22 hv
  obtain ⟨fuel, hf⟩ := h
  obtain ⟨a, n, k, f, e, h1, h2⟩ := open_slice (c := .slice a0 len cap) hf
  cases e
  exact ⟨_, _, _, f, rfl, h1, h2⟩
theorem cellsCut : Tryd.prog.cellsOf 34 = 2 := by kernel_rfl
theorem cellsBytes : Tryd.prog.cellsOf 22 = 1 := by kernel_rfl
theorem open_cut {H : Type} {enc : TypeId × Value → H} {W : World} {base : Nat} {v : Value} {d : DataW H} {p : List MemPlace}
    (hv : Value.okWide Tryd.prog W .any base 34 v) (h : DataW.Trod enc Tryd.prog W 0 (fun _ => true) true 34 v d p) :
    ∃ (x : Nat) (a : Option Addr) (n c : Nat) (f : Nat → Nat), v = .agg [.int .u8 (x : Int), .slice a n c].toArray ∧ x < 256 ∧ BA W a n f := by
  obtain ⟨cs, rfl, hsz, _⟩ : ∃ cs, v = .agg cs ∧ cs.size = Tryd.prog.cellsOf 34 ∧ Row.okWide Tryd.prog W .any base 34 cs := by
    simpa [Value.okWide, Tryd.underlying34] using hv
  rw [cellsCut] at hsz
  obtain ⟨l⟩ := cs
  obtain ⟨x0, x1, rfl⟩ : ∃ x0 x1, l = [x0, x1] := by
    match l, hsz with
    | [x0, x1], _ => exact ⟨x0, x1, rfl⟩
  obtain ⟨fuel, hf⟩ := h
  cases fuel with
  | zero => simp [DataW.trod] at hf
  | succ fuel =>
    simp only [DataW.trod, Value.cells, Tryd.underlying34, cellsCut] at hf
    split at hf
    · simp only [Option.map_eq_some_iff, List.mapM_cons, List.mapM_nil, Option.bind_eq_bind, Option.bind_eq_some_iff, Option.pure_def, Option.some.injEq] at hf
      obtain ⟨ys, ⟨y0, h0, _, ⟨y1, h1, _, rfl, rfl⟩, rfl⟩, hx⟩ := hf
      obtain ⟨t, e, rfl, wt⟩ := DataW.trod_int Tryd.underlying5 h0
      simp [cellsU8] at e
      subst e
      simp [cellsBytes] at h1
      obtain ⟨a, n, c, f, rfl, h2, _⟩ := open_slice h1
      have hr : 0 ≤ t ∧ t < 256 := by
        simp [Lit.wf, IntKind.min, IntKind.max, IntKind.signed, IntKind.bits] at wt
        omega
      exact ⟨t.toNat, a, n, c, f, by rw [Int.toNat_of_nonneg hr.1], by omega, h2⟩
    · cases hf
end Go.Proofs.YtlpjdhoboebbfaaDoor
