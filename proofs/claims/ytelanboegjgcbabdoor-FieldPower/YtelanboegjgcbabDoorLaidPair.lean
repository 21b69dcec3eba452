/- How a pair of small numbers is read before the call, and behind it. -/
import Derived.Test.YtelanboegjgcbabDoorLaid
namespace Go.Proofs.YtelanboegjgcbabDoor
open Go.ChangeShapes Go.WideShapes Go.ChangeAt Go.RowKit

theorem cellsU32 : Tryd.prog.cellsOf 25 = 1 := by kernel_rfl
theorem cellsPair : Tryd.prog.cellsOf 26 = 2 := by kernel_rfl
theorem u32_of_wf {x : Int} (h : (Lit.int .u32 x).wf = true) : 0 ≤ x ∧ x < 4294967296 := by
  simp [Lit.wf, IntKind.min, IntKind.max, IntKind.signed, IntKind.bits] at h
  exact ⟨by omega, by omega⟩
theorem list2 {α : Type} (l : List α) (h : (⟨l⟩ : Array α).size = 2) : ∃ a b, l = [a, b] := by
  match l, h with
  | [a, b], _ => exact ⟨a, b, rfl⟩
theorem open_pair {H : Type} {enc : TypeId × Value → H} {W : World} {base : Nat} {v : Value} {d : DataW H} {p : List MemPlace}
    (hv : Value.okWide Tryd.prog W .any base 26 v) (h : DataW.Trod enc Tryd.prog W 0 (fun _ => true) true 26 v d p) :
    ∃ x y, (Lit.int .u32 x).wf = true ∧ (Lit.int .u32 y).wf = true ∧ v = .agg #[.int .u32 x, .int .u32 y] ∧ d = DataW.agg [.lit (.int .u32 x), .lit (.int .u32 y)] ∧ p = [] := by
  obtain ⟨cs, rfl, hsz, _⟩ : ∃ cs, v = .agg cs ∧ cs.size = Tryd.prog.cellsOf 26 ∧ Row.okWide Tryd.prog W .any base 26 cs := by
    simpa [Value.okWide, Tryd.underlying26] using hv
  rw [cellsPair] at hsz
  obtain ⟨l⟩ := cs
  obtain ⟨c0, c1, rfl⟩ := list2 l hsz
  obtain ⟨fuel, hf⟩ := h
  cases fuel with
  | zero => simp [DataW.trod] at hf
  | succ fuel =>
    simp only [DataW.trod, Value.cells, Tryd.underlying26, cellsPair, cellsU32] at hf
    rw [show List.range 2 = [0, 1] from rfl] at hf
    split at hf
    · simp only [Option.map_eq_some_iff, List.mapM_cons, List.mapM_nil, Option.bind_eq_bind, Option.bind_eq_some_iff, Option.pure_def, Option.some.injEq] at hf
      obtain ⟨ys, ⟨y0, h0, _, ⟨y1, h1, _, rfl, rfl⟩, rfl⟩, hx⟩ := hf
      obtain ⟨x0, e0, rfl, w0⟩ := DataW.trod_int Tryd.underlying25 h0
      obtain ⟨x1, e1, rfl, w1⟩ := DataW.trod_int Tryd.underlying25 h1
      simp at e0 e1
      subst e0 e1
      simp at hx
      obtain ⟨rfl, rfl⟩ := hx
      exact ⟨x0, x1, w0, w1, rfl, rfl, rfl⟩
    · cases hf
theorem shut_pair {H : Type} {enc : TypeId × Value → H} (W : World) (sp : Nat → Bool) {x y : Int} (w0 : (Lit.int .u32 x).wf = true) (w1 : (Lit.int .u32 y).wf = true) :
    DataW.Trod enc Tryd.prog W 0 sp true 26 (.agg #[.int .u32 x, .int .u32 y]) (DataW.agg [.lit (.int .u32 x), .lit (.int .u32 y)]) [] := by
  exact ⟨2, by simp [DataW.trod, Value.cells, Tryd.underlying26, Tryd.underlying25, cellsPair, cellsU32, w0, w1, show List.range 2 = [0, 1] from rfl]⟩
end Go.Proofs.YtelanboegjgcbabDoor
