/- How a parameter of four words is read before the call, and behind it. -/
import Derived.Test.YtlpjdhoboebbfaaDoorBase
import Derived.ProofKit
import Derived.Laws.IdiomArrays
import Derived.OpenShut
namespace Go.Proofs.YtlpjdhoboebbfaaDoor
open Go.ChangeShapes Go.WideShapes Go.ChangeAt Go.RowKit

theorem own : ownKnob Tryd.prog.godebug = none := by kernel_rfl
theorem cellsU64 : Tryd.prog.cellsOf 24 = 1 := by kernel_rfl
theorem cellsNat : Tryd.prog.cellsOf 26 = 4 := by kernel_rfl
theorem word_of_wf {x : Int} (h : (Lit.int .u64 x).wf = true) : 0 ≤ x ∧ x < 18446744073709551616 := by
  simp [Lit.wf, IntKind.min, IntKind.max, IntKind.signed, IntKind.bits] at h
  exact ⟨by omega, by omega⟩
theorem wf_of_word {x : Int} (h : 0 ≤ x ∧ x < 18446744073709551616) : (Lit.int .u64 x).wf = true := by
  simp [Lit.wf, IntKind.min, IntKind.max, IntKind.signed, IntKind.bits]
  omega
theorem list4 {α : Type} (l : List α) (h : (⟨l⟩ : Array α).size = 4) : ∃ a b c d, l = [a, b, c, d] := by
  match l, h with
  | [a, b, c, d], _ => exact ⟨a, b, c, d, rfl⟩

/-- A parameter of four words is the words of one number. -/
theorem open_nat {H : Type} {enc : TypeId × Value → H} {W : World} {base : Nat} {v : Value} {d : DataW H} {p : List MemPlace}
    (hv : Value.okWide Tryd.prog W .any base 26 v) (h : DataW.Trod enc Tryd.prog W 0 (fun _ => true) true 26 v d p) :
    ∃ a, Num a ∧ v = .agg #[.int .u64 (L 0 a), .int .u64 (L 1 a), .int .u64 (L 2 a), .int .u64 (L 3 a)] ∧ d = DataW.agg [.lit (.int .u64 (L 0 a)), .lit (.int .u64 (L 1 a)), .lit (.int .u64 (L 2 a)), .lit (.int .u64 (L 3 a))] ∧ p = [] := by
  obtain ⟨cs, rfl, hsz, _⟩ : ∃ cs, v = .agg cs ∧ cs.size = Tryd.prog.cellsOf 26 ∧ Row.okWide Tryd.prog W .any base 26 cs := by
    simpa [Value.okWide, Tryd.underlying26] using hv
  rw [cellsNat] at hsz
  obtain ⟨l⟩ := cs
  obtain ⟨c0, c1, c2, c3, rfl⟩ := list4 l hsz
  obtain ⟨fuel, hf⟩ := h
  obtain ⟨y0, y1, y2, y3, m, hx, hy0, hy1, hy2, hy3⟩ := trod_array4 Tryd.underlying26 cellsU64 hf
  obtain ⟨x0, e0, rfl, w0⟩ := DataW.trod_int Tryd.underlying24 hy0
  obtain ⟨x1, e1, rfl, w1⟩ := DataW.trod_int Tryd.underlying24 hy1
  obtain ⟨x2, e2, rfl, w2⟩ := DataW.trod_int Tryd.underlying24 hy2
  obtain ⟨x3, e3, rfl, w3⟩ := DataW.trod_int Tryd.underlying24 hy3
  simp at e0 e1 e2 e3
  subst e0 e1 e2 e3
  simp only [Prod.mk.injEq] at hx
  obtain ⟨rfl, rfl⟩ := hx
  obtain ⟨a, ha, rfl, rfl, rfl, rfl⟩ := num_of x0 x1 x2 x3 (word_of_wf w0) (word_of_wf w1) (word_of_wf w2) (word_of_wf w3)
  exact ⟨a, ha, rfl, rfl, rfl⟩
theorem shut_nat {H : Type} {enc : TypeId × Value → H} (W : World) (sp : Nat → Bool) (a : Int) :
    DataW.Trod enc Tryd.prog W 0 sp true 26 (.agg #[.int .u64 (L 0 a), .int .u64 (L 1 a), .int .u64 (L 2 a), .int .u64 (L 3 a)]) (DataW.agg [.lit (.int .u64 (L 0 a)), .lit (.int .u64 (L 1 a)), .lit (.int .u64 (L 2 a)), .lit (.int .u64 (L 3 a))]) [] := by
  have w0 := wf_of_word ⟨L_lo 0 a, L_hi 0 a⟩
  have w1 := wf_of_word ⟨L_lo 1 a, L_hi 1 a⟩
  have w2 := wf_of_word ⟨L_lo 2 a, L_hi 2 a⟩
  have w3 := wf_of_word ⟨L_lo 3 a, L_hi 3 a⟩
  exact ⟨2, by simp [DataW.trod, Value.cells, Tryd.underlying26, Tryd.underlying24, cellsNat, cellsU64, w0, w1, w2, w3, show List.range 4 = [0, 1, 2, 3] from rfl]⟩
end Go.Proofs.YtlpjdhoboebbfaaDoor
