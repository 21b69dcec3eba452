/- How a number of eight words is read before the call, and behind it. -/
import Derived.Test.YtelanboegjgcbaaDoorLaid
namespace Go.Proofs.YtelanboegjgcbaaDoor
open Go.ChangeShapes Go.WideShapes Go.ChangeAt Go.RowKit

theorem cellsWide : Tryd.prog.cellsOf 31 = 8 := by kernel_rfl
theorem list8 {α : Type} (l : List α) (h : (⟨l⟩ : Array α).size = 8) : ∃ c0 c1 c2 c3 c4 c5 c6 c7, l = [c0, c1, c2, c3, c4, c5, c6, c7] := by
  match l, h with
  | [c0, c1, c2, c3, c4, c5, c6, c7], _ => exact ⟨c0, c1, c2, c3, c4, c5, c6, c7, rfl⟩
theorem open_wide {H : Type} {enc : TypeId × Value → H} {W : World} {base : Nat} {v : Value} {d : DataW H} {p : List MemPlace}
    (hv : Value.okWide Tryd.prog W .any base 31 v) (h : DataW.Trod enc Tryd.prog W 0 (fun _ => true) true 31 v d p) :
    ∃ x, Wide x ∧ v = .agg #[.int .u64 (L 0 x), .int .u64 (L 1 x), .int .u64 (L 2 x), .int .u64 (L 3 x), .int .u64 (L 4 x), .int .u64 (L 5 x), .int .u64 (L 6 x), .int .u64 (L 7 x)] ∧ d = DataW.agg [.lit (.int .u64 (L 0 x)), .lit (.int .u64 (L 1 x)), .lit (.int .u64 (L 2 x)), .lit (.int .u64 (L 3 x)), .lit (.int .u64 (L 4 x)), .lit (.int .u64 (L 5 x)), .lit (.int .u64 (L 6 x)), .lit (.int .u64 (L 7 x))] ∧ p = [] := by
  obtain ⟨cs, rfl, hsz, _⟩ : ∃ cs, v = .agg cs ∧ cs.size = Tryd.prog.cellsOf 31 ∧ Row.okWide Tryd.prog W .any base 31 cs := by
    simpa [Value.okWide, Tryd.underlying31] using hv
  rw [cellsWide] at hsz
  obtain ⟨l⟩ := cs
  obtain ⟨c0, c1, c2, c3, c4, c5, c6, c7, rfl⟩ := list8 l hsz
  obtain ⟨fuel, hf⟩ := h
  cases fuel with
  | zero => simp [DataW.trod] at hf
  | succ fuel =>
    simp only [DataW.trod, Value.cells, Tryd.underlying31, cellsWide, cellsU64] at hf
    rw [show List.range 8 = [0, 1, 2, 3, 4, 5, 6, 7] from rfl] at hf
    split at hf
    · simp only [Option.map_eq_some_iff, List.mapM_cons, List.mapM_nil, Option.bind_eq_bind, Option.bind_eq_some_iff, Option.pure_def, Option.some.injEq] at hf
      obtain ⟨ys, ⟨y0, h0, _, ⟨y1, h1, _, ⟨y2, h2, _, ⟨y3, h3, _, ⟨y4, h4, _, ⟨y5, h5, _, ⟨y6, h6, _, ⟨y7, h7, _, rfl, rfl⟩, rfl⟩, rfl⟩, rfl⟩, rfl⟩, rfl⟩, rfl⟩, rfl⟩, hx⟩ := hf
      obtain ⟨x0, e0, rfl, w0⟩ := DataW.trod_int Tryd.underlying22 h0
      obtain ⟨x1, e1, rfl, w1⟩ := DataW.trod_int Tryd.underlying22 h1
      obtain ⟨x2, e2, rfl, w2⟩ := DataW.trod_int Tryd.underlying22 h2
      obtain ⟨x3, e3, rfl, w3⟩ := DataW.trod_int Tryd.underlying22 h3
      obtain ⟨x4, e4, rfl, w4⟩ := DataW.trod_int Tryd.underlying22 h4
      obtain ⟨x5, e5, rfl, w5⟩ := DataW.trod_int Tryd.underlying22 h5
      obtain ⟨x6, e6, rfl, w6⟩ := DataW.trod_int Tryd.underlying22 h6
      obtain ⟨x7, e7, rfl, w7⟩ := DataW.trod_int Tryd.underlying22 h7
      simp at e0 e1 e2 e3 e4 e5 e6 e7
      subst e0 e1 e2 e3 e4 e5 e6 e7
      simp at hx
      obtain ⟨rfl, rfl⟩ := hx
      have v0 := word_of_wf w0
      have v1 := word_of_wf w1
      have v2 := word_of_wf w2
      have v3 := word_of_wf w3
      have v4 := word_of_wf w4
      have v5 := word_of_wf w5
      have v6 := word_of_wf w6
      have v7 := word_of_wf w7
      obtain ⟨x, hs⟩ : ∃ x, x0 + 18446744073709551616 * x1 + 340282366920938463463374607431768211456 * x2 + 6277101735386680763835789423207666416102355444464034512896 * x3 + 115792089237316195423570985008687907853269984665640564039457584007913129639936 * x4 + 2135987035920910082395021706169552114602704522356652769947041607822219725780640550022962086936576 * x5 + 39402006196394479212279040100143613805079739270465446667948293404245721771497210611414266254884915640806627990306816 * x6 + 726838724295606890549323807888004534353641360687318060281490199180639288113397923326191050713763565560762521606266177933534601628614656 * x7 = x := ⟨_, rfl⟩
      have hw : Wide x := ⟨by omega, by omega⟩
      obtain ⟨rfl, rfl, rfl, rfl, rfl, rfl, rfl, rfl⟩ := wide_words ⟨v0.1, v0.2⟩ ⟨v1.1, v1.2⟩ ⟨v2.1, v2.2⟩ ⟨v3.1, v3.2⟩ ⟨v4.1, v4.2⟩ ⟨v5.1, v5.2⟩ ⟨v6.1, v6.2⟩ ⟨v7.1, v7.2⟩ hs
      exact ⟨x, hw, rfl, rfl, rfl⟩
    · cases hf
theorem shut_wide {H : Type} {enc : TypeId × Value → H} (W : World) (sp : Nat → Bool) (x : Int) :
    DataW.Trod enc Tryd.prog W 0 sp true 31 (.agg #[.int .u64 (L 0 x), .int .u64 (L 1 x), .int .u64 (L 2 x), .int .u64 (L 3 x), .int .u64 (L 4 x), .int .u64 (L 5 x), .int .u64 (L 6 x), .int .u64 (L 7 x)]) (DataW.agg [.lit (.int .u64 (L 0 x)), .lit (.int .u64 (L 1 x)), .lit (.int .u64 (L 2 x)), .lit (.int .u64 (L 3 x)), .lit (.int .u64 (L 4 x)), .lit (.int .u64 (L 5 x)), .lit (.int .u64 (L 6 x)), .lit (.int .u64 (L 7 x))]) [] := by
  have w0 := wf_of_word ⟨L_lo 0 x, L_hi 0 x⟩
  have w1 := wf_of_word ⟨L_lo 1 x, L_hi 1 x⟩
  have w2 := wf_of_word ⟨L_lo 2 x, L_hi 2 x⟩
  have w3 := wf_of_word ⟨L_lo 3 x, L_hi 3 x⟩
  have w4 := wf_of_word ⟨L_lo 4 x, L_hi 4 x⟩
  have w5 := wf_of_word ⟨L_lo 5 x, L_hi 5 x⟩
  have w6 := wf_of_word ⟨L_lo 6 x, L_hi 6 x⟩
  have w7 := wf_of_word ⟨L_lo 7 x, L_hi 7 x⟩
  exact ⟨2, by simp [DataW.trod, Value.cells, Tryd.underlying31, Tryd.underlying22, cellsWide, cellsU64, w0, w1, w2, w3, w4, w5, w6, w7, show List.range 8 = [0, 1, 2, 3, 4, 5, 6, 7] from rfl]⟩
end Go.Proofs.YtelanboegjgcbaaDoor
