/- How three numbers of four words are read before the call, and behind it. -/
import Derived.Test.YtelanboegjgcbaaDoorLaid
namespace Go.Proofs.YtelanboegjgcbaaDoor
open Go.ChangeShapes Go.WideShapes Go.ChangeAt Go.RowKit

theorem cellsNat3 : Tryd.prog.cellsOf 35 = 12 := by kernel_rfl
theorem list12 {α : Type} (l : List α) (h : (⟨l⟩ : Array α).size = 12) : ∃ x0 x1 x2 x3 x4 x5 x6 x7 x8 x9 x10 x11, l = [x0, x1, x2, x3, x4, x5, x6, x7, x8, x9, x10, x11] := by
  match l, h with
  | [x0, x1, x2, x3, x4, x5, x6, x7, x8, x9, x10, x11], _ => exact ⟨x0, x1, x2, x3, x4, x5, x6, x7, x8, x9, x10, x11, rfl⟩
theorem open_cells {H : Type} {enc : TypeId × Value → H} {W : World} {sp : Nat → Bool} {held : Bool} {fuel : Nat} {c0 c1 c2 c3 : Value} {y : DataW H × List MemPlace}
    (hf : DataW.trod enc Tryd.prog W 0 sp held fuel 24 [c0, c1, c2, c3] = some y) :
    ∃ a, Num a ∧ c0 = .int .u64 (L 0 a) ∧ c1 = .int .u64 (L 1 a) ∧ c2 = .int .u64 (L 2 a) ∧ c3 = .int .u64 (L 3 a) ∧ y = (DataW.agg [.lit (.int .u64 (L 0 a)), .lit (.int .u64 (L 1 a)), .lit (.int .u64 (L 2 a)), .lit (.int .u64 (L 3 a))], []) := by
  obtain ⟨y0, y1, y2, y3, m, hx, hy0, hy1, hy2, hy3⟩ := trod_array4 Tryd.underlying24 cellsU64 hf
  obtain ⟨x0, e0, rfl, w0⟩ := DataW.trod_int Tryd.underlying22 hy0
  obtain ⟨x1, e1, rfl, w1⟩ := DataW.trod_int Tryd.underlying22 hy1
  obtain ⟨x2, e2, rfl, w2⟩ := DataW.trod_int Tryd.underlying22 hy2
  obtain ⟨x3, e3, rfl, w3⟩ := DataW.trod_int Tryd.underlying22 hy3
  simp at e0 e1 e2 e3
  subst e0 e1 e2 e3
  obtain ⟨a, ha, rfl, rfl, rfl, rfl⟩ := num_of x0 x1 x2 x3 (word_of_wf w0) (word_of_wf w1) (word_of_wf w2) (word_of_wf w3)
  exact ⟨a, ha, rfl, rfl, rfl, rfl, by simpa using hx⟩
theorem open_nat3 {H : Type} {enc : TypeId × Value → H} {W : World} {base : Nat} {v : Value} {d : DataW H} {p : List MemPlace}
    (hv : Value.okWide Tryd.prog W .any base 35 v) (h : DataW.Trod enc Tryd.prog W 0 (fun _ => true) true 35 v d p) :
    ∃ a b c, Num a ∧ Num b ∧ Num c ∧ v = .agg #[.int .u64 (L 0 a), .int .u64 (L 1 a), .int .u64 (L 2 a), .int .u64 (L 3 a), .int .u64 (L 0 b), .int .u64 (L 1 b), .int .u64 (L 2 b), .int .u64 (L 3 b), .int .u64 (L 0 c), .int .u64 (L 1 c), .int .u64 (L 2 c), .int .u64 (L 3 c)] ∧ d = DataW.agg [DataW.agg [.lit (.int .u64 (L 0 a)), .lit (.int .u64 (L 1 a)), .lit (.int .u64 (L 2 a)), .lit (.int .u64 (L 3 a))], DataW.agg [.lit (.int .u64 (L 0 b)), .lit (.int .u64 (L 1 b)), .lit (.int .u64 (L 2 b)), .lit (.int .u64 (L 3 b))], DataW.agg [.lit (.int .u64 (L 0 c)), .lit (.int .u64 (L 1 c)), .lit (.int .u64 (L 2 c)), .lit (.int .u64 (L 3 c))]] ∧ p = [] := by
  obtain ⟨cs, rfl, hsz, _⟩ : ∃ cs, v = .agg cs ∧ cs.size = Tryd.prog.cellsOf 35 ∧ Row.okWide Tryd.prog W .any base 35 cs := by
    simpa [Value.okWide, Tryd.underlying35] using hv
  rw [cellsNat3] at hsz
  obtain ⟨l⟩ := cs
  obtain ⟨x0, x1, x2, x3, x4, x5, x6, x7, x8, x9, x10, x11, rfl⟩ := list12 l hsz
  obtain ⟨fuel, hf⟩ := h
  cases fuel with
  | zero => simp [DataW.trod] at hf
  | succ fuel =>
    simp only [DataW.trod, Value.cells, Tryd.underlying35, cellsNat3, cellsNat] at hf
    rw [show List.range 3 = [0, 1, 2] from rfl] at hf
    split at hf
    · simp only [Option.map_eq_some_iff, List.mapM_cons, List.mapM_nil, Option.bind_eq_bind, Option.bind_eq_some_iff, Option.pure_def, Option.some.injEq] at hf
      obtain ⟨ys, ⟨y0, h0, _, ⟨y1, h1, _, ⟨y2, h2, _, rfl, rfl⟩, rfl⟩, rfl⟩, hx⟩ := hf
      obtain ⟨a, ha, rfl, rfl, rfl, rfl, rfl⟩ := open_cells (c0 := x0) (c1 := x1) (c2 := x2) (c3 := x3) h0
      obtain ⟨b, hb, rfl, rfl, rfl, rfl, rfl⟩ := open_cells (c0 := x4) (c1 := x5) (c2 := x6) (c3 := x7) h1
      obtain ⟨c, hc, rfl, rfl, rfl, rfl, rfl⟩ := open_cells (c0 := x8) (c1 := x9) (c2 := x10) (c3 := x11) h2
      simp at hx
      obtain ⟨rfl, rfl⟩ := hx
      exact ⟨a, b, c, ha, hb, hc, rfl, rfl, rfl⟩
    · cases hf
theorem shut_nat3 {H : Type} {enc : TypeId × Value → H} (W : World) (sp : Nat → Bool) (a b c : Int) :
    DataW.Trod enc Tryd.prog W 0 sp true 35 (.agg #[.int .u64 (L 0 a), .int .u64 (L 1 a), .int .u64 (L 2 a), .int .u64 (L 3 a), .int .u64 (L 0 b), .int .u64 (L 1 b), .int .u64 (L 2 b), .int .u64 (L 3 b), .int .u64 (L 0 c), .int .u64 (L 1 c), .int .u64 (L 2 c), .int .u64 (L 3 c)]) (DataW.agg [DataW.agg [.lit (.int .u64 (L 0 a)), .lit (.int .u64 (L 1 a)), .lit (.int .u64 (L 2 a)), .lit (.int .u64 (L 3 a))], DataW.agg [.lit (.int .u64 (L 0 b)), .lit (.int .u64 (L 1 b)), .lit (.int .u64 (L 2 b)), .lit (.int .u64 (L 3 b))], DataW.agg [.lit (.int .u64 (L 0 c)), .lit (.int .u64 (L 1 c)), .lit (.int .u64 (L 2 c)), .lit (.int .u64 (L 3 c))]]) [] := by
  have wa0 := wf_of_word ⟨L_lo 0 a, L_hi 0 a⟩
  have wa1 := wf_of_word ⟨L_lo 1 a, L_hi 1 a⟩
  have wa2 := wf_of_word ⟨L_lo 2 a, L_hi 2 a⟩
  have wa3 := wf_of_word ⟨L_lo 3 a, L_hi 3 a⟩
  have wb0 := wf_of_word ⟨L_lo 0 b, L_hi 0 b⟩
  have wb1 := wf_of_word ⟨L_lo 1 b, L_hi 1 b⟩
  have wb2 := wf_of_word ⟨L_lo 2 b, L_hi 2 b⟩
  have wb3 := wf_of_word ⟨L_lo 3 b, L_hi 3 b⟩
  have wc0 := wf_of_word ⟨L_lo 0 c, L_hi 0 c⟩
  have wc1 := wf_of_word ⟨L_lo 1 c, L_hi 1 c⟩
  have wc2 := wf_of_word ⟨L_lo 2 c, L_hi 2 c⟩
  have wc3 := wf_of_word ⟨L_lo 3 c, L_hi 3 c⟩
  exact ⟨3, by simp [DataW.trod, Value.cells, Tryd.underlying35, Tryd.underlying24, Tryd.underlying22, cellsNat3, cellsNat, cellsU64, wa0, wa1, wa2, wa3, wb0, wb1, wb2, wb3, wc0, wc1, wc2, wc3, show List.range 3 = [0, 1, 2] from rfl, show List.range 4 = [0, 1, 2, 3] from rfl]⟩
end Go.Proofs.YtelanboegjgcbaaDoor
