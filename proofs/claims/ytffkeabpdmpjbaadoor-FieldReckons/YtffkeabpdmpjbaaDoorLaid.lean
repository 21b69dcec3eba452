/- How the parameters, and the table of the moduli, are read before the call. -/
import Derived.Test.YtffkeabpdmpjbaaDoorFld
import Derived.Test.YtffkeabpdmpjbaaDoorTie
import Derived.Test.YtffkeabpdmpjbaaDoorCards
import Derived.ProofKit
import Derived.LaidMore
import Derived.MakeChecks
import Derived.Lib.LaidTab
import Derived.Laws.IdiomArrays
import Derived.OpenShut
import Derived.Stop.Joined
namespace Go.Proofs.YtffkeabpdmpjbaaDoor
open Go.ChangeShapes Go.WideShapes Go.ChangeAt Go.RowKit

theorem own : ownKnob Tryd.prog.godebug = none := by kernel_rfl
theorem cellsU64 : Tryd.prog.cellsOf 22 = 1 := by kernel_rfl
theorem cellsNat : Tryd.prog.cellsOf 24 = 4 := by kernel_rfl
theorem word_of_wf {x : Int} (h : (Lit.int .u64 x).wf = true) : 0 ≤ x ∧ x < 18446744073709551616 := by
  simp [Lit.wf, IntKind.min, IntKind.max, IntKind.signed, IntKind.bits] at h
  exact ⟨by omega, by omega⟩
theorem wf_of_word {x : Int} (h : 0 ≤ x ∧ x < 18446744073709551616) : (Lit.int .u64 x).wf = true := by
  simp [Lit.wf, IntKind.min, IntKind.max, IntKind.signed, IntKind.bits]
  omega
theorem list4 {α : Type} (l : List α) (h : (⟨l⟩ : Array α).size = 4) : ∃ a b c d, l = [a, b, c, d] := by
  match l, h with
  | [a, b, c, d], _ => exact ⟨a, b, c, d, rfl⟩

/-- A parameter of four words is the words of one number. -/
theorem open_nat {H : Type} {enc : TypeId × Value → H} {W : World} {base : Nat} {v : Value} {d : DataW H} {p : List MemPlace}
    (hv : Value.okWide Tryd.prog W .any base 24 v) (h : DataW.Trod enc Tryd.prog W 0 (fun _ => true) true 24 v d p) :
    ∃ a, Num a ∧ v = .agg #[.int .u64 (L 0 a), .int .u64 (L 1 a), .int .u64 (L 2 a), .int .u64 (L 3 a)] ∧ d = DataW.agg [.lit (.int .u64 (L 0 a)), .lit (.int .u64 (L 1 a)), .lit (.int .u64 (L 2 a)), .lit (.int .u64 (L 3 a))] ∧ p = [] := by
  obtain ⟨cs, rfl, hsz, _⟩ : ∃ cs, v = .agg cs ∧ cs.size = Tryd.prog.cellsOf 24 ∧ Row.okWide Tryd.prog W .any base 24 cs := by
    simpa [Value.okWide, Tryd.underlying24] using hv
  rw [cellsNat] at hsz
  obtain ⟨l⟩ := cs
  obtain ⟨c0, c1, c2, c3, rfl⟩ := list4 l hsz
  obtain ⟨fuel, hf⟩ := h
  obtain ⟨y0, y1, y2, y3, m, hx, hy0, hy1, hy2, hy3⟩ := trod_array4 Tryd.underlying24 cellsU64 hf
  obtain ⟨x0, e0, rfl, w0⟩ := DataW.trod_int Tryd.underlying22 hy0
  obtain ⟨x1, e1, rfl, w1⟩ := DataW.trod_int Tryd.underlying22 hy1
  obtain ⟨x2, e2, rfl, w2⟩ := DataW.trod_int Tryd.underlying22 hy2
  obtain ⟨x3, e3, rfl, w3⟩ := DataW.trod_int Tryd.underlying22 hy3
  simp at e0 e1 e2 e3
  subst e0 e1 e2 e3
  simp only [Prod.mk.injEq] at hx
  obtain ⟨rfl, rfl⟩ := hx
  obtain ⟨a, ha, rfl, rfl, rfl, rfl⟩ := num_of x0 x1 x2 x3 (word_of_wf w0) (word_of_wf w1) (word_of_wf w2) (word_of_wf w3)
  exact ⟨a, ha, rfl, rfl, rfl⟩
theorem shut_nat {H : Type} {enc : TypeId × Value → H} (W : World) (sp : Nat → Bool) (a : Int) :
    DataW.Trod enc Tryd.prog W 0 sp true 24 (.agg #[.int .u64 (L 0 a), .int .u64 (L 1 a), .int .u64 (L 2 a), .int .u64 (L 3 a)]) (DataW.agg [.lit (.int .u64 (L 0 a)), .lit (.int .u64 (L 1 a)), .lit (.int .u64 (L 2 a)), .lit (.int .u64 (L 3 a))]) [] := by
  have w0 := wf_of_word ⟨L_lo 0 a, L_hi 0 a⟩
  have w1 := wf_of_word ⟨L_lo 1 a, L_hi 1 a⟩
  have w2 := wf_of_word ⟨L_lo 2 a, L_hi 2 a⟩
  have w3 := wf_of_word ⟨L_lo 3 a, L_hi 3 a⟩
  exact ⟨2, by simp [DataW.trod, Value.cells, Tryd.underlying24, Tryd.underlying22, cellsNat, cellsU64, w0, w1, w2, w3, show List.range 4 = [0, 1, 2, 3] from rfl]⟩

theorem u8_of_wf {x : Int} (h : (Lit.int .u8 x).wf = true) : 0 ≤ x ∧ x ≤ 255 := by
  simp [Lit.wf, IntKind.min, IntKind.max, IntKind.signed, IntKind.bits] at h
  exact ⟨by omega, by omega⟩
theorem gMod : Tryd.prog.globalNamed "chronicle/field.moduli" = some 0 := by kernel_rfl
theorem tMod : (Tryd.prog.globals[0]?).map (·.type) = some 46 := by kernel_rfl
theorem cellsModuli : Tryd.prog.cellsOf 46 = 16 := by kernel_rfl
theorem cellsMod : Tryd.prog.cellsOf 34 = 4 := by kernel_rfl
theorem list16 {α : Type} (l : List α) (h : l.length = 16) : ∃ x0 x1 x2 x3 x4 x5 x6 x7 x8 x9 x10 x11 x12 x13 x14 x15, l = [x0, x1, x2, x3, x4, x5, x6, x7, x8, x9, x10, x11, x12, x13, x14, x15] := by
  match l, h with
  | [x0, x1, x2, x3, x4, x5, x6, x7, x8, x9, x10, x11, x12, x13, x14, x15], _ => exact ⟨x0, x1, x2, x3, x4, x5, x6, x7, x8, x9, x10, x11, x12, x13, x14, x15, rfl⟩
def laid1 : List (String × DataW Unit) := [("chronicle/field.moduli", Rows.laid_chronicle_field_moduli)]
theorem cells_of_table {H : Type} {enc : TypeId × Value → H} {W : World} {sp : Nat → Bool} {held : Bool} {fuel : Nat} {l : List Value} {p : List MemPlace}
    (h : DataW.trod enc Tryd.prog W 0 sp held fuel 46 l = some (Rows.laid_chronicle_field_moduli, p)) : l = [.int .u64 18446744073709551615, .int .u64 4294967295, .int .u64 0, .int .u64 18446744069414584321, .int .u64 17562291160714782033, .int .u64 13611842547513532036, .int .u64 18446744073709551615, .int .u64 18446744069414584320, .int .u64 18446744073709551597, .int .u64 18446744073709551615, .int .u64 18446744073709551615, .int .u64 9223372036854775807, .int .u64 6346243789798364141, .int .u64 1503914060200516822, .int .u64 0, .int .u64 1152921504606846976] := by
  cases fuel with
  | zero => simp [DataW.trod] at h
  | succ fuel =>
    simp only [DataW.trod, Tryd.underlying46, cellsModuli, cellsMod] at h
    split at h
    · rename_i hl
      obtain ⟨x0, x1, x2, x3, x4, x5, x6, x7, x8, x9, x10, x11, x12, x13, x14, x15, rfl⟩ := list16 l (by simpa using hl)
      rw [show List.range 4 = [0, 1, 2, 3] from rfl] at h
      simp only [Option.map_eq_some_iff, List.mapM_cons, List.mapM_nil, Option.bind_eq_bind, Option.bind_eq_some_iff, Option.pure_def, Option.some.injEq] at h
      obtain ⟨ys, ⟨y0, h0, _, ⟨y1, h1, _, ⟨y2, h2, _, ⟨y3, h3, _, rfl, rfl⟩, rfl⟩, rfl⟩, rfl⟩, hx⟩ := h
      obtain ⟨d0, p0⟩ := y0
      obtain ⟨d1, p1⟩ := y1
      obtain ⟨d2, p2⟩ := y2
      obtain ⟨d3, p3⟩ := y3
      simp only [Rows.laid_chronicle_field_moduli, List.map_cons, List.map_nil, Prod.mk.injEq, DataW.agg.injEq, List.cons.injEq, and_true] at hx
      obtain ⟨⟨e0, e1, e2, e3⟩, _⟩ := hx
      subst e0 e1 e2 e3
      have g0 := Lib.cells_of_tab (k := .u64) (zs := [18446744073709551615, 4294967295, 0, 18446744069414584321]) Tryd.underlying34 Tryd.underlying22 cellsU64 cellsMod h0
      have g1 := Lib.cells_of_tab (k := .u64) (zs := [17562291160714782033, 13611842547513532036, 18446744073709551615, 18446744069414584320]) Tryd.underlying34 Tryd.underlying22 cellsU64 cellsMod h1
      have g2 := Lib.cells_of_tab (k := .u64) (zs := [18446744073709551597, 18446744073709551615, 18446744073709551615, 9223372036854775807]) Tryd.underlying34 Tryd.underlying22 cellsU64 cellsMod h2
      have g3 := Lib.cells_of_tab (k := .u64) (zs := [6346243789798364141, 1503914060200516822, 0, 1152921504606846976]) Tryd.underlying34 Tryd.underlying22 cellsU64 cellsMod h3
      simp at g0 g1 g2 g3
      simp [g0, g1, g2, g3]
    · cases h
theorem tab_of_laid {W : World} (h : laidMetH Tryd.prog laid1 W) : Tab W := by
  rw [MakeChecks.laidMetH_plain _ _ _ (by kernel_rfl)] at h
  obtain ⟨ps, ⟨g, t, cs, fuel, p, q, hg, ht, hvar, hd, _, _⟩, _⟩ := h
  obtain rfl := Option.some.inj (gMod.symm.trans hg)
  obtain rfl := Option.some.inj (tMod.symm.trans ht)
  have hcs := cells_of_table hd
  obtain ⟨l⟩ := cs
  simp only at hcs
  subst hcs
  exact ⟨World.var?_cell hg hvar 0, World.var?_cell hg hvar 1, World.var?_cell hg hvar 2, World.var?_cell hg hvar 3, World.var?_cell hg hvar 4, World.var?_cell hg hvar 5, World.var?_cell hg hvar 6, World.var?_cell hg hvar 7, World.var?_cell hg hvar 8, World.var?_cell hg hvar 9, World.var?_cell hg hvar 10, World.var?_cell hg hvar 11, World.var?_cell hg hvar 12, World.var?_cell hg hvar 13, World.var?_cell hg hvar 14, World.var?_cell hg hvar 15⟩
/-- The door's own heap meets the condition. -/
theorem door_met (os : Os) (args : Array Value) : laidMetH Tryd.prog laid1 ((World.doorLaid Tryd.prog 200 os).forCall (fun _ _ => 0) ⟨#[], args, []⟩).memory :=
  laidMetH_of_parts3 (fuel := 8) (laidMet_of_run' 8 (by kernel_rfl) (by kernel_rfl)) (by kernel_rfl) (by kernel_rfl)
end Go.Proofs.YtffkeabpdmpjbaaDoor
