/- What the document's own numbers modulo the moduli are, as the statements of layer 9 ask them. The statements of layer 9, at whatever numbers and points come. How the parameters, and the table of the moduli, are read before the call. How a point of two numbers and a truth is read before the call, and behind it. -/
import Derived.Test.YtolehamdaceikabDoorM19
import Derived.Test.YtolehamdaceikabDoorM21
import Derived.Test.YtolehamdaceikabDoorM20
import Derived.Test.YtolehamdaceikabDoorM22
import Derived.Test.YtolehamdaceikabDoorM15
import Derived.Test.YtolehamdaceikabDoorTie
import Derived.Test.YtolehamdaceikabDoorCards
import Derived.ProofKit
import Derived.LaidMore
import Derived.MakeChecks
import Derived.Lib.LaidTab
import Derived.Stop.LaidErr
import Derived.Laws.IdiomArrays
import Derived.OpenShut
import Derived.Stop.Joined
namespace Go.Proofs.YtolehamdaceikabDoor
open Go.RowKit

theorem md_mod3 : md 3 = (mod3 : Int) := by kernel_rfl
theorem nat_num {k : Nat} (h : k < 2 ^ 256) : Num (k : Int) := ⟨by omega, by unfold M; omega⟩
theorem h_md (w : World) : Calls Tryd.prog 16 [.int .i64 3].toArray w fun e w' => e = .returned (.agg (nc (mod3 : Int)).toArray) ∧ Below w.heap.size w w' := by
  rw [← md_mod3]
  exact ref_mod_any 3 w
theorem h_fold {k : Nat} (hk : k < 2 ^ 256) (w : World) : Calls Tryd.prog 17 [.int .i64 3, .agg (nc (k : Int)).toArray].toArray w fun e w' => e = .returned (.agg (nc ((k % mod3 : Nat) : Int)).toArray) ∧ Below w.heap.size w w' := by
  rw [Int.natCast_emod, ← md_mod3]
  exact ref_fold_any (k := 3) (nat_num hk) (by rw [md_mod3]; decide +kernel) (by kernel_rfl) w
theorem nc_wrap (a : Int) : nc (a - M) = nc a := by
  unfold nc
  have h : ∀ k, k < 4 → L k (a - M) = L k a := fun k hk => by
    unfold L M B
    rcases (show k = 0 ∨ k = 1 ∨ k = 2 ∨ k = 3 by omega) with rfl | rfl | rfl | rfl <;> omega
  rw [h 0 (by omega), h 1 (by omega), h 2 (by omega), h 3 (by omega)]
theorem h_add_less {k1 k2 : Nat} (h1 : k1 < 2 ^ 256) (h2 : k2 < 2 ^ 256) (h : k1 + k2 < 2 ^ 256) (w : World) : Calls Tryd.prog 32 [.agg (nc (k1 : Int)).toArray, .agg (nc (k2 : Int)).toArray].toArray w fun e w' => e = .returned (.tuple [.agg (nc ((k1 + k2 : Nat) : Int)).toArray, .bool false].toArray) ∧ Below w.heap.size w w' := by
  have g := ref_add_any (nat_num h1) (nat_num h2) w
  have e : over (k1 : Int) (k2 : Int) = false := decide_eq_false (by unfold M; omega)
  rw [e] at g
  rw [Int.natCast_add]
  exact g
theorem h_add_over {k1 k2 : Nat} (h1 : k1 < 2 ^ 256) (h2 : k2 < 2 ^ 256) (h : 2 ^ 256 ≤ k1 + k2) (w : World) : Calls Tryd.prog 32 [.agg (nc (k1 : Int)).toArray, .agg (nc (k2 : Int)).toArray].toArray w fun e w' => e = .returned (.tuple [.agg (nc ((k1 + k2 - 2 ^ 256 : Nat) : Int)).toArray, .bool true].toArray) ∧ Below w.heap.size w w' := by
  have g := ref_add_any (nat_num h1) (nat_num h2) w
  have e : over (k1 : Int) (k2 : Int) = true := decide_eq_true (by unfold M; omega)
  rw [e] at g
  rw [show ((k1 + k2 - 2 ^ 256 : Nat) : Int) = (k1 : Int) + k2 - M by unfold M; omega, nc_wrap]
  exact g
theorem h_mul {k1 k2 : Nat} (h1 : k1 < 2 ^ 256) (h2 : k2 < 2 ^ 256) (w : World) : Calls Tryd.prog 8 [.int .i64 3, .agg (nc (k1 : Int)).toArray, .agg (nc (k2 : Int)).toArray].toArray w fun e w' => e = .returned (.agg (nc ((k1 * k2 % mod3 : Nat) : Int)).toArray) ∧ Below w.heap.size w w' := by
  rw [Int.natCast_emod, Int.natCast_mul, ← md_mod3]
  exact ref_mulf_any (k := 3) ⟨by decide, by decide⟩ (nat_num h1) (nat_num h2) w
end Go.Proofs.YtolehamdaceikabDoor
namespace Go.Proofs.YtolehamdaceikabDoor
open Go.RowKit

theorem edTwice_walk {w : World} (hT : Tab w) {a0 : Int} (ha0 : Num a0) {a1 : Int} (ha1 : Num a1) : Calls Tryd.prog 3 #[.agg #[.int .u64 (L 0 a0), .int .u64 (L 1 a0), .int .u64 (L 2 a0), .int .u64 (L 3 a0)], .agg #[.int .u64 (L 0 a1), .int .u64 (L 1 a1), .int .u64 (L 2 a1), .int .u64 (L 3 a1)]] w fun e w' => e = .returned (.bool true) ∧ Below w.heap.size w w' := by
  obtain ⟨k0, rfl⟩ := Int.eq_ofNat_of_zero_le ha0.lo
  have hk0 : k0 < 2 ^ 256 := by have := ha0.hi; unfold M at this; omega
  obtain ⟨k1, rfl⟩ := Int.eq_ofNat_of_zero_le ha1.lo
  have hk1 : k1 < 2 ^ 256 := by have := ha1.hi; unfold M at this; omega
  exact etwice_walk hT hk0 hk1 (Nat.lt_trans (Nat.mod_lt _ (by decide +kernel)) hmod3) rfl (h_mul hk0 hk1)
theorem edStray_walk {w : World} (hT : Tab w) {X0 Y0 : Int} (hX0 : Num X0) (hY0 : Num Y0) (t0 : Bool) {a1 : Int} (ha1 : Num a1) : Calls Tryd.prog 4 #[.agg #[.int .u64 (L 0 X0), .int .u64 (L 1 X0), .int .u64 (L 2 X0), .int .u64 (L 3 X0), .int .u64 (L 0 Y0), .int .u64 (L 1 Y0), .int .u64 (L 2 Y0), .int .u64 (L 3 Y0), .bool t0], .agg #[.int .u64 (L 0 a1), .int .u64 (L 1 a1), .int .u64 (L 2 a1), .int .u64 (L 3 a1)]] w fun e w' => e = .returned (.bool true) ∧ Below w.heap.size w w' := by
  obtain ⟨k1, rfl⟩ := Int.eq_ofNat_of_zero_le ha1.lo
  have hk1 : k1 < 2 ^ 256 := by have := ha1.hi; unfold M at this; omega
  cases hf : fmdE X0 Y0 t0 with
  | true => exact estray_true hT hX0 hY0 t0 hf (k := k1)
  | false =>
    refine estray_false hT hX0 hY0 t0 hf hk1 (fun w' hb => ?_)
    have h := e_EncC (hT.keep hb) hX0 hY0 t0
    rw [fmdE_rp hf] at h
    refine Calls.mono h (fun e w2 hn => ?_)
    unfold NewC at hn
    rw [by32_o] at hn
    exact hn
end Go.Proofs.YtolehamdaceikabDoor
namespace Go.Proofs.YtolehamdaceikabDoor
open Go.ChangeShapes Go.WideShapes Go.ChangeAt Go.RowKit

theorem own : ownKnob Tryd.prog.godebug = none := by kernel_rfl
theorem cellsU64 : Tryd.prog.cellsOf 22 = 1 := by kernel_rfl
theorem cellsNat : Tryd.prog.cellsOf 24 = 4 := by kernel_rfl
theorem word_of_wf {x : Int} (h : (Lit.int .u64 x).wf = true) : 0 ≤ x ∧ x < 18446744073709551616 := by
  simp [Lit.wf, IntKind.min, IntKind.max, IntKind.signed, IntKind.bits] at h
  exact ⟨by omega, by omega⟩
theorem wf_of_word {x : Int} (h : 0 ≤ x ∧ x < 18446744073709551616) : (Lit.int .u64 x).wf = true := by
  simp [Lit.wf, IntKind.min, IntKind.max, IntKind.signed, IntKind.bits]
  omega
theorem list4 {α : Type} (l : List α) (h : (⟨l⟩ : Array α).size = 4) : ∃ a b c d, l = [a, b, c, d] := by
  match l, h with
  | [a, b, c, d], _ => exact ⟨a, b, c, d, rfl⟩

/-- A parameter of four words is the words of one number. -/
theorem open_nat {H : Type} {enc : TypeId × Value → H} {W : World} {base : Nat} {v : Value} {d : DataW H} {p : List MemPlace}
    (hv : Value.okWide Tryd.prog W .any base 24 v) (h : DataW.Trod enc Tryd.prog W 0 (fun _ => true) true 24 v d p) :
    ∃ a, Num a ∧ v = .agg #[.int .u64 (L 0 a), .int .u64 (L 1 a), .int .u64 (L 2 a), .int .u64 (L 3 a)] ∧ d = DataW.agg [.lit (.int .u64 (L 0 a)), .lit (.int .u64 (L 1 a)), .lit (.int .u64 (L 2 a)), .lit (.int .u64 (L 3 a))] ∧ p = [] := by
  obtain ⟨cs, rfl, hsz, _⟩ : ∃ cs, v = .agg cs ∧ cs.size = Tryd.prog.cellsOf 24 ∧ Row.okWide Tryd.prog W .any base 24 cs := by
    simpa [Value.okWide, Tryd.underlying24] using hv
  rw [cellsNat] at hsz
  obtain ⟨l⟩ := cs
  obtain ⟨c0, c1, c2, c3, rfl⟩ := list4 l hsz
  obtain ⟨fuel, hf⟩ := h
  obtain ⟨y0, y1, y2, y3, m, hx, hy0, hy1, hy2, hy3⟩ := trod_array4 Tryd.underlying24 cellsU64 hf
  obtain ⟨x0, e0, rfl, w0⟩ := DataW.trod_int Tryd.underlying22 hy0
  obtain ⟨x1, e1, rfl, w1⟩ := DataW.trod_int Tryd.underlying22 hy1
  obtain ⟨x2, e2, rfl, w2⟩ := DataW.trod_int Tryd.underlying22 hy2
  obtain ⟨x3, e3, rfl, w3⟩ := DataW.trod_int Tryd.underlying22 hy3
  simp at e0 e1 e2 e3
  subst e0 e1 e2 e3
  simp only [Prod.mk.injEq] at hx
  obtain ⟨rfl, rfl⟩ := hx
  obtain ⟨a, ha, rfl, rfl, rfl, rfl⟩ := num_of x0 x1 x2 x3 (word_of_wf w0) (word_of_wf w1) (word_of_wf w2) (word_of_wf w3)
  exact ⟨a, ha, rfl, rfl, rfl⟩
theorem shut_nat {H : Type} {enc : TypeId × Value → H} (W : World) (sp : Nat → Bool) (a : Int) :
    DataW.Trod enc Tryd.prog W 0 sp true 24 (.agg #[.int .u64 (L 0 a), .int .u64 (L 1 a), .int .u64 (L 2 a), .int .u64 (L 3 a)]) (DataW.agg [.lit (.int .u64 (L 0 a)), .lit (.int .u64 (L 1 a)), .lit (.int .u64 (L 2 a)), .lit (.int .u64 (L 3 a))]) [] := by
  have w0 := wf_of_word ⟨L_lo 0 a, L_hi 0 a⟩
  have w1 := wf_of_word ⟨L_lo 1 a, L_hi 1 a⟩
  have w2 := wf_of_word ⟨L_lo 2 a, L_hi 2 a⟩
  have w3 := wf_of_word ⟨L_lo 3 a, L_hi 3 a⟩
  exact ⟨2, by simp [DataW.trod, Value.cells, Tryd.underlying24, Tryd.underlying22, cellsNat, cellsU64, w0, w1, w2, w3, show List.range 4 = [0, 1, 2, 3] from rfl]⟩

theorem u8_of_wf {x : Int} (h : (Lit.int .u8 x).wf = true) : 0 ≤ x ∧ x ≤ 255 := by
  simp [Lit.wf, IntKind.min, IntKind.max, IntKind.signed, IntKind.bits] at h
  exact ⟨by omega, by omega⟩
theorem gMod : Tryd.prog.globalNamed "chronicle/field.moduli" = some 1 := by kernel_rfl
theorem tMod : (Tryd.prog.globals[1]?).map (·.type) = some 62 := by kernel_rfl
theorem cellsModuli : Tryd.prog.cellsOf 62 = 16 := by kernel_rfl
theorem cellsMod : Tryd.prog.cellsOf 56 = 4 := by kernel_rfl
theorem list16 {α : Type} (l : List α) (h : l.length = 16) : ∃ x0 x1 x2 x3 x4 x5 x6 x7 x8 x9 x10 x11 x12 x13 x14 x15, l = [x0, x1, x2, x3, x4, x5, x6, x7, x8, x9, x10, x11, x12, x13, x14, x15] := by
  match l, h with
  | [x0, x1, x2, x3, x4, x5, x6, x7, x8, x9, x10, x11, x12, x13, x14, x15], _ => exact ⟨x0, x1, x2, x3, x4, x5, x6, x7, x8, x9, x10, x11, x12, x13, x14, x15, rfl⟩
def laid1 : List (String × DataW Unit) := [("chronicle/field.moduli", Rows.laid_chronicle_field_moduli), ("chronicle/ed.curveD", Rows.laid_chronicle_ed_curveD)]
theorem cells_of_table {H : Type} {enc : TypeId × Value → H} {W : World} {sp : Nat → Bool} {held : Bool} {fuel : Nat} {l : List Value} {p : List MemPlace}
    (h : DataW.trod enc Tryd.prog W 0 sp held fuel 62 l = some (Rows.laid_chronicle_field_moduli, p)) : l = [.int .u64 18446744073709551615, .int .u64 4294967295, .int .u64 0, .int .u64 18446744069414584321, .int .u64 17562291160714782033, .int .u64 13611842547513532036, .int .u64 18446744073709551615, .int .u64 18446744069414584320, .int .u64 18446744073709551597, .int .u64 18446744073709551615, .int .u64 18446744073709551615, .int .u64 9223372036854775807, .int .u64 6346243789798364141, .int .u64 1503914060200516822, .int .u64 0, .int .u64 1152921504606846976] := by
  cases fuel with
  | zero => simp [DataW.trod] at h
  | succ fuel =>
    simp only [DataW.trod, Tryd.underlying62, cellsModuli, cellsMod] at h
    split at h
    · rename_i hl
      obtain ⟨x0, x1, x2, x3, x4, x5, x6, x7, x8, x9, x10, x11, x12, x13, x14, x15, rfl⟩ := list16 l (by simpa using hl)
      rw [show List.range 4 = [0, 1, 2, 3] from rfl] at h
      simp only [Option.map_eq_some_iff, List.mapM_cons, List.mapM_nil, Option.bind_eq_bind, Option.bind_eq_some_iff, Option.pure_def, Option.some.injEq] at h
      obtain ⟨ys, ⟨y0, h0, _, ⟨y1, h1, _, ⟨y2, h2, _, ⟨y3, h3, _, rfl, rfl⟩, rfl⟩, rfl⟩, rfl⟩, hx⟩ := h
      obtain ⟨d0, p0⟩ := y0
      obtain ⟨d1, p1⟩ := y1
      obtain ⟨d2, p2⟩ := y2
      obtain ⟨d3, p3⟩ := y3
      simp only [Rows.laid_chronicle_field_moduli, List.map_cons, List.map_nil, Prod.mk.injEq, DataW.agg.injEq, List.cons.injEq, and_true] at hx
      obtain ⟨⟨e0, e1, e2, e3⟩, _⟩ := hx
      subst e0 e1 e2 e3
      have g0 := Lib.cells_of_tab (k := .u64) (zs := [18446744073709551615, 4294967295, 0, 18446744069414584321]) Tryd.underlying56 Tryd.underlying22 cellsU64 cellsMod h0
      have g1 := Lib.cells_of_tab (k := .u64) (zs := [17562291160714782033, 13611842547513532036, 18446744073709551615, 18446744069414584320]) Tryd.underlying56 Tryd.underlying22 cellsU64 cellsMod h1
      have g2 := Lib.cells_of_tab (k := .u64) (zs := [18446744073709551597, 18446744073709551615, 18446744073709551615, 9223372036854775807]) Tryd.underlying56 Tryd.underlying22 cellsU64 cellsMod h2
      have g3 := Lib.cells_of_tab (k := .u64) (zs := [6346243789798364141, 1503914060200516822, 0, 1152921504606846976]) Tryd.underlying56 Tryd.underlying22 cellsU64 cellsMod h3
      simp at g0 g1 g2 g3
      simp [g0, g1, g2, g3]
    · cases h
theorem g_curveD : Tryd.prog.globalNamed "chronicle/ed.curveD" = some 0 := by kernel_rfl
theorem t_curveD : (Tryd.prog.globals[0]?).map (·.type) = some 24 := by kernel_rfl
theorem tab_of_laid {W : World} (h : laidMetH Tryd.prog laid1 W) : Tab W := by
  rw [MakeChecks.laidMetH_plain _ _ _ (by kernel_rfl)] at h
  have hcurveD : Lib.TabIs Tryd.prog W "chronicle/ed.curveD" .u64 [8496970652267935907, 31536524315187371, 10144147576115030168, 5909686906226998899] := Lib.tabIs_of_head (rest := []) g_curveD t_curveD Tryd.underlying24 Tryd.underlying22 cellsU64 cellsNat h.tail
  obtain ⟨ps, ⟨g, t, cs, fuel, p, q, hg, ht, hvar, hd, _, _⟩, _⟩ := h
  obtain rfl := Option.some.inj (gMod.symm.trans hg)
  obtain rfl := Option.some.inj (tMod.symm.trans ht)
  have hcs := cells_of_table hd
  obtain ⟨l⟩ := cs
  simp only at hcs
  subst hcs
  exact ⟨World.var?_cell hg hvar 0, World.var?_cell hg hvar 1, World.var?_cell hg hvar 2, World.var?_cell hg hvar 3, World.var?_cell hg hvar 4, World.var?_cell hg hvar 5, World.var?_cell hg hvar 6, World.var?_cell hg hvar 7, World.var?_cell hg hvar 8, World.var?_cell hg hvar 9, World.var?_cell hg hvar 10, World.var?_cell hg hvar 11, World.var?_cell hg hvar 12, World.var?_cell hg hvar 13, World.var?_cell hg hvar 14, World.var?_cell hg hvar 15, hcurveD.cell g_curveD 0 (by decide), hcurveD.cell g_curveD 1 (by decide), hcurveD.cell g_curveD 2 (by decide), hcurveD.cell g_curveD 3 (by decide)⟩
/-- The door's own heap meets the condition. -/
theorem door_met (os : Os) (args : Array Value) : laidMetH Tryd.prog laid1 ((World.doorLaid Tryd.prog 200 os).forCall (fun _ _ => 0) ⟨#[], args, []⟩).memory :=
  laidMetH_of_parts3 (fuel := 8) (laidMet_of_run' 8 (by kernel_rfl) (by kernel_rfl)) (by kernel_rfl) (by kernel_rfl)
end Go.Proofs.YtolehamdaceikabDoor
namespace Go.Proofs.YtolehamdaceikabDoor
open Go.ChangeShapes Go.WideShapes Go.ChangeAt Go.RowKit

theorem cellsPt : Tryd.prog.cellsOf 26 = 9 := by kernel_rfl
theorem cellsBool : Tryd.prog.cellsOf 4 = 1 := by kernel_rfl
theorem list9 {α : Type} (l : List α) (h : (⟨l⟩ : Array α).size = 9) : ∃ x0 x1 x2 x3 x4 x5 x6 x7 x8, l = [x0, x1, x2, x3, x4, x5, x6, x7, x8] := by
  match l, h with
  | [x0, x1, x2, x3, x4, x5, x6, x7, x8], _ => exact ⟨x0, x1, x2, x3, x4, x5, x6, x7, x8, rfl⟩
theorem open_cells {H : Type} {enc : TypeId × Value → H} {W : World} {sp : Nat → Bool} {held : Bool} {fuel : Nat} {c0 c1 c2 c3 : Value} {y : DataW H × List MemPlace}
    (hf : DataW.trod enc Tryd.prog W 0 sp held fuel 24 [c0, c1, c2, c3] = some y) :
    ∃ a, Num a ∧ c0 = .int .u64 (L 0 a) ∧ c1 = .int .u64 (L 1 a) ∧ c2 = .int .u64 (L 2 a) ∧ c3 = .int .u64 (L 3 a) ∧ y = (DataW.agg [.lit (.int .u64 (L 0 a)), .lit (.int .u64 (L 1 a)), .lit (.int .u64 (L 2 a)), .lit (.int .u64 (L 3 a))], []) := by
  obtain ⟨y0, y1, y2, y3, m, hx, hy0, hy1, hy2, hy3⟩ := trod_array4 Tryd.underlying24 cellsU64 hf
  obtain ⟨x0, e0, rfl, w0⟩ := DataW.trod_int Tryd.underlying22 hy0
  obtain ⟨x1, e1, rfl, w1⟩ := DataW.trod_int Tryd.underlying22 hy1
  obtain ⟨x2, e2, rfl, w2⟩ := DataW.trod_int Tryd.underlying22 hy2
  obtain ⟨x3, e3, rfl, w3⟩ := DataW.trod_int Tryd.underlying22 hy3
  simp at e0 e1 e2 e3
  subst e0 e1 e2 e3
  obtain ⟨a, ha, rfl, rfl, rfl, rfl⟩ := num_of x0 x1 x2 x3 (word_of_wf w0) (word_of_wf w1) (word_of_wf w2) (word_of_wf w3)
  exact ⟨a, ha, rfl, rfl, rfl, rfl, by simpa using hx⟩
/-- A point, as data. -/
def ptD {H : Type} (a b : Int) (t : Bool) : DataW H := DataW.agg [DataW.agg [.lit (.int .u64 (L 0 a)), .lit (.int .u64 (L 1 a)), .lit (.int .u64 (L 2 a)), .lit (.int .u64 (L 3 a))], DataW.agg [.lit (.int .u64 (L 0 b)), .lit (.int .u64 (L 1 b)), .lit (.int .u64 (L 2 b)), .lit (.int .u64 (L 3 b))], .lit (.bool t)]
theorem open_point {H : Type} {enc : TypeId × Value → H} {W : World} {base : Nat} {v : Value} {d : DataW H} {p : List MemPlace}
    (hv : Value.okWide Tryd.prog W .any base 26 v) (h : DataW.Trod enc Tryd.prog W 0 (fun _ => true) true 26 v d p) :
    ∃ a b t, Num a ∧ Num b ∧ v = .agg #[.int .u64 (L 0 a), .int .u64 (L 1 a), .int .u64 (L 2 a), .int .u64 (L 3 a), .int .u64 (L 0 b), .int .u64 (L 1 b), .int .u64 (L 2 b), .int .u64 (L 3 b), .bool t] ∧ d = ptD a b t ∧ p = [] := by
  obtain ⟨cs, rfl, hsz, _⟩ : ∃ cs, v = .agg cs ∧ cs.size = Tryd.prog.cellsOf 26 ∧ Row.okWide Tryd.prog W .any base 26 cs := by
    simpa [Value.okWide, Tryd.underlying26] using hv
  rw [cellsPt] at hsz
  obtain ⟨l⟩ := cs
  obtain ⟨x0, x1, x2, x3, x4, x5, x6, x7, x8, rfl⟩ := list9 l hsz
  obtain ⟨fuel, hf⟩ := h
  cases fuel with
  | zero => simp [DataW.trod] at hf
  | succ fuel =>
    simp only [DataW.trod, Value.cells, Tryd.underlying26, cellsPt] at hf
    split at hf
    · simp only [Option.map_eq_some_iff, List.mapM_cons, List.mapM_nil, Option.bind_eq_bind, Option.bind_eq_some_iff, Option.pure_def, Option.some.injEq] at hf
      obtain ⟨ys, ⟨y0, h0, _, ⟨y1, h1, _, ⟨y2, h2, _, rfl, rfl⟩, rfl⟩, rfl⟩, hx⟩ := hf
      obtain ⟨a, ha, rfl, rfl, rfl, rfl, rfl⟩ := open_cells (c0 := x0) (c1 := x1) (c2 := x2) (c3 := x3) h0
      obtain ⟨b, hb, rfl, rfl, rfl, rfl, rfl⟩ := open_cells (c0 := x4) (c1 := x5) (c2 := x6) (c3 := x7) h1
      obtain ⟨t, e, rfl⟩ := DataW.trod_bool Tryd.underlying4 h2
      simp [cellsBool] at e
      subst e
      simp at hx
      obtain ⟨rfl, rfl⟩ := hx
      exact ⟨a, b, t, ha, hb, rfl, rfl, rfl⟩
    · cases hf
theorem shut_point {H : Type} {enc : TypeId × Value → H} (W : World) (sp : Nat → Bool) (a b : Int) (t : Bool) :
    DataW.Trod enc Tryd.prog W 0 sp true 26 (.agg #[.int .u64 (L 0 a), .int .u64 (L 1 a), .int .u64 (L 2 a), .int .u64 (L 3 a), .int .u64 (L 0 b), .int .u64 (L 1 b), .int .u64 (L 2 b), .int .u64 (L 3 b), .bool t]) (ptD a b t) [] := by
  have wa0 := wf_of_word ⟨L_lo 0 a, L_hi 0 a⟩
  have wa1 := wf_of_word ⟨L_lo 1 a, L_hi 1 a⟩
  have wa2 := wf_of_word ⟨L_lo 2 a, L_hi 2 a⟩
  have wa3 := wf_of_word ⟨L_lo 3 a, L_hi 3 a⟩
  have wb0 := wf_of_word ⟨L_lo 0 b, L_hi 0 b⟩
  have wb1 := wf_of_word ⟨L_lo 1 b, L_hi 1 b⟩
  have wb2 := wf_of_word ⟨L_lo 2 b, L_hi 2 b⟩
  have wb3 := wf_of_word ⟨L_lo 3 b, L_hi 3 b⟩
  exact ⟨3, by simp [ptD, DataW.trod, Value.cells, Tryd.underlying26, Tryd.underlying24, Tryd.underlying22, Tryd.underlying4, cellsPt, cellsNat, cellsU64, cellsBool, wa0, wa1, wa2, wa3, wb0, wb1, wb2, wb3, show List.range 4 = [0, 1, 2, 3] from rfl]⟩
end Go.Proofs.YtolehamdaceikabDoor
