/- Layer 13: how the parameters of the laws are read before the call. -/
import Derived.Test.YtmifmgnlfjahmaaD13Q
import Derived.ProofKit
import Derived.Laws.IdiomArrays
import Derived.OpenShut
import Derived.Carry
import Derived.Deep.Grids
namespace Go.Proofs.Ytmifmgnlfjahmaa
open Go.ChangeShapes Go.WideShapes Go.ChangeAt Go.RowKit

theorem own : ownKnob Try.prog.godebug = none := by kernel_rfl
theorem Try.laidOut : laidOutB Try.prog = true := by kernel_rfl
theorem cellsU8 : Try.prog.cellsOf 5 = 1 := by kernel_rfl
theorem cellsBool : Try.prog.cellsOf 4 = 1 := by kernel_rfl
theorem cellsInt : Try.prog.cellsOf 3 = 1 := by kernel_rfl
theorem cellsBytes : Try.prog.cellsOf 33 = 1 := by kernel_rfl
theorem cellsBools : Try.prog.cellsOf 34 = 1 := by kernel_rfl
theorem cellsFate : Try.prog.cellsOf 36 = 3 := by kernel_rfl
theorem cellsOp : Try.prog.cellsOf 38 = 6 := by kernel_rfl
theorem open_byteslice {H : Type} {enc : TypeId × Value → H} {W : World} {fuel : Nat} {c : Value} {y : DataW H × List MemPlace} (hf : DataW.trod enc Try.prog W 0 (fun _ => true) true fuel 33 [c] = some y) : ∃ a n k f, c = .slice a n k ∧ BA W a n f ∧ n ≤ k := by
  rcases open_ints Try.underlying33 Try.underlying5 cellsU8 hf with ⟨hcs, hx⟩ | ⟨a, len', cap', zs, hcs, _, hl, hm, hz, hx, hcell, hwz⟩
  · simp at hcs
    exact ⟨none, 0, 0, fun _ => 0, hcs, ⟨fun _ => by omega, Or.inl rfl⟩, by omega⟩
  · simp at hcs
    subst hcs
    simp only [if_true] at hz
    have hr : ∀ i, 0 ≤ zs.getD i 0 ∧ zs.getD i 0 < 256 := fun i => by
      have h := range_u8 hwz i
      simp only [List.getD_eq_getElem?_getD]
      omega
    refine ⟨some a, _, _, fun i => (zs.getD i 0).toNat, rfl, ⟨fun i => by have := hr i; omega, ?_⟩, hl⟩
    by_cases h0 : len' = 0
    · exact Or.inl h0
    · obtain ⟨b, off, rfl, hc⟩ := ints_at hcell (by omega)
      exact Or.inr ⟨b, off, rfl, ⟨fun i hi => by
        have := hr i
        rw [hc i (by omega), Int.toNat_of_nonneg this.1]⟩⟩
theorem open_bytes {H : Type} {enc : TypeId × Value → H} {W : World} {base : Nat} {v : Value} {d : DataW H} {p : List MemPlace}
    (hv : Value.okWide Try.prog W .any base 33 v) (h : DataW.Trod enc Try.prog W 0 (fun _ => true) true 33 v d p) :
    ∃ a n c f, v = .slice a n c ∧ BA W a n f ∧ n ≤ c := by
  obtain ⟨a0, len, cap, rfl⟩ := okWide_slice Try.underlying33 hv
  obtain ⟨fuel, hf⟩ := h
  obtain ⟨a, n, k, f, e, h1, h2⟩ := open_byteslice (c := .slice a0 len cap) hf
  cases e
  exact ⟨_, _, _, f, rfl, h1, h2⟩
theorem open_boolslice {H : Type} {enc : TypeId × Value → H} {W : World} {fuel : Nat} {c : Value} {y : DataW H × List MemPlace} (hf : DataW.trod enc Try.prog W 0 (fun _ => true) true fuel 34 [c] = some y) : ∃ z KL k, c = .slice z (List.length KL) k ∧ Kb W z KL := by
  rcases Go.Deep.open_bools Try.underlying34 Try.underlying4 cellsBool hf with ⟨hcs, hx⟩ | ⟨a, len, cap, B, hcs, _, hl, hm, hx, hcell⟩
  · simp at hcs
    exact ⟨none, [], 0, hcs, Or.inl rfl⟩
  · simp at hcs
    subst hcs
    refine ⟨some a, (List.range len).map B, cap, by simp, ?_⟩
    by_cases h0 : len = 0
    · left; subst h0; rfl
    · right
      obtain ⟨b, off, spot⟩ := a
      have hspot : spot = none := by simpa [Addr.add] using World.cell?_spot (hcell 0 (by omega))
      subst hspot
      refine ⟨b, off, rfl, fun i v hv => ?_⟩
      have hi : i < len := by
        have := (List.getElem?_eq_some_iff.1 hv).1
        simpa using this
      have := hcell i (by omega)
      rw [Addr.add_mid] at this
      rw [this]
      simp [hi] at hv
      rw [hv]
def i64 (x : Int) : Prop := -9223372036854775808 ≤ x ∧ x < 9223372036854775808
theorem i64_of {x : Int} (h : (Lit.int .i64 x).wf = true) : i64 x := by
  simp [Lit.wf, IntKind.min, IntKind.max, IntKind.signed, IntKind.bits] at h
  unfold i64
  omega
theorem open_fate_cells {H : Type} {enc : TypeId × Value → H} {W : World} {fuel : Nat} {x0 x1 x2 : Value} {y : DataW H × List MemPlace} (hf : DataW.trod enc Try.prog W 0 (fun _ => true) true fuel 36 [x0, x1, x2] = some y) :
    ∃ z KL k t a, x0 = .slice z (List.length KL) k ∧ x1 = .int .i64 t ∧ x2 = .int .i64 a ∧ Kb W z KL ∧ i64 t ∧ i64 a := by
  cases fuel with
  | zero => simp [DataW.trod] at hf
  | succ fuel =>
    simp only [DataW.trod, Try.underlying36, cellsFate] at hf
    split at hf
    · simp only [Option.map_eq_some_iff, List.mapM_cons, List.mapM_nil, Option.bind_eq_bind, Option.bind_eq_some_iff, Option.pure_def, Option.some.injEq] at hf
      obtain ⟨ys, ⟨y0, h0, _, ⟨y1, h1, _, ⟨y2, h2, _, rfl, rfl⟩, rfl⟩, rfl⟩, hx⟩ := hf
      simp [cellsBools] at h0
      obtain ⟨z, KL, k, rfl, hK⟩ := open_boolslice h0
      obtain ⟨t, e, rfl, wt⟩ := DataW.trod_int Try.underlying3 h1
      simp [cellsInt] at e
      subst e
      obtain ⟨a, e, rfl, wa⟩ := DataW.trod_int Try.underlying3 h2
      simp [cellsInt] at e
      subst e
      exact ⟨z, KL, k, t, a, rfl, rfl, rfl, hK, i64_of wt, i64_of wa⟩
    · cases hf
theorem list3 {α : Type} (l : List α) (h : (⟨l⟩ : Array α).size = 3) : ∃ a b c, l = [a, b, c] := by
  match l, h with
  | [a, b, c], _ => exact ⟨a, b, c, rfl⟩
theorem open_fate {H : Type} {enc : TypeId × Value → H} {W : World} {base : Nat} {v : Value} {d : DataW H} {p : List MemPlace}
    (hv : Value.okWide Try.prog W .any base 36 v) (h : DataW.Trod enc Try.prog W 0 (fun _ => true) true 36 v d p) :
    ∃ z KL k t a, v = .agg #[.slice z (List.length KL) k, .int .i64 t, .int .i64 a] ∧ Kb W z KL ∧ i64 t ∧ i64 a := by
  obtain ⟨cs, rfl, hsz, _⟩ : ∃ cs, v = .agg cs ∧ cs.size = Try.prog.cellsOf 36 ∧ Row.okWide Try.prog W .any base 36 cs := by
    simpa [Value.okWide, Try.underlying36] using hv
  rw [cellsFate] at hsz
  obtain ⟨l⟩ := cs
  obtain ⟨x0, x1, x2, rfl⟩ := list3 l hsz
  obtain ⟨fuel, hf⟩ := h
  obtain ⟨z, KL, k, t, a, rfl, rfl, rfl, h1, h2, h3⟩ := open_fate_cells hf
  exact ⟨z, KL, k, t, a, rfl, h1, h2, h3⟩
/-- A call of a script, as it lies in memory. -/
structure OpV : Type where
  kd : Int
  i : Int
  x : Option Addr
  m : Nat
  c : Nat
  f : Nat → Nat
  z : Option Addr
  KL : List Bool
  k : Nat
  t : Int
  a : Int
def OpV.cells (o : OpV) : List Value := [.int .i64 o.kd, .int .i64 o.i, .slice o.x o.m o.c, .slice o.z o.KL.length o.k, .int .i64 o.t, .int .i64 o.a]
structure OpV.ok (W : World) (o : OpV) : Prop where
  kd : i64 o.kd
  i : i64 o.i
  b : BA W o.x o.m o.f
  k : Kb W o.z o.KL
  t : i64 o.t
  a : i64 o.a
/-- A script in memory. -/
structure OpsAt (W : World) (z : Option Addr) (n : Nat) (O : Nat → OpV) : Prop where
  at_ : n = 0 ∨ ∃ b o, z = some ⟨b, o, none⟩ ∧ ∀ i, i < n → W.rangeAt b (o + i * 6) (O i).cells
  r : ∀ i, i < n → (O i).ok W
theorem open_op_cells {H : Type} {enc : TypeId × Value → H} {W : World} {fuel : Nat} {x0 x1 x2 x3 x4 x5 : Value} {y : DataW H × List MemPlace} (hf : DataW.trod enc Try.prog W 0 (fun _ => true) true fuel 38 [x0, x1, x2, x3, x4, x5] = some y) :
    ∃ o : OpV, [x0, x1, x2, x3, x4, x5] = o.cells ∧ o.ok W := by
  cases fuel with
  | zero => simp [DataW.trod] at hf
  | succ fuel =>
    simp only [DataW.trod, Try.underlying38, cellsOp] at hf
    split at hf
    · simp only [Option.map_eq_some_iff, List.mapM_cons, List.mapM_nil, Option.bind_eq_bind, Option.bind_eq_some_iff, Option.pure_def, Option.some.injEq] at hf
      obtain ⟨ys, ⟨y0, h0, _, ⟨y1, h1, _, ⟨y2, h2, _, ⟨y3, h3, _, rfl, rfl⟩, rfl⟩, rfl⟩, rfl⟩, hx⟩ := hf
      obtain ⟨kd, e, rfl, wk⟩ := DataW.trod_int Try.underlying3 h0
      simp [cellsInt] at e
      subst e
      obtain ⟨i, e, rfl, wi⟩ := DataW.trod_int Try.underlying3 h1
      simp [cellsInt] at e
      subst e
      simp [cellsBytes] at h2
      obtain ⟨x, m, c, f, rfl, hb, _⟩ := open_byteslice h2
      simp [cellsFate] at h3
      obtain ⟨z, KL, k, t, a, rfl, rfl, rfl, hk, ht, ha⟩ := open_fate_cells h3
      exact ⟨⟨kd, i, x, m, c, f, z, KL, k, t, a⟩, rfl, ⟨i64_of wk, i64_of wi, hb, hk, ht, ha⟩⟩
    · cases hf
theorem list6 {α : Type} (l : List α) (h : l.length = 6) : ∃ a b c d e f, l = [a, b, c, d, e, f] := by
  match l, h with
  | [a, b, c, d, e, f], _ => exact ⟨a, b, c, d, e, f, rfl⟩
theorem open_ops_cells {H : Type} {enc : TypeId × Value → H} {W : World} {fuel : Nat} {c0 : Value} {y : DataW H × List MemPlace} (hf : DataW.trod enc Try.prog W 0 (fun _ => true) true fuel 22 [c0] = some y) :
    ∃ z n c O, c0 = .slice z n c ∧ OpsAt W z n O := by
  rcases Go.Deep.open_slice Try.underlying22 hf with ⟨hcs, _⟩ | ⟨a, len, cap, m, n, D, Pl, hcs, _, hl, _, hm, _, hx⟩
  · simp at hcs
    exact ⟨none, 0, 0, fun _ => ⟨0, 0, none, 0, 0, fun _ => 0, none, [], 0, 0, 0⟩, hcs, ⟨Or.inl rfl, fun i hi => by omega⟩⟩
  · simp at hcs
    simp only [if_true] at hm
    subst hm hcs
    rw [cellsOp] at hx
    have key : ∀ i, i < m → ∃ o : OpV, W.cells? 0 (a.add (i * 6)) 6 = some o.cells ∧ o.ok W := fun i hi => by
      obtain ⟨cs', h1, h2⟩ := hx i hi
      obtain ⟨_, hlen, _⟩ := World.cells?_some h1
      obtain ⟨x0, x1, x2, x3, x4, x5, rfl⟩ := list6 cs' hlen
      obtain ⟨o, e, ho⟩ := open_op_cells h2
      exact ⟨o, by rw [h1, e], ho⟩
    have hI : Inhabited OpV := ⟨⟨0, 0, none, 0, 0, fun _ => 0, none, [], 0, 0, 0⟩⟩
    obtain ⟨O, hO⟩ := Go.Deep.choose_lt key
    refine ⟨some a, len, m, O, rfl, ⟨?_, fun i hi => (hO i (by omega)).2⟩⟩
    by_cases h0 : len = 0
    · exact Or.inl h0
    · right
      obtain ⟨b, off, spot⟩ := a
      have hc : ∀ i j, i < len → j < 6 → W.cell? (((⟨b, off, spot⟩ : Addr).add (i * 6)).add j) = (O i).cells[j]? := fun i j hi hj => (World.cells?_some (hO i (by omega)).1).2.2 j hj
      have hspot : spot = none := by
        have h1 : W.cell? (((⟨b, off, spot⟩ : Addr).add (0 * 6)).add 0) = some (.int .i64 (O 0).kd) := hc 0 0 (by omega) (by omega)
        simpa [Addr.add] using World.cell?_spot h1
      subst hspot
      refine ⟨b, off, rfl, fun i hi j v hv => ?_⟩
      have hj : j < 6 := (List.getElem?_eq_some_iff.1 hv).1
      have := hc i j hi hj
      rw [Addr.add_mid, Addr.add_mid] at this
      rw [this]
      exact hv
theorem open_ops {H : Type} {enc : TypeId × Value → H} {W : World} {base : Nat} {v : Value} {d : DataW H} {p : List MemPlace}
    (hv : Value.okWide Try.prog W .any base 22 v) (h : DataW.Trod enc Try.prog W 0 (fun _ => true) true 22 v d p) :
    ∃ z n c O, v = .slice z n c ∧ OpsAt W z n O := by
  obtain ⟨a0, len, cap, rfl⟩ := okWide_slice Try.underlying22 hv
  obtain ⟨fuel, hf⟩ := h
  exact open_ops_cells hf
theorem cellsStory : Try.prog.cellsOf 44 = 3 := by kernel_rfl
theorem cellsOps : Try.prog.cellsOf 22 = 1 := by kernel_rfl
theorem open_story {H : Type} {enc : TypeId × Value → H} {W : World} {base : Nat} {v : Value} {d : DataW H} {p : List MemPlace}
    (hv : Value.okWide Try.prog W .any base 44 v) (h : DataW.Trod enc Try.prog W 0 (fun _ => true) true 44 v d p) :
    ∃ (u : Nat) (a : Int) (z : Option Addr) (n c : Nat) (O : Nat → OpV), v = .agg #[.int .u8 (u : Int), .int .i64 a, .slice z n c] ∧ u < 256 ∧ i64 a ∧ OpsAt W z n O := by
  obtain ⟨cs, rfl, hsz, _⟩ : ∃ cs, v = .agg cs ∧ cs.size = Try.prog.cellsOf 44 ∧ Row.okWide Try.prog W .any base 44 cs := by
    simpa [Value.okWide, Try.underlying44] using hv
  rw [cellsStory] at hsz
  obtain ⟨l⟩ := cs
  obtain ⟨x0, x1, x2, rfl⟩ := list3 l hsz
  obtain ⟨fuel, hf⟩ := h
  cases fuel with
  | zero => simp [DataW.trod] at hf
  | succ fuel =>
    simp only [DataW.trod, Value.cells, Try.underlying44, cellsStory] at hf
    split at hf
    · simp only [Option.map_eq_some_iff, List.mapM_cons, List.mapM_nil, Option.bind_eq_bind, Option.bind_eq_some_iff, Option.pure_def, Option.some.injEq] at hf
      obtain ⟨ys, ⟨y0, h0, _, ⟨y1, h1, _, ⟨y2, h2, _, rfl, rfl⟩, rfl⟩, rfl⟩, hx⟩ := hf
      obtain ⟨t, e, rfl, wt⟩ := DataW.trod_int Try.underlying5 h0
      simp [cellsU8] at e
      subst e
      obtain ⟨a, e, rfl, wa⟩ := DataW.trod_int Try.underlying3 h1
      simp [cellsInt] at e
      subst e
      simp [cellsOps] at h2
      obtain ⟨z, n, c, O, rfl, hO⟩ := open_ops_cells h2
      have hr : 0 ≤ t ∧ t < 256 := by
        simp [Lit.wf, IntKind.min, IntKind.max, IntKind.signed, IntKind.bits] at wt
        omega
      exact ⟨t.toNat, a, z, n, c, O, by rw [Int.toNat_of_nonneg hr.1], by omega, i64_of wa, hO⟩
    · cases hf
end Go.Proofs.Ytmifmgnlfjahmaa
