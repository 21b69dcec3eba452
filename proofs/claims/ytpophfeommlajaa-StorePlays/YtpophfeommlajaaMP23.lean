/- Layer 13: how the parameters of the laws are read before the call. -/
import Derived.Test.YtpophfeommlajaaMP12
import Derived.ProofKit
import Derived.Laws.IdiomArrays
import Derived.OpenShut
import Derived.Carry
import Derived.Deep.Grids
namespace Go.Proofs.Ytpophfeommlajaa
set_option maxRecDepth 100000
open Go.ChangeShapes Go.WideShapes Go.ChangeAt Go.RowKit

theorem own : ownKnob Try.prog.godebug = none := by kernel_rfl
theorem Try.laidOut : laidOutB Try.prog = true := by kernel_rfl
theorem cellsU8 : Try.prog.cellsOf 5 = 1 := by kernel_rfl
theorem cellsBool : Try.prog.cellsOf 4 = 1 := by kernel_rfl
theorem cellsInt : Try.prog.cellsOf 3 = 1 := by kernel_rfl
theorem cellsBytes : Try.prog.cellsOf 38 = 1 := by kernel_rfl
theorem cellsBools : Try.prog.cellsOf 39 = 1 := by kernel_rfl
theorem cellsFate : Try.prog.cellsOf 41 = 3 := by kernel_rfl
theorem open_byteslice {H : Type} {enc : TypeId × Value → H} {W : World} {fuel : Nat} {c : Value} {y : DataW H × List MemPlace} (hf : DataW.trod enc Try.prog W 0 (fun _ => true) true fuel 38 [c] = some y) : ∃ a n k f, c = .slice a n k ∧ BA W a n f ∧ n ≤ k := by
  rcases open_ints Try.underlying38 Try.underlying5 cellsU8 hf with ⟨hcs, hx⟩ | ⟨a, len', cap', zs, hcs, _, hl, hm, hz, hx, hcell, hwz⟩
  · simp at hcs
    exact ⟨none, 0, 0, fun _ => 0, hcs, ⟨fun _ => by omega, Or.inl rfl⟩, by omega⟩
  · simp at hcs
    subst hcs
    simp only [if_true] at hz
    have hr : ∀ i, 0 ≤ zs.getD i 0 ∧ zs.getD i 0 < 256 := fun i => by
      have h := range_u8 hwz i
      simp only [List.getD_eq_getElem?_getD]
      omega
    refine ⟨some a, _, _, fun i => (zs.getD i 0).toNat, rfl, ⟨fun i => by have := hr i; omega, ?_⟩, hl⟩
    by_cases h0 : len' = 0
    · exact Or.inl h0
    · obtain ⟨b, off, rfl, hc⟩ := ints_at hcell (by omega)
      exact Or.inr ⟨b, off, rfl, ⟨fun i hi => by
        have := hr i
        rw [hc i (by omega), Int.toNat_of_nonneg this.1]⟩⟩
theorem open_boolslice {H : Type} {enc : TypeId × Value → H} {W : World} {fuel : Nat} {c : Value} {y : DataW H × List MemPlace} (hf : DataW.trod enc Try.prog W 0 (fun _ => true) true fuel 39 [c] = some y) : ∃ z KL k, c = .slice z (List.length KL) k ∧ Kb W z KL := by
  rcases Go.Deep.open_bools Try.underlying39 Try.underlying4 cellsBool hf with ⟨hcs, hx⟩ | ⟨a, len, cap, B, hcs, _, hl, hm, hx, hcell⟩
  · simp at hcs
    exact ⟨none, [], 0, hcs, Or.inl rfl⟩
  · simp at hcs
    subst hcs
    refine ⟨some a, (List.range len).map B, cap, by simp, ?_⟩
    by_cases h0 : len = 0
    · left; subst h0; rfl
    · right
      obtain ⟨b, off, spot⟩ := a
      have hspot : spot = none := by simpa [Addr.add] using World.cell?_spot (hcell 0 (by omega))
      subst hspot
      refine ⟨b, off, rfl, fun i v hv => ?_⟩
      have hi : i < len := by
        have := (List.getElem?_eq_some_iff.1 hv).1
        simpa using this
      have := hcell i (by omega)
      rw [Addr.add_mid] at this
      rw [this]
      simp [hi] at hv
      rw [hv]
def i64 (x : Int) : Prop := -9223372036854775808 ≤ x ∧ x < 9223372036854775808
theorem i64_of {x : Int} (h : (Lit.int .i64 x).wf = true) : i64 x := by
  simp [Lit.wf, IntKind.min, IntKind.max, IntKind.signed, IntKind.bits] at h
  unfold i64
  omega
theorem open_fate_cells {H : Type} {enc : TypeId × Value → H} {W : World} {fuel : Nat} {x0 x1 x2 : Value} {y : DataW H × List MemPlace} (hf : DataW.trod enc Try.prog W 0 (fun _ => true) true fuel 41 [x0, x1, x2] = some y) :
    ∃ z KL k t a, x0 = .slice z (List.length KL) k ∧ x1 = .int .i64 t ∧ x2 = .int .i64 a ∧ Kb W z KL ∧ i64 t ∧ i64 a := by
  cases fuel with
  | zero => simp [DataW.trod] at hf
  | succ fuel =>
    simp only [DataW.trod, Try.underlying41, cellsFate] at hf
    split at hf
    · simp only [Option.map_eq_some_iff, List.mapM_cons, List.mapM_nil, Option.bind_eq_bind, Option.bind_eq_some_iff, Option.pure_def, Option.some.injEq] at hf
      obtain ⟨ys, ⟨y0, h0, _, ⟨y1, h1, _, ⟨y2, h2, _, rfl, rfl⟩, rfl⟩, rfl⟩, hx⟩ := hf
      simp [cellsBools] at h0
      obtain ⟨z, KL, k, rfl, hK⟩ := open_boolslice h0
      obtain ⟨t, e, rfl, wt⟩ := DataW.trod_int Try.underlying3 h1
      simp [cellsInt] at e
      subst e
      obtain ⟨a, e, rfl, wa⟩ := DataW.trod_int Try.underlying3 h2
      simp [cellsInt] at e
      subst e
      exact ⟨z, KL, k, t, a, rfl, rfl, rfl, hK, i64_of wt, i64_of wa⟩
    · cases hf
/-- A call of a script, as it lies in memory. -/
structure OpV : Type where
  kd : Int
  i : Int
  x : Option Addr
  m : Nat
  c : Nat
  f : Nat → Nat
  z : Option Addr
  KL : List Bool
  k : Nat
  t : Int
  a : Int
def OpV.cells (o : OpV) : List Value := [.int .i64 o.kd, .int .i64 o.i, .slice o.x o.m o.c, .slice o.z o.KL.length o.k, .int .i64 o.t, .int .i64 o.a]
structure OpV.ok (W : World) (o : OpV) : Prop where
  kd : i64 o.kd
  i : i64 o.i
  b : BA W o.x o.m o.f
  k : Kb W o.z o.KL
  t : i64 o.t
  a : i64 o.a
/-- A script in memory. -/
structure OpsAt (W : World) (z : Option Addr) (n : Nat) (O : Nat → OpV) : Prop where
  at_ : n = 0 ∨ ∃ b o, z = some ⟨b, o, none⟩ ∧ ∀ i, i < n → W.rangeAt b (o + i * 6) (O i).cells
  r : ∀ i, i < n → (O i).ok W
theorem list6 {α : Type} (l : List α) (h : l.length = 6) : ∃ a b c d e f, l = [a, b, c, d, e, f] := by
  match l, h with
  | [a, b, c, d, e, f], _ => exact ⟨a, b, c, d, e, f, rfl⟩
end Go.Proofs.Ytpophfeommlajaa
