/- CheckPaths, CheckProofs: what is claimed. How a pair of hashes, and a claim, are read before the call. -/
import Derived.Test.YtkpkkjcfodjifaaDoorMB14
namespace Go.Proofs.YtkpkkjcfodjifaaDoor
set_option maxRecDepth 100000
open Go.RowKit
attribute [local go_sem ↓] Go.wp_at_zero Go.wp_at_succ

/-- A claim's cells. -/
def cl (m n : Int) (f : Nat → Nat) (x : Option Addr) (l c : Nat) (g : Nat → Nat) : List Value := [.int .i64 m, .int .i64 n] ++ (ab f 32 ++ (.slice x l c :: ab g 32))
section
variable {W : World} {b : Nat} {m n : Int} {f : Nat → Nat} {x : Option Addr} {l c : Nat} {g : Nat → Nat}
end
theorem zeroCi : (Tryd.prog.info? 26).map (·.zero) = some (some (.agg (cl 0 0 (fun _ => 0) none 0 0 (fun _ => 0)).toArray)) := by kernel_rfl
def zeroCc : Array Value := (cl 0 0 (fun _ => 0) none 0 0 (fun _ => 0)).toArray
theorem zeroCl : zeroCc = (cl 0 0 (fun _ => 0) none 0 0 (fun _ => 0)).toArray := rfl
theorem zeroCv (w : World) : Sem.run Tryd.prog (zeroValue 26) w = .ok (.agg zeroCc) w := by
  obtain ⟨i, hi, hz⟩ : ∃ i, Tryd.prog.info? 26 = some i ∧ i.zero = some (.agg zeroCc) := by
    have h := zeroCi
    rw [← zeroCl] at h
    cases hi : Tryd.prog.info? 26 with
    | none => rw [hi] at h; cases h
    | some i => rw [hi] at h; exact ⟨i, rfl, Option.some.inj h⟩
  simp [zeroValue, typeInfo, hi, hz]
attribute [local go_sem] zeroCv
section
variable {w0 W : World} {f g h k : Nat → Nat} {a b c d : Nat} {m n : Int} {x : Option Addr} {l r : Nat} {A B : Nat × List Value}
end
end Go.Proofs.YtkpkkjcfodjifaaDoor
namespace Go.Proofs.YtkpkkjcfodjifaaDoor
set_option maxRecDepth 100000
open Go.ChangeShapes Go.WideShapes Go.ChangeAt Go.RowKit

theorem cellsH2 : Tryd.prog.cellsOf 38 = 64 := by kernel_rfl
theorem split2 {l : List Value} {a b : Nat} (h : l.length = a + b) : l = l.take a ++ (l.drop a).take b := by
  rw [List.take_of_length_le (l := l.drop a) (by rw [List.length_drop]; omega), List.take_append_drop]
/-- A parameter of two hashes. -/
theorem open_h2 {H : Type} {enc : TypeId × Value → H} {W : World} {base : Nat} {v : Value} {d : DataW H} {p : List MemPlace}
    (hv0 : Value.okWide Tryd.prog W .any base 38 v) (h : DataW.Trod enc Tryd.prog W 0 (fun _ => true) true 38 v d p) :
    ∃ f g : Nat → Nat, v = .agg (ab f 32 ++ ab g 32).toArray ∧ (∀ i, f i < 256) ∧ ∀ i, g i < 256 := by
  obtain ⟨cs, rfl, hsz, _⟩ : ∃ cs, v = .agg cs ∧ cs.size = Tryd.prog.cellsOf 38 ∧ Row.okWide Tryd.prog W .any base 38 cs := by
    simpa [Value.okWide, Tryd.underlying38] using hv0
  rw [cellsH2] at hsz
  obtain ⟨l⟩ := cs
  have hl : l.length = 64 := by simpa using hsz
  obtain ⟨fuel, hf⟩ := h
  obtain ⟨xs, m, _, _, _, hxl, hat⟩ := DataW.trod_array Tryd.underlying38 hf
  have key : ∀ i, i < 2 → ∃ f : Nat → Nat, (∀ j, f j < 256) ∧ (l.drop (i * 32)).take 32 = ab f 32 := fun i hi => by
    have h1 := hat i hi
    rw [cellsHash, List.getElem?_eq_getElem (by omega)] at h1
    exact hash_cells (by rw [List.length_take, List.length_drop]; have e : i * 32 + 32 ≤ 64 := by omega
                         omega) h1
  obtain ⟨f, hf1, hf2⟩ := key 0 (by omega)
  obtain ⟨g, hg1, hg2⟩ := key 1 (by omega)
  refine ⟨f, g, ?_, hf1, hg1⟩
  rw [Nat.zero_mul, List.drop_zero] at hf2
  rw [Nat.one_mul] at hg2
  rw [split2 (l := l) (a := 32) (b := 32) (by omega), hf2, hg2]
end Go.Proofs.YtkpkkjcfodjifaaDoor
