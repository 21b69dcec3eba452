/- How parameters of hashes, and of lists of hashes, are read before the call. -/
import Derived.Test.YteplklbpehkdjaaDoorLaidS
import Derived.Test.YteplklbpehkdjaaDoorM16
import Derived.Deep.Grids
import Derived.Deep.Slices
namespace Go.Proofs.YteplklbpehkdjaaDoor
set_option maxRecDepth 100000
open Go.ChangeShapes Go.WideShapes Go.ChangeAt Go.RowKit

theorem u32_of_wf {x : Int} (h : (Lit.int .u32 x).wf = true) : 0 ≤ x ∧ x < 4294967296 := by
  simp [Lit.wf, IntKind.min, IntKind.max, IntKind.signed, IntKind.bits] at h
  exact ⟨by omega, by omega⟩
theorem cellsHash : Tryd.prog.cellsOf 32 = 32 := by kernel_rfl
theorem hash_cells {H : Type} {enc : TypeId × Value → H} {W : World} {fuel : Nat} {l : List Value} {y : DataW H × List MemPlace} (hl : l.length = 32)
    (hf : DataW.trod enc Tryd.prog W 0 (fun _ => true) true fuel 32 l = some y) : ∃ f : Nat → Nat, (∀ i, f i < 256) ∧ l = ab f 32 := by
  obtain ⟨xs, m, _, _, _, hxl, hat⟩ := DataW.trod_array Tryd.underlying32 hf
  have key : ∀ i, i < 32 → ∃ n : Nat, l[i]? = some (.int .u8 ((n : Nat) : Int)) ∧ n < 256 := fun i hi => by
    have h1 := hat i hi
    rw [cellsU8, Nat.mul_one, List.getElem?_eq_getElem (by omega)] at h1
    obtain ⟨n, e1, _, hw⟩ := DataW.trod_int Tryd.underlying5 h1
    have hb := u8_of_wf hw
    have e2 : (l.drop i).take 1 = [.int .u8 n] := e1
    have e3 : ((l.drop i).take 1)[0]? = some (.int .u8 n) := by rw [e2]; rfl
    rw [List.getElem?_take_of_lt (by decide), List.getElem?_drop, Nat.add_zero] at e3
    exact ⟨n.toNat, by rw [e3, Int.toNat_of_nonneg hb.1], by omega⟩
  obtain ⟨F, hF⟩ : ∃ F : Nat → Nat, ∀ i, F i < 256 ∧ (i < 32 → l[i]? = some (.int .u8 ((F i : Nat) : Int))) := by
    refine ⟨fun i => if hi : i < 32 then (key i hi).choose else 0, fun i => ?_⟩
    by_cases hi : i < 32
    · simp only [hi, dite_true, forall_const]
      exact ⟨(key i hi).choose_spec.2, (key i hi).choose_spec.1⟩
    · simp [hi]
  refine ⟨F, fun i => (hF i).1, ?_⟩
  apply List.ext_getElem?
  intro i
  rcases Nat.lt_or_ge i 32 with hi | hi
  · rw [(hF i).2 hi, ab_at F hi]
  · rw [List.getElem?_eq_none (by omega), List.getElem?_eq_none (by rw [ab_len]; exact hi)]
/-- A parameter of 32 bytes. -/
theorem open_hash {H : Type} {enc : TypeId × Value → H} {W : World} {base : Nat} {v : Value} {d : DataW H} {p : List MemPlace}
    (hv0 : Value.okWide Tryd.prog W .any base 32 v) (h : DataW.Trod enc Tryd.prog W 0 (fun _ => true) true 32 v d p) :
    ∃ f : Nat → Nat, v = hv f ∧ ∀ i, f i < 256 := by
  obtain ⟨cs, rfl, hsz, _⟩ : ∃ cs, v = .agg cs ∧ cs.size = Tryd.prog.cellsOf 32 ∧ Row.okWide Tryd.prog W .any base 32 cs := by
    simpa [Value.okWide, Tryd.underlying32] using hv0
  rw [cellsHash] at hsz
  obtain ⟨l⟩ := cs
  obtain ⟨fuel, hf⟩ := h
  obtain ⟨f, hf1, hf2⟩ := hash_cells (l := l) (by simpa using hsz) hf
  exact ⟨f, by unfold hv; rw [hf2], hf1⟩
/-- A parameter that is a list of hashes. -/
theorem open_hashes {H : Type} {enc : TypeId × Value → H} {W : World} {base : Nat} {v : Value} {d : DataW H} {p : List MemPlace}
    (hv0 : Value.okWide Tryd.prog W .any base 22 v) (h : DataW.Trod enc Tryd.prog W 0 (fun _ => true) true 22 v d p) :
    ∃ z n c F, v = .slice z n c ∧ HL W z n F ∧ n ≤ c ∧ c ≤ maxLen := by
  obtain ⟨a0, len0, cap0, rfl⟩ := okWide_slice Tryd.underlying22 hv0
  obtain ⟨fuel, hf⟩ := h
  rcases Go.Deep.open_slice Tryd.underlying22 hf with ⟨hcs, _⟩ | ⟨a, len, cap, m, n, D, Pl, hcs, _, hl, hmx, hm, _, hx⟩
  · simp [Value.cells] at hcs
    exact ⟨none, 0, 0, fun _ _ => 0, by rw [hcs.1, hcs.2.1, hcs.2.2], ⟨fun _ _ => by omega, Or.inl rfl⟩, Nat.le_refl _, by unfold maxLen; omega⟩
  · simp [Value.cells] at hcs
    obtain ⟨rfl, rfl, rfl⟩ := hcs
    simp only [if_true] at hm
    subst hm
    rw [cellsHash] at hx
    have key : ∀ i, i < m → ∃ f : Nat → Nat, W.cells? 0 (a.add (i * 32)) 32 = some (ab f 32) ∧ ∀ j, f j < 256 := fun i hi => by
      obtain ⟨cs', h1, h2⟩ := hx i hi
      obtain ⟨_, hlen, _⟩ := World.cells?_some h1
      obtain ⟨f, hf1, rfl⟩ := hash_cells hlen h2
      exact ⟨f, h1, hf1⟩
    have hI : Inhabited (Nat → Nat) := ⟨fun _ => 0⟩
    obtain ⟨O, hO⟩ := Go.Deep.choose_lt key
    refine ⟨some a, len0, _, fun i => if i < m then O i else fun _ => 0, rfl, ⟨fun i j => ?_, ?_⟩, hl, hmx⟩
    · by_cases h : i < m
      · show (if i < m then O i else fun _ => 0) j < 256
        rw [if_pos h]
        exact (hO i h).2 j
      · show (if i < m then O i else fun _ => 0) j < 256
        rw [if_neg h]
        omega
    by_cases h0 : len0 = 0
    · exact Or.inl h0
    · right
      obtain ⟨b, off, spot⟩ := a
      have hc : ∀ i j, i < len0 → j < 32 → W.cell? (((⟨b, off, spot⟩ : Addr).add (i * 32)).add j) = (ab (O i) 32)[j]? := fun i j hi hj => (World.cells?_some (hO i (by omega)).1).2.2 j hj
      have hspot : spot = none := by
        have h1 : W.cell? (((⟨b, off, spot⟩ : Addr).add (0 * 32)).add 0) = some (.int .u8 ((O 0 0 : Nat) : Int)) := (hc 0 0 (by omega) (by omega)).trans (ab_at _ (by omega))
        simpa [Addr.add] using World.cell?_spot h1
      subst hspot
      refine ⟨b, off, rfl, fun i hi j v hv => ?_⟩
      have hi' : i < m := by omega
      simp only [hi', if_true] at hv
      have hj : j < 32 := by
        have := (List.getElem?_eq_some_iff.1 hv).1
        rwa [ab_len] at this
      have := hc i j hi hj
      rw [Addr.add_mid, Addr.add_mid] at this
      rw [this]
      exact hv
end Go.Proofs.YteplklbpehkdjaaDoor
