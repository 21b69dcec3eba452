/- Lists of hashes that are told as lists; a slice literal of one hash. -/
import Derived.Test.YteplklbpehkdjaaDoorH16
import Derived.Test.YteplklbpehkdjaaDoorM17
import Derived.Great.BuildSlice
namespace Go.Proofs.YteplklbpehkdjaaDoor
set_option maxRecDepth 100000
open Go.RowKit

/-- A list of hashes, as a function. -/
def lF (L : List (Nat → Nat)) : Nat → Nat → Nat := fun i => L.getD i (fun _ => 0)
theorem lF_lt {L : List (Nat → Nat)} (h : ∀ f ∈ L, ∀ j, f j < 256) (i j : Nat) : lF L i j < 256 := by
  unfold lF
  rw [List.getD_eq_getElem?_getD]
  by_cases hi : i < L.length
  · rw [List.getElem?_eq_getElem hi]
    exact h _ (List.getElem_mem hi) j
  · rw [List.getElem?_eq_none (by omega)]
    show 0 < 256
    omega
theorem hc_congr {F G : Nat → Nat → Nat} {n : Nat} (h : ∀ i, i < n → F i = G i) : hc F n = hc G n := by
  unfold hc hfl fl
  congr 1
  apply List.map_congr_left
  intro k hk
  have := List.mem_range.1 hk
  rw [h (k / 32) (by omega)]
theorem OH.congr {w : World} {base n : Nat} {v : Value} {F G : Nat → Nat → Nat} (h : OH w base v n F) (e : ∀ i, i < n → F i = G i) : OH w base v n G := by
  show w.ownsRow base 32 32 v n (hc G n)
  rw [← hc_congr e]
  exact h
/-- One more at the end. -/
theorem OH.snoc {w : World} {base : Nat} {v : Value} {L : List (Nat → Nat)} {f : Nat → Nat} (h : OH w base v (L.length + 1) (hcat (lF L) L.length (fun _ => f))) : OH w base v (L ++ [f]).length (lF (L ++ [f])) := by
  rw [List.length_append]
  refine OH.congr h (fun i hi => ?_)
  unfold hcat lF
  rw [List.getD_eq_getElem?_getD, List.getD_eq_getElem?_getD]
  by_cases hi2 : i < L.length
  · rw [if_pos hi2, List.getElem?_append_left hi2]
  · have h1 : i < L.length + 1 := hi
    have e : i = L.length := by omega
    subst e
    rw [if_neg hi2, List.getElem?_append_right (Nat.le_refl _), Nat.sub_self]
    rfl
theorem hl_one (w : World) (f : Nat → Nat) (hf : ∀ i, f i < 256) : HL (w.alloc (.cells (ab f 32).toArray 32)) (some ⟨w.heap.size, 0, none⟩) 1 (fun _ => f) :=
  ⟨fun _ => hf, Or.inr ⟨_, _, rfl, fun i hi => by
    obtain rfl : i = 0 := by omega
    exact RowB.range (RowB.made w 32 32 f _ rfl)⟩⟩
set_option maxRecDepth 100000 in
theorem fillH (f : Nat → Nat) (z : Value) (hz : z = .agg (ab (fun _ => 0) 32).toArray) : Instr.fill (fun i => some (i * 32, 32)) ((Array.range (1 * 32)).map (z.cells[· % z.cells.size]!)) [(0, .agg (ab f 32).toArray)] = some (ab f 32).toArray := by
  subst hz
  kernel_rfl
theorem wpList_oneH {ops : Array Oper} {rest : List Oper} {op : Oper} {a : Act} {w : World} {Q : Exit → Act → World → Prop} {x : Operand} {f : Nat → Nat} (hg : op.guard = none) (ho : op.op = .buildSlice 22 1 #[(0, x)]) (hx : a.eval x = .agg (ab f 32).toArray) (hf : ∀ i, f i < 256)
    (h : ∀ p W', p = w.heap.size → p < W'.heap.size → HL W' (some ⟨p, 0, none⟩) 1 (fun _ => f) → Below w.heap.size w W' → wpList Tryd.prog ops Q rest (a.put op.dst (.slice (some ⟨p, 0, none⟩) 1 1)) W') : wpList Tryd.prog ops Q (op :: rest) a w := by
  obtain ⟨ie, hi, hz, hs, _⟩ := info_parts infoHv
  refine wpList_buildSlice hg 22 32 1 #[(0, x)] ho (ab f 32).toArray ie _ Tryd.underlying22 hi hz (by rw [hs]; decide) (by rw [hs]; decide) ?_ (h w.heap.size _ rfl (by simp) (hl_one w f hf) (K.alloc (Below.refl _ _) _))
  rw [hs]
  simp only [List.map_toArray, List.map_cons, List.map_nil, hx]
  exact fillH f _ rfl
end Go.Proofs.YteplklbpehkdjaaDoor
