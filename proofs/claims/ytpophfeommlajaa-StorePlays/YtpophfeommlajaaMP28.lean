/- Layer 13: the law of what lasts. -/
import Derived.Test.YtpophfeommlajaaMP24
import Derived.Test.YtpophfeommlajaaMP27
namespace Go.Proofs.Ytpophfeommlajaa
set_option maxRecDepth 100000
open Go.RowKit Go.Maps
attribute [local go_sem ↓] Go.wp_at_zero Go.wp_at_succ

/-- A call of a script, on a disk. -/
def DM.step (D : DM) (o : OpV) : DM := if o.kd = 1 then D.wr o.i (fl o.f o.m) else if o.kd = 2 then D.sy else if o.kd = 4 then D.cr o.KL o.t o.a else D
theorem ba_range {w : World} {g : Nat} {l : List Nat} (h : w.rangeAt g 0 (cells8 l)) (hl : ∀ x ∈ l, x < 256) : BA w (some ⟨g, 0, none⟩) l.length (fun i => l.getD i 0) := by
  refine ⟨fun i => getD_lt hl i, Or.inr ⟨g, 0, rfl, ⟨fun i hi => ?_⟩⟩⟩
  exact h i _ (cells8_at l i hi)
theorem fl_of {l : List Nat} {n : Nat} (h : l.length = n) : fl (fun i => l.getD i 0) n = l := by
  apply List.ext_getElem?
  intro i
  rcases Nat.lt_or_ge i n with hi | hi
  · rw [fl_at _ hi, List.getElem?_eq_getElem (by omega)]
    simp [List.getD_eq_getElem?_getD, List.getElem?_eq_getElem (show i < l.length by omega)]
  · rw [List.getElem?_eq_none (by rw [fl_len]; exact hi), List.getElem?_eq_none (by omega)]
theorem ba_sec {w : World} {g : Nat} {l : List Nat} (h : w.rangeAt g 0 (cells8 l)) (hl : sec l) : BA w (some ⟨g, 0, none⟩) 64 (fun i => l.getD i 0) := by
  have := ba_range h hl.2
  rwa [hl.1] at this
theorem OpV.ok.keep {W w1 : World} {o : OpV} (h : o.ok W) (hb : Below W.heap.size W w1) : o.ok w1 := ⟨h.kd, h.i, h.b.keep hb, h.k.keep hb, h.t, h.a⟩
theorem OpsAt.keep {W w1 : World} {z : Option Addr} {n : Nat} {O : Nat → OpV} (h : OpsAt W z n O) (hb : Below W.heap.size W w1) : OpsAt w1 z n O :=
  ⟨h.at_.imp id fun ⟨b, o, e, hr⟩ => ⟨b, o, e, fun i hi j v hv => later hb (hr i hi j v hv)⟩, fun i hi => (h.r i hi).keep hb⟩
theorem mix_all {s l : List Nat} (hs : sec s) (hl : sec l) : mix 64 s l = s := by
  unfold mix
  rw [List.take_of_length_le (by rw [hs.1]; omega), List.drop_eq_nil_of_le (by rw [hl.1]; omega), List.append_nil]
theorem opcells_one (o : OpV) : ∀ v ∈ o.cells, v.oneCell' = true := by
  intro v hv
  simp only [OpV.cells, List.mem_cons, List.not_mem_nil, or_false] at hv
  rcases hv with rfl | rfl | rfl | rfl | rfl | rfl <;> rfl
/-- A variable that holds a call of a script. -/
structure VarO (w w' : World) (g : Nat) (o : OpV) : Prop where
  bl : Below w.heap.size w w'
  ge : w.heap.size ≤ g
  lt : g < w'.heap.size
  r : w'.rangeAt g 0 o.cells
section
variable {w : World} {ops : Array Oper} {rest : List Oper} {o : Oper} {a : Act} {Q : Exit → Act → World → Prop}
end
theorem own_form {w : World} {base n : Nat} {e : TypeId} {v : Value} {xs : List Value} (h : w.ownsRow base e 1 v n xs) (hn : 0 < n) : ∃ q cap, v = .slice (some ⟨q, 0, none⟩) n cap ∧ ∀ i, i < n → w.cell? ⟨q, i, none⟩ = xs[i]? := by
  rcases h.2 with ⟨_, h0⟩ | ⟨g, cap, cur, rfl, _⟩
  · omega
  · exact ⟨g, cap, rfl, fun i hi => by rw [h.cellAt i (by omega)]⟩
end Go.Proofs.Ytpophfeommlajaa
