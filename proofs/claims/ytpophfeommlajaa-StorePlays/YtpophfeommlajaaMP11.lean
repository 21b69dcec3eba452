/- Layer 13: the program's disk in memory; its small methods. -/
import Derived.Test.YtpophfeommlajaaMP10
import Derived.Deep.Light
namespace Go.Proofs.Ytpophfeommlajaa
set_option maxRecDepth 100000
open Go.RowKit Go.Maps
attribute [local go_sem ↓] Go.wp_at_zero Go.wp_at_succ

/-- The map of what was written lies in block mb. -/
def Mp (w : World) (mb : Nat) (D : DM) : Prop := ∃ E, w.ownsMap Try.prog 3 secR mb (Maps.size E) E ∧ MpD E D.n D.nw
/-- The program's disk lies in block b, what lasts in lb, what was written in mb. -/
structure Dsk (w : World) (b lb mb : Nat) (D : DM) : Prop where
  c0 : w.cell? ⟨b, 0, none⟩ = some (.slice (some ⟨lb, 0, none⟩) D.n D.n)
  c1 : w.cell? ⟨b, 1, none⟩ = some (.map (some mb))
  c2 : w.cell? ⟨b, 2, none⟩ = some (.bool D.fu.isSome)
  c3 : w.cell? ⟨b, 3, none⟩ = some (.int .i64 ((D.fu.getD 0 : Nat) : Int))
  c4 : w.cell? ⟨b, 4, none⟩ = some (.bool D.dn)
  z : ∀ i, i < 5 → w.frozen? ⟨b, i, none⟩ = false
  bl : b < w.heap.size
  ll : lb < w.heap.size
  rows : ∀ i, i < D.n → w.rangeAt lb (i * 64) (cells8 (D.la i))
  th : w.there lb 0 (D.n * 64)
  mp : Mp w mb D
  n1 : b ≠ lb
  n2 : b ≠ mb
  n3 : lb ≠ mb
  ok : D.ok
theorem Mp.lt {w : World} {mb : Nat} {D : DM} (h : Mp w mb D) : mb < w.heap.size := by
  obtain ⟨E, h, _⟩ := h
  exact h.lt
theorem Mp.keep {w w' : World} {mb : Nat} {D : DM} (h : Mp w mb D) (e : w'.heap[mb]? = w.heap[mb]?) : Mp w' mb D := by
  obtain ⟨E, ⟨es, clock, hb, r⟩, hE⟩ := h
  exact ⟨E, ⟨es, clock, e.trans hb, r⟩, hE⟩
/-- What a disk's calls may write. -/
def X3 (b lb mb : Nat) (k : Nat) : Bool := Nat.beq k b || Nat.beq k lb || Nat.beq k mb
theorem X3_of {b lb mb k : Nat} : X3 b lb mb k = true ↔ k = b ∨ k = lb ∨ k = mb := by
  simp only [X3, Bool.or_eq_true, Nat.beq_eq, or_assoc]
theorem Dsk.same {w w' : World} {b lb mb : Nat} {D : DM} (h : Dsk w b lb mb D) (hs : w.heap.size ≤ w'.heap.size) (hb : ∀ k, X3 b lb mb k = true → w'.heap[k]? = w.heap[k]?) : Dsk w' b lb mb D := by
  have e1 := hb b (X3_of.2 (Or.inl rfl))
  have e2 := hb lb (X3_of.2 (Or.inr (Or.inl rfl)))
  have e3 := hb mb (X3_of.2 (Or.inr (Or.inr rfl)))
  have c1 : ∀ o, w'.cell? ⟨b, o, none⟩ = w.cell? ⟨b, o, none⟩ := fun o => World.cell?_of_block (w := w) e1
  have c2 : ∀ o, w'.cell? ⟨lb, o, none⟩ = w.cell? ⟨lb, o, none⟩ := fun o => World.cell?_of_block (w := w) e2
  have f1 : ∀ o, w'.frozen? ⟨b, o, none⟩ = w.frozen? ⟨b, o, none⟩ := fun o => World.frozen?_of_block (w := w) e1
  have f2 : ∀ o, w'.frozen? ⟨lb, o, none⟩ = w.frozen? ⟨lb, o, none⟩ := fun o => World.frozen?_of_block (w := w) e2
  exact ⟨(c1 0).trans h.c0, (c1 1).trans h.c1, (c1 2).trans h.c2, (c1 3).trans h.c3, (c1 4).trans h.c4, fun i hi => (f1 i).trans (h.z i hi), Nat.lt_of_lt_of_le h.bl hs, Nat.lt_of_lt_of_le h.ll hs,
    fun i hi j v hv => (c2 _).trans (h.rows i hi j v hv), fun j hj => ⟨by rw [c2]; exact (h.th j hj).1, by rw [f2]; exact (h.th j hj).2⟩, h.mp.keep e3, h.n1, h.n2, h.n3, h.ok⟩
theorem Dsk.keep {w w' : World} {b lb mb : Nat} {D : DM} (h : Dsk w b lb mb D) (hb : Below w.heap.size w w') : Dsk w' b lb mb D :=
  h.same hb.size (fun k hk => hb.block k (by
    rcases X3_of.1 hk with rfl | rfl | rfl
    · exact h.bl
    · exact h.ll
    · exact h.mp.lt))
theorem Kp.of {X : Nat → Bool} {w w' : World} (hb : Below w.heap.size w w') : Kp X w w' := (Kp.refl X w).grow hb
theorem Kp.trans {X : Nat → Bool} {w w1 w2 : World} (h : Kp X w w1) (h2 : Kp X w1 w2) : Kp X w w2 :=
  ⟨h2.os.trans h.os, h2.tape.trans h.tape, h2.output.trans h.output, Nat.le_trans h.size h2.size, fun k hk hx => (h2.block k (Nat.lt_of_lt_of_le hk h.size) hx).trans (h.block k hk hx)⟩

abbrev pp (b : Nat) : Value := .pointer (some ⟨b, 0, none⟩)
theorem down_any {w : World} {b lb mb : Nat} {D : DM} (h : Dsk w b lb mb D) : Calls Try.prog 20 #[pp b] w fun e w' => e = .returned (.bool D.dn) ∧ w' = w := by
  have h4 := h.c4
  clear h
  go_enter Try.func20, Try.ntmps20
  go_wp2_with fail
  go_ret
  exact ⟨rfl, rfl⟩
theorem size_any {w : World} {b lb mb : Nat} {D : DM} (h : Dsk w b lb mb D) : Calls Try.prog 25 #[pp b] w fun e w' => e = .returned (.int .i64 (D.n : Int)) ∧ w' = w := by
  have h0 := h.c0
  clear h
  go_enter Try.func25, Try.ntmps25
  go_wp2_with fail
  go_ret
  exact ⟨rfl, rfl⟩
theorem has_any {w : World} {b lb mb : Nat} {D : DM} (h : Dsk w b lb mb D) (i : Int) : Calls Try.prog 54 #[pp b, .int .i64 i] w fun e w' => e = .returned (.bool (decide (0 ≤ i ∧ i < D.n))) ∧ w' = w := by
  have h0 := h.c0
  clear h
  by_cases hi : 0 ≤ i
  · go_enter Try.func54, Try.ntmps54
    go_wp2_with fail
    go_ret
    exact ⟨by simp [hi], rfl⟩
  · have hd : decide (0 ≤ i) = false := decide_eq_false hi
    go_enter Try.func54, Try.ntmps54
    go_wp2_with fail
    go_ret
    exact ⟨by simp, rfl⟩
end Go.Proofs.Ytpophfeommlajaa
