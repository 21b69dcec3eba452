/- An array of words in a block of its own: it stays while other blocks are made. -/
import Derived.Test.YtehlkgpoekpllaaAwake
import Derived.BigQuiet
import Derived.Deep.QuietTactic
namespace Go.Proofs.Ytehlkgpoekpllaa
open Go.RowKit

theorem later {W w1 : World} {p : Addr} {v : Value} (hb : Below W.heap.size W w1) (h : W.cell? p = some v) : w1.cell? p = some v := by
  have hp : p.block < W.heap.size := by
    cases Nat.lt_or_ge p.block W.heap.size with
    | inl h => exact h
    | inr h' =>
      have : W.heap[p.block]? = none := by simp [h']
      simp [World.cell?, this] at h
  rw [hb.cell hp]; exact h

theorem later_a {W : World} {p : Addr} {v : Value} {o : Obj} (h : W.cell? p = some v) : (W.alloc o).cell? p = some v :=
  later ((Below.refl _ _).alloc (Nat.le_refl _) o) h
theorem later_ad {W : World} {p : Addr} {v : Value} {o : Obj} (h : W.cell? p = some v) : (W.alloc o).drew.cell? p = some v :=
  later (Below.drew ((Below.refl _ _).alloc (Nat.le_refl _) o)) h

structure Arr (w : World) (b : Nat) (x0 x1 x2 x3 : Int) : Prop where
  lt : b < w.heap.size
  c0 : w.cell? ⟨b, 0, none⟩ = some (.int .u64 x0)
  c1 : w.cell? ⟨b, 1, none⟩ = some (.int .u64 x1)
  c2 : w.cell? ⟨b, 2, none⟩ = some (.int .u64 x2)
  c3 : w.cell? ⟨b, 3, none⟩ = some (.int .u64 x3)
theorem Arr.keep {W w1 : World} {b : Nat} {x0 x1 x2 x3 : Int} (h : Arr W b x0 x1 x2 x3) (hb : Below W.heap.size W w1) : Arr w1 b x0 x1 x2 x3 :=
  ⟨Nat.lt_of_lt_of_le h.lt hb.size, later hb h.c0, later hb h.c1, later hb h.c2, later hb h.c3⟩
theorem Arr.alloc {W : World} {b : Nat} {x0 x1 x2 x3 : Int} (h : Arr W b x0 x1 x2 x3) (o : Obj) : Arr (W.alloc o) b x0 x1 x2 x3 :=
  h.keep ((Below.refl _ _).alloc (Nat.le_refl _) o)
theorem Arr.drew {W : World} {b : Nat} {x0 x1 x2 x3 : Int} (h : Arr W b x0 x1 x2 x3) : Arr W.drew b x0 x1 x2 x3 :=
  h.keep (Below.refl _ _).drew
theorem Arr.new (W : World) (b : Nat) (hb : b = W.heap.size) (t : TypeId) (x0 x1 x2 x3 : Int) : Arr (W.alloc (.cells #[.int .u64 x0, .int .u64 x1, .int .u64 x2, .int .u64 x3] t)) b x0 x1 x2 x3 := by
  subst hb
  constructor <;> simp [go_sem]
theorem K.alloc {w w' : World} (h : Below w.heap.size w w') (o : Obj) : Below w.heap.size w (w'.alloc o) := h.alloc h.size o
theorem K.call {w w' w1 : World} (h : Below w.heap.size w w') (hb : Below w'.heap.size w' w1) : Below w.heap.size w w1 := h.trans (hb.mono h.size)
theorem K.drew {w w' : World} (h : Below w.heap.size w w') : Below w.heap.size w w'.drew := h.drew
theorem K.drewN {w w' : World} (h : Below w.heap.size w w') (n : Nat) : Below w.heap.size w (w'.drewN n) := h.trans ⟨rfl, rfl, rfl, Nat.le_refl _, fun _ _ => rfl⟩
/-- A block that was made, and made anew with other cells. -/
theorem K.again {W w' : World} {o : Obj} (h : Below W.heap.size W (w'.alloc o)) (hB : W.heap.size ≤ w'.heap.size) (o' : Obj) : Below W.heap.size W (w'.alloc o') :=
  ⟨h.os, h.tape, h.output, by have := h.size; simp at this ⊢; omega, fun k hk => by rw [Below.heap_alloc _ _ _ (by omega), ← h.block k hk, Below.heap_alloc _ _ _ (by omega)]⟩
theorem K.set {W w' : World} {p : Addr} (h : Below W.heap.size W w') (hp : W.heap.size ≤ p.block) (u : Value) : Below W.heap.size W (w'.setCell p u) := h.setCell hp u
theorem lt_keep {W w1 : World} (hb : Below W.heap.size W w1) : ∀ n, n < W.heap.size → n < w1.heap.size := fun _ h => Nat.lt_of_lt_of_le h hb.size
theorem Arr.stored {W : World} {n : Nat} {y0 y1 y2 y3 : Int} (h : Arr W n y0 y1 y2 y3) (x0 x1 x2 x3 : Int) :
    Arr ((((W.setCell ⟨n, 0, none⟩ (.int .u64 x0)).setCell ⟨n, 1, none⟩ (.int .u64 x1)).setCell ⟨n, 2, none⟩ (.int .u64 x2)).setCell ⟨n, 3, none⟩ (.int .u64 x3)) n x0 x1 x2 x3 := by
  obtain ⟨h, h0, h1, h2, h3⟩ := h
  constructor
  · simpa using h
  all_goals simp [go_sem, h0, h1, h2, h3]
theorem size_le {W w1 : World} (hb : Below W.heap.size W w1) {n : Nat} (h : n ≤ W.heap.size) : n ≤ w1.heap.size := Nat.le_trans h hb.size
end Go.Proofs.Ytehlkgpoekpllaa
