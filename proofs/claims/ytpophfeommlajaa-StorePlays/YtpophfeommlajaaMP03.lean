/- Arrays of words in blocks of their own; how they are compared; small facts that every walk wants. -/
import Derived.Test.YtpophfeommlajaaMP02
import Derived.Test.YtpophfeommlajaaRows
import Derived.WalkKit
import Derived.WalkSpells
import Derived.WalkSmall
import Derived.Laws.Externs
import Derived.Laws.Pointers
import Derived.Laws.BitsAllLaws
import Derived.Deep.RegionHeld3
import Derived.Deep.DrawnRows
import Derived.RowKit3
import Derived.LoopN
import Derived.Handy
import Derived.BigQuiet
import Derived.Deep.QuietTactic
import Derived.ChangeKeysEq
namespace Go.Proofs.Ytpophfeommlajaa
set_option maxRecDepth 100000
open Go.RowKit

theorem later {W w1 : World} {p : Addr} {v : Value} (hb : Below W.heap.size W w1) (h : W.cell? p = some v) : w1.cell? p = some v := by
  have hp : p.block < W.heap.size := by
    cases Nat.lt_or_ge p.block W.heap.size with
    | inl h => exact h
    | inr h' =>
      have : W.heap[p.block]? = none := by simp [h']
      simp [World.cell?, this] at h
  rw [hb.cell hp]; exact h

structure Arr (w : World) (b : Nat) (x0 x1 x2 x3 : Int) : Prop where
  lt : b < w.heap.size
  c0 : w.cell? ⟨b, 0, none⟩ = some (.int .u64 x0)
  c1 : w.cell? ⟨b, 1, none⟩ = some (.int .u64 x1)
  c2 : w.cell? ⟨b, 2, none⟩ = some (.int .u64 x2)
  c3 : w.cell? ⟨b, 3, none⟩ = some (.int .u64 x3)
theorem Arr.keep {W w1 : World} {b : Nat} {x0 x1 x2 x3 : Int} (h : Arr W b x0 x1 x2 x3) (hb : Below W.heap.size W w1) : Arr w1 b x0 x1 x2 x3 :=
  ⟨Nat.lt_of_lt_of_le h.lt hb.size, later hb h.c0, later hb h.c1, later hb h.c2, later hb h.c3⟩
theorem Arr.alloc {W : World} {b : Nat} {x0 x1 x2 x3 : Int} (h : Arr W b x0 x1 x2 x3) (o : Obj) : Arr (W.alloc o) b x0 x1 x2 x3 :=
  h.keep ((Below.refl _ _).alloc (Nat.le_refl _) o)
theorem Arr.drew {W : World} {b : Nat} {x0 x1 x2 x3 : Int} (h : Arr W b x0 x1 x2 x3) : Arr W.drew b x0 x1 x2 x3 :=
  h.keep (Below.refl _ _).drew
theorem Arr.new (W : World) (b : Nat) (hb : b = W.heap.size) (t : TypeId) (x0 x1 x2 x3 : Int) : Arr (W.alloc (.cells #[.int .u64 x0, .int .u64 x1, .int .u64 x2, .int .u64 x3] t)) b x0 x1 x2 x3 := by
  subst hb
  constructor <;> simp [go_sem]
theorem K.alloc {w w' : World} (h : Below w.heap.size w w') (o : Obj) : Below w.heap.size w (w'.alloc o) := h.alloc h.size o
theorem K.call {w w' w1 : World} (h : Below w.heap.size w w') (hb : Below w'.heap.size w' w1) : Below w.heap.size w w1 := h.trans (hb.mono h.size)
theorem K.drew {w w' : World} (h : Below w.heap.size w w') : Below w.heap.size w w'.drew := h.drew
theorem K.drewN {w w' : World} (h : Below w.heap.size w w') (n : Nat) : Below w.heap.size w (w'.drewN n) := h.trans ⟨rfl, rfl, rfl, Nat.le_refl _, fun _ _ => rfl⟩
theorem K.set {W w' : World} {p : Addr} (h : Below W.heap.size W w') (hp : W.heap.size ≤ p.block) (u : Value) : Below W.heap.size W (w'.setCell p u) := h.setCell hp u
theorem ret_int {k : IntKind} {a b : Int} (h : a = b) : Ending.returned (.int k a) = .returned (.int k b) := by rw [h]
theorem ret_bool {a b : Bool} (h : a = b) : Ending.returned (.bool a) = .returned (.bool b) := by rw [h]
theorem hide {p : Prop} (h : p) : Hid p := h
/-- An array of four words that may be written. -/
structure ArrW (w : World) (b : Nat) (x0 x1 x2 x3 : Int) : Prop where
  lt : b < w.heap.size
  c0 : w.cell? ⟨b, 0, none⟩ = some (.int .u64 x0)
  c1 : w.cell? ⟨b, 1, none⟩ = some (.int .u64 x1)
  c2 : w.cell? ⟨b, 2, none⟩ = some (.int .u64 x2)
  c3 : w.cell? ⟨b, 3, none⟩ = some (.int .u64 x3)
  f0 : w.frozen? ⟨b, 0, none⟩ = false
  f1 : w.frozen? ⟨b, 1, none⟩ = false
  f2 : w.frozen? ⟨b, 2, none⟩ = false
  f3 : w.frozen? ⟨b, 3, none⟩ = false
theorem ArrW.keep {W w1 : World} {b : Nat} {x0 x1 x2 x3 : Int} (h : ArrW W b x0 x1 x2 x3) (hb : Below W.heap.size W w1) : ArrW w1 b x0 x1 x2 x3 :=
  ⟨Nat.lt_of_lt_of_le h.lt hb.size, later hb h.c0, later hb h.c1, later hb h.c2, later hb h.c3, (hb.frozen (p := ⟨b, 0, none⟩) h.lt).trans h.f0, (hb.frozen (p := ⟨b, 1, none⟩) h.lt).trans h.f1, (hb.frozen (p := ⟨b, 2, none⟩) h.lt).trans h.f2, (hb.frozen (p := ⟨b, 3, none⟩) h.lt).trans h.f3⟩
theorem ArrW.alloc {W : World} {b : Nat} {x0 x1 x2 x3 : Int} (h : ArrW W b x0 x1 x2 x3) (o : Obj) : ArrW (W.alloc o) b x0 x1 x2 x3 :=
  h.keep ((Below.refl _ _).alloc (Nat.le_refl _) o)
theorem ArrW.new (W : World) (b : Nat) (hb : b = W.heap.size) (t : TypeId) (x0 x1 x2 x3 : Int) : ArrW (W.alloc (.cells #[.int .u64 x0, .int .u64 x1, .int .u64 x2, .int .u64 x3] t)) b x0 x1 x2 x3 := by
  subst hb
  constructor <;> simp [go_sem]
end Go.Proofs.Ytpophfeommlajaa
