/- Arrays of words in blocks of their own; how they are compared; small facts that every walk wants. -/
import Derived.Test.YtjgpopjpmfkfmaaRows
import Derived.Test.YtjgpopjpmfkfmaaNum
import Derived.WalkKit
import Derived.WalkSpells
import Derived.WalkSmall
import Derived.Laws.Externs
import Derived.Laws.Pointers
import Derived.Laws.BitsAllLaws
import Derived.Deep.RegionHeld3
import Derived.Deep.DrawnRows
import Derived.RowKit3
import Derived.LoopN
import Derived.Handy
import Derived.BigQuiet
import Derived.Deep.QuietTactic
import Derived.ChangeKeysEq
namespace Go.Proofs.Ytjgpopjpmfkfmaa
set_option maxRecDepth 100000
open Go.RowKit

/-- Behind a call that only makes blocks the old cells, and their marks, read as before. -/
theorem bcell {W w1 : World} (hb : Below W.heap.size W w1) : (∀ b o, b < W.heap.size → w1.cell? ⟨b, o, none⟩ = W.cell? ⟨b, o, none⟩) ∧ (∀ b o, b < W.heap.size → w1.frozen? ⟨b, o, none⟩ = W.frozen? ⟨b, o, none⟩) :=
  ⟨fun b o h => hb.cell (p := ⟨b, o, none⟩) h, fun b o h => hb.frozen (p := ⟨b, o, none⟩) h⟩

theorem later {W w1 : World} {p : Addr} {v : Value} (hb : Below W.heap.size W w1) (h : W.cell? p = some v) : w1.cell? p = some v := by
  have hp : p.block < W.heap.size := by
    cases Nat.lt_or_ge p.block W.heap.size with
    | inl h => exact h
    | inr h' =>
      have : W.heap[p.block]? = none := by simp [h']
      simp [World.cell?, this] at h
  rw [hb.cell hp]; exact h

theorem later_a {W : World} {p : Addr} {v : Value} {o : Obj} (h : W.cell? p = some v) : (W.alloc o).cell? p = some v :=
  later ((Below.refl _ _).alloc (Nat.le_refl _) o) h
theorem later_ad {W : World} {p : Addr} {v : Value} {o : Obj} (h : W.cell? p = some v) : (W.alloc o).drew.cell? p = some v :=
  later (Below.drew ((Below.refl _ _).alloc (Nat.le_refl _) o)) h

structure Arr (w : World) (b : Nat) (x0 x1 x2 x3 : Int) : Prop where
  lt : b < w.heap.size
  c0 : w.cell? ⟨b, 0, none⟩ = some (.int .u64 x0)
  c1 : w.cell? ⟨b, 1, none⟩ = some (.int .u64 x1)
  c2 : w.cell? ⟨b, 2, none⟩ = some (.int .u64 x2)
  c3 : w.cell? ⟨b, 3, none⟩ = some (.int .u64 x3)
theorem Arr.keep {W w1 : World} {b : Nat} {x0 x1 x2 x3 : Int} (h : Arr W b x0 x1 x2 x3) (hb : Below W.heap.size W w1) : Arr w1 b x0 x1 x2 x3 :=
  ⟨Nat.lt_of_lt_of_le h.lt hb.size, later hb h.c0, later hb h.c1, later hb h.c2, later hb h.c3⟩
theorem Arr.alloc {W : World} {b : Nat} {x0 x1 x2 x3 : Int} (h : Arr W b x0 x1 x2 x3) (o : Obj) : Arr (W.alloc o) b x0 x1 x2 x3 :=
  h.keep ((Below.refl _ _).alloc (Nat.le_refl _) o)
theorem Arr.drew {W : World} {b : Nat} {x0 x1 x2 x3 : Int} (h : Arr W b x0 x1 x2 x3) : Arr W.drew b x0 x1 x2 x3 :=
  h.keep (Below.refl _ _).drew
theorem Arr.new (W : World) (b : Nat) (hb : b = W.heap.size) (t : TypeId) (x0 x1 x2 x3 : Int) : Arr (W.alloc (.cells #[.int .u64 x0, .int .u64 x1, .int .u64 x2, .int .u64 x3] t)) b x0 x1 x2 x3 := by
  subst hb
  constructor <;> simp [go_sem]
theorem K.alloc {w w' : World} (h : Below w.heap.size w w') (o : Obj) : Below w.heap.size w (w'.alloc o) := h.alloc h.size o
theorem K.call {w w' w1 : World} (h : Below w.heap.size w w') (hb : Below w'.heap.size w' w1) : Below w.heap.size w w1 := h.trans (hb.mono h.size)
theorem K.drew {w w' : World} (h : Below w.heap.size w w') : Below w.heap.size w w'.drew := h.drew
theorem K.drewN {w w' : World} (h : Below w.heap.size w w') (n : Nat) : Below w.heap.size w (w'.drewN n) := h.trans ⟨rfl, rfl, rfl, Nat.le_refl _, fun _ _ => rfl⟩
/-- A block that was made, and made anew with other cells. -/
theorem K.again {W w' : World} {o : Obj} (h : Below W.heap.size W (w'.alloc o)) (hB : W.heap.size ≤ w'.heap.size) (o' : Obj) : Below W.heap.size W (w'.alloc o') :=
  ⟨h.os, h.tape, h.output, by have := h.size; simp at this ⊢; omega, fun k hk => by rw [Below.heap_alloc _ _ _ (by omega), ← h.block k hk, Below.heap_alloc _ _ _ (by omega)]⟩
theorem K.set {W w' : World} {p : Addr} (h : Below W.heap.size W w') (hp : W.heap.size ≤ p.block) (u : Value) : Below W.heap.size W (w'.setCell p u) := h.setCell hp u
theorem lt_keep {W w1 : World} (hb : Below W.heap.size W w1) : ∀ n, n < W.heap.size → n < w1.heap.size := fun _ h => Nat.lt_of_lt_of_le h hb.size
theorem Arr.stored {W : World} {n : Nat} {y0 y1 y2 y3 : Int} (h : Arr W n y0 y1 y2 y3) (x0 x1 x2 x3 : Int) :
    Arr ((((W.setCell ⟨n, 0, none⟩ (.int .u64 x0)).setCell ⟨n, 1, none⟩ (.int .u64 x1)).setCell ⟨n, 2, none⟩ (.int .u64 x2)).setCell ⟨n, 3, none⟩ (.int .u64 x3)) n x0 x1 x2 x3 := by
  obtain ⟨h, h0, h1, h2, h3⟩ := h
  constructor
  · simpa using h
  all_goals simp [go_sem, h0, h1, h2, h3]
theorem size_le {W w1 : World} (hb : Below W.heap.size W w1) {n : Nat} (h : n ≤ W.heap.size) : n ≤ w1.heap.size := Nat.le_trans h hb.size
theorem items_nil (xs ys : Array Value) (w : World) : (Op.eqItems 9999 108 1 xs ys []).run Try.prog w = .ok true w := rfl
theorem items_cons (xs ys : Array Value) (j : Nat) (js : List Nat) (x y : Int) (r : Bool) (hx : xs[j]? = some (.int .u64 x)) (hy : ys[j]? = some (.int .u64 y)) (w : World)
    (h : (Op.eqItems 9999 108 1 xs ys js).run Try.prog w = .ok r w) : (Op.eqItems 9999 108 1 xs ys (j :: js)).run Try.prog w = .ok (x == y && r) w := by
  have he : Try.prog.plainKey 108 = true := by kernel_rfl
  simp only [Op.eqItems, Sem.run_bind, Nat.mul_one, run_part_plain w he hx, run_part_plain w he hy, Result.andThen_ok, run_equalIn_int w 9998 108 .u64 .u64 x y Try.underlying108]
  cases x == y <;> simp [h]

theorem ret_int {k : IntKind} {a b : Int} (h : a = b) : Ending.returned (.int k a) = .returned (.int k b) := by rw [h]
theorem ret_bool {a b : Bool} (h : a = b) : Ending.returned (.bool a) = .returned (.bool b) := by rw [h]
theorem hide {p : Prop} (h : p) : Hid p := h
theorem unhide {p : Prop} (h : Hid p) : p := h
theorem set_drewN (W : World) (n : Nat) (p : Addr) (v : Value) : (W.drewN n).setCell p v = (W.setCell p v).drewN n := rfl
theorem set_out {W : World} {b : Nat} (hb : b = W.heap.size) (c : Array Value) (t : TypeId) (i : Nat) (v : Value) (n : Nat) : ((W.alloc (.cells c t)).drewN n).setCell ⟨b, i, none⟩ v = (W.alloc (.cells (c.setIfInBounds i v) t)).drewN n := by
  rw [set_drewN, World.setCell_alloc_at _ _ _ _ _ hb]

/-- An array of four words that may be written. -/
structure ArrW (w : World) (b : Nat) (x0 x1 x2 x3 : Int) : Prop where
  lt : b < w.heap.size
  c0 : w.cell? ⟨b, 0, none⟩ = some (.int .u64 x0)
  c1 : w.cell? ⟨b, 1, none⟩ = some (.int .u64 x1)
  c2 : w.cell? ⟨b, 2, none⟩ = some (.int .u64 x2)
  c3 : w.cell? ⟨b, 3, none⟩ = some (.int .u64 x3)
  f0 : w.frozen? ⟨b, 0, none⟩ = false
  f1 : w.frozen? ⟨b, 1, none⟩ = false
  f2 : w.frozen? ⟨b, 2, none⟩ = false
  f3 : w.frozen? ⟨b, 3, none⟩ = false
theorem ArrW.keep {W w1 : World} {b : Nat} {x0 x1 x2 x3 : Int} (h : ArrW W b x0 x1 x2 x3) (hb : Below W.heap.size W w1) : ArrW w1 b x0 x1 x2 x3 :=
  ⟨Nat.lt_of_lt_of_le h.lt hb.size, later hb h.c0, later hb h.c1, later hb h.c2, later hb h.c3, (hb.frozen (p := ⟨b, 0, none⟩) h.lt).trans h.f0, (hb.frozen (p := ⟨b, 1, none⟩) h.lt).trans h.f1, (hb.frozen (p := ⟨b, 2, none⟩) h.lt).trans h.f2, (hb.frozen (p := ⟨b, 3, none⟩) h.lt).trans h.f3⟩
theorem ArrW.alloc {W : World} {b : Nat} {x0 x1 x2 x3 : Int} (h : ArrW W b x0 x1 x2 x3) (o : Obj) : ArrW (W.alloc o) b x0 x1 x2 x3 :=
  h.keep ((Below.refl _ _).alloc (Nat.le_refl _) o)
theorem ArrW.new (W : World) (b : Nat) (hb : b = W.heap.size) (t : TypeId) (x0 x1 x2 x3 : Int) : ArrW (W.alloc (.cells #[.int .u64 x0, .int .u64 x1, .int .u64 x2, .int .u64 x3] t)) b x0 x1 x2 x3 := by
  subst hb
  constructor <;> simp [go_sem]
theorem ArrW.stored {W : World} {n : Nat} {y0 y1 y2 y3 : Int} (h : ArrW W n y0 y1 y2 y3) (x0 x1 x2 x3 : Int) : ArrW ((((W.setCell ⟨n, 0, none⟩ (.int .u64 x0)).setCell ⟨n, 1, none⟩ (.int .u64 x1)).setCell ⟨n, 2, none⟩ (.int .u64 x2)).setCell ⟨n, 3, none⟩ (.int .u64 x3)) n x0 x1 x2 x3 := by
  obtain ⟨h, h0, h1, h2, h3, f0, f1, f2, f3⟩ := h
  constructor
  · simpa using h
  all_goals simp [go_sem, h0, h1, h2, h3, f0, f1, f2, f3]
theorem set4_other {W : World} {n b o : Nat} {v : Value} (hn : b ≠ n) (x0 x1 x2 x3 : Int) (h : W.cell? ⟨b, o, none⟩ = some v) : ((((W.setCell ⟨n, 0, none⟩ (.int .u64 x0)).setCell ⟨n, 1, none⟩ (.int .u64 x1)).setCell ⟨n, 2, none⟩ (.int .u64 x2)).setCell ⟨n, 3, none⟩ (.int .u64 x3)).cell? ⟨b, o, none⟩ = some v := by
  simp [go_sem, h]
theorem set4_frozen {W : World} {n : Nat} (p : Addr) (x0 x1 x2 x3 : Int) : ((((W.setCell ⟨n, 0, none⟩ (.int .u64 x0)).setCell ⟨n, 1, none⟩ (.int .u64 x1)).setCell ⟨n, 2, none⟩ (.int .u64 x2)).setCell ⟨n, 3, none⟩ (.int .u64 x3)).frozen? p = W.frozen? p := by
  simp [World.frozen?_setCell]
theorem Arr.set4 {W : World} {n b : Nat} {y0 y1 y2 y3 : Int} (h : Arr W b y0 y1 y2 y3) (hn : b ≠ n) (x0 x1 x2 x3 : Int) : Arr ((((W.setCell ⟨n, 0, none⟩ (.int .u64 x0)).setCell ⟨n, 1, none⟩ (.int .u64 x1)).setCell ⟨n, 2, none⟩ (.int .u64 x2)).setCell ⟨n, 3, none⟩ (.int .u64 x3)) b y0 y1 y2 y3 :=
  ⟨by have := h.lt; simpa using this, set4_other hn _ _ _ _ h.c0, set4_other hn _ _ _ _ h.c1, set4_other hn _ _ _ _ h.c2, set4_other hn _ _ _ _ h.c3⟩
theorem ArrW.set4 {W : World} {n b : Nat} {y0 y1 y2 y3 : Int} (h : ArrW W b y0 y1 y2 y3) (hn : b ≠ n) (x0 x1 x2 x3 : Int) : ArrW ((((W.setCell ⟨n, 0, none⟩ (.int .u64 x0)).setCell ⟨n, 1, none⟩ (.int .u64 x1)).setCell ⟨n, 2, none⟩ (.int .u64 x2)).setCell ⟨n, 3, none⟩ (.int .u64 x3)) b y0 y1 y2 y3 :=
  ⟨by have := h.lt; simpa using this, set4_other hn _ _ _ _ h.c0, set4_other hn _ _ _ _ h.c1, set4_other hn _ _ _ _ h.c2, set4_other hn _ _ _ _ h.c3, (set4_frozen _ _ _ _ _).trans h.f0, (set4_frozen _ _ _ _ _).trans h.f1, (set4_frozen _ _ _ _ _).trans h.f2, (set4_frozen _ _ _ _ _).trans h.f3⟩
theorem K.set4 {w W : World} {n : Nat} (h : Below w.heap.size w W) (hn : w.heap.size ≤ n) (x0 x1 x2 x3 : Int) : Below w.heap.size w ((((W.setCell ⟨n, 0, none⟩ (.int .u64 x0)).setCell ⟨n, 1, none⟩ (.int .u64 x1)).setCell ⟨n, 2, none⟩ (.int .u64 x2)).setCell ⟨n, 3, none⟩ (.int .u64 x3)) :=
  K.set (K.set (K.set (K.set h hn _) hn _) hn _) hn _
end Go.Proofs.Ytjgpopjpmfkfmaa
