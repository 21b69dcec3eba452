/- Eight words in a block of their own. -/
import Derived.Test.YtolehamdaceikaaDoorB02
namespace Go.Proofs.YtolehamdaceikaaDoor
open Go.RowKit

/-- Eight words in a block of its own, which may be written. -/
structure Arr8 (w : World) (b : Nat) (x : Int) : Prop where
  lt : b < w.heap.size
  c0 : w.cell? ⟨b, 0, none⟩ = some (.int .u64 (L 0 x))
  c1 : w.cell? ⟨b, 1, none⟩ = some (.int .u64 (L 1 x))
  c2 : w.cell? ⟨b, 2, none⟩ = some (.int .u64 (L 2 x))
  c3 : w.cell? ⟨b, 3, none⟩ = some (.int .u64 (L 3 x))
  c4 : w.cell? ⟨b, 4, none⟩ = some (.int .u64 (L 4 x))
  c5 : w.cell? ⟨b, 5, none⟩ = some (.int .u64 (L 5 x))
  c6 : w.cell? ⟨b, 6, none⟩ = some (.int .u64 (L 6 x))
  c7 : w.cell? ⟨b, 7, none⟩ = some (.int .u64 (L 7 x))
  f0 : w.frozen? ⟨b, 0, none⟩ = false
  f1 : w.frozen? ⟨b, 1, none⟩ = false
  f2 : w.frozen? ⟨b, 2, none⟩ = false
  f3 : w.frozen? ⟨b, 3, none⟩ = false
  f4 : w.frozen? ⟨b, 4, none⟩ = false
  f5 : w.frozen? ⟨b, 5, none⟩ = false
  f6 : w.frozen? ⟨b, 6, none⟩ = false
  f7 : w.frozen? ⟨b, 7, none⟩ = false
theorem Arr8.keep {W w1 : World} {b : Nat} {x : Int} (h : Arr8 W b x) (hb : Below W.heap.size W w1) : Arr8 w1 b x :=
  ⟨Nat.lt_of_lt_of_le h.lt hb.size, later hb h.c0, later hb h.c1, later hb h.c2, later hb h.c3, later hb h.c4, later hb h.c5, later hb h.c6, later hb h.c7, (hb.frozen (p := ⟨b, 0, none⟩) h.lt).trans h.f0, (hb.frozen (p := ⟨b, 1, none⟩) h.lt).trans h.f1, (hb.frozen (p := ⟨b, 2, none⟩) h.lt).trans h.f2, (hb.frozen (p := ⟨b, 3, none⟩) h.lt).trans h.f3, (hb.frozen (p := ⟨b, 4, none⟩) h.lt).trans h.f4, (hb.frozen (p := ⟨b, 5, none⟩) h.lt).trans h.f5, (hb.frozen (p := ⟨b, 6, none⟩) h.lt).trans h.f6, (hb.frozen (p := ⟨b, 7, none⟩) h.lt).trans h.f7⟩
theorem Arr8.alloc {W : World} {b : Nat} {x : Int} (h : Arr8 W b x) (o : Obj) : Arr8 (W.alloc o) b x :=
  h.keep ((Below.refl _ _).alloc (Nat.le_refl _) o)
theorem Arr8.stored {W : World} {n : Nat} {y : Int} (h : Arr8 W n y) (x : Int) : Arr8 ((((((((W.setCell ⟨n, 0, none⟩ (.int .u64 (L 0 x))).setCell ⟨n, 1, none⟩ (.int .u64 (L 1 x))).setCell ⟨n, 2, none⟩ (.int .u64 (L 2 x))).setCell ⟨n, 3, none⟩ (.int .u64 (L 3 x))).setCell ⟨n, 4, none⟩ (.int .u64 (L 4 x))).setCell ⟨n, 5, none⟩ (.int .u64 (L 5 x))).setCell ⟨n, 6, none⟩ (.int .u64 (L 6 x))).setCell ⟨n, 7, none⟩ (.int .u64 (L 7 x))) n x := by
  obtain ⟨h, h0, h1, h2, h3, h4, h5, h6, h7, f0, f1, f2, f3, f4, f5, f6, f7⟩ := h
  constructor
  · simpa using h
  all_goals simp [go_sem, h0, h1, h2, h3, h4, h5, h6, h7, f0, f1, f2, f3, f4, f5, f6, f7]
theorem set8_other {W : World} {n b o : Nat} {v : Value} (hn : b ≠ n) (x : Int) (h : W.cell? ⟨b, o, none⟩ = some v) : ((((((((W.setCell ⟨n, 0, none⟩ (.int .u64 (L 0 x))).setCell ⟨n, 1, none⟩ (.int .u64 (L 1 x))).setCell ⟨n, 2, none⟩ (.int .u64 (L 2 x))).setCell ⟨n, 3, none⟩ (.int .u64 (L 3 x))).setCell ⟨n, 4, none⟩ (.int .u64 (L 4 x))).setCell ⟨n, 5, none⟩ (.int .u64 (L 5 x))).setCell ⟨n, 6, none⟩ (.int .u64 (L 6 x))).setCell ⟨n, 7, none⟩ (.int .u64 (L 7 x))).cell? ⟨b, o, none⟩ = some v := by
  simp [go_sem, h]
theorem set8_frozen {W : World} {n : Nat} (p : Addr) (x : Int) : ((((((((W.setCell ⟨n, 0, none⟩ (.int .u64 (L 0 x))).setCell ⟨n, 1, none⟩ (.int .u64 (L 1 x))).setCell ⟨n, 2, none⟩ (.int .u64 (L 2 x))).setCell ⟨n, 3, none⟩ (.int .u64 (L 3 x))).setCell ⟨n, 4, none⟩ (.int .u64 (L 4 x))).setCell ⟨n, 5, none⟩ (.int .u64 (L 5 x))).setCell ⟨n, 6, none⟩ (.int .u64 (L 6 x))).setCell ⟨n, 7, none⟩ (.int .u64 (L 7 x))).frozen? p = W.frozen? p := by
  simp [World.frozen?_setCell]
theorem Arr.set8 {W : World} {n b : Nat} {x0 x1 x2 x3 : Int} (h : Arr W b x0 x1 x2 x3) (hn : b ≠ n) (x : Int) : Arr ((((((((W.setCell ⟨n, 0, none⟩ (.int .u64 (L 0 x))).setCell ⟨n, 1, none⟩ (.int .u64 (L 1 x))).setCell ⟨n, 2, none⟩ (.int .u64 (L 2 x))).setCell ⟨n, 3, none⟩ (.int .u64 (L 3 x))).setCell ⟨n, 4, none⟩ (.int .u64 (L 4 x))).setCell ⟨n, 5, none⟩ (.int .u64 (L 5 x))).setCell ⟨n, 6, none⟩ (.int .u64 (L 6 x))).setCell ⟨n, 7, none⟩ (.int .u64 (L 7 x))) b x0 x1 x2 x3 :=
  ⟨by have := h.lt; simpa using this, set8_other hn x h.c0, set8_other hn x h.c1, set8_other hn x h.c2, set8_other hn x h.c3⟩
theorem Arr8.set8 {W : World} {n b : Nat} {y : Int} (h : Arr8 W b y) (hn : b ≠ n) (x : Int) : Arr8 ((((((((W.setCell ⟨n, 0, none⟩ (.int .u64 (L 0 x))).setCell ⟨n, 1, none⟩ (.int .u64 (L 1 x))).setCell ⟨n, 2, none⟩ (.int .u64 (L 2 x))).setCell ⟨n, 3, none⟩ (.int .u64 (L 3 x))).setCell ⟨n, 4, none⟩ (.int .u64 (L 4 x))).setCell ⟨n, 5, none⟩ (.int .u64 (L 5 x))).setCell ⟨n, 6, none⟩ (.int .u64 (L 6 x))).setCell ⟨n, 7, none⟩ (.int .u64 (L 7 x))) b y :=
  ⟨by have := h.lt; simpa using this, set8_other hn x h.c0, set8_other hn x h.c1, set8_other hn x h.c2, set8_other hn x h.c3, set8_other hn x h.c4, set8_other hn x h.c5, set8_other hn x h.c6, set8_other hn x h.c7, (set8_frozen _ x).trans h.f0, (set8_frozen _ x).trans h.f1, (set8_frozen _ x).trans h.f2, (set8_frozen _ x).trans h.f3, (set8_frozen _ x).trans h.f4, (set8_frozen _ x).trans h.f5, (set8_frozen _ x).trans h.f6, (set8_frozen _ x).trans h.f7⟩
theorem K.set8 {w W : World} {n : Nat} (h : Below w.heap.size w W) (hn : w.heap.size ≤ n) (x : Int) : Below w.heap.size w ((((((((W.setCell ⟨n, 0, none⟩ (.int .u64 (L 0 x))).setCell ⟨n, 1, none⟩ (.int .u64 (L 1 x))).setCell ⟨n, 2, none⟩ (.int .u64 (L 2 x))).setCell ⟨n, 3, none⟩ (.int .u64 (L 3 x))).setCell ⟨n, 4, none⟩ (.int .u64 (L 4 x))).setCell ⟨n, 5, none⟩ (.int .u64 (L 5 x))).setCell ⟨n, 6, none⟩ (.int .u64 (L 6 x))).setCell ⟨n, 7, none⟩ (.int .u64 (L 7 x))) :=
  K.set (K.set (K.set (K.set (K.set (K.set (K.set (K.set (h) hn _) hn _) hn _) hn _) hn _) hn _) hn _) hn _
theorem Arr8.zero (W : World) (b : Nat) (hb : b = W.heap.size) : Arr8 (W.alloc (.cells #[.int .u64 0, .int .u64 0, .int .u64 0, .int .u64 0, .int .u64 0, .int .u64 0, .int .u64 0, .int .u64 0] 84)) b 0 := by
  subst hb
  have z0 : L 0 0 = 0 := by unfold L; rw [Int.zero_ediv]; rfl
  have z1 : L 1 0 = 0 := by unfold L; rw [Int.zero_ediv]; rfl
  have z2 : L 2 0 = 0 := by unfold L; rw [Int.zero_ediv]; rfl
  have z3 : L 3 0 = 0 := by unfold L; rw [Int.zero_ediv]; rfl
  have z4 : L 4 0 = 0 := by unfold L; rw [Int.zero_ediv]; rfl
  have z5 : L 5 0 = 0 := by unfold L; rw [Int.zero_ediv]; rfl
  have z6 : L 6 0 = 0 := by unfold L; rw [Int.zero_ediv]; rfl
  have z7 : L 7 0 = 0 := by unfold L; rw [Int.zero_ediv]; rfl
  constructor <;> simp [go_sem, z0, z1, z2, z3, z4, z5, z6, z7]
theorem Arr8.new (W : World) (b : Nat) (hb : b = W.heap.size) (t : TypeId) (x : Int) : Arr8 (W.alloc (.cells #[.int .u64 (L 0 x), .int .u64 (L 1 x), .int .u64 (L 2 x), .int .u64 (L 3 x), .int .u64 (L 4 x), .int .u64 (L 5 x), .int .u64 (L 6 x), .int .u64 (L 7 x)] t)) b x := by
  subst hb
  constructor <;> simp [go_sem]
theorem Arr8.set4 {W : World} {n b : Nat} {y : Int} (h : Arr8 W b y) (hn : b ≠ n) (x0 x1 x2 x3 : Int) : Arr8 ((((W.setCell ⟨n, 0, none⟩ (.int .u64 x0)).setCell ⟨n, 1, none⟩ (.int .u64 x1)).setCell ⟨n, 2, none⟩ (.int .u64 x2)).setCell ⟨n, 3, none⟩ (.int .u64 x3)) b y :=
  ⟨by have := h.lt; simpa using this, set4_other hn _ _ _ _ h.c0, set4_other hn _ _ _ _ h.c1, set4_other hn _ _ _ _ h.c2, set4_other hn _ _ _ _ h.c3, set4_other hn _ _ _ _ h.c4, set4_other hn _ _ _ _ h.c5, set4_other hn _ _ _ _ h.c6, set4_other hn _ _ _ _ h.c7, (set4_frozen _ _ _ _ _).trans h.f0, (set4_frozen _ _ _ _ _).trans h.f1, (set4_frozen _ _ _ _ _).trans h.f2, (set4_frozen _ _ _ _ _).trans h.f3, (set4_frozen _ _ _ _ _).trans h.f4, (set4_frozen _ _ _ _ _).trans h.f5, (set4_frozen _ _ _ _ _).trans h.f6, (set4_frozen _ _ _ _ _).trans h.f7⟩
theorem eq4m (x0 x1 x2 x3 y0 y1 y2 y3 : Int) (w : World) :
    (Op.equalIn 10000 75 (.agg #[.int .u64 x0, .int .u64 x1, .int .u64 x2, .int .u64 x3]) (.agg #[.int .u64 y0, .int .u64 y1, .int .u64 y2, .int .u64 y3])).run Tryd.prog w = .ok (x0 == y0 && (x1 == y1 && (x2 == y2 && (x3 == y3 && true)))) w := by
  obtain ⟨i, hi⟩ := Option.isSome_iff_exists.1 (show (Tryd.prog.info? 22).isSome = true by kernel_rfl)
  rw [run_equalIn_array w 9999 _ _ Tryd.underlying75 hi]
  have hc : Tryd.prog.cellsOf 22 = 1 := by kernel_rfl
  have r4 : List.range 4 = [0, 1, 2, 3] := rfl
  rw [hc, r4]
  exact items_cons _ _ 0 _ _ _ _ rfl rfl w (items_cons _ _ 1 _ _ _ _ rfl rfl w (items_cons _ _ 2 _ _ _ _ rfl rfl w (items_cons _ _ 3 _ _ _ _ rfl rfl w (items_nil _ _ w))))
end Go.Proofs.YtolehamdaceikaaDoor
