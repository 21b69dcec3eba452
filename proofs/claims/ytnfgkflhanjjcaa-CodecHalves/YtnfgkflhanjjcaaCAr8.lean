/- Arrays of eight words; bytes that came in. -/
import Derived.Test.YtnfgkflhanjjcaaCTurned
namespace Go.Proofs.Ytnfgkflhanjjcaa
open Go.RowKit

theorem eq8 (x0 x1 x2 x3 x4 x5 x6 x7 y0 y1 y2 y3 y4 y5 y6 y7 : Int) (w : World) :
    (Op.equalIn 10000 30 (.agg #[.int .u64 x0, .int .u64 x1, .int .u64 x2, .int .u64 x3, .int .u64 x4, .int .u64 x5, .int .u64 x6, .int .u64 x7]) (.agg #[.int .u64 y0, .int .u64 y1, .int .u64 y2, .int .u64 y3, .int .u64 y4, .int .u64 y5, .int .u64 y6, .int .u64 y7])).run Try.prog w = .ok (x0 == y0 && (x1 == y1 && (x2 == y2 && (x3 == y3 && (x4 == y4 && (x5 == y5 && (x6 == y6 && (x7 == y7 && true)))))))) w := by
  obtain ⟨i, hi⟩ := Option.isSome_iff_exists.1 (show (Try.prog.info? 24).isSome = true by kernel_rfl)
  rw [run_equalIn_array w 9999 _ _ Try.underlying30 hi]
  have hc : Try.prog.cellsOf 24 = 1 := by kernel_rfl
  have r8 : List.range 8 = [0, 1, 2, 3, 4, 5, 6, 7] := rfl
  rw [hc, r8]
  exact (items_cons _ _ 0 _ _ _ _ rfl rfl w (items_cons _ _ 1 _ _ _ _ rfl rfl w (items_cons _ _ 2 _ _ _ _ rfl rfl w (items_cons _ _ 3 _ _ _ _ rfl rfl w (items_cons _ _ 4 _ _ _ _ rfl rfl w (items_cons _ _ 5 _ _ _ _ rfl rfl w (items_cons _ _ 6 _ _ _ _ rfl rfl w (items_cons _ _ 7 _ _ _ _ rfl rfl w (items_nil _ _ w)))))))))
theorem eq4_same (x0 x1 x2 x3 : Int) (w : World) : (Op.equalIn 10000 26 (.agg #[.int .u64 x0, .int .u64 x1, .int .u64 x2, .int .u64 x3]) (.agg #[.int .u64 x0, .int .u64 x1, .int .u64 x2, .int .u64 x3])).run Try.prog w = .ok true w := by
  rw [eq4]; simp
theorem eq8_same (x0 x1 x2 x3 x4 x5 x6 x7 : Int) (w : World) : (Op.equalIn 10000 30 (.agg #[.int .u64 x0, .int .u64 x1, .int .u64 x2, .int .u64 x3, .int .u64 x4, .int .u64 x5, .int .u64 x6, .int .u64 x7]) (.agg #[.int .u64 x0, .int .u64 x1, .int .u64 x2, .int .u64 x3, .int .u64 x4, .int .u64 x5, .int .u64 x6, .int .u64 x7])).run Try.prog w = .ok true w := by
  rw [eq8]; simp

/-- An array of eight words. -/
structure Ar8 (w : World) (b : Nat) (x0 x1 x2 x3 x4 x5 x6 x7 : Int) : Prop where
  lt : b < w.heap.size
  c0 : w.cell? ⟨b, 0, none⟩ = some (.int .u64 x0)
  c1 : w.cell? ⟨b, 1, none⟩ = some (.int .u64 x1)
  c2 : w.cell? ⟨b, 2, none⟩ = some (.int .u64 x2)
  c3 : w.cell? ⟨b, 3, none⟩ = some (.int .u64 x3)
  c4 : w.cell? ⟨b, 4, none⟩ = some (.int .u64 x4)
  c5 : w.cell? ⟨b, 5, none⟩ = some (.int .u64 x5)
  c6 : w.cell? ⟨b, 6, none⟩ = some (.int .u64 x6)
  c7 : w.cell? ⟨b, 7, none⟩ = some (.int .u64 x7)
theorem Ar8.keep {W w1 : World} {b : Nat} {x0 x1 x2 x3 x4 x5 x6 x7 : Int} (h : Ar8 W b x0 x1 x2 x3 x4 x5 x6 x7) (hb : Below W.heap.size W w1) : Ar8 w1 b x0 x1 x2 x3 x4 x5 x6 x7 :=
  ⟨Nat.lt_of_lt_of_le h.lt hb.size, later hb h.c0, later hb h.c1, later hb h.c2, later hb h.c3, later hb h.c4, later hb h.c5, later hb h.c6, later hb h.c7⟩
theorem Ar8.new (W : World) (b : Nat) (hb : b = W.heap.size) (t : TypeId) (x0 x1 x2 x3 x4 x5 x6 x7 : Int) : Ar8 (W.alloc (.cells #[.int .u64 x0, .int .u64 x1, .int .u64 x2, .int .u64 x3, .int .u64 x4, .int .u64 x5, .int .u64 x6, .int .u64 x7] t)) b x0 x1 x2 x3 x4 x5 x6 x7 := by
  subst hb
  constructor <;> simp [go_sem]

/-- Bytes that came in: how many, and what they are. -/
structure BytesAt (w : World) (v : Option Addr) (n cap : Nat) (f : Nat → Int) : Prop where
  le : n ≤ cap
  max : cap ≤ 9223372036854775807
  bd : ∀ i, 0 ≤ f i ∧ f i < 256
  rd : n = 0 ∨ ∃ b o, v = some ⟨b, o, none⟩ ∧ Rd w b o n f
end Go.Proofs.Ytnfgkflhanjjcaa
