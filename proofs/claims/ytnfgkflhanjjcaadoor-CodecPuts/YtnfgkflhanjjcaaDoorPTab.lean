/- The program's table of moduli, and what field.Modulus answers. -/
import Derived.Test.YtnfgkflhanjjcaaDoorBase
import Derived.Test.YtnfgkflhanjjcaaDoorMd
namespace Go.Proofs.YtnfgkflhanjjcaaDoor
open Go.RowKit
attribute [local go_sem ↓] Go.wp_at_zero Go.wp_at_succ

/-- The table of the moduli lies where the program's start laid it. -/
structure Tab (w : World) : Prop where
  c00 : w.cell? ⟨0, 0, none⟩ = some (.int .u64 18446744073709551615)
  c01 : w.cell? ⟨0, 1, none⟩ = some (.int .u64 4294967295)
  c02 : w.cell? ⟨0, 2, none⟩ = some (.int .u64 0)
  c03 : w.cell? ⟨0, 3, none⟩ = some (.int .u64 18446744069414584321)
  c10 : w.cell? ⟨0, 4, none⟩ = some (.int .u64 17562291160714782033)
  c11 : w.cell? ⟨0, 5, none⟩ = some (.int .u64 13611842547513532036)
  c12 : w.cell? ⟨0, 6, none⟩ = some (.int .u64 18446744073709551615)
  c13 : w.cell? ⟨0, 7, none⟩ = some (.int .u64 18446744069414584320)
  c20 : w.cell? ⟨0, 8, none⟩ = some (.int .u64 18446744073709551597)
  c21 : w.cell? ⟨0, 9, none⟩ = some (.int .u64 18446744073709551615)
  c22 : w.cell? ⟨0, 10, none⟩ = some (.int .u64 18446744073709551615)
  c23 : w.cell? ⟨0, 11, none⟩ = some (.int .u64 9223372036854775807)
  c30 : w.cell? ⟨0, 12, none⟩ = some (.int .u64 6346243789798364141)
  c31 : w.cell? ⟨0, 13, none⟩ = some (.int .u64 1503914060200516822)
  c32 : w.cell? ⟨0, 14, none⟩ = some (.int .u64 0)
  c33 : w.cell? ⟨0, 15, none⟩ = some (.int .u64 1152921504606846976)
theorem Tab.keep {W w1 : World} (h : Tab W) (hb : Below W.heap.size W w1) : Tab w1 :=
  ⟨later hb h.c00, later hb h.c01, later hb h.c02, later hb h.c03, later hb h.c10, later hb h.c11, later hb h.c12, later hb h.c13, later hb h.c20, later hb h.c21, later hb h.c22, later hb h.c23, later hb h.c30, later hb h.c31, later hb h.c32, later hb h.c33⟩
set_option maxHeartbeats 1000000 in
theorem modOf_0 (w : World) (hT : Tab w) : Calls Tryd.prog 18 #[.int .i64 0] w fun e w' => e = .returned (.agg #[.int .u64 (L 0 (md 0)), .int .u64 (L 1 (md 0)), .int .u64 (L 2 (md 0)), .int .u64 (L 3 (md 0))]) ∧ Below w.heap.size w w' := by
  obtain ⟨c00, c01, c02, c03, c10, c11, c12, c13, c20, c21, c22, c23, c30, c31, c32, c33⟩ := hT.keep ((Below.refl _ _).alloc (Nat.le_refl _) (.cells #[.int .u64 0, .int .u64 0, .int .u64 0, .int .u64 0] 35))
  rw [md_0_0, md_0_1, md_0_2, md_0_3]
  go_enter Tryd.func18, Tryd.ntmps18
  go_wp2
  go_returns
  refine ⟨rfl, ?_⟩
  go_grown
set_option maxHeartbeats 1000000 in
theorem modOf_1 (w : World) (hT : Tab w) : Calls Tryd.prog 18 #[.int .i64 1] w fun e w' => e = .returned (.agg #[.int .u64 (L 0 (md 1)), .int .u64 (L 1 (md 1)), .int .u64 (L 2 (md 1)), .int .u64 (L 3 (md 1))]) ∧ Below w.heap.size w w' := by
  obtain ⟨c00, c01, c02, c03, c10, c11, c12, c13, c20, c21, c22, c23, c30, c31, c32, c33⟩ := hT.keep ((Below.refl _ _).alloc (Nat.le_refl _) (.cells #[.int .u64 0, .int .u64 0, .int .u64 0, .int .u64 0] 35))
  rw [md_1_0, md_1_1, md_1_2, md_1_3]
  go_enter Tryd.func18, Tryd.ntmps18
  go_wp2
  go_returns
  refine ⟨rfl, ?_⟩
  go_grown
set_option maxHeartbeats 1000000 in
theorem modOf_2 (w : World) (hT : Tab w) : Calls Tryd.prog 18 #[.int .i64 2] w fun e w' => e = .returned (.agg #[.int .u64 (L 0 (md 2)), .int .u64 (L 1 (md 2)), .int .u64 (L 2 (md 2)), .int .u64 (L 3 (md 2))]) ∧ Below w.heap.size w w' := by
  obtain ⟨c00, c01, c02, c03, c10, c11, c12, c13, c20, c21, c22, c23, c30, c31, c32, c33⟩ := hT.keep ((Below.refl _ _).alloc (Nat.le_refl _) (.cells #[.int .u64 0, .int .u64 0, .int .u64 0, .int .u64 0] 35))
  rw [md_2_0, md_2_1, md_2_2, md_2_3]
  go_enter Tryd.func18, Tryd.ntmps18
  go_wp2
  go_returns
  refine ⟨rfl, ?_⟩
  go_grown
set_option maxHeartbeats 1000000 in
theorem modOf_3 (w : World) (hT : Tab w) : Calls Tryd.prog 18 #[.int .i64 3] w fun e w' => e = .returned (.agg #[.int .u64 (L 0 (md 3)), .int .u64 (L 1 (md 3)), .int .u64 (L 2 (md 3)), .int .u64 (L 3 (md 3))]) ∧ Below w.heap.size w w' := by
  obtain ⟨c00, c01, c02, c03, c10, c11, c12, c13, c20, c21, c22, c23, c30, c31, c32, c33⟩ := hT.keep ((Below.refl _ _).alloc (Nat.le_refl _) (.cells #[.int .u64 0, .int .u64 0, .int .u64 0, .int .u64 0] 35))
  rw [md_3_0, md_3_1, md_3_2, md_3_3]
  go_enter Tryd.func18, Tryd.ntmps18
  go_wp2
  go_returns
  refine ⟨rfl, ?_⟩
  go_grown
set_option maxHeartbeats 1000000 in
theorem modOf_none {k : Int} (h : k < 0 ∨ 3 < k) (w : World) : Calls Tryd.prog 18 #[.int .i64 k] w fun e w' => e = .returned (.agg #[.int .u64 (L 0 (md k)), .int .u64 (L 1 (md k)), .int .u64 (L 2 (md k)), .int .u64 (L 3 (md k))]) ∧ Below w.heap.size w w' := by
  rw [md_none h, L_zero, L_zero, L_zero, L_zero]
  rcases h with h | h
  · go_enter Tryd.func18, Tryd.ntmps18
    go_wp2
    go_returns
    refine ⟨rfl, ?_⟩
    go_grown
  · have h2 : ¬ k < 0 := by omega
    have h3 : 4 ≤ k := by omega
    clear h
    go_enter Tryd.func18, Tryd.ntmps18
    go_wp2
    go_returns
    refine ⟨rfl, ?_⟩
    go_grown
theorem modOf_any (k : Int) {w : World} (hT : Tab w) : Calls Tryd.prog 18 #[.int .i64 k] w fun e w' => e = .returned (.agg #[.int .u64 (L 0 (md k)), .int .u64 (L 1 (md k)), .int .u64 (L 2 (md k)), .int .u64 (L 3 (md k))]) ∧ Below w.heap.size w w' := by
  have hk : k = 0 ∨ k = 1 ∨ k = 2 ∨ k = 3 ∨ (k < 0 ∨ 3 < k) := by omega
  rcases hk with rfl | rfl | rfl | rfl | hk
  · exact modOf_0 w hT
  · exact modOf_1 w hT
  · exact modOf_2 w hT
  · exact modOf_3 w hT
  · exact modOf_none hk w


set_option maxHeartbeats 1000000 in
theorem f_mod (k : Int) {w : World} (hT : Tab w) : Calls Tryd.prog 15 #[.int .i64 k] w fun e w' => e = .returned (.agg #[.int .u64 (L 0 (md k)), .int .u64 (L 1 (md k)), .int .u64 (L 2 (md k)), .int .u64 (L 3 (md k))]) ∧ Below w.heap.size w w' := by
  go_enter Tryd.func15, Tryd.ntmps15
  go_wp2_with fail
  with_reducible refine Calls.mono (modOf_any k (hT.keep (K.alloc (Below.refl _ _) _))) ?_
  rintro e w1 ⟨rfl, hb1⟩
  have ⟨kr, kr0, kr1, kr2, kr3, kf0, kf1, kf2, kf3⟩ := (ArrW.new w w.heap.size rfl 24 0 0 0 0).keep hb1
  have hw1 : Below w.heap.size w w1 := K.call (K.alloc (Below.refl _ w) _) hb1
  go_wp2_with fail
  exact bodyPost_ret (v := .agg #[.int .u64 (L 0 (md k)), .int .u64 (L 1 (md k)), .int .u64 (L 2 (md k)), .int .u64 (L 3 (md k))]) (by simp [results, Tryd.results15, go_sem, kr0, kr1, kr2, kr3]) rfl ⟨rfl, K.set4 hw1 (by omega) _ _ _ _⟩
end Go.Proofs.YtnfgkflhanjjcaaDoor
