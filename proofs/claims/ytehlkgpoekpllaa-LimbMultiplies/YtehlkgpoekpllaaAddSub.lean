/- What limb.Add and limb.Sub answer, for all numbers: the sum and the difference, word by word, and whether it goes over or under. -/
import Derived.Test.YtehlkgpoekpllaaRows
import Derived.Test.YtehlkgpoekpllaaNum
import Derived.WalkKit
import Derived.WalkSpells
import Derived.Laws.Externs
import Derived.Laws.Pointers
import Derived.Deep.RegionHeld3
import Derived.Deep.DrawnRows
import Derived.RowKit3
import Derived.LoopN
import Derived.Handy
namespace Go.Proofs.Ytehlkgpoekpllaa
open Go.RowKit
attribute [local go_sem ↓] Go.wp_at_zero Go.wp_at_succ

theorem add64 (x y c : Int) (hx : 0 ≤ x) (hy : 0 ≤ y) (hc0 : 0 ≤ c) (hc : c ≤ 1) (w : World) : (callFunc 25 #[.int .u64 x, .int .u64 y, .int .u64 c]).run Try.prog w =
    .ok (.value (.tuple #[.int .u64 ((x + y + c) % 18446744073709551616), .int .u64 ((x + y + c) / 18446744073709551616)])) w := by
  rw [run_callFunc_extern Try.func25 (by kernel_rfl) (by kernel_rfl) (by kernel_rfl) (e := add64Entry) (by kernel_rfl), run_add64 x y c hx hy hc0 hc]
  rfl
theorem add64_k (a b : Int) (k : Nat) (w : World) : (callFunc 25 #[.int .u64 (L k a), .int .u64 (L k b), .int .u64 (C a b k)]).run Try.prog w =
    .ok (.value (.tuple #[.int .u64 (L k (a + b)), .int .u64 (C a b (k + 1))])) w := by
  rw [add64 _ _ _ (L_lo _ _) (L_lo _ _) (C_lo _ _ _) (C_hi _ _ _), add_word, add_carry]
theorem add64_0 (a b : Int) (w : World) : (callFunc 25 #[.int .u64 (L 0 a), .int .u64 (L 0 b), .int .u64 0]).run Try.prog w =
    .ok (.value (.tuple #[.int .u64 (L 0 (a + b)), .int .u64 (C a b 1)])) w := by
  have := add64_k a b 0 w; rwa [C_zero] at this
theorem add64_1 (a b : Int) (w : World) : (callFunc 25 #[.int .u64 (L 1 a), .int .u64 (L 1 b), .int .u64 (C a b 1)]).run Try.prog w =
    .ok (.value (.tuple #[.int .u64 (L 1 (a + b)), .int .u64 (C a b 2)])) w := add64_k a b 1 w
theorem add64_2 (a b : Int) (w : World) : (callFunc 25 #[.int .u64 (L 2 a), .int .u64 (L 2 b), .int .u64 (C a b 2)]).run Try.prog w =
    .ok (.value (.tuple #[.int .u64 (L 2 (a + b)), .int .u64 (C a b 3)])) w := add64_k a b 2 w
theorem add64_3 (a b : Int) (w : World) : (callFunc 25 #[.int .u64 (L 3 a), .int .u64 (L 3 b), .int .u64 (C a b 3)]).run Try.prog w =
    .ok (.value (.tuple #[.int .u64 (L 3 (a + b)), .int .u64 (C a b 4)])) w := add64_k a b 3 w

set_option maxHeartbeats 1000000 in
theorem add_walk (a b : Int) (w : World) :
    Calls Try.prog 9 #[.agg #[.int .u64 (L 0 a), .int .u64 (L 1 a), .int .u64 (L 2 a), .int .u64 (L 3 a)], .agg #[.int .u64 (L 0 b), .int .u64 (L 1 b), .int .u64 (L 2 b), .int .u64 (L 3 b)]] w fun e w' =>
      e = .returned (.tuple #[.agg #[.int .u64 (L 0 (a + b)), .int .u64 (L 1 (a + b)), .int .u64 (L 2 (a + b)), .int .u64 (L 3 (a + b))], .bool (C a b 4 == 1)]) ∧ Below w.heap.size w w' := by
  go_enter Try.func9, Try.ntmps9
  go_wp2
  refine wp_loop_rounds 5 ?_
  rw [rounds_succ]
  go_wp2
  go_region_held3 (fun w' => w'.cell? ⟨w.heap.size, 0, none⟩ = some (.int .u64 (L 0 a)) ∧ w'.cell? ⟨w.heap.size + 1, 0, none⟩ = some (.int .u64 (L 0 b))) (simp [go_sem, World.cell?_alloc_past])
    (simp only [add64_0 a b])
  go_wp2
  rw [rounds_succ]
  go_wp2
  go_region_held3 (fun w' => w'.cell? ⟨w.heap.size, 1, none⟩ = some (.int .u64 (L 1 a)) ∧ w'.cell? ⟨w.heap.size + 1, 1, none⟩ = some (.int .u64 (L 1 b))) (simp [go_sem, World.cell?_alloc_past])
    (simp only [add64_1 a b])
  go_wp2
  rw [rounds_succ]
  go_wp2
  go_region_held3 (fun w' => w'.cell? ⟨w.heap.size, 2, none⟩ = some (.int .u64 (L 2 a)) ∧ w'.cell? ⟨w.heap.size + 1, 2, none⟩ = some (.int .u64 (L 2 b))) (simp [go_sem, World.cell?_alloc_past])
    (simp only [add64_2 a b])
  go_wp2
  rw [rounds_succ]
  go_wp2
  go_region_held3 (fun w' => w'.cell? ⟨w.heap.size, 3, none⟩ = some (.int .u64 (L 3 a)) ∧ w'.cell? ⟨w.heap.size + 1, 3, none⟩ = some (.int .u64 (L 3 b))) (simp [go_sem, World.cell?_alloc_past])
    (simp only [add64_3 a b])
  go_wp2
  rw [rounds_succ]
  go_wp2
  go_returns
  refine ⟨rfl, ?_⟩
  go_grown

theorem add_any {a b : Int} (ha : Num a) (hb : Num b) (w : World) :
    Calls Try.prog 9 #[.agg #[.int .u64 (L 0 a), .int .u64 (L 1 a), .int .u64 (L 2 a), .int .u64 (L 3 a)], .agg #[.int .u64 (L 0 b), .int .u64 (L 1 b), .int .u64 (L 2 b), .int .u64 (L 3 b)]] w fun e w' =>
      e = .returned (.tuple #[.agg #[.int .u64 (L 0 (a + b)), .int .u64 (L 1 (a + b)), .int .u64 (L 2 (a + b)), .int .u64 (L 3 (a + b))], .bool (over a b)]) ∧ Below w.heap.size w w' := by
  rw [← C_four ha hb]; exact add_walk a b w

theorem sub64 (x y b : Int) (hx : 0 ≤ x) (hy : 0 ≤ y) (hy2 : y < 18446744073709551616) (hb0 : 0 ≤ b) (hb : b ≤ 1) (w : World) : (callFunc 26 #[.int .u64 x, .int .u64 y, .int .u64 b]).run Try.prog w =
    .ok (.value (.tuple #[.int .u64 ((x - y - b) % 18446744073709551616), .int .u64 (if x < y + b then 1 else 0)])) w := by
  obtain ⟨x, rfl⟩ := Int.eq_ofNat_of_zero_le hx
  obtain ⟨y, rfl⟩ := Int.eq_ofNat_of_zero_le hy
  obtain ⟨b, rfl⟩ := Int.eq_ofNat_of_zero_le hb0
  have e1 : (((x + 18446744073709551616 - y - b) % 18446744073709551616 : Nat) : Int) = ((x : Int) - y - b) % 18446744073709551616 := by omega
  have e2 : ((if x < y + b then 1 else 0 : Nat) : Int) = if (x : Int) < y + b then 1 else 0 := by split <;> split <;> omega
  rw [← e1, ← e2, run_callFunc_extern Try.func26 (by kernel_rfl) (by kernel_rfl) (by kernel_rfl) (e := (Extern.MathBitsCarry.rows[1]'(by decide)).2) (by kernel_rfl)]
  have : b = 0 ∨ b = 1 := by omega
  rcases this with rfl | rfl <;> rfl
theorem sub64_k (a b : Int) (k : Nat) (w : World) : (callFunc 26 #[.int .u64 (L k a), .int .u64 (L k b), .int .u64 (D a b k)]).run Try.prog w =
    .ok (.value (.tuple #[.int .u64 (L k (a - b)), .int .u64 (D a b (k + 1))])) w := by
  rw [sub64 _ _ _ (L_lo _ _) (L_lo _ _) (L_hi _ _) (D_lo _ _ _) (D_hi _ _ _), sub_word, sub_carry]
theorem sub64_0 (a b : Int) (w : World) : (callFunc 26 #[.int .u64 (L 0 a), .int .u64 (L 0 b), .int .u64 0]).run Try.prog w =
    .ok (.value (.tuple #[.int .u64 (L 0 (a - b)), .int .u64 (D a b 1)])) w := by
  have := sub64_k a b 0 w; rwa [D_zero] at this
theorem sub64_1 (a b : Int) (w : World) : (callFunc 26 #[.int .u64 (L 1 a), .int .u64 (L 1 b), .int .u64 (D a b 1)]).run Try.prog w =
    .ok (.value (.tuple #[.int .u64 (L 1 (a - b)), .int .u64 (D a b 2)])) w := sub64_k a b 1 w
theorem sub64_2 (a b : Int) (w : World) : (callFunc 26 #[.int .u64 (L 2 a), .int .u64 (L 2 b), .int .u64 (D a b 2)]).run Try.prog w =
    .ok (.value (.tuple #[.int .u64 (L 2 (a - b)), .int .u64 (D a b 3)])) w := sub64_k a b 2 w
theorem sub64_3 (a b : Int) (w : World) : (callFunc 26 #[.int .u64 (L 3 a), .int .u64 (L 3 b), .int .u64 (D a b 3)]).run Try.prog w =
    .ok (.value (.tuple #[.int .u64 (L 3 (a - b)), .int .u64 (D a b 4)])) w := sub64_k a b 3 w

set_option maxHeartbeats 1000000 in
theorem sub_walk (a b : Int) (w : World) :
    Calls Try.prog 11 #[.agg #[.int .u64 (L 0 a), .int .u64 (L 1 a), .int .u64 (L 2 a), .int .u64 (L 3 a)], .agg #[.int .u64 (L 0 b), .int .u64 (L 1 b), .int .u64 (L 2 b), .int .u64 (L 3 b)]] w fun e w' =>
      e = .returned (.tuple #[.agg #[.int .u64 (L 0 (a - b)), .int .u64 (L 1 (a - b)), .int .u64 (L 2 (a - b)), .int .u64 (L 3 (a - b))], .bool (D a b 4 == 1)]) ∧ Below w.heap.size w w' := by
  go_enter Try.func11, Try.ntmps11
  go_wp2
  refine wp_loop_rounds 5 ?_
  rw [rounds_succ]
  go_wp2
  go_region_held3 (fun w' => w'.cell? ⟨w.heap.size, 0, none⟩ = some (.int .u64 (L 0 a)) ∧ w'.cell? ⟨w.heap.size + 1, 0, none⟩ = some (.int .u64 (L 0 b))) (simp [go_sem, World.cell?_alloc_past])
    (simp only [sub64_0 a b])
  go_wp2
  rw [rounds_succ]
  go_wp2
  go_region_held3 (fun w' => w'.cell? ⟨w.heap.size, 1, none⟩ = some (.int .u64 (L 1 a)) ∧ w'.cell? ⟨w.heap.size + 1, 1, none⟩ = some (.int .u64 (L 1 b))) (simp [go_sem, World.cell?_alloc_past])
    (simp only [sub64_1 a b])
  go_wp2
  rw [rounds_succ]
  go_wp2
  go_region_held3 (fun w' => w'.cell? ⟨w.heap.size, 2, none⟩ = some (.int .u64 (L 2 a)) ∧ w'.cell? ⟨w.heap.size + 1, 2, none⟩ = some (.int .u64 (L 2 b))) (simp [go_sem, World.cell?_alloc_past])
    (simp only [sub64_2 a b])
  go_wp2
  rw [rounds_succ]
  go_wp2
  go_region_held3 (fun w' => w'.cell? ⟨w.heap.size, 3, none⟩ = some (.int .u64 (L 3 a)) ∧ w'.cell? ⟨w.heap.size + 1, 3, none⟩ = some (.int .u64 (L 3 b))) (simp [go_sem, World.cell?_alloc_past])
    (simp only [sub64_3 a b])
  go_wp2
  rw [rounds_succ]
  go_wp2
  go_returns
  refine ⟨rfl, ?_⟩
  go_grown

theorem sub_any {a b : Int} (ha : Num a) (hb : Num b) (w : World) :
    Calls Try.prog 11 #[.agg #[.int .u64 (L 0 a), .int .u64 (L 1 a), .int .u64 (L 2 a), .int .u64 (L 3 a)], .agg #[.int .u64 (L 0 b), .int .u64 (L 1 b), .int .u64 (L 2 b), .int .u64 (L 3 b)]] w fun e w' =>
      e = .returned (.tuple #[.agg #[.int .u64 (L 0 (a - b)), .int .u64 (L 1 (a - b)), .int .u64 (L 2 (a - b)), .int .u64 (L 3 (a - b))], .bool (under a b)]) ∧ Below w.heap.size w w' := by
  rw [← D_four ha hb]; exact sub_walk a b w

/-- 5 and 2, of four words each, make 7. -/
theorem add_5_2 (w : World) :
    Calls Try.prog 9 #[.agg #[.int .u64 5, .int .u64 0, .int .u64 0, .int .u64 0], .agg #[.int .u64 2, .int .u64 0, .int .u64 0, .int .u64 0]] w fun e w' =>
      e = .returned (.tuple #[.agg #[.int .u64 7, .int .u64 0, .int .u64 0, .int .u64 0], .bool false]) ∧ Below w.heap.size w w' := by
  have h := add_any (a := 5) (b := 2) ⟨by decide, by decide⟩ ⟨by decide, by decide⟩ w
  have e0 : L 0 5 = 5 := by decide
  have e1 : L 1 5 = 0 := by decide
  have e2 : L 2 5 = 0 := by decide
  have e3 : L 3 5 = 0 := by decide
  have f0 : L 0 2 = 2 := by decide
  have f1 : L 1 2 = 0 := by decide
  have f2 : L 2 2 = 0 := by decide
  have f3 : L 3 2 = 0 := by decide
  have g0 : L 0 (5 + 2) = 7 := by decide
  have g1 : L 1 (5 + 2) = 0 := by decide
  have g2 : L 2 (5 + 2) = 0 := by decide
  have g3 : L 3 (5 + 2) = 0 := by decide
  have o : over 5 2 = false := by decide
  rw [e0, e1, e2, e3, f0, f1, f2, f3, g0, g1, g2, g3, o] at h
  exact h

end Go.Proofs.Ytehlkgpoekpllaa
