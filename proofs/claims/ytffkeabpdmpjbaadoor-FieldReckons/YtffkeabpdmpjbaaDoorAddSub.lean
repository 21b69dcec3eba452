/- What limb.Add and limb.Sub answer, for all numbers: the sum and the difference, word by word, and whether it goes over or under. -/
import Derived.Test.YtffkeabpdmpjbaaDoorBase
namespace Go.Proofs.YtffkeabpdmpjbaaDoor
open Go.RowKit
attribute [local go_sem ↓] Go.wp_at_zero Go.wp_at_succ

theorem add64 (x y c : Int) (hx : 0 ≤ x) (hy : 0 ≤ y) (hc0 : 0 ≤ c) (hc : c ≤ 1) (w : World) : (callFunc 36 #[.int .u64 x, .int .u64 y, .int .u64 c]).run Tryd.prog w =
    .ok (.value (.tuple #[.int .u64 ((x + y + c) % 18446744073709551616), .int .u64 ((x + y + c) / 18446744073709551616)])) w := by
  rw [run_callFunc_extern Tryd.func36 (by kernel_rfl) (by kernel_rfl) (by kernel_rfl) (e := add64Entry) (by kernel_rfl), run_add64 x y c hx hy hc0 hc]
  rfl
theorem add64_k (a b : Int) (k : Nat) (w : World) : (callFunc 36 #[.int .u64 (L k a), .int .u64 (L k b), .int .u64 (C a b k)]).run Tryd.prog w =
    .ok (.value (.tuple #[.int .u64 (L k (a + b)), .int .u64 (C a b (k + 1))])) w := by
  rw [add64 _ _ _ (L_lo _ _) (L_lo _ _) (C_lo _ _ _) (C_hi _ _ _), add_word, add_carry]
theorem add64_0 (a b : Int) (w : World) : (callFunc 36 #[.int .u64 (L 0 a), .int .u64 (L 0 b), .int .u64 0]).run Tryd.prog w =
    .ok (.value (.tuple #[.int .u64 (L 0 (a + b)), .int .u64 (C a b 1)])) w := by
  have := add64_k a b 0 w; rwa [C_zero] at this
theorem add64_1 (a b : Int) (w : World) : (callFunc 36 #[.int .u64 (L 1 a), .int .u64 (L 1 b), .int .u64 (C a b 1)]).run Tryd.prog w =
    .ok (.value (.tuple #[.int .u64 (L 1 (a + b)), .int .u64 (C a b 2)])) w := add64_k a b 1 w
theorem add64_2 (a b : Int) (w : World) : (callFunc 36 #[.int .u64 (L 2 a), .int .u64 (L 2 b), .int .u64 (C a b 2)]).run Tryd.prog w =
    .ok (.value (.tuple #[.int .u64 (L 2 (a + b)), .int .u64 (C a b 3)])) w := add64_k a b 2 w
theorem add64_3 (a b : Int) (w : World) : (callFunc 36 #[.int .u64 (L 3 a), .int .u64 (L 3 b), .int .u64 (C a b 3)]).run Tryd.prog w =
    .ok (.value (.tuple #[.int .u64 (L 3 (a + b)), .int .u64 (C a b 4)])) w := add64_k a b 3 w

set_option maxHeartbeats 1000000 in
theorem add_walk (a b : Int) (w : World) :
    Calls Tryd.prog 25 #[.agg #[.int .u64 (L 0 a), .int .u64 (L 1 a), .int .u64 (L 2 a), .int .u64 (L 3 a)], .agg #[.int .u64 (L 0 b), .int .u64 (L 1 b), .int .u64 (L 2 b), .int .u64 (L 3 b)]] w fun e w' =>
      e = .returned (.tuple #[.agg #[.int .u64 (L 0 (a + b)), .int .u64 (L 1 (a + b)), .int .u64 (L 2 (a + b)), .int .u64 (L 3 (a + b))], .bool (C a b 4 == 1)]) ∧ Below w.heap.size w w' := by
  go_enter Tryd.func25, Tryd.ntmps25
  go_wp2
  refine wp_loop_rounds 5 ?_
  rw [rounds_succ]
  go_wp2
  go_region_held3 (fun w' => w'.cell? ⟨w.heap.size, 0, none⟩ = some (.int .u64 (L 0 a)) ∧ w'.cell? ⟨w.heap.size + 1, 0, none⟩ = some (.int .u64 (L 0 b))) (simp [go_sem, World.cell?_alloc_past])
    (simp only [add64_0 a b])
  go_wp2
  rw [rounds_succ]
  go_wp2
  go_region_held3 (fun w' => w'.cell? ⟨w.heap.size, 1, none⟩ = some (.int .u64 (L 1 a)) ∧ w'.cell? ⟨w.heap.size + 1, 1, none⟩ = some (.int .u64 (L 1 b))) (simp [go_sem, World.cell?_alloc_past])
    (simp only [add64_1 a b])
  go_wp2
  rw [rounds_succ]
  go_wp2
  go_region_held3 (fun w' => w'.cell? ⟨w.heap.size, 2, none⟩ = some (.int .u64 (L 2 a)) ∧ w'.cell? ⟨w.heap.size + 1, 2, none⟩ = some (.int .u64 (L 2 b))) (simp [go_sem, World.cell?_alloc_past])
    (simp only [add64_2 a b])
  go_wp2
  rw [rounds_succ]
  go_wp2
  go_region_held3 (fun w' => w'.cell? ⟨w.heap.size, 3, none⟩ = some (.int .u64 (L 3 a)) ∧ w'.cell? ⟨w.heap.size + 1, 3, none⟩ = some (.int .u64 (L 3 b))) (simp [go_sem, World.cell?_alloc_past])
    (simp only [add64_3 a b])
  go_wp2
  rw [rounds_succ]
  go_wp2
  go_returns
  refine ⟨rfl, ?_⟩
  go_grown

theorem add_any {a b : Int} (ha : Num a) (hb : Num b) (w : World) :
    Calls Tryd.prog 25 #[.agg #[.int .u64 (L 0 a), .int .u64 (L 1 a), .int .u64 (L 2 a), .int .u64 (L 3 a)], .agg #[.int .u64 (L 0 b), .int .u64 (L 1 b), .int .u64 (L 2 b), .int .u64 (L 3 b)]] w fun e w' =>
      e = .returned (.tuple #[.agg #[.int .u64 (L 0 (a + b)), .int .u64 (L 1 (a + b)), .int .u64 (L 2 (a + b)), .int .u64 (L 3 (a + b))], .bool (over a b)]) ∧ Below w.heap.size w w' := by
  rw [← C_four ha hb]; exact add_walk a b w

theorem sub64 (x y b : Int) (hx : 0 ≤ x) (hy : 0 ≤ y) (hy2 : y < 18446744073709551616) (hb0 : 0 ≤ b) (hb : b ≤ 1) (w : World) : (callFunc 37 #[.int .u64 x, .int .u64 y, .int .u64 b]).run Tryd.prog w =
    .ok (.value (.tuple #[.int .u64 ((x - y - b) % 18446744073709551616), .int .u64 (if x < y + b then 1 else 0)])) w := by
  obtain ⟨x, rfl⟩ := Int.eq_ofNat_of_zero_le hx
  obtain ⟨y, rfl⟩ := Int.eq_ofNat_of_zero_le hy
  obtain ⟨b, rfl⟩ := Int.eq_ofNat_of_zero_le hb0
  have e1 : (((x + 18446744073709551616 - y - b) % 18446744073709551616 : Nat) : Int) = ((x : Int) - y - b) % 18446744073709551616 := by omega
  have e2 : ((if x < y + b then 1 else 0 : Nat) : Int) = if (x : Int) < y + b then 1 else 0 := by split <;> split <;> omega
  rw [← e1, ← e2, run_callFunc_extern Tryd.func37 (by kernel_rfl) (by kernel_rfl) (by kernel_rfl) (e := (Extern.MathBitsCarry.rows[1]'(by decide)).2) (by kernel_rfl)]
  have : b = 0 ∨ b = 1 := by omega
  rcases this with rfl | rfl <;> rfl
theorem sub64_k (a b : Int) (k : Nat) (w : World) : (callFunc 37 #[.int .u64 (L k a), .int .u64 (L k b), .int .u64 (D a b k)]).run Tryd.prog w =
    .ok (.value (.tuple #[.int .u64 (L k (a - b)), .int .u64 (D a b (k + 1))])) w := by
  rw [sub64 _ _ _ (L_lo _ _) (L_lo _ _) (L_hi _ _) (D_lo _ _ _) (D_hi _ _ _), sub_word, sub_carry]
theorem sub64_0 (a b : Int) (w : World) : (callFunc 37 #[.int .u64 (L 0 a), .int .u64 (L 0 b), .int .u64 0]).run Tryd.prog w =
    .ok (.value (.tuple #[.int .u64 (L 0 (a - b)), .int .u64 (D a b 1)])) w := by
  have := sub64_k a b 0 w; rwa [D_zero] at this
theorem sub64_1 (a b : Int) (w : World) : (callFunc 37 #[.int .u64 (L 1 a), .int .u64 (L 1 b), .int .u64 (D a b 1)]).run Tryd.prog w =
    .ok (.value (.tuple #[.int .u64 (L 1 (a - b)), .int .u64 (D a b 2)])) w := sub64_k a b 1 w
theorem sub64_2 (a b : Int) (w : World) : (callFunc 37 #[.int .u64 (L 2 a), .int .u64 (L 2 b), .int .u64 (D a b 2)]).run Tryd.prog w =
    .ok (.value (.tuple #[.int .u64 (L 2 (a - b)), .int .u64 (D a b 3)])) w := sub64_k a b 2 w
theorem sub64_3 (a b : Int) (w : World) : (callFunc 37 #[.int .u64 (L 3 a), .int .u64 (L 3 b), .int .u64 (D a b 3)]).run Tryd.prog w =
    .ok (.value (.tuple #[.int .u64 (L 3 (a - b)), .int .u64 (D a b 4)])) w := sub64_k a b 3 w

set_option maxHeartbeats 1000000 in
theorem sub_walk (a b : Int) (w : World) :
    Calls Tryd.prog 26 #[.agg #[.int .u64 (L 0 a), .int .u64 (L 1 a), .int .u64 (L 2 a), .int .u64 (L 3 a)], .agg #[.int .u64 (L 0 b), .int .u64 (L 1 b), .int .u64 (L 2 b), .int .u64 (L 3 b)]] w fun e w' =>
      e = .returned (.tuple #[.agg #[.int .u64 (L 0 (a - b)), .int .u64 (L 1 (a - b)), .int .u64 (L 2 (a - b)), .int .u64 (L 3 (a - b))], .bool (D a b 4 == 1)]) ∧ Below w.heap.size w w' := by
  go_enter Tryd.func26, Tryd.ntmps26
  go_wp2
  refine wp_loop_rounds 5 ?_
  rw [rounds_succ]
  go_wp2
  go_region_held3 (fun w' => w'.cell? ⟨w.heap.size, 0, none⟩ = some (.int .u64 (L 0 a)) ∧ w'.cell? ⟨w.heap.size + 1, 0, none⟩ = some (.int .u64 (L 0 b))) (simp [go_sem, World.cell?_alloc_past])
    (simp only [sub64_0 a b])
  go_wp2
  rw [rounds_succ]
  go_wp2
  go_region_held3 (fun w' => w'.cell? ⟨w.heap.size, 1, none⟩ = some (.int .u64 (L 1 a)) ∧ w'.cell? ⟨w.heap.size + 1, 1, none⟩ = some (.int .u64 (L 1 b))) (simp [go_sem, World.cell?_alloc_past])
    (simp only [sub64_1 a b])
  go_wp2
  rw [rounds_succ]
  go_wp2
  go_region_held3 (fun w' => w'.cell? ⟨w.heap.size, 2, none⟩ = some (.int .u64 (L 2 a)) ∧ w'.cell? ⟨w.heap.size + 1, 2, none⟩ = some (.int .u64 (L 2 b))) (simp [go_sem, World.cell?_alloc_past])
    (simp only [sub64_2 a b])
  go_wp2
  rw [rounds_succ]
  go_wp2
  go_region_held3 (fun w' => w'.cell? ⟨w.heap.size, 3, none⟩ = some (.int .u64 (L 3 a)) ∧ w'.cell? ⟨w.heap.size + 1, 3, none⟩ = some (.int .u64 (L 3 b))) (simp [go_sem, World.cell?_alloc_past])
    (simp only [sub64_3 a b])
  go_wp2
  rw [rounds_succ]
  go_wp2
  go_returns
  refine ⟨rfl, ?_⟩
  go_grown

theorem sub_any {a b : Int} (ha : Num a) (hb : Num b) (w : World) :
    Calls Tryd.prog 26 #[.agg #[.int .u64 (L 0 a), .int .u64 (L 1 a), .int .u64 (L 2 a), .int .u64 (L 3 a)], .agg #[.int .u64 (L 0 b), .int .u64 (L 1 b), .int .u64 (L 2 b), .int .u64 (L 3 b)]] w fun e w' =>
      e = .returned (.tuple #[.agg #[.int .u64 (L 0 (a - b)), .int .u64 (L 1 (a - b)), .int .u64 (L 2 (a - b)), .int .u64 (L 3 (a - b))], .bool (under a b)]) ∧ Below w.heap.size w w' := by
  rw [← D_four ha hb]; exact sub_walk a b w

end Go.Proofs.YtffkeabpdmpjbaaDoor
