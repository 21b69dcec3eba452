/- What the document's own double and plus answer, for all numbers of eight words. -/
import Derived.Test.YtelanboegjgcbaaDoorRefAdd
namespace Go.Proofs.YtelanboegjgcbaaDoor
open Go.RowKit
attribute [local go_sem ↓] Go.wp_at_zero Go.wp_at_succ

theorem dbl_0 (x : Int) (k : Nat) (h : cb x x k = false) : IntKind.u64.wrap (2 * L k x) = L k (2 * x) := by
  rw [Int.two_mul, Int.two_mul]; exact ref_add_0 x x k h
theorem dbl_1 (x : Int) (k : Nat) (h : cb x x k = true) : IntKind.u64.wrap (IntKind.u64.wrap (2 * L k x) + 1) = L k (2 * x) := by
  rw [Int.two_mul, Int.two_mul]; exact ref_add_1 x x k h
theorem dbl_o (x : Int) (k : Nat) : decide (9223372036854775808 ≤ L k x) = cb x x (k + 1) := by
  have c1 := C_lo x x k
  have c2 := C_hi x x k
  have f := add_carry x x k
  have a1 := L_lo k x
  have a2 := L_hi k x
  unfold cb
  rw [← f, Bool.eq_iff_iff]
  simp only [decide_eq_true_eq, beq_iff_eq]
  omega

set_option maxHeartbeats 2000000 in
theorem double_any (x : Int) (w : World) :
    Calls Tryd.prog 41 #[.agg #[.int .u64 (L 0 x), .int .u64 (L 1 x), .int .u64 (L 2 x), .int .u64 (L 3 x), .int .u64 (L 4 x), .int .u64 (L 5 x), .int .u64 (L 6 x), .int .u64 (L 7 x)], .bool false] w fun e w' => e = .returned (.agg #[.int .u64 (L 0 (2 * x)), .int .u64 (L 1 (2 * x)), .int .u64 (L 2 (2 * x)), .int .u64 (L 3 (2 * x)), .int .u64 (L 4 (2 * x)), .int .u64 (L 5 (2 * x)), .int .u64 (L 6 (2 * x)), .int .u64 (L 7 (2 * x))]) ∧ Below w.heap.size w w' := by
  go_enter Tryd.func41, Tryd.ntmps41
  go_wp2
  go_loopw [1, 5] (fun s1 s5 w' => (s5 = .int .i64 0 ∧ s1 = .bool false ∧ w' = (w.alloc (.cells #[.int .u64 (L 0 x), .int .u64 (L 1 x), .int .u64 (L 2 x), .int .u64 (L 3 x), .int .u64 (L 4 x), .int .u64 (L 5 x), .int .u64 (L 6 x), .int .u64 (L 7 x)] 31)).alloc (.cells #[.int .u64 0, .int .u64 0, .int .u64 0, .int .u64 0, .int .u64 0, .int .u64 0, .int .u64 0, .int .u64 0] 31)) ∨ (s5 = .int .i64 1 ∧ s1 = .bool (cb x x 1) ∧ w' = (w.alloc (.cells #[.int .u64 (L 0 (2 * x)), .int .u64 (L 1 x), .int .u64 (L 2 x), .int .u64 (L 3 x), .int .u64 (L 4 x), .int .u64 (L 5 x), .int .u64 (L 6 x), .int .u64 (L 7 x)] 31)).alloc (.cells #[.int .u64 0, .int .u64 0, .int .u64 0, .int .u64 0, .int .u64 0, .int .u64 0, .int .u64 0, .int .u64 0] 31)) ∨ (s5 = .int .i64 2 ∧ s1 = .bool (cb x x 2) ∧ w' = (w.alloc (.cells #[.int .u64 (L 0 (2 * x)), .int .u64 (L 1 (2 * x)), .int .u64 (L 2 x), .int .u64 (L 3 x), .int .u64 (L 4 x), .int .u64 (L 5 x), .int .u64 (L 6 x), .int .u64 (L 7 x)] 31)).alloc (.cells #[.int .u64 0, .int .u64 0, .int .u64 0, .int .u64 0, .int .u64 0, .int .u64 0, .int .u64 0, .int .u64 0] 31)) ∨ (s5 = .int .i64 3 ∧ s1 = .bool (cb x x 3) ∧ w' = (w.alloc (.cells #[.int .u64 (L 0 (2 * x)), .int .u64 (L 1 (2 * x)), .int .u64 (L 2 (2 * x)), .int .u64 (L 3 x), .int .u64 (L 4 x), .int .u64 (L 5 x), .int .u64 (L 6 x), .int .u64 (L 7 x)] 31)).alloc (.cells #[.int .u64 0, .int .u64 0, .int .u64 0, .int .u64 0, .int .u64 0, .int .u64 0, .int .u64 0, .int .u64 0] 31)) ∨ (s5 = .int .i64 4 ∧ s1 = .bool (cb x x 4) ∧ w' = (w.alloc (.cells #[.int .u64 (L 0 (2 * x)), .int .u64 (L 1 (2 * x)), .int .u64 (L 2 (2 * x)), .int .u64 (L 3 (2 * x)), .int .u64 (L 4 x), .int .u64 (L 5 x), .int .u64 (L 6 x), .int .u64 (L 7 x)] 31)).alloc (.cells #[.int .u64 0, .int .u64 0, .int .u64 0, .int .u64 0, .int .u64 0, .int .u64 0, .int .u64 0, .int .u64 0] 31)) ∨ (s5 = .int .i64 5 ∧ s1 = .bool (cb x x 5) ∧ w' = (w.alloc (.cells #[.int .u64 (L 0 (2 * x)), .int .u64 (L 1 (2 * x)), .int .u64 (L 2 (2 * x)), .int .u64 (L 3 (2 * x)), .int .u64 (L 4 (2 * x)), .int .u64 (L 5 x), .int .u64 (L 6 x), .int .u64 (L 7 x)] 31)).alloc (.cells #[.int .u64 0, .int .u64 0, .int .u64 0, .int .u64 0, .int .u64 0, .int .u64 0, .int .u64 0, .int .u64 0] 31)) ∨ (s5 = .int .i64 6 ∧ s1 = .bool (cb x x 6) ∧ w' = (w.alloc (.cells #[.int .u64 (L 0 (2 * x)), .int .u64 (L 1 (2 * x)), .int .u64 (L 2 (2 * x)), .int .u64 (L 3 (2 * x)), .int .u64 (L 4 (2 * x)), .int .u64 (L 5 (2 * x)), .int .u64 (L 6 x), .int .u64 (L 7 x)] 31)).alloc (.cells #[.int .u64 0, .int .u64 0, .int .u64 0, .int .u64 0, .int .u64 0, .int .u64 0, .int .u64 0, .int .u64 0] 31)) ∨ (s5 = .int .i64 7 ∧ s1 = .bool (cb x x 7) ∧ w' = (w.alloc (.cells #[.int .u64 (L 0 (2 * x)), .int .u64 (L 1 (2 * x)), .int .u64 (L 2 (2 * x)), .int .u64 (L 3 (2 * x)), .int .u64 (L 4 (2 * x)), .int .u64 (L 5 (2 * x)), .int .u64 (L 6 (2 * x)), .int .u64 (L 7 x)] 31)).alloc (.cells #[.int .u64 0, .int .u64 0, .int .u64 0, .int .u64 0, .int .u64 0, .int .u64 0, .int .u64 0, .int .u64 0] 31)) ∨ (s5 = .int .i64 8 ∧ s1 = .bool (cb x x 8) ∧ w' = (w.alloc (.cells #[.int .u64 (L 0 (2 * x)), .int .u64 (L 1 (2 * x)), .int .u64 (L 2 (2 * x)), .int .u64 (L 3 (2 * x)), .int .u64 (L 4 (2 * x)), .int .u64 (L 5 (2 * x)), .int .u64 (L 6 (2 * x)), .int .u64 (L 7 (2 * x))] 31)).alloc (.cells #[.int .u64 0, .int .u64 0, .int .u64 0, .int .u64 0, .int .u64 0, .int .u64 0, .int .u64 0, .int .u64 0] 31))) (fun _ s5 _ => 8 - (intOf s5).toNat)
  case atStart => exact Or.inl ⟨rfl, rfl, rfl⟩
  case round =>
    rcases hrel with ⟨rfl, rfl, rfl⟩ | ⟨rfl, rfl, rfl⟩ | ⟨rfl, rfl, rfl⟩ | ⟨rfl, rfl, rfl⟩ | ⟨rfl, rfl, rfl⟩ | ⟨rfl, rfl, rfl⟩ | ⟨rfl, rfl, rfl⟩ | ⟨rfl, rfl, rfl⟩ | ⟨rfl, rfl, rfl⟩
    · have q1 := dbl_0 x 0 (cb_zero x x)
      have q2 : decide (9223372036854775808 ≤ L 0 x) = cb x x 1 := dbl_o x 0
      go_wp2
      exact ⟨Or.inr (Or.inl ⟨(by first | rfl | trivial), (by first | rfl | trivial), (by first | rfl | trivial)⟩), by simp [intOf]⟩
    · have q2 : decide (9223372036854775808 ≤ L 1 x) = cb x x 2 := dbl_o x 1
      cases hcb : cb x x 1
      · have q1 := dbl_0 x 1 hcb
        go_wp2
        exact ⟨Or.inr (Or.inr (Or.inl ⟨(by first | rfl | trivial), (by first | rfl | trivial), (by first | rfl | trivial)⟩)), by simp [intOf]⟩
      · have q1 := dbl_1 x 1 hcb
        go_wp2
        exact ⟨Or.inr (Or.inr (Or.inl ⟨(by first | rfl | trivial), (by first | rfl | trivial), (by first | rfl | trivial)⟩)), by simp [intOf]⟩
    · have q2 : decide (9223372036854775808 ≤ L 2 x) = cb x x 3 := dbl_o x 2
      cases hcb : cb x x 2
      · have q1 := dbl_0 x 2 hcb
        go_wp2
        exact ⟨Or.inr (Or.inr (Or.inr (Or.inl ⟨(by first | rfl | trivial), (by first | rfl | trivial), (by first | rfl | trivial)⟩))), by simp [intOf]⟩
      · have q1 := dbl_1 x 2 hcb
        go_wp2
        exact ⟨Or.inr (Or.inr (Or.inr (Or.inl ⟨(by first | rfl | trivial), (by first | rfl | trivial), (by first | rfl | trivial)⟩))), by simp [intOf]⟩
    · have q2 : decide (9223372036854775808 ≤ L 3 x) = cb x x 4 := dbl_o x 3
      cases hcb : cb x x 3
      · have q1 := dbl_0 x 3 hcb
        go_wp2
        exact ⟨Or.inr (Or.inr (Or.inr (Or.inr (Or.inl ⟨(by first | rfl | trivial), (by first | rfl | trivial), (by first | rfl | trivial)⟩)))), by simp [intOf]⟩
      · have q1 := dbl_1 x 3 hcb
        go_wp2
        exact ⟨Or.inr (Or.inr (Or.inr (Or.inr (Or.inl ⟨(by first | rfl | trivial), (by first | rfl | trivial), (by first | rfl | trivial)⟩)))), by simp [intOf]⟩
    · have q2 : decide (9223372036854775808 ≤ L 4 x) = cb x x 5 := dbl_o x 4
      cases hcb : cb x x 4
      · have q1 := dbl_0 x 4 hcb
        go_wp2
        exact ⟨Or.inr (Or.inr (Or.inr (Or.inr (Or.inr (Or.inl ⟨(by first | rfl | trivial), (by first | rfl | trivial), (by first | rfl | trivial)⟩))))), by simp [intOf]⟩
      · have q1 := dbl_1 x 4 hcb
        go_wp2
        exact ⟨Or.inr (Or.inr (Or.inr (Or.inr (Or.inr (Or.inl ⟨(by first | rfl | trivial), (by first | rfl | trivial), (by first | rfl | trivial)⟩))))), by simp [intOf]⟩
    · have q2 : decide (9223372036854775808 ≤ L 5 x) = cb x x 6 := dbl_o x 5
      cases hcb : cb x x 5
      · have q1 := dbl_0 x 5 hcb
        go_wp2
        exact ⟨Or.inr (Or.inr (Or.inr (Or.inr (Or.inr (Or.inr (Or.inl ⟨(by first | rfl | trivial), (by first | rfl | trivial), (by first | rfl | trivial)⟩)))))), by simp [intOf]⟩
      · have q1 := dbl_1 x 5 hcb
        go_wp2
        exact ⟨Or.inr (Or.inr (Or.inr (Or.inr (Or.inr (Or.inr (Or.inl ⟨(by first | rfl | trivial), (by first | rfl | trivial), (by first | rfl | trivial)⟩)))))), by simp [intOf]⟩
    · have q2 : decide (9223372036854775808 ≤ L 6 x) = cb x x 7 := dbl_o x 6
      cases hcb : cb x x 6
      · have q1 := dbl_0 x 6 hcb
        go_wp2
        exact ⟨Or.inr (Or.inr (Or.inr (Or.inr (Or.inr (Or.inr (Or.inr (Or.inl ⟨(by first | rfl | trivial), (by first | rfl | trivial), (by first | rfl | trivial)⟩))))))), by simp [intOf]⟩
      · have q1 := dbl_1 x 6 hcb
        go_wp2
        exact ⟨Or.inr (Or.inr (Or.inr (Or.inr (Or.inr (Or.inr (Or.inr (Or.inl ⟨(by first | rfl | trivial), (by first | rfl | trivial), (by first | rfl | trivial)⟩))))))), by simp [intOf]⟩
    · have q2 : decide (9223372036854775808 ≤ L 7 x) = cb x x 8 := dbl_o x 7
      cases hcb : cb x x 7
      · have q1 := dbl_0 x 7 hcb
        go_wp2
        exact ⟨Or.inr (Or.inr (Or.inr (Or.inr (Or.inr (Or.inr (Or.inr (Or.inr (⟨(by first | rfl | trivial), (by first | rfl | trivial), (by first | rfl | trivial)⟩)))))))), by simp [intOf]⟩
      · have q1 := dbl_1 x 7 hcb
        go_wp2
        exact ⟨Or.inr (Or.inr (Or.inr (Or.inr (Or.inr (Or.inr (Or.inr (Or.inr (⟨(by first | rfl | trivial), (by first | rfl | trivial), (by first | rfl | trivial)⟩)))))))), by simp [intOf]⟩
    · go_wp2
      go_returns
      refine ⟨rfl, ?_⟩
      repeat' (first | (with_reducible exact Below.refl _ _) | (with_reducible refine K.drewN ?_ _) | (with_reducible refine K.drew ?_) | (with_reducible refine K.alloc ?_ _) | (with_reducible refine K.set ?_ ?_ _) | (simp; done) | (simp; omega))

theorem high_zero {a : Int} (h : Num a) (k : Nat) (hk : 4 ≤ k) : L k a = 0 := by
  obtain ⟨h1, h2⟩ := h
  rw [M_eq] at h2
  obtain ⟨d, rfl⟩ : ∃ d, k = 4 + d := ⟨k - 4, by omega⟩
  unfold L
  rw [Int.pow_add, ← Int.ediv_ediv_of_nonneg (Int.le_of_lt (Bk_pos 4)), Int.ediv_eq_zero_of_lt h1 h2, Int.zero_ediv]
  rfl
theorem plus_0 (a x : Int) (k : Nat) (h : cb a x k = false) : IntKind.u64.wrap (L k x + L k a) = L k (a + x) := by
  rw [Int.add_comm]; exact ref_add_0 a x k h
theorem plus_1 (a x : Int) (k : Nat) (h : cb a x k = true) : IntKind.u64.wrap (IntKind.u64.wrap (L k x + L k a) + 1) = L k (a + x) := by
  rw [Int.add_comm (L k x)]; exact ref_add_1 a x k h
theorem plus_o1 (a x : Int) (k : Nat) (h : cb a x k = true) : (decide (IntKind.u64.wrap (L k x + L k a) < L k a) || (L k (a + x) == 0)) = cb a x (k + 1) := by
  rw [Int.add_comm (L k x)]; exact ref_add_o1 a x k h
theorem plus_h0 {a : Int} (ha : Num a) (x : Int) (k : Nat) (hk : 4 ≤ k) (h : cb a x k = false) : IntKind.u64.wrap (L k x) = L k (a + x) := by
  have e := plus_0 a x k h
  rwa [high_zero ha k hk, Int.add_zero] at e
theorem plus_h1 {a : Int} (ha : Num a) (x : Int) (k : Nat) (hk : 4 ≤ k) (h : cb a x k = true) : IntKind.u64.wrap (IntKind.u64.wrap (L k x) + 1) = L k (a + x) := by
  have e := plus_1 a x k h
  rwa [high_zero ha k hk, Int.add_zero] at e
theorem plus_ho0 {a : Int} (ha : Num a) (x : Int) (k : Nat) (hk : 4 ≤ k) (h : cb a x k = false) : decide (L k (a + x) < 0) = cb a x (k + 1) := by
  have e := ref_add_o0 a x k h
  rwa [high_zero ha k hk] at e
theorem plus_ho1 {a : Int} (ha : Num a) (x : Int) (k : Nat) (hk : 4 ≤ k) (h : cb a x k = true) : (decide (IntKind.u64.wrap (L k x) < 0) || (L k (a + x) == 0)) = cb a x (k + 1) := by
  have e := plus_o1 a x k h
  rwa [high_zero ha k hk, Int.add_zero] at e
theorem wrap_not_neg (x : Int) : decide (IntKind.u64.wrap x < 0) = false := by rw [IntKind.wrap_u64]; simp; omega

set_option maxHeartbeats 4000000 in
theorem plus_any {a : Int} (ha : Num a) (x : Int) (w : World) :
    Calls Tryd.prog 42 #[.agg #[.int .u64 (L 0 x), .int .u64 (L 1 x), .int .u64 (L 2 x), .int .u64 (L 3 x), .int .u64 (L 4 x), .int .u64 (L 5 x), .int .u64 (L 6 x), .int .u64 (L 7 x)], .agg #[.int .u64 (L 0 a), .int .u64 (L 1 a), .int .u64 (L 2 a), .int .u64 (L 3 a)]] w fun e w' => e = .returned (.agg #[.int .u64 (L 0 (a + x)), .int .u64 (L 1 (a + x)), .int .u64 (L 2 (a + x)), .int .u64 (L 3 (a + x)), .int .u64 (L 4 (a + x)), .int .u64 (L 5 (a + x)), .int .u64 (L 6 (a + x)), .int .u64 (L 7 (a + x))]) ∧ Below w.heap.size w w' := by
  go_enter Tryd.func42, Tryd.ntmps42
  go_wp2
  go_loopw [5, 6] (fun s5 s6 w' => (s6 = .int .i64 0 ∧ s5 = .bool false ∧ w' = ((w.alloc (.cells #[.int .u64 (L 0 x), .int .u64 (L 1 x), .int .u64 (L 2 x), .int .u64 (L 3 x), .int .u64 (L 4 x), .int .u64 (L 5 x), .int .u64 (L 6 x), .int .u64 (L 7 x)] 31)).alloc (.cells #[.int .u64 (L 0 a), .int .u64 (L 1 a), .int .u64 (L 2 a), .int .u64 (L 3 a)] 24)).alloc (.cells #[.int .u64 0, .int .u64 0, .int .u64 0, .int .u64 0, .int .u64 0, .int .u64 0, .int .u64 0, .int .u64 0] 31)) ∨ (s6 = .int .i64 1 ∧ s5 = .bool (cb a x 1) ∧ w' = ((w.alloc (.cells #[.int .u64 (L 0 (a + x)), .int .u64 (L 1 x), .int .u64 (L 2 x), .int .u64 (L 3 x), .int .u64 (L 4 x), .int .u64 (L 5 x), .int .u64 (L 6 x), .int .u64 (L 7 x)] 31)).alloc (.cells #[.int .u64 (L 0 a), .int .u64 (L 1 a), .int .u64 (L 2 a), .int .u64 (L 3 a)] 24)).alloc (.cells #[.int .u64 0, .int .u64 0, .int .u64 0, .int .u64 0, .int .u64 0, .int .u64 0, .int .u64 0, .int .u64 0] 31)) ∨ (s6 = .int .i64 2 ∧ s5 = .bool (cb a x 2) ∧ w' = ((w.alloc (.cells #[.int .u64 (L 0 (a + x)), .int .u64 (L 1 (a + x)), .int .u64 (L 2 x), .int .u64 (L 3 x), .int .u64 (L 4 x), .int .u64 (L 5 x), .int .u64 (L 6 x), .int .u64 (L 7 x)] 31)).alloc (.cells #[.int .u64 (L 0 a), .int .u64 (L 1 a), .int .u64 (L 2 a), .int .u64 (L 3 a)] 24)).alloc (.cells #[.int .u64 0, .int .u64 0, .int .u64 0, .int .u64 0, .int .u64 0, .int .u64 0, .int .u64 0, .int .u64 0] 31)) ∨ (s6 = .int .i64 3 ∧ s5 = .bool (cb a x 3) ∧ w' = ((w.alloc (.cells #[.int .u64 (L 0 (a + x)), .int .u64 (L 1 (a + x)), .int .u64 (L 2 (a + x)), .int .u64 (L 3 x), .int .u64 (L 4 x), .int .u64 (L 5 x), .int .u64 (L 6 x), .int .u64 (L 7 x)] 31)).alloc (.cells #[.int .u64 (L 0 a), .int .u64 (L 1 a), .int .u64 (L 2 a), .int .u64 (L 3 a)] 24)).alloc (.cells #[.int .u64 0, .int .u64 0, .int .u64 0, .int .u64 0, .int .u64 0, .int .u64 0, .int .u64 0, .int .u64 0] 31)) ∨ (s6 = .int .i64 4 ∧ s5 = .bool (cb a x 4) ∧ w' = ((w.alloc (.cells #[.int .u64 (L 0 (a + x)), .int .u64 (L 1 (a + x)), .int .u64 (L 2 (a + x)), .int .u64 (L 3 (a + x)), .int .u64 (L 4 x), .int .u64 (L 5 x), .int .u64 (L 6 x), .int .u64 (L 7 x)] 31)).alloc (.cells #[.int .u64 (L 0 a), .int .u64 (L 1 a), .int .u64 (L 2 a), .int .u64 (L 3 a)] 24)).alloc (.cells #[.int .u64 0, .int .u64 0, .int .u64 0, .int .u64 0, .int .u64 0, .int .u64 0, .int .u64 0, .int .u64 0] 31)) ∨ (s6 = .int .i64 5 ∧ s5 = .bool (cb a x 5) ∧ w' = ((w.alloc (.cells #[.int .u64 (L 0 (a + x)), .int .u64 (L 1 (a + x)), .int .u64 (L 2 (a + x)), .int .u64 (L 3 (a + x)), .int .u64 (L 4 (a + x)), .int .u64 (L 5 x), .int .u64 (L 6 x), .int .u64 (L 7 x)] 31)).alloc (.cells #[.int .u64 (L 0 a), .int .u64 (L 1 a), .int .u64 (L 2 a), .int .u64 (L 3 a)] 24)).alloc (.cells #[.int .u64 0, .int .u64 0, .int .u64 0, .int .u64 0, .int .u64 0, .int .u64 0, .int .u64 0, .int .u64 0] 31)) ∨ (s6 = .int .i64 6 ∧ s5 = .bool (cb a x 6) ∧ w' = ((w.alloc (.cells #[.int .u64 (L 0 (a + x)), .int .u64 (L 1 (a + x)), .int .u64 (L 2 (a + x)), .int .u64 (L 3 (a + x)), .int .u64 (L 4 (a + x)), .int .u64 (L 5 (a + x)), .int .u64 (L 6 x), .int .u64 (L 7 x)] 31)).alloc (.cells #[.int .u64 (L 0 a), .int .u64 (L 1 a), .int .u64 (L 2 a), .int .u64 (L 3 a)] 24)).alloc (.cells #[.int .u64 0, .int .u64 0, .int .u64 0, .int .u64 0, .int .u64 0, .int .u64 0, .int .u64 0, .int .u64 0] 31)) ∨ (s6 = .int .i64 7 ∧ s5 = .bool (cb a x 7) ∧ w' = ((w.alloc (.cells #[.int .u64 (L 0 (a + x)), .int .u64 (L 1 (a + x)), .int .u64 (L 2 (a + x)), .int .u64 (L 3 (a + x)), .int .u64 (L 4 (a + x)), .int .u64 (L 5 (a + x)), .int .u64 (L 6 (a + x)), .int .u64 (L 7 x)] 31)).alloc (.cells #[.int .u64 (L 0 a), .int .u64 (L 1 a), .int .u64 (L 2 a), .int .u64 (L 3 a)] 24)).alloc (.cells #[.int .u64 0, .int .u64 0, .int .u64 0, .int .u64 0, .int .u64 0, .int .u64 0, .int .u64 0, .int .u64 0] 31)) ∨ (s6 = .int .i64 8 ∧ s5 = .bool (cb a x 8) ∧ w' = ((w.alloc (.cells #[.int .u64 (L 0 (a + x)), .int .u64 (L 1 (a + x)), .int .u64 (L 2 (a + x)), .int .u64 (L 3 (a + x)), .int .u64 (L 4 (a + x)), .int .u64 (L 5 (a + x)), .int .u64 (L 6 (a + x)), .int .u64 (L 7 (a + x))] 31)).alloc (.cells #[.int .u64 (L 0 a), .int .u64 (L 1 a), .int .u64 (L 2 a), .int .u64 (L 3 a)] 24)).alloc (.cells #[.int .u64 0, .int .u64 0, .int .u64 0, .int .u64 0, .int .u64 0, .int .u64 0, .int .u64 0, .int .u64 0] 31))) (fun _ s6 _ => 8 - (intOf s6).toNat)
  case atStart => exact Or.inl ⟨rfl, rfl, rfl⟩
  case round =>
    rcases hrel with ⟨rfl, rfl, rfl⟩ | ⟨rfl, rfl, rfl⟩ | ⟨rfl, rfl, rfl⟩ | ⟨rfl, rfl, rfl⟩ | ⟨rfl, rfl, rfl⟩ | ⟨rfl, rfl, rfl⟩ | ⟨rfl, rfl, rfl⟩ | ⟨rfl, rfl, rfl⟩ | ⟨rfl, rfl, rfl⟩
    · have q1 := plus_0 a x 0 (cb_zero a x)
      have q2 : decide (L 0 (a + x) < L 0 a) = cb a x 1 := ref_add_o0 a x 0 (cb_zero a x)
      go_wp2
      exact ⟨Or.inr (Or.inl ⟨(by first | rfl | trivial), (by first | rfl | trivial | exact congrArg Value.bool q3.symm), (by first | rfl | trivial)⟩), by simp [intOf]⟩
    · cases hcb : cb a x 1
      · have q1 := plus_0 a x 1 hcb
        have q2 : decide (L 1 (a + x) < L 1 a) = cb a x 2 := ref_add_o0 a x 1 hcb
        go_wp2
        exact ⟨Or.inr (Or.inr (Or.inl ⟨(by first | rfl | trivial), (by first | rfl | trivial | exact congrArg Value.bool q3.symm), (by first | rfl | trivial)⟩)), by simp [intOf]⟩
      · have q1 := plus_1 a x 1 hcb
        have q2 := plus_o1 a x 1 hcb
        by_cases o : IntKind.u64.wrap (L 1 x + L 1 a) < L 1 a
        · have q3 : cb a x 2 = true := by rw [← q2]; simp [o]
          clear q2
          go_wp2
          exact ⟨Or.inr (Or.inr (Or.inl ⟨(by first | rfl | trivial), (by first | rfl | trivial | exact congrArg Value.bool q3.symm), (by first | rfl | trivial)⟩)), by simp [intOf]⟩
        · have o2 : decide (IntKind.u64.wrap (L 1 x + L 1 a) < L 1 a) = false := by simpa using o
          have q3 : (L 1 (a + x) == 0) = cb a x 2 := by rw [o2, Bool.false_or] at q2; exact q2
          clear q2
          go_wp2
          exact ⟨Or.inr (Or.inr (Or.inl ⟨(by first | rfl | trivial), (by first | rfl | trivial | exact congrArg Value.bool q3.symm), (by first | rfl | trivial)⟩)), by simp [intOf]⟩
    · cases hcb : cb a x 2
      · have q1 := plus_0 a x 2 hcb
        have q2 : decide (L 2 (a + x) < L 2 a) = cb a x 3 := ref_add_o0 a x 2 hcb
        go_wp2
        exact ⟨Or.inr (Or.inr (Or.inr (Or.inl ⟨(by first | rfl | trivial), (by first | rfl | trivial | exact congrArg Value.bool q3.symm), (by first | rfl | trivial)⟩))), by simp [intOf]⟩
      · have q1 := plus_1 a x 2 hcb
        have q2 := plus_o1 a x 2 hcb
        by_cases o : IntKind.u64.wrap (L 2 x + L 2 a) < L 2 a
        · have q3 : cb a x 3 = true := by rw [← q2]; simp [o]
          clear q2
          go_wp2
          exact ⟨Or.inr (Or.inr (Or.inr (Or.inl ⟨(by first | rfl | trivial), (by first | rfl | trivial | exact congrArg Value.bool q3.symm), (by first | rfl | trivial)⟩))), by simp [intOf]⟩
        · have o2 : decide (IntKind.u64.wrap (L 2 x + L 2 a) < L 2 a) = false := by simpa using o
          have q3 : (L 2 (a + x) == 0) = cb a x 3 := by rw [o2, Bool.false_or] at q2; exact q2
          clear q2
          go_wp2
          exact ⟨Or.inr (Or.inr (Or.inr (Or.inl ⟨(by first | rfl | trivial), (by first | rfl | trivial | exact congrArg Value.bool q3.symm), (by first | rfl | trivial)⟩))), by simp [intOf]⟩
    · cases hcb : cb a x 3
      · have q1 := plus_0 a x 3 hcb
        have q2 : decide (L 3 (a + x) < L 3 a) = cb a x 4 := ref_add_o0 a x 3 hcb
        go_wp2
        exact ⟨Or.inr (Or.inr (Or.inr (Or.inr (Or.inl ⟨(by first | rfl | trivial), (by first | rfl | trivial | exact congrArg Value.bool q3.symm), (by first | rfl | trivial)⟩)))), by simp [intOf]⟩
      · have q1 := plus_1 a x 3 hcb
        have q2 := plus_o1 a x 3 hcb
        by_cases o : IntKind.u64.wrap (L 3 x + L 3 a) < L 3 a
        · have q3 : cb a x 4 = true := by rw [← q2]; simp [o]
          clear q2
          go_wp2
          exact ⟨Or.inr (Or.inr (Or.inr (Or.inr (Or.inl ⟨(by first | rfl | trivial), (by first | rfl | trivial | exact congrArg Value.bool q3.symm), (by first | rfl | trivial)⟩)))), by simp [intOf]⟩
        · have o2 : decide (IntKind.u64.wrap (L 3 x + L 3 a) < L 3 a) = false := by simpa using o
          have q3 : (L 3 (a + x) == 0) = cb a x 4 := by rw [o2, Bool.false_or] at q2; exact q2
          clear q2
          go_wp2
          exact ⟨Or.inr (Or.inr (Or.inr (Or.inr (Or.inl ⟨(by first | rfl | trivial), (by first | rfl | trivial | exact congrArg Value.bool q3.symm), (by first | rfl | trivial)⟩)))), by simp [intOf]⟩
    · cases hcb : cb a x 4
      · have q1 := plus_h0 ha x 4 (by omega) hcb
        have q2 : decide (L 4 (a + x) < 0) = cb a x 5 := plus_ho0 ha x 4 (by omega) hcb
        go_wp2
        exact ⟨Or.inr (Or.inr (Or.inr (Or.inr (Or.inr (Or.inl ⟨(by first | rfl | trivial), (by first | rfl | trivial | exact congrArg Value.bool q3.symm), (by first | rfl | trivial)⟩))))), by simp [intOf]⟩
      · have q1 := plus_h1 ha x 4 (by omega) hcb
        have q2 := plus_ho1 ha x 4 (by omega) hcb
        have o2 := wrap_not_neg (L 4 x)
        have q3 : (L 4 (a + x) == 0) = cb a x 5 := by rw [o2, Bool.false_or] at q2; exact q2
        clear q2
        go_wp2
        exact ⟨Or.inr (Or.inr (Or.inr (Or.inr (Or.inr (Or.inl ⟨(by first | rfl | trivial), (by first | rfl | trivial | exact congrArg Value.bool q3.symm), (by first | rfl | trivial)⟩))))), by simp [intOf]⟩
    · cases hcb : cb a x 5
      · have q1 := plus_h0 ha x 5 (by omega) hcb
        have q2 : decide (L 5 (a + x) < 0) = cb a x 6 := plus_ho0 ha x 5 (by omega) hcb
        go_wp2
        exact ⟨Or.inr (Or.inr (Or.inr (Or.inr (Or.inr (Or.inr (Or.inl ⟨(by first | rfl | trivial), (by first | rfl | trivial | exact congrArg Value.bool q3.symm), (by first | rfl | trivial)⟩)))))), by simp [intOf]⟩
      · have q1 := plus_h1 ha x 5 (by omega) hcb
        have q2 := plus_ho1 ha x 5 (by omega) hcb
        have o2 := wrap_not_neg (L 5 x)
        have q3 : (L 5 (a + x) == 0) = cb a x 6 := by rw [o2, Bool.false_or] at q2; exact q2
        clear q2
        go_wp2
        exact ⟨Or.inr (Or.inr (Or.inr (Or.inr (Or.inr (Or.inr (Or.inl ⟨(by first | rfl | trivial), (by first | rfl | trivial | exact congrArg Value.bool q3.symm), (by first | rfl | trivial)⟩)))))), by simp [intOf]⟩
    · cases hcb : cb a x 6
      · have q1 := plus_h0 ha x 6 (by omega) hcb
        have q2 : decide (L 6 (a + x) < 0) = cb a x 7 := plus_ho0 ha x 6 (by omega) hcb
        go_wp2
        exact ⟨Or.inr (Or.inr (Or.inr (Or.inr (Or.inr (Or.inr (Or.inr (Or.inl ⟨(by first | rfl | trivial), (by first | rfl | trivial | exact congrArg Value.bool q3.symm), (by first | rfl | trivial)⟩))))))), by simp [intOf]⟩
      · have q1 := plus_h1 ha x 6 (by omega) hcb
        have q2 := plus_ho1 ha x 6 (by omega) hcb
        have o2 := wrap_not_neg (L 6 x)
        have q3 : (L 6 (a + x) == 0) = cb a x 7 := by rw [o2, Bool.false_or] at q2; exact q2
        clear q2
        go_wp2
        exact ⟨Or.inr (Or.inr (Or.inr (Or.inr (Or.inr (Or.inr (Or.inr (Or.inl ⟨(by first | rfl | trivial), (by first | rfl | trivial | exact congrArg Value.bool q3.symm), (by first | rfl | trivial)⟩))))))), by simp [intOf]⟩
    · cases hcb : cb a x 7
      · have q1 := plus_h0 ha x 7 (by omega) hcb
        have q2 : decide (L 7 (a + x) < 0) = cb a x 8 := plus_ho0 ha x 7 (by omega) hcb
        go_wp2
        exact ⟨Or.inr (Or.inr (Or.inr (Or.inr (Or.inr (Or.inr (Or.inr (Or.inr (⟨(by first | rfl | trivial), (by first | rfl | trivial | exact congrArg Value.bool q3.symm), (by first | rfl | trivial)⟩)))))))), by simp [intOf]⟩
      · have q1 := plus_h1 ha x 7 (by omega) hcb
        have q2 := plus_ho1 ha x 7 (by omega) hcb
        have o2 := wrap_not_neg (L 7 x)
        have q3 : (L 7 (a + x) == 0) = cb a x 8 := by rw [o2, Bool.false_or] at q2; exact q2
        clear q2
        go_wp2
        exact ⟨Or.inr (Or.inr (Or.inr (Or.inr (Or.inr (Or.inr (Or.inr (Or.inr (⟨(by first | rfl | trivial), (by first | rfl | trivial | exact congrArg Value.bool q3.symm), (by first | rfl | trivial)⟩)))))))), by simp [intOf]⟩
    · go_wp2
      go_returns
      refine ⟨rfl, ?_⟩
      repeat' (first | (with_reducible exact Below.refl _ _) | (with_reducible refine K.drewN ?_ _) | (with_reducible refine K.drew ?_) | (with_reducible refine K.alloc ?_ _) | (with_reducible refine K.set ?_ ?_ _) | (simp; done) | (simp; omega))
end Go.Proofs.YtelanboegjgcbaaDoor
