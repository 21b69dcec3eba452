/- What the statement's own sum answers, for all numbers of eight words: the sum, modulo 2^512. -/
import Derived.Test.YtehlkgpoekpllaaRefAdd
namespace Go.Proofs.Ytehlkgpoekpllaa
open Go.RowKit
attribute [local go_sem ↓] Go.wp_at_zero Go.wp_at_succ

theorem sum_word (x y : Int) (k : Nat) : IntKind.u64.wrap (IntKind.u64.wrap (L k x + L k y) + C x y k) = L k (x + y) := by
  rw [IntKind.wrap_u64, IntKind.wrap_u64, ← add_word]
  omega
theorem sum_c1 (x y : Int) (k : Nat) (h : IntKind.u64.wrap (L k x + L k y) < L k x) : C x y (k + 1) = 1 := by
  have c1 := C_lo x y k
  have c2 := C_hi x y k
  have a1 := L_lo k x
  have a2 := L_hi k x
  have b1 := L_lo k y
  have b2 := L_hi k y
  rw [IntKind.wrap_u64] at h
  rw [← add_carry]
  omega
theorem sum_c2 (x y : Int) (k : Nat) (h : L k (x + y) < C x y k) : C x y (k + 1) = 1 := by
  have c1 := C_lo x y k
  have c2 := C_hi x y k
  have a1 := L_lo k x
  have a2 := L_hi k x
  have b1 := L_lo k y
  have b2 := L_hi k y
  rw [← add_word] at h
  rw [← add_carry]
  omega
theorem sum_c3 (x y : Int) (k : Nat) (h : ¬ IntKind.u64.wrap (L k x + L k y) < L k x) (h2 : ¬ L k (x + y) < C x y k) : C x y (k + 1) = 0 := by
  have c1 := C_lo x y k
  have c2 := C_hi x y k
  have a1 := L_lo k x
  have a2 := L_hi k x
  have b1 := L_lo k y
  have b2 := L_hi k y
  rw [IntKind.wrap_u64] at h
  rw [← add_word] at h2
  rw [← add_carry]
  omega

set_option maxHeartbeats 4000000 in
theorem sum_any (x y : Int) (w : World) :
    Calls Try.prog 24 #[.agg #[.int .u64 (L 0 x), .int .u64 (L 1 x), .int .u64 (L 2 x), .int .u64 (L 3 x), .int .u64 (L 4 x), .int .u64 (L 5 x), .int .u64 (L 6 x), .int .u64 (L 7 x)], .agg #[.int .u64 (L 0 y), .int .u64 (L 1 y), .int .u64 (L 2 y), .int .u64 (L 3 y), .int .u64 (L 4 y), .int .u64 (L 5 y), .int .u64 (L 6 y), .int .u64 (L 7 y)]] w fun e w' => e = .returned (.agg #[.int .u64 (L 0 (x + y)), .int .u64 (L 1 (x + y)), .int .u64 (L 2 (x + y)), .int .u64 (L 3 (x + y)), .int .u64 (L 4 (x + y)), .int .u64 (L 5 (x + y)), .int .u64 (L 6 (x + y)), .int .u64 (L 7 (x + y))]) ∧ Below w.heap.size w w' := by
  go_enter Try.func24, Try.ntmps24
  go_wp2
  go_loopw [5, 7] (fun s5 s7 w' => (s7 = .int .i64 0 ∧ s5 = .int .u64 0 ∧ ∃ n, w' = ((((w.alloc (.cells #[.int .u64 (L 0 x), .int .u64 (L 1 x), .int .u64 (L 2 x), .int .u64 (L 3 x), .int .u64 (L 4 x), .int .u64 (L 5 x), .int .u64 (L 6 x), .int .u64 (L 7 x)] 34)).alloc (.cells #[.int .u64 (L 0 y), .int .u64 (L 1 y), .int .u64 (L 2 y), .int .u64 (L 3 y), .int .u64 (L 4 y), .int .u64 (L 5 y), .int .u64 (L 6 y), .int .u64 (L 7 y)] 34)).alloc (.cells #[.int .u64 0, .int .u64 0, .int .u64 0, .int .u64 0, .int .u64 0, .int .u64 0, .int .u64 0, .int .u64 0] 34)).alloc (.cells #[.int .u64 0, .int .u64 0, .int .u64 0, .int .u64 0, .int .u64 0, .int .u64 0, .int .u64 0, .int .u64 0] 34)).drewN n) ∨ (s7 = .int .i64 1 ∧ s5 = .int .u64 (C x y 1) ∧ ∃ n, w' = ((((w.alloc (.cells #[.int .u64 (L 0 x), .int .u64 (L 1 x), .int .u64 (L 2 x), .int .u64 (L 3 x), .int .u64 (L 4 x), .int .u64 (L 5 x), .int .u64 (L 6 x), .int .u64 (L 7 x)] 34)).alloc (.cells #[.int .u64 (L 0 y), .int .u64 (L 1 y), .int .u64 (L 2 y), .int .u64 (L 3 y), .int .u64 (L 4 y), .int .u64 (L 5 y), .int .u64 (L 6 y), .int .u64 (L 7 y)] 34)).alloc (.cells #[.int .u64 0, .int .u64 0, .int .u64 0, .int .u64 0, .int .u64 0, .int .u64 0, .int .u64 0, .int .u64 0] 34)).alloc (.cells #[.int .u64 (L 0 (x + y)), .int .u64 0, .int .u64 0, .int .u64 0, .int .u64 0, .int .u64 0, .int .u64 0, .int .u64 0] 34)).drewN n) ∨ (s7 = .int .i64 2 ∧ s5 = .int .u64 (C x y 2) ∧ ∃ n, w' = ((((w.alloc (.cells #[.int .u64 (L 0 x), .int .u64 (L 1 x), .int .u64 (L 2 x), .int .u64 (L 3 x), .int .u64 (L 4 x), .int .u64 (L 5 x), .int .u64 (L 6 x), .int .u64 (L 7 x)] 34)).alloc (.cells #[.int .u64 (L 0 y), .int .u64 (L 1 y), .int .u64 (L 2 y), .int .u64 (L 3 y), .int .u64 (L 4 y), .int .u64 (L 5 y), .int .u64 (L 6 y), .int .u64 (L 7 y)] 34)).alloc (.cells #[.int .u64 0, .int .u64 0, .int .u64 0, .int .u64 0, .int .u64 0, .int .u64 0, .int .u64 0, .int .u64 0] 34)).alloc (.cells #[.int .u64 (L 0 (x + y)), .int .u64 (L 1 (x + y)), .int .u64 0, .int .u64 0, .int .u64 0, .int .u64 0, .int .u64 0, .int .u64 0] 34)).drewN n) ∨ (s7 = .int .i64 3 ∧ s5 = .int .u64 (C x y 3) ∧ ∃ n, w' = ((((w.alloc (.cells #[.int .u64 (L 0 x), .int .u64 (L 1 x), .int .u64 (L 2 x), .int .u64 (L 3 x), .int .u64 (L 4 x), .int .u64 (L 5 x), .int .u64 (L 6 x), .int .u64 (L 7 x)] 34)).alloc (.cells #[.int .u64 (L 0 y), .int .u64 (L 1 y), .int .u64 (L 2 y), .int .u64 (L 3 y), .int .u64 (L 4 y), .int .u64 (L 5 y), .int .u64 (L 6 y), .int .u64 (L 7 y)] 34)).alloc (.cells #[.int .u64 0, .int .u64 0, .int .u64 0, .int .u64 0, .int .u64 0, .int .u64 0, .int .u64 0, .int .u64 0] 34)).alloc (.cells #[.int .u64 (L 0 (x + y)), .int .u64 (L 1 (x + y)), .int .u64 (L 2 (x + y)), .int .u64 0, .int .u64 0, .int .u64 0, .int .u64 0, .int .u64 0] 34)).drewN n) ∨ (s7 = .int .i64 4 ∧ s5 = .int .u64 (C x y 4) ∧ ∃ n, w' = ((((w.alloc (.cells #[.int .u64 (L 0 x), .int .u64 (L 1 x), .int .u64 (L 2 x), .int .u64 (L 3 x), .int .u64 (L 4 x), .int .u64 (L 5 x), .int .u64 (L 6 x), .int .u64 (L 7 x)] 34)).alloc (.cells #[.int .u64 (L 0 y), .int .u64 (L 1 y), .int .u64 (L 2 y), .int .u64 (L 3 y), .int .u64 (L 4 y), .int .u64 (L 5 y), .int .u64 (L 6 y), .int .u64 (L 7 y)] 34)).alloc (.cells #[.int .u64 0, .int .u64 0, .int .u64 0, .int .u64 0, .int .u64 0, .int .u64 0, .int .u64 0, .int .u64 0] 34)).alloc (.cells #[.int .u64 (L 0 (x + y)), .int .u64 (L 1 (x + y)), .int .u64 (L 2 (x + y)), .int .u64 (L 3 (x + y)), .int .u64 0, .int .u64 0, .int .u64 0, .int .u64 0] 34)).drewN n) ∨ (s7 = .int .i64 5 ∧ s5 = .int .u64 (C x y 5) ∧ ∃ n, w' = ((((w.alloc (.cells #[.int .u64 (L 0 x), .int .u64 (L 1 x), .int .u64 (L 2 x), .int .u64 (L 3 x), .int .u64 (L 4 x), .int .u64 (L 5 x), .int .u64 (L 6 x), .int .u64 (L 7 x)] 34)).alloc (.cells #[.int .u64 (L 0 y), .int .u64 (L 1 y), .int .u64 (L 2 y), .int .u64 (L 3 y), .int .u64 (L 4 y), .int .u64 (L 5 y), .int .u64 (L 6 y), .int .u64 (L 7 y)] 34)).alloc (.cells #[.int .u64 0, .int .u64 0, .int .u64 0, .int .u64 0, .int .u64 0, .int .u64 0, .int .u64 0, .int .u64 0] 34)).alloc (.cells #[.int .u64 (L 0 (x + y)), .int .u64 (L 1 (x + y)), .int .u64 (L 2 (x + y)), .int .u64 (L 3 (x + y)), .int .u64 (L 4 (x + y)), .int .u64 0, .int .u64 0, .int .u64 0] 34)).drewN n) ∨ (s7 = .int .i64 6 ∧ s5 = .int .u64 (C x y 6) ∧ ∃ n, w' = ((((w.alloc (.cells #[.int .u64 (L 0 x), .int .u64 (L 1 x), .int .u64 (L 2 x), .int .u64 (L 3 x), .int .u64 (L 4 x), .int .u64 (L 5 x), .int .u64 (L 6 x), .int .u64 (L 7 x)] 34)).alloc (.cells #[.int .u64 (L 0 y), .int .u64 (L 1 y), .int .u64 (L 2 y), .int .u64 (L 3 y), .int .u64 (L 4 y), .int .u64 (L 5 y), .int .u64 (L 6 y), .int .u64 (L 7 y)] 34)).alloc (.cells #[.int .u64 0, .int .u64 0, .int .u64 0, .int .u64 0, .int .u64 0, .int .u64 0, .int .u64 0, .int .u64 0] 34)).alloc (.cells #[.int .u64 (L 0 (x + y)), .int .u64 (L 1 (x + y)), .int .u64 (L 2 (x + y)), .int .u64 (L 3 (x + y)), .int .u64 (L 4 (x + y)), .int .u64 (L 5 (x + y)), .int .u64 0, .int .u64 0] 34)).drewN n) ∨ (s7 = .int .i64 7 ∧ s5 = .int .u64 (C x y 7) ∧ ∃ n, w' = ((((w.alloc (.cells #[.int .u64 (L 0 x), .int .u64 (L 1 x), .int .u64 (L 2 x), .int .u64 (L 3 x), .int .u64 (L 4 x), .int .u64 (L 5 x), .int .u64 (L 6 x), .int .u64 (L 7 x)] 34)).alloc (.cells #[.int .u64 (L 0 y), .int .u64 (L 1 y), .int .u64 (L 2 y), .int .u64 (L 3 y), .int .u64 (L 4 y), .int .u64 (L 5 y), .int .u64 (L 6 y), .int .u64 (L 7 y)] 34)).alloc (.cells #[.int .u64 0, .int .u64 0, .int .u64 0, .int .u64 0, .int .u64 0, .int .u64 0, .int .u64 0, .int .u64 0] 34)).alloc (.cells #[.int .u64 (L 0 (x + y)), .int .u64 (L 1 (x + y)), .int .u64 (L 2 (x + y)), .int .u64 (L 3 (x + y)), .int .u64 (L 4 (x + y)), .int .u64 (L 5 (x + y)), .int .u64 (L 6 (x + y)), .int .u64 0] 34)).drewN n) ∨ (s7 = .int .i64 8 ∧ s5 = .int .u64 (C x y 8) ∧ ∃ n, w' = ((((w.alloc (.cells #[.int .u64 (L 0 x), .int .u64 (L 1 x), .int .u64 (L 2 x), .int .u64 (L 3 x), .int .u64 (L 4 x), .int .u64 (L 5 x), .int .u64 (L 6 x), .int .u64 (L 7 x)] 34)).alloc (.cells #[.int .u64 (L 0 y), .int .u64 (L 1 y), .int .u64 (L 2 y), .int .u64 (L 3 y), .int .u64 (L 4 y), .int .u64 (L 5 y), .int .u64 (L 6 y), .int .u64 (L 7 y)] 34)).alloc (.cells #[.int .u64 0, .int .u64 0, .int .u64 0, .int .u64 0, .int .u64 0, .int .u64 0, .int .u64 0, .int .u64 0] 34)).alloc (.cells #[.int .u64 (L 0 (x + y)), .int .u64 (L 1 (x + y)), .int .u64 (L 2 (x + y)), .int .u64 (L 3 (x + y)), .int .u64 (L 4 (x + y)), .int .u64 (L 5 (x + y)), .int .u64 (L 6 (x + y)), .int .u64 (L 7 (x + y))] 34)).drewN n)) (fun _ s7 _ => 8 - (intOf s7).toNat)
  case atStart => exact Or.inl ⟨rfl, rfl, 0, rfl⟩
  case round =>
    rcases hrel with ⟨rfl, rfl, n, rfl⟩ | ⟨rfl, rfl, n, rfl⟩ | ⟨rfl, rfl, n, rfl⟩ | ⟨rfl, rfl, n, rfl⟩ | ⟨rfl, rfl, n, rfl⟩ | ⟨rfl, rfl, n, rfl⟩ | ⟨rfl, rfl, n, rfl⟩ | ⟨rfl, rfl, n, rfl⟩ | ⟨rfl, rfl, n, rfl⟩
    · have q0 := ref_add_0 x y 0 (cb_zero x y)
      have q1 : IntKind.u64.wrap (L 0 (x + y)) = L 0 (x + y) := IntWalk.u64_in _ (by have h1 := L_lo 0 (x + y); have h2 := L_hi 0 (x + y); omega)
      have q2 : decide (L 0 (x + y) < 0) = false := by have h1 := L_lo 0 (x + y); simp; omega
      by_cases o : L 0 (x + y) < L 0 x
      · have q3 : C x y 1 = 1 := sum_c1 x y 0 (by rw [q0]; exact o)
        go_wp2
        go_quiet (fail)
        go_wp2
        exact ⟨Or.inr (Or.inl ⟨(by first | rfl | trivial), (by first | rfl | trivial | exact congrArg (Value.int .u64) q3.symm), _, set_out (by simp) _ _ _ _ _⟩), by simp [intOf]⟩
      · have q3 : C x y 1 = 0 := sum_c3 x y 0 (by rw [q0]; exact o) (by rw [C_zero]; have h1 := L_lo 0 (x + y); omega)
        go_wp2
        go_quiet (fail)
        go_wp2
        exact ⟨Or.inr (Or.inl ⟨(by first | rfl | trivial), (by first | rfl | trivial | exact congrArg (Value.int .u64) q3.symm), _, set_out (by simp) _ _ _ _ _⟩), by simp [intOf]⟩
    · have q1 := sum_word x y 1
      by_cases o : IntKind.u64.wrap (L 1 x + L 1 y) < L 1 x
      · have q3 : C x y 2 = 1 := sum_c1 x y 1 o
        go_wp2
        go_quiet (fail)
        go_wp2
        exact ⟨Or.inr (Or.inr (Or.inl ⟨(by first | rfl | trivial), (by first | rfl | trivial | exact congrArg (Value.int .u64) q3.symm), _, set_out (by simp) _ _ _ _ _⟩)), by simp [intOf]⟩
      · by_cases o3 : L 1 (x + y) < C x y 1
        · have q3 : C x y 2 = 1 := sum_c2 x y 1 o3
          go_wp2
          go_quiet (fail)
          go_wp2
          exact ⟨Or.inr (Or.inr (Or.inl ⟨(by first | rfl | trivial), (by first | rfl | trivial | exact congrArg (Value.int .u64) q3.symm), _, set_out (by simp) _ _ _ _ _⟩)), by simp [intOf]⟩
        · have q3 : C x y 2 = 0 := sum_c3 x y 1 o o3
          go_wp2
          go_quiet (fail)
          go_wp2
          exact ⟨Or.inr (Or.inr (Or.inl ⟨(by first | rfl | trivial), (by first | rfl | trivial | exact congrArg (Value.int .u64) q3.symm), _, set_out (by simp) _ _ _ _ _⟩)), by simp [intOf]⟩
    · have q1 := sum_word x y 2
      by_cases o : IntKind.u64.wrap (L 2 x + L 2 y) < L 2 x
      · have q3 : C x y 3 = 1 := sum_c1 x y 2 o
        go_wp2
        go_quiet (fail)
        go_wp2
        exact ⟨Or.inr (Or.inr (Or.inr (Or.inl ⟨(by first | rfl | trivial), (by first | rfl | trivial | exact congrArg (Value.int .u64) q3.symm), _, set_out (by simp) _ _ _ _ _⟩))), by simp [intOf]⟩
      · by_cases o3 : L 2 (x + y) < C x y 2
        · have q3 : C x y 3 = 1 := sum_c2 x y 2 o3
          go_wp2
          go_quiet (fail)
          go_wp2
          exact ⟨Or.inr (Or.inr (Or.inr (Or.inl ⟨(by first | rfl | trivial), (by first | rfl | trivial | exact congrArg (Value.int .u64) q3.symm), _, set_out (by simp) _ _ _ _ _⟩))), by simp [intOf]⟩
        · have q3 : C x y 3 = 0 := sum_c3 x y 2 o o3
          go_wp2
          go_quiet (fail)
          go_wp2
          exact ⟨Or.inr (Or.inr (Or.inr (Or.inl ⟨(by first | rfl | trivial), (by first | rfl | trivial | exact congrArg (Value.int .u64) q3.symm), _, set_out (by simp) _ _ _ _ _⟩))), by simp [intOf]⟩
    · have q1 := sum_word x y 3
      by_cases o : IntKind.u64.wrap (L 3 x + L 3 y) < L 3 x
      · have q3 : C x y 4 = 1 := sum_c1 x y 3 o
        go_wp2
        go_quiet (fail)
        go_wp2
        exact ⟨Or.inr (Or.inr (Or.inr (Or.inr (Or.inl ⟨(by first | rfl | trivial), (by first | rfl | trivial | exact congrArg (Value.int .u64) q3.symm), _, set_out (by simp) _ _ _ _ _⟩)))), by simp [intOf]⟩
      · by_cases o3 : L 3 (x + y) < C x y 3
        · have q3 : C x y 4 = 1 := sum_c2 x y 3 o3
          go_wp2
          go_quiet (fail)
          go_wp2
          exact ⟨Or.inr (Or.inr (Or.inr (Or.inr (Or.inl ⟨(by first | rfl | trivial), (by first | rfl | trivial | exact congrArg (Value.int .u64) q3.symm), _, set_out (by simp) _ _ _ _ _⟩)))), by simp [intOf]⟩
        · have q3 : C x y 4 = 0 := sum_c3 x y 3 o o3
          go_wp2
          go_quiet (fail)
          go_wp2
          exact ⟨Or.inr (Or.inr (Or.inr (Or.inr (Or.inl ⟨(by first | rfl | trivial), (by first | rfl | trivial | exact congrArg (Value.int .u64) q3.symm), _, set_out (by simp) _ _ _ _ _⟩)))), by simp [intOf]⟩
    · have q1 := sum_word x y 4
      by_cases o : IntKind.u64.wrap (L 4 x + L 4 y) < L 4 x
      · have q3 : C x y 5 = 1 := sum_c1 x y 4 o
        go_wp2
        go_quiet (fail)
        go_wp2
        exact ⟨Or.inr (Or.inr (Or.inr (Or.inr (Or.inr (Or.inl ⟨(by first | rfl | trivial), (by first | rfl | trivial | exact congrArg (Value.int .u64) q3.symm), _, set_out (by simp) _ _ _ _ _⟩))))), by simp [intOf]⟩
      · by_cases o3 : L 4 (x + y) < C x y 4
        · have q3 : C x y 5 = 1 := sum_c2 x y 4 o3
          go_wp2
          go_quiet (fail)
          go_wp2
          exact ⟨Or.inr (Or.inr (Or.inr (Or.inr (Or.inr (Or.inl ⟨(by first | rfl | trivial), (by first | rfl | trivial | exact congrArg (Value.int .u64) q3.symm), _, set_out (by simp) _ _ _ _ _⟩))))), by simp [intOf]⟩
        · have q3 : C x y 5 = 0 := sum_c3 x y 4 o o3
          go_wp2
          go_quiet (fail)
          go_wp2
          exact ⟨Or.inr (Or.inr (Or.inr (Or.inr (Or.inr (Or.inl ⟨(by first | rfl | trivial), (by first | rfl | trivial | exact congrArg (Value.int .u64) q3.symm), _, set_out (by simp) _ _ _ _ _⟩))))), by simp [intOf]⟩
    · have q1 := sum_word x y 5
      by_cases o : IntKind.u64.wrap (L 5 x + L 5 y) < L 5 x
      · have q3 : C x y 6 = 1 := sum_c1 x y 5 o
        go_wp2
        go_quiet (fail)
        go_wp2
        exact ⟨Or.inr (Or.inr (Or.inr (Or.inr (Or.inr (Or.inr (Or.inl ⟨(by first | rfl | trivial), (by first | rfl | trivial | exact congrArg (Value.int .u64) q3.symm), _, set_out (by simp) _ _ _ _ _⟩)))))), by simp [intOf]⟩
      · by_cases o3 : L 5 (x + y) < C x y 5
        · have q3 : C x y 6 = 1 := sum_c2 x y 5 o3
          go_wp2
          go_quiet (fail)
          go_wp2
          exact ⟨Or.inr (Or.inr (Or.inr (Or.inr (Or.inr (Or.inr (Or.inl ⟨(by first | rfl | trivial), (by first | rfl | trivial | exact congrArg (Value.int .u64) q3.symm), _, set_out (by simp) _ _ _ _ _⟩)))))), by simp [intOf]⟩
        · have q3 : C x y 6 = 0 := sum_c3 x y 5 o o3
          go_wp2
          go_quiet (fail)
          go_wp2
          exact ⟨Or.inr (Or.inr (Or.inr (Or.inr (Or.inr (Or.inr (Or.inl ⟨(by first | rfl | trivial), (by first | rfl | trivial | exact congrArg (Value.int .u64) q3.symm), _, set_out (by simp) _ _ _ _ _⟩)))))), by simp [intOf]⟩
    · have q1 := sum_word x y 6
      by_cases o : IntKind.u64.wrap (L 6 x + L 6 y) < L 6 x
      · have q3 : C x y 7 = 1 := sum_c1 x y 6 o
        go_wp2
        go_quiet (fail)
        go_wp2
        exact ⟨Or.inr (Or.inr (Or.inr (Or.inr (Or.inr (Or.inr (Or.inr (Or.inl ⟨(by first | rfl | trivial), (by first | rfl | trivial | exact congrArg (Value.int .u64) q3.symm), _, set_out (by simp) _ _ _ _ _⟩))))))), by simp [intOf]⟩
      · by_cases o3 : L 6 (x + y) < C x y 6
        · have q3 : C x y 7 = 1 := sum_c2 x y 6 o3
          go_wp2
          go_quiet (fail)
          go_wp2
          exact ⟨Or.inr (Or.inr (Or.inr (Or.inr (Or.inr (Or.inr (Or.inr (Or.inl ⟨(by first | rfl | trivial), (by first | rfl | trivial | exact congrArg (Value.int .u64) q3.symm), _, set_out (by simp) _ _ _ _ _⟩))))))), by simp [intOf]⟩
        · have q3 : C x y 7 = 0 := sum_c3 x y 6 o o3
          go_wp2
          go_quiet (fail)
          go_wp2
          exact ⟨Or.inr (Or.inr (Or.inr (Or.inr (Or.inr (Or.inr (Or.inr (Or.inl ⟨(by first | rfl | trivial), (by first | rfl | trivial | exact congrArg (Value.int .u64) q3.symm), _, set_out (by simp) _ _ _ _ _⟩))))))), by simp [intOf]⟩
    · have q1 := sum_word x y 7
      by_cases o : IntKind.u64.wrap (L 7 x + L 7 y) < L 7 x
      · have q3 : C x y 8 = 1 := sum_c1 x y 7 o
        go_wp2
        go_quiet (fail)
        go_wp2
        exact ⟨Or.inr (Or.inr (Or.inr (Or.inr (Or.inr (Or.inr (Or.inr (Or.inr (⟨(by first | rfl | trivial), (by first | rfl | trivial | exact congrArg (Value.int .u64) q3.symm), _, set_out (by simp) _ _ _ _ _⟩)))))))), by simp [intOf]⟩
      · by_cases o3 : L 7 (x + y) < C x y 7
        · have q3 : C x y 8 = 1 := sum_c2 x y 7 o3
          go_wp2
          go_quiet (fail)
          go_wp2
          exact ⟨Or.inr (Or.inr (Or.inr (Or.inr (Or.inr (Or.inr (Or.inr (Or.inr (⟨(by first | rfl | trivial), (by first | rfl | trivial | exact congrArg (Value.int .u64) q3.symm), _, set_out (by simp) _ _ _ _ _⟩)))))))), by simp [intOf]⟩
        · have q3 : C x y 8 = 0 := sum_c3 x y 7 o o3
          go_wp2
          go_quiet (fail)
          go_wp2
          exact ⟨Or.inr (Or.inr (Or.inr (Or.inr (Or.inr (Or.inr (Or.inr (Or.inr (⟨(by first | rfl | trivial), (by first | rfl | trivial | exact congrArg (Value.int .u64) q3.symm), _, set_out (by simp) _ _ _ _ _⟩)))))))), by simp [intOf]⟩
    · go_wp2
      go_returns
      refine ⟨rfl, ?_⟩
      repeat' (first | (with_reducible exact Below.refl _ _) | (with_reducible refine K.drewN ?_ _) | (with_reducible refine K.drew ?_) | (with_reducible refine K.alloc ?_ _) | (with_reducible refine K.set ?_ ?_ _) | (simp; done) | (simp; omega))
end Go.Proofs.Ytehlkgpoekpllaa
