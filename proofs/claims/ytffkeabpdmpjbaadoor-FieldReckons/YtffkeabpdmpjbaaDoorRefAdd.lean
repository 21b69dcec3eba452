/- What the document's own Add answers, for all numbers: the same as limb.Add. -/
import Derived.Test.YtffkeabpdmpjbaaDoorBase
namespace Go.Proofs.YtffkeabpdmpjbaaDoor
open Go.RowKit
attribute [local go_sem ↓] Go.wp_at_zero Go.wp_at_succ

def cb (a b : Int) (k : Nat) : Bool := C a b k == 1
theorem cb_zero (a b : Int) : cb a b 0 = false := by unfold cb; rw [C_zero]; rfl
theorem ref_add_0 (a b : Int) (k : Nat) (h : cb a b k = false) : IntKind.u64.wrap (L k a + L k b) = L k (a + b) := by
  have c1 := C_lo a b k
  have c2 := C_hi a b k
  have hc : C a b k = 0 := by unfold cb at h; simp at h; omega
  have e := add_word a b k
  rw [hc, Int.add_zero] at e
  rw [IntKind.wrap_u64, e]
theorem ref_add_1 (a b : Int) (k : Nat) (h : cb a b k = true) : IntKind.u64.wrap (IntKind.u64.wrap (L k a + L k b) + 1) = L k (a + b) := by
  have hc : C a b k = 1 := by unfold cb at h; simpa using h
  have e := add_word a b k
  rw [hc] at e
  rw [IntKind.wrap_u64, IntKind.wrap_u64, ← e]
  omega
theorem ref_add_o0 (a b : Int) (k : Nat) (h : cb a b k = false) : decide (L k (a + b) < L k a) = cb a b (k + 1) := by
  have c1 := C_lo a b k
  have c2 := C_hi a b k
  have hc : C a b k = 0 := by unfold cb at h; simp at h; omega
  have e := add_word a b k
  have f := add_carry a b k
  have a1 := L_lo k a
  have a2 := L_hi k a
  have b1 := L_lo k b
  have b2 := L_hi k b
  rw [hc] at e f
  unfold cb
  rw [← f, ← e, Bool.eq_iff_iff]
  simp only [decide_eq_true_eq, beq_iff_eq]
  omega
theorem ref_add_o1 (a b : Int) (k : Nat) (h : cb a b k = true) : (decide (IntKind.u64.wrap (L k a + L k b) < L k a) || (L k (a + b) == 0)) = cb a b (k + 1) := by
  have hc : C a b k = 1 := by unfold cb at h; simpa using h
  have e := add_word a b k
  have f := add_carry a b k
  have a1 := L_lo k a
  have a2 := L_hi k a
  have b1 := L_lo k b
  have b2 := L_hi k b
  rw [hc] at e f
  unfold cb
  rw [← f, ← e, IntKind.wrap_u64, Bool.eq_iff_iff]
  simp only [decide_eq_true_eq, beq_iff_eq, Bool.or_eq_true]
  omega

set_option maxHeartbeats 1000000 in
theorem ref_add_walk (a b : Int) (w : World) :
    Calls Tryd.prog 40 #[.agg #[.int .u64 (L 0 a), .int .u64 (L 1 a), .int .u64 (L 2 a), .int .u64 (L 3 a)], .agg #[.int .u64 (L 0 b), .int .u64 (L 1 b), .int .u64 (L 2 b), .int .u64 (L 3 b)]] w fun e w' =>
      e = .returned (.tuple #[.agg #[.int .u64 (L 0 (a + b)), .int .u64 (L 1 (a + b)), .int .u64 (L 2 (a + b)), .int .u64 (L 3 (a + b))], .bool (cb a b 4)]) ∧ Below w.heap.size w w' := by
  go_enter Tryd.func40, Tryd.ntmps40
  go_wp2
  go_loopw [7, 8] (fun s7 s8 w' => (s8 = .int .i64 0 ∧ s7 = .bool false ∧ ∃ n, w' = ((((w.alloc (.cells #[.int .u64 (L 0 a), .int .u64 (L 1 a), .int .u64 (L 2 a), .int .u64 (L 3 a)] 24)).alloc (.cells #[.int .u64 (L 0 b), .int .u64 (L 1 b), .int .u64 (L 2 b), .int .u64 (L 3 b)] 24)).alloc (.cells #[.int .u64 0, .int .u64 0, .int .u64 0, .int .u64 0] 24)).alloc (.cells #[.int .u64 0, .int .u64 0, .int .u64 0, .int .u64 0] 24)).drewN n) ∨ (s8 = .int .i64 1 ∧ s7 = .bool (cb a b 1) ∧ ∃ n, w' = ((((w.alloc (.cells #[.int .u64 (L 0 a), .int .u64 (L 1 a), .int .u64 (L 2 a), .int .u64 (L 3 a)] 24)).alloc (.cells #[.int .u64 (L 0 b), .int .u64 (L 1 b), .int .u64 (L 2 b), .int .u64 (L 3 b)] 24)).alloc (.cells #[.int .u64 0, .int .u64 0, .int .u64 0, .int .u64 0] 24)).alloc (.cells #[.int .u64 (L 0 (a + b)), .int .u64 0, .int .u64 0, .int .u64 0] 24)).drewN n) ∨ (s8 = .int .i64 2 ∧ s7 = .bool (cb a b 2) ∧ ∃ n, w' = ((((w.alloc (.cells #[.int .u64 (L 0 a), .int .u64 (L 1 a), .int .u64 (L 2 a), .int .u64 (L 3 a)] 24)).alloc (.cells #[.int .u64 (L 0 b), .int .u64 (L 1 b), .int .u64 (L 2 b), .int .u64 (L 3 b)] 24)).alloc (.cells #[.int .u64 0, .int .u64 0, .int .u64 0, .int .u64 0] 24)).alloc (.cells #[.int .u64 (L 0 (a + b)), .int .u64 (L 1 (a + b)), .int .u64 0, .int .u64 0] 24)).drewN n) ∨ (s8 = .int .i64 3 ∧ s7 = .bool (cb a b 3) ∧ ∃ n, w' = ((((w.alloc (.cells #[.int .u64 (L 0 a), .int .u64 (L 1 a), .int .u64 (L 2 a), .int .u64 (L 3 a)] 24)).alloc (.cells #[.int .u64 (L 0 b), .int .u64 (L 1 b), .int .u64 (L 2 b), .int .u64 (L 3 b)] 24)).alloc (.cells #[.int .u64 0, .int .u64 0, .int .u64 0, .int .u64 0] 24)).alloc (.cells #[.int .u64 (L 0 (a + b)), .int .u64 (L 1 (a + b)), .int .u64 (L 2 (a + b)), .int .u64 0] 24)).drewN n) ∨ (s8 = .int .i64 4 ∧ s7 = .bool (cb a b 4) ∧ ∃ n, w' = ((((w.alloc (.cells #[.int .u64 (L 0 a), .int .u64 (L 1 a), .int .u64 (L 2 a), .int .u64 (L 3 a)] 24)).alloc (.cells #[.int .u64 (L 0 b), .int .u64 (L 1 b), .int .u64 (L 2 b), .int .u64 (L 3 b)] 24)).alloc (.cells #[.int .u64 0, .int .u64 0, .int .u64 0, .int .u64 0] 24)).alloc (.cells #[.int .u64 (L 0 (a + b)), .int .u64 (L 1 (a + b)), .int .u64 (L 2 (a + b)), .int .u64 (L 3 (a + b))] 24)).drewN n)) (fun _ s8 _ => 4 - (intOf s8).toNat)
  case atStart => exact Or.inl ⟨rfl, rfl, 0, rfl⟩
  case round =>
    rcases hrel with ⟨rfl, rfl, n, rfl⟩ | ⟨rfl, rfl, n, rfl⟩ | ⟨rfl, rfl, n, rfl⟩ | ⟨rfl, rfl, n, rfl⟩ | ⟨rfl, rfl, n, rfl⟩
    · have q1 := ref_add_0 a b 0 (cb_zero a b)
      have q2 : decide (L 0 (a + b) < L 0 a) = cb a b 1 := ref_add_o0 a b 0 (cb_zero a b)
      go_wp2
      go_quiet (fail)
      go_wp2
      exact ⟨Or.inr (Or.inl ⟨rfl, (by first | rfl | exact congrArg Value.bool q3.symm), n + nq, set_out (by simp) _ _ _ _ _⟩), by simp [intOf]⟩
    · cases hcb : cb a b 1
      · have q1 := ref_add_0 a b 1 hcb
        have q2 : decide (L 1 (a + b) < L 1 a) = cb a b 2 := ref_add_o0 a b 1 hcb
        go_wp2
        go_quiet (fail)
        go_wp2
        exact ⟨Or.inr (Or.inr (Or.inl ⟨rfl, (by first | rfl | exact congrArg Value.bool q3.symm), n + nq, set_out (by simp) _ _ _ _ _⟩)), by simp [intOf]⟩
      · have q1 := ref_add_1 a b 1 hcb
        have q2 := ref_add_o1 a b 1 hcb
        by_cases o : IntKind.u64.wrap (L 1 a + L 1 b) < L 1 a
        · have q3 : cb a b 2 = true := by rw [← q2]; simp [o]
          clear q2
          go_wp2
          go_quiet (fail)
          go_wp2
          exact ⟨Or.inr (Or.inr (Or.inl ⟨rfl, (by first | rfl | exact congrArg Value.bool q3.symm), n + nq, set_out (by simp) _ _ _ _ _⟩)), by simp [intOf]⟩
        · have o2 : decide (IntKind.u64.wrap (L 1 a + L 1 b) < L 1 a) = false := by simpa using o
          have q3 : (L 1 (a + b) == 0) = cb a b 2 := by rw [o2, Bool.false_or] at q2; exact q2
          clear q2
          go_wp2
          go_quiet (fail)
          go_wp2
          exact ⟨Or.inr (Or.inr (Or.inl ⟨rfl, (by first | rfl | exact congrArg Value.bool q3.symm), n + nq, set_out (by simp) _ _ _ _ _⟩)), by simp [intOf]⟩
    · cases hcb : cb a b 2
      · have q1 := ref_add_0 a b 2 hcb
        have q2 : decide (L 2 (a + b) < L 2 a) = cb a b 3 := ref_add_o0 a b 2 hcb
        go_wp2
        go_quiet (fail)
        go_wp2
        exact ⟨Or.inr (Or.inr (Or.inr (Or.inl ⟨rfl, (by first | rfl | exact congrArg Value.bool q3.symm), n + nq, set_out (by simp) _ _ _ _ _⟩))), by simp [intOf]⟩
      · have q1 := ref_add_1 a b 2 hcb
        have q2 := ref_add_o1 a b 2 hcb
        by_cases o : IntKind.u64.wrap (L 2 a + L 2 b) < L 2 a
        · have q3 : cb a b 3 = true := by rw [← q2]; simp [o]
          clear q2
          go_wp2
          go_quiet (fail)
          go_wp2
          exact ⟨Or.inr (Or.inr (Or.inr (Or.inl ⟨rfl, (by first | rfl | exact congrArg Value.bool q3.symm), n + nq, set_out (by simp) _ _ _ _ _⟩))), by simp [intOf]⟩
        · have o2 : decide (IntKind.u64.wrap (L 2 a + L 2 b) < L 2 a) = false := by simpa using o
          have q3 : (L 2 (a + b) == 0) = cb a b 3 := by rw [o2, Bool.false_or] at q2; exact q2
          clear q2
          go_wp2
          go_quiet (fail)
          go_wp2
          exact ⟨Or.inr (Or.inr (Or.inr (Or.inl ⟨rfl, (by first | rfl | exact congrArg Value.bool q3.symm), n + nq, set_out (by simp) _ _ _ _ _⟩))), by simp [intOf]⟩
    · cases hcb : cb a b 3
      · have q1 := ref_add_0 a b 3 hcb
        have q2 : decide (L 3 (a + b) < L 3 a) = cb a b 4 := ref_add_o0 a b 3 hcb
        go_wp2
        go_quiet (fail)
        go_wp2
        exact ⟨Or.inr (Or.inr (Or.inr (Or.inr (⟨rfl, (by first | rfl | exact congrArg Value.bool q3.symm), n + nq, set_out (by simp) _ _ _ _ _⟩)))), by simp [intOf]⟩
      · have q1 := ref_add_1 a b 3 hcb
        have q2 := ref_add_o1 a b 3 hcb
        by_cases o : IntKind.u64.wrap (L 3 a + L 3 b) < L 3 a
        · have q3 : cb a b 4 = true := by rw [← q2]; simp [o]
          clear q2
          go_wp2
          go_quiet (fail)
          go_wp2
          exact ⟨Or.inr (Or.inr (Or.inr (Or.inr (⟨rfl, (by first | rfl | exact congrArg Value.bool q3.symm), n + nq, set_out (by simp) _ _ _ _ _⟩)))), by simp [intOf]⟩
        · have o2 : decide (IntKind.u64.wrap (L 3 a + L 3 b) < L 3 a) = false := by simpa using o
          have q3 : (L 3 (a + b) == 0) = cb a b 4 := by rw [o2, Bool.false_or] at q2; exact q2
          clear q2
          go_wp2
          go_quiet (fail)
          go_wp2
          exact ⟨Or.inr (Or.inr (Or.inr (Or.inr (⟨rfl, (by first | rfl | exact congrArg Value.bool q3.symm), n + nq, set_out (by simp) _ _ _ _ _⟩)))), by simp [intOf]⟩
    · go_wp2
      go_returns
      refine ⟨rfl, ?_⟩
      repeat' (first | (with_reducible exact Below.refl _ _) | (with_reducible refine K.drewN ?_ _) | (with_reducible refine K.drew ?_) | (with_reducible refine K.alloc ?_ _) | (with_reducible refine K.set ?_ ?_ _) | (simp; done) | (simp; omega))
end Go.Proofs.YtffkeabpdmpjbaaDoor
