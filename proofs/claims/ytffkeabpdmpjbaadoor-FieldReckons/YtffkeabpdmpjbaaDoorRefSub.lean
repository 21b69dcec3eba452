/- What the document's own Sub answers, for all numbers: the same as limb.Sub. -/
import Derived.Test.YtffkeabpdmpjbaaDoorRefAdd
namespace Go.Proofs.YtffkeabpdmpjbaaDoor
open Go.RowKit
attribute [local go_sem ↓] Go.wp_at_zero Go.wp_at_succ

def db (a b : Int) (k : Nat) : Bool := D a b k == 1
theorem db_zero (a b : Int) : db a b 0 = false := by unfold db; rw [D_zero]; rfl
theorem db_f {a b : Int} {k : Nat} (h : db a b k = false) : D a b k = 0 := by
  have c1 := D_lo a b k
  have c2 := D_hi a b k
  unfold db at h; simp at h; omega
theorem db_t {a b : Int} {k : Nat} (h : db a b k = true) : D a b k = 1 := by unfold db at h; simpa using h
theorem ref_sub_0 (a b : Int) (k : Nat) (h : db a b k = false) : IntKind.u64.wrap (L k a - L k b) = L k (a - b) := by
  have e := sub_word a b k
  rw [db_f h, Int.sub_zero] at e
  rw [IntKind.wrap_u64, e]
theorem ref_sub_1 (a b : Int) (k : Nat) (h : db a b k = true) : IntKind.u64.wrap (IntKind.u64.wrap (L k a - L k b) - 1) = L k (a - b) := by
  have e := sub_word a b k
  rw [db_t h] at e
  rw [IntKind.wrap_u64, IntKind.wrap_u64, ← e]
  omega
theorem ref_sub_o0 (a b : Int) (k : Nat) (h : db a b k = false) : decide (L k a < L k b) = db a b (k + 1) := by
  have f := sub_carry a b k
  rw [db_f h, Int.add_zero] at f
  unfold db
  rw [← f, Bool.eq_iff_iff]
  simp only [decide_eq_true_eq, beq_iff_eq]
  split <;> omega
theorem ref_sub_o1 (a b : Int) (k : Nat) (h : db a b k = true) : (decide (L k a < L k b) || (IntKind.u64.wrap (L k a - L k b) == 0)) = db a b (k + 1) := by
  have f := sub_carry a b k
  have a1 := L_lo k a
  have a2 := L_hi k a
  have b1 := L_lo k b
  have b2 := L_hi k b
  rw [db_t h] at f
  unfold db
  rw [← f, IntKind.wrap_u64, Bool.eq_iff_iff]
  simp only [decide_eq_true_eq, beq_iff_eq, Bool.or_eq_true]
  split <;> omega

set_option maxHeartbeats 1000000 in
theorem ref_sub_walk (a b : Int) (w : World) :
    Calls Tryd.prog 24 #[.agg #[.int .u64 (L 0 a), .int .u64 (L 1 a), .int .u64 (L 2 a), .int .u64 (L 3 a)], .agg #[.int .u64 (L 0 b), .int .u64 (L 1 b), .int .u64 (L 2 b), .int .u64 (L 3 b)]] w fun e w' =>
      e = .returned (.tuple #[.agg #[.int .u64 (L 0 (a - b)), .int .u64 (L 1 (a - b)), .int .u64 (L 2 (a - b)), .int .u64 (L 3 (a - b))], .bool (db a b 4)]) ∧ Below w.heap.size w w' := by
  go_enter Tryd.func24, Tryd.ntmps24
  go_wp2
  go_loopw [7, 8] (fun s7 s8 w' => (s8 = .int .i64 0 ∧ s7 = .bool false ∧ ∃ n, w' = ((((w.alloc (.cells #[.int .u64 (L 0 a), .int .u64 (L 1 a), .int .u64 (L 2 a), .int .u64 (L 3 a)] 24)).alloc (.cells #[.int .u64 (L 0 b), .int .u64 (L 1 b), .int .u64 (L 2 b), .int .u64 (L 3 b)] 24)).alloc (.cells #[.int .u64 0, .int .u64 0, .int .u64 0, .int .u64 0] 24)).alloc (.cells #[.int .u64 0, .int .u64 0, .int .u64 0, .int .u64 0] 24)).drewN n) ∨ (s8 = .int .i64 1 ∧ s7 = .bool (db a b 1) ∧ ∃ n, w' = ((((w.alloc (.cells #[.int .u64 (L 0 a), .int .u64 (L 1 a), .int .u64 (L 2 a), .int .u64 (L 3 a)] 24)).alloc (.cells #[.int .u64 (L 0 b), .int .u64 (L 1 b), .int .u64 (L 2 b), .int .u64 (L 3 b)] 24)).alloc (.cells #[.int .u64 0, .int .u64 0, .int .u64 0, .int .u64 0] 24)).alloc (.cells #[.int .u64 (L 0 (a - b)), .int .u64 0, .int .u64 0, .int .u64 0] 24)).drewN n) ∨ (s8 = .int .i64 2 ∧ s7 = .bool (db a b 2) ∧ ∃ n, w' = ((((w.alloc (.cells #[.int .u64 (L 0 a), .int .u64 (L 1 a), .int .u64 (L 2 a), .int .u64 (L 3 a)] 24)).alloc (.cells #[.int .u64 (L 0 b), .int .u64 (L 1 b), .int .u64 (L 2 b), .int .u64 (L 3 b)] 24)).alloc (.cells #[.int .u64 0, .int .u64 0, .int .u64 0, .int .u64 0] 24)).alloc (.cells #[.int .u64 (L 0 (a - b)), .int .u64 (L 1 (a - b)), .int .u64 0, .int .u64 0] 24)).drewN n) ∨ (s8 = .int .i64 3 ∧ s7 = .bool (db a b 3) ∧ ∃ n, w' = ((((w.alloc (.cells #[.int .u64 (L 0 a), .int .u64 (L 1 a), .int .u64 (L 2 a), .int .u64 (L 3 a)] 24)).alloc (.cells #[.int .u64 (L 0 b), .int .u64 (L 1 b), .int .u64 (L 2 b), .int .u64 (L 3 b)] 24)).alloc (.cells #[.int .u64 0, .int .u64 0, .int .u64 0, .int .u64 0] 24)).alloc (.cells #[.int .u64 (L 0 (a - b)), .int .u64 (L 1 (a - b)), .int .u64 (L 2 (a - b)), .int .u64 0] 24)).drewN n) ∨ (s8 = .int .i64 4 ∧ s7 = .bool (db a b 4) ∧ ∃ n, w' = ((((w.alloc (.cells #[.int .u64 (L 0 a), .int .u64 (L 1 a), .int .u64 (L 2 a), .int .u64 (L 3 a)] 24)).alloc (.cells #[.int .u64 (L 0 b), .int .u64 (L 1 b), .int .u64 (L 2 b), .int .u64 (L 3 b)] 24)).alloc (.cells #[.int .u64 0, .int .u64 0, .int .u64 0, .int .u64 0] 24)).alloc (.cells #[.int .u64 (L 0 (a - b)), .int .u64 (L 1 (a - b)), .int .u64 (L 2 (a - b)), .int .u64 (L 3 (a - b))] 24)).drewN n)) (fun _ s8 _ => 4 - (intOf s8).toNat)
  case atStart => exact Or.inl ⟨rfl, rfl, 0, rfl⟩
  case round =>
    rcases hrel with ⟨rfl, rfl, n, rfl⟩ | ⟨rfl, rfl, n, rfl⟩ | ⟨rfl, rfl, n, rfl⟩ | ⟨rfl, rfl, n, rfl⟩ | ⟨rfl, rfl, n, rfl⟩
    · have q1 := ref_sub_0 a b 0 (db_zero a b)
      have q2 : decide (L 0 a < L 0 b) = db a b 1 := ref_sub_o0 a b 0 (db_zero a b)
      go_wp2
      go_quiet (fail)
      go_wp2
      go_quiet (fail)
      go_wp2
      exact ⟨Or.inr (Or.inl ⟨rfl, (by first | rfl | exact congrArg Value.bool q3.symm), _, set_out (by simp) _ _ _ _ _⟩), by simp [intOf]⟩
    · cases hcb : db a b 1
      · have q1 := ref_sub_0 a b 1 hcb
        have q2 : decide (L 1 a < L 1 b) = db a b 2 := ref_sub_o0 a b 1 hcb
        go_wp2
        go_quiet (fail)
        go_wp2
        go_quiet (fail)
        go_wp2
        exact ⟨Or.inr (Or.inr (Or.inl ⟨rfl, (by first | rfl | exact congrArg Value.bool q3.symm), _, set_out (by simp) _ _ _ _ _⟩)), by simp [intOf]⟩
      · have q1 := ref_sub_1 a b 1 hcb
        have q2 := ref_sub_o1 a b 1 hcb
        by_cases o : L 1 a < L 1 b
        · have q3 : db a b 2 = true := by rw [← q2]; simp [o]
          clear q2
          go_wp2
          go_quiet (fail)
          go_wp2
          go_quiet (fail)
          go_wp2
          exact ⟨Or.inr (Or.inr (Or.inl ⟨rfl, (by first | rfl | exact congrArg Value.bool q3.symm), _, set_out (by simp) _ _ _ _ _⟩)), by simp [intOf]⟩
        · have o2 : decide (L 1 a < L 1 b) = false := by simpa using o
          have q3 : (IntKind.u64.wrap (L 1 a - L 1 b) == 0) = db a b 2 := by rw [o2, Bool.false_or] at q2; exact q2
          clear q2
          go_wp2
          go_quiet (fail)
          go_wp2
          go_quiet (fail)
          go_wp2
          exact ⟨Or.inr (Or.inr (Or.inl ⟨rfl, (by first | rfl | exact congrArg Value.bool q3.symm), _, set_out (by simp) _ _ _ _ _⟩)), by simp [intOf]⟩
    · cases hcb : db a b 2
      · have q1 := ref_sub_0 a b 2 hcb
        have q2 : decide (L 2 a < L 2 b) = db a b 3 := ref_sub_o0 a b 2 hcb
        go_wp2
        go_quiet (fail)
        go_wp2
        go_quiet (fail)
        go_wp2
        exact ⟨Or.inr (Or.inr (Or.inr (Or.inl ⟨rfl, (by first | rfl | exact congrArg Value.bool q3.symm), _, set_out (by simp) _ _ _ _ _⟩))), by simp [intOf]⟩
      · have q1 := ref_sub_1 a b 2 hcb
        have q2 := ref_sub_o1 a b 2 hcb
        by_cases o : L 2 a < L 2 b
        · have q3 : db a b 3 = true := by rw [← q2]; simp [o]
          clear q2
          go_wp2
          go_quiet (fail)
          go_wp2
          go_quiet (fail)
          go_wp2
          exact ⟨Or.inr (Or.inr (Or.inr (Or.inl ⟨rfl, (by first | rfl | exact congrArg Value.bool q3.symm), _, set_out (by simp) _ _ _ _ _⟩))), by simp [intOf]⟩
        · have o2 : decide (L 2 a < L 2 b) = false := by simpa using o
          have q3 : (IntKind.u64.wrap (L 2 a - L 2 b) == 0) = db a b 3 := by rw [o2, Bool.false_or] at q2; exact q2
          clear q2
          go_wp2
          go_quiet (fail)
          go_wp2
          go_quiet (fail)
          go_wp2
          exact ⟨Or.inr (Or.inr (Or.inr (Or.inl ⟨rfl, (by first | rfl | exact congrArg Value.bool q3.symm), _, set_out (by simp) _ _ _ _ _⟩))), by simp [intOf]⟩
    · cases hcb : db a b 3
      · have q1 := ref_sub_0 a b 3 hcb
        have q2 : decide (L 3 a < L 3 b) = db a b 4 := ref_sub_o0 a b 3 hcb
        go_wp2
        go_quiet (fail)
        go_wp2
        go_quiet (fail)
        go_wp2
        exact ⟨Or.inr (Or.inr (Or.inr (Or.inr (⟨rfl, (by first | rfl | exact congrArg Value.bool q3.symm), _, set_out (by simp) _ _ _ _ _⟩)))), by simp [intOf]⟩
      · have q1 := ref_sub_1 a b 3 hcb
        have q2 := ref_sub_o1 a b 3 hcb
        by_cases o : L 3 a < L 3 b
        · have q3 : db a b 4 = true := by rw [← q2]; simp [o]
          clear q2
          go_wp2
          go_quiet (fail)
          go_wp2
          go_quiet (fail)
          go_wp2
          exact ⟨Or.inr (Or.inr (Or.inr (Or.inr (⟨rfl, (by first | rfl | exact congrArg Value.bool q3.symm), _, set_out (by simp) _ _ _ _ _⟩)))), by simp [intOf]⟩
        · have o2 : decide (L 3 a < L 3 b) = false := by simpa using o
          have q3 : (IntKind.u64.wrap (L 3 a - L 3 b) == 0) = db a b 4 := by rw [o2, Bool.false_or] at q2; exact q2
          clear q2
          go_wp2
          go_quiet (fail)
          go_wp2
          go_quiet (fail)
          go_wp2
          exact ⟨Or.inr (Or.inr (Or.inr (Or.inr (⟨rfl, (by first | rfl | exact congrArg Value.bool q3.symm), _, set_out (by simp) _ _ _ _ _⟩)))), by simp [intOf]⟩
    · go_wp2
      go_returns
      refine ⟨rfl, ?_⟩
      repeat' (first | (with_reducible exact Below.refl _ _) | (with_reducible refine K.drewN ?_ _) | (with_reducible refine K.drew ?_) | (with_reducible refine K.alloc ?_ _) | (with_reducible refine K.set ?_ ?_ _) | (simp; done) | (simp; omega))

theorem ref_add_any {a b : Int} (ha : Num a) (hb : Num b) (w : World) :
    Calls Tryd.prog 40 #[.agg #[.int .u64 (L 0 a), .int .u64 (L 1 a), .int .u64 (L 2 a), .int .u64 (L 3 a)], .agg #[.int .u64 (L 0 b), .int .u64 (L 1 b), .int .u64 (L 2 b), .int .u64 (L 3 b)]] w fun e w' =>
      e = .returned (.tuple #[.agg #[.int .u64 (L 0 (a + b)), .int .u64 (L 1 (a + b)), .int .u64 (L 2 (a + b)), .int .u64 (L 3 (a + b))], .bool (over a b)]) ∧ Below w.heap.size w w' := by
  rw [← C_four ha hb]; exact ref_add_walk a b w
theorem ref_sub_any {a b : Int} (ha : Num a) (hb : Num b) (w : World) :
    Calls Tryd.prog 24 #[.agg #[.int .u64 (L 0 a), .int .u64 (L 1 a), .int .u64 (L 2 a), .int .u64 (L 3 a)], .agg #[.int .u64 (L 0 b), .int .u64 (L 1 b), .int .u64 (L 2 b), .int .u64 (L 3 b)]] w fun e w' =>
      e = .returned (.tuple #[.agg #[.int .u64 (L 0 (a - b)), .int .u64 (L 1 (a - b)), .int .u64 (L 2 (a - b)), .int .u64 (L 3 (a - b))], .bool (under a b)]) ∧ Below w.heap.size w w' := by
  rw [← D_four ha hb]; exact ref_sub_walk a b w
end Go.Proofs.YtffkeabpdmpjbaaDoor
