/- What the document's own Sub answers, for all numbers: the same as limb.Sub. What the document's own Less answers, for all numbers. What the document's own Modulus and plus answer. What the document's own Fold answers: a number modulo each modulus. -/
import Derived.Test.YtimaaendbfjblabDoorM21
import Derived.Test.YtimaaendbfjblabDoorM02
import Derived.Test.YtimaaendbfjblabDoorM03
import Derived.Deep.LoopGhost
namespace Go.Proofs.YtimaaendbfjblabDoor
open Go.RowKit
attribute [local go_sem ↓] Go.wp_at_zero Go.wp_at_succ

def db (a b : Int) (k : Nat) : Bool := D a b k == 1
theorem db_zero (a b : Int) : db a b 0 = false := by unfold db; rw [D_zero]; rfl
theorem db_f {a b : Int} {k : Nat} (h : db a b k = false) : D a b k = 0 := by
  have c1 := D_lo a b k
  have c2 := D_hi a b k
  unfold db at h; simp at h; omega
theorem db_t {a b : Int} {k : Nat} (h : db a b k = true) : D a b k = 1 := by unfold db at h; simpa using h
theorem ref_sub_0 (a b : Int) (k : Nat) (h : db a b k = false) : IntKind.u64.wrap (L k a - L k b) = L k (a - b) := by
  have e := sub_word a b k
  rw [db_f h, Int.sub_zero] at e
  rw [IntKind.wrap_u64, e]
theorem ref_sub_1 (a b : Int) (k : Nat) (h : db a b k = true) : IntKind.u64.wrap (IntKind.u64.wrap (L k a - L k b) - 1) = L k (a - b) := by
  have e := sub_word a b k
  rw [db_t h] at e
  rw [IntKind.wrap_u64, IntKind.wrap_u64, ← e]
  omega
theorem ref_sub_o0 (a b : Int) (k : Nat) (h : db a b k = false) : decide (L k a < L k b) = db a b (k + 1) := by
  have f := sub_carry a b k
  rw [db_f h, Int.add_zero] at f
  unfold db
  rw [← f, Bool.eq_iff_iff]
  simp only [decide_eq_true_eq, beq_iff_eq]
  split <;> omega
theorem ref_sub_o1 (a b : Int) (k : Nat) (h : db a b k = true) : (decide (L k a < L k b) || (IntKind.u64.wrap (L k a - L k b) == 0)) = db a b (k + 1) := by
  have f := sub_carry a b k
  have a1 := L_lo k a
  have a2 := L_hi k a
  have b1 := L_lo k b
  have b2 := L_hi k b
  rw [db_t h] at f
  unfold db
  rw [← f, IntKind.wrap_u64, Bool.eq_iff_iff]
  simp only [decide_eq_true_eq, beq_iff_eq, Bool.or_eq_true]
  split <;> omega

set_option maxHeartbeats 1000000 in
theorem ref_sub_walk (a b : Int) (w : World) :
    Calls Tryd.prog 28 #[.agg #[.int .u64 (L 0 a), .int .u64 (L 1 a), .int .u64 (L 2 a), .int .u64 (L 3 a)], .agg #[.int .u64 (L 0 b), .int .u64 (L 1 b), .int .u64 (L 2 b), .int .u64 (L 3 b)]] w fun e w' =>
      e = .returned (.tuple #[.agg #[.int .u64 (L 0 (a - b)), .int .u64 (L 1 (a - b)), .int .u64 (L 2 (a - b)), .int .u64 (L 3 (a - b))], .bool (db a b 4)]) ∧ Below w.heap.size w w' := by
  go_enter Tryd.func28, Tryd.ntmps28
  go_wp2
  go_loopw [7, 8] (fun s7 s8 w' => (s8 = .int .i64 0 ∧ s7 = .bool false ∧ ∃ n, w' = ((((w.alloc (.cells #[.int .u64 (L 0 a), .int .u64 (L 1 a), .int .u64 (L 2 a), .int .u64 (L 3 a)] 24)).alloc (.cells #[.int .u64 (L 0 b), .int .u64 (L 1 b), .int .u64 (L 2 b), .int .u64 (L 3 b)] 24)).alloc (.cells #[.int .u64 0, .int .u64 0, .int .u64 0, .int .u64 0] 24)).alloc (.cells #[.int .u64 0, .int .u64 0, .int .u64 0, .int .u64 0] 24)).drewN n) ∨ (s8 = .int .i64 1 ∧ s7 = .bool (db a b 1) ∧ ∃ n, w' = ((((w.alloc (.cells #[.int .u64 (L 0 a), .int .u64 (L 1 a), .int .u64 (L 2 a), .int .u64 (L 3 a)] 24)).alloc (.cells #[.int .u64 (L 0 b), .int .u64 (L 1 b), .int .u64 (L 2 b), .int .u64 (L 3 b)] 24)).alloc (.cells #[.int .u64 0, .int .u64 0, .int .u64 0, .int .u64 0] 24)).alloc (.cells #[.int .u64 (L 0 (a - b)), .int .u64 0, .int .u64 0, .int .u64 0] 24)).drewN n) ∨ (s8 = .int .i64 2 ∧ s7 = .bool (db a b 2) ∧ ∃ n, w' = ((((w.alloc (.cells #[.int .u64 (L 0 a), .int .u64 (L 1 a), .int .u64 (L 2 a), .int .u64 (L 3 a)] 24)).alloc (.cells #[.int .u64 (L 0 b), .int .u64 (L 1 b), .int .u64 (L 2 b), .int .u64 (L 3 b)] 24)).alloc (.cells #[.int .u64 0, .int .u64 0, .int .u64 0, .int .u64 0] 24)).alloc (.cells #[.int .u64 (L 0 (a - b)), .int .u64 (L 1 (a - b)), .int .u64 0, .int .u64 0] 24)).drewN n) ∨ (s8 = .int .i64 3 ∧ s7 = .bool (db a b 3) ∧ ∃ n, w' = ((((w.alloc (.cells #[.int .u64 (L 0 a), .int .u64 (L 1 a), .int .u64 (L 2 a), .int .u64 (L 3 a)] 24)).alloc (.cells #[.int .u64 (L 0 b), .int .u64 (L 1 b), .int .u64 (L 2 b), .int .u64 (L 3 b)] 24)).alloc (.cells #[.int .u64 0, .int .u64 0, .int .u64 0, .int .u64 0] 24)).alloc (.cells #[.int .u64 (L 0 (a - b)), .int .u64 (L 1 (a - b)), .int .u64 (L 2 (a - b)), .int .u64 0] 24)).drewN n) ∨ (s8 = .int .i64 4 ∧ s7 = .bool (db a b 4) ∧ ∃ n, w' = ((((w.alloc (.cells #[.int .u64 (L 0 a), .int .u64 (L 1 a), .int .u64 (L 2 a), .int .u64 (L 3 a)] 24)).alloc (.cells #[.int .u64 (L 0 b), .int .u64 (L 1 b), .int .u64 (L 2 b), .int .u64 (L 3 b)] 24)).alloc (.cells #[.int .u64 0, .int .u64 0, .int .u64 0, .int .u64 0] 24)).alloc (.cells #[.int .u64 (L 0 (a - b)), .int .u64 (L 1 (a - b)), .int .u64 (L 2 (a - b)), .int .u64 (L 3 (a - b))] 24)).drewN n)) (fun _ s8 _ => 4 - (intOf s8).toNat)
  case atStart => exact Or.inl ⟨rfl, rfl, 0, rfl⟩
  case round =>
    rcases hrel with ⟨rfl, rfl, n, rfl⟩ | ⟨rfl, rfl, n, rfl⟩ | ⟨rfl, rfl, n, rfl⟩ | ⟨rfl, rfl, n, rfl⟩ | ⟨rfl, rfl, n, rfl⟩
    · have q1 := ref_sub_0 a b 0 (db_zero a b)
      have q2 : decide (L 0 a < L 0 b) = db a b 1 := ref_sub_o0 a b 0 (db_zero a b)
      go_wp2
      go_quiet (fail)
      go_wp2
      go_quiet (fail)
      go_wp2
      exact ⟨Or.inr (Or.inl ⟨rfl, (by first | rfl | exact congrArg Value.bool q3.symm), _, set_out (by simp) _ _ _ _ _⟩), by simp [intOf]⟩
    · cases hcb : db a b 1
      · have q1 := ref_sub_0 a b 1 hcb
        have q2 : decide (L 1 a < L 1 b) = db a b 2 := ref_sub_o0 a b 1 hcb
        go_wp2
        go_quiet (fail)
        go_wp2
        go_quiet (fail)
        go_wp2
        exact ⟨Or.inr (Or.inr (Or.inl ⟨rfl, (by first | rfl | exact congrArg Value.bool q3.symm), _, set_out (by simp) _ _ _ _ _⟩)), by simp [intOf]⟩
      · have q1 := ref_sub_1 a b 1 hcb
        have q2 := ref_sub_o1 a b 1 hcb
        by_cases o : L 1 a < L 1 b
        · have q3 : db a b 2 = true := by rw [← q2]; simp [o]
          clear q2
          go_wp2
          go_quiet (fail)
          go_wp2
          go_quiet (fail)
          go_wp2
          exact ⟨Or.inr (Or.inr (Or.inl ⟨rfl, (by first | rfl | exact congrArg Value.bool q3.symm), _, set_out (by simp) _ _ _ _ _⟩)), by simp [intOf]⟩
        · have o2 : decide (L 1 a < L 1 b) = false := by simpa using o
          have q3 : (IntKind.u64.wrap (L 1 a - L 1 b) == 0) = db a b 2 := by rw [o2, Bool.false_or] at q2; exact q2
          clear q2
          go_wp2
          go_quiet (fail)
          go_wp2
          go_quiet (fail)
          go_wp2
          exact ⟨Or.inr (Or.inr (Or.inl ⟨rfl, (by first | rfl | exact congrArg Value.bool q3.symm), _, set_out (by simp) _ _ _ _ _⟩)), by simp [intOf]⟩
    · cases hcb : db a b 2
      · have q1 := ref_sub_0 a b 2 hcb
        have q2 : decide (L 2 a < L 2 b) = db a b 3 := ref_sub_o0 a b 2 hcb
        go_wp2
        go_quiet (fail)
        go_wp2
        go_quiet (fail)
        go_wp2
        exact ⟨Or.inr (Or.inr (Or.inr (Or.inl ⟨rfl, (by first | rfl | exact congrArg Value.bool q3.symm), _, set_out (by simp) _ _ _ _ _⟩))), by simp [intOf]⟩
      · have q1 := ref_sub_1 a b 2 hcb
        have q2 := ref_sub_o1 a b 2 hcb
        by_cases o : L 2 a < L 2 b
        · have q3 : db a b 3 = true := by rw [← q2]; simp [o]
          clear q2
          go_wp2
          go_quiet (fail)
          go_wp2
          go_quiet (fail)
          go_wp2
          exact ⟨Or.inr (Or.inr (Or.inr (Or.inl ⟨rfl, (by first | rfl | exact congrArg Value.bool q3.symm), _, set_out (by simp) _ _ _ _ _⟩))), by simp [intOf]⟩
        · have o2 : decide (L 2 a < L 2 b) = false := by simpa using o
          have q3 : (IntKind.u64.wrap (L 2 a - L 2 b) == 0) = db a b 3 := by rw [o2, Bool.false_or] at q2; exact q2
          clear q2
          go_wp2
          go_quiet (fail)
          go_wp2
          go_quiet (fail)
          go_wp2
          exact ⟨Or.inr (Or.inr (Or.inr (Or.inl ⟨rfl, (by first | rfl | exact congrArg Value.bool q3.symm), _, set_out (by simp) _ _ _ _ _⟩))), by simp [intOf]⟩
    · cases hcb : db a b 3
      · have q1 := ref_sub_0 a b 3 hcb
        have q2 : decide (L 3 a < L 3 b) = db a b 4 := ref_sub_o0 a b 3 hcb
        go_wp2
        go_quiet (fail)
        go_wp2
        go_quiet (fail)
        go_wp2
        exact ⟨Or.inr (Or.inr (Or.inr (Or.inr (⟨rfl, (by first | rfl | exact congrArg Value.bool q3.symm), _, set_out (by simp) _ _ _ _ _⟩)))), by simp [intOf]⟩
      · have q1 := ref_sub_1 a b 3 hcb
        have q2 := ref_sub_o1 a b 3 hcb
        by_cases o : L 3 a < L 3 b
        · have q3 : db a b 4 = true := by rw [← q2]; simp [o]
          clear q2
          go_wp2
          go_quiet (fail)
          go_wp2
          go_quiet (fail)
          go_wp2
          exact ⟨Or.inr (Or.inr (Or.inr (Or.inr (⟨rfl, (by first | rfl | exact congrArg Value.bool q3.symm), _, set_out (by simp) _ _ _ _ _⟩)))), by simp [intOf]⟩
        · have o2 : decide (L 3 a < L 3 b) = false := by simpa using o
          have q3 : (IntKind.u64.wrap (L 3 a - L 3 b) == 0) = db a b 4 := by rw [o2, Bool.false_or] at q2; exact q2
          clear q2
          go_wp2
          go_quiet (fail)
          go_wp2
          go_quiet (fail)
          go_wp2
          exact ⟨Or.inr (Or.inr (Or.inr (Or.inr (⟨rfl, (by first | rfl | exact congrArg Value.bool q3.symm), _, set_out (by simp) _ _ _ _ _⟩)))), by simp [intOf]⟩
    · go_wp2
      go_returns
      refine ⟨rfl, ?_⟩
      repeat' (first | (with_reducible exact Below.refl _ _) | (with_reducible refine K.drewN ?_ _) | (with_reducible refine K.drew ?_) | (with_reducible refine K.alloc ?_ _) | (with_reducible refine K.set ?_ ?_ _) | (simp; done) | (simp; omega))

theorem ref_add_any {a b : Int} (ha : Num a) (hb : Num b) (w : World) :
    Calls Tryd.prog 29 #[.agg #[.int .u64 (L 0 a), .int .u64 (L 1 a), .int .u64 (L 2 a), .int .u64 (L 3 a)], .agg #[.int .u64 (L 0 b), .int .u64 (L 1 b), .int .u64 (L 2 b), .int .u64 (L 3 b)]] w fun e w' =>
      e = .returned (.tuple #[.agg #[.int .u64 (L 0 (a + b)), .int .u64 (L 1 (a + b)), .int .u64 (L 2 (a + b)), .int .u64 (L 3 (a + b))], .bool (over a b)]) ∧ Below w.heap.size w w' := by
  rw [← C_four ha hb]; exact ref_add_walk a b w
theorem ref_sub_any {a b : Int} (ha : Num a) (hb : Num b) (w : World) :
    Calls Tryd.prog 28 #[.agg #[.int .u64 (L 0 a), .int .u64 (L 1 a), .int .u64 (L 2 a), .int .u64 (L 3 a)], .agg #[.int .u64 (L 0 b), .int .u64 (L 1 b), .int .u64 (L 2 b), .int .u64 (L 3 b)]] w fun e w' =>
      e = .returned (.tuple #[.agg #[.int .u64 (L 0 (a - b)), .int .u64 (L 1 (a - b)), .int .u64 (L 2 (a - b)), .int .u64 (L 3 (a - b))], .bool (under a b)]) ∧ Below w.heap.size w w' := by
  rw [← D_four ha hb]; exact ref_sub_walk a b w
end Go.Proofs.YtimaaendbfjblabDoor
namespace Go.Proofs.YtimaaendbfjblabDoor
open Go.RowKit
attribute [local go_sem ↓] Go.wp_at_zero Go.wp_at_succ

def lessW (x0 x1 x2 x3 y0 y1 y2 y3 : Int) : Bool :=
  if x3 = y3 then if x2 = y2 then if x1 = y1 then if x0 = y0 then false else decide (x0 < y0) else decide (x1 < y1) else decide (x2 < y2) else decide (x3 < y3)

set_option maxHeartbeats 2000000 in
theorem less_walk (x0 x1 x2 x3 y0 y1 y2 y3 : Int) (w : World) :
    Calls Tryd.prog 27 #[.agg #[.int .u64 x0, .int .u64 x1, .int .u64 x2, .int .u64 x3], .agg #[.int .u64 y0, .int .u64 y1, .int .u64 y2, .int .u64 y3]] w fun e w' => e = .returned (.bool (lessW x0 x1 x2 x3 y0 y1 y2 y3)) ∧ Below w.heap.size w w' := by
  go_enter Tryd.func27, Tryd.ntmps27
  go_wp2
  refine wp_loop_rounds 5 ?_
  by_cases g3 : x3 = y3
  case neg =>
    have b3 : (x3 == y3) = false := by simpa using g3
    have n3 : (x3 != y3) = true := by simpa using g3
    rw [rounds_succ]
    go_wp2
    go_quiet (fail)
    go_wp2
    go_quiet (fail)
    go_wp2
    go_ret
    refine ⟨ret_bool (by unfold lessW; simp [*]), ?_⟩
    repeat' (first | (with_reducible exact Below.refl _ _) | (with_reducible refine K.drewN ?_ _) | (with_reducible refine K.drew ?_) | (with_reducible refine K.alloc ?_ _) | (with_reducible refine K.set ?_ ?_ _) | (simp; done) | (simp; omega))
  subst g3
  rw [rounds_succ]
  go_wp2
  go_quiet (fail)
  go_wp2
  by_cases g2 : x2 = y2
  case neg =>
    have b2 : (x2 == y2) = false := by simpa using g2
    have n2 : (x2 != y2) = true := by simpa using g2
    rw [rounds_succ]
    go_wp2
    go_quiet (fail)
    go_wp2
    go_quiet (fail)
    go_wp2
    go_ret
    refine ⟨ret_bool (by unfold lessW; simp [*]), ?_⟩
    repeat' (first | (with_reducible exact Below.refl _ _) | (with_reducible refine K.drewN ?_ _) | (with_reducible refine K.drew ?_) | (with_reducible refine K.alloc ?_ _) | (with_reducible refine K.set ?_ ?_ _) | (simp; done) | (simp; omega))
  subst g2
  rw [rounds_succ]
  go_wp2
  go_quiet (fail)
  go_wp2
  by_cases g1 : x1 = y1
  case neg =>
    have b1 : (x1 == y1) = false := by simpa using g1
    have n1 : (x1 != y1) = true := by simpa using g1
    rw [rounds_succ]
    go_wp2
    go_quiet (fail)
    go_wp2
    go_quiet (fail)
    go_wp2
    go_ret
    refine ⟨ret_bool (by unfold lessW; simp [*]), ?_⟩
    repeat' (first | (with_reducible exact Below.refl _ _) | (with_reducible refine K.drewN ?_ _) | (with_reducible refine K.drew ?_) | (with_reducible refine K.alloc ?_ _) | (with_reducible refine K.set ?_ ?_ _) | (simp; done) | (simp; omega))
  subst g1
  rw [rounds_succ]
  go_wp2
  go_quiet (fail)
  go_wp2
  by_cases g0 : x0 = y0
  case neg =>
    have b0 : (x0 == y0) = false := by simpa using g0
    have n0 : (x0 != y0) = true := by simpa using g0
    rw [rounds_succ]
    go_wp2
    go_quiet (fail)
    go_wp2
    go_quiet (fail)
    go_wp2
    go_ret
    refine ⟨ret_bool (by unfold lessW; simp [*]), ?_⟩
    repeat' (first | (with_reducible exact Below.refl _ _) | (with_reducible refine K.drewN ?_ _) | (with_reducible refine K.drew ?_) | (with_reducible refine K.alloc ?_ _) | (with_reducible refine K.set ?_ ?_ _) | (simp; done) | (simp; omega))
  subst g0
  rw [rounds_succ]
  go_wp2
  go_quiet (fail)
  go_wp2
  rw [rounds_succ]
  go_wp2
  go_ret
  refine ⟨ret_bool (by unfold lessW; simp), ?_⟩
  repeat' (first | (with_reducible exact Below.refl _ _) | (with_reducible refine K.drewN ?_ _) | (with_reducible refine K.drew ?_) | (with_reducible refine K.alloc ?_ _) | (with_reducible refine K.set ?_ ?_ _) | (simp; done) | (simp; omega))

theorem lessW_eq {a b : Int} (ha : Num a) (hb : Num b) : lessW (L 0 a) (L 1 a) (L 2 a) (L 3 a) (L 0 b) (L 1 b) (L 2 b) (L 3 b) = decide (a < b) := by
  obtain ⟨a1, a2⟩ := ha
  obtain ⟨b1, b2⟩ := hb
  rw [L0, L1, L2, L3, L0, L1, L2, L3]
  unfold lessW
  unfold M at *
  (repeat' split) <;> (first | (symm; rw [decide_eq_false_iff_not]; omega) | (rw [decide_eq_decide]; omega))
theorem less_any {a b : Int} (ha : Num a) (hb : Num b) (w : World) :
    Calls Tryd.prog 27 #[.agg #[.int .u64 (L 0 a), .int .u64 (L 1 a), .int .u64 (L 2 a), .int .u64 (L 3 a)], .agg #[.int .u64 (L 0 b), .int .u64 (L 1 b), .int .u64 (L 2 b), .int .u64 (L 3 b)]] w fun e w' => e = .returned (.bool (decide (a < b))) ∧ Below w.heap.size w w' := by
  rw [← lessW_eq ha hb]; exact less_walk _ _ _ _ _ _ _ _ w
theorem less_true {a b : Int} (ha : Num a) (hb : Num b) (h : a < b) (w : World) :
    Calls Tryd.prog 27 #[.agg #[.int .u64 (L 0 a), .int .u64 (L 1 a), .int .u64 (L 2 a), .int .u64 (L 3 a)], .agg #[.int .u64 (L 0 b), .int .u64 (L 1 b), .int .u64 (L 2 b), .int .u64 (L 3 b)]] w fun e w' => e = .returned (.bool true) ∧ Below w.heap.size w w' := by
  have g := less_any ha hb w
  rw [decide_eq_true h] at g
  exact g
theorem less_false {a b : Int} (ha : Num a) (hb : Num b) (h : ¬ a < b) (w : World) :
    Calls Tryd.prog 27 #[.agg #[.int .u64 (L 0 a), .int .u64 (L 1 a), .int .u64 (L 2 a), .int .u64 (L 3 a)], .agg #[.int .u64 (L 0 b), .int .u64 (L 1 b), .int .u64 (L 2 b), .int .u64 (L 3 b)]] w fun e w' => e = .returned (.bool false) ∧ Below w.heap.size w w' := by
  have g := less_any ha hb w
  rw [decide_eq_false h] at g
  exact g

end Go.Proofs.YtimaaendbfjblabDoor
namespace Go.Proofs.YtimaaendbfjblabDoor
open Go.RowKit
attribute [local go_sem ↓] Go.wp_at_zero Go.wp_at_succ

set_option maxHeartbeats 1000000 in
theorem ref_mod_0 (w : World) : Calls Tryd.prog 16 #[.int .i64 0] w fun e w' => e = .returned (.agg #[.int .u64 (L 0 (md 0)), .int .u64 (L 1 (md 0)), .int .u64 (L 2 (md 0)), .int .u64 (L 3 (md 0))]) ∧ Below w.heap.size w w' := by
  have e0 : L 0 (md 0) = 18446744073709551615 := by decide
  have e1 : L 1 (md 0) = 4294967295 := by decide
  have e2 : L 2 (md 0) = 0 := by decide
  have e3 : L 3 (md 0) = 18446744069414584321 := by decide
  rw [e0, e1, e2, e3]
  go_enter Tryd.func16, Tryd.ntmps16
  go_wp2
  go_returns
  refine ⟨rfl, ?_⟩
  go_grown
set_option maxHeartbeats 1000000 in
theorem ref_mod_1 (w : World) : Calls Tryd.prog 16 #[.int .i64 1] w fun e w' => e = .returned (.agg #[.int .u64 (L 0 (md 1)), .int .u64 (L 1 (md 1)), .int .u64 (L 2 (md 1)), .int .u64 (L 3 (md 1))]) ∧ Below w.heap.size w w' := by
  have e0 : L 0 (md 1) = 17562291160714782033 := by decide
  have e1 : L 1 (md 1) = 13611842547513532036 := by decide
  have e2 : L 2 (md 1) = 18446744073709551615 := by decide
  have e3 : L 3 (md 1) = 18446744069414584320 := by decide
  rw [e0, e1, e2, e3]
  go_enter Tryd.func16, Tryd.ntmps16
  go_wp2
  go_returns
  refine ⟨rfl, ?_⟩
  go_grown
set_option maxHeartbeats 1000000 in
theorem ref_mod_2 (w : World) : Calls Tryd.prog 16 #[.int .i64 2] w fun e w' => e = .returned (.agg #[.int .u64 (L 0 (md 2)), .int .u64 (L 1 (md 2)), .int .u64 (L 2 (md 2)), .int .u64 (L 3 (md 2))]) ∧ Below w.heap.size w w' := by
  have e0 : L 0 (md 2) = 18446744073709551597 := by decide
  have e1 : L 1 (md 2) = 18446744073709551615 := by decide
  have e2 : L 2 (md 2) = 18446744073709551615 := by decide
  have e3 : L 3 (md 2) = 9223372036854775807 := by decide
  rw [e0, e1, e2, e3]
  go_enter Tryd.func16, Tryd.ntmps16
  go_wp2
  go_returns
  refine ⟨rfl, ?_⟩
  go_grown
set_option maxHeartbeats 1000000 in
theorem ref_mod_3 (w : World) : Calls Tryd.prog 16 #[.int .i64 3] w fun e w' => e = .returned (.agg #[.int .u64 (L 0 (md 3)), .int .u64 (L 1 (md 3)), .int .u64 (L 2 (md 3)), .int .u64 (L 3 (md 3))]) ∧ Below w.heap.size w w' := by
  have e0 : L 0 (md 3) = 6346243789798364141 := by decide
  have e1 : L 1 (md 3) = 1503914060200516822 := by decide
  have e2 : L 2 (md 3) = 0 := by decide
  have e3 : L 3 (md 3) = 1152921504606846976 := by decide
  rw [e0, e1, e2, e3]
  go_enter Tryd.func16, Tryd.ntmps16
  go_wp2
  go_returns
  refine ⟨rfl, ?_⟩
  go_grown
set_option maxHeartbeats 1000000 in
theorem ref_mod_none (k : Int) (h : k < 0 ∨ 3 < k) (w : World) : Calls Tryd.prog 16 #[.int .i64 k] w fun e w' => e = .returned (.agg #[.int .u64 (L 0 (md k)), .int .u64 (L 1 (md k)), .int .u64 (L 2 (md k)), .int .u64 (L 3 (md k))]) ∧ Below w.heap.size w w' := by
  have e : md k = 0 := by unfold md; (repeat' split) <;> omega
  have z0 : L 0 0 = 0 := by decide
  have z1 : L 1 0 = 0 := by decide
  have z2 : L 2 0 = 0 := by decide
  have z3 : L 3 0 = 0 := by decide
  rw [e, z0, z1, z2, z3]
  have b0 : (k == 0) = false := beq_eq_false_iff_ne.2 (by omega)
  have b1 : (k == 1) = false := beq_eq_false_iff_ne.2 (by omega)
  have b2 : (k == 2) = false := beq_eq_false_iff_ne.2 (by omega)
  have b3 : (k == 3) = false := beq_eq_false_iff_ne.2 (by omega)
  clear h e z0 z1 z2 z3
  go_enter Tryd.func16, Tryd.ntmps16
  go_wp2
  go_returns
  refine ⟨rfl, ?_⟩
  go_grown
theorem ref_mod_any (k : Int) (w : World) : Calls Tryd.prog 16 #[.int .i64 k] w fun e w' => e = .returned (.agg #[.int .u64 (L 0 (md k)), .int .u64 (L 1 (md k)), .int .u64 (L 2 (md k)), .int .u64 (L 3 (md k))]) ∧ Below w.heap.size w w' := by
  have hk : k = 0 ∨ k = 1 ∨ k = 2 ∨ k = 3 ∨ (k < 0 ∨ 3 < k) := by omega
  rcases hk with rfl | rfl | rfl | rfl | hk
  · exact ref_mod_0 w
  · exact ref_mod_1 w
  · exact ref_mod_2 w
  · exact ref_mod_3 w
  · exact ref_mod_none k hk w

set_option maxHeartbeats 4000000 in
theorem ref_plus_any {m a b : Int} (hm : Num m) (ha : 0 ≤ a) (ha2 : a < m) (hb : 0 ≤ b) (hb2 : b < m) (w : World) :
    Calls Tryd.prog 18 #[.agg #[.int .u64 (L 0 m), .int .u64 (L 1 m), .int .u64 (L 2 m), .int .u64 (L 3 m)], .agg #[.int .u64 (L 0 a), .int .u64 (L 1 a), .int .u64 (L 2 a), .int .u64 (L 3 a)], .agg #[.int .u64 (L 0 b), .int .u64 (L 1 b), .int .u64 (L 2 b), .int .u64 (L 3 b)]] w fun e w' => e = .returned (.agg #[.int .u64 (L 0 ((a + b) % m)), .int .u64 (L 1 ((a + b) % m)), .int .u64 (L 2 ((a + b) % m)), .int .u64 (L 3 ((a + b) % m))]) ∧ Below w.heap.size w w' := by
  have na : Num a := ⟨ha, by have := hm.hi; omega⟩
  have nb : Num b := ⟨hb, by have := hm.hi; omega⟩
  have hmh := hm.hi
  by_cases o : M ≤ a + b
  · have ho : over a b = true := by unfold over; simpa using o
    have hr : (a + b) % m = a + b - m := mod_once (by omega) (by omega)
    rw [hr]
    clear hr o hmh
    go_enter Tryd.func18, Tryd.ntmps18
    go_wp2_with fail
    with_reducible refine Calls.mono (ref_add_any na nb _) ?_
    rw [ho]
    rintro e w1 ⟨rfl, hb1⟩
    have A1 := (((Arr.new w (w.heap.size) rfl 24 (L 0 m) (L 1 m) (L 2 m) (L 3 m)).alloc _).alloc _).alloc _ |>.keep hb1
    have R1 := (ArrW.new _ (w.heap.size + 1 + 1 + 1) (by simp) 24 0 0 0 0).keep hb1
    have hw1 : Below w.heap.size w w1 := K.call (K.alloc (K.alloc (K.alloc (K.alloc (Below.refl _ w) _) _) _) _) hb1
    clear hb1
    have ⟨ka, ka0, ka1, ka2, ka3⟩ := A1
    have ⟨kr, kr0, kr1, kr2, kr3, kf0, kf1, kf2, kf3⟩ := R1
    go_wp2_with fail
    with_reducible refine Calls.mono (ref_sub_walk (a + b) m _) ?_
    clear ka ka0 ka1 ka2 ka3 kr kr0 kr1 kr2 kr3 kf0 kf1 kf2 kf3
    rintro e w3 ⟨rfl, hb3⟩
    have hw3 : Below w.heap.size w w3 := K.call (K.alloc hw1 _) hb3
    have ⟨kr, kr0, kr1, kr2, kr3, kf0, kf1, kf2, kf3⟩ := (R1.alloc _).keep hb3
    clear hb3
    go_wp2_with fail
    exact bodyPost_ret (v := .agg #[.int .u64 (L 0 (a + b - m)), .int .u64 (L 1 (a + b - m)), .int .u64 (L 2 (a + b - m)), .int .u64 (L 3 (a + b - m))]) (by simp [results, Tryd.results18, go_sem, kr, kr0, kr1, kr2, kr3]) rfl ⟨rfl, K.alloc (K.set4 hw3 (by omega) _ _ _ _) _⟩
  · have ho : over a b = false := by unfold over; simpa using o
    have ns : Num (a + b) := ⟨by omega, by omega⟩
    by_cases l : a + b < m
    · have hr : (a + b) % m = a + b := mod_low (by omega) l
      rw [hr]
      clear hr o hmh
      go_enter Tryd.func18, Tryd.ntmps18
      go_wp2_with fail
      with_reducible refine Calls.mono (ref_add_any na nb _) ?_
      rw [ho]
      rintro e w1 ⟨rfl, hb1⟩
      have A1 := (((Arr.new w (w.heap.size) rfl 24 (L 0 m) (L 1 m) (L 2 m) (L 3 m)).alloc _).alloc _).alloc _ |>.keep hb1
      have R1 := (ArrW.new _ (w.heap.size + 1 + 1 + 1) (by simp) 24 0 0 0 0).keep hb1
      have hw1 : Below w.heap.size w w1 := K.call (K.alloc (K.alloc (K.alloc (K.alloc (Below.refl _ w) _) _) _) _) hb1
      clear hb1
      have ⟨ka, ka0, ka1, ka2, ka3⟩ := A1
      have ⟨kr, kr0, kr1, kr2, kr3, kf0, kf1, kf2, kf3⟩ := R1
      go_wp2_with fail
      with_reducible refine Calls.mono (less_true ns hm (by omega) _) ?_
      clear ka ka0 ka1 ka2 ka3 kr kr0 kr1 kr2 kr3 kf0 kf1 kf2 kf3
      rintro e w2 ⟨rfl, hb2⟩
      have A2 := (A1.alloc _).keep hb2
      have R2 := (R1.alloc _).keep hb2
      have S2 := (Arr.new w1 w1.heap.size rfl 24 (L 0 (a + b)) (L 1 (a + b)) (L 2 (a + b)) (L 3 (a + b))).keep hb2
      have hw2 : Below w.heap.size w w2 := K.call (K.alloc hw1 _) hb2
      clear A1 R1 hb2 hw1
      have ⟨ka, ka0, ka1, ka2, ka3⟩ := A2
      have ⟨ks, ks0, ks1, ks2, ks3⟩ := S2
      have ⟨kr, kr0, kr1, kr2, kr3, kf0, kf1, kf2, kf3⟩ := R2
      go_wp2_with fail
      exact bodyPost_ret (v := .agg #[.int .u64 (L 0 (a + b)), .int .u64 (L 1 (a + b)), .int .u64 (L 2 (a + b)), .int .u64 (L 3 (a + b))]) (by simp [results, Tryd.results18, go_sem, kr0, kr1, kr2, kr3]) rfl ⟨rfl, K.set4 hw2 (by omega) _ _ _ _⟩
    · have hr : (a + b) % m = a + b - m := mod_once (by omega) (by omega)
      rw [hr]
      clear hr o hmh
      go_enter Tryd.func18, Tryd.ntmps18
      go_wp2_with fail
      with_reducible refine Calls.mono (ref_add_any na nb _) ?_
      rw [ho]
      rintro e w1 ⟨rfl, hb1⟩
      have A1 := (((Arr.new w (w.heap.size) rfl 24 (L 0 m) (L 1 m) (L 2 m) (L 3 m)).alloc _).alloc _).alloc _ |>.keep hb1
      have R1 := (ArrW.new _ (w.heap.size + 1 + 1 + 1) (by simp) 24 0 0 0 0).keep hb1
      have hw1 : Below w.heap.size w w1 := K.call (K.alloc (K.alloc (K.alloc (K.alloc (Below.refl _ w) _) _) _) _) hb1
      clear hb1
      have ⟨ka, ka0, ka1, ka2, ka3⟩ := A1
      have ⟨kr, kr0, kr1, kr2, kr3, kf0, kf1, kf2, kf3⟩ := R1
      go_wp2_with fail
      with_reducible refine Calls.mono (less_false ns hm (by omega) _) ?_
      clear ka ka0 ka1 ka2 ka3 kr kr0 kr1 kr2 kr3 kf0 kf1 kf2 kf3
      rintro e w2 ⟨rfl, hb2⟩
      have A2 := (A1.alloc _).keep hb2
      have R2 := (R1.alloc _).keep hb2
      have S2 := (Arr.new w1 w1.heap.size rfl 24 (L 0 (a + b)) (L 1 (a + b)) (L 2 (a + b)) (L 3 (a + b))).keep hb2
      have hw2 : Below w.heap.size w w2 := K.call (K.alloc hw1 _) hb2
      clear A1 R1 hb2 hw1
      have ⟨ka, ka0, ka1, ka2, ka3⟩ := A2
      have ⟨ks, ks0, ks1, ks2, ks3⟩ := S2
      have ⟨kr, kr0, kr1, kr2, kr3, kf0, kf1, kf2, kf3⟩ := R2
      go_wp2_with fail
      with_reducible refine Calls.mono (ref_sub_walk (a + b) m _) ?_
      clear ka ka0 ka1 ka2 ka3 kr kr0 kr1 kr2 kr3 kf0 kf1 kf2 kf3 ks ks0 ks1 ks2 ks3
      rintro e w3 ⟨rfl, hb3⟩
      have hw3 : Below w.heap.size w w3 := K.call hw2 hb3
      have ⟨kr, kr0, kr1, kr2, kr3, kf0, kf1, kf2, kf3⟩ := R2.keep hb3
      clear hb3
      go_wp2_with fail
      exact bodyPost_ret (v := .agg #[.int .u64 (L 0 (a + b - m)), .int .u64 (L 1 (a + b - m)), .int .u64 (L 2 (a + b - m)), .int .u64 (L 3 (a + b - m))]) (by simp [results, Tryd.results18, go_sem, kr, kr0, kr1, kr2, kr3]) rfl ⟨rfl, K.alloc (K.set4 hw3 (by omega) _ _ _ _) _⟩
end Go.Proofs.YtimaaendbfjblabDoor
namespace Go.Proofs.YtimaaendbfjblabDoor
open Go.RowKit
attribute [local go_sem ↓] Go.wp_at_zero Go.wp_at_succ
attribute [local go_sem] eq4

/-- What the loop keeps: the number, the place of the answer, the modulus. -/
structure FoldS (w wr : World) (n : Nat) (x m : Int) : Prop where
  below : Below w.heap.size w wr
  X : ArrW wr (w.heap.size) (L 0 x) (L 1 x) (L 2 x) (L 3 x)
  R : ArrW wr (w.heap.size + 1) 0 0 0 0
  D : Arr wr n (L 0 m) (L 1 m) (L 2 m) (L 3 m)
theorem FoldS.call {w wr w1 : World} {n : Nat} {x m : Int} (h : FoldS w wr n x m) (hk : Below wr.heap.size wr w1) : FoldS w w1 n x m :=
  ⟨K.call h.below hk, h.X.keep hk, h.R.keep hk, h.D.keep hk⟩
theorem FoldS.alloc {w wr : World} {n : Nat} {x m : Int} (h : FoldS w wr n x m) (o : Obj) : FoldS w (wr.alloc o) n x m :=
  ⟨K.alloc h.below o, h.X.alloc o, h.R.alloc o, h.D.alloc o⟩
theorem FoldS.store {w wr : World} {n : Nat} {x m : Int} (h : FoldS w wr n x m) (hn : w.heap.size + 1 < n) (y : Int) : FoldS w ((((wr.setCell ⟨w.heap.size, 0, none⟩ (.int .u64 (L 0 y))).setCell ⟨w.heap.size, 1, none⟩ (.int .u64 (L 1 y))).setCell ⟨w.heap.size, 2, none⟩ (.int .u64 (L 2 y))).setCell ⟨w.heap.size, 3, none⟩ (.int .u64 (L 3 y))) n y m :=
  ⟨K.set4 h.below (Nat.le_refl _) _ _ _ _, h.X.stored _ _ _ _, h.R.set4 (by omega) _ _ _ _, h.D.set4 (by omega) _ _ _ _⟩

set_option maxHeartbeats 4000000 in
theorem ref_fold_any {k a : Int} (ha : Num a) (hm : 0 < md k) (hl : (L 0 (md k) == 0) = false) (w : World) :
    Calls Tryd.prog 17 #[.int .i64 k, .agg #[.int .u64 (L 0 a), .int .u64 (L 1 a), .int .u64 (L 2 a), .int .u64 (L 3 a)]] w fun e w' => e = .returned (.agg #[.int .u64 (L 0 (a % md k)), .int .u64 (L 1 (a % md k)), .int .u64 (L 2 (a % md k)), .int .u64 (L 3 (a % md k))]) ∧ Below w.heap.size w w' := by
  have nm := md_num k
  go_enter Tryd.func17, Tryd.ntmps17
  go_wp2_with fail
  with_reducible refine Calls.mono (ref_mod_any k _) ?_
  rintro e w1 ⟨rfl, hb1⟩
  have A1 := ((ArrW.new w (w.heap.size) rfl 24 (L 0 a) (L 1 a) (L 2 a) (L 3 a)).alloc _).keep hb1
  have R1 := (ArrW.new _ (w.heap.size + 1) (by simp) 24 0 0 0 0).keep hb1
  have hw1 : Below w.heap.size w w1 := K.call (K.alloc (K.alloc (Below.refl _ w) _) _) hb1
  have hS1 : FoldS w (w1.alloc (.cells #[.int .u64 (L 0 (md k)), .int .u64 (L 1 (md k)), .int .u64 (L 2 (md k)), .int .u64 (L 3 (md k))] 24)) w1.heap.size a (md k) := ⟨K.alloc hw1 _, A1.alloc _, R1.alloc _, Arr.new w1 w1.heap.size rfl 24 _ _ _ _⟩
  have hn : w.heap.size + 1 < w1.heap.size := R1.lt
  clear A1 R1 hw1 hb1
  generalize hmd : md k = m at *
  have HM : Hid (md k = m) := hmd
  clear hmd
  go_wp2_with fail
  go_loopg [] a.toNat (fun g wr => ∃ x : Int, g = x.toNat ∧ Num x ∧ x % m = a % m ∧ FoldS w wr w1.heap.size x m)
  case atStart => exact ⟨a, rfl, ha, rfl, hS1⟩
  case round =>
    obtain ⟨x, hg, nx, hxm, hS⟩ := hrel
    have HG : Hid (gk = x.toNat) := hg
    have HX : Hid (x % m = a % m) := hxm
    clear hg hxm hS1
    have hS0 := hS
    obtain ⟨hbw, ⟨xl, x0, x1, x2, x3, xf0, xf1, xf2, xf3⟩, ⟨rl, r0, r1, r2, r3, rf0, rf1, rf2, rf3⟩, ⟨ml, m0, m1, m2, m3⟩⟩ := hS0
    by_cases hlt : x < m
    · have HE : Hid (x = a % m) := by rw [← HX.out]; exact (Int.emod_eq_of_lt nx.lo hlt).symm
      go_wp2_with fail
      with_reducible refine Calls.mono (less_true nx nm (by omega) _) ?_
      clear hbw xl x0 x1 x2 x3 xf0 xf1 xf2 xf3 rl r0 r1 r2 r3 rf0 rf1 rf2 rf3 ml m0 m1 m2 m3
      rintro e w2 ⟨rfl, hb2⟩
      have hS2 := hS.call hb2
      clear hS hb2
      have hS0 := hS2
      obtain ⟨hbw, ⟨xl, x0, x1, x2, x3, xf0, xf1, xf2, xf3⟩, ⟨rl, r0, r1, r2, r3, rf0, rf1, rf2, rf3⟩, ⟨ml, m0, m1, m2, m3⟩⟩ := hS0
      go_wp2_with fail
      refine bodyPost_ret (v := .agg #[.int .u64 (L 0 x), .int .u64 (L 1 x), .int .u64 (L 2 x), .int .u64 (L 3 x)]) (by simp [results, Tryd.results17, go_sem, r0, r1, r2, r3]) rfl ⟨?_, K.set4 hS2.below (by omega) _ _ _ _⟩
      rw [HM.out, ← HE.out]
    · go_wp2_with fail
      with_reducible refine Calls.mono (less_false nx nm (by omega) _) ?_
      clear hbw xl x0 x1 x2 x3 xf0 xf1 xf2 xf3 rl r0 r1 r2 r3 rf0 rf1 rf2 rf3 ml m0 m1 m2 m3
      rintro e w2 ⟨rfl, hb2⟩
      have hS2 := hS.call hb2
      clear hS hb2
      have hS0 := hS2
      obtain ⟨hbw, ⟨xl, x0, x1, x2, x3, xf0, xf1, xf2, xf3⟩, ⟨rl, r0, r1, r2, r3, rf0, rf1, rf2, rf3⟩, ⟨ml, m0, m1, m2, m3⟩⟩ := hS0
      go_wp2_with fail
      with_reducible refine Calls.mono (ref_sub_walk x m _) ?_
      clear hbw xl x0 x1 x2 x3 xf0 xf1 xf2 xf3 rl r0 r1 r2 r3 rf0 rf1 rf2 rf3 ml m0 m1 m2 m3
      rintro e w3 ⟨rfl, hb3⟩
      have hS3 := hS2.call hb3
      clear hS2 hb3
      have hS0 := hS3
      obtain ⟨hbw, ⟨xl, x0, x1, x2, x3, xf0, xf1, xf2, xf3⟩, ⟨rl, r0, r1, r2, r3, rf0, rf1, rf2, rf3⟩, ⟨ml, m0, m1, m2, m3⟩⟩ := hS0
      go_wp2_with fail
      go_roundg (x - m).toNat
      case measure => rw [HG.out]; have := nx.lo; omega
      case rel => exact ⟨x - m, rfl, ⟨by omega, by have := nx.hi; omega⟩, by rw [Int.sub_emod_right]; exact HX.out, (hS3.store hn (x - m)).alloc _⟩
end Go.Proofs.YtimaaendbfjblabDoor
