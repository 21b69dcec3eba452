/- The walk of the statement LimbBack: of all two numbers it answers true. -/
import Derived.Test.YtehlkgpoekpllaaCmpAny
namespace Go.Proofs.Ytehlkgpoekpllaa
open Go.RowKit
attribute [local go_sem ↓] Go.wp_at_zero Go.wp_at_succ
attribute [local go_sem] eq4

theorem over_comm (a b : Int) : over b a = over a b := by unfold over; rw [Int.add_comm]
theorem add_turn {a b : Int} (ha : Num a) (hb : Num b) (w : World) :
    Calls Try.prog 9 #[.agg #[.int .u64 (L 0 b), .int .u64 (L 1 b), .int .u64 (L 2 b), .int .u64 (L 3 b)], .agg #[.int .u64 (L 0 a), .int .u64 (L 1 a), .int .u64 (L 2 a), .int .u64 (L 3 a)]] w fun e w' =>
      e = .returned (.tuple #[.agg #[.int .u64 (L 0 (a + b)), .int .u64 (L 1 (a + b)), .int .u64 (L 2 (a + b)), .int .u64 (L 3 (a + b))], .bool (over a b)]) ∧ Below w.heap.size w w' := by
  have h := add_any hb ha w
  rw [over_comm, Int.add_comm b a] at h
  exact h
/-- What goes round: the same words. -/
theorem L_round0 (a : Int) : L 0 (a - M) = L 0 a := by rw [L0, L0]; unfold M; omega
theorem L_round1 (a : Int) : L 1 (a - M) = L 1 a := by rw [L1, L1]; unfold M; omega
theorem L_round2 (a : Int) : L 2 (a - M) = L 2 a := by rw [L2, L2]; unfold M; omega
theorem L_round3 (a : Int) : L 3 (a - M) = L 3 a := by rw [L3, L3]; unfold M; omega
/-- The sum, as a number of four words. -/
def sumR (a b : Int) : Int := if M ≤ a + b then a + b - M else a + b
theorem sumR_num {a b : Int} (ha : Num a) (hb : Num b) : Num (sumR a b) := by
  obtain ⟨a1, a2⟩ := ha
  obtain ⟨b1, b2⟩ := hb
  unfold sumR
  split
  · exact ⟨by omega, by unfold M at *; omega⟩
  · exact ⟨by omega, by omega⟩
theorem sumR0 (a b : Int) : L 0 (sumR a b) = L 0 (a + b) := by unfold sumR; split; exact L_round0 _; rfl
theorem sumR1 (a b : Int) : L 1 (sumR a b) = L 1 (a + b) := by unfold sumR; split; exact L_round1 _; rfl
theorem sumR2 (a b : Int) : L 2 (sumR a b) = L 2 (a + b) := by unfold sumR; split; exact L_round2 _; rfl
theorem sumR3 (a b : Int) : L 3 (sumR a b) = L 3 (a + b) := by unfold sumR; split; exact L_round3 _; rfl
theorem back0 (a b : Int) : L 0 (sumR a b - b) = L 0 a := by
  unfold sumR; split
  · rw [show a + b - M - b = a - M by omega]; exact L_round0 a
  · rw [show a + b - b = a by omega]
theorem back1 (a b : Int) : L 1 (sumR a b - b) = L 1 a := by
  unfold sumR; split
  · rw [show a + b - M - b = a - M by omega]; exact L_round1 a
  · rw [show a + b - b = a by omega]
theorem back2 (a b : Int) : L 2 (sumR a b - b) = L 2 a := by
  unfold sumR; split
  · rw [show a + b - M - b = a - M by omega]; exact L_round2 a
  · rw [show a + b - b = a by omega]
theorem back3 (a b : Int) : L 3 (sumR a b - b) = L 3 a := by
  unfold sumR; split
  · rw [show a + b - M - b = a - M by omega]; exact L_round3 a
  · rw [show a + b - b = a by omega]
theorem back_under {a b : Int} (ha : Num a) (hb : Num b) : under (sumR a b) b = over a b := by
  obtain ⟨a1, a2⟩ := ha
  obtain ⟨b1, b2⟩ := hb
  unfold under over sumR
  split <;> simp [*] <;> omega
theorem sub_back {a b : Int} (ha : Num a) (hb : Num b) (w : World) :
    Calls Try.prog 11 #[.agg #[.int .u64 (L 0 (a + b)), .int .u64 (L 1 (a + b)), .int .u64 (L 2 (a + b)), .int .u64 (L 3 (a + b))], .agg #[.int .u64 (L 0 b), .int .u64 (L 1 b), .int .u64 (L 2 b), .int .u64 (L 3 b)]] w fun e w' =>
      e = .returned (.tuple #[.agg #[.int .u64 (L 0 a), .int .u64 (L 1 a), .int .u64 (L 2 a), .int .u64 (L 3 a)], .bool (over a b)]) ∧ Below w.heap.size w w' := by
  have h := sub_any (sumR_num ha hb) hb w
  rw [sumR0, sumR1, sumR2, sumR3, back0, back1, back2, back3, back_under ha hb] at h
  exact h
theorem sub_self {a : Int} (ha : Num a) (w : World) :
    Calls Try.prog 11 #[.agg #[.int .u64 (L 0 a), .int .u64 (L 1 a), .int .u64 (L 2 a), .int .u64 (L 3 a)], .agg #[.int .u64 (L 0 a), .int .u64 (L 1 a), .int .u64 (L 2 a), .int .u64 (L 3 a)]] w fun e w' =>
      e = .returned (.tuple #[.agg #[.int .u64 0, .int .u64 0, .int .u64 0, .int .u64 0], .bool false]) ∧ Below w.heap.size w w' := by
  have h := sub_any ha ha w
  have e0 : L 0 0 = 0 := by decide
  have e1 : L 1 0 = 0 := by decide
  have e2 : L 2 0 = 0 := by decide
  have e3 : L 3 0 = 0 := by decide
  have u : under a a = false := by unfold under; simp
  rw [Int.sub_self, e0, e1, e2, e3, u] at h
  exact h
theorem under_cmp (a b : Int) : under a b = decide (cmp a b < 0) := by
  unfold under cmp
  by_cases h : a < b
  · simp [h]
  · by_cases g : b < a <;> simp [h, g]


theorem sub_told {a b : Int} (ha : Num a) (hb : Num b) (w : World) :
    Calls Try.prog 11 #[.agg #[.int .u64 (L 0 a), .int .u64 (L 1 a), .int .u64 (L 2 a), .int .u64 (L 3 a)], .agg #[.int .u64 (L 0 b), .int .u64 (L 1 b), .int .u64 (L 2 b), .int .u64 (L 3 b)]] w fun e w' =>
      e = .returned (.tuple #[.agg #[.int .u64 (L 0 (a - b)), .int .u64 (L 1 (a - b)), .int .u64 (L 2 (a - b)), .int .u64 (L 3 (a - b))], .bool (decide (cmp a b < 0))]) ∧ Below w.heap.size w w' := by
  have h := sub_any ha hb w
  rw [under_cmp] at h
  exact h
theorem cmp_lo (a b : Int) : -1 ≤ cmp a b := by unfold cmp; (repeat' split) <;> omega
theorem cmp_hi (a b : Int) : cmp a b ≤ 1 := by unfold cmp; (repeat' split) <;> omega
theorem cmp_wrap (a b : Int) : IntKind.i64.wrap (cmp a b) = cmp a b := by
  have h1 := cmp_lo a b
  have h2 := cmp_hi a b
  exact IntWalk.i64_in _ (by omega)
theorem cmp_neg (a b : Int) : cmp b a = -cmp a b := by unfold cmp; (repeat' split) <;> omega
theorem cmp_turn {a b : Int} (ha : Num a) (hb : Num b) (w : World) :
    Calls Try.prog 14 #[.agg #[.int .u64 (L 0 b), .int .u64 (L 1 b), .int .u64 (L 2 b), .int .u64 (L 3 b)], .agg #[.int .u64 (L 0 a), .int .u64 (L 1 a), .int .u64 (L 2 a), .int .u64 (L 3 a)]] w fun e w' =>
      e = .returned (.int .i64 (-cmp a b)) ∧ Below w.heap.size w w' := by
  rw [← cmp_neg]; exact cmp_any hb ha w

set_option maxHeartbeats 4000000 in
theorem back_walk {a b : Int} (ha : Num a) (hb : Num b) (w : World) :
    Calls Try.prog 5 #[.agg #[.int .u64 (L 0 a), .int .u64 (L 1 a), .int .u64 (L 2 a), .int .u64 (L 3 a)], .agg #[.int .u64 (L 0 b), .int .u64 (L 1 b), .int .u64 (L 2 b), .int .u64 (L 3 b)]] w fun e w' => e = .returned (.bool true) ∧ Below w.heap.size w w' := by
  have c1 := cmp_lo a b
  have c2 := cmp_hi a b
  have c3 := cmp_wrap a b
  go_enter Try.func5, Try.ntmps5
  go_wp2_with fail
  with_reducible refine Calls.mono (add_any ha hb _) ?_
  rintro e w1 ⟨rfl, hb1⟩
  have A1 := ((Arr.new w (w.heap.size) rfl 24 (L 0 a) (L 1 a) (L 2 a) (L 3 a)).alloc _).keep hb1
  have B1 := (Arr.new _ (w.heap.size + 1) (by simp) 24 (L 0 b) (L 1 b) (L 2 b) (L 3 b)).keep hb1
  have ⟨k1a, k1a0, k1a1, k1a2, k1a3⟩ := A1
  have ⟨k1b, k1b0, k1b1, k1b2, k1b3⟩ := B1
  go_wp2_with fail
  with_reducible refine Calls.mono (add_turn ha hb _) ?_
  clear k1a k1a0 k1a1 k1a2 k1a3 k1b k1b0 k1b1 k1b2 k1b3
  rintro e w2 ⟨rfl, hb2⟩
  have A2 := (A1.alloc _).keep hb2
  have B2 := (B1.alloc _).keep hb2
  have S2 := (Arr.new w1 w1.heap.size rfl 24 (L 0 (a + b)) (L 1 (a + b)) (L 2 (a + b)) (L 3 (a + b))).keep hb2
  have ⟨k1b, k1b0, k1b1, k1b2, k1b3⟩ := B2
  have ⟨k1s, k1s0, k1s1, k1s2, k1s3⟩ := S2
  go_wp2_with fail
  with_reducible refine Calls.mono (sub_back ha hb _) ?_
  clear k1s k1s0 k1s1 k1s2 k1s3 k1b k1b0 k1b1 k1b2 k1b3
  rintro e w3 ⟨rfl, hb3⟩
  have A3 := (A2.alloc _).keep hb3
  have B3 := (B2.alloc _).keep hb3
  have S3 := (S2.alloc _).keep hb3
  have T3 := (Arr.new w2 w2.heap.size rfl 24 (L 0 (a + b)) (L 1 (a + b)) (L 2 (a + b)) (L 3 (a + b))).keep hb3
  have ⟨k1a, k1a0, k1a1, k1a2, k1a3⟩ := A3
  have ⟨k1b, k1b0, k1b1, k1b2, k1b3⟩ := B3
  go_wp2_with fail
  with_reducible refine Calls.mono (sub_told ha hb _) ?_
  clear k1a k1a0 k1a1 k1a2 k1a3 k1b k1b0 k1b1 k1b2 k1b3
  rintro e w4 ⟨rfl, hb4⟩
  have A4 := (A3.alloc _).keep hb4
  have B4 := (B3.alloc _).keep hb4
  have S4 := (S3.alloc _).keep hb4
  have T4 := (T3.alloc _).keep hb4
  have X4 := (Arr.new w3 w3.heap.size rfl 24 (L 0 a) (L 1 a) (L 2 a) (L 3 a)).keep hb4
  have ⟨k1a, k1a0, k1a1, k1a2, k1a3⟩ := A4
  go_wp2_with fail
  with_reducible refine Calls.mono (sub_self ha _) ?_
  clear k1a k1a0 k1a1 k1a2 k1a3
  rintro e w5 ⟨rfl, hb5⟩
  have ⟨k1a, k1a0, k1a1, k1a2, k1a3⟩ := (A4.alloc _).keep hb5
  have ⟨k1b, k1b0, k1b1, k1b2, k1b3⟩ := (B4.alloc _).keep hb5
  have ⟨k1s, k1s0, k1s1, k1s2, k1s3⟩ := (S4.alloc _).keep hb5
  have ⟨k1t, k1t0, k1t1, k1t2, k1t3⟩ := (T4.alloc _).keep hb5
  have ⟨k1x, k1x0, k1x1, k1x2, k1x3⟩ := (X4.alloc _).keep hb5
  have hw5 : Below w.heap.size w w5 := K.call (K.alloc (K.call (K.alloc (K.call (K.alloc (K.call (K.alloc (K.call (K.alloc (K.alloc (Below.refl _ w) _) _) hb1) _) hb2) _) hb3) _) hb4) _) hb5
  clear A1 B1 A2 B2 S2 A3 B3 S3 T3 A4 B4 S4 T4 X4 hb1 hb2 hb3 hb4 hb5
  go_wp2_with fail
  go_region_held3 (fun w' => Below w.heap.size w w' ∧ w'.cell? ⟨w.heap.size, 0, none⟩ = some (.int .u64 (L 0 a)) ∧ w'.cell? ⟨w.heap.size, 1, none⟩ = some (.int .u64 (L 1 a)) ∧ w'.cell? ⟨w.heap.size, 2, none⟩ = some (.int .u64 (L 2 a)) ∧ w'.cell? ⟨w.heap.size, 3, none⟩ = some (.int .u64 (L 3 a)) ∧ w'.cell? ⟨w.heap.size + 1, 0, none⟩ = some (.int .u64 (L 0 b)) ∧ w'.cell? ⟨w.heap.size + 1, 1, none⟩ = some (.int .u64 (L 1 b)) ∧ w'.cell? ⟨w.heap.size + 1, 2, none⟩ = some (.int .u64 (L 2 b)) ∧ w'.cell? ⟨w.heap.size + 1, 3, none⟩ = some (.int .u64 (L 3 b)) ∧ w'.cell? ⟨w1.heap.size, 0, none⟩ = some (.int .u64 (L 0 (a + b))) ∧ w'.cell? ⟨w1.heap.size, 1, none⟩ = some (.int .u64 (L 1 (a + b))) ∧ w'.cell? ⟨w1.heap.size, 2, none⟩ = some (.int .u64 (L 2 (a + b))) ∧ w'.cell? ⟨w1.heap.size, 3, none⟩ = some (.int .u64 (L 3 (a + b))) ∧ w'.cell? ⟨w2.heap.size, 0, none⟩ = some (.int .u64 (L 0 (a + b))) ∧ w'.cell? ⟨w2.heap.size, 1, none⟩ = some (.int .u64 (L 1 (a + b))) ∧ w'.cell? ⟨w2.heap.size, 2, none⟩ = some (.int .u64 (L 2 (a + b))) ∧ w'.cell? ⟨w2.heap.size, 3, none⟩ = some (.int .u64 (L 3 (a + b))) ∧ w'.cell? ⟨w3.heap.size, 0, none⟩ = some (.int .u64 (L 0 a)) ∧ w'.cell? ⟨w3.heap.size, 1, none⟩ = some (.int .u64 (L 1 a)) ∧ w'.cell? ⟨w3.heap.size, 2, none⟩ = some (.int .u64 (L 2 a)) ∧ w'.cell? ⟨w3.heap.size, 3, none⟩ = some (.int .u64 (L 3 a)) ∧ w'.cell? ⟨w5.heap.size, 0, none⟩ = some (.int .u64 0) ∧ w'.cell? ⟨w5.heap.size, 1, none⟩ = some (.int .u64 0) ∧ w'.cell? ⟨w5.heap.size, 2, none⟩ = some (.int .u64 0) ∧ w'.cell? ⟨w5.heap.size, 3, none⟩ = some (.int .u64 0))
    ((go_split_ands; (repeat' apply And.intro) <;> first | assumption | (exact later hk (by assumption)) | (exact K.call (by assumption) hk) | (exact later_ad (by assumption)) | (simp [go_sem]; done) | (repeat' (first | assumption | exact Below.refl _ _ | refine K.drewN ?_ _ | refine K.drew ?_ | refine K.alloc ?_ _))))
    (first
      | (go_at_call 13; with_reducible refine Calls.mono (awake_any _) ?_; rintro e w' ⟨rfl, hk⟩)
      | (go_at_call 14; with_reducible refine Calls.mono (cmp_any ha hb _) ?_; rintro e w' ⟨rfl, hk⟩)
      | (go_at_call 14; with_reducible refine Calls.mono (cmp_turn ha hb _) ?_; rintro e w' ⟨rfl, hk⟩))
  have hH := ‹Below _ _ _ ∧ _›
  go_wp2
  go_ret
  exact ⟨rfl, hH.1⟩
end Go.Proofs.Ytehlkgpoekpllaa
