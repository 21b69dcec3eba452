/- The walk of the statement LimbFull: for each number of four words it answers true. -/
import Derived.Test.YtehlkgpoekpllabArr
namespace Go.Proofs.Ytehlkgpoekpllab
open Go.RowKit
attribute [local go_sem ↓] Go.wp_at_zero Go.wp_at_succ
attribute [local go_sem] eq4

/-- What a number lacks to 2^256 - 1. -/
def lack (a : Int) : Int := 115792089237316195423570985008687907853269984665640564039457584007913129639935 - a
theorem lack_num {a : Int} (h : Num a) : Num (lack a) := by
  obtain ⟨h1, h2⟩ := h
  unfold lack
  exact ⟨by unfold M at h2; omega, by unfold M; omega⟩
theorem lack0 (a : Int) : L 0 (lack a) = 18446744073709551615 - L 0 a := by rw [L0, L0]; unfold lack; omega
theorem lack1 (a : Int) : L 1 (lack a) = 18446744073709551615 - L 1 a := by rw [L1, L1]; unfold lack; omega
theorem lack2 (a : Int) : L 2 (lack a) = 18446744073709551615 - L 2 a := by rw [L2, L2]; unfold lack; omega
theorem lack3 (a : Int) : L 3 (lack a) = 18446744073709551615 - L 3 a := by rw [L3, L3]; unfold lack; omega
theorem full_eq (a : Int) : a + lack a = 115792089237316195423570985008687907853269984665640564039457584007913129639935 := by unfold lack; omega
theorem full_num : Num 115792089237316195423570985008687907853269984665640564039457584007913129639935 := ⟨by omega, by unfold M; omega⟩
theorem full0 : L 0 115792089237316195423570985008687907853269984665640564039457584007913129639935 = 18446744073709551615 := by decide
theorem full1 : L 1 115792089237316195423570985008687907853269984665640564039457584007913129639935 = 18446744073709551615 := by decide
theorem full2 : L 2 115792089237316195423570985008687907853269984665640564039457584007913129639935 = 18446744073709551615 := by decide
theorem full3 : L 3 115792089237316195423570985008687907853269984665640564039457584007913129639935 = 18446744073709551615 := by decide

theorem add_lack {a : Int} (ha : Num a) (w : World) :
    Calls Try.prog 4 #[.agg #[.int .u64 (L 0 a), .int .u64 (L 1 a), .int .u64 (L 2 a), .int .u64 (L 3 a)], .agg #[.int .u64 (18446744073709551615 - L 0 a), .int .u64 (18446744073709551615 - L 1 a), .int .u64 (18446744073709551615 - L 2 a), .int .u64 (18446744073709551615 - L 3 a)]] w fun e w' =>
      e = .returned (.tuple #[.agg #[.int .u64 18446744073709551615, .int .u64 18446744073709551615, .int .u64 18446744073709551615, .int .u64 18446744073709551615], .bool false]) ∧ Below w.heap.size w w' := by
  have h := add_any ha (lack_num ha) w
  have o : over a (lack a) = false := by unfold over; rw [full_eq]; decide
  rw [lack0, lack1, lack2, lack3, full_eq, full0, full1, full2, full3, o] at h
  exact h
theorem add_one (w : World) :
    Calls Try.prog 4 #[.agg #[.int .u64 18446744073709551615, .int .u64 18446744073709551615, .int .u64 18446744073709551615, .int .u64 18446744073709551615], .agg #[.int .u64 1, .int .u64 0, .int .u64 0, .int .u64 0]] w fun e w' =>
      e = .returned (.tuple #[.agg #[.int .u64 0, .int .u64 0, .int .u64 0, .int .u64 0], .bool true]) ∧ Below w.heap.size w w' := by
  have h := add_any full_num (b := 1) ⟨by decide, by decide⟩ w
  have o : over 115792089237316195423570985008687907853269984665640564039457584007913129639935 1 = true := by decide
  have e0 : L 0 1 = 1 := by decide
  have e1 : L 1 1 = 0 := by decide
  have e2 : L 2 1 = 0 := by decide
  have e3 : L 3 1 = 0 := by decide
  have f0 : L 0 (115792089237316195423570985008687907853269984665640564039457584007913129639935 + 1) = 0 := by decide
  have f1 : L 1 (115792089237316195423570985008687907853269984665640564039457584007913129639935 + 1) = 0 := by decide
  have f2 : L 2 (115792089237316195423570985008687907853269984665640564039457584007913129639935 + 1) = 0 := by decide
  have f3 : L 3 (115792089237316195423570985008687907853269984665640564039457584007913129639935 + 1) = 0 := by decide
  rw [full0, full1, full2, full3, e0, e1, e2, e3, f0, f1, f2, f3, o] at h
  exact h
theorem sub_lack {a : Int} (ha : Num a) (w : World) :
    Calls Try.prog 5 #[.agg #[.int .u64 18446744073709551615, .int .u64 18446744073709551615, .int .u64 18446744073709551615, .int .u64 18446744073709551615], .agg #[.int .u64 (L 0 a), .int .u64 (L 1 a), .int .u64 (L 2 a), .int .u64 (L 3 a)]] w fun e w' =>
      e = .returned (.tuple #[.agg #[.int .u64 (18446744073709551615 - L 0 a), .int .u64 (18446744073709551615 - L 1 a), .int .u64 (18446744073709551615 - L 2 a), .int .u64 (18446744073709551615 - L 3 a)], .bool false]) ∧ Below w.heap.size w w' := by
  have h := sub_any full_num ha w
  have o : under 115792089237316195423570985008687907853269984665640564039457584007913129639935 a = false := by
    obtain ⟨h1, h2⟩ := ha
    unfold under; unfold M at h2; simp; omega
  have e : 115792089237316195423570985008687907853269984665640564039457584007913129639935 - a = lack a := rfl
  rw [e, lack0, lack1, lack2, lack3, full0, full1, full2, full3, o] at h
  exact h

set_option maxHeartbeats 2000000 in
theorem full_walk {a : Int} (ha : Num a) (w : World) :
    Calls Try.prog 3 #[.agg #[.int .u64 (L 0 a), .int .u64 (L 1 a), .int .u64 (L 2 a), .int .u64 (L 3 a)]] w fun e w' => e = .returned (.bool true) ∧ Below w.heap.size w w' := by
  have a0 := L_lo 0 a
  have b0 := L_hi 0 a
  have a1 := L_lo 1 a
  have b1 := L_hi 1 a
  have a2 := L_lo 2 a
  have b2 := L_hi 2 a
  have a3 := L_lo 3 a
  have b3 := L_hi 3 a
  go_enter Try.func3, Try.ntmps3
  go_wp2_with fail
  refine (add_lack ha _).mono ?_
  rintro e w1 ⟨rfl, hb1⟩
  have A1 := (((Arr.new w (w.heap.size) rfl 24 (L 0 a) (L 1 a) (L 2 a) (L 3 a)).alloc _).alloc _).keep hb1
  have F1 := ((Arr.new _ (w.heap.size + 1) (by simp) 24 18446744073709551615 18446744073709551615 18446744073709551615 18446744073709551615).alloc _).keep hb1
  have B1 := (Arr.new _ (w.heap.size + 1 + 1) (by simp) 24 (18446744073709551615 - L 0 a) (18446744073709551615 - L 1 a) (18446744073709551615 - L 2 a) (18446744073709551615 - L 3 a)).keep hb1
  go_wp2_with fail
  refine (add_one _).mono ?_
  rintro e w2 ⟨rfl, hb2⟩
  have A2 := (A1.alloc _).keep hb2
  have F2 := (F1.alloc _).keep hb2
  have B2 := (B1.alloc _).keep hb2
  have S2 := (Arr.new w1 w1.heap.size rfl 24 18446744073709551615 18446744073709551615 18446744073709551615 18446744073709551615).keep hb2
  have ⟨a2, a20, a21, a22, a23⟩ := A2
  have ⟨f2, f20, f21, f22, f23⟩ := F2
  go_wp2_with fail
  refine (sub_lack ha _).mono ?_
  clear a2 a20 a21 a22 a23 f2 f20 f21 f22 f23
  rintro e w3 ⟨rfl, hb3⟩
  have F3 := (F2.alloc _).keep hb3
  have B3 := (B2.alloc _).keep hb3
  have S3 := (S2.alloc _).keep hb3
  have T3 := (Arr.new w2 w2.heap.size rfl 24 0 0 0 0).keep hb3
  go_wp2_with fail
  refine (awake_any _).mono ?_
  rintro e w4 ⟨rfl, hb4⟩
  have D4 := (Arr.new w3 w3.heap.size rfl 24 (18446744073709551615 - L 0 a) (18446744073709551615 - L 1 a) (18446744073709551615 - L 2 a) (18446744073709551615 - L 3 a)).keep hb4
  have ⟨f4, f40, f41, f42, f43⟩ := (F3.alloc _).keep hb4
  have ⟨b4, b40, b41, b42, b43⟩ := (B3.alloc _).keep hb4
  have ⟨s4, s40, s41, s42, s43⟩ := (S3.alloc _).keep hb4
  have ⟨t4, t40, t41, t42, t43⟩ := (T3.alloc _).keep hb4
  have ⟨d4, d40, d41, d42, d43⟩ := D4
  go_wp2_with fail
  go_ret
  exact ⟨rfl, K.call (K.alloc (K.call (K.alloc (K.call (K.alloc (K.call (K.alloc (K.alloc (K.alloc (Below.refl _ w) _) _) _) hb1) _) hb2) _) hb3) _) hb4⟩
end Go.Proofs.Ytehlkgpoekpllab
