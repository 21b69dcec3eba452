/- FieldPower, walked: a sum of exponents is a product of powers. -/
import Derived.Test.YtelanboegjgcbabDoorPow
import Derived.Test.YtelanboegjgcbabDoorAwake
import Derived.Deep.DeepCutAuto
namespace Go.Proofs.YtelanboegjgcbabDoor
open Go.RowKit
attribute [local go_sem ↓] Go.wp_at_zero Go.wp_at_succ
attribute [local go_sem] eq4

theorem small_L {x : Int} (h : 0 ≤ x ∧ x < 18446744073709551616) : L 0 x = x ∧ L 1 x = 0 ∧ L 2 x = 0 ∧ L 3 x = 0 := by
  rw [L0, L1, L2, L3]; exact ⟨by omega, by omega, by omega, by omega⟩
theorem f_pow_s {n a x : Int} (hn : 0 ≤ n ∧ n ≤ 3) (ha : Num a) (hx : 0 ≤ x ∧ x < 18446744073709551616) {w : World} (hT : Tab w) : Calls Tryd.prog 6 #[.int .i64 n, .agg #[.int .u64 (L 0 a), .int .u64 (L 1 a), .int .u64 (L 2 a), .int .u64 (L 3 a)], .agg #[.int .u64 x, .int .u64 0, .int .u64 0, .int .u64 0]] w fun e w' => e = .returned (.agg #[.int .u64 (L 0 (pw a x % md n)), .int .u64 (L 1 (pw a x % md n)), .int .u64 (L 2 (pw a x % md n)), .int .u64 (L 3 (pw a x % md n))]) ∧ Below w.heap.size w w' := by
  have h := f_pow (ex := x) hn ha ⟨hx.1, by unfold M; omega⟩ hT
  obtain ⟨e0, e1, e2, e3⟩ := small_L hx
  rw [e0, e1, e2, e3] at h
  exact h
theorem f_mul_pw {n a x y : Int} (hn : 0 ≤ n ∧ n ≤ 3) (hx : 0 ≤ x ∧ x < 18446744073709551616) (hy : 0 ≤ y ∧ y < 18446744073709551616) {w : World} (hT : Tab w) : Calls Tryd.prog 7 #[.int .i64 n, .agg #[.int .u64 (L 0 (pw a x % md n)), .int .u64 (L 1 (pw a x % md n)), .int .u64 (L 2 (pw a x % md n)), .int .u64 (L 3 (pw a x % md n))], .agg #[.int .u64 (L 0 (pw a y % md n)), .int .u64 (L 1 (pw a y % md n)), .int .u64 (L 2 (pw a y % md n)), .int .u64 (L 3 (pw a y % md n))]] w fun e w' => e = .returned (.agg #[.int .u64 (L 0 (pw a (x + y) % md n)), .int .u64 (L 1 (pw a (x + y) % md n)), .int .u64 (L 2 (pw a (x + y) % md n)), .int .u64 (L 3 (pw a (x + y) % md n))]) ∧ Below w.heap.size w w' := by
  have h := f_mul hn (num_f (a := pw a x) hn) (num_f (a := pw a y) hn) hT
  rw [mul_mod_l, mul_mod_r, show pw a x * pw a y = pw a (x + y) by unfold pw; rw [← Int.pow_add]; congr 1; omega] at h
  exact h
theorem f_pow_2 {n a : Int} (hn : 0 ≤ n ∧ n ≤ 3) (ha : Num a) {w : World} (hT : Tab w) : Calls Tryd.prog 6 #[.int .i64 n, .agg #[.int .u64 (L 0 a), .int .u64 (L 1 a), .int .u64 (L 2 a), .int .u64 (L 3 a)], .agg #[.int .u64 2, .int .u64 0, .int .u64 0, .int .u64 0]] w fun e w' => e = .returned (.agg #[.int .u64 (L 0 (a * a % md n)), .int .u64 (L 1 (a * a % md n)), .int .u64 (L 2 (a * a % md n)), .int .u64 (L 3 (a * a % md n))]) ∧ Below w.heap.size w w' := by
  have h := f_pow_s (x := 2) hn ha ⟨by decide, by decide⟩ hT
  rw [show pw a 2 = a * a by unfold pw; rw [show (2 : Int).toNat = 1 + 1 from rfl, Int.pow_succ, Int.pow_succ, Int.pow_zero, Int.one_mul]] at h
  exact h
theorem f_pow_1 {n a : Int} (hn : 0 ≤ n ∧ n ≤ 3) (ha : Num a) {w : World} (hT : Tab w) : Calls Tryd.prog 6 #[.int .i64 n, .agg #[.int .u64 (L 0 a), .int .u64 (L 1 a), .int .u64 (L 2 a), .int .u64 (L 3 a)], .agg #[.int .u64 1, .int .u64 0, .int .u64 0, .int .u64 0]] w fun e w' => e = .returned (.agg #[.int .u64 (L 0 (a % md n)), .int .u64 (L 1 (a % md n)), .int .u64 (L 2 (a % md n)), .int .u64 (L 3 (a % md n))]) ∧ Below w.heap.size w w' := by
  have h := f_pow_s (x := 1) hn ha ⟨by decide, by decide⟩ hT
  rw [show pw a 1 = a by unfold pw; rw [show (1 : Int).toNat = 0 + 1 from rfl, Int.pow_succ, Int.pow_zero, Int.one_mul]] at h
  exact h

set_option maxHeartbeats 8000000 in
theorem power_walk {k a x y : Int} (k0 : 0 ≤ k) (k1 : k ≤ 255) (ha : Num a) (x0 : 0 ≤ x) (x1 : x < 4294967296) (y0 : 0 ≤ y) (y1 : y < 4294967296) {w : World} (hT : Tab w) :
    Calls Tryd.prog 3 #[.int .u8 k, .agg #[.int .u64 (L 0 a), .int .u64 (L 1 a), .int .u64 (L 2 a), .int .u64 (L 3 a)], .agg #[.int .u32 x, .int .u32 y]] w fun e w' => e = .returned (.bool true) ∧ Below w.heap.size w w' := by
  obtain ⟨n, hn, hnk⟩ : ∃ n, (0 ≤ n ∧ n ≤ 3) ∧ k % 4 = n := ⟨_, k_four k, rfl⟩
  have hx : 0 ≤ x ∧ x < 18446744073709551616 := ⟨by omega, by omega⟩
  have hy : 0 ≤ y ∧ y < 18446744073709551616 := ⟨by omega, by omega⟩
  have hxy : 0 ≤ x + y ∧ x + y < 18446744073709551616 := ⟨by omega, by omega⟩
  have C1 : Hid (∀ w : World, Tab w → Calls Tryd.prog 6 #[.int .i64 n, .agg #[.int .u64 (L 0 a), .int .u64 (L 1 a), .int .u64 (L 2 a), .int .u64 (L 3 a)], .agg #[.int .u64 x, .int .u64 0, .int .u64 0, .int .u64 0]] w fun e w' => e = .returned (.agg #[.int .u64 (L 0 (pw a x % md n)), .int .u64 (L 1 (pw a x % md n)), .int .u64 (L 2 (pw a x % md n)), .int .u64 (L 3 (pw a x % md n))]) ∧ Below w.heap.size w w') := fun w hT => f_pow_s hn ha hx hT
  have C2 : Hid (∀ w : World, Tab w → Calls Tryd.prog 6 #[.int .i64 n, .agg #[.int .u64 (L 0 a), .int .u64 (L 1 a), .int .u64 (L 2 a), .int .u64 (L 3 a)], .agg #[.int .u64 y, .int .u64 0, .int .u64 0, .int .u64 0]] w fun e w' => e = .returned (.agg #[.int .u64 (L 0 (pw a y % md n)), .int .u64 (L 1 (pw a y % md n)), .int .u64 (L 2 (pw a y % md n)), .int .u64 (L 3 (pw a y % md n))]) ∧ Below w.heap.size w w') := fun w hT => f_pow_s hn ha hy hT
  have C3 : Hid (∀ w : World, Tab w → Calls Tryd.prog 6 #[.int .i64 n, .agg #[.int .u64 (L 0 a), .int .u64 (L 1 a), .int .u64 (L 2 a), .int .u64 (L 3 a)], .agg #[.int .u64 (x + y), .int .u64 0, .int .u64 0, .int .u64 0]] w fun e w' => e = .returned (.agg #[.int .u64 (L 0 (pw a (x + y) % md n)), .int .u64 (L 1 (pw a (x + y) % md n)), .int .u64 (L 2 (pw a (x + y) % md n)), .int .u64 (L 3 (pw a (x + y) % md n))]) ∧ Below w.heap.size w w') := fun w hT => f_pow_s hn ha hxy hT
  have C4 : Hid (∀ w : World, Tab w → Calls Tryd.prog 7 #[.int .i64 n, .agg #[.int .u64 (L 0 (pw a x % md n)), .int .u64 (L 1 (pw a x % md n)), .int .u64 (L 2 (pw a x % md n)), .int .u64 (L 3 (pw a x % md n))], .agg #[.int .u64 (L 0 (pw a y % md n)), .int .u64 (L 1 (pw a y % md n)), .int .u64 (L 2 (pw a y % md n)), .int .u64 (L 3 (pw a y % md n))]] w fun e w' => e = .returned (.agg #[.int .u64 (L 0 (pw a (x + y) % md n)), .int .u64 (L 1 (pw a (x + y) % md n)), .int .u64 (L 2 (pw a (x + y) % md n)), .int .u64 (L 3 (pw a (x + y) % md n))]) ∧ Below w.heap.size w w') := fun w hT => f_mul_pw hn hx hy hT
  have C5 : Hid (∀ w : World, Tab w → Calls Tryd.prog 6 #[.int .i64 n, .agg #[.int .u64 (L 0 a), .int .u64 (L 1 a), .int .u64 (L 2 a), .int .u64 (L 3 a)], .agg #[.int .u64 2, .int .u64 0, .int .u64 0, .int .u64 0]] w fun e w' => e = .returned (.agg #[.int .u64 (L 0 (a * a % md n)), .int .u64 (L 1 (a * a % md n)), .int .u64 (L 2 (a * a % md n)), .int .u64 (L 3 (a * a % md n))]) ∧ Below w.heap.size w w') := fun w hT => f_pow_2 hn ha hT
  have C6 : Hid (∀ w : World, Tab w → Calls Tryd.prog 7 #[.int .i64 n, .agg #[.int .u64 (L 0 a), .int .u64 (L 1 a), .int .u64 (L 2 a), .int .u64 (L 3 a)], .agg #[.int .u64 (L 0 a), .int .u64 (L 1 a), .int .u64 (L 2 a), .int .u64 (L 3 a)]] w fun e w' => e = .returned (.agg #[.int .u64 (L 0 (a * a % md n)), .int .u64 (L 1 (a * a % md n)), .int .u64 (L 2 (a * a % md n)), .int .u64 (L 3 (a * a % md n))]) ∧ Below w.heap.size w w') := fun w hT => f_mul hn ha ha hT
  have C7 : Hid (∀ w : World, Tab w → Calls Tryd.prog 6 #[.int .i64 n, .agg #[.int .u64 (L 0 a), .int .u64 (L 1 a), .int .u64 (L 2 a), .int .u64 (L 3 a)], .agg #[.int .u64 1, .int .u64 0, .int .u64 0, .int .u64 0]] w fun e w' => e = .returned (.agg #[.int .u64 (L 0 (a % md n)), .int .u64 (L 1 (a % md n)), .int .u64 (L 2 (a % md n)), .int .u64 (L 3 (a % md n))]) ∧ Below w.heap.size w w') := fun w hT => f_pow_1 hn ha hT
  have C8 : Hid (∀ w : World, Tab w → Calls Tryd.prog 8 #[.int .i64 n, .agg #[.int .u64 (L 0 a), .int .u64 (L 1 a), .int .u64 (L 2 a), .int .u64 (L 3 a)]] w fun e w' => e = .returned (.agg #[.int .u64 (L 0 (a % md n)), .int .u64 (L 1 (a % md n)), .int .u64 (L 2 (a % md n)), .int .u64 (L 3 (a % md n))]) ∧ Below w.heap.size w w') := fun w hT => f_fold hn ha hT
  clear ha
  generalize pw a x % md n = px at C1 C2 C3 C4 C5 C6 C7 C8
  generalize pw a y % md n = py at C1 C2 C3 C4 C5 C6 C7 C8
  generalize pw a (x + y) % md n = ps at C1 C2 C3 C4 C5 C6 C7 C8
  generalize a * a % md n = sq at C1 C2 C3 C4 C5 C6 C7 C8
  generalize a % md n = q at C1 C2 C3 C4 C5 C6 C7 C8
  clear hn hx hy hxy
  have ux : IntKind.u64.wrap x = x := by rw [IntKind.wrap_u64]; omega
  have uy : IntKind.u64.wrap y = y := by rw [IntKind.wrap_u64]; omega
  go_enter Tryd.func3, Tryd.ntmps3
  go_wp2_with fail
  have A1 := (Arr.new w w.heap.size rfl 24 (L 0 a) (L 1 a) (L 2 a) (L 3 a)).alloc (.cells #[.int .u32 x, .int .u32 y] 26)
  have c0 : (((w.alloc (.cells #[.int .u64 (L 0 a), .int .u64 (L 1 a), .int .u64 (L 2 a), .int .u64 (L 3 a)] 24)).alloc (.cells #[.int .u32 x, .int .u32 y] 26))).cell? ⟨w.heap.size + 1, 0, none⟩ = some (.int .u32 x) := by simp [go_sem]
  have c1 : (((w.alloc (.cells #[.int .u64 (L 0 a), .int .u64 (L 1 a), .int .u64 (L 2 a), .int .u64 (L 3 a)] 24)).alloc (.cells #[.int .u32 x, .int .u32 y] 26))).cell? ⟨w.heap.size + 1, 1, none⟩ = some (.int .u32 y) := by simp [go_sem]
  have hw1 : Below w.heap.size w ((w.alloc (.cells #[.int .u64 (L 0 a), .int .u64 (L 1 a), .int .u64 (L 2 a), .int .u64 (L 3 a)] 24)).alloc (.cells #[.int .u32 x, .int .u32 y] 26)) := K.alloc (K.alloc (Below.refl _ w) _) _
  generalize (w.alloc (.cells #[.int .u64 (L 0 a), .int .u64 (L 1 a), .int .u64 (L 2 a), .int .u64 (L 3 a)] 24)).alloc (.cells #[.int .u32 x, .int .u32 y] 26) = W1 at *
  have HC : Hid (W1.cell? ⟨w.heap.size + 1, 0, none⟩ = some (.int .u32 x) ∧ W1.cell? ⟨w.heap.size + 1, 1, none⟩ = some (.int .u32 y)) := ⟨c0, c1⟩
  go_cut [8, 9] (fun s8 s9 wc => ∃ b8 b9, s8 = .pointer (some ⟨b8, 0, none⟩) ∧ s9 = .pointer (some ⟨b9, 0, none⟩) ∧ Below W1.heap.size W1 wc ∧ Arr wc b8 x 0 0 0 ∧ Arr wc b9 y 0 0 0)
  case first =>
    have hS : Hid (∀ w', Below W1.heap.size W1 w' → (Below W1.heap.size W1 w' ∧ w'.cell? ⟨w.heap.size + 1, 0, none⟩ = some (.int .u32 x) ∧ w'.cell? ⟨w.heap.size + 1, 1, none⟩ = some (.int .u32 y))) := fun w' hB => ⟨hB, later hB c0, later hB c1⟩
    go_region_held3 (fun w' => Below W1.heap.size W1 w' ∧ w'.cell? ⟨w.heap.size + 1, 0, none⟩ = some (.int .u32 x) ∧ w'.cell? ⟨w.heap.size + 1, 1, none⟩ = some (.int .u32 y))
      ((refine hS.out _ ?_; (repeat' (first | (with_reducible exact Below.refl _ _) | (with_reducible assumption) | (with_reducible refine K.drewN ?_ _) | (with_reducible refine K.drew ?_) | (with_reducible refine K.alloc ?_ _) | (with_reducible refine K.set ?_ (by first | omega | (simp; done) | (simp; omega)) _)))))
      (fail)
    all_goals
      have hH := ‹Below _ _ _ ∧ _›
      (try go_wp2_with fail)
      go_meet
      exact ⟨_, _, rfl, rfl, hH.1, by constructor <;> first | (simp [go_sem]; done) | (simp [go_sem]; exact ux), by constructor <;> first | (simp [go_sem]; done) | (simp [go_sem]; exact uy)⟩
  case rest =>
  obtain ⟨b8, b9, rfl, rfl, hW, hX, hY⟩ := hcut
  have A2 := A1.keep hW
  have c0 := later hW HC.out.1
  have c1 := later hW HC.out.2
  have hw2 := K.call hw1 hW
  clear A1 hW hw1 HC
  go_wp2_with fail
  have A3 := A2.alloc (.cells #[.int .u64 (x + y), .int .u64 0, .int .u64 0, .int .u64 0] 24)
  have X3 := hX.alloc (.cells #[.int .u64 (x + y), .int .u64 0, .int .u64 0, .int .u64 0] 24)
  have Y3 := hY.alloc (.cells #[.int .u64 (x + y), .int .u64 0, .int .u64 0, .int .u64 0] 24)
  have S3 := Arr.new wc wc.heap.size rfl 24 (x + y) 0 0 0
  have hw3 : Below w.heap.size w (wc.alloc (.cells #[.int .u64 (x + y), .int .u64 0, .int .u64 0, .int .u64 0] 24)) := K.alloc hw2 _
  have hT3 := hT.keep hw3
  clear A2 hX hY c0 c1 hw2 hT
  generalize wc.heap.size = bs at *
  generalize wc.alloc (.cells #[.int .u64 (x + y), .int .u64 0, .int .u64 0, .int .u64 0] 24) = W0 at *
  generalize x + y = s at *
  have hTW : Hid (∀ w', Below W0.heap.size W0 w' → Tab w') := fun w' h => hT3.keep h
  have ⟨ka, ka0, ka1, ka2, ka3⟩ := A3
  have ⟨kx, kx0, kx1, kx2, kx3⟩ := X3
  have ⟨ky, ky0, ky1, ky2, ky3⟩ := Y3
  have ⟨ks, ks0, ks1, ks2, ks3⟩ := S3
  have hS : Hid (∀ w', Below W0.heap.size W0 w' → (Below W0.heap.size W0 w' ∧ w'.cell? ⟨w.heap.size, 0, none⟩ = some (.int .u64 (L 0 a)) ∧ w'.cell? ⟨w.heap.size, 1, none⟩ = some (.int .u64 (L 1 a)) ∧ w'.cell? ⟨w.heap.size, 2, none⟩ = some (.int .u64 (L 2 a)) ∧ w'.cell? ⟨w.heap.size, 3, none⟩ = some (.int .u64 (L 3 a)) ∧ w'.cell? ⟨b8, 0, none⟩ = some (.int .u64 x) ∧ w'.cell? ⟨b8, 1, none⟩ = some (.int .u64 0) ∧ w'.cell? ⟨b8, 2, none⟩ = some (.int .u64 0) ∧ w'.cell? ⟨b8, 3, none⟩ = some (.int .u64 0) ∧ w'.cell? ⟨b9, 0, none⟩ = some (.int .u64 y) ∧ w'.cell? ⟨b9, 1, none⟩ = some (.int .u64 0) ∧ w'.cell? ⟨b9, 2, none⟩ = some (.int .u64 0) ∧ w'.cell? ⟨b9, 3, none⟩ = some (.int .u64 0) ∧ w'.cell? ⟨bs, 0, none⟩ = some (.int .u64 s) ∧ w'.cell? ⟨bs, 1, none⟩ = some (.int .u64 0) ∧ w'.cell? ⟨bs, 2, none⟩ = some (.int .u64 0) ∧ w'.cell? ⟨bs, 3, none⟩ = some (.int .u64 0))) := fun w' hB => ⟨hB, later hB ka0, later hB ka1, later hB ka2, later hB ka3, later hB kx0, later hB kx1, later hB kx2, later hB kx3, later hB ky0, later hB ky1, later hB ky2, later hB ky3, later hB ks0, later hB ks1, later hB ks2, later hB ks3⟩
  clear ka0 ka1 ka2 ka3 kx0 kx1 kx2 kx3 ky0 ky1 ky2 ky3 ks0 ks1 ks2 ks3 ka kx ky ks A3 X3 Y3 S3 hT3
  go_region_held3 (fun w' => Below W0.heap.size W0 w' ∧ w'.cell? ⟨w.heap.size, 0, none⟩ = some (.int .u64 (L 0 a)) ∧ w'.cell? ⟨w.heap.size, 1, none⟩ = some (.int .u64 (L 1 a)) ∧ w'.cell? ⟨w.heap.size, 2, none⟩ = some (.int .u64 (L 2 a)) ∧ w'.cell? ⟨w.heap.size, 3, none⟩ = some (.int .u64 (L 3 a)) ∧ w'.cell? ⟨b8, 0, none⟩ = some (.int .u64 x) ∧ w'.cell? ⟨b8, 1, none⟩ = some (.int .u64 0) ∧ w'.cell? ⟨b8, 2, none⟩ = some (.int .u64 0) ∧ w'.cell? ⟨b8, 3, none⟩ = some (.int .u64 0) ∧ w'.cell? ⟨b9, 0, none⟩ = some (.int .u64 y) ∧ w'.cell? ⟨b9, 1, none⟩ = some (.int .u64 0) ∧ w'.cell? ⟨b9, 2, none⟩ = some (.int .u64 0) ∧ w'.cell? ⟨b9, 3, none⟩ = some (.int .u64 0) ∧ w'.cell? ⟨bs, 0, none⟩ = some (.int .u64 s) ∧ w'.cell? ⟨bs, 1, none⟩ = some (.int .u64 0) ∧ w'.cell? ⟨bs, 2, none⟩ = some (.int .u64 0) ∧ w'.cell? ⟨bs, 3, none⟩ = some (.int .u64 0))
    ((refine hS.out _ ?_; first | (with_reducible exact K.drew (Below.refl _ _)) | (with_reducible exact K.drew (K.alloc (Below.refl _ _) _)) | (with_reducible exact Below.refl _ _) | (with_reducible exact K.call (by go_split_ands; assumption) hk) | (with_reducible exact K.alloc (by go_split_ands; assumption) _) | (with_reducible exact K.again (by go_split_ands; assumption) (by omega) _) | (with_reducible exact K.set (by go_split_ands; assumption) (by first | omega | (simp; done) | (simp; omega)) _) | (with_reducible exact K.set (K.set (K.set (K.set (by go_split_ands; assumption) (by first | omega | (simp; done) | (simp; omega)) _) (by first | omega | (simp; done) | (simp; omega)) _) (by first | omega | (simp; done) | (simp; omega)) _) (by first | omega | (simp; done) | (simp; omega)) _)))
    (first
      | (go_at_call 5; with_reducible refine Calls.mono (awake_any (hTW.out _ (by go_split_ands; assumption))) ?_; rintro e w' ⟨rfl, hk⟩; have hz := hk.size; (try simp at hz); obtain ⟨hc, hf⟩ := bcell hk; have hl := lt_keep hk)
      | (go_at_call 6; with_reducible refine Calls.mono (C1.out _ (hTW.out _ (by go_split_ands; assumption))) ?_; rintro e w' ⟨rfl, hk⟩; have hz := hk.size; (try simp at hz); obtain ⟨hc, hf⟩ := bcell hk; have hl := lt_keep hk)
      | (go_at_call 6; with_reducible refine Calls.mono (C2.out _ (hTW.out _ (by go_split_ands; assumption))) ?_; rintro e w' ⟨rfl, hk⟩; have hz := hk.size; (try simp at hz); obtain ⟨hc, hf⟩ := bcell hk; have hl := lt_keep hk)
      | (go_at_call 6; with_reducible refine Calls.mono (C3.out _ (hTW.out _ (by go_split_ands; assumption))) ?_; rintro e w' ⟨rfl, hk⟩; have hz := hk.size; (try simp at hz); obtain ⟨hc, hf⟩ := bcell hk; have hl := lt_keep hk)
      | (go_at_call 7; with_reducible refine Calls.mono (C4.out _ (hTW.out _ (by go_split_ands; assumption))) ?_; rintro e w' ⟨rfl, hk⟩; have hz := hk.size; (try simp at hz); obtain ⟨hc, hf⟩ := bcell hk; have hl := lt_keep hk)
      | (go_at_call 6; with_reducible refine Calls.mono (C5.out _ (hTW.out _ (by go_split_ands; assumption))) ?_; rintro e w' ⟨rfl, hk⟩; have hz := hk.size; (try simp at hz); obtain ⟨hc, hf⟩ := bcell hk; have hl := lt_keep hk)
      | (go_at_call 7; with_reducible refine Calls.mono (C6.out _ (hTW.out _ (by go_split_ands; assumption))) ?_; rintro e w' ⟨rfl, hk⟩; have hz := hk.size; (try simp at hz); obtain ⟨hc, hf⟩ := bcell hk; have hl := lt_keep hk)
      | (go_at_call 6; with_reducible refine Calls.mono (C7.out _ (hTW.out _ (by go_split_ands; assumption))) ?_; rintro e w' ⟨rfl, hk⟩; have hz := hk.size; (try simp at hz); obtain ⟨hc, hf⟩ := bcell hk; have hl := lt_keep hk)
      | (go_at_call 8; with_reducible refine Calls.mono (C8.out _ (hTW.out _ (by go_split_ands; assumption))) ?_; rintro e w' ⟨rfl, hk⟩; have hz := hk.size; (try simp at hz); obtain ⟨hc, hf⟩ := bcell hk; have hl := lt_keep hk))
  have hH := ‹Below _ _ _ ∧ _›
  go_wp2_with fail
  go_ret
  exact ⟨rfl, K.call hw3 hH.1⟩
end Go.Proofs.YtelanboegjgcbabDoor
