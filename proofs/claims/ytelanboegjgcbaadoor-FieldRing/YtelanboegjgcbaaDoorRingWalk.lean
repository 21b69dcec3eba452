/- FieldRing, walked: sums and products go together as they should. -/
import Derived.Test.YtelanboegjgcbaaDoorAwake
import Derived.Deep.DeepCutAuto
namespace Go.Proofs.YtelanboegjgcbaaDoor
open Go.RowKit
attribute [local go_sem ↓] Go.wp_at_zero Go.wp_at_succ
attribute [local go_sem] eq4

theorem f_mul_s {n a b c : Int} (hn : 0 ≤ n ∧ n ≤ 3) (ha : Num a) {w : World} (hT : Tab w) : Calls Tryd.prog 16 #[.int .i64 n, .agg #[.int .u64 (L 0 a), .int .u64 (L 1 a), .int .u64 (L 2 a), .int .u64 (L 3 a)], .agg #[.int .u64 (L 0 ((b + c) % md n)), .int .u64 (L 1 ((b + c) % md n)), .int .u64 (L 2 ((b + c) % md n)), .int .u64 (L 3 ((b + c) % md n))]] w fun e w' => e = .returned (.agg #[.int .u64 (L 0 (a * (b + c) % md n)), .int .u64 (L 1 (a * (b + c) % md n)), .int .u64 (L 2 (a * (b + c) % md n)), .int .u64 (L 3 (a * (b + c) % md n))]) ∧ Below w.heap.size w w' := by
  have h := f_mul hn ha (num_f (a := b + c) hn) hT
  rw [mul_mod_r] at h
  exact h
theorem f_add_pq {n a b c : Int} (hn : 0 ≤ n ∧ n ≤ 3) {w : World} (hT : Tab w) : Calls Tryd.prog 14 #[.int .i64 n, .agg #[.int .u64 (L 0 (a * b % md n)), .int .u64 (L 1 (a * b % md n)), .int .u64 (L 2 (a * b % md n)), .int .u64 (L 3 (a * b % md n))], .agg #[.int .u64 (L 0 (a * c % md n)), .int .u64 (L 1 (a * c % md n)), .int .u64 (L 2 (a * c % md n)), .int .u64 (L 3 (a * c % md n))]] w fun e w' => e = .returned (.agg #[.int .u64 (L 0 (a * (b + c) % md n)), .int .u64 (L 1 (a * (b + c) % md n)), .int .u64 (L 2 (a * (b + c) % md n)), .int .u64 (L 3 (a * (b + c) % md n))]) ∧ Below w.heap.size w w' := by
  have h := f_add hn (num_f (a := a * b) hn) (num_f (a := a * c) hn) hT
  rw [← Int.add_emod, ← Int.mul_add] at h
  exact h
theorem f_mul_r {n a b c : Int} (hn : 0 ≤ n ∧ n ≤ 3) (ha : Num a) {w : World} (hT : Tab w) : Calls Tryd.prog 16 #[.int .i64 n, .agg #[.int .u64 (L 0 a), .int .u64 (L 1 a), .int .u64 (L 2 a), .int .u64 (L 3 a)], .agg #[.int .u64 (L 0 (b * c % md n)), .int .u64 (L 1 (b * c % md n)), .int .u64 (L 2 (b * c % md n)), .int .u64 (L 3 (b * c % md n))]] w fun e w' => e = .returned (.agg #[.int .u64 (L 0 (a * b * c % md n)), .int .u64 (L 1 (a * b * c % md n)), .int .u64 (L 2 (a * b * c % md n)), .int .u64 (L 3 (a * b * c % md n))]) ∧ Below w.heap.size w w' := by
  have h := f_mul hn ha (num_f (a := b * c) hn) hT
  rw [mul_mod_r, ← Int.mul_assoc] at h
  exact h
theorem f_mul_p {n a b c : Int} (hn : 0 ≤ n ∧ n ≤ 3) (hc : Num c) {w : World} (hT : Tab w) : Calls Tryd.prog 16 #[.int .i64 n, .agg #[.int .u64 (L 0 (a * b % md n)), .int .u64 (L 1 (a * b % md n)), .int .u64 (L 2 (a * b % md n)), .int .u64 (L 3 (a * b % md n))], .agg #[.int .u64 (L 0 c), .int .u64 (L 1 c), .int .u64 (L 2 c), .int .u64 (L 3 c)]] w fun e w' => e = .returned (.agg #[.int .u64 (L 0 (a * b * c % md n)), .int .u64 (L 1 (a * b * c % md n)), .int .u64 (L 2 (a * b * c % md n)), .int .u64 (L 3 (a * b * c % md n))]) ∧ Below w.heap.size w w' := by
  have h := f_mul hn (num_f (a := a * b) hn) hc hT
  rw [mul_mod_l] at h
  exact h
theorem f_sub_u {n a b : Int} (hn : 0 ≤ n ∧ n ≤ 3) (hb : Num b) {w : World} (hT : Tab w) : Calls Tryd.prog 15 #[.int .i64 n, .agg #[.int .u64 (L 0 ((a + b) % md n)), .int .u64 (L 1 ((a + b) % md n)), .int .u64 (L 2 ((a + b) % md n)), .int .u64 (L 3 ((a + b) % md n))], .agg #[.int .u64 (L 0 b), .int .u64 (L 1 b), .int .u64 (L 2 b), .int .u64 (L 3 b)]] w fun e w' => e = .returned (.agg #[.int .u64 (L 0 (a % md n)), .int .u64 (L 1 (a % md n)), .int .u64 (L 2 (a % md n)), .int .u64 (L 3 (a % md n))]) ∧ Below w.heap.size w w' := by
  have h := f_sub hn (num_f (a := a + b) hn) hb hT
  rw [Int.emod_sub_emod, Int.add_sub_cancel] at h
  exact h
theorem f_add_t {n a b : Int} (hn : 0 ≤ n ∧ n ≤ 3) (ha : Num a) (hb : Num b) {w : World} (hT : Tab w) : Calls Tryd.prog 14 #[.int .i64 n, .agg #[.int .u64 (L 0 b), .int .u64 (L 1 b), .int .u64 (L 2 b), .int .u64 (L 3 b)], .agg #[.int .u64 (L 0 a), .int .u64 (L 1 a), .int .u64 (L 2 a), .int .u64 (L 3 a)]] w fun e w' => e = .returned (.agg #[.int .u64 (L 0 ((a + b) % md n)), .int .u64 (L 1 ((a + b) % md n)), .int .u64 (L 2 ((a + b) % md n)), .int .u64 (L 3 ((a + b) % md n))]) ∧ Below w.heap.size w w' := by
  have h := f_add hn hb ha hT
  rw [Int.add_comm b a] at h
  exact h
theorem f_mul_t {n a b : Int} (hn : 0 ≤ n ∧ n ≤ 3) (ha : Num a) (hb : Num b) {w : World} (hT : Tab w) : Calls Tryd.prog 16 #[.int .i64 n, .agg #[.int .u64 (L 0 b), .int .u64 (L 1 b), .int .u64 (L 2 b), .int .u64 (L 3 b)], .agg #[.int .u64 (L 0 a), .int .u64 (L 1 a), .int .u64 (L 2 a), .int .u64 (L 3 a)]] w fun e w' => e = .returned (.agg #[.int .u64 (L 0 (a * b % md n)), .int .u64 (L 1 (a * b % md n)), .int .u64 (L 2 (a * b % md n)), .int .u64 (L 3 (a * b % md n))]) ∧ Below w.heap.size w w' := by
  have h := f_mul hn hb ha hT
  rw [Int.mul_comm b a] at h
  exact h

set_option maxRecDepth 100000 in
set_option maxHeartbeats 8000000 in
theorem ring_walk {k a b c : Int} (k0 : 0 ≤ k) (k1 : k ≤ 255) (ha : Num a) (hb : Num b) (hc : Num c) {w : World} (hT : Tab w) :
    Calls Tryd.prog 6 #[.int .u8 k, .agg #[.int .u64 (L 0 a), .int .u64 (L 1 a), .int .u64 (L 2 a), .int .u64 (L 3 a), .int .u64 (L 0 b), .int .u64 (L 1 b), .int .u64 (L 2 b), .int .u64 (L 3 b), .int .u64 (L 0 c), .int .u64 (L 1 c), .int .u64 (L 2 c), .int .u64 (L 3 c)]] w fun e w' => e = .returned (.bool true) ∧ Below w.heap.size w w' := by
  obtain ⟨n, hn, hnk⟩ : ∃ n, (0 ≤ n ∧ n ≤ 3) ∧ k % 4 = n := ⟨_, k_four k, rfl⟩
  have C1 : Hid (∀ w : World, Tab w → Calls Tryd.prog 14 #[.int .i64 n, .agg #[.int .u64 (L 0 b), .int .u64 (L 1 b), .int .u64 (L 2 b), .int .u64 (L 3 b)], .agg #[.int .u64 (L 0 c), .int .u64 (L 1 c), .int .u64 (L 2 c), .int .u64 (L 3 c)]] w fun e w' => e = .returned (.agg #[.int .u64 (L 0 ((b + c) % md n)), .int .u64 (L 1 ((b + c) % md n)), .int .u64 (L 2 ((b + c) % md n)), .int .u64 (L 3 ((b + c) % md n))]) ∧ Below w.heap.size w w') := fun w hT => f_add hn hb hc hT
  have C2 : Hid (∀ w : World, Tab w → Calls Tryd.prog 16 #[.int .i64 n, .agg #[.int .u64 (L 0 a), .int .u64 (L 1 a), .int .u64 (L 2 a), .int .u64 (L 3 a)], .agg #[.int .u64 (L 0 ((b + c) % md n)), .int .u64 (L 1 ((b + c) % md n)), .int .u64 (L 2 ((b + c) % md n)), .int .u64 (L 3 ((b + c) % md n))]] w fun e w' => e = .returned (.agg #[.int .u64 (L 0 (a * (b + c) % md n)), .int .u64 (L 1 (a * (b + c) % md n)), .int .u64 (L 2 (a * (b + c) % md n)), .int .u64 (L 3 (a * (b + c) % md n))]) ∧ Below w.heap.size w w') := fun w hT => f_mul_s hn ha hT
  have C3 : Hid (∀ w : World, Tab w → Calls Tryd.prog 16 #[.int .i64 n, .agg #[.int .u64 (L 0 a), .int .u64 (L 1 a), .int .u64 (L 2 a), .int .u64 (L 3 a)], .agg #[.int .u64 (L 0 b), .int .u64 (L 1 b), .int .u64 (L 2 b), .int .u64 (L 3 b)]] w fun e w' => e = .returned (.agg #[.int .u64 (L 0 (a * b % md n)), .int .u64 (L 1 (a * b % md n)), .int .u64 (L 2 (a * b % md n)), .int .u64 (L 3 (a * b % md n))]) ∧ Below w.heap.size w w') := fun w hT => f_mul hn ha hb hT
  have C4 : Hid (∀ w : World, Tab w → Calls Tryd.prog 16 #[.int .i64 n, .agg #[.int .u64 (L 0 a), .int .u64 (L 1 a), .int .u64 (L 2 a), .int .u64 (L 3 a)], .agg #[.int .u64 (L 0 c), .int .u64 (L 1 c), .int .u64 (L 2 c), .int .u64 (L 3 c)]] w fun e w' => e = .returned (.agg #[.int .u64 (L 0 (a * c % md n)), .int .u64 (L 1 (a * c % md n)), .int .u64 (L 2 (a * c % md n)), .int .u64 (L 3 (a * c % md n))]) ∧ Below w.heap.size w w') := fun w hT => f_mul hn ha hc hT
  have C5 : Hid (∀ w : World, Tab w → Calls Tryd.prog 14 #[.int .i64 n, .agg #[.int .u64 (L 0 (a * b % md n)), .int .u64 (L 1 (a * b % md n)), .int .u64 (L 2 (a * b % md n)), .int .u64 (L 3 (a * b % md n))], .agg #[.int .u64 (L 0 (a * c % md n)), .int .u64 (L 1 (a * c % md n)), .int .u64 (L 2 (a * c % md n)), .int .u64 (L 3 (a * c % md n))]] w fun e w' => e = .returned (.agg #[.int .u64 (L 0 (a * (b + c) % md n)), .int .u64 (L 1 (a * (b + c) % md n)), .int .u64 (L 2 (a * (b + c) % md n)), .int .u64 (L 3 (a * (b + c) % md n))]) ∧ Below w.heap.size w w') := fun w hT => f_add_pq hn hT
  have C6 : Hid (∀ w : World, Tab w → Calls Tryd.prog 16 #[.int .i64 n, .agg #[.int .u64 (L 0 b), .int .u64 (L 1 b), .int .u64 (L 2 b), .int .u64 (L 3 b)], .agg #[.int .u64 (L 0 c), .int .u64 (L 1 c), .int .u64 (L 2 c), .int .u64 (L 3 c)]] w fun e w' => e = .returned (.agg #[.int .u64 (L 0 (b * c % md n)), .int .u64 (L 1 (b * c % md n)), .int .u64 (L 2 (b * c % md n)), .int .u64 (L 3 (b * c % md n))]) ∧ Below w.heap.size w w') := fun w hT => f_mul hn hb hc hT
  have C7 : Hid (∀ w : World, Tab w → Calls Tryd.prog 16 #[.int .i64 n, .agg #[.int .u64 (L 0 a), .int .u64 (L 1 a), .int .u64 (L 2 a), .int .u64 (L 3 a)], .agg #[.int .u64 (L 0 (b * c % md n)), .int .u64 (L 1 (b * c % md n)), .int .u64 (L 2 (b * c % md n)), .int .u64 (L 3 (b * c % md n))]] w fun e w' => e = .returned (.agg #[.int .u64 (L 0 (a * b * c % md n)), .int .u64 (L 1 (a * b * c % md n)), .int .u64 (L 2 (a * b * c % md n)), .int .u64 (L 3 (a * b * c % md n))]) ∧ Below w.heap.size w w') := fun w hT => f_mul_r hn ha hT
  have C8 : Hid (∀ w : World, Tab w → Calls Tryd.prog 16 #[.int .i64 n, .agg #[.int .u64 (L 0 (a * b % md n)), .int .u64 (L 1 (a * b % md n)), .int .u64 (L 2 (a * b % md n)), .int .u64 (L 3 (a * b % md n))], .agg #[.int .u64 (L 0 c), .int .u64 (L 1 c), .int .u64 (L 2 c), .int .u64 (L 3 c)]] w fun e w' => e = .returned (.agg #[.int .u64 (L 0 (a * b * c % md n)), .int .u64 (L 1 (a * b * c % md n)), .int .u64 (L 2 (a * b * c % md n)), .int .u64 (L 3 (a * b * c % md n))]) ∧ Below w.heap.size w w') := fun w hT => f_mul_p hn hc hT
  have C9 : Hid (∀ w : World, Tab w → Calls Tryd.prog 14 #[.int .i64 n, .agg #[.int .u64 (L 0 a), .int .u64 (L 1 a), .int .u64 (L 2 a), .int .u64 (L 3 a)], .agg #[.int .u64 (L 0 b), .int .u64 (L 1 b), .int .u64 (L 2 b), .int .u64 (L 3 b)]] w fun e w' => e = .returned (.agg #[.int .u64 (L 0 ((a + b) % md n)), .int .u64 (L 1 ((a + b) % md n)), .int .u64 (L 2 ((a + b) % md n)), .int .u64 (L 3 ((a + b) % md n))]) ∧ Below w.heap.size w w') := fun w hT => f_add hn ha hb hT
  have C10 : Hid (∀ w : World, Tab w → Calls Tryd.prog 15 #[.int .i64 n, .agg #[.int .u64 (L 0 ((a + b) % md n)), .int .u64 (L 1 ((a + b) % md n)), .int .u64 (L 2 ((a + b) % md n)), .int .u64 (L 3 ((a + b) % md n))], .agg #[.int .u64 (L 0 b), .int .u64 (L 1 b), .int .u64 (L 2 b), .int .u64 (L 3 b)]] w fun e w' => e = .returned (.agg #[.int .u64 (L 0 (a % md n)), .int .u64 (L 1 (a % md n)), .int .u64 (L 2 (a % md n)), .int .u64 (L 3 (a % md n))]) ∧ Below w.heap.size w w') := fun w hT => f_sub_u hn hb hT
  have C11 : Hid (∀ w : World, Tab w → Calls Tryd.prog 12 #[.int .i64 n, .agg #[.int .u64 (L 0 a), .int .u64 (L 1 a), .int .u64 (L 2 a), .int .u64 (L 3 a)]] w fun e w' => e = .returned (.agg #[.int .u64 (L 0 (a % md n)), .int .u64 (L 1 (a % md n)), .int .u64 (L 2 (a % md n)), .int .u64 (L 3 (a % md n))]) ∧ Below w.heap.size w w') := fun w hT => f_fold hn ha hT
  have C12 : Hid (∀ w : World, Tab w → Calls Tryd.prog 14 #[.int .i64 n, .agg #[.int .u64 (L 0 b), .int .u64 (L 1 b), .int .u64 (L 2 b), .int .u64 (L 3 b)], .agg #[.int .u64 (L 0 a), .int .u64 (L 1 a), .int .u64 (L 2 a), .int .u64 (L 3 a)]] w fun e w' => e = .returned (.agg #[.int .u64 (L 0 ((a + b) % md n)), .int .u64 (L 1 ((a + b) % md n)), .int .u64 (L 2 ((a + b) % md n)), .int .u64 (L 3 ((a + b) % md n))]) ∧ Below w.heap.size w w') := fun w hT => f_add_t hn ha hb hT
  have C13 : Hid (∀ w : World, Tab w → Calls Tryd.prog 16 #[.int .i64 n, .agg #[.int .u64 (L 0 b), .int .u64 (L 1 b), .int .u64 (L 2 b), .int .u64 (L 3 b)], .agg #[.int .u64 (L 0 a), .int .u64 (L 1 a), .int .u64 (L 2 a), .int .u64 (L 3 a)]] w fun e w' => e = .returned (.agg #[.int .u64 (L 0 (a * b % md n)), .int .u64 (L 1 (a * b % md n)), .int .u64 (L 2 (a * b % md n)), .int .u64 (L 3 (a * b % md n))]) ∧ Below w.heap.size w w') := fun w hT => f_mul_t hn ha hb hT
  have C14 : Hid (∀ w : World, Tab w → Calls Tryd.prog 16 #[.int .i64 n, .agg #[.int .u64 (L 0 a), .int .u64 (L 1 a), .int .u64 (L 2 a), .int .u64 (L 3 a)], .agg #[.int .u64 1, .int .u64 0, .int .u64 0, .int .u64 0]] w fun e w' => e = .returned (.agg #[.int .u64 (L 0 (a % md n)), .int .u64 (L 1 (a % md n)), .int .u64 (L 2 (a % md n)), .int .u64 (L 3 (a % md n))]) ∧ Below w.heap.size w w') := fun w hT => f_mul_1 hn ha hT
  clear ha hb hc
  generalize (b + c) % md n = s at C1 C2 C3 C4 C5 C6 C7 C8 C9 C10 C11 C12 C13 C14
  generalize a * (b + c) % md n = l at C1 C2 C3 C4 C5 C6 C7 C8 C9 C10 C11 C12 C13 C14
  generalize a * b * c % md n = t at C1 C2 C3 C4 C5 C6 C7 C8 C9 C10 C11 C12 C13 C14
  generalize a * b % md n = p at C1 C2 C3 C4 C5 C6 C7 C8 C9 C10 C11 C12 C13 C14
  generalize a * c % md n = q at C1 C2 C3 C4 C5 C6 C7 C8 C9 C10 C11 C12 C13 C14
  generalize b * c % md n = r at C1 C2 C3 C4 C5 C6 C7 C8 C9 C10 C11 C12 C13 C14
  generalize (a + b) % md n = u at C1 C2 C3 C4 C5 C6 C7 C8 C9 C10 C11 C12 C13 C14
  generalize a % md n = v at C1 C2 C3 C4 C5 C6 C7 C8 C9 C10 C11 C12 C13 C14
  clear hn
  go_enter Tryd.func6, Tryd.ntmps6
  go_wp2_with fail
  have hc12 : (w.alloc (.cells #[.int .u64 (L 0 a), .int .u64 (L 1 a), .int .u64 (L 2 a), .int .u64 (L 3 a), .int .u64 (L 0 b), .int .u64 (L 1 b), .int .u64 (L 2 b), .int .u64 (L 3 b), .int .u64 (L 0 c), .int .u64 (L 1 c), .int .u64 (L 2 c), .int .u64 (L 3 c)] 35)).cell? ⟨w.heap.size, 0, none⟩ = some (.int .u64 (L 0 a)) ∧ (w.alloc (.cells #[.int .u64 (L 0 a), .int .u64 (L 1 a), .int .u64 (L 2 a), .int .u64 (L 3 a), .int .u64 (L 0 b), .int .u64 (L 1 b), .int .u64 (L 2 b), .int .u64 (L 3 b), .int .u64 (L 0 c), .int .u64 (L 1 c), .int .u64 (L 2 c), .int .u64 (L 3 c)] 35)).cell? ⟨w.heap.size, 1, none⟩ = some (.int .u64 (L 1 a)) ∧ (w.alloc (.cells #[.int .u64 (L 0 a), .int .u64 (L 1 a), .int .u64 (L 2 a), .int .u64 (L 3 a), .int .u64 (L 0 b), .int .u64 (L 1 b), .int .u64 (L 2 b), .int .u64 (L 3 b), .int .u64 (L 0 c), .int .u64 (L 1 c), .int .u64 (L 2 c), .int .u64 (L 3 c)] 35)).cell? ⟨w.heap.size, 2, none⟩ = some (.int .u64 (L 2 a)) ∧ (w.alloc (.cells #[.int .u64 (L 0 a), .int .u64 (L 1 a), .int .u64 (L 2 a), .int .u64 (L 3 a), .int .u64 (L 0 b), .int .u64 (L 1 b), .int .u64 (L 2 b), .int .u64 (L 3 b), .int .u64 (L 0 c), .int .u64 (L 1 c), .int .u64 (L 2 c), .int .u64 (L 3 c)] 35)).cell? ⟨w.heap.size, 3, none⟩ = some (.int .u64 (L 3 a)) ∧ (w.alloc (.cells #[.int .u64 (L 0 a), .int .u64 (L 1 a), .int .u64 (L 2 a), .int .u64 (L 3 a), .int .u64 (L 0 b), .int .u64 (L 1 b), .int .u64 (L 2 b), .int .u64 (L 3 b), .int .u64 (L 0 c), .int .u64 (L 1 c), .int .u64 (L 2 c), .int .u64 (L 3 c)] 35)).cell? ⟨w.heap.size, 4, none⟩ = some (.int .u64 (L 0 b)) ∧ (w.alloc (.cells #[.int .u64 (L 0 a), .int .u64 (L 1 a), .int .u64 (L 2 a), .int .u64 (L 3 a), .int .u64 (L 0 b), .int .u64 (L 1 b), .int .u64 (L 2 b), .int .u64 (L 3 b), .int .u64 (L 0 c), .int .u64 (L 1 c), .int .u64 (L 2 c), .int .u64 (L 3 c)] 35)).cell? ⟨w.heap.size, 5, none⟩ = some (.int .u64 (L 1 b)) ∧ (w.alloc (.cells #[.int .u64 (L 0 a), .int .u64 (L 1 a), .int .u64 (L 2 a), .int .u64 (L 3 a), .int .u64 (L 0 b), .int .u64 (L 1 b), .int .u64 (L 2 b), .int .u64 (L 3 b), .int .u64 (L 0 c), .int .u64 (L 1 c), .int .u64 (L 2 c), .int .u64 (L 3 c)] 35)).cell? ⟨w.heap.size, 6, none⟩ = some (.int .u64 (L 2 b)) ∧ (w.alloc (.cells #[.int .u64 (L 0 a), .int .u64 (L 1 a), .int .u64 (L 2 a), .int .u64 (L 3 a), .int .u64 (L 0 b), .int .u64 (L 1 b), .int .u64 (L 2 b), .int .u64 (L 3 b), .int .u64 (L 0 c), .int .u64 (L 1 c), .int .u64 (L 2 c), .int .u64 (L 3 c)] 35)).cell? ⟨w.heap.size, 7, none⟩ = some (.int .u64 (L 3 b)) ∧ (w.alloc (.cells #[.int .u64 (L 0 a), .int .u64 (L 1 a), .int .u64 (L 2 a), .int .u64 (L 3 a), .int .u64 (L 0 b), .int .u64 (L 1 b), .int .u64 (L 2 b), .int .u64 (L 3 b), .int .u64 (L 0 c), .int .u64 (L 1 c), .int .u64 (L 2 c), .int .u64 (L 3 c)] 35)).cell? ⟨w.heap.size, 8, none⟩ = some (.int .u64 (L 0 c)) ∧ (w.alloc (.cells #[.int .u64 (L 0 a), .int .u64 (L 1 a), .int .u64 (L 2 a), .int .u64 (L 3 a), .int .u64 (L 0 b), .int .u64 (L 1 b), .int .u64 (L 2 b), .int .u64 (L 3 b), .int .u64 (L 0 c), .int .u64 (L 1 c), .int .u64 (L 2 c), .int .u64 (L 3 c)] 35)).cell? ⟨w.heap.size, 9, none⟩ = some (.int .u64 (L 1 c)) ∧ (w.alloc (.cells #[.int .u64 (L 0 a), .int .u64 (L 1 a), .int .u64 (L 2 a), .int .u64 (L 3 a), .int .u64 (L 0 b), .int .u64 (L 1 b), .int .u64 (L 2 b), .int .u64 (L 3 b), .int .u64 (L 0 c), .int .u64 (L 1 c), .int .u64 (L 2 c), .int .u64 (L 3 c)] 35)).cell? ⟨w.heap.size, 10, none⟩ = some (.int .u64 (L 2 c)) ∧ (w.alloc (.cells #[.int .u64 (L 0 a), .int .u64 (L 1 a), .int .u64 (L 2 a), .int .u64 (L 3 a), .int .u64 (L 0 b), .int .u64 (L 1 b), .int .u64 (L 2 b), .int .u64 (L 3 b), .int .u64 (L 0 c), .int .u64 (L 1 c), .int .u64 (L 2 c), .int .u64 (L 3 c)] 35)).cell? ⟨w.heap.size, 11, none⟩ = some (.int .u64 (L 3 c)) := by simp [go_sem]
  have hw1 : Below w.heap.size w (w.alloc (.cells #[.int .u64 (L 0 a), .int .u64 (L 1 a), .int .u64 (L 2 a), .int .u64 (L 3 a), .int .u64 (L 0 b), .int .u64 (L 1 b), .int .u64 (L 2 b), .int .u64 (L 3 b), .int .u64 (L 0 c), .int .u64 (L 1 c), .int .u64 (L 2 c), .int .u64 (L 3 c)] 35)) := K.alloc (Below.refl _ w) _
  generalize w.alloc (.cells #[.int .u64 (L 0 a), .int .u64 (L 1 a), .int .u64 (L 2 a), .int .u64 (L 3 a), .int .u64 (L 0 b), .int .u64 (L 1 b), .int .u64 (L 2 b), .int .u64 (L 3 b), .int .u64 (L 0 c), .int .u64 (L 1 c), .int .u64 (L 2 c), .int .u64 (L 3 c)] 35) = W1 at *
  have hT1 := hT.keep hw1
  have hS : Hid (∀ w', Below W1.heap.size W1 w' → (Below W1.heap.size W1 w' ∧ w'.cell? ⟨w.heap.size, 0, none⟩ = some (.int .u64 (L 0 a)) ∧ w'.cell? ⟨w.heap.size, 1, none⟩ = some (.int .u64 (L 1 a)) ∧ w'.cell? ⟨w.heap.size, 2, none⟩ = some (.int .u64 (L 2 a)) ∧ w'.cell? ⟨w.heap.size, 3, none⟩ = some (.int .u64 (L 3 a)) ∧ w'.cell? ⟨w.heap.size, 4, none⟩ = some (.int .u64 (L 0 b)) ∧ w'.cell? ⟨w.heap.size, 5, none⟩ = some (.int .u64 (L 1 b)) ∧ w'.cell? ⟨w.heap.size, 6, none⟩ = some (.int .u64 (L 2 b)) ∧ w'.cell? ⟨w.heap.size, 7, none⟩ = some (.int .u64 (L 3 b)) ∧ w'.cell? ⟨w.heap.size, 8, none⟩ = some (.int .u64 (L 0 c)) ∧ w'.cell? ⟨w.heap.size, 9, none⟩ = some (.int .u64 (L 1 c)) ∧ w'.cell? ⟨w.heap.size, 10, none⟩ = some (.int .u64 (L 2 c)) ∧ w'.cell? ⟨w.heap.size, 11, none⟩ = some (.int .u64 (L 3 c)))) := fun w' hB => ⟨hB, later hB hc12.1, later hB hc12.2.1, later hB hc12.2.2.1, later hB hc12.2.2.2.1, later hB hc12.2.2.2.2.1, later hB hc12.2.2.2.2.2.1, later hB hc12.2.2.2.2.2.2.1, later hB hc12.2.2.2.2.2.2.2.1, later hB hc12.2.2.2.2.2.2.2.2.1, later hB hc12.2.2.2.2.2.2.2.2.2.1, later hB hc12.2.2.2.2.2.2.2.2.2.2.1, later hB hc12.2.2.2.2.2.2.2.2.2.2.2⟩
  clear hT hc12
  go_cut [5, 6, 7] (fun s5 s6 s7 wc => ∃ b5 b6 b7, s5 = .pointer (some ⟨b5, 0, none⟩) ∧ s6 = .pointer (some ⟨b6, 0, none⟩) ∧ s7 = .pointer (some ⟨b7, 0, none⟩) ∧ Below W1.heap.size W1 wc ∧ Arr wc b5 (L 0 a) (L 1 a) (L 2 a) (L 3 a) ∧ Arr wc b6 (L 0 b) (L 1 b) (L 2 b) (L 3 b) ∧ Arr wc b7 (L 0 c) (L 1 c) (L 2 c) (L 3 c))
  case first =>
    go_region_held3 (fun w' => Below W1.heap.size W1 w' ∧ w'.cell? ⟨w.heap.size, 0, none⟩ = some (.int .u64 (L 0 a)) ∧ w'.cell? ⟨w.heap.size, 1, none⟩ = some (.int .u64 (L 1 a)) ∧ w'.cell? ⟨w.heap.size, 2, none⟩ = some (.int .u64 (L 2 a)) ∧ w'.cell? ⟨w.heap.size, 3, none⟩ = some (.int .u64 (L 3 a)) ∧ w'.cell? ⟨w.heap.size, 4, none⟩ = some (.int .u64 (L 0 b)) ∧ w'.cell? ⟨w.heap.size, 5, none⟩ = some (.int .u64 (L 1 b)) ∧ w'.cell? ⟨w.heap.size, 6, none⟩ = some (.int .u64 (L 2 b)) ∧ w'.cell? ⟨w.heap.size, 7, none⟩ = some (.int .u64 (L 3 b)) ∧ w'.cell? ⟨w.heap.size, 8, none⟩ = some (.int .u64 (L 0 c)) ∧ w'.cell? ⟨w.heap.size, 9, none⟩ = some (.int .u64 (L 1 c)) ∧ w'.cell? ⟨w.heap.size, 10, none⟩ = some (.int .u64 (L 2 c)) ∧ w'.cell? ⟨w.heap.size, 11, none⟩ = some (.int .u64 (L 3 c)))
      ((refine hS.out _ ?_; (repeat' (first | (with_reducible exact Below.refl _ _) | (with_reducible assumption) | (with_reducible refine K.drewN ?_ _) | (with_reducible refine K.drew ?_) | (with_reducible refine K.alloc ?_ _) | (with_reducible refine K.set ?_ (by first | omega | (simp; done) | (simp; omega)) _)))))
      (fail)
    all_goals
      have hH := ‹Below _ _ _ ∧ _›
      (try go_wp2_with fail)
      go_meet
      exact ⟨_, _, _, rfl, rfl, rfl, hH.1, by constructor <;> simp [go_sem], by constructor <;> simp [go_sem], by constructor <;> simp [go_sem]⟩
  case rest =>
  obtain ⟨b5, b6, b7, rfl, rfl, rfl, hW, hA, hB, hC⟩ := hcut
  have hw2 := K.call hw1 hW
  have hT2 := hT1.keep hW
  clear hS hw1 hT1 hW
  generalize wc = V1 at *
  have hTW : Hid (∀ w', Below V1.heap.size V1 w' → Tab w') := fun w' h => hT2.keep h
  have ⟨ka, ka0, ka1, ka2, ka3⟩ := hA
  have ⟨kb, kb0, kb1, kb2, kb3⟩ := hB
  have ⟨kc, kc0, kc1, kc2, kc3⟩ := hC
  go_wp2_with fail
  have hS : Hid (∀ w', Below V1.heap.size V1 w' → (Below V1.heap.size V1 w' ∧ w'.cell? ⟨b5, 0, none⟩ = some (.int .u64 (L 0 a)) ∧ w'.cell? ⟨b5, 1, none⟩ = some (.int .u64 (L 1 a)) ∧ w'.cell? ⟨b5, 2, none⟩ = some (.int .u64 (L 2 a)) ∧ w'.cell? ⟨b5, 3, none⟩ = some (.int .u64 (L 3 a)) ∧ w'.cell? ⟨b6, 0, none⟩ = some (.int .u64 (L 0 b)) ∧ w'.cell? ⟨b6, 1, none⟩ = some (.int .u64 (L 1 b)) ∧ w'.cell? ⟨b6, 2, none⟩ = some (.int .u64 (L 2 b)) ∧ w'.cell? ⟨b6, 3, none⟩ = some (.int .u64 (L 3 b)) ∧ w'.cell? ⟨b7, 0, none⟩ = some (.int .u64 (L 0 c)) ∧ w'.cell? ⟨b7, 1, none⟩ = some (.int .u64 (L 1 c)) ∧ w'.cell? ⟨b7, 2, none⟩ = some (.int .u64 (L 2 c)) ∧ w'.cell? ⟨b7, 3, none⟩ = some (.int .u64 (L 3 c)))) := fun w' hB => ⟨hB, later hB ka0, later hB ka1, later hB ka2, later hB ka3, later hB kb0, later hB kb1, later hB kb2, later hB kb3, later hB kc0, later hB kc1, later hB kc2, later hB kc3⟩
  go_cut [9] (fun sx wz => ∃ bz, sx = .pointer (some ⟨bz, 0, none⟩) ∧ Below V1.heap.size V1 wz ∧ ArrW wz bz (L 0 l) (L 1 l) (L 2 l) (L 3 l))
  case first =>
    clear ka0 ka1 ka2 ka3 kb0 kb1 kb2 kb3 kc0 kc1 kc2 kc3
    go_region_held3 (fun w' => Below V1.heap.size V1 w' ∧ w'.cell? ⟨b5, 0, none⟩ = some (.int .u64 (L 0 a)) ∧ w'.cell? ⟨b5, 1, none⟩ = some (.int .u64 (L 1 a)) ∧ w'.cell? ⟨b5, 2, none⟩ = some (.int .u64 (L 2 a)) ∧ w'.cell? ⟨b5, 3, none⟩ = some (.int .u64 (L 3 a)) ∧ w'.cell? ⟨b6, 0, none⟩ = some (.int .u64 (L 0 b)) ∧ w'.cell? ⟨b6, 1, none⟩ = some (.int .u64 (L 1 b)) ∧ w'.cell? ⟨b6, 2, none⟩ = some (.int .u64 (L 2 b)) ∧ w'.cell? ⟨b6, 3, none⟩ = some (.int .u64 (L 3 b)) ∧ w'.cell? ⟨b7, 0, none⟩ = some (.int .u64 (L 0 c)) ∧ w'.cell? ⟨b7, 1, none⟩ = some (.int .u64 (L 1 c)) ∧ w'.cell? ⟨b7, 2, none⟩ = some (.int .u64 (L 2 c)) ∧ w'.cell? ⟨b7, 3, none⟩ = some (.int .u64 (L 3 c)))
      ((refine hS.out _ ?_; first | (with_reducible exact K.drew (Below.refl _ _)) | (with_reducible exact K.drew (K.alloc (Below.refl _ _) _)) | (with_reducible exact Below.refl _ _) | (with_reducible exact K.call (by go_split_ands; assumption) hk) | (with_reducible exact K.alloc (by go_split_ands; assumption) _) | (with_reducible exact K.again (by go_split_ands; assumption) (by omega) _) | (with_reducible exact K.set (by go_split_ands; assumption) (by first | omega | (simp; done) | (simp; omega)) _) | (with_reducible exact K.set (K.set (K.set (K.set (by go_split_ands; assumption) (by first | omega | (simp; done) | (simp; omega)) _) (by first | omega | (simp; done) | (simp; omega)) _) (by first | omega | (simp; done) | (simp; omega)) _) (by first | omega | (simp; done) | (simp; omega)) _)))
      (first
        | (go_at_call 14; with_reducible refine Calls.mono (C1.out _ (hTW.out _ (by go_split_ands; assumption))) ?_; rintro e w' ⟨rfl, hk⟩; have hz := hk.size; (try simp at hz); obtain ⟨hc, hf⟩ := bcell hk; have hl := lt_keep hk; (try have hlz : V1.heap.size < w'.heap.size := (by omega)); (first | have hX := hX.keep hk | have hX := (ArrW.new _ _ rfl 24 0 0 0 0).keep hk | have hX := (ArrW.new _ _ rfl 24 0 0 0 0).drew.keep hk | skip); (try have ⟨kx, kx0, kx1, kx2, kx3, kxf0, kxf1, kxf2, kxf3⟩ := hX))
        | (go_at_call 16; with_reducible refine Calls.mono (C2.out _ (hTW.out _ (by go_split_ands; assumption))) ?_; rintro e w' ⟨rfl, hk⟩; have hz := hk.size; (try simp at hz); obtain ⟨hc, hf⟩ := bcell hk; have hl := lt_keep hk; (try have hlz : V1.heap.size < w'.heap.size := (by omega)); (first | have hX := hX.keep hk | have hX := (ArrW.new _ _ rfl 24 0 0 0 0).keep hk | have hX := (ArrW.new _ _ rfl 24 0 0 0 0).drew.keep hk | skip); (try have ⟨kx, kx0, kx1, kx2, kx3, kxf0, kxf1, kxf2, kxf3⟩ := hX)))
    all_goals
      have hH := ‹Below _ _ _ ∧ _›
      (try go_wp2_with fail)
      go_meet
      first
        | exact ⟨_, rfl, hH.1, hX.stored _ _ _ _⟩
        | exact ⟨_, rfl, hH.1, ArrW.new _ _ rfl _ _ _ _ _⟩
        | exact ⟨_, rfl, hH.1, (ArrW.new _ _ rfl _ _ _ _ _).drew⟩
  case rest =>
  obtain ⟨bl, rfl, hW, hL⟩ := hcut
  generalize wc = V2 at *
  have hA2 := hA.keep hW
  have hB2 := hB.keep hW
  have hC2 := hC.keep hW
  have hw3 := K.call hw2 hW
  have hT3 := hT2.keep hW
  clear hS hTW ka0 ka1 ka2 ka3 kb0 kb1 kb2 kb3 kc0 kc1 kc2 kc3 ka kb kc hA hB hC hw2 hT2 hW
  have hTW : Hid (∀ w', Below V2.heap.size V2 w' → Tab w') := fun w' h => hT3.keep h
  have ⟨ka, ka0, ka1, ka2, ka3⟩ := hA2
  have ⟨kb, kb0, kb1, kb2, kb3⟩ := hB2
  have ⟨kc, kc0, kc1, kc2, kc3⟩ := hC2
  go_wp2_with fail
  have hS : Hid (∀ w', Below V2.heap.size V2 w' → (Below V2.heap.size V2 w' ∧ w'.cell? ⟨b5, 0, none⟩ = some (.int .u64 (L 0 a)) ∧ w'.cell? ⟨b5, 1, none⟩ = some (.int .u64 (L 1 a)) ∧ w'.cell? ⟨b5, 2, none⟩ = some (.int .u64 (L 2 a)) ∧ w'.cell? ⟨b5, 3, none⟩ = some (.int .u64 (L 3 a)) ∧ w'.cell? ⟨b6, 0, none⟩ = some (.int .u64 (L 0 b)) ∧ w'.cell? ⟨b6, 1, none⟩ = some (.int .u64 (L 1 b)) ∧ w'.cell? ⟨b6, 2, none⟩ = some (.int .u64 (L 2 b)) ∧ w'.cell? ⟨b6, 3, none⟩ = some (.int .u64 (L 3 b)) ∧ w'.cell? ⟨b7, 0, none⟩ = some (.int .u64 (L 0 c)) ∧ w'.cell? ⟨b7, 1, none⟩ = some (.int .u64 (L 1 c)) ∧ w'.cell? ⟨b7, 2, none⟩ = some (.int .u64 (L 2 c)) ∧ w'.cell? ⟨b7, 3, none⟩ = some (.int .u64 (L 3 c)))) := fun w' hB => ⟨hB, later hB ka0, later hB ka1, later hB ka2, later hB ka3, later hB kb0, later hB kb1, later hB kb2, later hB kb3, later hB kc0, later hB kc1, later hB kc2, later hB kc3⟩
  go_cut [10] (fun sx wz => ∃ bz, sx = .pointer (some ⟨bz, 0, none⟩) ∧ Below V2.heap.size V2 wz ∧ ArrW wz bz (L 0 l) (L 1 l) (L 2 l) (L 3 l))
  case first =>
    clear ka0 ka1 ka2 ka3 kb0 kb1 kb2 kb3 kc0 kc1 kc2 kc3
    go_region_held3 (fun w' => Below V2.heap.size V2 w' ∧ w'.cell? ⟨b5, 0, none⟩ = some (.int .u64 (L 0 a)) ∧ w'.cell? ⟨b5, 1, none⟩ = some (.int .u64 (L 1 a)) ∧ w'.cell? ⟨b5, 2, none⟩ = some (.int .u64 (L 2 a)) ∧ w'.cell? ⟨b5, 3, none⟩ = some (.int .u64 (L 3 a)) ∧ w'.cell? ⟨b6, 0, none⟩ = some (.int .u64 (L 0 b)) ∧ w'.cell? ⟨b6, 1, none⟩ = some (.int .u64 (L 1 b)) ∧ w'.cell? ⟨b6, 2, none⟩ = some (.int .u64 (L 2 b)) ∧ w'.cell? ⟨b6, 3, none⟩ = some (.int .u64 (L 3 b)) ∧ w'.cell? ⟨b7, 0, none⟩ = some (.int .u64 (L 0 c)) ∧ w'.cell? ⟨b7, 1, none⟩ = some (.int .u64 (L 1 c)) ∧ w'.cell? ⟨b7, 2, none⟩ = some (.int .u64 (L 2 c)) ∧ w'.cell? ⟨b7, 3, none⟩ = some (.int .u64 (L 3 c)))
      ((refine hS.out _ ?_; first | (with_reducible exact K.drew (Below.refl _ _)) | (with_reducible exact K.drew (K.alloc (Below.refl _ _) _)) | (with_reducible exact Below.refl _ _) | (with_reducible exact K.call (by go_split_ands; assumption) hk) | (with_reducible exact K.alloc (by go_split_ands; assumption) _) | (with_reducible exact K.again (by go_split_ands; assumption) (by omega) _) | (with_reducible exact K.set (by go_split_ands; assumption) (by first | omega | (simp; done) | (simp; omega)) _) | (with_reducible exact K.set (K.set (K.set (K.set (by go_split_ands; assumption) (by first | omega | (simp; done) | (simp; omega)) _) (by first | omega | (simp; done) | (simp; omega)) _) (by first | omega | (simp; done) | (simp; omega)) _) (by first | omega | (simp; done) | (simp; omega)) _)))
      (first
        | (go_at_call 16; with_reducible refine Calls.mono (C3.out _ (hTW.out _ (by go_split_ands; assumption))) ?_; rintro e w' ⟨rfl, hk⟩; have hz := hk.size; (try simp at hz); obtain ⟨hc, hf⟩ := bcell hk; have hl := lt_keep hk; (try have hlz : V2.heap.size < w'.heap.size := (by omega)); (first | have hX := hX.keep hk | have hX := (ArrW.new _ _ rfl 24 0 0 0 0).keep hk | have hX := (ArrW.new _ _ rfl 24 0 0 0 0).drew.keep hk | skip); (try have ⟨kx, kx0, kx1, kx2, kx3, kxf0, kxf1, kxf2, kxf3⟩ := hX))
        | (go_at_call 16; with_reducible refine Calls.mono (C4.out _ (hTW.out _ (by go_split_ands; assumption))) ?_; rintro e w' ⟨rfl, hk⟩; have hz := hk.size; (try simp at hz); obtain ⟨hc, hf⟩ := bcell hk; have hl := lt_keep hk; (try have hlz : V2.heap.size < w'.heap.size := (by omega)); (first | have hX := hX.keep hk | have hX := (ArrW.new _ _ rfl 24 0 0 0 0).keep hk | have hX := (ArrW.new _ _ rfl 24 0 0 0 0).drew.keep hk | skip); (try have ⟨kx, kx0, kx1, kx2, kx3, kxf0, kxf1, kxf2, kxf3⟩ := hX))
        | (go_at_call 14; with_reducible refine Calls.mono (C5.out _ (hTW.out _ (by go_split_ands; assumption))) ?_; rintro e w' ⟨rfl, hk⟩; have hz := hk.size; (try simp at hz); obtain ⟨hc, hf⟩ := bcell hk; have hl := lt_keep hk; (try have hlz : V2.heap.size < w'.heap.size := (by omega)); (first | have hX := hX.keep hk | have hX := (ArrW.new _ _ rfl 24 0 0 0 0).keep hk | have hX := (ArrW.new _ _ rfl 24 0 0 0 0).drew.keep hk | skip); (try have ⟨kx, kx0, kx1, kx2, kx3, kxf0, kxf1, kxf2, kxf3⟩ := hX)))
    all_goals
      have hH := ‹Below _ _ _ ∧ _›
      (try go_wp2_with fail)
      go_meet
      first
        | exact ⟨_, rfl, hH.1, hX.stored _ _ _ _⟩
        | exact ⟨_, rfl, hH.1, ArrW.new _ _ rfl _ _ _ _ _⟩
        | exact ⟨_, rfl, hH.1, (ArrW.new _ _ rfl _ _ _ _ _).drew⟩
  case rest =>
  obtain ⟨bm, rfl, hW, hM⟩ := hcut
  generalize wc = V3 at *
  have hA3 := hA2.keep hW
  have hB3 := hB2.keep hW
  have hC3 := hC2.keep hW
  have hL3 := hL.keep hW
  have hw4 := K.call hw3 hW
  have hT4 := hT3.keep hW
  clear hS hTW ka0 ka1 ka2 ka3 kb0 kb1 kb2 kb3 kc0 kc1 kc2 kc3 ka kb kc hA2 hB2 hC2 hw3 hT3 hW hL
  have hTW : Hid (∀ w', Below V3.heap.size V3 w' → Tab w') := fun w' h => hT4.keep h
  have ⟨ka, ka0, ka1, ka2, ka3⟩ := hA3
  have ⟨kb, kb0, kb1, kb2, kb3⟩ := hB3
  have ⟨kc, kc0, kc1, kc2, kc3⟩ := hC3
  have ⟨kl, kl0, kl1, kl2, kl3, _, _, _, _⟩ := hL3
  have ⟨km, km0, km1, km2, km3, _, _, _, _⟩ := hM
  go_wp2_with fail
  have hS : Hid (∀ w', Below V3.heap.size V3 w' → (Below V3.heap.size V3 w' ∧ w'.cell? ⟨b5, 0, none⟩ = some (.int .u64 (L 0 a)) ∧ w'.cell? ⟨b5, 1, none⟩ = some (.int .u64 (L 1 a)) ∧ w'.cell? ⟨b5, 2, none⟩ = some (.int .u64 (L 2 a)) ∧ w'.cell? ⟨b5, 3, none⟩ = some (.int .u64 (L 3 a)) ∧ w'.cell? ⟨b6, 0, none⟩ = some (.int .u64 (L 0 b)) ∧ w'.cell? ⟨b6, 1, none⟩ = some (.int .u64 (L 1 b)) ∧ w'.cell? ⟨b6, 2, none⟩ = some (.int .u64 (L 2 b)) ∧ w'.cell? ⟨b6, 3, none⟩ = some (.int .u64 (L 3 b)) ∧ w'.cell? ⟨b7, 0, none⟩ = some (.int .u64 (L 0 c)) ∧ w'.cell? ⟨b7, 1, none⟩ = some (.int .u64 (L 1 c)) ∧ w'.cell? ⟨b7, 2, none⟩ = some (.int .u64 (L 2 c)) ∧ w'.cell? ⟨b7, 3, none⟩ = some (.int .u64 (L 3 c)) ∧ w'.cell? ⟨bl, 0, none⟩ = some (.int .u64 (L 0 l)) ∧ w'.cell? ⟨bl, 1, none⟩ = some (.int .u64 (L 1 l)) ∧ w'.cell? ⟨bl, 2, none⟩ = some (.int .u64 (L 2 l)) ∧ w'.cell? ⟨bl, 3, none⟩ = some (.int .u64 (L 3 l)) ∧ w'.cell? ⟨bm, 0, none⟩ = some (.int .u64 (L 0 l)) ∧ w'.cell? ⟨bm, 1, none⟩ = some (.int .u64 (L 1 l)) ∧ w'.cell? ⟨bm, 2, none⟩ = some (.int .u64 (L 2 l)) ∧ w'.cell? ⟨bm, 3, none⟩ = some (.int .u64 (L 3 l)))) := fun w' hB => ⟨hB, later hB ka0, later hB ka1, later hB ka2, later hB ka3, later hB kb0, later hB kb1, later hB kb2, later hB kb3, later hB kc0, later hB kc1, later hB kc2, later hB kc3, later hB kl0, later hB kl1, later hB kl2, later hB kl3, later hB km0, later hB km1, later hB km2, later hB km3⟩
  clear ka0 ka1 ka2 ka3 kb0 kb1 kb2 kb3 kc0 kc1 kc2 kc3 kl kl0 kl1 kl2 kl3 km km0 km1 km2 km3 ka kb kc
  go_cut [60] (fun s60 wc => s60 = .bool false ∧ Below V3.heap.size V3 wc)
  case first =>
    go_region_held3 (fun w' => Below V3.heap.size V3 w' ∧ w'.cell? ⟨b5, 0, none⟩ = some (.int .u64 (L 0 a)) ∧ w'.cell? ⟨b5, 1, none⟩ = some (.int .u64 (L 1 a)) ∧ w'.cell? ⟨b5, 2, none⟩ = some (.int .u64 (L 2 a)) ∧ w'.cell? ⟨b5, 3, none⟩ = some (.int .u64 (L 3 a)) ∧ w'.cell? ⟨b6, 0, none⟩ = some (.int .u64 (L 0 b)) ∧ w'.cell? ⟨b6, 1, none⟩ = some (.int .u64 (L 1 b)) ∧ w'.cell? ⟨b6, 2, none⟩ = some (.int .u64 (L 2 b)) ∧ w'.cell? ⟨b6, 3, none⟩ = some (.int .u64 (L 3 b)) ∧ w'.cell? ⟨b7, 0, none⟩ = some (.int .u64 (L 0 c)) ∧ w'.cell? ⟨b7, 1, none⟩ = some (.int .u64 (L 1 c)) ∧ w'.cell? ⟨b7, 2, none⟩ = some (.int .u64 (L 2 c)) ∧ w'.cell? ⟨b7, 3, none⟩ = some (.int .u64 (L 3 c)) ∧ w'.cell? ⟨bl, 0, none⟩ = some (.int .u64 (L 0 l)) ∧ w'.cell? ⟨bl, 1, none⟩ = some (.int .u64 (L 1 l)) ∧ w'.cell? ⟨bl, 2, none⟩ = some (.int .u64 (L 2 l)) ∧ w'.cell? ⟨bl, 3, none⟩ = some (.int .u64 (L 3 l)) ∧ w'.cell? ⟨bm, 0, none⟩ = some (.int .u64 (L 0 l)) ∧ w'.cell? ⟨bm, 1, none⟩ = some (.int .u64 (L 1 l)) ∧ w'.cell? ⟨bm, 2, none⟩ = some (.int .u64 (L 2 l)) ∧ w'.cell? ⟨bm, 3, none⟩ = some (.int .u64 (L 3 l)))
      ((refine hS.out _ ?_; first | (with_reducible exact K.drew (Below.refl _ _)) | (with_reducible exact K.drew (K.alloc (Below.refl _ _) _)) | (with_reducible exact Below.refl _ _) | (with_reducible exact K.call (by go_split_ands; assumption) hk) | (with_reducible exact K.alloc (by go_split_ands; assumption) _) | (with_reducible exact K.again (by go_split_ands; assumption) (by omega) _) | (with_reducible exact K.set (by go_split_ands; assumption) (by first | omega | (simp; done) | (simp; omega)) _) | (with_reducible exact K.set (K.set (K.set (K.set (by go_split_ands; assumption) (by first | omega | (simp; done) | (simp; omega)) _) (by first | omega | (simp; done) | (simp; omega)) _) (by first | omega | (simp; done) | (simp; omega)) _) (by first | omega | (simp; done) | (simp; omega)) _)))
      (first
        | (go_at_call 9; with_reducible refine Calls.mono (awake_any (hTW.out _ (by go_split_ands; assumption))) ?_; rintro e w' ⟨rfl, hk⟩; have hz := hk.size; (try simp at hz); obtain ⟨hc, hf⟩ := bcell hk; have hl := lt_keep hk)
        | (go_at_call 14; with_reducible refine Calls.mono (C1.out _ (hTW.out _ (by go_split_ands; assumption))) ?_; rintro e w' ⟨rfl, hk⟩; have hz := hk.size; (try simp at hz); obtain ⟨hc, hf⟩ := bcell hk; have hl := lt_keep hk)
        | (go_at_call 16; with_reducible refine Calls.mono (C2.out _ (hTW.out _ (by go_split_ands; assumption))) ?_; rintro e w' ⟨rfl, hk⟩; have hz := hk.size; (try simp at hz); obtain ⟨hc, hf⟩ := bcell hk; have hl := lt_keep hk)
        | (go_at_call 16; with_reducible refine Calls.mono (C3.out _ (hTW.out _ (by go_split_ands; assumption))) ?_; rintro e w' ⟨rfl, hk⟩; have hz := hk.size; (try simp at hz); obtain ⟨hc, hf⟩ := bcell hk; have hl := lt_keep hk)
        | (go_at_call 16; with_reducible refine Calls.mono (C4.out _ (hTW.out _ (by go_split_ands; assumption))) ?_; rintro e w' ⟨rfl, hk⟩; have hz := hk.size; (try simp at hz); obtain ⟨hc, hf⟩ := bcell hk; have hl := lt_keep hk)
        | (go_at_call 14; with_reducible refine Calls.mono (C5.out _ (hTW.out _ (by go_split_ands; assumption))) ?_; rintro e w' ⟨rfl, hk⟩; have hz := hk.size; (try simp at hz); obtain ⟨hc, hf⟩ := bcell hk; have hl := lt_keep hk)
        | (go_at_call 16; with_reducible refine Calls.mono (C6.out _ (hTW.out _ (by go_split_ands; assumption))) ?_; rintro e w' ⟨rfl, hk⟩; have hz := hk.size; (try simp at hz); obtain ⟨hc, hf⟩ := bcell hk; have hl := lt_keep hk)
        | (go_at_call 16; with_reducible refine Calls.mono (C7.out _ (hTW.out _ (by go_split_ands; assumption))) ?_; rintro e w' ⟨rfl, hk⟩; have hz := hk.size; (try simp at hz); obtain ⟨hc, hf⟩ := bcell hk; have hl := lt_keep hk)
        | (go_at_call 16; with_reducible refine Calls.mono (C8.out _ (hTW.out _ (by go_split_ands; assumption))) ?_; rintro e w' ⟨rfl, hk⟩; have hz := hk.size; (try simp at hz); obtain ⟨hc, hf⟩ := bcell hk; have hl := lt_keep hk)
        | (go_at_call 14; with_reducible refine Calls.mono (C9.out _ (hTW.out _ (by go_split_ands; assumption))) ?_; rintro e w' ⟨rfl, hk⟩; have hz := hk.size; (try simp at hz); obtain ⟨hc, hf⟩ := bcell hk; have hl := lt_keep hk)
        | (go_at_call 15; with_reducible refine Calls.mono (C10.out _ (hTW.out _ (by go_split_ands; assumption))) ?_; rintro e w' ⟨rfl, hk⟩; have hz := hk.size; (try simp at hz); obtain ⟨hc, hf⟩ := bcell hk; have hl := lt_keep hk)
        | (go_at_call 12; with_reducible refine Calls.mono (C11.out _ (hTW.out _ (by go_split_ands; assumption))) ?_; rintro e w' ⟨rfl, hk⟩; have hz := hk.size; (try simp at hz); obtain ⟨hc, hf⟩ := bcell hk; have hl := lt_keep hk)
        | (go_at_call 14; with_reducible refine Calls.mono (C12.out _ (hTW.out _ (by go_split_ands; assumption))) ?_; rintro e w' ⟨rfl, hk⟩; have hz := hk.size; (try simp at hz); obtain ⟨hc, hf⟩ := bcell hk; have hl := lt_keep hk)
        | (go_at_call 16; with_reducible refine Calls.mono (C13.out _ (hTW.out _ (by go_split_ands; assumption))) ?_; rintro e w' ⟨rfl, hk⟩; have hz := hk.size; (try simp at hz); obtain ⟨hc, hf⟩ := bcell hk; have hl := lt_keep hk)
        | (go_at_call 16; with_reducible refine Calls.mono (C14.out _ (hTW.out _ (by go_split_ands; assumption))) ?_; rintro e w' ⟨rfl, hk⟩; have hz := hk.size; (try simp at hz); obtain ⟨hc, hf⟩ := bcell hk; have hl := lt_keep hk))
    all_goals
      have hH := ‹Below _ _ _ ∧ _›
      (try go_wp2_with fail)
      go_meet
      exact ⟨rfl, hH.1⟩
  case rest =>
  obtain ⟨rfl, hW⟩ := hcut
  generalize wc = V4 at *
  have hA4 := hA3.keep hW
  have hB4 := hB3.keep hW
  have hC4 := hC3.keep hW
  have hw5 := K.call hw4 hW
  have hT5 := hT4.keep hW
  clear hS hTW hA3 hB3 hC3 hw4 hT4 hW hL3 hM
  have hTW : Hid (∀ w', Below V4.heap.size V4 w' → Tab w') := fun w' h => hT5.keep h
  have ⟨ka, ka0, ka1, ka2, ka3⟩ := hA4
  have ⟨kb, kb0, kb1, kb2, kb3⟩ := hB4
  have ⟨kc, kc0, kc1, kc2, kc3⟩ := hC4
  have hS : Hid (∀ w', Below V4.heap.size V4 w' → (Below V4.heap.size V4 w' ∧ w'.cell? ⟨b5, 0, none⟩ = some (.int .u64 (L 0 a)) ∧ w'.cell? ⟨b5, 1, none⟩ = some (.int .u64 (L 1 a)) ∧ w'.cell? ⟨b5, 2, none⟩ = some (.int .u64 (L 2 a)) ∧ w'.cell? ⟨b5, 3, none⟩ = some (.int .u64 (L 3 a)) ∧ w'.cell? ⟨b6, 0, none⟩ = some (.int .u64 (L 0 b)) ∧ w'.cell? ⟨b6, 1, none⟩ = some (.int .u64 (L 1 b)) ∧ w'.cell? ⟨b6, 2, none⟩ = some (.int .u64 (L 2 b)) ∧ w'.cell? ⟨b6, 3, none⟩ = some (.int .u64 (L 3 b)) ∧ w'.cell? ⟨b7, 0, none⟩ = some (.int .u64 (L 0 c)) ∧ w'.cell? ⟨b7, 1, none⟩ = some (.int .u64 (L 1 c)) ∧ w'.cell? ⟨b7, 2, none⟩ = some (.int .u64 (L 2 c)) ∧ w'.cell? ⟨b7, 3, none⟩ = some (.int .u64 (L 3 c)))) := fun w' hB => ⟨hB, later hB ka0, later hB ka1, later hB ka2, later hB ka3, later hB kb0, later hB kb1, later hB kb2, later hB kb3, later hB kc0, later hB kc1, later hB kc2, later hB kc3⟩
  clear ka0 ka1 ka2 ka3 kb0 kb1 kb2 kb3 kc0 kc1 kc2 kc3 ka kb kc
  go_wp2_with fail
  go_region_held3 (fun w' => Below V4.heap.size V4 w' ∧ w'.cell? ⟨b5, 0, none⟩ = some (.int .u64 (L 0 a)) ∧ w'.cell? ⟨b5, 1, none⟩ = some (.int .u64 (L 1 a)) ∧ w'.cell? ⟨b5, 2, none⟩ = some (.int .u64 (L 2 a)) ∧ w'.cell? ⟨b5, 3, none⟩ = some (.int .u64 (L 3 a)) ∧ w'.cell? ⟨b6, 0, none⟩ = some (.int .u64 (L 0 b)) ∧ w'.cell? ⟨b6, 1, none⟩ = some (.int .u64 (L 1 b)) ∧ w'.cell? ⟨b6, 2, none⟩ = some (.int .u64 (L 2 b)) ∧ w'.cell? ⟨b6, 3, none⟩ = some (.int .u64 (L 3 b)) ∧ w'.cell? ⟨b7, 0, none⟩ = some (.int .u64 (L 0 c)) ∧ w'.cell? ⟨b7, 1, none⟩ = some (.int .u64 (L 1 c)) ∧ w'.cell? ⟨b7, 2, none⟩ = some (.int .u64 (L 2 c)) ∧ w'.cell? ⟨b7, 3, none⟩ = some (.int .u64 (L 3 c)))
    ((refine hS.out _ ?_; first | (with_reducible exact K.drew (Below.refl _ _)) | (with_reducible exact K.drew (K.alloc (Below.refl _ _) _)) | (with_reducible exact Below.refl _ _) | (with_reducible exact K.call (by go_split_ands; assumption) hk) | (with_reducible exact K.alloc (by go_split_ands; assumption) _) | (with_reducible exact K.again (by go_split_ands; assumption) (by omega) _) | (with_reducible exact K.set (by go_split_ands; assumption) (by first | omega | (simp; done) | (simp; omega)) _) | (with_reducible exact K.set (K.set (K.set (K.set (by go_split_ands; assumption) (by first | omega | (simp; done) | (simp; omega)) _) (by first | omega | (simp; done) | (simp; omega)) _) (by first | omega | (simp; done) | (simp; omega)) _) (by first | omega | (simp; done) | (simp; omega)) _)))
    (first
      | (go_at_call 9; with_reducible refine Calls.mono (awake_any (hTW.out _ (by go_split_ands; assumption))) ?_; rintro e w' ⟨rfl, hk⟩; have hz := hk.size; (try simp at hz); obtain ⟨hc, hf⟩ := bcell hk; have hl := lt_keep hk)
      | (go_at_call 14; with_reducible refine Calls.mono (C1.out _ (hTW.out _ (by go_split_ands; assumption))) ?_; rintro e w' ⟨rfl, hk⟩; have hz := hk.size; (try simp at hz); obtain ⟨hc, hf⟩ := bcell hk; have hl := lt_keep hk)
      | (go_at_call 16; with_reducible refine Calls.mono (C2.out _ (hTW.out _ (by go_split_ands; assumption))) ?_; rintro e w' ⟨rfl, hk⟩; have hz := hk.size; (try simp at hz); obtain ⟨hc, hf⟩ := bcell hk; have hl := lt_keep hk)
      | (go_at_call 16; with_reducible refine Calls.mono (C3.out _ (hTW.out _ (by go_split_ands; assumption))) ?_; rintro e w' ⟨rfl, hk⟩; have hz := hk.size; (try simp at hz); obtain ⟨hc, hf⟩ := bcell hk; have hl := lt_keep hk)
      | (go_at_call 16; with_reducible refine Calls.mono (C4.out _ (hTW.out _ (by go_split_ands; assumption))) ?_; rintro e w' ⟨rfl, hk⟩; have hz := hk.size; (try simp at hz); obtain ⟨hc, hf⟩ := bcell hk; have hl := lt_keep hk)
      | (go_at_call 14; with_reducible refine Calls.mono (C5.out _ (hTW.out _ (by go_split_ands; assumption))) ?_; rintro e w' ⟨rfl, hk⟩; have hz := hk.size; (try simp at hz); obtain ⟨hc, hf⟩ := bcell hk; have hl := lt_keep hk)
      | (go_at_call 16; with_reducible refine Calls.mono (C6.out _ (hTW.out _ (by go_split_ands; assumption))) ?_; rintro e w' ⟨rfl, hk⟩; have hz := hk.size; (try simp at hz); obtain ⟨hc, hf⟩ := bcell hk; have hl := lt_keep hk)
      | (go_at_call 16; with_reducible refine Calls.mono (C7.out _ (hTW.out _ (by go_split_ands; assumption))) ?_; rintro e w' ⟨rfl, hk⟩; have hz := hk.size; (try simp at hz); obtain ⟨hc, hf⟩ := bcell hk; have hl := lt_keep hk)
      | (go_at_call 16; with_reducible refine Calls.mono (C8.out _ (hTW.out _ (by go_split_ands; assumption))) ?_; rintro e w' ⟨rfl, hk⟩; have hz := hk.size; (try simp at hz); obtain ⟨hc, hf⟩ := bcell hk; have hl := lt_keep hk)
      | (go_at_call 14; with_reducible refine Calls.mono (C9.out _ (hTW.out _ (by go_split_ands; assumption))) ?_; rintro e w' ⟨rfl, hk⟩; have hz := hk.size; (try simp at hz); obtain ⟨hc, hf⟩ := bcell hk; have hl := lt_keep hk)
      | (go_at_call 15; with_reducible refine Calls.mono (C10.out _ (hTW.out _ (by go_split_ands; assumption))) ?_; rintro e w' ⟨rfl, hk⟩; have hz := hk.size; (try simp at hz); obtain ⟨hc, hf⟩ := bcell hk; have hl := lt_keep hk)
      | (go_at_call 12; with_reducible refine Calls.mono (C11.out _ (hTW.out _ (by go_split_ands; assumption))) ?_; rintro e w' ⟨rfl, hk⟩; have hz := hk.size; (try simp at hz); obtain ⟨hc, hf⟩ := bcell hk; have hl := lt_keep hk)
      | (go_at_call 14; with_reducible refine Calls.mono (C12.out _ (hTW.out _ (by go_split_ands; assumption))) ?_; rintro e w' ⟨rfl, hk⟩; have hz := hk.size; (try simp at hz); obtain ⟨hc, hf⟩ := bcell hk; have hl := lt_keep hk)
      | (go_at_call 16; with_reducible refine Calls.mono (C13.out _ (hTW.out _ (by go_split_ands; assumption))) ?_; rintro e w' ⟨rfl, hk⟩; have hz := hk.size; (try simp at hz); obtain ⟨hc, hf⟩ := bcell hk; have hl := lt_keep hk)
      | (go_at_call 16; with_reducible refine Calls.mono (C14.out _ (hTW.out _ (by go_split_ands; assumption))) ?_; rintro e w' ⟨rfl, hk⟩; have hz := hk.size; (try simp at hz); obtain ⟨hc, hf⟩ := bcell hk; have hl := lt_keep hk))
  have hH := ‹Below _ _ _ ∧ _›
  go_wp2_with fail
  go_ret
  exact ⟨rfl, K.call hw5 hH.1⟩
end Go.Proofs.YtelanboegjgcbaaDoor
