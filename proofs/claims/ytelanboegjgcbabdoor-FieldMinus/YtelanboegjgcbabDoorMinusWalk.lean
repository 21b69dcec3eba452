/- FieldMinus, walked: what is taken away from nothing is a number's other one. -/
import Derived.Test.YtelanboegjgcbabDoorAwake
import Derived.Deep.DeepCutAuto
namespace Go.Proofs.YtelanboegjgcbabDoor
open Go.RowKit
attribute [local go_sem ↓] Go.wp_at_zero Go.wp_at_succ
attribute [local go_sem] eq4

theorem f_add_z {n a : Int} (hn : 0 ≤ n ∧ n ≤ 3) (ha : Num a) {w : World} (hT : Tab w) : Calls Tryd.prog 10 #[.int .i64 n, .agg #[.int .u64 (L 0 a), .int .u64 (L 1 a), .int .u64 (L 2 a), .int .u64 (L 3 a)], .agg #[.int .u64 (L 0 ((0 - a) % md n)), .int .u64 (L 1 ((0 - a) % md n)), .int .u64 (L 2 ((0 - a) % md n)), .int .u64 (L 3 ((0 - a) % md n))]] w fun e w' => e = .returned (.agg #[.int .u64 0, .int .u64 0, .int .u64 0, .int .u64 0]) ∧ Below w.heap.size w w' := by
  have h := f_add hn ha (num_f (a := 0 - a) hn) hT
  rw [Int.add_emod_emod, show a + (0 - a) = 0 by omega, Int.zero_emod, L_zero, L_zero, L_zero, L_zero] at h
  exact h
theorem f_sub_b {n a : Int} (hn : 0 ≤ n ∧ n ≤ 3) {w : World} (hT : Tab w) : Calls Tryd.prog 9 #[.int .i64 n, .agg #[.int .u64 0, .int .u64 0, .int .u64 0, .int .u64 0], .agg #[.int .u64 (L 0 ((0 - a) % md n)), .int .u64 (L 1 ((0 - a) % md n)), .int .u64 (L 2 ((0 - a) % md n)), .int .u64 (L 3 ((0 - a) % md n))]] w fun e w' => e = .returned (.agg #[.int .u64 (L 0 (a % md n)), .int .u64 (L 1 (a % md n)), .int .u64 (L 2 (a % md n)), .int .u64 (L 3 (a % md n))]) ∧ Below w.heap.size w w' := by
  have h := f_sub_z hn (num_f (a := 0 - a) hn) hT
  rw [Int.sub_emod_emod, show 0 - (0 - a) = a by omega] at h
  exact h
theorem f_mul_z {n a b : Int} (hn : 0 ≤ n ∧ n ≤ 3) (hb : Num b) {w : World} (hT : Tab w) : Calls Tryd.prog 7 #[.int .i64 n, .agg #[.int .u64 (L 0 ((0 - a) % md n)), .int .u64 (L 1 ((0 - a) % md n)), .int .u64 (L 2 ((0 - a) % md n)), .int .u64 (L 3 ((0 - a) % md n))], .agg #[.int .u64 (L 0 b), .int .u64 (L 1 b), .int .u64 (L 2 b), .int .u64 (L 3 b)]] w fun e w' => e = .returned (.agg #[.int .u64 (L 0 ((0 - a * b) % md n)), .int .u64 (L 1 ((0 - a * b) % md n)), .int .u64 (L 2 ((0 - a * b) % md n)), .int .u64 (L 3 ((0 - a * b) % md n))]) ∧ Below w.heap.size w w' := by
  have h := f_mul hn (num_f (a := 0 - a) hn) hb hT
  rw [mul_mod_l, Int.sub_mul, Int.zero_mul] at h
  exact h
theorem f_sub_t {n a b : Int} (hn : 0 ≤ n ∧ n ≤ 3) {w : World} (hT : Tab w) : Calls Tryd.prog 9 #[.int .i64 n, .agg #[.int .u64 0, .int .u64 0, .int .u64 0, .int .u64 0], .agg #[.int .u64 (L 0 (a * b % md n)), .int .u64 (L 1 (a * b % md n)), .int .u64 (L 2 (a * b % md n)), .int .u64 (L 3 (a * b % md n))]] w fun e w' => e = .returned (.agg #[.int .u64 (L 0 ((0 - a * b) % md n)), .int .u64 (L 1 ((0 - a * b) % md n)), .int .u64 (L 2 ((0 - a * b) % md n)), .int .u64 (L 3 ((0 - a * b) % md n))]) ∧ Below w.heap.size w w' := by
  have h := f_sub_z hn (num_f (a := a * b) hn) hT
  rw [Int.sub_emod_emod] at h
  exact h
theorem f_add_v {n a b : Int} (hn : 0 ≤ n ∧ n ≤ 3) (ha : Num a) {w : World} (hT : Tab w) : Calls Tryd.prog 10 #[.int .i64 n, .agg #[.int .u64 (L 0 a), .int .u64 (L 1 a), .int .u64 (L 2 a), .int .u64 (L 3 a)], .agg #[.int .u64 (L 0 ((0 - b) % md n)), .int .u64 (L 1 ((0 - b) % md n)), .int .u64 (L 2 ((0 - b) % md n)), .int .u64 (L 3 ((0 - b) % md n))]] w fun e w' => e = .returned (.agg #[.int .u64 (L 0 ((a - b) % md n)), .int .u64 (L 1 ((a - b) % md n)), .int .u64 (L 2 ((a - b) % md n)), .int .u64 (L 3 ((a - b) % md n))]) ∧ Below w.heap.size w w' := by
  have h := f_add hn ha (num_f (a := 0 - b) hn) hT
  rw [Int.add_emod_emod, show a + (0 - b) = a - b by omega] at h
  exact h

set_option maxHeartbeats 8000000 in
theorem minus_walk {k a b : Int} (k0 : 0 ≤ k) (k1 : k ≤ 255) (ha : Num a) (hb : Num b) {w : World} (hT : Tab w) :
    Calls Tryd.prog 4 #[.int .u8 k, .agg #[.int .u64 (L 0 a), .int .u64 (L 1 a), .int .u64 (L 2 a), .int .u64 (L 3 a)], .agg #[.int .u64 (L 0 b), .int .u64 (L 1 b), .int .u64 (L 2 b), .int .u64 (L 3 b)]] w fun e w' => e = .returned (.bool true) ∧ Below w.heap.size w w' := by
  obtain ⟨n, hn, hnk⟩ : ∃ n, (0 ≤ n ∧ n ≤ 3) ∧ k % 4 = n := ⟨_, k_four k, rfl⟩
  have C1 : Hid (∀ w : World, Tab w → Calls Tryd.prog 9 #[.int .i64 n, .agg #[.int .u64 0, .int .u64 0, .int .u64 0, .int .u64 0], .agg #[.int .u64 (L 0 a), .int .u64 (L 1 a), .int .u64 (L 2 a), .int .u64 (L 3 a)]] w fun e w' => e = .returned (.agg #[.int .u64 (L 0 ((0 - a) % md n)), .int .u64 (L 1 ((0 - a) % md n)), .int .u64 (L 2 ((0 - a) % md n)), .int .u64 (L 3 ((0 - a) % md n))]) ∧ Below w.heap.size w w') := fun w hT => f_sub_z hn ha hT
  have C2 : Hid (∀ w : World, Tab w → Calls Tryd.prog 10 #[.int .i64 n, .agg #[.int .u64 (L 0 a), .int .u64 (L 1 a), .int .u64 (L 2 a), .int .u64 (L 3 a)], .agg #[.int .u64 (L 0 ((0 - a) % md n)), .int .u64 (L 1 ((0 - a) % md n)), .int .u64 (L 2 ((0 - a) % md n)), .int .u64 (L 3 ((0 - a) % md n))]] w fun e w' => e = .returned (.agg #[.int .u64 0, .int .u64 0, .int .u64 0, .int .u64 0]) ∧ Below w.heap.size w w') := fun w hT => f_add_z hn ha hT
  have C3 : Hid (∀ w : World, Tab w → Calls Tryd.prog 9 #[.int .i64 n, .agg #[.int .u64 0, .int .u64 0, .int .u64 0, .int .u64 0], .agg #[.int .u64 (L 0 ((0 - a) % md n)), .int .u64 (L 1 ((0 - a) % md n)), .int .u64 (L 2 ((0 - a) % md n)), .int .u64 (L 3 ((0 - a) % md n))]] w fun e w' => e = .returned (.agg #[.int .u64 (L 0 (a % md n)), .int .u64 (L 1 (a % md n)), .int .u64 (L 2 (a % md n)), .int .u64 (L 3 (a % md n))]) ∧ Below w.heap.size w w') := fun w hT => f_sub_b hn hT
  have C4 : Hid (∀ w : World, Tab w → Calls Tryd.prog 8 #[.int .i64 n, .agg #[.int .u64 (L 0 a), .int .u64 (L 1 a), .int .u64 (L 2 a), .int .u64 (L 3 a)]] w fun e w' => e = .returned (.agg #[.int .u64 (L 0 (a % md n)), .int .u64 (L 1 (a % md n)), .int .u64 (L 2 (a % md n)), .int .u64 (L 3 (a % md n))]) ∧ Below w.heap.size w w') := fun w hT => f_fold hn ha hT
  have C5 : Hid (∀ w : World, Tab w → Calls Tryd.prog 7 #[.int .i64 n, .agg #[.int .u64 (L 0 ((0 - a) % md n)), .int .u64 (L 1 ((0 - a) % md n)), .int .u64 (L 2 ((0 - a) % md n)), .int .u64 (L 3 ((0 - a) % md n))], .agg #[.int .u64 (L 0 b), .int .u64 (L 1 b), .int .u64 (L 2 b), .int .u64 (L 3 b)]] w fun e w' => e = .returned (.agg #[.int .u64 (L 0 ((0 - a * b) % md n)), .int .u64 (L 1 ((0 - a * b) % md n)), .int .u64 (L 2 ((0 - a * b) % md n)), .int .u64 (L 3 ((0 - a * b) % md n))]) ∧ Below w.heap.size w w') := fun w hT => f_mul_z hn hb hT
  have C6 : Hid (∀ w : World, Tab w → Calls Tryd.prog 7 #[.int .i64 n, .agg #[.int .u64 (L 0 a), .int .u64 (L 1 a), .int .u64 (L 2 a), .int .u64 (L 3 a)], .agg #[.int .u64 (L 0 b), .int .u64 (L 1 b), .int .u64 (L 2 b), .int .u64 (L 3 b)]] w fun e w' => e = .returned (.agg #[.int .u64 (L 0 (a * b % md n)), .int .u64 (L 1 (a * b % md n)), .int .u64 (L 2 (a * b % md n)), .int .u64 (L 3 (a * b % md n))]) ∧ Below w.heap.size w w') := fun w hT => f_mul hn ha hb hT
  have C7 : Hid (∀ w : World, Tab w → Calls Tryd.prog 9 #[.int .i64 n, .agg #[.int .u64 0, .int .u64 0, .int .u64 0, .int .u64 0], .agg #[.int .u64 (L 0 (a * b % md n)), .int .u64 (L 1 (a * b % md n)), .int .u64 (L 2 (a * b % md n)), .int .u64 (L 3 (a * b % md n))]] w fun e w' => e = .returned (.agg #[.int .u64 (L 0 ((0 - a * b) % md n)), .int .u64 (L 1 ((0 - a * b) % md n)), .int .u64 (L 2 ((0 - a * b) % md n)), .int .u64 (L 3 ((0 - a * b) % md n))]) ∧ Below w.heap.size w w') := fun w hT => f_sub_t hn hT
  have C8 : Hid (∀ w : World, Tab w → Calls Tryd.prog 9 #[.int .i64 n, .agg #[.int .u64 (L 0 a), .int .u64 (L 1 a), .int .u64 (L 2 a), .int .u64 (L 3 a)], .agg #[.int .u64 (L 0 b), .int .u64 (L 1 b), .int .u64 (L 2 b), .int .u64 (L 3 b)]] w fun e w' => e = .returned (.agg #[.int .u64 (L 0 ((a - b) % md n)), .int .u64 (L 1 ((a - b) % md n)), .int .u64 (L 2 ((a - b) % md n)), .int .u64 (L 3 ((a - b) % md n))]) ∧ Below w.heap.size w w') := fun w hT => f_sub hn ha hb hT
  have C9 : Hid (∀ w : World, Tab w → Calls Tryd.prog 9 #[.int .i64 n, .agg #[.int .u64 0, .int .u64 0, .int .u64 0, .int .u64 0], .agg #[.int .u64 (L 0 b), .int .u64 (L 1 b), .int .u64 (L 2 b), .int .u64 (L 3 b)]] w fun e w' => e = .returned (.agg #[.int .u64 (L 0 ((0 - b) % md n)), .int .u64 (L 1 ((0 - b) % md n)), .int .u64 (L 2 ((0 - b) % md n)), .int .u64 (L 3 ((0 - b) % md n))]) ∧ Below w.heap.size w w') := fun w hT => f_sub_z hn hb hT
  have C10 : Hid (∀ w : World, Tab w → Calls Tryd.prog 10 #[.int .i64 n, .agg #[.int .u64 (L 0 a), .int .u64 (L 1 a), .int .u64 (L 2 a), .int .u64 (L 3 a)], .agg #[.int .u64 (L 0 ((0 - b) % md n)), .int .u64 (L 1 ((0 - b) % md n)), .int .u64 (L 2 ((0 - b) % md n)), .int .u64 (L 3 ((0 - b) % md n))]] w fun e w' => e = .returned (.agg #[.int .u64 (L 0 ((a - b) % md n)), .int .u64 (L 1 ((a - b) % md n)), .int .u64 (L 2 ((a - b) % md n)), .int .u64 (L 3 ((a - b) % md n))]) ∧ Below w.heap.size w w') := fun w hT => f_add_v hn ha hT
  clear ha hb
  generalize (0 - a) % md n = p at C1 C2 C3 C4 C5 C6 C7 C8 C9 C10
  generalize (0 - a * b) % md n = r at C1 C2 C3 C4 C5 C6 C7 C8 C9 C10
  generalize a * b % md n = t at C1 C2 C3 C4 C5 C6 C7 C8 C9 C10
  generalize (a - b) % md n = u at C1 C2 C3 C4 C5 C6 C7 C8 C9 C10
  generalize (0 - b) % md n = v at C1 C2 C3 C4 C5 C6 C7 C8 C9 C10
  generalize a % md n = q at C1 C2 C3 C4 C5 C6 C7 C8 C9 C10
  clear hn
  go_enter Tryd.func4, Tryd.ntmps4
  go_wp2_with fail
  with_reducible refine Calls.mono (C1.out _ (hT.keep (K.alloc (K.alloc (Below.refl _ _) _) _))) ?_
  rintro e w1 ⟨rfl, hb1⟩
  have A1 := ((Arr.new w w.heap.size rfl 24 (L 0 a) (L 1 a) (L 2 a) (L 3 a)).alloc _).keep hb1 |>.alloc (.cells #[.int .u64 (L 0 p), .int .u64 (L 1 p), .int .u64 (L 2 p), .int .u64 (L 3 p)] 24)
  have B1 := (Arr.new _ (w.heap.size + 1) (by simp) 24 (L 0 b) (L 1 b) (L 2 b) (L 3 b)).keep hb1 |>.alloc (.cells #[.int .u64 (L 0 p), .int .u64 (L 1 p), .int .u64 (L 2 p), .int .u64 (L 3 p)] 24)
  have P1 := Arr.new w1 w1.heap.size rfl 24 (L 0 p) (L 1 p) (L 2 p) (L 3 p)
  have hw1 : Below w.heap.size w (w1.alloc (.cells #[.int .u64 (L 0 p), .int .u64 (L 1 p), .int .u64 (L 2 p), .int .u64 (L 3 p)] 24)) := K.alloc (K.call (K.alloc (K.alloc (Below.refl _ w) _) _) hb1) _
  have hT1 := hT.keep hw1
  clear hb1 hT
  go_wp2_with fail
  generalize hbp : w1.heap.size = bp at *
  clear hbp
  generalize w1.alloc (.cells #[.int .u64 (L 0 p), .int .u64 (L 1 p), .int .u64 (L 2 p), .int .u64 (L 3 p)] 24) = W0 at *
  clear w1
  have hTW : Hid (∀ w', Below W0.heap.size W0 w' → Tab w') := fun w' h => hT1.keep h
  have ⟨ka, ka0, ka1, ka2, ka3⟩ := A1
  have ⟨kb, kb0, kb1, kb2, kb3⟩ := B1
  have ⟨kp, kp0, kp1, kp2, kp3⟩ := P1
  have hS : Hid (∀ w', Below W0.heap.size W0 w' → (Below W0.heap.size W0 w' ∧ w'.cell? ⟨w.heap.size, 0, none⟩ = some (.int .u64 (L 0 a)) ∧ w'.cell? ⟨w.heap.size, 1, none⟩ = some (.int .u64 (L 1 a)) ∧ w'.cell? ⟨w.heap.size, 2, none⟩ = some (.int .u64 (L 2 a)) ∧ w'.cell? ⟨w.heap.size, 3, none⟩ = some (.int .u64 (L 3 a)) ∧ w'.cell? ⟨w.heap.size + 1, 0, none⟩ = some (.int .u64 (L 0 b)) ∧ w'.cell? ⟨w.heap.size + 1, 1, none⟩ = some (.int .u64 (L 1 b)) ∧ w'.cell? ⟨w.heap.size + 1, 2, none⟩ = some (.int .u64 (L 2 b)) ∧ w'.cell? ⟨w.heap.size + 1, 3, none⟩ = some (.int .u64 (L 3 b)) ∧ w'.cell? ⟨bp, 0, none⟩ = some (.int .u64 (L 0 p)) ∧ w'.cell? ⟨bp, 1, none⟩ = some (.int .u64 (L 1 p)) ∧ w'.cell? ⟨bp, 2, none⟩ = some (.int .u64 (L 2 p)) ∧ w'.cell? ⟨bp, 3, none⟩ = some (.int .u64 (L 3 p)))) := fun w' hB => ⟨hB, later hB ka0, later hB ka1, later hB ka2, later hB ka3, later hB kb0, later hB kb1, later hB kb2, later hB kb3, later hB kp0, later hB kp1, later hB kp2, later hB kp3⟩
  clear ka ka0 ka1 ka2 ka3 kb kb0 kb1 kb2 kb3 kp kp0 kp1 kp2 kp3 A1 B1 P1 hT1
  go_region_held3 (fun w' => Below W0.heap.size W0 w' ∧ w'.cell? ⟨w.heap.size, 0, none⟩ = some (.int .u64 (L 0 a)) ∧ w'.cell? ⟨w.heap.size, 1, none⟩ = some (.int .u64 (L 1 a)) ∧ w'.cell? ⟨w.heap.size, 2, none⟩ = some (.int .u64 (L 2 a)) ∧ w'.cell? ⟨w.heap.size, 3, none⟩ = some (.int .u64 (L 3 a)) ∧ w'.cell? ⟨w.heap.size + 1, 0, none⟩ = some (.int .u64 (L 0 b)) ∧ w'.cell? ⟨w.heap.size + 1, 1, none⟩ = some (.int .u64 (L 1 b)) ∧ w'.cell? ⟨w.heap.size + 1, 2, none⟩ = some (.int .u64 (L 2 b)) ∧ w'.cell? ⟨w.heap.size + 1, 3, none⟩ = some (.int .u64 (L 3 b)) ∧ w'.cell? ⟨bp, 0, none⟩ = some (.int .u64 (L 0 p)) ∧ w'.cell? ⟨bp, 1, none⟩ = some (.int .u64 (L 1 p)) ∧ w'.cell? ⟨bp, 2, none⟩ = some (.int .u64 (L 2 p)) ∧ w'.cell? ⟨bp, 3, none⟩ = some (.int .u64 (L 3 p)))
    ((refine hS.out _ ?_; first | (with_reducible exact K.drew (Below.refl _ _)) | (with_reducible exact K.drew (K.alloc (Below.refl _ _) _)) | (with_reducible exact Below.refl _ _) | (with_reducible exact K.call (by go_split_ands; assumption) hk) | (with_reducible exact K.alloc (by go_split_ands; assumption) _) | (with_reducible exact K.again (by go_split_ands; assumption) (by omega) _) | (with_reducible exact K.set (by go_split_ands; assumption) (by first | omega | (simp; done) | (simp; omega)) _) | (with_reducible exact K.set (K.set (K.set (K.set (by go_split_ands; assumption) (by first | omega | (simp; done) | (simp; omega)) _) (by first | omega | (simp; done) | (simp; omega)) _) (by first | omega | (simp; done) | (simp; omega)) _) (by first | omega | (simp; done) | (simp; omega)) _)))
    (first
      | (go_at_call 5; with_reducible refine Calls.mono (awake_any (hTW.out _ (by go_split_ands; assumption))) ?_; rintro e w' ⟨rfl, hk⟩; have hz := hk.size; (try simp at hz); obtain ⟨hc, hf⟩ := bcell hk; have hl := lt_keep hk)
      | (go_at_call 10; with_reducible refine Calls.mono (C2.out _ (hTW.out _ (by go_split_ands; assumption))) ?_; rintro e w' ⟨rfl, hk⟩; have hz := hk.size; (try simp at hz); obtain ⟨hc, hf⟩ := bcell hk; have hl := lt_keep hk)
      | (go_at_call 9; with_reducible refine Calls.mono (C3.out _ (hTW.out _ (by go_split_ands; assumption))) ?_; rintro e w' ⟨rfl, hk⟩; have hz := hk.size; (try simp at hz); obtain ⟨hc, hf⟩ := bcell hk; have hl := lt_keep hk)
      | (go_at_call 8; with_reducible refine Calls.mono (C4.out _ (hTW.out _ (by go_split_ands; assumption))) ?_; rintro e w' ⟨rfl, hk⟩; have hz := hk.size; (try simp at hz); obtain ⟨hc, hf⟩ := bcell hk; have hl := lt_keep hk)
      | (go_at_call 7; with_reducible refine Calls.mono (C5.out _ (hTW.out _ (by go_split_ands; assumption))) ?_; rintro e w' ⟨rfl, hk⟩; have hz := hk.size; (try simp at hz); obtain ⟨hc, hf⟩ := bcell hk; have hl := lt_keep hk)
      | (go_at_call 7; with_reducible refine Calls.mono (C6.out _ (hTW.out _ (by go_split_ands; assumption))) ?_; rintro e w' ⟨rfl, hk⟩; have hz := hk.size; (try simp at hz); obtain ⟨hc, hf⟩ := bcell hk; have hl := lt_keep hk)
      | (go_at_call 9; with_reducible refine Calls.mono (C7.out _ (hTW.out _ (by go_split_ands; assumption))) ?_; rintro e w' ⟨rfl, hk⟩; have hz := hk.size; (try simp at hz); obtain ⟨hc, hf⟩ := bcell hk; have hl := lt_keep hk)
      | (go_at_call 9; with_reducible refine Calls.mono (C8.out _ (hTW.out _ (by go_split_ands; assumption))) ?_; rintro e w' ⟨rfl, hk⟩; have hz := hk.size; (try simp at hz); obtain ⟨hc, hf⟩ := bcell hk; have hl := lt_keep hk)
      | (go_at_call 9; with_reducible refine Calls.mono (C9.out _ (hTW.out _ (by go_split_ands; assumption))) ?_; rintro e w' ⟨rfl, hk⟩; have hz := hk.size; (try simp at hz); obtain ⟨hc, hf⟩ := bcell hk; have hl := lt_keep hk)
      | (go_at_call 10; with_reducible refine Calls.mono (C10.out _ (hTW.out _ (by go_split_ands; assumption))) ?_; rintro e w' ⟨rfl, hk⟩; have hz := hk.size; (try simp at hz); obtain ⟨hc, hf⟩ := bcell hk; have hl := lt_keep hk))
  have hH := ‹Below _ _ _ ∧ _›
  go_wp2_with fail
  go_ret
  exact ⟨rfl, K.call hw1 hH.1⟩
end Go.Proofs.YtelanboegjgcbabDoor
