/- FieldInverse, walked: each number that is no multiple of the modulus makes 1 with its inverse; the inverse's inverse is it. -/
import Derived.Test.YtelanboegjgcbaaDoorInv
import Derived.Deep.DeepCutAuto
namespace Go.Proofs.YtelanboegjgcbaaDoor
open Go.RowKit
attribute [local go_sem ↓] Go.wp_at_zero Go.wp_at_succ
attribute [local go_sem] eq4

set_option maxHeartbeats 8000000 in
theorem inverse_walk {k a : Int} (k0 : 0 ≤ k) (k1 : k ≤ 255) (ha : Num a) {w : World} (hT : Tab w) :
    Calls Tryd.prog 7 #[.int .u8 k, .agg #[.int .u64 (L 0 a), .int .u64 (L 1 a), .int .u64 (L 2 a), .int .u64 (L 3 a)]] w fun e w' => e = .returned (.bool true) ∧ Below w.heap.size w w' := by
  obtain ⟨n, hn, hnk⟩ : ∃ n, (0 ≤ n ∧ n ≤ 3) ∧ k % 4 = n := ⟨_, k_four k, rfl⟩
  have C1 : Hid (∀ w : World, Tab w → Calls Tryd.prog 12 #[.int .i64 n, .agg #[.int .u64 (L 0 a), .int .u64 (L 1 a), .int .u64 (L 2 a), .int .u64 (L 3 a)]] w fun e w' => e = .returned (.agg #[.int .u64 (L 0 (a % md n)), .int .u64 (L 1 (a % md n)), .int .u64 (L 2 (a % md n)), .int .u64 (L 3 (a % md n))]) ∧ Below w.heap.size w w') := fun w hT => f_fold hn ha hT
  have C2 : Hid (∀ w : World, Tab w → Calls Tryd.prog 18 #[.int .i64 n, .agg #[.int .u64 (L 0 a), .int .u64 (L 1 a), .int .u64 (L 2 a), .int .u64 (L 3 a)]] w fun e w' => e = .returned (.agg #[.int .u64 (L 0 (pw a (md n - 2) % md n)), .int .u64 (L 1 (pw a (md n - 2) % md n)), .int .u64 (L 2 (pw a (md n - 2) % md n)), .int .u64 (L 3 (pw a (md n - 2) % md n))]) ∧ Below w.heap.size w w') := fun w hT => f_inv hn ha hT
  by_cases hz : a % md n = 0
  · rw [hz] at C1
    rw [inv_none hn hz] at C2
    have z0 : L 0 0 = 0 := by decide
    have z1 : L 1 0 = 0 := by decide
    have z2 : L 2 0 = 0 := by decide
    have z3 : L 3 0 = 0 := by decide
    rw [z0, z1, z2, z3] at C1 C2
    clear ha hn hz z0 z1 z2 z3
    go_enter Tryd.func7, Tryd.ntmps7
    go_wp2_with fail
    with_reducible refine Calls.mono (C1.out _ (hT.keep (K.alloc (Below.refl _ _) _))) ?_
    rintro e w1 ⟨rfl, hb1⟩
    have A1 := (Arr.new w w.heap.size rfl 24 (L 0 a) (L 1 a) (L 2 a) (L 3 a)).keep hb1 |>.alloc (.cells #[.int .u64 0, .int .u64 0, .int .u64 0, .int .u64 0] 24)
    have Q1 := Arr.new w1 w1.heap.size rfl 24 0 0 0 0
    have hw1 : Below w.heap.size w (w1.alloc (.cells #[.int .u64 0, .int .u64 0, .int .u64 0, .int .u64 0] 24)) := K.alloc (K.call (K.alloc (Below.refl _ w) _) hb1) _
    have hT1 := hT.keep hw1
    clear hb1 hT
    have ⟨ka, ka0, ka1, ka2, ka3⟩ := A1
    go_wp2_with fail
    with_reducible refine Calls.mono (C2.out _ hT1) ?_
    clear ka ka0 ka1 ka2 ka3
    rintro e w2 ⟨rfl, hb2⟩
    have A2 := (A1.keep hb2).alloc (.cells #[.int .u64 0, .int .u64 0, .int .u64 0, .int .u64 0] 24)
    have Q2 := (Q1.keep hb2).alloc (.cells #[.int .u64 0, .int .u64 0, .int .u64 0, .int .u64 0] 24)
    have I2 := Arr.new w2 w2.heap.size rfl 24 0 0 0 0
    have hw2 : Below w.heap.size w (w2.alloc (.cells #[.int .u64 0, .int .u64 0, .int .u64 0, .int .u64 0] 24)) := K.alloc (K.call hw1 hb2) _
    have hT2 := (hT1.keep hb2).keep (K.alloc (Below.refl _ _) (.cells #[.int .u64 0, .int .u64 0, .int .u64 0, .int .u64 0] 24))
    clear hb2 hT1 A1 Q1 hw1
    have ⟨ka, ka0, ka1, ka2, ka3⟩ := A2
    have ⟨kq, kq0, kq1, kq2, kq3⟩ := Q2
    have ⟨ki, ki0, ki1, ki2, ki3⟩ := I2
    go_wp2_with (go_at_call 9; with_reducible refine Calls.mono (awake_any hT2) ?_; rintro e w3 ⟨rfl, hb3⟩; have I3 := I2.keep hb3; have ⟨kj, kj0, kj1, kj2, kj3⟩ := I3)
    go_ret
    exact ⟨rfl, K.call hw2 hb3⟩
  · have nq : Num (a % md n) := num_f hn
    have ni : Num (pw a (md n - 2) % md n) := num_f hn
    have hne := words_not nq hz
    have C3 : Hid (∀ w : World, Tab w → Calls Tryd.prog 16 #[.int .i64 n, .agg #[.int .u64 (L 0 a), .int .u64 (L 1 a), .int .u64 (L 2 a), .int .u64 (L 3 a)], .agg #[.int .u64 (L 0 (pw a (md n - 2) % md n)), .int .u64 (L 1 (pw a (md n - 2) % md n)), .int .u64 (L 2 (pw a (md n - 2) % md n)), .int .u64 (L 3 (pw a (md n - 2) % md n))]] w fun e w' => e = .returned (.agg #[.int .u64 1, .int .u64 0, .int .u64 0, .int .u64 0]) ∧ Below w.heap.size w w') := by
      intro w hT
      have h := f_mul hn ha ni hT
      rw [inv_one hn ha.lo hz] at h
      have b0 : L 0 1 = 1 := by decide
      have b1 : L 1 1 = 0 := by decide
      have b2 : L 2 1 = 0 := by decide
      have b3 : L 3 1 = 0 := by decide
      rw [b0, b1, b2, b3] at h
      exact h
    have C4 : Hid (∀ w : World, Tab w → Calls Tryd.prog 18 #[.int .i64 n, .agg #[.int .u64 (L 0 (pw a (md n - 2) % md n)), .int .u64 (L 1 (pw a (md n - 2) % md n)), .int .u64 (L 2 (pw a (md n - 2) % md n)), .int .u64 (L 3 (pw a (md n - 2) % md n))]] w fun e w' => e = .returned (.agg #[.int .u64 (L 0 (a % md n)), .int .u64 (L 1 (a % md n)), .int .u64 (L 2 (a % md n)), .int .u64 (L 3 (a % md n))]) ∧ Below w.heap.size w w') := by
      intro w hT
      have h := f_inv hn ni hT
      rw [inv_back hn ha.lo hz] at h
      exact h
    clear ha hn hz nq ni
    generalize pw a (md n - 2) % md n = i at *
    generalize a % md n = q at *
    go_enter Tryd.func7, Tryd.ntmps7
    go_wp2_with fail
    with_reducible refine Calls.mono (C1.out _ (hT.keep (K.alloc (Below.refl _ _) _))) ?_
    rintro e w1 ⟨rfl, hb1⟩
    have A1 := (Arr.new w w.heap.size rfl 24 (L 0 a) (L 1 a) (L 2 a) (L 3 a)).keep hb1 |>.alloc (.cells #[.int .u64 (L 0 q), .int .u64 (L 1 q), .int .u64 (L 2 q), .int .u64 (L 3 q)] 24)
    have Q1 := Arr.new w1 w1.heap.size rfl 24 (L 0 q) (L 1 q) (L 2 q) (L 3 q)
    have hw1 : Below w.heap.size w (w1.alloc (.cells #[.int .u64 (L 0 q), .int .u64 (L 1 q), .int .u64 (L 2 q), .int .u64 (L 3 q)] 24)) := K.alloc (K.call (K.alloc (Below.refl _ w) _) hb1) _
    have hT1 := hT.keep hw1
    clear hb1 hT
    have ⟨ka, ka0, ka1, ka2, ka3⟩ := A1
    go_wp2_with fail
    with_reducible refine Calls.mono (C2.out _ hT1) ?_
    clear ka ka0 ka1 ka2 ka3
    rintro e w2 ⟨rfl, hb2⟩
    have A2 := (A1.keep hb2).alloc (.cells #[.int .u64 (L 0 i), .int .u64 (L 1 i), .int .u64 (L 2 i), .int .u64 (L 3 i)] 24)
    have Q2 := (Q1.keep hb2).alloc (.cells #[.int .u64 (L 0 i), .int .u64 (L 1 i), .int .u64 (L 2 i), .int .u64 (L 3 i)] 24)
    have I2 := Arr.new w2 w2.heap.size rfl 24 (L 0 i) (L 1 i) (L 2 i) (L 3 i)
    have hw2 : Below w.heap.size w (w2.alloc (.cells #[.int .u64 (L 0 i), .int .u64 (L 1 i), .int .u64 (L 2 i), .int .u64 (L 3 i)] 24)) := K.alloc (K.call hw1 hb2) _
    have hT2 := (hT1.keep hb2).keep (K.alloc (Below.refl _ _) (.cells #[.int .u64 (L 0 i), .int .u64 (L 1 i), .int .u64 (L 2 i), .int .u64 (L 3 i)] 24))
    clear hb2 hT1 A1 Q1 hw1
    have ⟨ka, ka0, ka1, ka2, ka3⟩ := A2
    have ⟨kq, kq0, kq1, kq2, kq3⟩ := Q2
    have ⟨ki, ki0, ki1, ki2, ki3⟩ := I2
    have HE : ∀ w, (Op.equalIn 10000 24 (.agg #[.int .u64 (L 0 q), .int .u64 (L 1 q), .int .u64 (L 2 q), .int .u64 (L 3 q)]) (.agg #[.int .u64 0, .int .u64 0, .int .u64 0, .int .u64 0])).run Tryd.prog w = .ok false w := by
      intro w; rw [eq4, hne]
    clear hne
    go_wp2_with fail
    clear HE
    generalize w1.heap.size = bq at *
    generalize w2.heap.size = bi at *
    generalize w2.alloc (.cells #[.int .u64 (L 0 i), .int .u64 (L 1 i), .int .u64 (L 2 i), .int .u64 (L 3 i)] 24) = W0 at *
    clear w1 w2
    have hTW : Hid (∀ w', Below W0.heap.size W0 w' → Tab w') := fun w' h => hT2.keep h
    have hS : Hid (∀ w', Below W0.heap.size W0 w' → (Below W0.heap.size W0 w' ∧ w'.cell? ⟨w.heap.size, 0, none⟩ = some (.int .u64 (L 0 a)) ∧ w'.cell? ⟨w.heap.size, 1, none⟩ = some (.int .u64 (L 1 a)) ∧ w'.cell? ⟨w.heap.size, 2, none⟩ = some (.int .u64 (L 2 a)) ∧ w'.cell? ⟨w.heap.size, 3, none⟩ = some (.int .u64 (L 3 a)) ∧ w'.cell? ⟨bq, 0, none⟩ = some (.int .u64 (L 0 q)) ∧ w'.cell? ⟨bq, 1, none⟩ = some (.int .u64 (L 1 q)) ∧ w'.cell? ⟨bq, 2, none⟩ = some (.int .u64 (L 2 q)) ∧ w'.cell? ⟨bq, 3, none⟩ = some (.int .u64 (L 3 q)) ∧ w'.cell? ⟨bi, 0, none⟩ = some (.int .u64 (L 0 i)) ∧ w'.cell? ⟨bi, 1, none⟩ = some (.int .u64 (L 1 i)) ∧ w'.cell? ⟨bi, 2, none⟩ = some (.int .u64 (L 2 i)) ∧ w'.cell? ⟨bi, 3, none⟩ = some (.int .u64 (L 3 i)))) := fun w' hB => ⟨hB, later hB ka0, later hB ka1, later hB ka2, later hB ka3, later hB kq0, later hB kq1, later hB kq2, later hB kq3, later hB ki0, later hB ki1, later hB ki2, later hB ki3⟩
    clear ka0 ka1 ka2 ka3 kq0 kq1 kq2 kq3 ki0 ki1 ki2 ki3 ka kq ki A2 Q2 I2 hT2
    go_region_held3 (fun w' => Below W0.heap.size W0 w' ∧ w'.cell? ⟨w.heap.size, 0, none⟩ = some (.int .u64 (L 0 a)) ∧ w'.cell? ⟨w.heap.size, 1, none⟩ = some (.int .u64 (L 1 a)) ∧ w'.cell? ⟨w.heap.size, 2, none⟩ = some (.int .u64 (L 2 a)) ∧ w'.cell? ⟨w.heap.size, 3, none⟩ = some (.int .u64 (L 3 a)) ∧ w'.cell? ⟨bq, 0, none⟩ = some (.int .u64 (L 0 q)) ∧ w'.cell? ⟨bq, 1, none⟩ = some (.int .u64 (L 1 q)) ∧ w'.cell? ⟨bq, 2, none⟩ = some (.int .u64 (L 2 q)) ∧ w'.cell? ⟨bq, 3, none⟩ = some (.int .u64 (L 3 q)) ∧ w'.cell? ⟨bi, 0, none⟩ = some (.int .u64 (L 0 i)) ∧ w'.cell? ⟨bi, 1, none⟩ = some (.int .u64 (L 1 i)) ∧ w'.cell? ⟨bi, 2, none⟩ = some (.int .u64 (L 2 i)) ∧ w'.cell? ⟨bi, 3, none⟩ = some (.int .u64 (L 3 i)))
      ((refine hS.out _ ?_; first | (with_reducible exact K.drew (Below.refl _ _)) | (with_reducible exact K.drew (K.alloc (Below.refl _ _) _)) | (with_reducible exact Below.refl _ _) | (with_reducible exact K.call (by go_split_ands; assumption) hk) | (with_reducible exact K.alloc (by go_split_ands; assumption) _) | (with_reducible exact K.again (by go_split_ands; assumption) (by omega) _) | (with_reducible exact K.set (by go_split_ands; assumption) (by first | omega | (simp; done) | (simp; omega)) _) | (with_reducible exact K.set (K.set (K.set (K.set (by go_split_ands; assumption) (by first | omega | (simp; done) | (simp; omega)) _) (by first | omega | (simp; done) | (simp; omega)) _) (by first | omega | (simp; done) | (simp; omega)) _) (by first | omega | (simp; done) | (simp; omega)) _)))
      (first
        | (go_at_call 9; with_reducible refine Calls.mono (awake_any (hTW.out _ (by go_split_ands; assumption))) ?_; rintro e w' ⟨rfl, hk⟩; have hz := hk.size; (try simp at hz); obtain ⟨hc, hf⟩ := bcell hk; have hl := lt_keep hk)
        | (go_at_call 16; with_reducible refine Calls.mono (C3.out _ (hTW.out _ (by go_split_ands; assumption))) ?_; rintro e w' ⟨rfl, hk⟩; have hz := hk.size; (try simp at hz); obtain ⟨hc, hf⟩ := bcell hk; have hl := lt_keep hk)
        | (go_at_call 18; with_reducible refine Calls.mono (C4.out _ (hTW.out _ (by go_split_ands; assumption))) ?_; rintro e w' ⟨rfl, hk⟩; have hz := hk.size; (try simp at hz); obtain ⟨hc, hf⟩ := bcell hk; have hl := lt_keep hk))
    have hH := ‹Below _ _ _ ∧ _›
    go_wp2_with fail
    go_ret
    exact ⟨rfl, K.call hw2 hH.1⟩
end Go.Proofs.YtelanboegjgcbaaDoor
