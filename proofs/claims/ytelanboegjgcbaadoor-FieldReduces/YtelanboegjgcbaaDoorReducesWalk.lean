/- FieldReduces, walked: all numbers below 2^512 are reduced. -/
import Derived.Test.YtelanboegjgcbaaDoorFnRed
import Derived.Test.YtelanboegjgcbaaDoorRefReduce
import Derived.Test.YtelanboegjgcbaaDoorAwake
import Derived.Deep.DeepCutAuto
namespace Go.Proofs.YtelanboegjgcbaaDoor
open Go.RowKit
attribute [local go_sem ↓] Go.wp_at_zero Go.wp_at_succ
attribute [local go_sem] eq4

set_option maxHeartbeats 8000000 in
theorem reduces_walk {k x : Int} (k0 : 0 ≤ k) (k1 : k ≤ 255) (hx : Wide x) {w : World} (hT : Tab w) :
    Calls Tryd.prog 4 #[.int .u8 k, .agg #[.int .u64 (L 0 x), .int .u64 (L 1 x), .int .u64 (L 2 x), .int .u64 (L 3 x), .int .u64 (L 4 x), .int .u64 (L 5 x), .int .u64 (L 6 x), .int .u64 (L 7 x)]] w fun e w' => e = .returned (.bool true) ∧ Below w.heap.size w w' := by
  obtain ⟨n, hn, hnk⟩ : ∃ n, (0 ≤ n ∧ n ≤ 3) ∧ k % 4 = n := ⟨_, k_four k, rfl⟩
  have C1 : Hid (∀ w : World, Tab w → Calls Tryd.prog 19 #[.int .i64 n, .agg #[.int .u64 (L 0 x), .int .u64 (L 1 x), .int .u64 (L 2 x), .int .u64 (L 3 x), .int .u64 (L 4 x), .int .u64 (L 5 x), .int .u64 (L 6 x), .int .u64 (L 7 x)]] w fun e w' => e = .returned (.agg #[.int .u64 (L 0 (x % md n)), .int .u64 (L 1 (x % md n)), .int .u64 (L 2 (x % md n)), .int .u64 (L 3 (x % md n))]) ∧ Below w.heap.size w w') := fun w hT => f_reduce hn hx hT
  have C2 : Hid (∀ w : World, Calls Tryd.prog 23 #[.int .i64 n, .agg #[.int .u64 (L 0 x), .int .u64 (L 1 x), .int .u64 (L 2 x), .int .u64 (L 3 x), .int .u64 (L 4 x), .int .u64 (L 5 x), .int .u64 (L 6 x), .int .u64 (L 7 x)]] w fun e w' => e = .returned (.agg #[.int .u64 (L 0 (x % md n)), .int .u64 (L 1 (x % md n)), .int .u64 (L 2 (x % md n)), .int .u64 (L 3 (x % md n))]) ∧ Below w.heap.size w w') := fun w => ref_reduce_any hn hx w
  clear hn hx
  generalize x % md n = q at C1 C2
  go_enter Tryd.func4, Tryd.ntmps4
  go_wp2_with fail
  have X1 := Arr8.new w w.heap.size rfl 31 x
  have hw1 : Below w.heap.size w (w.alloc (.cells #[.int .u64 (L 0 x), .int .u64 (L 1 x), .int .u64 (L 2 x), .int .u64 (L 3 x), .int .u64 (L 4 x), .int .u64 (L 5 x), .int .u64 (L 6 x), .int .u64 (L 7 x)] 31)) := K.alloc (Below.refl _ w) _
  have hT1 := hT.keep hw1
  clear hT
  generalize w.alloc (.cells #[.int .u64 (L 0 x), .int .u64 (L 1 x), .int .u64 (L 2 x), .int .u64 (L 3 x), .int .u64 (L 4 x), .int .u64 (L 5 x), .int .u64 (L 6 x), .int .u64 (L 7 x)] 31) = W0 at *
  have hTW : Hid (∀ w', Below W0.heap.size W0 w' → Tab w') := fun w' h => hT1.keep h
  have ⟨kx, kx0, kx1, kx2, kx3, kx4, kx5, kx6, kx7, _, _, _, _, _, _, _, _⟩ := X1
  have hS : Hid (∀ w', Below W0.heap.size W0 w' → (Below W0.heap.size W0 w' ∧ w'.cell? ⟨w.heap.size, 0, none⟩ = some (.int .u64 (L 0 x)) ∧ w'.cell? ⟨w.heap.size, 1, none⟩ = some (.int .u64 (L 1 x)) ∧ w'.cell? ⟨w.heap.size, 2, none⟩ = some (.int .u64 (L 2 x)) ∧ w'.cell? ⟨w.heap.size, 3, none⟩ = some (.int .u64 (L 3 x)) ∧ w'.cell? ⟨w.heap.size, 4, none⟩ = some (.int .u64 (L 4 x)) ∧ w'.cell? ⟨w.heap.size, 5, none⟩ = some (.int .u64 (L 5 x)) ∧ w'.cell? ⟨w.heap.size, 6, none⟩ = some (.int .u64 (L 6 x)) ∧ w'.cell? ⟨w.heap.size, 7, none⟩ = some (.int .u64 (L 7 x)))) := fun w' hB => ⟨hB, later hB kx0, later hB kx1, later hB kx2, later hB kx3, later hB kx4, later hB kx5, later hB kx6, later hB kx7⟩
  clear kx kx0 kx1 kx2 kx3 kx4 kx5 kx6 kx7 X1 hT1
  go_region_held3 (fun w' => Below W0.heap.size W0 w' ∧ w'.cell? ⟨w.heap.size, 0, none⟩ = some (.int .u64 (L 0 x)) ∧ w'.cell? ⟨w.heap.size, 1, none⟩ = some (.int .u64 (L 1 x)) ∧ w'.cell? ⟨w.heap.size, 2, none⟩ = some (.int .u64 (L 2 x)) ∧ w'.cell? ⟨w.heap.size, 3, none⟩ = some (.int .u64 (L 3 x)) ∧ w'.cell? ⟨w.heap.size, 4, none⟩ = some (.int .u64 (L 4 x)) ∧ w'.cell? ⟨w.heap.size, 5, none⟩ = some (.int .u64 (L 5 x)) ∧ w'.cell? ⟨w.heap.size, 6, none⟩ = some (.int .u64 (L 6 x)) ∧ w'.cell? ⟨w.heap.size, 7, none⟩ = some (.int .u64 (L 7 x)))
    ((refine hS.out _ ?_; first | (with_reducible exact K.drew (Below.refl _ _)) | (with_reducible exact K.drew (K.alloc (Below.refl _ _) _)) | (with_reducible exact Below.refl _ _) | (with_reducible exact K.call (by go_split_ands; assumption) hk) | (with_reducible exact K.alloc (by go_split_ands; assumption) _) | (with_reducible exact K.again (by go_split_ands; assumption) (by omega) _) | (with_reducible exact K.set (by go_split_ands; assumption) (by first | omega | (simp; done) | (simp; omega)) _) | (with_reducible exact K.set (K.set (K.set (K.set (by go_split_ands; assumption) (by first | omega | (simp; done) | (simp; omega)) _) (by first | omega | (simp; done) | (simp; omega)) _) (by first | omega | (simp; done) | (simp; omega)) _) (by first | omega | (simp; done) | (simp; omega)) _)))
    (first
      | (go_at_call 9; with_reducible refine Calls.mono (awake_any (hTW.out _ (by go_split_ands; assumption))) ?_; rintro e w' ⟨rfl, hk⟩; have hz := hk.size; (try simp at hz); obtain ⟨hc, hf⟩ := bcell hk; have hl := lt_keep hk)
      | (go_at_call 19; with_reducible refine Calls.mono (C1.out _ (hTW.out _ (by go_split_ands; assumption))) ?_; rintro e w' ⟨rfl, hk⟩; have hz := hk.size; (try simp at hz); obtain ⟨hc, hf⟩ := bcell hk; have hl := lt_keep hk)
      | (go_at_call 23; with_reducible refine Calls.mono (C2.out _) ?_; rintro e w' ⟨rfl, hk⟩; have hz := hk.size; (try simp at hz); obtain ⟨hc, hf⟩ := bcell hk; have hl := lt_keep hk))
  have hH := ‹Below _ _ _ ∧ _›
  go_wp2_with fail
  go_ret
  exact ⟨rfl, K.call hw1 hH.1⟩
end Go.Proofs.YtelanboegjgcbaaDoor
