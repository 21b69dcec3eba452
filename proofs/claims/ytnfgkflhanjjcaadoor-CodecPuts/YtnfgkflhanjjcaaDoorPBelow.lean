/- What codec.Below and the document's own answer. -/
import Derived.Test.YtnfgkflhanjjcaaDoorPTab
import Derived.Test.YtnfgkflhanjjcaaDoorPCmp
import Derived.Test.YtnfgkflhanjjcaaDoorRefLess
import Derived.Deep.RegionHeld3
namespace Go.Proofs.YtnfgkflhanjjcaaDoor
open Go.RowKit
attribute [local go_sem ↓] Go.wp_at_zero Go.wp_at_succ

set_option maxHeartbeats 1000000 in
theorem ref_mod_0 (w : World) : Calls Tryd.prog 17 #[.int .i64 0] w fun e w' => e = .returned (.agg #[.int .u64 (L 0 (md 0)), .int .u64 (L 1 (md 0)), .int .u64 (L 2 (md 0)), .int .u64 (L 3 (md 0))]) ∧ Below w.heap.size w w' := by
  have e0 : L 0 (md 0) = 18446744073709551615 := by decide
  have e1 : L 1 (md 0) = 4294967295 := by decide
  have e2 : L 2 (md 0) = 0 := by decide
  have e3 : L 3 (md 0) = 18446744069414584321 := by decide
  rw [e0, e1, e2, e3]
  go_enter Tryd.func17, Tryd.ntmps17
  go_wp2
  go_returns
  refine ⟨rfl, ?_⟩
  go_grown
set_option maxHeartbeats 1000000 in
theorem ref_mod_1 (w : World) : Calls Tryd.prog 17 #[.int .i64 1] w fun e w' => e = .returned (.agg #[.int .u64 (L 0 (md 1)), .int .u64 (L 1 (md 1)), .int .u64 (L 2 (md 1)), .int .u64 (L 3 (md 1))]) ∧ Below w.heap.size w w' := by
  have e0 : L 0 (md 1) = 17562291160714782033 := by decide
  have e1 : L 1 (md 1) = 13611842547513532036 := by decide
  have e2 : L 2 (md 1) = 18446744073709551615 := by decide
  have e3 : L 3 (md 1) = 18446744069414584320 := by decide
  rw [e0, e1, e2, e3]
  go_enter Tryd.func17, Tryd.ntmps17
  go_wp2
  go_returns
  refine ⟨rfl, ?_⟩
  go_grown
set_option maxHeartbeats 1000000 in
theorem ref_mod_2 (w : World) : Calls Tryd.prog 17 #[.int .i64 2] w fun e w' => e = .returned (.agg #[.int .u64 (L 0 (md 2)), .int .u64 (L 1 (md 2)), .int .u64 (L 2 (md 2)), .int .u64 (L 3 (md 2))]) ∧ Below w.heap.size w w' := by
  have e0 : L 0 (md 2) = 18446744073709551597 := by decide
  have e1 : L 1 (md 2) = 18446744073709551615 := by decide
  have e2 : L 2 (md 2) = 18446744073709551615 := by decide
  have e3 : L 3 (md 2) = 9223372036854775807 := by decide
  rw [e0, e1, e2, e3]
  go_enter Tryd.func17, Tryd.ntmps17
  go_wp2
  go_returns
  refine ⟨rfl, ?_⟩
  go_grown
set_option maxHeartbeats 1000000 in
theorem ref_mod_3 (w : World) : Calls Tryd.prog 17 #[.int .i64 3] w fun e w' => e = .returned (.agg #[.int .u64 (L 0 (md 3)), .int .u64 (L 1 (md 3)), .int .u64 (L 2 (md 3)), .int .u64 (L 3 (md 3))]) ∧ Below w.heap.size w w' := by
  have e0 : L 0 (md 3) = 6346243789798364141 := by decide
  have e1 : L 1 (md 3) = 1503914060200516822 := by decide
  have e2 : L 2 (md 3) = 0 := by decide
  have e3 : L 3 (md 3) = 1152921504606846976 := by decide
  rw [e0, e1, e2, e3]
  go_enter Tryd.func17, Tryd.ntmps17
  go_wp2
  go_returns
  refine ⟨rfl, ?_⟩
  go_grown
set_option maxHeartbeats 1000000 in
theorem ref_mod_none (k : Int) (h : k < 0 ∨ 3 < k) (w : World) : Calls Tryd.prog 17 #[.int .i64 k] w fun e w' => e = .returned (.agg #[.int .u64 (L 0 (md k)), .int .u64 (L 1 (md k)), .int .u64 (L 2 (md k)), .int .u64 (L 3 (md k))]) ∧ Below w.heap.size w w' := by
  have e : md k = 0 := by unfold md; (repeat' split) <;> omega
  have z0 : L 0 0 = 0 := by decide
  have z1 : L 1 0 = 0 := by decide
  have z2 : L 2 0 = 0 := by decide
  have z3 : L 3 0 = 0 := by decide
  rw [e, z0, z1, z2, z3]
  have b0 : (k == 0) = false := beq_eq_false_iff_ne.2 (by omega)
  have b1 : (k == 1) = false := beq_eq_false_iff_ne.2 (by omega)
  have b2 : (k == 2) = false := beq_eq_false_iff_ne.2 (by omega)
  have b3 : (k == 3) = false := beq_eq_false_iff_ne.2 (by omega)
  clear h e z0 z1 z2 z3
  go_enter Tryd.func17, Tryd.ntmps17
  go_wp2
  go_returns
  refine ⟨rfl, ?_⟩
  go_grown
theorem ref_mod_any (k : Int) (w : World) : Calls Tryd.prog 17 #[.int .i64 k] w fun e w' => e = .returned (.agg #[.int .u64 (L 0 (md k)), .int .u64 (L 1 (md k)), .int .u64 (L 2 (md k)), .int .u64 (L 3 (md k))]) ∧ Below w.heap.size w w' := by
  have hk : k = 0 ∨ k = 1 ∨ k = 2 ∨ k = 3 ∨ (k < 0 ∨ 3 < k) := by omega
  rcases hk with rfl | rfl | rfl | rfl | hk
  · exact ref_mod_0 w
  · exact ref_mod_1 w
  · exact ref_mod_2 w
  · exact ref_mod_3 w
  · exact ref_mod_none k hk w


set_option maxHeartbeats 2000000 in
theorem below_walk {k a m : Int} {c : Int} {w : World}
    (H1 : Hid (∀ w1, Below w.heap.size w w1 → Calls Tryd.prog 15 #[.int .i64 k] w1 fun e w' => e = .returned (.agg #[.int .u64 (L 0 m), .int .u64 (L 1 m), .int .u64 (L 2 m), .int .u64 (L 3 m)]) ∧ Below w1.heap.size w1 w'))
    (H2 : Hid (∀ w, Calls Tryd.prog 14 #[.agg #[.int .u64 (L 0 a), .int .u64 (L 1 a), .int .u64 (L 2 a), .int .u64 (L 3 a)], .agg #[.int .u64 (L 0 m), .int .u64 (L 1 m), .int .u64 (L 2 m), .int .u64 (L 3 m)]] w fun e w' => e = .returned (.int .i64 c) ∧ Below w.heap.size w w')) :
    Calls Tryd.prog 10 #[.int .i64 k, .agg #[.int .u64 (L 0 a), .int .u64 (L 1 a), .int .u64 (L 2 a), .int .u64 (L 3 a)]] w fun e w' => e = .returned (.bool (decide (c < 0))) ∧ Below w.heap.size w w' := by
  have A1 := Arr.new w w.heap.size rfl 24 (L 0 a) (L 1 a) (L 2 a) (L 3 a)
  have hw : Below w.heap.size w (w.alloc (.cells #[.int .u64 (L 0 a), .int .u64 (L 1 a), .int .u64 (L 2 a), .int .u64 (L 3 a)] 24)) := K.alloc (Below.refl _ _) _
  go_enter Tryd.func10, Tryd.ntmps10
  go_wp2_with fail
  generalize w.alloc (.cells #[.int .u64 (L 0 a), .int .u64 (L 1 a), .int .u64 (L 2 a), .int .u64 (L 3 a)] 24) = W0 at *
  have ⟨ka, ka0, ka1, ka2, ka3⟩ := A1
  have hS : Hid (∀ w', Below W0.heap.size W0 w' → (Below W0.heap.size W0 w' ∧ w'.cell? ⟨w.heap.size, 0, none⟩ = some (.int .u64 (L 0 a)) ∧ w'.cell? ⟨w.heap.size, 1, none⟩ = some (.int .u64 (L 1 a)) ∧ w'.cell? ⟨w.heap.size, 2, none⟩ = some (.int .u64 (L 2 a)) ∧ w'.cell? ⟨w.heap.size, 3, none⟩ = some (.int .u64 (L 3 a)))) := fun w' hB => ⟨hB, later hB ka0, later hB ka1, later hB ka2, later hB ka3⟩
  clear ka ka0 ka1 ka2 ka3
  go_region_held3 (fun w' => Below W0.heap.size W0 w' ∧ w'.cell? ⟨w.heap.size, 0, none⟩ = some (.int .u64 (L 0 a)) ∧ w'.cell? ⟨w.heap.size, 1, none⟩ = some (.int .u64 (L 1 a)) ∧ w'.cell? ⟨w.heap.size, 2, none⟩ = some (.int .u64 (L 2 a)) ∧ w'.cell? ⟨w.heap.size, 3, none⟩ = some (.int .u64 (L 3 a)))
    ((refine hS.out _ ?_; first | (with_reducible exact K.drew (Below.refl _ _)) | (with_reducible exact K.drew (K.alloc (Below.refl _ _) _)) | (with_reducible exact Below.refl _ _) | (with_reducible exact K.call (by go_split_ands; assumption) hk) | (with_reducible exact K.alloc (by go_split_ands; assumption) _) | (with_reducible exact K.again (by go_split_ands; assumption) (by omega) _) | (with_reducible exact K.set (by go_split_ands; assumption) (by first | omega | (simp; done) | (simp; omega)) _) | (with_reducible exact K.set (K.set (K.set (K.set (by go_split_ands; assumption) (by first | omega | (simp; done) | (simp; omega)) _) (by first | omega | (simp; done) | (simp; omega)) _) (by first | omega | (simp; done) | (simp; omega)) _) (by first | omega | (simp; done) | (simp; omega)) _)))
    (first
      | (go_at_call 15; with_reducible refine Calls.mono (H1.out _ (K.call hw (by go_split_ands; with_reducible assumption))) ?_; rintro e w' ⟨rfl, hk⟩)
      | (go_at_call 14; with_reducible refine Calls.mono (H2.out _) ?_; rintro e w' ⟨rfl, hk⟩))
  all_goals
    have hH := ‹Below _ _ _ ∧ _›
    go_wp2_with fail
    go_ret
    exact ⟨ret_bool (by simp), K.call hw hH.1⟩

set_option maxHeartbeats 2000000 in
theorem refBelow_walk {k a m : Int} {c : Bool} {w : World}
    (H1 : Hid (∀ w1, Below w.heap.size w w1 → Calls Tryd.prog 17 #[.int .i64 k] w1 fun e w' => e = .returned (.agg #[.int .u64 (L 0 m), .int .u64 (L 1 m), .int .u64 (L 2 m), .int .u64 (L 3 m)]) ∧ Below w1.heap.size w1 w'))
    (H2 : Hid (∀ w, Calls Tryd.prog 16 #[.agg #[.int .u64 (L 0 a), .int .u64 (L 1 a), .int .u64 (L 2 a), .int .u64 (L 3 a)], .agg #[.int .u64 (L 0 m), .int .u64 (L 1 m), .int .u64 (L 2 m), .int .u64 (L 3 m)]] w fun e w' => e = .returned (.bool c) ∧ Below w.heap.size w w')) :
    Calls Tryd.prog 11 #[.int .i64 k, .agg #[.int .u64 (L 0 a), .int .u64 (L 1 a), .int .u64 (L 2 a), .int .u64 (L 3 a)]] w fun e w' => e = .returned (.bool c) ∧ Below w.heap.size w w' := by
  have A1 := Arr.new w w.heap.size rfl 24 (L 0 a) (L 1 a) (L 2 a) (L 3 a)
  have hw : Below w.heap.size w (w.alloc (.cells #[.int .u64 (L 0 a), .int .u64 (L 1 a), .int .u64 (L 2 a), .int .u64 (L 3 a)] 24)) := K.alloc (Below.refl _ _) _
  go_enter Tryd.func11, Tryd.ntmps11
  go_wp2_with fail
  generalize w.alloc (.cells #[.int .u64 (L 0 a), .int .u64 (L 1 a), .int .u64 (L 2 a), .int .u64 (L 3 a)] 24) = W0 at *
  have ⟨ka, ka0, ka1, ka2, ka3⟩ := A1
  have hS : Hid (∀ w', Below W0.heap.size W0 w' → (Below W0.heap.size W0 w' ∧ w'.cell? ⟨w.heap.size, 0, none⟩ = some (.int .u64 (L 0 a)) ∧ w'.cell? ⟨w.heap.size, 1, none⟩ = some (.int .u64 (L 1 a)) ∧ w'.cell? ⟨w.heap.size, 2, none⟩ = some (.int .u64 (L 2 a)) ∧ w'.cell? ⟨w.heap.size, 3, none⟩ = some (.int .u64 (L 3 a)))) := fun w' hB => ⟨hB, later hB ka0, later hB ka1, later hB ka2, later hB ka3⟩
  clear ka ka0 ka1 ka2 ka3
  go_region_held3 (fun w' => Below W0.heap.size W0 w' ∧ w'.cell? ⟨w.heap.size, 0, none⟩ = some (.int .u64 (L 0 a)) ∧ w'.cell? ⟨w.heap.size, 1, none⟩ = some (.int .u64 (L 1 a)) ∧ w'.cell? ⟨w.heap.size, 2, none⟩ = some (.int .u64 (L 2 a)) ∧ w'.cell? ⟨w.heap.size, 3, none⟩ = some (.int .u64 (L 3 a)))
    ((refine hS.out _ ?_; first | (with_reducible exact K.drew (Below.refl _ _)) | (with_reducible exact K.drew (K.alloc (Below.refl _ _) _)) | (with_reducible exact Below.refl _ _) | (with_reducible exact K.call (by go_split_ands; assumption) hk) | (with_reducible exact K.alloc (by go_split_ands; assumption) _) | (with_reducible exact K.again (by go_split_ands; assumption) (by omega) _) | (with_reducible exact K.set (by go_split_ands; assumption) (by first | omega | (simp; done) | (simp; omega)) _) | (with_reducible exact K.set (K.set (K.set (K.set (by go_split_ands; assumption) (by first | omega | (simp; done) | (simp; omega)) _) (by first | omega | (simp; done) | (simp; omega)) _) (by first | omega | (simp; done) | (simp; omega)) _) (by first | omega | (simp; done) | (simp; omega)) _)))
    (first
      | (go_at_call 17; with_reducible refine Calls.mono (H1.out _ (K.call hw (by go_split_ands; with_reducible assumption))) ?_; rintro e w' ⟨rfl, hk⟩)
      | (go_at_call 16; with_reducible refine Calls.mono (H2.out _) ?_; rintro e w' ⟨rfl, hk⟩))
  all_goals
    have hH := ‹Below _ _ _ ∧ _›
    go_wp2_with fail
    go_ret
    exact ⟨rfl, K.call hw hH.1⟩

theorem cmp_neg (a m : Int) : decide (cmp a m < 0) = decide (a < m) := by
  unfold cmp
  by_cases h : a < m
  · rw [if_pos h]; simp [h]
  · rw [if_neg h]; split <;> simp [h]
theorem below_any {k a : Int} (ha : Num a) {w : World} (hT : Tab w) :
    Calls Tryd.prog 10 #[.int .i64 k, .agg #[.int .u64 (L 0 a), .int .u64 (L 1 a), .int .u64 (L 2 a), .int .u64 (L 3 a)]] w fun e w' => e = .returned (.bool (decide (a < md k))) ∧ Below w.heap.size w w' := by
  have h := below_walk (k := k) (a := a) (m := md k) (c := cmp a (md k)) (w := w) (fun w1 hb => f_mod k (hT.keep hb)) (fun w => cmp_any ha (md_num k) w)
  rw [cmp_neg] at h
  exact h
theorem refBelow_any {k a : Int} (ha : Num a) (w : World) :
    Calls Tryd.prog 11 #[.int .i64 k, .agg #[.int .u64 (L 0 a), .int .u64 (L 1 a), .int .u64 (L 2 a), .int .u64 (L 3 a)]] w fun e w' => e = .returned (.bool (decide (a < md k))) ∧ Below w.heap.size w w' :=
  refBelow_walk (fun w1 _ => ref_mod_any k w1) (fun w => less_any ha (md_num k) w)
end Go.Proofs.YtnfgkflhanjjcaaDoor
