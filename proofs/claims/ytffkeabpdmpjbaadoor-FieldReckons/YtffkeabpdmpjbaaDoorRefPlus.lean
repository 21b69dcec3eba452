/- What the document's own Modulus and plus answer. -/
import Derived.Test.YtffkeabpdmpjbaaDoorRefSub
import Derived.Test.YtffkeabpdmpjbaaDoorRefLess
import Derived.Test.YtffkeabpdmpjbaaDoorMd
namespace Go.Proofs.YtffkeabpdmpjbaaDoor
open Go.RowKit
attribute [local go_sem ↓] Go.wp_at_zero Go.wp_at_succ

set_option maxHeartbeats 1000000 in
theorem ref_mod_0 (w : World) : Calls Tryd.prog 7 #[.int .i64 0] w fun e w' => e = .returned (.agg #[.int .u64 (L 0 (md 0)), .int .u64 (L 1 (md 0)), .int .u64 (L 2 (md 0)), .int .u64 (L 3 (md 0))]) ∧ Below w.heap.size w w' := by
  have e0 : L 0 (md 0) = 18446744073709551615 := by decide
  have e1 : L 1 (md 0) = 4294967295 := by decide
  have e2 : L 2 (md 0) = 0 := by decide
  have e3 : L 3 (md 0) = 18446744069414584321 := by decide
  rw [e0, e1, e2, e3]
  go_enter Tryd.func7, Tryd.ntmps7
  go_wp2
  go_returns
  refine ⟨rfl, ?_⟩
  go_grown
set_option maxHeartbeats 1000000 in
theorem ref_mod_1 (w : World) : Calls Tryd.prog 7 #[.int .i64 1] w fun e w' => e = .returned (.agg #[.int .u64 (L 0 (md 1)), .int .u64 (L 1 (md 1)), .int .u64 (L 2 (md 1)), .int .u64 (L 3 (md 1))]) ∧ Below w.heap.size w w' := by
  have e0 : L 0 (md 1) = 17562291160714782033 := by decide
  have e1 : L 1 (md 1) = 13611842547513532036 := by decide
  have e2 : L 2 (md 1) = 18446744073709551615 := by decide
  have e3 : L 3 (md 1) = 18446744069414584320 := by decide
  rw [e0, e1, e2, e3]
  go_enter Tryd.func7, Tryd.ntmps7
  go_wp2
  go_returns
  refine ⟨rfl, ?_⟩
  go_grown
set_option maxHeartbeats 1000000 in
theorem ref_mod_2 (w : World) : Calls Tryd.prog 7 #[.int .i64 2] w fun e w' => e = .returned (.agg #[.int .u64 (L 0 (md 2)), .int .u64 (L 1 (md 2)), .int .u64 (L 2 (md 2)), .int .u64 (L 3 (md 2))]) ∧ Below w.heap.size w w' := by
  have e0 : L 0 (md 2) = 18446744073709551597 := by decide
  have e1 : L 1 (md 2) = 18446744073709551615 := by decide
  have e2 : L 2 (md 2) = 18446744073709551615 := by decide
  have e3 : L 3 (md 2) = 9223372036854775807 := by decide
  rw [e0, e1, e2, e3]
  go_enter Tryd.func7, Tryd.ntmps7
  go_wp2
  go_returns
  refine ⟨rfl, ?_⟩
  go_grown
set_option maxHeartbeats 1000000 in
theorem ref_mod_3 (w : World) : Calls Tryd.prog 7 #[.int .i64 3] w fun e w' => e = .returned (.agg #[.int .u64 (L 0 (md 3)), .int .u64 (L 1 (md 3)), .int .u64 (L 2 (md 3)), .int .u64 (L 3 (md 3))]) ∧ Below w.heap.size w w' := by
  have e0 : L 0 (md 3) = 6346243789798364141 := by decide
  have e1 : L 1 (md 3) = 1503914060200516822 := by decide
  have e2 : L 2 (md 3) = 0 := by decide
  have e3 : L 3 (md 3) = 1152921504606846976 := by decide
  rw [e0, e1, e2, e3]
  go_enter Tryd.func7, Tryd.ntmps7
  go_wp2
  go_returns
  refine ⟨rfl, ?_⟩
  go_grown
set_option maxHeartbeats 1000000 in
theorem ref_mod_none (k : Int) (h : k < 0 ∨ 3 < k) (w : World) : Calls Tryd.prog 7 #[.int .i64 k] w fun e w' => e = .returned (.agg #[.int .u64 (L 0 (md k)), .int .u64 (L 1 (md k)), .int .u64 (L 2 (md k)), .int .u64 (L 3 (md k))]) ∧ Below w.heap.size w w' := by
  have e : md k = 0 := by unfold md; (repeat' split) <;> omega
  have z0 : L 0 0 = 0 := by decide
  have z1 : L 1 0 = 0 := by decide
  have z2 : L 2 0 = 0 := by decide
  have z3 : L 3 0 = 0 := by decide
  rw [e, z0, z1, z2, z3]
  have b0 : (k == 0) = false := beq_eq_false_iff_ne.2 (by omega)
  have b1 : (k == 1) = false := beq_eq_false_iff_ne.2 (by omega)
  have b2 : (k == 2) = false := beq_eq_false_iff_ne.2 (by omega)
  have b3 : (k == 3) = false := beq_eq_false_iff_ne.2 (by omega)
  clear h e z0 z1 z2 z3
  go_enter Tryd.func7, Tryd.ntmps7
  go_wp2
  go_returns
  refine ⟨rfl, ?_⟩
  go_grown
theorem ref_mod_any (k : Int) (w : World) : Calls Tryd.prog 7 #[.int .i64 k] w fun e w' => e = .returned (.agg #[.int .u64 (L 0 (md k)), .int .u64 (L 1 (md k)), .int .u64 (L 2 (md k)), .int .u64 (L 3 (md k))]) ∧ Below w.heap.size w w' := by
  have hk : k = 0 ∨ k = 1 ∨ k = 2 ∨ k = 3 ∨ (k < 0 ∨ 3 < k) := by omega
  rcases hk with rfl | rfl | rfl | rfl | hk
  · exact ref_mod_0 w
  · exact ref_mod_1 w
  · exact ref_mod_2 w
  · exact ref_mod_3 w
  · exact ref_mod_none k hk w

set_option maxHeartbeats 4000000 in
theorem ref_plus_any {m a b : Int} (hm : Num m) (ha : 0 ≤ a) (ha2 : a < m) (hb : 0 ≤ b) (hb2 : b < m) (w : World) :
    Calls Tryd.prog 32 #[.agg #[.int .u64 (L 0 m), .int .u64 (L 1 m), .int .u64 (L 2 m), .int .u64 (L 3 m)], .agg #[.int .u64 (L 0 a), .int .u64 (L 1 a), .int .u64 (L 2 a), .int .u64 (L 3 a)], .agg #[.int .u64 (L 0 b), .int .u64 (L 1 b), .int .u64 (L 2 b), .int .u64 (L 3 b)]] w fun e w' => e = .returned (.agg #[.int .u64 (L 0 ((a + b) % m)), .int .u64 (L 1 ((a + b) % m)), .int .u64 (L 2 ((a + b) % m)), .int .u64 (L 3 ((a + b) % m))]) ∧ Below w.heap.size w w' := by
  have na : Num a := ⟨ha, by have := hm.hi; omega⟩
  have nb : Num b := ⟨hb, by have := hm.hi; omega⟩
  have hmh := hm.hi
  by_cases o : M ≤ a + b
  · have ho : over a b = true := by unfold over; simpa using o
    have hr : (a + b) % m = a + b - m := mod_once (by omega) (by omega)
    rw [hr]
    clear hr o hmh
    go_enter Tryd.func32, Tryd.ntmps32
    go_wp2_with fail
    with_reducible refine Calls.mono (ref_add_any na nb _) ?_
    rw [ho]
    rintro e w1 ⟨rfl, hb1⟩
    have A1 := (((Arr.new w (w.heap.size) rfl 24 (L 0 m) (L 1 m) (L 2 m) (L 3 m)).alloc _).alloc _).alloc _ |>.keep hb1
    have R1 := (ArrW.new _ (w.heap.size + 1 + 1 + 1) (by simp) 24 0 0 0 0).keep hb1
    have hw1 : Below w.heap.size w w1 := K.call (K.alloc (K.alloc (K.alloc (K.alloc (Below.refl _ w) _) _) _) _) hb1
    clear hb1
    have ⟨ka, ka0, ka1, ka2, ka3⟩ := A1
    have ⟨kr, kr0, kr1, kr2, kr3, kf0, kf1, kf2, kf3⟩ := R1
    go_wp2_with fail
    with_reducible refine Calls.mono (ref_sub_walk (a + b) m _) ?_
    clear ka ka0 ka1 ka2 ka3 kr kr0 kr1 kr2 kr3 kf0 kf1 kf2 kf3
    rintro e w3 ⟨rfl, hb3⟩
    have hw3 : Below w.heap.size w w3 := K.call (K.alloc hw1 _) hb3
    have ⟨kr, kr0, kr1, kr2, kr3, kf0, kf1, kf2, kf3⟩ := (R1.alloc _).keep hb3
    clear hb3
    go_wp2_with fail
    exact bodyPost_ret (v := .agg #[.int .u64 (L 0 (a + b - m)), .int .u64 (L 1 (a + b - m)), .int .u64 (L 2 (a + b - m)), .int .u64 (L 3 (a + b - m))]) (by simp [results, Tryd.results32, go_sem, kr, kr0, kr1, kr2, kr3]) rfl ⟨rfl, K.alloc (K.set4 hw3 (by omega) _ _ _ _) _⟩
  · have ho : over a b = false := by unfold over; simpa using o
    have ns : Num (a + b) := ⟨by omega, by omega⟩
    by_cases l : a + b < m
    · have hr : (a + b) % m = a + b := mod_low (by omega) l
      rw [hr]
      clear hr o hmh
      go_enter Tryd.func32, Tryd.ntmps32
      go_wp2_with fail
      with_reducible refine Calls.mono (ref_add_any na nb _) ?_
      rw [ho]
      rintro e w1 ⟨rfl, hb1⟩
      have A1 := (((Arr.new w (w.heap.size) rfl 24 (L 0 m) (L 1 m) (L 2 m) (L 3 m)).alloc _).alloc _).alloc _ |>.keep hb1
      have R1 := (ArrW.new _ (w.heap.size + 1 + 1 + 1) (by simp) 24 0 0 0 0).keep hb1
      have hw1 : Below w.heap.size w w1 := K.call (K.alloc (K.alloc (K.alloc (K.alloc (Below.refl _ w) _) _) _) _) hb1
      clear hb1
      have ⟨ka, ka0, ka1, ka2, ka3⟩ := A1
      have ⟨kr, kr0, kr1, kr2, kr3, kf0, kf1, kf2, kf3⟩ := R1
      go_wp2_with fail
      with_reducible refine Calls.mono (less_true ns hm (by omega) _) ?_
      clear ka ka0 ka1 ka2 ka3 kr kr0 kr1 kr2 kr3 kf0 kf1 kf2 kf3
      rintro e w2 ⟨rfl, hb2⟩
      have A2 := (A1.alloc _).keep hb2
      have R2 := (R1.alloc _).keep hb2
      have S2 := (Arr.new w1 w1.heap.size rfl 24 (L 0 (a + b)) (L 1 (a + b)) (L 2 (a + b)) (L 3 (a + b))).keep hb2
      have hw2 : Below w.heap.size w w2 := K.call (K.alloc hw1 _) hb2
      clear A1 R1 hb2 hw1
      have ⟨ka, ka0, ka1, ka2, ka3⟩ := A2
      have ⟨ks, ks0, ks1, ks2, ks3⟩ := S2
      have ⟨kr, kr0, kr1, kr2, kr3, kf0, kf1, kf2, kf3⟩ := R2
      go_wp2_with fail
      exact bodyPost_ret (v := .agg #[.int .u64 (L 0 (a + b)), .int .u64 (L 1 (a + b)), .int .u64 (L 2 (a + b)), .int .u64 (L 3 (a + b))]) (by simp [results, Tryd.results32, go_sem, kr0, kr1, kr2, kr3]) rfl ⟨rfl, K.set4 hw2 (by omega) _ _ _ _⟩
    · have hr : (a + b) % m = a + b - m := mod_once (by omega) (by omega)
      rw [hr]
      clear hr o hmh
      go_enter Tryd.func32, Tryd.ntmps32
      go_wp2_with fail
      with_reducible refine Calls.mono (ref_add_any na nb _) ?_
      rw [ho]
      rintro e w1 ⟨rfl, hb1⟩
      have A1 := (((Arr.new w (w.heap.size) rfl 24 (L 0 m) (L 1 m) (L 2 m) (L 3 m)).alloc _).alloc _).alloc _ |>.keep hb1
      have R1 := (ArrW.new _ (w.heap.size + 1 + 1 + 1) (by simp) 24 0 0 0 0).keep hb1
      have hw1 : Below w.heap.size w w1 := K.call (K.alloc (K.alloc (K.alloc (K.alloc (Below.refl _ w) _) _) _) _) hb1
      clear hb1
      have ⟨ka, ka0, ka1, ka2, ka3⟩ := A1
      have ⟨kr, kr0, kr1, kr2, kr3, kf0, kf1, kf2, kf3⟩ := R1
      go_wp2_with fail
      with_reducible refine Calls.mono (less_false ns hm (by omega) _) ?_
      clear ka ka0 ka1 ka2 ka3 kr kr0 kr1 kr2 kr3 kf0 kf1 kf2 kf3
      rintro e w2 ⟨rfl, hb2⟩
      have A2 := (A1.alloc _).keep hb2
      have R2 := (R1.alloc _).keep hb2
      have S2 := (Arr.new w1 w1.heap.size rfl 24 (L 0 (a + b)) (L 1 (a + b)) (L 2 (a + b)) (L 3 (a + b))).keep hb2
      have hw2 : Below w.heap.size w w2 := K.call (K.alloc hw1 _) hb2
      clear A1 R1 hb2 hw1
      have ⟨ka, ka0, ka1, ka2, ka3⟩ := A2
      have ⟨ks, ks0, ks1, ks2, ks3⟩ := S2
      have ⟨kr, kr0, kr1, kr2, kr3, kf0, kf1, kf2, kf3⟩ := R2
      go_wp2_with fail
      with_reducible refine Calls.mono (ref_sub_walk (a + b) m _) ?_
      clear ka ka0 ka1 ka2 ka3 kr kr0 kr1 kr2 kr3 kf0 kf1 kf2 kf3 ks ks0 ks1 ks2 ks3
      rintro e w3 ⟨rfl, hb3⟩
      have hw3 : Below w.heap.size w w3 := K.call hw2 hb3
      have ⟨kr, kr0, kr1, kr2, kr3, kf0, kf1, kf2, kf3⟩ := R2.keep hb3
      clear hb3
      go_wp2_with fail
      exact bodyPost_ret (v := .agg #[.int .u64 (L 0 (a + b - m)), .int .u64 (L 1 (a + b - m)), .int .u64 (L 2 (a + b - m)), .int .u64 (L 3 (a + b - m))]) (by simp [results, Tryd.results32, go_sem, kr, kr0, kr1, kr2, kr3]) rfl ⟨rfl, K.alloc (K.set4 hw3 (by omega) _ _ _ _) _⟩
end Go.Proofs.YtffkeabpdmpjbaaDoor
