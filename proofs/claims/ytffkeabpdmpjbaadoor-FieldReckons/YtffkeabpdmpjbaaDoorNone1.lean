/- What the functions on a modulus answer where there is none: nothing. -/
import Derived.Test.YtffkeabpdmpjbaaDoorFnAdd
import Derived.Test.YtffkeabpdmpjbaaDoorFnMod
namespace Go.Proofs.YtffkeabpdmpjbaaDoor
open Go.RowKit
attribute [local go_sem ↓] Go.wp_at_zero Go.wp_at_succ
attribute [local go_sem] eq4m

theorem num_zero : Num 0 := ⟨by decide, by decide⟩
set_option maxHeartbeats 1000000 in
theorem red_none (x0 x1 x2 x3 x4 x5 x6 x7 : Int) (w : World) :
    Calls Tryd.prog 31 #[.agg #[.int .u64 0, .int .u64 0, .int .u64 0, .int .u64 0], .agg #[.int .u64 x0, .int .u64 x1, .int .u64 x2, .int .u64 x3, .int .u64 x4, .int .u64 x5, .int .u64 x6, .int .u64 x7]] w fun e w' => e = .returned (.agg #[.int .u64 0, .int .u64 0, .int .u64 0, .int .u64 0]) ∧ Below w.heap.size w w' := by
  go_enter Tryd.func31, Tryd.ntmps31
  go_wp2
  exact bodyPost_ret (v := .agg #[.int .u64 0, .int .u64 0, .int .u64 0, .int .u64 0]) (by simp [results, Tryd.results31, go_sem]) rfl ⟨rfl, by go_grown⟩

set_option maxHeartbeats 2000000 in
theorem fold_none {a : Int} (ha : Num a) (w : World) :
    Calls Tryd.prog 22 #[.agg #[.int .u64 0, .int .u64 0, .int .u64 0, .int .u64 0], .agg #[.int .u64 (L 0 a), .int .u64 (L 1 a), .int .u64 (L 2 a), .int .u64 (L 3 a)]] w fun e w' => e = .returned (.agg #[.int .u64 0, .int .u64 0, .int .u64 0, .int .u64 0]) ∧ Below w.heap.size w w' := by
  have hc := cmp_up ha.lo
  have HC : Hid (∀ w, Calls Tryd.prog 35 #[.agg #[.int .u64 (L 0 a), .int .u64 (L 1 a), .int .u64 (L 2 a), .int .u64 (L 3 a)], .agg #[.int .u64 0, .int .u64 0, .int .u64 0, .int .u64 0]] w fun e w' => e = .returned (.int .i64 (cmp a 0)) ∧ Below w.heap.size w w') := fun w => by
    have h := cmp_any ha num_zero w
    rw [L_zero, L_zero, L_zero, L_zero] at h
    exact h
  clear ha
  generalize cmp a 0 = c at *
  go_enter Tryd.func22, Tryd.ntmps22
  go_wp2_with fail
  with_reducible refine Calls.mono (HC.out _) ?_
  rintro e w1 ⟨rfl, hb1⟩
  have M1 := (((Arr.new w (w.heap.size) rfl 34 0 0 0 0).alloc _).alloc _).keep hb1
  have A1 := ((Arr.new _ (w.heap.size + 1) (by simp) 24 (L 0 a) (L 1 a) (L 2 a) (L 3 a)).alloc _).keep hb1
  have R1 := (ArrW.new _ (w.heap.size + 1 + 1) (by simp) 24 0 0 0 0).keep hb1
  have hw1 : Below w.heap.size w w1 := K.call (K.alloc (K.alloc (K.alloc (Below.refl _ w) _) _) _) hb1
  clear hb1
  have ⟨km, km0, km1, km2, km3⟩ := M1
  have ⟨ka, ka0, ka1, ka2, ka3⟩ := A1
  have ⟨kr, kr0, kr1, kr2, kr3, kf0, kf1, kf2, kf3⟩ := R1
  go_wp2_with fail
  with_reducible refine Calls.mono (red_none _ _ _ _ _ _ _ _ _) ?_
  clear km km0 km1 km2 km3 ka ka0 ka1 ka2 ka3 kr kr0 kr1 kr2 kr3 kf0 kf1 kf2 kf3
  rintro e w2 ⟨rfl, hb2⟩
  have ⟨kr, kr0, kr1, kr2, kr3, kf0, kf1, kf2, kf3⟩ := R1.keep hb2
  have hw2 : Below w.heap.size w w2 := K.call hw1 hb2
  go_wp2_with fail
  exact bodyPost_ret (v := .agg #[.int .u64 0, .int .u64 0, .int .u64 0, .int .u64 0]) (by simp [results, Tryd.results22, go_sem, kr0, kr1, kr2, kr3]) rfl ⟨rfl, K.set4 hw2 (by omega) _ _ _ _⟩

set_option maxHeartbeats 2000000 in
theorem prod_none {a b : Int} (ha : Num a) (hb : Num b) (w : World) :
    Calls Tryd.prog 28 #[.agg #[.int .u64 0, .int .u64 0, .int .u64 0, .int .u64 0], .agg #[.int .u64 (L 0 a), .int .u64 (L 1 a), .int .u64 (L 2 a), .int .u64 (L 3 a)], .agg #[.int .u64 (L 0 b), .int .u64 (L 1 b), .int .u64 (L 2 b), .int .u64 (L 3 b)]] w fun e w' => e = .returned (.agg #[.int .u64 0, .int .u64 0, .int .u64 0, .int .u64 0]) ∧ Below w.heap.size w w' := by
  go_enter Tryd.func28, Tryd.ntmps28
  go_wp2
  have hR := (ArrW.new (((w.alloc (.cells #[.int .u64 0, .int .u64 0, .int .u64 0, .int .u64 0] 34)).alloc (.cells #[.int .u64 (L 0 a), .int .u64 (L 1 a), .int .u64 (L 2 a), .int .u64 (L 3 a)] 24)).alloc (.cells #[.int .u64 (L 0 b), .int .u64 (L 1 b), .int .u64 (L 2 b), .int .u64 (L 3 b)] 24)) (w.heap.size + 1 + 1 + 1) (by simp) 24 0 0 0 0).keep (Below.refl _ _).drew
  go_region_held3 (fun w' => Below w.heap.size w w' ∧ w'.cell? ⟨w.heap.size, 0, none⟩ = some (.int .u64 0) ∧ w'.cell? ⟨w.heap.size, 1, none⟩ = some (.int .u64 0) ∧ w'.cell? ⟨w.heap.size, 2, none⟩ = some (.int .u64 0) ∧ w'.cell? ⟨w.heap.size, 3, none⟩ = some (.int .u64 0) ∧ w'.cell? ⟨w.heap.size + 1, 0, none⟩ = some (.int .u64 (L 0 a)) ∧ w'.cell? ⟨w.heap.size + 1, 1, none⟩ = some (.int .u64 (L 1 a)) ∧ w'.cell? ⟨w.heap.size + 1, 2, none⟩ = some (.int .u64 (L 2 a)) ∧ w'.cell? ⟨w.heap.size + 1, 3, none⟩ = some (.int .u64 (L 3 a)) ∧ w'.cell? ⟨w.heap.size + 1 + 1, 0, none⟩ = some (.int .u64 (L 0 b)) ∧ w'.cell? ⟨w.heap.size + 1 + 1, 1, none⟩ = some (.int .u64 (L 1 b)) ∧ w'.cell? ⟨w.heap.size + 1 + 1, 2, none⟩ = some (.int .u64 (L 2 b)) ∧ w'.cell? ⟨w.heap.size + 1 + 1, 3, none⟩ = some (.int .u64 (L 3 b)))
    ((go_split_ands; (repeat' apply And.intro) <;> first | (with_reducible assumption) | (with_reducible exact later hk (by assumption)) | (with_reducible exact K.call (by assumption) hk) | (with_reducible exact later_a (by assumption)) | (with_reducible exact later_ad (by assumption)) | (with_reducible exact set4_other (by omega) _ _ _ _ (by assumption)) | (with_reducible exact K.set4 (by assumption) (by omega) _ _ _ _) | (simp [go_sem]; done) | (repeat' (first | (with_reducible assumption) | (with_reducible exact Below.refl _ _) | (with_reducible refine K.drewN ?_ _) | (with_reducible refine K.drew ?_) | (with_reducible refine K.alloc ?_ _)))))
    (first
      | (go_at_call 38; with_reducible refine Calls.mono (mul_any ha hb _) ?_; rintro e w' ⟨rfl, hk⟩; have hR := hR.keep hk; have ⟨kr, kr0, kr1, kr2, kr3, kf0, kf1, kf2, kf3⟩ := hR)
      | (go_at_call 31; with_reducible refine Calls.mono (red_none _ _ _ _ _ _ _ _ _) ?_; rintro e w' ⟨rfl, hk⟩; have hR := hR.keep hk; have ⟨kr, kr0, kr1, kr2, kr3, kf0, kf1, kf2, kf3⟩ := hR))
  have hH := ‹Below _ _ _ ∧ _›
  go_wp2
  exact bodyPost_ret (v := .agg #[.int .u64 0, .int .u64 0, .int .u64 0, .int .u64 0]) (by simp [results, Tryd.results28, go_sem, kr0, kr1, kr2, kr3]) rfl ⟨rfl, hH.1⟩

theorem modOf_zero {k : Int} (h : k < 0 ∨ 3 < k) (w : World) : Calls Tryd.prog 21 #[.int .i64 k] w fun e w' => e = .returned (.agg #[.int .u64 0, .int .u64 0, .int .u64 0, .int .u64 0]) ∧ Below w.heap.size w w' := by
  have hc := modOf_none h w
  rw [md_none h, L_zero, L_zero, L_zero, L_zero] at hc
  exact hc

set_option maxHeartbeats 2000000 in
theorem f_reduce0 {k : Int} (hn : k < 0 ∨ 3 < k) (x0 x1 x2 x3 x4 x5 x6 x7 : Int) (w : World) : Calls Tryd.prog 15 #[.int .i64 k, .agg #[.int .u64 x0, .int .u64 x1, .int .u64 x2, .int .u64 x3, .int .u64 x4, .int .u64 x5, .int .u64 x6, .int .u64 x7]] w fun e w' => e = .returned (.agg #[.int .u64 0, .int .u64 0, .int .u64 0, .int .u64 0]) ∧ Below w.heap.size w w' := by
  go_enter Tryd.func15, Tryd.ntmps15
  go_wp2
  have hR := (ArrW.new (w.alloc (.cells #[.int .u64 x0, .int .u64 x1, .int .u64 x2, .int .u64 x3, .int .u64 x4, .int .u64 x5, .int .u64 x6, .int .u64 x7] 31)) (w.heap.size + 1) (by simp) 24 0 0 0 0).keep (Below.refl _ _).drew
  go_region_held3 (fun w' => Below w.heap.size w w' ∧ w'.cell? ⟨w.heap.size, 0, none⟩ = some (.int .u64 x0) ∧ w'.cell? ⟨w.heap.size, 1, none⟩ = some (.int .u64 x1) ∧ w'.cell? ⟨w.heap.size, 2, none⟩ = some (.int .u64 x2) ∧ w'.cell? ⟨w.heap.size, 3, none⟩ = some (.int .u64 x3) ∧ w'.cell? ⟨w.heap.size, 4, none⟩ = some (.int .u64 x4) ∧ w'.cell? ⟨w.heap.size, 5, none⟩ = some (.int .u64 x5) ∧ w'.cell? ⟨w.heap.size, 6, none⟩ = some (.int .u64 x6) ∧ w'.cell? ⟨w.heap.size, 7, none⟩ = some (.int .u64 x7))
    ((go_split_ands; (repeat' apply And.intro) <;> first | (with_reducible assumption) | (with_reducible exact later hk (by assumption)) | (with_reducible exact K.call (by assumption) hk) | (with_reducible exact later_a (by assumption)) | (with_reducible exact later_ad (by assumption)) | (with_reducible exact set4_other (by omega) _ _ _ _ (by assumption)) | (with_reducible exact K.set4 (by assumption) (by omega) _ _ _ _) | (simp [go_sem]; done) | (repeat' (first | (with_reducible assumption) | (with_reducible exact Below.refl _ _) | (with_reducible refine K.drewN ?_ _) | (with_reducible refine K.drew ?_) | (with_reducible refine K.alloc ?_ _)))))
    (first
      | (go_at_call 21; with_reducible refine Calls.mono (modOf_zero hn _) ?_; rintro e w' ⟨rfl, hk⟩; have hR := hR.keep hk; have ⟨kr, kr0, kr1, kr2, kr3, kf0, kf1, kf2, kf3⟩ := hR)
      | (go_at_call 31; with_reducible refine Calls.mono (red_none _ _ _ _ _ _ _ _ _) ?_; rintro e w' ⟨rfl, hk⟩; have hR := hR.keep hk; have ⟨kr, kr0, kr1, kr2, kr3, kf0, kf1, kf2, kf3⟩ := hR))
  have hH := ‹Below _ _ _ ∧ _›
  go_wp2
  exact bodyPost_ret (v := .agg #[.int .u64 0, .int .u64 0, .int .u64 0, .int .u64 0]) (by simp [results, Tryd.results15, go_sem, kr0, kr1, kr2, kr3]) rfl ⟨rfl, hH.1⟩

set_option maxHeartbeats 2000000 in
theorem f_fold0 {k a : Int} (hn : k < 0 ∨ 3 < k) (ha : Num a) (w : World) : Calls Tryd.prog 8 #[.int .i64 k, .agg #[.int .u64 (L 0 a), .int .u64 (L 1 a), .int .u64 (L 2 a), .int .u64 (L 3 a)]] w fun e w' => e = .returned (.agg #[.int .u64 0, .int .u64 0, .int .u64 0, .int .u64 0]) ∧ Below w.heap.size w w' := by
  go_enter Tryd.func8, Tryd.ntmps8
  go_wp2
  have hR := (ArrW.new (w.alloc (.cells #[.int .u64 (L 0 a), .int .u64 (L 1 a), .int .u64 (L 2 a), .int .u64 (L 3 a)] 24)) (w.heap.size + 1) (by simp) 24 0 0 0 0).keep (Below.refl _ _).drew
  go_region_held3 (fun w' => Below w.heap.size w w' ∧ w'.cell? ⟨w.heap.size, 0, none⟩ = some (.int .u64 (L 0 a)) ∧ w'.cell? ⟨w.heap.size, 1, none⟩ = some (.int .u64 (L 1 a)) ∧ w'.cell? ⟨w.heap.size, 2, none⟩ = some (.int .u64 (L 2 a)) ∧ w'.cell? ⟨w.heap.size, 3, none⟩ = some (.int .u64 (L 3 a)))
    ((go_split_ands; (repeat' apply And.intro) <;> first | (with_reducible assumption) | (with_reducible exact later hk (by assumption)) | (with_reducible exact K.call (by assumption) hk) | (with_reducible exact later_a (by assumption)) | (with_reducible exact later_ad (by assumption)) | (with_reducible exact set4_other (by omega) _ _ _ _ (by assumption)) | (with_reducible exact K.set4 (by assumption) (by omega) _ _ _ _) | (simp [go_sem]; done) | (repeat' (first | (with_reducible assumption) | (with_reducible exact Below.refl _ _) | (with_reducible refine K.drewN ?_ _) | (with_reducible refine K.drew ?_) | (with_reducible refine K.alloc ?_ _)))))
    (first
      | (go_at_call 21; with_reducible refine Calls.mono (modOf_zero hn _) ?_; rintro e w' ⟨rfl, hk⟩; have hR := hR.keep hk; have ⟨kr, kr0, kr1, kr2, kr3, kf0, kf1, kf2, kf3⟩ := hR)
      | (go_at_call 22; with_reducible refine Calls.mono (fold_none ha _) ?_; rintro e w' ⟨rfl, hk⟩; have hR := hR.keep hk; have ⟨kr, kr0, kr1, kr2, kr3, kf0, kf1, kf2, kf3⟩ := hR))
  have hH := ‹Below _ _ _ ∧ _›
  go_wp2
  exact bodyPost_ret (v := .agg #[.int .u64 0, .int .u64 0, .int .u64 0, .int .u64 0]) (by simp [results, Tryd.results8, go_sem, kr0, kr1, kr2, kr3]) rfl ⟨rfl, hH.1⟩

set_option maxHeartbeats 2000000 in
theorem f_mul0 {k a b : Int} (hn : k < 0 ∨ 3 < k) (ha : Num a) (hb : Num b) (w : World) : Calls Tryd.prog 12 #[.int .i64 k, .agg #[.int .u64 (L 0 a), .int .u64 (L 1 a), .int .u64 (L 2 a), .int .u64 (L 3 a)], .agg #[.int .u64 (L 0 b), .int .u64 (L 1 b), .int .u64 (L 2 b), .int .u64 (L 3 b)]] w fun e w' => e = .returned (.agg #[.int .u64 0, .int .u64 0, .int .u64 0, .int .u64 0]) ∧ Below w.heap.size w w' := by
  go_enter Tryd.func12, Tryd.ntmps12
  go_wp2
  have hR := (ArrW.new ((w.alloc (.cells #[.int .u64 (L 0 a), .int .u64 (L 1 a), .int .u64 (L 2 a), .int .u64 (L 3 a)] 24)).alloc (.cells #[.int .u64 (L 0 b), .int .u64 (L 1 b), .int .u64 (L 2 b), .int .u64 (L 3 b)] 24)) (w.heap.size + 1 + 1) (by simp) 24 0 0 0 0).keep (Below.refl _ _).drew
  go_region_held3 (fun w' => Below w.heap.size w w' ∧ w'.cell? ⟨w.heap.size, 0, none⟩ = some (.int .u64 (L 0 a)) ∧ w'.cell? ⟨w.heap.size, 1, none⟩ = some (.int .u64 (L 1 a)) ∧ w'.cell? ⟨w.heap.size, 2, none⟩ = some (.int .u64 (L 2 a)) ∧ w'.cell? ⟨w.heap.size, 3, none⟩ = some (.int .u64 (L 3 a)) ∧ w'.cell? ⟨w.heap.size + 1, 0, none⟩ = some (.int .u64 (L 0 b)) ∧ w'.cell? ⟨w.heap.size + 1, 1, none⟩ = some (.int .u64 (L 1 b)) ∧ w'.cell? ⟨w.heap.size + 1, 2, none⟩ = some (.int .u64 (L 2 b)) ∧ w'.cell? ⟨w.heap.size + 1, 3, none⟩ = some (.int .u64 (L 3 b)))
    ((go_split_ands; (repeat' apply And.intro) <;> first | (with_reducible assumption) | (with_reducible exact later hk (by assumption)) | (with_reducible exact K.call (by assumption) hk) | (with_reducible exact later_a (by assumption)) | (with_reducible exact later_ad (by assumption)) | (with_reducible exact set4_other (by omega) _ _ _ _ (by assumption)) | (with_reducible exact K.set4 (by assumption) (by omega) _ _ _ _) | (simp [go_sem]; done) | (repeat' (first | (with_reducible assumption) | (with_reducible exact Below.refl _ _) | (with_reducible refine K.drewN ?_ _) | (with_reducible refine K.drew ?_) | (with_reducible refine K.alloc ?_ _)))))
    (first
      | (go_at_call 21; with_reducible refine Calls.mono (modOf_zero hn _) ?_; rintro e w' ⟨rfl, hk⟩; have hR := hR.keep hk; have ⟨kr, kr0, kr1, kr2, kr3, kf0, kf1, kf2, kf3⟩ := hR)
      | (go_at_call 28; with_reducible refine Calls.mono (prod_none ha hb _) ?_; rintro e w' ⟨rfl, hk⟩; have hR := hR.keep hk; have ⟨kr, kr0, kr1, kr2, kr3, kf0, kf1, kf2, kf3⟩ := hR))
  have hH := ‹Below _ _ _ ∧ _›
  go_wp2
  exact bodyPost_ret (v := .agg #[.int .u64 0, .int .u64 0, .int .u64 0, .int .u64 0]) (by simp [results, Tryd.results12, go_sem, kr0, kr1, kr2, kr3]) rfl ⟨rfl, hH.1⟩
end Go.Proofs.YtffkeabpdmpjbaaDoor
