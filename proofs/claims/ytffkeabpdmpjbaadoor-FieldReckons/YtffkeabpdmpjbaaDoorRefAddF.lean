/- What the document's own Add and Sub modulo a number answer. -/
import Derived.Test.YtffkeabpdmpjbaaDoorRefFold
namespace Go.Proofs.YtffkeabpdmpjbaaDoor
open Go.RowKit
attribute [local go_sem ↓] Go.wp_at_zero Go.wp_at_succ

theorem plus_told {k a b : Int} (hm : 0 < md k) (w : World) :
    Calls Tryd.prog 32 #[.agg #[.int .u64 (L 0 (md k)), .int .u64 (L 1 (md k)), .int .u64 (L 2 (md k)), .int .u64 (L 3 (md k))], .agg #[.int .u64 (L 0 (a % md k)), .int .u64 (L 1 (a % md k)), .int .u64 (L 2 (a % md k)), .int .u64 (L 3 (a % md k))], .agg #[.int .u64 (L 0 (b % md k)), .int .u64 (L 1 (b % md k)), .int .u64 (L 2 (b % md k)), .int .u64 (L 3 (b % md k))]] w fun e w' => e = .returned (.agg #[.int .u64 (L 0 ((a + b) % md k)), .int .u64 (L 1 ((a + b) % md k)), .int .u64 (L 2 ((a + b) % md k)), .int .u64 (L 3 ((a + b) % md k))]) ∧ Below w.heap.size w w' := by
  have h := ref_plus_any (md_num k) (Int.emod_nonneg a (by omega)) (Int.emod_lt_of_pos a hm) (Int.emod_nonneg b (by omega)) (Int.emod_lt_of_pos b hm) w
  rw [← Int.add_emod] at h
  exact h

set_option maxHeartbeats 1000000 in
theorem ref_addf_any {k a b : Int} (ha : Num a) (hb : Num b) (hm : 0 < md k) (hl : (L 0 (md k) == 0) = false) (w : World) :
    Calls Tryd.prog 16 #[.int .i64 k, .agg #[.int .u64 (L 0 a), .int .u64 (L 1 a), .int .u64 (L 2 a), .int .u64 (L 3 a)], .agg #[.int .u64 (L 0 b), .int .u64 (L 1 b), .int .u64 (L 2 b), .int .u64 (L 3 b)]] w fun e w' => e = .returned (.agg #[.int .u64 (L 0 ((a + b) % md k)), .int .u64 (L 1 ((a + b) % md k)), .int .u64 (L 2 ((a + b) % md k)), .int .u64 (L 3 ((a + b) % md k))]) ∧ Below w.heap.size w w' := by
  go_enter Tryd.func16, Tryd.ntmps16
  go_wp2
  have hR := (ArrW.new ((w.alloc (.cells #[.int .u64 (L 0 a), .int .u64 (L 1 a), .int .u64 (L 2 a), .int .u64 (L 3 a)] 24)).alloc (.cells #[.int .u64 (L 0 b), .int .u64 (L 1 b), .int .u64 (L 2 b), .int .u64 (L 3 b)] 24)) (w.heap.size + 1 + 1) (by simp) 24 0 0 0 0).keep (Below.refl _ _).drew
  go_region_held3 (fun w' => Below w.heap.size w w' ∧ w'.cell? ⟨w.heap.size, 0, none⟩ = some (.int .u64 (L 0 a)) ∧ w'.cell? ⟨w.heap.size, 1, none⟩ = some (.int .u64 (L 1 a)) ∧ w'.cell? ⟨w.heap.size, 2, none⟩ = some (.int .u64 (L 2 a)) ∧ w'.cell? ⟨w.heap.size, 3, none⟩ = some (.int .u64 (L 3 a)) ∧ w'.cell? ⟨w.heap.size + 1, 0, none⟩ = some (.int .u64 (L 0 b)) ∧ w'.cell? ⟨w.heap.size + 1, 1, none⟩ = some (.int .u64 (L 1 b)) ∧ w'.cell? ⟨w.heap.size + 1, 2, none⟩ = some (.int .u64 (L 2 b)) ∧ w'.cell? ⟨w.heap.size + 1, 3, none⟩ = some (.int .u64 (L 3 b)))
    ((go_split_ands; (repeat' apply And.intro) <;> first | (with_reducible assumption) | (with_reducible exact later hk (by assumption)) | (with_reducible exact K.call (by assumption) hk) | (with_reducible exact later_a (by assumption)) | (with_reducible exact later_ad (by assumption)) | (with_reducible exact set4_other (by omega) _ _ _ _ (by assumption)) | (with_reducible exact K.set4 (by assumption) (by omega) _ _ _ _) | (simp [go_sem]; done) | (repeat' (first | (with_reducible assumption) | (with_reducible exact Below.refl _ _) | (with_reducible refine K.drewN ?_ _) | (with_reducible refine K.drew ?_) | (with_reducible refine K.alloc ?_ _)))))
    (first
      | (go_at_call 7; with_reducible refine Calls.mono (ref_mod_any k _) ?_; rintro e w' ⟨rfl, hk⟩; have hR := hR.keep hk; have ⟨kr, kr0, kr1, kr2, kr3, kf0, kf1, kf2, kf3⟩ := hR)
      | (go_at_call 9; with_reducible refine Calls.mono (ref_fold_any ha hm hl _) ?_; rintro e w' ⟨rfl, hk⟩; have hR := hR.keep hk; have ⟨kr, kr0, kr1, kr2, kr3, kf0, kf1, kf2, kf3⟩ := hR)
      | (go_at_call 9; with_reducible refine Calls.mono (ref_fold_any hb hm hl _) ?_; rintro e w' ⟨rfl, hk⟩; have hR := hR.keep hk; have ⟨kr, kr0, kr1, kr2, kr3, kf0, kf1, kf2, kf3⟩ := hR)
      | (go_at_call 32; with_reducible refine Calls.mono (plus_told hm _) ?_; rintro e w' ⟨rfl, hk⟩; have hR := hR.keep hk; have ⟨kr, kr0, kr1, kr2, kr3, kf0, kf1, kf2, kf3⟩ := hR))
  have hH := ‹Below _ _ _ ∧ _›
  go_wp2
  exact bodyPost_ret (v := .agg #[.int .u64 (L 0 ((a + b) % md k)), .int .u64 (L 1 ((a + b) % md k)), .int .u64 (L 2 ((a + b) % md k)), .int .u64 (L 3 ((a + b) % md k))]) (by simp [results, Tryd.results16, go_sem, kr0, kr1, kr2, kr3]) rfl ⟨rfl, hH.1⟩
end Go.Proofs.YtffkeabpdmpjbaaDoor
