/- The walk of the statement LimbMultiplies: of all two numbers it answers true. -/
import Derived.Test.YtehlkgpoekpllaaMulAny
import Derived.Test.YtehlkgpoekpllaaRefMul
namespace Go.Proofs.Ytehlkgpoekpllaa
open Go.RowKit
attribute [local go_sem ↓] Go.wp_at_zero Go.wp_at_succ
attribute [local go_sem] eq8

set_option maxHeartbeats 4000000 in
theorem multiplies_walk {a b : Int} (ha : Num a) (hb : Num b) (w : World) :
    Calls Try.prog 4 #[.agg #[.int .u64 (L 0 a), .int .u64 (L 1 a), .int .u64 (L 2 a), .int .u64 (L 3 a)], .agg #[.int .u64 (L 0 b), .int .u64 (L 1 b), .int .u64 (L 2 b), .int .u64 (L 3 b)]] w fun e w' => e = .returned (.bool true) ∧ Below w.heap.size w w' := by
  go_enter Try.func4, Try.ntmps4
  go_wp2
  go_region_held3 (fun w' => Below w.heap.size w w' ∧ w'.cell? ⟨w.heap.size, 0, none⟩ = some (.int .u64 (L 0 a)) ∧ w'.cell? ⟨w.heap.size, 1, none⟩ = some (.int .u64 (L 1 a)) ∧ w'.cell? ⟨w.heap.size, 2, none⟩ = some (.int .u64 (L 2 a)) ∧ w'.cell? ⟨w.heap.size, 3, none⟩ = some (.int .u64 (L 3 a)) ∧ w'.cell? ⟨w.heap.size + 1, 0, none⟩ = some (.int .u64 (L 0 b)) ∧ w'.cell? ⟨w.heap.size + 1, 1, none⟩ = some (.int .u64 (L 1 b)) ∧ w'.cell? ⟨w.heap.size + 1, 2, none⟩ = some (.int .u64 (L 2 b)) ∧ w'.cell? ⟨w.heap.size + 1, 3, none⟩ = some (.int .u64 (L 3 b)))
    ((go_split_ands; (repeat' apply And.intro) <;> first | assumption | (exact later hk (by assumption)) | (exact K.call (by assumption) hk) | (exact later_a (by assumption)) | (exact later_ad (by assumption)) | (simp [go_sem]; done) | (repeat' (first | assumption | exact Below.refl _ _ | refine K.drewN ?_ _ | refine K.drew ?_ | refine K.alloc ?_ _))))
    (first
      | (go_at_call 13; with_reducible refine Calls.mono (awake_any _) ?_; rintro e w' ⟨rfl, hk⟩)
      | (go_at_call 22; with_reducible refine Calls.mono (mul_any ha hb _) ?_; rintro e w' ⟨rfl, hk⟩)
      | (go_at_call 23; with_reducible refine Calls.mono (ref_mul_any ha hb _) ?_; rintro e w' ⟨rfl, hk⟩))
  have hH := ‹Below _ _ _ ∧ _›
  go_wp2
  go_ret
  exact ⟨rfl, hH.1⟩
end Go.Proofs.Ytehlkgpoekpllaa
