/- What field.Reduce answers. -/
import Derived.Test.YtelanboegjgcbaaDoorFld
namespace Go.Proofs.YtelanboegjgcbaaDoor
open Go.RowKit
attribute [local go_sem ↓] Go.wp_at_zero Go.wp_at_succ

set_option maxHeartbeats 2000000 in
theorem f_reduce {k x : Int} (hkk : 0 ≤ k ∧ k ≤ 3) (hx : Wide x) {w : World} (hT : Tab w) : Calls Tryd.prog 19 #[.int .i64 k, .agg #[.int .u64 (L 0 x), .int .u64 (L 1 x), .int .u64 (L 2 x), .int .u64 (L 3 x), .int .u64 (L 4 x), .int .u64 (L 5 x), .int .u64 (L 6 x), .int .u64 (L 7 x)]] w fun e w' => e = .returned (.agg #[.int .u64 (L 0 (x % md k)), .int .u64 (L 1 (x % md k)), .int .u64 (L 2 (x % md k)), .int .u64 (L 3 (x % md k))]) ∧ Below w.heap.size w w' := by
  go_enter Tryd.func19, Tryd.ntmps19
  go_wp2
  have hR := (ArrW.new (w.alloc (.cells #[.int .u64 (L 0 x), .int .u64 (L 1 x), .int .u64 (L 2 x), .int .u64 (L 3 x), .int .u64 (L 4 x), .int .u64 (L 5 x), .int .u64 (L 6 x), .int .u64 (L 7 x)] 31)) (w.heap.size + 1) (by simp) 24 0 0 0 0).keep (Below.refl _ _).drew
  go_region_held3 (fun w' => Below w.heap.size w w' ∧ w'.cell? ⟨w.heap.size, 0, none⟩ = some (.int .u64 (L 0 x)) ∧ w'.cell? ⟨w.heap.size, 1, none⟩ = some (.int .u64 (L 1 x)) ∧ w'.cell? ⟨w.heap.size, 2, none⟩ = some (.int .u64 (L 2 x)) ∧ w'.cell? ⟨w.heap.size, 3, none⟩ = some (.int .u64 (L 3 x)) ∧ w'.cell? ⟨w.heap.size, 4, none⟩ = some (.int .u64 (L 4 x)) ∧ w'.cell? ⟨w.heap.size, 5, none⟩ = some (.int .u64 (L 5 x)) ∧ w'.cell? ⟨w.heap.size, 6, none⟩ = some (.int .u64 (L 6 x)) ∧ w'.cell? ⟨w.heap.size, 7, none⟩ = some (.int .u64 (L 7 x)))
    ((go_split_ands; (repeat' apply And.intro) <;> first | (with_reducible assumption) | (with_reducible exact later hk (by assumption)) | (with_reducible exact K.call (by assumption) hk) | (with_reducible exact later_a (by assumption)) | (with_reducible exact later_ad (by assumption)) | (with_reducible exact set4_other (by omega) _ _ _ _ (by assumption)) | (with_reducible exact K.set4 (by assumption) (by omega) _ _ _ _) | (simp [go_sem]; done) | (repeat' (first | (with_reducible assumption) | (with_reducible exact Below.refl _ _) | (with_reducible refine K.drewN ?_ _) | (with_reducible refine K.drew ?_) | (with_reducible refine K.alloc ?_ _)))))
    (first
      | (go_at_call 28; with_reducible refine Calls.mono (modOf_any k (hT.keep (by go_split_ands; assumption))) ?_; rintro e w' ⟨rfl, hk⟩; have hR := hR.keep hk; have ⟨kr, kr0, kr1, kr2, kr3, kf0, kf1, kf2, kf3⟩ := hR)
      | (go_at_call 37; with_reducible refine Calls.mono (red_any hkk hx _) ?_; rintro e w' ⟨rfl, hk⟩; have hR := hR.keep hk; have ⟨kr, kr0, kr1, kr2, kr3, kf0, kf1, kf2, kf3⟩ := hR))
  have hH := ‹Below _ _ _ ∧ _›
  go_wp2
  exact bodyPost_ret (v := .agg #[.int .u64 (L 0 (x % md k)), .int .u64 (L 1 (x % md k)), .int .u64 (L 2 (x % md k)), .int .u64 (L 3 (x % md k))]) (by simp [results, Tryd.results19, go_sem, kr0, kr1, kr2, kr3]) rfl ⟨rfl, hH.1⟩
end Go.Proofs.YtelanboegjgcbaaDoor
