/- The walk of the statement LimbPicks: of all three numbers it answers true. -/
import Derived.Test.YtehlkgpoekpllaaCmpAny
namespace Go.Proofs.Ytehlkgpoekpllaa
open Go.RowKit
attribute [local go_sem ↓] Go.wp_at_zero Go.wp_at_succ
attribute [local go_sem] eq4

/-- Three arrays in their blocks, and nothing old has turned. -/
structure Sees3 (w w' : World) (a b c : Int) : Prop where
  below : Below w.heap.size w w'
  A : Arr w' (w.heap.size) (L 0 a) (L 1 a) (L 2 a) (L 3 a)
  B : Arr w' (w.heap.size + 1) (L 0 b) (L 1 b) (L 2 b) (L 3 b)
  C : Arr w' (w.heap.size + 1 + 1) (L 0 c) (L 1 c) (L 2 c) (L 3 c)
theorem Sees3.call {w w' w1 : World} {a b c : Int} (h : Sees3 w w' a b c) (hk : Below w'.heap.size w' w1) : Sees3 w w1 a b c :=
  ⟨K.call h.below hk, h.A.keep hk, h.B.keep hk, h.C.keep hk⟩

set_option maxHeartbeats 4000000 in
theorem picks_walk {a b c : Int} (ha : Num a) (hb : Num b) (hc : Num c) (w : World) :
    Calls Try.prog 8 #[.agg #[.int .u64 (L 0 a), .int .u64 (L 1 a), .int .u64 (L 2 a), .int .u64 (L 3 a)], .agg #[.int .u64 (L 0 b), .int .u64 (L 1 b), .int .u64 (L 2 b), .int .u64 (L 3 b)], .agg #[.int .u64 (L 0 c), .int .u64 (L 1 c), .int .u64 (L 2 c), .int .u64 (L 3 c)]] w fun e w' => e = .returned (.bool true) ∧ Below w.heap.size w w' := by
  go_enter Try.func8, Try.ntmps8
  go_wp2
  go_region_held3 (fun w' => Below w.heap.size w w' ∧ w'.cell? ⟨w.heap.size, 0, none⟩ = some (.int .u64 (L 0 a)) ∧ w'.cell? ⟨w.heap.size, 1, none⟩ = some (.int .u64 (L 1 a)) ∧ w'.cell? ⟨w.heap.size, 2, none⟩ = some (.int .u64 (L 2 a)) ∧ w'.cell? ⟨w.heap.size, 3, none⟩ = some (.int .u64 (L 3 a)) ∧ w'.cell? ⟨w.heap.size + 1, 0, none⟩ = some (.int .u64 (L 0 b)) ∧ w'.cell? ⟨w.heap.size + 1, 1, none⟩ = some (.int .u64 (L 1 b)) ∧ w'.cell? ⟨w.heap.size + 1, 2, none⟩ = some (.int .u64 (L 2 b)) ∧ w'.cell? ⟨w.heap.size + 1, 3, none⟩ = some (.int .u64 (L 3 b)) ∧ w'.cell? ⟨w.heap.size + 1 + 1, 0, none⟩ = some (.int .u64 (L 0 c)) ∧ w'.cell? ⟨w.heap.size + 1 + 1, 1, none⟩ = some (.int .u64 (L 1 c)) ∧ w'.cell? ⟨w.heap.size + 1 + 1, 2, none⟩ = some (.int .u64 (L 2 c)) ∧ w'.cell? ⟨w.heap.size + 1 + 1, 3, none⟩ = some (.int .u64 (L 3 c)))
    ((go_split_ands; (repeat' apply And.intro) <;> first | assumption | (exact later hk (by assumption)) | (exact K.call (by assumption) hk) | (simp [go_sem]; done) | (repeat' (first | exact Below.refl _ _ | refine K.drewN ?_ _ | refine K.drew ?_ | refine K.alloc ?_ _))))
    (first
      | (go_at_call 13; with_reducible refine Calls.mono (awake_any _) ?_; rintro e w' ⟨rfl, hk⟩)
      | (go_at_call 16; with_reducible refine Calls.mono (pick_true _ _ _ _ _ _ _ _ _) ?_; rintro e w' ⟨rfl, hk⟩)
      | (go_at_call 16; with_reducible refine Calls.mono (pick_false _ _ _ _ _ _ _ _ _) ?_; rintro e w' ⟨rfl, hk⟩))
  have hS : Sees3 w w' a b c := by
    have hH := ‹_ ∧ _›
    obtain ⟨h, a0, a1, a2, a3, b0, b1, b2, b3, c0, c1, c2, c3⟩ := hH
    exact ⟨h, ⟨World.block_lt_of_cell? _ _ a0, a0, a1, a2, a3⟩, ⟨World.block_lt_of_cell? _ _ b0, b0, b1, b2, b3⟩, ⟨World.block_lt_of_cell? _ _ c0, c0, c1, c2, c3⟩⟩
  have ⟨_, ⟨_, a0, a1, a2, a3⟩, ⟨_, b0, b1, b2, b3⟩, ⟨_, c0, c1, c2, c3⟩⟩ := hS
  rcases Int.lt_trichotomy a b with h | h | h
  · have e1 := cmp_lt h
    rcases Int.lt_trichotomy b c with g | g | g
    · have e2 := cmp_lt g
      have e3 := cmp_lt (Int.lt_trans h g)
      go_wp2_with (go_at_call 14; (first | with_reducible refine Calls.mono (cmp_any ha hb _) ?_ | with_reducible refine Calls.mono (cmp_any hb hc _) ?_ | with_reducible refine Calls.mono (cmp_any ha hc _) ?_); rintro e w' ⟨rfl, hk⟩; have hS := hS.call hk; have ⟨_, ⟨_, a0, a1, a2, a3⟩, ⟨_, b0, b1, b2, b3⟩, ⟨_, c0, c1, c2, c3⟩⟩ := hS)
      go_ret
      exact ⟨rfl, hS.below⟩
    · subst g
      have e2 := cmp_eq b
      go_wp2_with (go_at_call 14; (first | with_reducible refine Calls.mono (cmp_any ha hb _) ?_ | with_reducible refine Calls.mono (cmp_any hb hc _) ?_ | with_reducible refine Calls.mono (cmp_any ha hc _) ?_); rintro e w' ⟨rfl, hk⟩; have hS := hS.call hk; have ⟨_, ⟨_, a0, a1, a2, a3⟩, ⟨_, b0, b1, b2, b3⟩, ⟨_, c0, c1, c2, c3⟩⟩ := hS)
      go_ret
      exact ⟨rfl, hS.below⟩
    · have e2 := cmp_gt g
      go_wp2_with (go_at_call 14; (first | with_reducible refine Calls.mono (cmp_any ha hb _) ?_ | with_reducible refine Calls.mono (cmp_any hb hc _) ?_ | with_reducible refine Calls.mono (cmp_any ha hc _) ?_); rintro e w' ⟨rfl, hk⟩; have hS := hS.call hk; have ⟨_, ⟨_, a0, a1, a2, a3⟩, ⟨_, b0, b1, b2, b3⟩, ⟨_, c0, c1, c2, c3⟩⟩ := hS)
      go_ret
      exact ⟨rfl, hS.below⟩
  · subst h
    have e1 := cmp_eq a
    rcases Int.lt_trichotomy a c with g | g | g
    · have e2 := cmp_lt g
      go_wp2_with (go_at_call 14; (first | with_reducible refine Calls.mono (cmp_any ha hb _) ?_ | with_reducible refine Calls.mono (cmp_any hb hc _) ?_ | with_reducible refine Calls.mono (cmp_any ha hc _) ?_); rintro e w' ⟨rfl, hk⟩; have hS := hS.call hk; have ⟨_, ⟨_, a0, a1, a2, a3⟩, ⟨_, b0, b1, b2, b3⟩, ⟨_, c0, c1, c2, c3⟩⟩ := hS)
      go_ret
      exact ⟨rfl, hS.below⟩
    · subst g
      go_wp2_with (go_at_call 14; (first | with_reducible refine Calls.mono (cmp_any ha hb _) ?_ | with_reducible refine Calls.mono (cmp_any hb hc _) ?_ | with_reducible refine Calls.mono (cmp_any ha hc _) ?_); rintro e w' ⟨rfl, hk⟩; have hS := hS.call hk; have ⟨_, ⟨_, a0, a1, a2, a3⟩, ⟨_, b0, b1, b2, b3⟩, ⟨_, c0, c1, c2, c3⟩⟩ := hS)
      go_ret
      exact ⟨rfl, hS.below⟩
    · have e2 := cmp_gt g
      go_wp2_with (go_at_call 14; (first | with_reducible refine Calls.mono (cmp_any ha hb _) ?_ | with_reducible refine Calls.mono (cmp_any hb hc _) ?_ | with_reducible refine Calls.mono (cmp_any ha hc _) ?_); rintro e w' ⟨rfl, hk⟩; have hS := hS.call hk; have ⟨_, ⟨_, a0, a1, a2, a3⟩, ⟨_, b0, b1, b2, b3⟩, ⟨_, c0, c1, c2, c3⟩⟩ := hS)
      go_ret
      exact ⟨rfl, hS.below⟩
  · have e1 := cmp_gt h
    go_wp2_with (go_at_call 14; (first | with_reducible refine Calls.mono (cmp_any ha hb _) ?_ | with_reducible refine Calls.mono (cmp_any hb hc _) ?_ | with_reducible refine Calls.mono (cmp_any ha hc _) ?_); rintro e w' ⟨rfl, hk⟩; have hS := hS.call hk; have ⟨_, ⟨_, a0, a1, a2, a3⟩, ⟨_, b0, b1, b2, b3⟩, ⟨_, c0, c1, c2, c3⟩⟩ := hS)
    go_ret
    exact ⟨rfl, hS.below⟩
end Go.Proofs.Ytehlkgpoekpllaa
