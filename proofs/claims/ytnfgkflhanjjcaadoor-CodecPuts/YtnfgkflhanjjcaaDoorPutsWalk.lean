/- CodecPuts. -/
import Derived.Test.YtnfgkflhanjjcaaDoorPBelow
import Derived.Test.YtnfgkflhanjjcaaDoorPRef
import Derived.Deep.RegionHeld3
namespace Go.Proofs.YtnfgkflhanjjcaaDoor
open Go.RowKit
attribute [local go_sem ↓] Go.wp_at_zero Go.wp_at_succ

theorem putBig_ex (a : Int) (w : World) : Calls Tryd.prog 6 #[.agg #[.int .u64 (L 0 a), .int .u64 (L 1 a), .int .u64 (L 2 a), .int .u64 (L 3 a)]] w fun e w' => ∃ n, e = .returned (.slice (some ⟨n, 0, none⟩) 32 32) ∧ Row8 w' n 32 (fun i => Y (31 - i) a) ∧ Below w.heap.size w w' :=
  (putBig_any a w).mono fun _ _ h => ⟨_, h⟩
theorem putLittle_ex (a : Int) (w : World) : Calls Tryd.prog 8 #[.agg #[.int .u64 (L 0 a), .int .u64 (L 1 a), .int .u64 (L 2 a), .int .u64 (L 3 a)]] w fun e w' => ∃ n, e = .returned (.slice (some ⟨n, 0, none⟩) 32 32) ∧ Row8 w' n 32 (fun i => Y i a) ∧ Below w.heap.size w w' :=
  (putLittle_any a w).mono fun _ _ h => ⟨_, h⟩

set_option maxRecDepth 100000 in
set_option maxHeartbeats 8000000 in
theorem puts_walk {k a : Int} (ha : Num a) {w : World} (hT : Tab w) :
    Calls Tryd.prog 3 #[.int .i64 k, .agg #[.int .u64 (L 0 a), .int .u64 (L 1 a), .int .u64 (L 2 a), .int .u64 (L 3 a)]] w fun e w' => e = .returned (.bool true) ∧ Below w.heap.size w w' := by
  have HB : Hid (∀ w1, Below w.heap.size w w1 → Calls Tryd.prog 10 #[.int .i64 k, .agg #[.int .u64 (L 0 a), .int .u64 (L 1 a), .int .u64 (L 2 a), .int .u64 (L 3 a)]] w1 fun e w' => e = .returned (.bool (decide (a < md k))) ∧ Below w1.heap.size w1 w') := fun w1 hb => below_any ha (hT.keep hb)
  have HRB : Hid (∀ w, Calls Tryd.prog 11 #[.int .i64 k, .agg #[.int .u64 (L 0 a), .int .u64 (L 1 a), .int .u64 (L 2 a), .int .u64 (L 3 a)]] w fun e w' => e = .returned (.bool (decide (a < md k))) ∧ Below w.heap.size w w') := fun w => refBelow_any ha w
  generalize decide (a < md k) = bv at *
  clear ha hT
  have A1 := Arr.new w w.heap.size rfl 24 (L 0 a) (L 1 a) (L 2 a) (L 3 a)
  have hw : Below w.heap.size w (w.alloc (.cells #[.int .u64 (L 0 a), .int .u64 (L 1 a), .int .u64 (L 2 a), .int .u64 (L 3 a)] 24)) := K.alloc (Below.refl _ _) _
  go_enter Tryd.func3, Tryd.ntmps3
  go_wp2_with fail
  generalize w.alloc (.cells #[.int .u64 (L 0 a), .int .u64 (L 1 a), .int .u64 (L 2 a), .int .u64 (L 3 a)] 24) = W0 at *
  have ⟨ka, ka0, ka1, ka2, ka3⟩ := A1
  have hS : Hid (∀ w', Below W0.heap.size W0 w' → (Below W0.heap.size W0 w' ∧ w'.cell? ⟨w.heap.size, 0, none⟩ = some (.int .u64 (L 0 a)) ∧ w'.cell? ⟨w.heap.size, 1, none⟩ = some (.int .u64 (L 1 a)) ∧ w'.cell? ⟨w.heap.size, 2, none⟩ = some (.int .u64 (L 2 a)) ∧ w'.cell? ⟨w.heap.size, 3, none⟩ = some (.int .u64 (L 3 a)))) := fun w' hB => ⟨hB, later hB ka0, later hB ka1, later hB ka2, later hB ka3⟩
  clear ka ka0 ka1 ka2 ka3
  go_region_held3 (fun w' => Below W0.heap.size W0 w' ∧ w'.cell? ⟨w.heap.size, 0, none⟩ = some (.int .u64 (L 0 a)) ∧ w'.cell? ⟨w.heap.size, 1, none⟩ = some (.int .u64 (L 1 a)) ∧ w'.cell? ⟨w.heap.size, 2, none⟩ = some (.int .u64 (L 2 a)) ∧ w'.cell? ⟨w.heap.size, 3, none⟩ = some (.int .u64 (L 3 a)))
    ((refine hS.out _ ?_; first | (with_reducible exact K.drew (Below.refl _ _)) | (with_reducible exact K.drew (K.alloc (Below.refl _ _) _)) | (with_reducible exact Below.refl _ _) | (with_reducible exact K.call (by go_split_ands; assumption) hk) | (with_reducible exact K.alloc (by go_split_ands; assumption) _) | (with_reducible exact K.again (by go_split_ands; assumption) (by omega) _) | (with_reducible exact K.set (by go_split_ands; assumption) (by first | omega | (simp; done) | (simp; omega)) _) | (with_reducible exact K.set (K.set (K.set (K.set (by go_split_ands; assumption) (by first | omega | (simp; done) | (simp; omega)) _) (by first | omega | (simp; done) | (simp; omega)) _) (by first | omega | (simp; done) | (simp; omega)) _) (by first | omega | (simp; done) | (simp; omega)) _)))
    (first
      | (go_at_call 4; with_reducible refine Calls.mono (awake_any _) ?_; rintro e w' ⟨rfl, hk⟩)
      | (go_at_call 6; with_reducible refine Calls.mono (putBig_ex a _) ?_; rintro e w' ⟨nA, rfl, hRA, hk⟩)
      | (go_at_call 7; with_reducible refine Calls.mono (refPutBig_any a _) ?_; rintro e w' ⟨nB, cB, rfl, hRB, hk⟩; have hRA := hRA.keep hk)
      | (go_at_call 8; with_reducible refine Calls.mono (putLittle_ex a _) ?_; rintro e w' ⟨nL, rfl, hRL, hk⟩)
      | (go_at_call 9; with_reducible refine Calls.mono (refPutLittle_any a _) ?_; rintro e w' ⟨nM, cM, rfl, hRM, hk⟩; have hRL := hRL.keep hk)
      | (go_at_call 5; with_reducible refine Calls.mono (same_true (by omega) hRA.rd hRB.rd (fun i hi => rfl)) ?_; rintro e w' ⟨rfl, hk⟩)
      | (go_at_call 5; with_reducible refine Calls.mono (same_true (by omega) hRL.rd hRM.rd (fun i hi => rfl)) ?_; rintro e w' ⟨rfl, hk⟩)
      | (go_at_call 10; with_reducible refine Calls.mono (HB.out _ (K.call hw (by go_split_ands; with_reducible assumption))) ?_; rintro e w' ⟨rfl, hk⟩)
      | (go_at_call 11; with_reducible refine Calls.mono (HRB.out _) ?_; rintro e w' ⟨rfl, hk⟩))
  all_goals
    have hH := ‹Below _ _ _ ∧ _›
    go_wp2_with fail
    go_ret
    exact ⟨ret_bool (by simp), K.call hw hH.1⟩
end Go.Proofs.YtnfgkflhanjjcaaDoor
