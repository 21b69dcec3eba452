/- Sha256Sums. -/
import Derived.Test.YtgefbeejjbjfhaaDoorP5Laws
namespace Go.Proofs.YtgefbeejjbjfhaaDoor
open Go.RowKit
attribute [local go_sem ↓] Go.wp_at_zero Go.wp_at_succ

set_option maxHeartbeats 4000000 in
theorem sha256Sums_walk {a : Option Addr} {n c : Nat} {f : Nat → Nat} {w : World} (hT : Tab w) (h : BA w a n f) (hc : n ≤ c) (hm : c ≤ maxLen) :
    Calls Tryd.prog 3 #[.slice a n c] w fun e w' => e = .returned (.bool true) ∧ Below w.heap.size w w' := by
  have H := hide h
  have HT := hide hT
  have HC := hide (And.intro hc hm)
  clear h hT hc hm
  by_cases hn : n ≤ 2000
  · have hni : (n : Int) ≤ 2000 := by omega
    have HN := hide hn
    clear hn
    go_enter Tryd.func3, Tryd.ntmps3
    go_wp2_with fail
    with_reducible refine Calls.mono (awake_any HT.out) ?_
    rintro e w1 ⟨rfl, hb1⟩
    have HB1 := hide hb1
    clear hb1
    go_wp2_with fail
    with_reducible refine Calls.mono (sum_one (HT.out.keep HB1.out) (H.out.keep HB1.out) HC.out.1 HC.out.2 (by have := HN.out; omega) _ rfl) ?_
    rintro e w2 ⟨rfl, hb⟩
    have HB2 := hide (K.call HB1.out hb)
    clear hb HB1
    go_wp2_with fail
    with_reducible refine Calls.mono (refSum_hA (H.out.keep HB2.out) (by have := HN.out; omega)) ?_
    rintro e w3 ⟨rfl, hb⟩
    have HB3 := hide (K.call HB2.out hb)
    clear hb HB2
    have HQ := hide (fun W => eqV f n W)
    generalize hA f n = V at *
    go_wp2_with (refine wpList_eqH (by rfl) _ _ _ rfl _ _ _ rfl rfl (HQ.out _) ?_; simp only [Act.put, List.setIfInBounds_toArray, List.set_cons_zero, List.set_cons_succ])
    go_ret
    exact ⟨rfl, HB3.out⟩
  · have hni : (2000 : Int) < n := by omega
    clear hn
    go_enter Tryd.func3, Tryd.ntmps3
    go_wp2_with fail
    with_reducible refine Calls.mono (awake_any HT.out) ?_
    rintro e w1 ⟨rfl, hb1⟩
    have HB1 := hide hb1
    clear hb1
    go_wp2_with fail
    with_reducible refine Calls.mono (awake_any (HT.out.keep HB1.out)) ?_
    rintro e w2 ⟨rfl, hb⟩
    have HB2 := hide (K.call HB1.out hb)
    clear hb HB1
    go_wp2_with fail
    go_ret
    exact ⟨rfl, HB2.out⟩
end Go.Proofs.YtgefbeejjbjfhaaDoor
