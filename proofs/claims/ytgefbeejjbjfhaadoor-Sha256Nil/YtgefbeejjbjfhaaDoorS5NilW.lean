/- Sha256Nil. -/
import Derived.Test.YtgefbeejjbjfhaaDoorP5Laws
namespace Go.Proofs.YtgefbeejjbjfhaaDoor
open Go.RowKit
attribute [local go_sem ↓] Go.wp_at_zero Go.wp_at_succ

set_option maxHeartbeats 4000000 in
theorem sha256Nil_walk {a : Option Addr} {n c : Nat} {w : World} (hT : Tab w) :
    Calls Tryd.prog 6 #[.slice a n c] w fun e w' => e = .returned (.bool true) ∧ Below w.heap.size w w' := by
  have HT := hide hT
  clear hT
  by_cases hn : n ≤ 2000
  · have hni : (n : Int) ≤ 2000 := by omega
    clear hn
    go_enter Tryd.func6, Tryd.ntmps6
    go_wp2_with fail
    with_reducible refine Calls.mono (awake_any HT.out) ?_
    rintro e w1 ⟨rfl, hb1⟩
    have HB1 := hide hb1
    have HT1 := hide (HT.out.keep hb1)
    clear hb1
    go_wp2_with fail
    with_reducible refine Calls.mono (write_nil _ _) ?_
    rintro e w2 ⟨⟨v, rfl⟩, rfl⟩
    have hD0 := dig_made w2 38 nil8
    have hk := K.alloc (Below.refl _ w2) (.cells (dg st0 (fun _ => 0) 0).toArray 38)
    have HD := hide hD0
    have HB2 := hide (K.call HB1.out hk)
    have HT2 := hide (HT1.out.keep hk)
    clear hD0 hk HB1 HT1
    have HQ := hide (fun W => eqV nil8 0 W)
    have HQ0 := hide (fun W => nil_ne W)
    have C1 := hide (fun (W : World) (h : Tab W) => dsum_nil_hA nil8 h)
    have C2 := hide (fun (W : World) (h : Tab W) => sum_none h nil8)
    have C3 := hide (fun (W : World) (h : Tab W) (b : Nat) (hd : Dig W b nil8 0) => dsum_hA h hd (by omega))
    generalize hA nil8 0 = V at *
    go_wp2_with (refine wpList_digZ (by rfl) rfl ?_; simp only [Act.put, List.setIfInBounds_toArray, List.set_cons_zero, List.set_cons_succ])
    with_reducible refine Calls.mono (C1.out _ HT2.out) ?_
    rintro e w3 ⟨rfl, hb⟩
    have HD := hide (HD.out.keep hb)
    have HB3 := hide (K.call HB2.out hb)
    have HT3 := hide (HT2.out.keep hb)
    clear hb HB2 HT2
    go_wp2_with fail
    with_reducible refine Calls.mono (C2.out _ HT3.out) ?_
    rintro e w4 ⟨rfl, hb⟩
    have HD := hide (HD.out.keep hb)
    have HB4 := hide (K.call HB3.out hb)
    have HT4 := hide (HT3.out.keep hb)
    clear hb HB3 HT3
    go_wp2_with (refine wpList_eqH (by rfl) _ _ _ rfl _ _ _ rfl rfl (HQ.out _) ?_; simp only [Act.put, List.setIfInBounds_toArray, List.set_cons_zero, List.set_cons_succ])
    with_reducible refine Calls.mono (C3.out _ HT4.out _ HD.out) ?_
    rintro e w5 ⟨rfl, hb⟩
    have HB5 := hide (K.call HB4.out hb)
    have HT5 := hide (HT4.out.keep hb)
    clear hb HB4 HT4 HD
    go_wp2_with (refine wpList_eqH (by rfl) _ _ _ rfl _ _ _ rfl rfl (HQ.out _) ?_; simp only [Act.put, List.setIfInBounds_toArray, List.set_cons_zero, List.set_cons_succ])
    with_reducible refine Calls.mono (C2.out _ HT5.out) ?_
    rintro e w6 ⟨rfl, hb⟩
    have HB6 := hide (K.call HB5.out hb)
    have HT6 := hide (HT5.out.keep hb)
    clear hb HB5 HT5
    go_wp2_with (refine wpList_eqH (by rfl) _ _ _ rfl _ _ _ rfl rfl (HQ.out _) ?_; simp only [Act.put, List.setIfInBounds_toArray, List.set_cons_zero, List.set_cons_succ])
    with_reducible refine Calls.mono (C2.out _ HT6.out) ?_
    rintro e w7 ⟨rfl, hb⟩
    have HB7 := hide (K.call HB6.out hb)
    clear hb HB6 HT6
    go_wp2_with (first
      | (refine wpList_hashZ (by rfl) rfl ?_; simp only [Act.put, List.setIfInBounds_toArray, List.set_cons_zero, List.set_cons_succ])
      | (refine wpList_neH (by rfl) _ _ _ rfl _ _ _ rfl rfl (HQ0.out _) ?_; simp only [Act.put, List.setIfInBounds_toArray, List.set_cons_zero, List.set_cons_succ]))
    go_ret
    exact ⟨rfl, HB7.out⟩
  · have hni : (2000 : Int) < n := by omega
    clear hn
    go_enter Tryd.func6, Tryd.ntmps6
    go_wp2_with fail
    with_reducible refine Calls.mono (awake_any HT.out) ?_
    rintro e w1 ⟨rfl, hb1⟩
    have HB1 := hide hb1
    clear hb1
    go_wp2_with fail
    with_reducible refine Calls.mono (awake_any (HT.out.keep HB1.out)) ?_
    rintro e w2 ⟨rfl, hb⟩
    have HB2 := hide (K.call HB1.out hb)
    clear hb HB1
    go_wp2_with fail
    go_ret
    exact ⟨rfl, HB2.out⟩
end Go.Proofs.YtgefbeejjbjfhaaDoor
