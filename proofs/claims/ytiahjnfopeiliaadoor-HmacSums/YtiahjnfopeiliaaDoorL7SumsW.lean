/- HmacSums. -/
import Derived.Test.YtiahjnfopeiliaaDoorL7Awake
namespace Go.Proofs.YtiahjnfopeiliaaDoor
open Go.RowKit
attribute [local go_sem ↓] Go.wp_at_zero Go.wp_at_succ

set_option maxRecDepth 100000 in
set_option maxHeartbeats 16000000 in
theorem hmacSums_walk {w : World} {a b : Option Addr} {n c m d : Nat} {f g : Nat → Nat} (hT : Tab w) (hx : BA w a n f) (hc : n ≤ c) (hcm : c ≤ maxLen) (hy : BA w b m g) (hd : m ≤ d) (hdm : d ≤ maxLen) :
    Calls Tryd.prog 3 #[.slice a n c, .slice b m d] w fun e w' => e = .returned (.bool true) ∧ Below w.heap.size w w' := by
  have HX := hide hx
  have HY := hide hy
  have HT := hide hT
  have HC := hide (And.intro (And.intro hc hcm) (And.intro hd hdm))
  clear hx hy hT hc hcm hd hdm
  by_cases hn : n ≤ 500
  · by_cases hm : m ≤ 500
    · have hni : (n : Int) ≤ 500 := by omega
      have hmi : (m : Int) ≤ 500 := by omega
      have HN := hide (And.intro hn hm)
      clear hn hm
      go_enter Tryd.func3, Tryd.ntmps3
      go_wp2_with fail
      with_reducible refine Calls.mono (awake_any HT.out) ?_
      rintro e w1 ⟨rfl, hb1⟩
      have HB1 := hide hb1
      have HT1 := hide (HT.out.keep hb1)
      have HX1 := hide (HX.out.keep hb1)
      have HY1 := hide (HY.out.keep hb1)
      clear hb1
      go_wp2_with fail
      with_reducible refine Calls.mono (mac_one HT1.out HX1.out HC.out.1.1 HC.out.1.2 (by have := HN.out; omega) HY1.out HC.out.2.1 HC.out.2.2 (by have := HN.out; omega) _ rfl) ?_
      rintro e w2 ⟨rfl, hb⟩
      have HB2 := hide (K.call HB1.out hb)
      clear hb HB1
      go_wp2_with fail
      with_reducible refine Calls.mono (refMac_any (HX.out.keep HB2.out) (HY.out.keep HB2.out) (by have := HN.out; omega) (by have := HN.out; omega)) ?_
      rintro e w3 ⟨rfl, hb⟩
      have HB3 := hide (K.call HB2.out hb)
      clear hb HB2
      have HQ := hide (fun W => eqM (hByte (macS f n g m)) W)
      unfold mA
      generalize (ab (hByte (macS f n g m)) 32).toArray = V at *
      go_wp2_with (refine wpList_eqH (by rfl) _ _ _ rfl _ _ _ rfl rfl (HQ.out _) ?_; simp only [Act.put, List.setIfInBounds_toArray, List.set_cons_zero, List.set_cons_succ])
      go_ret
      exact ⟨rfl, HB3.out⟩
    · have hni : (n : Int) ≤ 500 := by omega
      have hmi : (500 : Int) < m := by omega
      clear hn hm
      go_enter Tryd.func3, Tryd.ntmps3
      go_wp2_with fail
      with_reducible refine Calls.mono (awake_any HT.out) ?_
      rintro e w1 ⟨rfl, hb1⟩
      have HB1 := hide hb1
      clear hb1
      go_wp2_with fail
      with_reducible refine Calls.mono (awake_any (HT.out.keep HB1.out)) ?_
      rintro e w2 ⟨rfl, hb⟩
      have HB2 := hide (K.call HB1.out hb)
      clear hb HB1
      go_wp2_with fail
      go_ret
      exact ⟨rfl, HB2.out⟩

  · have hni : (500 : Int) < n := by omega
    clear hn
    go_enter Tryd.func3, Tryd.ntmps3
    go_wp2_with fail
    with_reducible refine Calls.mono (awake_any HT.out) ?_
    rintro e w1 ⟨rfl, hb1⟩
    have HB1 := hide hb1
    clear hb1
    go_wp2_with fail
    with_reducible refine Calls.mono (awake_any (HT.out.keep HB1.out)) ?_
    rintro e w2 ⟨rfl, hb⟩
    have HB2 := hide (K.call HB1.out hb)
    clear hb HB1
    go_wp2_with fail
    go_ret
    exact ⟨rfl, HB2.out⟩
end Go.Proofs.YtiahjnfopeiliaaDoor
