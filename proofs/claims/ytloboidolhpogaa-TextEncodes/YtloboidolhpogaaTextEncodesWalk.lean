/- TextEncodes. -/
import Derived.Test.YtloboidolhpogaaPRefAny
namespace Go.Proofs.Ytloboidolhpogaa
open Go.RowKit
attribute [local go_sem ↓] Go.wp_at_zero Go.wp_at_succ
attribute [local go_sem] tx_size

set_option maxHeartbeats 4000000 in
theorem textEncodes_walk {a : Option Addr} {n c : Nat} {f : Nat → Nat} {w : World} (h : BA w a n f) (hc : n ≤ c) (l : List UInt8) :
    Calls Try.prog 3 #[.slice a n c, .string (tx l)] w fun e w' => e = .returned (.bool true) ∧ Below w.heap.size w w' := by
  have H : Hid (BA w a n f) := h
  clear h
  by_cases hn : n ≤ 300
  · have hni : (n : Int) ≤ 300 := by omega
    by_cases hl : l.length ≤ 300
    · have hli : (l.length : Int) ≤ 300 := by omega
      go_enter Try.func3, Try.ntmps3
      go_wp2_with fail
      with_reducible refine Calls.mono (awake_any _) ?_
      rintro e w1 ⟨rfl, hb1⟩
      go_wp2_with fail
      with_reducible refine Calls.mono (decode_any l (by omega) _) ?_
      rintro e w2 ⟨hb, hd⟩
      have hb2 : Below w.heap.size w w2 := K.call hb1 hb
      clear hb hb1
      rcases hd with ⟨a2, n2, c2, f2, h2, hc2, he2, rfl⟩ | ⟨hno, rfl⟩
      · have H2 : Hid (BA w2 a2 n2 f2 ∧ enc f2 n2 = l) := ⟨h2, he2⟩
        clear h2 he2 hc2
        go_wp2_with fail
        with_reducible refine Calls.mono (refDecode_any l (by omega) _) ?_
        rintro e w3 ⟨hb, hd⟩
        rcases hd with ⟨a3, n3, c3, f3, h3, he3, rfl⟩ | ⟨hno, rfl⟩
        · have HI : Hid (n2 = n3 ∧ ∀ i, i < n2 → f2 i = f3 i) := enc_inj H2.out.1.lt h3.lt (by rw [H2.out.2, he3])
          have hn2 : n2 ≤ 1000000 := by have := enc_len f2 n2; rw [H2.out.2] at this; omega
          have H2 : Hid (BA w3 a2 n2 f2) := H2.out.1.keep hb
          have H3 : Hid (BA w3 a3 n3 f3) := h3
          have hb3 : Below w.heap.size w w3 := K.call hb2 hb
          clear h3 he3 hb hb2
          go_wp2_with fail
          with_reducible refine Calls.mono (encode_any (H.out.keep hb3) hc (by omega)) ?_
          rintro e w4 ⟨rfl, hb⟩
          have H2 : Hid (BA w4 a2 n2 f2) := H2.out.keep hb
          have H3 : Hid (BA w4 a3 n3 f3) := H3.out.keep hb
          have hb4 : Below w.heap.size w w4 := K.call hb3 hb
          clear hb hb3
          go_wp2_with fail
          with_reducible refine Calls.mono (refEncode_ba (H.out.keep hb4) (by omega)) ?_
          rintro e w5 ⟨rfl, hb⟩
          have H2 : Hid (BA w5 a2 n2 f2) := H2.out.keep hb
          have H3 : Hid (BA w5 a3 n3 f3) := H3.out.keep hb
          have hb5 : Below w.heap.size w w5 := K.call hb4 hb
          clear hb hb4
          have hq : ((tx (enc f n)).toList == (tx (enc f n)).toList) = true := by simp
          generalize tx (enc f n) = T at *
          go_wp2_with fail
          with_reducible refine Calls.mono (same_ba H2.out H3.out hn2) ?_
          rw [decide_eq_true HI.out]
          rintro e w6 ⟨rfl, hb⟩
          have hb6 : Below w.heap.size w w6 := K.call hb5 hb
          clear hb hb5
          go_wp2_with fail
          go_ret
          exact ⟨rfl, hb6⟩
        · exact absurd H2.out.2 (hno n2 f2 H2.out.1.lt)
      · have HNO : Hid (∀ n f, (∀ i, f i < 256) → enc f n ≠ l) := hno
        clear hno
        go_wp2_with fail
        with_reducible refine Calls.mono (refDecode_any l (by omega) _) ?_
        rintro e w3 ⟨hb, hd⟩
        rcases hd with ⟨a3, n3, c3, f3, h3, he3, rfl⟩ | ⟨hno, rfl⟩
        · exact absurd he3 (HNO.out n3 f3 h3.lt)
        · have hb3 : Below w.heap.size w w3 := K.call hb2 hb
          clear hno hb hb2 HNO
          go_wp2_with fail
          with_reducible refine Calls.mono (encode_any (H.out.keep hb3) hc (by omega)) ?_
          rintro e w4 ⟨rfl, hb⟩
          have hb4 : Below w.heap.size w w4 := K.call hb3 hb
          clear hb hb3
          go_wp2_with fail
          with_reducible refine Calls.mono (refEncode_ba (H.out.keep hb4) (by omega)) ?_
          rintro e w5 ⟨rfl, hb⟩
          have hb5 : Below w.heap.size w w5 := K.call hb4 hb
          clear hb hb4
          have hq : ((tx (enc f n)).toList == (tx (enc f n)).toList) = true := by simp
          generalize tx (enc f n) = T at *
          go_wp2_with fail
          with_reducible refine Calls.mono (same_none _ _ _ _ _) ?_
          rintro e w6 ⟨rfl, rfl⟩
          go_wp2_with fail
          go_ret
          exact ⟨rfl, hb5⟩
    · have hli : ¬ (l.length : Int) ≤ 300 := by omega
      go_enter Try.func3, Try.ntmps3
      go_wp2_with fail
      with_reducible refine Calls.mono (awake_any _) ?_
      rintro e w1 ⟨rfl, hb1⟩
      go_wp2_with fail
      with_reducible refine Calls.mono (awake_any _) ?_
      rintro e w2 ⟨rfl, hb2⟩
      go_wp2_with fail
      go_ret
      exact ⟨rfl, K.call hb1 hb2⟩
  · have hni : ¬ (n : Int) ≤ 300 := by omega
    go_enter Try.func3, Try.ntmps3
    go_wp2_with fail
    with_reducible refine Calls.mono (awake_any _) ?_
    rintro e w1 ⟨rfl, hb1⟩
    go_wp2_with fail
    with_reducible refine Calls.mono (awake_any _) ?_
    rintro e w2 ⟨rfl, hb2⟩
    go_wp2_with fail
    go_ret
    exact ⟨rfl, K.call hb1 hb2⟩
end Go.Proofs.Ytloboidolhpogaa
