/- TextBack. -/
import Derived.Test.YtloboidolhpogaaPAny
namespace Go.Proofs.Ytloboidolhpogaa
open Go.RowKit
attribute [local go_sem ↓] Go.wp_at_zero Go.wp_at_succ
attribute [local go_sem] tx_size

set_option maxHeartbeats 4000000 in
theorem textBack_walk {a : Option Addr} {n c : Nat} {f : Nat → Nat} {w : World} (h : BA w a n f) (hc : n ≤ c) (l : List UInt8) :
    Calls Try.prog 4 #[.slice a n c, .string (tx l)] w fun e w' => e = .returned (.bool true) ∧ Below w.heap.size w w' := by
  have H : Hid (BA w a n f) := h
  clear h
  by_cases hn : n ≤ 300
  · have hni : (n : Int) ≤ 300 := by omega
    by_cases hl : l.length ≤ 300
    · have hli : (l.length : Int) ≤ 300 := by omega
      have hEL : ((enc f n).length : Int) = ((n : Int) + 2) / 3 * 4 := by rw [enc_len]; omega
      have hel : (enc f n).length ≤ 1000 := by rw [enc_len]; omega
      obtain ⟨T, hT⟩ : ∃ T, T = enc f n := ⟨_, rfl⟩
      have HE : Hid (∀ w, BA w a n f → Calls Try.prog 10 #[.slice a n c] w fun e w' => e = .returned (.string (tx T)) ∧ Below w.heap.size w w') := by
        intro w hw
        rw [hT]; exact encode_any hw hc (by omega)
      have HT : Hid (T = enc f n) := hT
      rw [← hT] at hEL hel
      clear hT
      go_enter Try.func4, Try.ntmps4
      go_wp2_with fail
      with_reducible refine Calls.mono (awake_any _) ?_
      rintro e w1 ⟨rfl, hb1⟩
      go_wp2_with fail
      with_reducible refine Calls.mono (HE.out _ (H.out.keep hb1)) ?_
      rintro e w2 ⟨rfl, hb⟩
      have hb2 : Below w.heap.size w w2 := K.call hb1 hb
      clear hb hb1
      go_wp2_with fail
      with_reducible refine Calls.mono (decode_any T hel _) ?_
      rintro e w3 ⟨hb, hd⟩
      have hb3 : Below w.heap.size w w3 := K.call hb2 hb
      clear hb hb2
      rcases hd with ⟨a2, n2, c2, f2, h2, hc2, he2, rfl⟩ | ⟨hno, rfl⟩
      · have HI : Hid (n2 = n ∧ ∀ i, i < n2 → f2 i = f i) := enc_inj h2.lt H.out.lt (by rw [he2, HT.out])
        have H2 : Hid (BA w3 a2 n2 f2) := h2
        have hn2 : n2 ≤ 1000000 := by have := HI.out.1; omega
        clear h2 he2 hc2
        go_wp2_with fail
        with_reducible refine Calls.mono (decode_any l (by omega) _) ?_
        rintro e w4 ⟨hb, hd⟩
        have hb4 : Below w.heap.size w w4 := K.call hb3 hb
        have H2 : Hid (BA w4 a2 n2 f2) := H2.out.keep hb
        clear hb hb3
        rcases hd with ⟨a5, n5, c5, f5, h5, hc5, he5, rfl⟩ | ⟨hno, rfl⟩
        · have H5 : Hid (BA w4 a5 n5 f5 ∧ n5 ≤ c5 ∧ n5 ≤ 1000 ∧ enc f5 n5 = l) := ⟨h5, hc5, by have := enc_len f5 n5; rw [he5] at this; omega, he5⟩
          have hq : ((tx l).toList == (tx l).toList) = true := by simp
          clear h5 hc5 he5
          go_wp2_with fail
          with_reducible refine Calls.mono (same_ba H2.out (H.out.keep hb4) hn2) ?_
          rw [decide_eq_true HI.out]
          rintro e w5 ⟨rfl, hb⟩
          have H6 : Hid (BA w5 a5 n5 f5) := H5.out.1.keep hb
          have hb5 : Below w.heap.size w w5 := K.call hb4 hb
          clear hb hb4
          go_wp2_with fail
          with_reducible refine Calls.mono (encode_any H6.out H5.out.2.1 H5.out.2.2.1) ?_
          rw [H5.out.2.2.2]
          rintro e w6 ⟨rfl, hb⟩
          have hb6 : Below w.heap.size w w6 := K.call hb5 hb
          clear hb hb5
          go_wp2_with fail
          with_reducible refine Calls.mono (HE.out _ (H.out.keep hb6)) ?_
          rintro e w7 ⟨rfl, hb⟩
          have hb7 : Below w.heap.size w w7 := K.call hb6 hb
          clear hb hb6
          go_wp2_with fail
          go_ret
          exact ⟨rfl, hb7⟩
        · clear hno
          go_wp2_with fail
          with_reducible refine Calls.mono (same_ba H2.out (H.out.keep hb4) hn2) ?_
          rw [decide_eq_true HI.out]
          rintro e w5 ⟨rfl, hb⟩
          have hb5 : Below w.heap.size w w5 := K.call hb4 hb
          clear hb hb4
          go_wp2_with fail
          with_reducible refine Calls.mono (HE.out _ (H.out.keep hb5)) ?_
          rintro e w7 ⟨rfl, hb⟩
          have hb7 : Below w.heap.size w w7 := K.call hb5 hb
          clear hb hb5
          go_wp2_with fail
          go_ret
          exact ⟨rfl, hb7⟩
      · exact absurd HT.out.symm (hno n f H.out.lt)
    · have hli : ¬ (l.length : Int) ≤ 300 := by omega
      go_enter Try.func4, Try.ntmps4
      go_wp2_with fail
      with_reducible refine Calls.mono (awake_any _) ?_
      rintro e w1 ⟨rfl, hb1⟩
      go_wp2_with fail
      with_reducible refine Calls.mono (awake_any _) ?_
      rintro e w2 ⟨rfl, hb2⟩
      go_wp2_with fail
      go_ret
      exact ⟨rfl, K.call hb1 hb2⟩
  · have hni : ¬ (n : Int) ≤ 300 := by omega
    go_enter Try.func4, Try.ntmps4
    go_wp2_with fail
    with_reducible refine Calls.mono (awake_any _) ?_
    rintro e w1 ⟨rfl, hb1⟩
    go_wp2_with fail
    with_reducible refine Calls.mono (awake_any _) ?_
    rintro e w2 ⟨rfl, hb2⟩
    go_wp2_with fail
    go_ret
    exact ⟨rfl, K.call hb1 hb2⟩
end Go.Proofs.Ytloboidolhpogaa
