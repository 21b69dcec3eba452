/- TextSigns. -/
import Derived.Test.YtloboidolhpogaaPAny
namespace Go.Proofs.Ytloboidolhpogaa
open Go.RowKit
attribute [local go_sem ↓] Go.wp_at_zero Go.wp_at_succ
attribute [local go_sem] tx_size

theorem sgn_plain : ∀ v, v < 64 → ((65 ≤ (sgn v).toNat ∧ (sgn v).toNat ≤ 90) ∨ (97 ≤ (sgn v).toNat ∧ (sgn v).toNat ≤ 122) ∨ (48 ≤ (sgn v).toNat ∧ (sgn v).toNat ≤ 57) ∨ (sgn v).toNat = 43 ∨ (sgn v).toNat = 47) := by decide +kernel
/-- Signs, then = at most twice. -/
theorem enc_signs {f : Nat → Nat} (hf : ∀ i, f i < 256) (n : Nat) : ∃ q, q ≤ (enc f n).length ∧ (enc f n).length ≤ q + 2 ∧ (∀ i, i < q → (65 ≤ ((enc f n).getD i 0).toNat ∧ ((enc f n).getD i 0).toNat ≤ 90) ∨ (97 ≤ ((enc f n).getD i 0).toNat ∧ ((enc f n).getD i 0).toNat ≤ 122) ∨ (48 ≤ ((enc f n).getD i 0).toNat ∧ ((enc f n).getD i 0).toNat ≤ 57) ∨ ((enc f n).getD i 0).toNat = 43 ∨ ((enc f n).getD i 0).toNat = 47) ∧ (∀ i, q ≤ i → i < (enc f n).length → (enc f n).getD i 0 = 61) := by
  by_cases h0 : n = 0
  · subst h0
    exact ⟨0, Nat.zero_le _, by rw [enc_len]; omega, fun i h => by omega, fun i _ h => by rw [enc_len] at h; omega⟩
  · have hl := enc_len f n
    have hE := eqs_le (enc f n)
    refine ⟨(enc f n).length - eqs (enc f n), by omega, by omega, fun i hi => ?_, eqs_last (by omega)⟩
    have ho := (okG_enc hf (n := n) (by omega) (i / 4) (by omega)).1 (i % 4) (by omega)
    rw [show 4 * (i / 4) + i % 4 = i by omega] at ho
    rw [← ho]
    exact sgn_plain _ (vz_lt _)

set_option maxHeartbeats 8000000 in
theorem textSigns_walk {a : Option Addr} {n c : Nat} {f : Nat → Nat} {w : World} {a2 : Option Addr} {n2 c2 : Nat} {f2 : Nat → Nat} (h : BA w a n f) (hc : n ≤ c) (h2 : BA w a2 n2 f2) (hc2 : n2 ≤ c2) :
    Calls Try.prog 6 #[.slice a n c, .slice a2 n2 c2] w fun e w' => e = .returned (.bool true) ∧ Below w.heap.size w w' := by
  have H : Hid (BA w a n f) := h
  have H2 : Hid (BA w a2 n2 f2) := h2
  clear h h2
  by_cases hn : n ≤ 300
  · have hni : (n : Int) ≤ 300 := by omega
    by_cases hl : n2 ≤ 300
    · have hli : (n2 : Int) ≤ 300 := by omega
      have hel : (enc f n).length ≤ 1000 := by rw [enc_len]; omega
      obtain ⟨q, hq1, hq2, hqs, hqe⟩ := enc_signs H.out.lt n
      obtain ⟨T, hT⟩ : ∃ T, T = enc f n := ⟨_, rfl⟩
      have HE : Hid (∀ w, BA w a n f → Calls Try.prog 10 #[.slice a n c] w fun e w' => e = .returned (.string (tx T)) ∧ Below w.heap.size w w') := by
        intro w hw
        rw [hT]; exact encode_any hw hc (by omega)
      obtain ⟨eqB, hB⟩ : ∃ x, x = decide (n = n2 ∧ ∀ i, i < n → f i = f2 i) := ⟨_, rfl⟩
      have HS : Hid (∀ w, BA w a n f → BA w a2 n2 f2 → Calls Try.prog 12 #[.slice a n c, .slice a2 n2 c2] w fun e w' => e = .returned (.bool eqB) ∧ Below w.heap.size w w') := by
        intro w h1 h2
        rw [hB]; exact same_ba h1 h2 (by omega)
      have hcmp : ((tx T).toList == (tx (enc f2 n2)).toList) = eqB := by
        rw [tx_list, tx_list, hB, hT, Bool.eq_iff_iff, decide_eq_true_eq]
        simp only [beq_iff_eq]
        exact ⟨fun e => enc_inj H.out.lt H2.out.lt e, fun e => by rw [← e.1]; exact enc_congr e.2⟩
      rw [← hT] at hel hq1 hq2 hqs hqe
      have HE2 : Hid (∀ w, BA w a2 n2 f2 → Calls Try.prog 10 #[.slice a2 n2 c2] w fun e w' => e = .returned (.string (tx (enc f2 n2))) ∧ Below w.heap.size w w') := by
        intro w hw
        exact encode_any hw hc2 (by omega)
      generalize tx (enc f2 n2) = U at *
      have HQ : Hid ((∀ i, i < q → (65 ≤ (T.getD i 0).toNat ∧ (T.getD i 0).toNat ≤ 90) ∨ (97 ≤ (T.getD i 0).toNat ∧ (T.getD i 0).toNat ≤ 122) ∨ (48 ≤ (T.getD i 0).toNat ∧ (T.getD i 0).toNat ≤ 57) ∨ (T.getD i 0).toNat = 43 ∨ (T.getD i 0).toNat = 47) ∧ (∀ i, q ≤ i → i < T.length → T.getD i 0 = 61) ∧ q ≤ T.length ∧ T.length ≤ q + 2) := ⟨hqs, hqe, hq1, hq2⟩
      clear hT hB hqs hqe hq1 hq2
      go_enter Try.func6, Try.ntmps6
      go_wp2_with fail
      with_reducible refine Calls.mono (awake_any _) ?_
      rintro e w1 ⟨rfl, hb1⟩
      go_wp2_with fail
      with_reducible refine Calls.mono (HE.out _ (H.out.keep hb1)) ?_
      rintro e w2 ⟨rfl, hb⟩
      have hb2 : Below w.heap.size w w2 := K.call hb1 hb
      clear hb hb1
      go_wp2_with fail
      go_loopg [6, 7] T.length (fun g s6 s7 wr => wr = w2 ∧ ∃ k : Nat, g = T.length - k ∧ k ≤ T.length ∧ s7 = .int .i64 k ∧ s6 = .int .i64 ((k - q : Nat) : Int))
      case atStart => exact ⟨rfl, 0, rfl, by omega, rfl, by rw [Nat.zero_sub]; rfl⟩
      case round =>
        obtain ⟨rfl, k, rfl, hk, rfl, rfl⟩ := hrel
        by_cases hlt : k < T.length
        · have hki : (k : Int) < T.length := by omega
          obtain ⟨ch, hch⟩ : ∃ ch, ch = T.getD k 0 := ⟨_, rfl⟩
          have hget : (tx T)[k]'(by rw [tx_size]; exact hlt) = ch := by rw [hch]; exact tx_get T k hlt
          have hkq := HQ.out.2.2
          have hKQ : Hid (q ≤ T.length ∧ T.length ≤ q + 2 ∧ k < T.length) := ⟨hkq.1, hkq.2, hlt⟩
          by_cases hq : k < q
          · have h1 := HQ.out.1 k hq
            rw [← hch] at h1
            have h0 : ((k - q : Nat) : Int) = 0 := by omega
            have HN : Hid (((k + 1 - q : Nat) : Int) = 0) := by show _ = _; omega
            clear hch hkq hcmp HE2 HE HS HQ
            rw [h0]
            clear h0
            generalize hcv : ch.toNat = x at *
            rcases h1 with ⟨r1, r2⟩ | ⟨r1, r2⟩ | ⟨r1, r2⟩ | r1 | r1
            all_goals
              first
                | (have hx : (x : Int) = 43 := by omega)
                | (have hx : (x : Int) = 47 := by omega)
                | (have hxl : (48 : Int) ≤ x ∧ (x : Int) ≤ 57 := by omega)
                | (have hxl : (65 : Int) ≤ x ∧ (x : Int) ≤ 90 := by omega)
                | (have hxl : (97 : Int) ≤ x ∧ (x : Int) ≤ 122 := by omega)
              have hx61 : ((x : Int) == 61) = false := beq_eq_false_iff_ne.2 (by omega)
              go_wp2_with fail
              all_goals first
                | (exfalso; omega)
                | (go_roundg (T.length - (k + 1))
                   case measure => have := hKQ.out; omega
                   case rel => exact ⟨rfl, k + 1, rfl, by have := hKQ.out; omega, by go_num, by rw [HN.out]⟩)
          · have h1 : ch = 61 := by rw [hch]; exact HQ.out.2.1 k (by omega) hlt
            rw [h1] at hget
            have hkl : ((k - q : Nat) : Int) ≤ 2 := by omega
            have HN : Hid (((k + 1 - q : Nat) : Int) = ((k - q : Nat) : Int) + 1) := by show _ = _; omega
            have h61 : ((61 : UInt8).toNat : Int) = 61 := rfl
            clear hch hkq h1 hcmp HE2 HE HS HQ
            obtain ⟨d, hd⟩ : ∃ d : Int, d = ((k - q : Nat) : Int) := ⟨_, rfl⟩
            have hd0 : 0 ≤ d := by omega
            rw [← hd] at HN hkl ⊢
            clear hd
            go_wp2_with fail
            go_roundg (T.length - (k + 1))
            case measure => have := hKQ.out; omega
            case rel => exact ⟨rfl, k + 1, rfl, by have := hKQ.out; omega, by go_num, by rw [HN.out]⟩
        · obtain rfl : k = T.length := by omega
          have hkl : ((T.length - q : Nat) : Int) ≤ 2 := by have := HQ.out; omega
          obtain ⟨d, hd⟩ : ∃ d : Int, d = ((T.length - q : Nat) : Int) := ⟨_, rfl⟩
          rw [← hd] at hkl ⊢
          clear hd HQ
          go_wp2_with fail
          with_reducible refine Calls.mono (HE2.out _ (H2.out.keep hb2)) ?_
          rintro e w3 ⟨rfl, hb⟩
          have hb3 : Below w.heap.size w w3 := K.call hb2 hb
          clear hb hb2
          go_wp2_with fail
          with_reducible refine Calls.mono (HS.out _ (H.out.keep hb3) (H2.out.keep hb3)) ?_
          rintro e w4 ⟨rfl, hb⟩
          have hb4 : Below w.heap.size w w4 := K.call hb3 hb
          clear hb hb3
          go_wp2_with fail
          go_ret
          exact ⟨rfl, hb4⟩
    · have hli : ¬ (n2 : Int) ≤ 300 := by omega
      go_enter Try.func6, Try.ntmps6
      go_wp2_with fail
      with_reducible refine Calls.mono (awake_any _) ?_
      rintro e w1 ⟨rfl, hb1⟩
      go_wp2_with fail
      with_reducible refine Calls.mono (awake_any _) ?_
      rintro e w2 ⟨rfl, hb2⟩
      go_wp2_with fail
      go_ret
      exact ⟨rfl, K.call hb1 hb2⟩
  · have hni : ¬ (n : Int) ≤ 300 := by omega
    go_enter Try.func6, Try.ntmps6
    go_wp2_with fail
    with_reducible refine Calls.mono (awake_any _) ?_
    rintro e w1 ⟨rfl, hb1⟩
    go_wp2_with fail
    with_reducible refine Calls.mono (awake_any _) ?_
    rintro e w2 ⟨rfl, hb2⟩
    go_wp2_with fail
    go_ret
    exact ⟨rfl, K.call hb1 hb2⟩
end Go.Proofs.Ytloboidolhpogaa
