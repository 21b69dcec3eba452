/- What the document's own Cmp answers; CodecOrder. -/
import Derived.Test.YtnfgkflhanjjcaaCSame
import Derived.Test.YtnfgkflhanjjcaaRefLess
import Derived.Deep.Light
import Derived.Deep.LoopGhost
import Derived.Deep.DeepCutAuto
namespace Go.Proofs.Ytnfgkflhanjjcaa
open Go.RowKit
attribute [local go_sem ↓] Go.wp_at_zero Go.wp_at_succ

set_option maxHeartbeats 1000000 in
theorem cmp_lt {a b : Int} (ha : Num a) (hb : Num b) (h : a < b) (w : World) :
    Calls Try.prog 18 #[.agg #[.int .u64 (L 0 a), .int .u64 (L 1 a), .int .u64 (L 2 a), .int .u64 (L 3 a)], .agg #[.int .u64 (L 0 b), .int .u64 (L 1 b), .int .u64 (L 2 b), .int .u64 (L 3 b)]] w fun e w' => e = .returned (.int .i64 (-1)) ∧ Below w.heap.size w w' := by
  go_enter Try.func18, Try.ntmps18
  go_wp2_with fail
  with_reducible refine Calls.mono (less_true ha hb h _) ?_
  rintro e w1 ⟨rfl, hb1⟩
  go_wp2_with fail
  go_ret
  exact ⟨rfl, K.call (K.alloc (K.alloc (Below.refl _ _) _) _) hb1⟩

set_option maxHeartbeats 1000000 in
theorem cmp_gt {a b : Int} (ha : Num a) (hb : Num b) (h : b < a) (w : World) :
    Calls Try.prog 18 #[.agg #[.int .u64 (L 0 a), .int .u64 (L 1 a), .int .u64 (L 2 a), .int .u64 (L 3 a)], .agg #[.int .u64 (L 0 b), .int .u64 (L 1 b), .int .u64 (L 2 b), .int .u64 (L 3 b)]] w fun e w' => e = .returned (.int .i64 1) ∧ Below w.heap.size w w' := by
  go_enter Try.func18, Try.ntmps18
  go_wp2_with fail
  with_reducible refine Calls.mono (less_false ha hb (by omega) _) ?_
  rintro e w1 ⟨rfl, hb1⟩
  have A1 := ((Arr.new w w.heap.size rfl 26 (L 0 a) (L 1 a) (L 2 a) (L 3 a)).alloc _).keep hb1
  have B1 := (Arr.new _ (w.heap.size + 1) (by simp) 26 (L 0 b) (L 1 b) (L 2 b) (L 3 b)).keep hb1
  have hw1 : Below w.heap.size w w1 := K.call (K.alloc (K.alloc (Below.refl _ _) _) _) hb1
  have ⟨ka, ka0, ka1, ka2, ka3⟩ := A1
  have ⟨kb, kb0, kb1, kb2, kb3⟩ := B1
  clear A1 B1 hb1
  go_wp2_with fail
  with_reducible refine Calls.mono (less_true hb ha h _) ?_
  rintro e w2 ⟨rfl, hb2⟩
  go_wp2_with fail
  go_ret
  exact ⟨rfl, K.call hw1 hb2⟩

set_option maxHeartbeats 1000000 in
theorem cmp_eq {a b : Int} (ha : Num a) (hb : Num b) (h : ¬ a < b) (h2 : ¬ b < a) (w : World) :
    Calls Try.prog 18 #[.agg #[.int .u64 (L 0 a), .int .u64 (L 1 a), .int .u64 (L 2 a), .int .u64 (L 3 a)], .agg #[.int .u64 (L 0 b), .int .u64 (L 1 b), .int .u64 (L 2 b), .int .u64 (L 3 b)]] w fun e w' => e = .returned (.int .i64 0) ∧ Below w.heap.size w w' := by
  go_enter Try.func18, Try.ntmps18
  go_wp2_with fail
  with_reducible refine Calls.mono (less_false ha hb (by omega) _) ?_
  rintro e w1 ⟨rfl, hb1⟩
  have A1 := ((Arr.new w w.heap.size rfl 26 (L 0 a) (L 1 a) (L 2 a) (L 3 a)).alloc _).keep hb1
  have B1 := (Arr.new _ (w.heap.size + 1) (by simp) 26 (L 0 b) (L 1 b) (L 2 b) (L 3 b)).keep hb1
  have hw1 : Below w.heap.size w w1 := K.call (K.alloc (K.alloc (Below.refl _ _) _) _) hb1
  have ⟨ka, ka0, ka1, ka2, ka3⟩ := A1
  have ⟨kb, kb0, kb1, kb2, kb3⟩ := B1
  clear A1 B1 hb1
  go_wp2_with fail
  with_reducible refine Calls.mono (less_false hb ha (by omega) _) ?_
  rintro e w2 ⟨rfl, hb2⟩
  go_wp2_with fail
  go_ret
  exact ⟨rfl, K.call hw1 hb2⟩

/-- -1, 0 or 1, as a is less than, the same as, or greater than b. -/
def sg (a b : Int) : Int := if a < b then -1 else if b < a then 1 else 0
theorem cmp_any {a b : Int} (ha : Num a) (hb : Num b) (w : World) :
    Calls Try.prog 18 #[.agg #[.int .u64 (L 0 a), .int .u64 (L 1 a), .int .u64 (L 2 a), .int .u64 (L 3 a)], .agg #[.int .u64 (L 0 b), .int .u64 (L 1 b), .int .u64 (L 2 b), .int .u64 (L 3 b)]] w fun e w' => e = .returned (.int .i64 (sg a b)) ∧ Below w.heap.size w w' := by
  unfold sg
  by_cases h : a < b
  · rw [if_pos h]; exact cmp_lt ha hb h w
  · rw [if_neg h]
    by_cases h2 : b < a
    · rw [if_pos h2]; exact cmp_gt ha hb h2 w
    · rw [if_neg h2]; exact cmp_eq ha hb h h2 w

theorem top_step (a : Int) (j : Nat) : a / 256 ^ j = 256 * (a / 256 ^ (j + 1)) + Y j a := by
  unfold Y
  rw [Int.pow_succ, ← Int.ediv_ediv_of_nonneg (Int.le_of_lt (Int.pow_pos (by omega)))]
  omega
theorem top_lt {a b : Int} {j : Nat} (h : a / 256 ^ j < b / 256 ^ j) : a < b := by
  apply Int.lt_of_not_ge
  intro hge
  have := Int.ediv_le_ediv (show (0 : Int) < 256 ^ j from Int.pow_pos (by omega)) hge
  omega
theorem sg_lt {a b : Int} (h : a < b) : sg a b = -1 := by unfold sg; rw [if_pos h]
theorem sg_gt {a b : Int} (h : b < a) : sg a b = 1 := by unfold sg; rw [if_neg (by omega), if_pos h]
theorem sg_eq (a : Int) : sg a a = 0 := by unfold sg; rw [if_neg (by omega), if_neg (by omega)]

set_option maxHeartbeats 4000000 in
theorem order_walk {a b : Int} (ha : Num a) (hb : Num b) (w : World) :
    Calls Try.prog 6 #[.agg #[.int .u64 (L 0 a), .int .u64 (L 1 a), .int .u64 (L 2 a), .int .u64 (L 3 a)], .agg #[.int .u64 (L 0 b), .int .u64 (L 1 b), .int .u64 (L 2 b), .int .u64 (L 3 b)]] w fun e w' => e = .returned (.bool true) ∧ Below w.heap.size w w' := by
  have HC : Hid (∀ w, Calls Try.prog 18 #[.agg #[.int .u64 (L 0 a), .int .u64 (L 1 a), .int .u64 (L 2 a), .int .u64 (L 3 a)], .agg #[.int .u64 (L 0 b), .int .u64 (L 1 b), .int .u64 (L 2 b), .int .u64 (L 3 b)]] w fun e w' => e = .returned (.int .i64 (sg a b)) ∧ Below w.heap.size w w') := fun w => cmp_any ha hb w
  have HT : Hid (a / 256 ^ (32 - 0) = b / 256 ^ (32 - 0)) := by
    have h1 : a / 256 ^ 32 = 0 := Int.ediv_eq_zero_of_lt ha.lo (by have := ha.hi; unfold M at this; omega)
    have h2 : b / 256 ^ 32 = 0 := Int.ediv_eq_zero_of_lt hb.lo (by have := hb.hi; unfold M at this; omega)
    exact h1.trans h2.symm
  clear ha hb
  have A1 := (Arr.new w w.heap.size rfl 26 (L 0 a) (L 1 a) (L 2 a) (L 3 a)).alloc (.cells #[.int .u64 (L 0 b), .int .u64 (L 1 b), .int .u64 (L 2 b), .int .u64 (L 3 b)] 26)
  have B1 := Arr.new (w.alloc (.cells #[.int .u64 (L 0 a), .int .u64 (L 1 a), .int .u64 (L 2 a), .int .u64 (L 3 a)] 26)) (w.heap.size + 1) (by simp) 26 (L 0 b) (L 1 b) (L 2 b) (L 3 b)
  have hw1 : Below w.heap.size w ((w.alloc (.cells #[.int .u64 (L 0 a), .int .u64 (L 1 a), .int .u64 (L 2 a), .int .u64 (L 3 a)] 26)).alloc (.cells #[.int .u64 (L 0 b), .int .u64 (L 1 b), .int .u64 (L 2 b), .int .u64 (L 3 b)] 26)) := K.alloc (K.alloc (Below.refl _ _) _) _
  go_enter Try.func6, Try.ntmps6
  go_wp2_with fail
  generalize (w.alloc (.cells #[.int .u64 (L 0 a), .int .u64 (L 1 a), .int .u64 (L 2 a), .int .u64 (L 3 a)] 26)).alloc (.cells #[.int .u64 (L 0 b), .int .u64 (L 1 b), .int .u64 (L 2 b), .int .u64 (L 3 b)] 26) = W0 at *
  have ⟨ka, ka0, ka1, ka2, ka3⟩ := A1
  have ⟨kb, kb0, kb1, kb2, kb3⟩ := B1
  have hS : Hid (∀ w', Below W0.heap.size W0 w' → (Below W0.heap.size W0 w' ∧ w'.cell? ⟨w.heap.size, 0, none⟩ = some (.int .u64 (L 0 a)) ∧ w'.cell? ⟨w.heap.size, 1, none⟩ = some (.int .u64 (L 1 a)) ∧ w'.cell? ⟨w.heap.size, 2, none⟩ = some (.int .u64 (L 2 a)) ∧ w'.cell? ⟨w.heap.size, 3, none⟩ = some (.int .u64 (L 3 a)) ∧ w'.cell? ⟨w.heap.size + 1, 0, none⟩ = some (.int .u64 (L 0 b)) ∧ w'.cell? ⟨w.heap.size + 1, 1, none⟩ = some (.int .u64 (L 1 b)) ∧ w'.cell? ⟨w.heap.size + 1, 2, none⟩ = some (.int .u64 (L 2 b)) ∧ w'.cell? ⟨w.heap.size + 1, 3, none⟩ = some (.int .u64 (L 3 b)))) := fun w' hB => ⟨hB, later hB ka0, later hB ka1, later hB ka2, later hB ka3, later hB kb0, later hB kb1, later hB kb2, later hB kb3⟩
  clear ka ka0 ka1 ka2 ka3 kb kb0 kb1 kb2 kb3
  go_cut [5, 6] (fun s5 s6 wc => ∃ n m, s5 = .slice (some ⟨n, 0, none⟩) 32 32 ∧ s6 = .slice (some ⟨m, 0, none⟩) 32 32 ∧ Below W0.heap.size W0 wc ∧ Row8 wc n 32 (fun i => Y (31 - i) a) ∧ Row8 wc m 32 (fun i => Y (31 - i) b))
  case first =>
    go_region_held3 (fun w' => Below W0.heap.size W0 w' ∧ w'.cell? ⟨w.heap.size, 0, none⟩ = some (.int .u64 (L 0 a)) ∧ w'.cell? ⟨w.heap.size, 1, none⟩ = some (.int .u64 (L 1 a)) ∧ w'.cell? ⟨w.heap.size, 2, none⟩ = some (.int .u64 (L 2 a)) ∧ w'.cell? ⟨w.heap.size, 3, none⟩ = some (.int .u64 (L 3 a)) ∧ w'.cell? ⟨w.heap.size + 1, 0, none⟩ = some (.int .u64 (L 0 b)) ∧ w'.cell? ⟨w.heap.size + 1, 1, none⟩ = some (.int .u64 (L 1 b)) ∧ w'.cell? ⟨w.heap.size + 1, 2, none⟩ = some (.int .u64 (L 2 b)) ∧ w'.cell? ⟨w.heap.size + 1, 3, none⟩ = some (.int .u64 (L 3 b)))
      ((refine hS.out _ ?_; first | (with_reducible exact K.drew (Below.refl _ _)) | (with_reducible exact K.drew (K.alloc (Below.refl _ _) _)) | (with_reducible exact Below.refl _ _) | (with_reducible exact K.call (by go_split_ands; assumption) hk) | (with_reducible exact K.alloc (by go_split_ands; assumption) _) | (with_reducible exact K.again (by go_split_ands; assumption) (by omega) _) | (with_reducible exact K.set (by go_split_ands; assumption) (by first | omega | (simp; done) | (simp; omega)) _) | (with_reducible exact K.set (K.set (K.set (K.set (by go_split_ands; assumption) (by first | omega | (simp; done) | (simp; omega)) _) (by first | omega | (simp; done) | (simp; omega)) _) (by first | omega | (simp; done) | (simp; omega)) _) (by first | omega | (simp; done) | (simp; omega)) _)))
      (first
        | (go_at_call 14; with_reducible refine Calls.mono (putBig_any a _) ?_; rintro e w' ⟨rfl, hRA, hk⟩; have hz := hk.size; (try simp at hz))
        | (go_at_call 14; with_reducible refine Calls.mono (putBig_any b _) ?_; rintro e w' ⟨rfl, hRB, hk⟩; have hRA := hRA.keep hk; have hz := hk.size; (try simp at hz)))
    all_goals
      have hH := ‹Below _ _ _ ∧ _›
      (try go_wp2_with fail)
      go_meet
      exact ⟨_, _, rfl, rfl, hH.1, hRA, hRB⟩
  case rest =>
  obtain ⟨n, m, rfl, rfl, hbc, hRA, hRB⟩ := hcut
  have A2 := A1.keep hbc
  have B2 := B1.keep hbc
  have HW : Hid (Below w.heap.size w wc) := K.call hw1 hbc
  clear A1 B1 hS hbc hw1
  have HA : Hid (Row8 wc n 32 (fun i => Y (31 - i) a)) := hRA
  have HB : Hid (Row8 wc m 32 (fun i => Y (31 - i) b)) := hRB
  clear hRA hRB
  go_wp2_with fail
  go_loopg [7, 8] 33 (fun g s7 s8 wr => ∃ i : Nat, i ≤ 32 ∧ s8 = .int .i64 i ∧ Below wc.heap.size wc wr ∧ ((g = 33 - i ∧ s7 = .int .i64 0 ∧ a / 256 ^ (32 - i) = b / 256 ^ (32 - i)) ∨ (g = 0 ∧ s7 = .int .i64 (sg a b) ∧ (sg a b = -1 ∨ sg a b = 1))))
  case atStart => exact ⟨0, by omega, rfl, Below.refl _ _, Or.inl ⟨rfl, rfl, HT.out⟩⟩
  case round =>
    obtain ⟨i, hi, rfl, hB, hcase⟩ := hrel
    rcases hcase with ⟨rfl, rfl, heq⟩ | ⟨rfl, rfl, hsg⟩
    · by_cases hlt : i < 32
      · obtain ⟨j, hj⟩ : ∃ j, 32 - i = j + 1 := ⟨31 - i, by omega⟩
        rw [hj] at heq
        have hta := top_step a j
        have htb := top_step b j
        have hca := (HA.out.keep hB).c i hlt
        have hcb := (HB.out.keep hB).c i hlt
        rw [show 31 - i = j by omega] at hca hcb
        have HBw : Hid (Below wc.heap.size wc wr) := hB
        have ya0 := Y_lo j a
        have ya1 := Y_hi j a
        have yb0 := Y_lo j b
        have yb1 := Y_hi j b
        have HJ : Hid (32 - (i + 1) = j) := (show 32 - (i + 1) = j by omega)
        have HL : Hid (Y j a < Y j b → a < b) := fun h => top_lt (j := j) (by omega)
        have HG : Hid (Y j b < Y j a → b < a) := fun h => top_lt (j := j) (by omega)
        have HE : Hid (Y j a = Y j b → a / 256 ^ j = b / 256 ^ j) := fun h => by omega
        clear hB hta htb heq hj
        generalize Y j a = ya at *
        generalize Y j b = yb at *
        have h3 : ya < yb ∨ yb < ya ∨ ya = yb := by omega
        rcases h3 with h3 | h3 | h3
        · have hs : sg a b = -1 := sg_lt (HL.out h3)
          have HS : Hid (sg a b = -1) := hs
          have h4 : ¬ yb < ya := by omega
          clear hs
          go_upto_region 6 with fail
          go_quiet (fail)
          go_upto_region 8 with fail
          go_quiet (fail)
          go_wp2_with fail
          go_roundg 0
          case measure => omega
          case rel => exact ⟨i + 1, by omega, by go_num, K.drewN HBw.out _, Or.inr ⟨rfl, by rw [HS.out], Or.inl HS.out⟩⟩
        · have hs : sg a b = 1 := sg_gt (HG.out h3)
          have HS : Hid (sg a b = 1) := hs
          have h4 : ¬ ya < yb := by omega
          clear hs
          go_upto_region 6 with fail
          go_quiet (fail)
          go_upto_region 8 with fail
          go_quiet (fail)
          go_wp2_with fail
          go_roundg 0
          case measure => omega
          case rel => exact ⟨i + 1, by omega, by go_num, K.drewN HBw.out _, Or.inr ⟨rfl, by rw [HS.out], Or.inr HS.out⟩⟩
        · have HQ : Hid (a / 256 ^ (32 - (i + 1)) = b / 256 ^ (32 - (i + 1))) := by
            have h := HE.out h3
            rw [← HJ.out] at h
            exact h
          have h4 : ¬ ya < yb := by omega
          have h5 : ¬ yb < ya := by omega
          clear HE
          go_upto_region 6 with fail
          go_quiet (fail)
          go_upto_region 8 with fail
          go_quiet (fail)
          go_wp2_with fail
          go_roundg (33 - (i + 1))
          case measure => omega
          case rel => exact ⟨i + 1, by omega, by go_num, K.drewN HBw.out _, Or.inl ⟨rfl, rfl, HQ.out⟩⟩
      · obtain rfl : i = 32 := by omega
        have hab : a = b := by simpa using heq
        have HS : Hid (sg a b = 0) := by show _ = _; rw [hab]; exact sg_eq b
        have A3 := A2.keep hB
        have B3 := B2.keep hB
        have HBw : Hid (Below w.heap.size w wr) := K.call HW.out hB
        clear hab heq hB A2 B2
        go_wp2_with fail
        with_reducible refine Calls.mono (awake_any _) ?_
        rintro e w1 ⟨rfl, hb1⟩
        have ⟨ka, ka0, ka1, ka2, ka3⟩ := A3.keep hb1
        have ⟨kb, kb0, kb1, kb2, kb3⟩ := B3.keep hb1
        go_wp2_with fail
        with_reducible refine Calls.mono (HC.out _) ?_
        rw [HS.out]
        rintro e w2 ⟨rfl, hb2⟩
        go_wp2_with fail
        go_ret
        exact ⟨rfl, K.call (K.call HBw.out hb1) hb2⟩
    · have A3 := A2.keep hB
      have B3 := B2.keep hB
      have HBw : Hid (Below w.heap.size w wr) := K.call HW.out hB
      clear hB A2 B2
      rcases hsg with hsg | hsg <;> by_cases hlt : i < 32
      all_goals
        have HS : Hid (_ = _) := hsg
        rw [hsg]
        clear hsg
        go_wp2_with fail
        with_reducible refine Calls.mono (awake_any _) ?_
        rintro e w1 ⟨rfl, hb1⟩
        have ⟨ka, ka0, ka1, ka2, ka3⟩ := A3.keep hb1
        have ⟨kb, kb0, kb1, kb2, kb3⟩ := B3.keep hb1
        go_wp2_with fail
        with_reducible refine Calls.mono (HC.out _) ?_
        rw [HS.out]
        rintro e w2 ⟨rfl, hb2⟩
        go_wp2_with fail
        go_ret
        exact ⟨rfl, K.call (K.call HBw.out hb1) hb2⟩
end Go.Proofs.Ytnfgkflhanjjcaa
