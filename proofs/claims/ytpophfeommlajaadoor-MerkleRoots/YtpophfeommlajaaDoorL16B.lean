/- MerkleSplits, MerkleRoots. -/
import Derived.Test.YtpophfeommlajaaDoorL16A
namespace Go.Proofs.YtpophfeommlajaaDoor
open Go.RowKit
attribute [local go_sem ↓] Go.wp_at_zero Go.wp_at_succ

theorem and_pow (e : Nat) (h : e < 32) : bits BinOp.and .i64 ((2 ^ e : Nat) : Int) (((2 ^ e : Nat) : Int) - 1) = 0 :=
  (show ∀ e : Fin 32, bits BinOp.and .i64 ((2 ^ e.val : Nat) : Int) (((2 ^ e.val : Nat) : Int) - 1) = 0 by decide +kernel) ⟨e, h⟩
set_option maxRecDepth 100000 in
set_option maxHeartbeats 4000000 in
theorem merkleSplits_walk {w : World} {m : Int} (hT : Tab w) (h0 : 0 ≤ m) (h1 : m < 4294967296) : Calls Tryd.prog 6 #[.int .u32 m] w fun e w' => e = .returned (.bool true) ∧ Below w.heap.size w w' := by
  obtain ⟨n, rfl⟩ : ∃ n : Nat, m = (n : Int) := ⟨m.toNat, by omega⟩
  have HA := hide (awake_any hT)
  have HS := hide (split_any w (k := (n : Int)) (by omega) (by omega))
  rw [Int.toNat_natCast] at HS
  clear hT
  by_cases h2 : n < 2
  · have hq : (n : Int) < 2 := by omega
    rw [sp_small h2] at HS
    go_enter Tryd.func6, Tryd.ntmps6
    go_wp2_with fail
    with_reducible refine Calls.mono HS.out ?_
    rintro e w1 ⟨rfl, hw⟩
    replace hw := hw.symm
    subst hw
    go_wp2_with fail
    with_reducible refine Calls.mono HA.out ?_
    rintro e w2 ⟨rfl, hb⟩
    have HB := hide hb
    clear hb
    go_wp2_with fail
    go_ret
    exact ⟨rfl, HB.out⟩
  · have hq : ¬ ((n : Int) < 2) := by omega
    have k1 := sp_lt (n := n) (by omega)
    have k2 := sp_pos (n := n) (by omega)
    have k3 := sp_le (n := n) (by omega)
    have k4 := sp_pow (n := n) (by omega)
    generalize (n - 1).log2 = e at k4
    generalize sp n = k at *
    have q0 : wrap64 (n : Int) = (n : Int) := by unfold wrap64; omega
    have q1 : (1 : Int) ≤ (k : Int) := by omega
    have q2 : (k : Int) < (n : Int) := by omega
    have q3 : (n : Int) ≤ 2 * (k : Int) := by omega
    have q4 : wrap64 (2 * (k : Int)) = 2 * (k : Int) := by unfold wrap64; omega
    have q5 : wrap64 ((k : Int) - 1) = (k : Int) - 1 := by unfold wrap64; omega
    have q6 : bits BinOp.and .i64 (k : Int) ((k : Int) - 1) = 0 := by
      have he : e < 32 := by
        rcases Nat.lt_or_ge e 32 with h5 | h5
        · exact h5
        · have := Nat.pow_le_pow_right (n := 2) (by omega) h5
          omega
      rw [k4]
      exact and_pow e he
    clear k1 k2 k3 k4 h0 h1 h2
    go_enter Tryd.func6, Tryd.ntmps6
    go_wp2_with fail
    with_reducible refine Calls.mono HS.out ?_
    rintro e w1 ⟨rfl, hw⟩
    replace hw := hw.symm
    subst hw
    go_wp2_with fail
    with_reducible refine Calls.mono HA.out ?_
    rintro e w2 ⟨rfl, hb⟩
    have HB := hide hb
    clear hb
    go_wp2_with fail
    go_ret
    exact ⟨rfl, HB.out⟩
set_option maxRecDepth 100000 in
set_option maxHeartbeats 4000000 in
theorem merkleRoots_walk {w : World} {x : Option Addr} {n c : Nat} {F : Nat → Nat → Nat} {m : Int} (hT : Tab w) (hx : HL w x n F) (hc : n ≤ c) (hcm : c ≤ maxLen) (h0 : 0 ≤ m) (h1 : m < 4294967296) : Calls Tryd.prog 4 #[.slice x n c, .int .u32 m] w fun e w' => e = .returned (.bool true) ∧ Below w.heap.size w w' := by
  obtain ⟨k, rfl⟩ : ∃ k : Nat, m = (k : Int) := ⟨m.toNat, by omega⟩
  have HT := hide hT
  have HX := hide hx
  have HC := hide (And.intro hc hcm)
  clear hT hx hc hcm
  by_cases hn : n ≤ 100
  · have hq : (n : Int) ≤ 100 := by omega
    have HS := hide (fun W => split_any W (k := (k : Int)) (by omega) (by omega))
    have HR := hide (fun W => refSplit_any W (n := k) (by omega))
    have HM := hide (fun W => split_any W (k := -(k : Int)) (by omega) (by omega))
    rw [Int.toNat_natCast] at HS
    rw [show (-(k : Int)).toNat = 0 by omega, sp_small (by omega)] at HM
    have HN := hide hn
    have hw0 : wrap64 (k : Int) = (k : Int) := by unfold wrap64; omega
    have hw1 : wrap64 (-(k : Int)) = -(k : Int) := by unfold wrap64; omega
    generalize sp k = j at *
    clear hn h0 h1
    go_enter Tryd.func4, Tryd.ntmps4
    go_wp2_with fail
    with_reducible refine Calls.mono (awake_any HT.out) ?_
    rintro e w1 ⟨rfl, hb⟩
    have HB1 := hide hb
    clear hb
    go_wp2_with fail
    with_reducible refine Calls.mono (root_any n (HT.out.keep HB1.out) (HX.out.keep HB1.out) HC.out.1 HC.out.2 (by have := HN.out; omega)) ?_
    rintro e w2 ⟨rfl, hb⟩
    have HB2 := hide (K.call HB1.out hb)
    clear hb HB1
    go_wp2_with fail
    with_reducible refine Calls.mono (refRoot_any n (HX.out.keep HB2.out) HC.out.1 HC.out.2 (by have := HN.out; omega)) ?_
    rintro e w3 ⟨rfl, hb⟩
    have HB3 := hide (K.call HB2.out hb)
    clear hb HB2
    have HQ := hide (fun W => eqH_same (rt F n) W)
    unfold hv
    generalize rt F n = s2 at HQ ⊢
    go_wp2_with (refine wpList_eqH (by rfl) _ _ _ rfl _ _ _ rfl rfl (HQ.out _) ?_; simp only [Act.put, List.setIfInBounds_toArray, List.set_cons_zero, List.set_cons_succ])
    with_reducible refine Calls.mono (HS.out _) ?_
    rintro e w4 ⟨rfl, hw⟩
    replace hw := hw.symm
    subst hw
    go_wp2_with fail
    with_reducible refine Calls.mono (HR.out _) ?_
    rintro e w4 ⟨rfl, hw⟩
    replace hw := hw.symm
    subst hw
    go_wp2_with fail
    with_reducible refine Calls.mono (HM.out _) ?_
    rintro e w4 ⟨rfl, hw⟩
    replace hw := hw.symm
    subst hw
    go_wp2_with fail
    go_ret
    exact ⟨rfl, HB3.out⟩
  · have hq : (100 : Int) < (n : Int) := by omega
    clear hn
    go_enter Tryd.func4, Tryd.ntmps4
    go_wp2_with fail
    with_reducible refine Calls.mono (awake_any HT.out) ?_
    rintro e w1 ⟨rfl, hb⟩
    have HB1 := hide hb
    clear hb
    go_wp2_with fail
    with_reducible refine Calls.mono (awake_any (HT.out.keep HB1.out)) ?_
    rintro e w2 ⟨rfl, hb⟩
    have HB2 := hide (K.call HB1.out hb)
    clear hb HB1
    go_wp2_with fail
    go_ret
    exact ⟨rfl, HB2.out⟩
end Go.Proofs.YtpophfeommlajaaDoor
