/- ProofShort. -/
import Derived.Test.YteplklbpehkdjaaDoorL18A
namespace Go.Proofs.YteplklbpehkdjaaDoor
set_option maxRecDepth 100000
open Go.RowKit
attribute [local go_sem ↓] Go.wp_at_zero Go.wp_at_succ

theorem half_le {x b n : Nat} (h : b + x ≤ n) (hx : 0 < x) : b + 1 + x / 2 ≤ n := by omega
theorem tdiv2 (x : Nat) : (x : Int).tdiv 2 = ((x / 2 : Nat) : Int) := by rw [Int.tdiv_eq_ediv_of_nonneg (by omega)]; omega
theorem wrap_n {i : Nat} (h : i ≤ 1000) : wrap64 (i : Int) = (i : Int) := by unfold wrap64; omega
theorem sub1_n {n : Nat} (h : 0 < n) : (n : Int) - 1 = ((n - 1 : Nat) : Int) := by omega
theorem wrap_h {x : Nat} (h : x ≤ 1000) : wrap64 ((x : Int) / 2) = (x : Int) / 2 := by unfold wrap64; omega
theorem wrap_m {m : Int} (h0 : 0 ≤ m) (h1 : m < 256) : wrap64 m = m := by unfold wrap64; omega
theorem wrap_1 {k : Nat} (h : k ≤ 1000) : wrap64 ((k : Int) + 1) = (k : Int) + 1 := by unfold wrap64; omega
theorem wrap_m1 {n : Nat} (h0 : 0 < n) (h : n ≤ 1000) : wrap64 ((n : Int) - 1) = ((n - 1 : Nat) : Int) := by unfold wrap64; omega
set_option maxRecDepth 100000 in
set_option maxHeartbeats 16000000 in
theorem proofShort_walk {w : World} {z : Option Addr} {n c : Nat} {F : Nat → Nat → Nat} {m : Int} (hT : Tab w) (hx : HL w z n F) (hc : n ≤ c) (hcm : c ≤ maxLen) (hm0 : 0 ≤ m) (_hm1 : m < 256) :
    Calls Tryd.prog 5 #[.slice z n c, .int .u8 m] w fun e w' => e = .returned (.bool true) ∧ Below w.heap.size w w' := by
  have HT := hide hT
  have HX := hide hx
  have HC := hide (And.intro hc hcm)
  clear hT hx hc hcm
  by_cases hn : n ≤ 80
  · have hq : (n : Int) ≤ 80 := by omega
    by_cases h0 : n = 0
    · subst h0
      go_enter Tryd.func5, Tryd.ntmps5
      go_upto_region 2 with (go_at_call 8; refine Calls.mono (awake_any HT.out) ?_; rintro e W1 ⟨rfl, hb⟩; have HB1 := hide hb; clear hb)
      go_wp2_with (go_at_call 8; refine Calls.mono (awake_any (HT.out.keep HB1.out)) ?_; rintro e W2 ⟨rfl, hb⟩; have HB2 := hide (Go.Proofs.YteplklbpehkdjaaDoor.K.call HB1.out hb); clear hb)
      go_ret
      exact ⟨rfl, HB2.out⟩
    · obtain ⟨k, hk, hkn⟩ := mod_n hm0 (show 0 < n by omega)
      have hw1 := wrap_1 (k := k) (by omega)
      have hwm := wrap_m1 (n := n) (by omega) (by omega)
      have HN := hide (And.intro hn hkn)
      have hb0 : ((n : Int) == 0) = false := beq_eq_false_iff_ne.2 (by omega)
      have HKm := hide hk
      have HWm := hide (wrap_m hm0 _hm1)
      clear hm0 hk
      go_enter Tryd.func5, Tryd.ntmps5
      go_upto_region 4 with (go_at_call 8; refine Calls.mono (awake_any HT.out) ?_; rintro e W1 ⟨rfl, hb⟩; have HB1 := hide hb; clear hb)
      have HX1 := hide (HX.out.keep HB1.out)
      go_upto_region 5 with (at_builtin; refine wpList_appH (base := W1.heap.size) rfl _ _ rfl rfl (OH.nil _ _ (fun _ _ => 0)) rfl HX1.out (by show 0 + n ≤ _; have := HN.out.1; omega) (by show W1.heap.size ≤ W1.heap.size; exact Nat.le_refl _) ?_; intro v2 W2 ho2 hg2; rw [Nat.zero_add, hcat_zero] at ho2; obtain ⟨a2, c2, rfl, h21, h22⟩ := ho2.form; have HW2 : Hid (Below W1.heap.size W1 W2) := ⟨hg2.os, hg2.tape, hg2.output, hg2.size, fun i hi => hg2.block i hi (fun e => by cases e)⟩; have HO2 := hide (ho2.hl HX.out.lt); clear ho2 hg2 h21 h22)
      have HB2 := hide (Go.Proofs.YteplklbpehkdjaaDoor.K.call HB1.out HW2.out)
      go_wp2_with fail
      go_loopg [6, 7] n (fun g s6 s7 wr => ∃ x b : Nat, x ≤ g ∧ s6 = .int .i64 (b : Int) ∧ s7 = .int .i64 (x : Int) ∧ BtR (n - 1) x b ∧ b + x ≤ n ∧ wr = W2)
      case atStart => exact ⟨n - 1, 0, by omega, rfl, by rw [sub1_n (by omega)], BtR.start _, by omega, rfl⟩
      case round =>
        obtain ⟨x, b, hxg, rfl, rfl, hO, hbx, hwr⟩ := hrel
        subst hwr
        have hb9 : b ≤ 1000 := by have := HN.out.1; omega
        have hwb := wrap_1 hb9
        by_cases hx : 0 < x
        · have HNx := hide (BtR.next hO hx)
          have HLe := hide (half_le hbx hx)
          have hx' : (0 : Int) < (x : Int) := by omega
          have hd2 := tdiv2 x
          have HWx := hide (wrap_h (x := x) (Nat.le_trans (Nat.le_trans (Nat.le_add_left x b) hbx) (Nat.le_trans HN.out.1 (by decide))))
          clear hO hbx
          go_wp2_with fail
          go_roundg (x / 2)
          case measure => omega
          case rel => exact ⟨x / 2, b + 1, Nat.le_refl _, by simp, by simp [HWx.out], HNx.out, HLe.out, rfl⟩
        · obtain rfl : x = 0 := by omega
          have hle := hO.done
          have hp := path_any (c := c) (m := k) (HT.out.keep HB2.out) (HX.out.keep HB2.out) HC.out.1 HC.out.2 (by omega) hkn
          obtain ⟨LA, hLA⟩ : ∃ L, pth F n k = L := ⟨_, rfl⟩
          have hlA : ∀ f ∈ LA, ∀ j, f j < 256 := by rw [← hLA]; exact pth_lt n k HX.out.lt
          have hnA : LA.length ≤ b := by rw [← hLA]; exact pth_len b F n k hle
          obtain ⟨LB, hLB⟩ : ∃ L, prf F n (k + 1) true = L := ⟨_, rfl⟩
          have hlB : ∀ f ∈ LB, ∀ j, f j < 256 := by rw [← hLB]; exact prf_lt n (k + 1) true HX.out.lt
          have hnB : LB.length ≤ b + 1 := by rw [← hLB]; exact prf_len b F n (k + 1) true hle
          rw [hLA] at hp
          have hq2 := fun W (h : Below w.heap.size w W) => proof_any (c := c) (m := k + 1) (HT.out.keep h) (HX.out.keep h) HC.out.1 HC.out.2 (by omega) ⟨by omega, by omega⟩
          rw [hLB, show ((k + 1 : Nat) : Int) = (k : Int) + 1 from rfl] at hq2
          have hq3 := fun W (h : Below w.heap.size w W) => proof_any (c := c) (m := n) (HT.out.keep h) (HX.out.keep h) HC.out.1 HC.out.2 (by omega) ⟨by omega, by omega⟩
          rw [prf_end F true (Or.inl (Nat.le_refl _)), if_pos rfl] at hq3
          obtain ⟨la, hla⟩ : ∃ l, LA.length = l := ⟨_, rfl⟩
          obtain ⟨lb, hlb⟩ : ∃ l, LB.length = l := ⟨_, rfl⟩
          rw [hla] at hnA
          rw [hlb] at hnB
          have HP := hide hp
          have HQ2 := hide hq2
          have HQ3 := hide hq3
          have HlA := hide (And.intro hlA hla)
          have HlB := hide (And.intro hlB hlb)
          have HO := HO2
          have HnA := hide hnA
          have HnB := hide hnB
          have hk : (wrap64 m).tmod (n : Int) = (k : Int) := by rw [HWm.out]; exact HKm.out
          have hwk := wrap_n (i := k) (by have := HN.out; omega)
          clear hp hq2 hq3 hlA hlB hla hlb hLA hLB hle hO hbx hnA hnB
          go_upto_region 12 with (go_at_call 9; refine Calls.mono HP.out ?_; rintro e W3 hp; obtain ⟨a3, c3, rfl, _, _, hb3⟩ := hp.out HlA.out.1; rw [HlA.out.2]; have HB3 := hide (Go.Proofs.YteplklbpehkdjaaDoor.K.call HB2.out hb3); have HW3 : Hid (Below wr.heap.size wr W3) := hb3; clear hb3 hp)
          clear hk hwk
          go_upto_region 13 with (go_at_call 12; refine Calls.mono (HQ2.out _ HB3.out) ?_; rintro e W4 hp; obtain ⟨a4, c4, rfl, _, _, hb4⟩ := hp.out HlB.out.1; rw [HlB.out.2]; have HB4 := hide (Go.Proofs.YteplklbpehkdjaaDoor.K.call HB3.out hb4); have HW4 := hide (Go.Proofs.YteplklbpehkdjaaDoor.K.call HW3.out hb4); clear hb4 hp)
          go_upto_region 14 with (go_at_call 12; refine Calls.mono (HQ3.out _ HB4.out) ?_; rintro e W5 hp; obtain ⟨a5, c5, rfl, _, _, hb5⟩ := hp.out (fun f h => by cases h); have HB5 := hide (Go.Proofs.YteplklbpehkdjaaDoor.K.call HB4.out hb5); have HW5 := hide (Go.Proofs.YteplklbpehkdjaaDoor.K.call HW4.out hb5); clear hb5 hp)
          have HS := hide (same_f (c := c2) (d := c) (HO.out.keep HW5.out) (HX.out.keep HB5.out) (by omega))
          have hnA := HnA.out
          have hnB := HnB.out
          go_wp2_with (go_at_call 11; refine Calls.mono HS.out ?_; rintro e W6 ⟨rfl, hb⟩; have HB6 := hide (Go.Proofs.YteplklbpehkdjaaDoor.K.call HB5.out hb); clear hb)
          go_ret
          exact ⟨rfl, HB6.out⟩
  · have hq : (80 : Int) < (n : Int) := by omega
    clear hn
    go_enter Tryd.func5, Tryd.ntmps5
    go_upto_region 2 with (go_at_call 8; refine Calls.mono (awake_any HT.out) ?_; rintro e W1 ⟨rfl, hb⟩; have HB1 := hide hb; clear hb)
    go_wp2_with (go_at_call 8; refine Calls.mono (awake_any (HT.out.keep HB1.out)) ?_; rintro e W2 ⟨rfl, hb⟩; have HB2 := hide (Go.Proofs.YteplklbpehkdjaaDoor.K.call HB1.out hb); clear hb)
    go_ret
    exact ⟨rfl, HB2.out⟩
end Go.Proofs.YteplklbpehkdjaaDoor
