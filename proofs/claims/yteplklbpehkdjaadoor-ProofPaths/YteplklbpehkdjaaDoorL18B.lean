/- ProofPaths. -/
import Derived.Test.YteplklbpehkdjaaDoorL18A
namespace Go.Proofs.YteplklbpehkdjaaDoor
set_option maxRecDepth 100000
open Go.RowKit
attribute [local go_sem ↓] Go.wp_at_zero Go.wp_at_succ

set_option maxRecDepth 100000 in
set_option maxHeartbeats 8000000 in
theorem proofPaths_walk {w : World} {z : Option Addr} {n c : Nat} {F : Nat → Nat → Nat} {m : Int} (hT : Tab w) (hx : HL w z n F) (hc : n ≤ c) (hcm : c ≤ maxLen) (_hm : (Lit.int .i64 m).wf = true) :
    Calls Tryd.prog 3 #[.slice z n c, .int .i64 m] w fun e w' => e = .returned (.bool true) ∧ Below w.heap.size w w' := by
  have HT := hide hT
  have HX := hide hx
  have HC := hide (And.intro hc hcm)
  clear hT hx hc hcm
  by_cases hn : n ≤ 80
  · have hq : (n : Int) ≤ 80 := by omega
    by_cases hm : m < 0 ∨ (n : Int) ≤ m
    · have HE := hide (fun W => path_er (w := W) (x := z) (c := c) hm)
      have HF := hide (fun W => refPath_er (w := W) (x := z) (c := c) hm)
      clear hm
      go_enter Tryd.func3, Tryd.ntmps3
      go_upto_region 3 with (go_at_call 8; refine Calls.mono (awake_any HT.out) ?_; rintro e W1 ⟨rfl, hb⟩; have HB1 := hide hb; clear hb)
      go_upto_region 4 with (go_at_call 9; refine Calls.mono (HE.out _) ?_; rintro e W2 ⟨rfl, hb⟩; have HB2 := hide (Go.Proofs.YteplklbpehkdjaaDoor.K.call HB1.out hb); clear hb)
      go_upto_region 5 with (go_at_call 10; refine Calls.mono (HF.out _) ?_; rintro e W3 ⟨rfl, hb⟩; have HB3 := hide (Go.Proofs.YteplklbpehkdjaaDoor.K.call HB2.out hb); clear hb)
      have HS := hide (fun W => same_l (W := W) (c := 0) (d := 0) (hl_nil W) (hl_nil W) (by omega))
      go_wp2_with (go_at_call 11; refine Calls.mono (HS.out _) ?_; rintro e W4 ⟨rfl, hb⟩; have HB4 := hide (Go.Proofs.YteplklbpehkdjaaDoor.K.call HB3.out hb); clear hb)
      go_ret
      exact ⟨rfl, HB4.out⟩
    · obtain ⟨k, rfl⟩ : ∃ k : Nat, m = (k : Int) := ⟨m.toNat, by omega⟩
      have hk : k < n := by omega
      obtain ⟨L, hL⟩ : ∃ L, pth F n k = L := ⟨_, rfl⟩
      have hlt : ∀ f ∈ L, ∀ j, f j < 256 := by rw [← hL]; exact pth_lt n k HX.out.lt
      have hle : L.length ≤ 1000000 := by rw [← hL]; exact Nat.le_trans (pth_len_n n k F) (by omega)
      have HE := hide (fun (W : World) (h : Below w.heap.size w W) => path_any (c := c) (m := k) (HT.out.keep h) (HX.out.keep h) HC.out.1 HC.out.2 (by omega) hk)
      have HF := hide (fun (W : World) (h : Below w.heap.size w W) => refPath_any (c := c) (m := k) (HX.out.keep h) HC.out.1 HC.out.2 (by omega) hk)
      rw [hL] at HE HF
      have HLt := hide hlt
      have HLe := hide hle
      obtain ⟨q, hql⟩ : ∃ q, L.length = q := ⟨_, rfl⟩
      have HQ := hide hql
      clear hm hk hL hlt hle hql
      go_enter Tryd.func3, Tryd.ntmps3
      go_upto_region 3 with (go_at_call 8; refine Calls.mono (awake_any HT.out) ?_; rintro e W1 ⟨rfl, hb⟩; have HB1 := hide hb; clear hb)
      go_upto_region 4 with (go_at_call 9; refine Calls.mono (HE.out _ HB1.out) ?_; rintro e W2 hp; obtain ⟨a2, c2, rfl, h2, _, hb2⟩ := hp.out HLt.out; rw [HQ.out] at h2 ⊢; have HH2 := hide h2; have HB2 := hide (Go.Proofs.YteplklbpehkdjaaDoor.K.call HB1.out hb2); clear h2 hb2 hp)
      go_upto_region 5 with (go_at_call 10; refine Calls.mono (HF.out _ HB2.out) ?_; rintro e W3 hp; obtain ⟨a3, c3, rfl, h3, _, hb3⟩ := hp.out HLt.out; rw [HQ.out] at h3 ⊢; have HS := hide (same_l (c := c2) (d := c3) (HH2.out.keep hb3) h3 (by rw [← HQ.out]; exact HLe.out)); have HB3 := hide (Go.Proofs.YteplklbpehkdjaaDoor.K.call HB2.out hb3); clear h3 hb3 hp)
      go_wp2_with (go_at_call 11; refine Calls.mono HS.out ?_; rintro e W4 ⟨rfl, hb⟩; have HB4 := hide (Go.Proofs.YteplklbpehkdjaaDoor.K.call HB3.out hb); clear hb)
      go_ret
      exact ⟨rfl, HB4.out⟩
  · have hq : (80 : Int) < (n : Int) := by omega
    clear hn
    go_enter Tryd.func3, Tryd.ntmps3
    go_upto_region 2 with (go_at_call 8; refine Calls.mono (awake_any HT.out) ?_; rintro e W1 ⟨rfl, hb⟩; have HB1 := hide hb; clear hb)
    go_wp2_with (go_at_call 8; refine Calls.mono (awake_any (HT.out.keep HB1.out)) ?_; rintro e W2 ⟨rfl, hb⟩; have HB2 := hide (Go.Proofs.YteplklbpehkdjaaDoor.K.call HB1.out hb); clear hb)
    go_ret
    exact ⟨rfl, HB2.out⟩
end Go.Proofs.YteplklbpehkdjaaDoor
