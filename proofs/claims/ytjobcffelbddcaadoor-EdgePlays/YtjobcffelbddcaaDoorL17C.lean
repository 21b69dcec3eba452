/- EdgeNil. -/
import Derived.Test.YtjobcffelbddcaaDoorL17A
namespace Go.Proofs.YtjobcffelbddcaaDoor
set_option maxRecDepth 100000
open Go.RowKit
attribute [local go_sem ↓] Go.wp_at_zero Go.wp_at_succ

/-- Two empty trees in variables. -/
theorem boxTT {w X W : World} {F : Nat → Nat → Nat} (hF : ∀ i j, F i j < 256) (hB : Below w.heap.size w W) (hX : X = (W.alloc (.cells #[.slice none 0 0] 27)).alloc (.cells #[.slice none 0 0] 27)) :
    Below w.heap.size w X ∧ Tr X W.heap.size 0 F ∧ Tr X (W.heap.size + 1) 0 F := by
  rw [hX]
  refine ⟨K.alloc (K.alloc hB _) _, (tr_new W hF).keep (K.alloc (Below.refl _ _) _), ?_⟩
  have h := tr_new (W.alloc (.cells #[.slice none 0 0] 27)) hF
  rw [World.size_alloc] at h
  exact h
theorem HL.range {w : World} {b o n : Nat} {F : Nat → Nat → Nat} (h : HL w (some ⟨b, o, none⟩) n F) {i : Nat} (hi : i < n) : w.rangeAt b (o + i * 32) (ab (F i) 32) := by
  rcases h.at_ with h0 | ⟨b', o', e, hr⟩
  · omega
  · cases e
    exact hr i hi
set_option maxRecDepth 100000 in
set_option maxHeartbeats 16000000 in
theorem edgeNil_walk {w : World} {z : Option Addr} {n c : Nat} {F : Nat → Nat → Nat} (hT : Tab w) (hx : HL w z n F) (_hc : n ≤ c) (_hcm : c ≤ maxLen) :
    Calls Tryd.prog 6 #[.slice z n c] w fun e w' => e = .returned (.bool true) ∧ Below w.heap.size w w' := by
  have HT := hide hT
  have HX := hide hx
  clear hT hx
  by_cases hn : n ≤ 60
  · have hq : (n : Int) ≤ 60 := by omega
    have HN := hide hn
    clear hn
    go_enter Tryd.func6, Tryd.ntmps6
    go_upto_region 4 with (go_at_call 8; refine Calls.mono (awake_any HT.out) ?_; rintro e W1 ⟨rfl, hb⟩; have HB1 := hide hb; clear hb)
    go_upto_region 5 with fail
    refine wp_world (fun X hX => ?_)
    obtain ⟨hB, hTa, hTb⟩ := boxTT HX.out.lt HB1.out hX
    clear hX
    obtain ⟨b, hb⟩ : ∃ b, W1.heap.size = b := ⟨_, rfl⟩
    have hwb : w.heap.size ≤ b := by rw [← hb]; exact HB1.out.size
    rw [hb] at hTa hTb ⊢
    have HB := hide hB
    have HTa := hide hTa
    have HTb := hide hTb
    clear hB hTa hTb HB1 hb
    go_wp2_with fail
    go_loopg [6] n (fun g s6 wr => ∃ i : Nat, g = n - i ∧ i ≤ n ∧ s6 = .int .i64 (i : Int) ∧ Tr wr b i F ∧ Tr wr (b + 1) i F ∧ Below w.heap.size w wr)
    case atStart => exact ⟨0, rfl, Nat.zero_le _, rfl, HTa.out, HTb.out, HB.out⟩
    case round =>
      clear HTa HTb HB
      obtain ⟨i, rfl, hi, rfl, hTa, hTb, hB⟩ := hrel
      by_cases hlt : i < n
      · rcases HX.out.at_ with h0 | ⟨bz, oz, rfl, _⟩
        · omega
        have hlt' : (i : Int) < (n : Int) := by omega
        have HR := hide ((HX.out.keep hB).range hlt)
        have HTa := hide hTa
        have HTb := hide hTb
        have HB := hide hB
        clear hTa hTb hB
        go_upto_region 9 with (first
          | (refine wpList_load_h rfl _ rfl rfl HR.out ?_)
          | (go_at_call 15; refine Calls.mono (push_nil _ _) ?_; rintro e W1 ⟨⟨v1, rfl⟩, hb1⟩; have HB1 := hide (Go.Proofs.YtjobcffelbddcaaDoor.K.call HB.out hb1); have HTa1 := hide (HTa.out.keep hb1); have HTb1 := hide (HTb.out.keep hb1); have HR1 := hide (range_keep HR.out hb1); have HP1 := hide (tr_push (HT.out.keep HB1.out) HTa1.out HX.out.lt (fun _ _ => rfl) (rfl : F i = F i) (by omega)); clear hb1))
        go_upto_region 10 with (first
          | (refine wpList_load_h rfl _ rfl rfl HR1.out ?_)
          | (go_at_call 15; refine Calls.mono HP1.out ?_; rintro e W2 hp; obtain ⟨⟨v2, rfl⟩, hp2, hp3⟩ := hp; have HTa2 := hide hp2; have HB2 := hide (HB1.out.grown hp3 HB1.out.size (fun k hk => by cases hk; omega)); have HTb2 := hide (HTb1.out.other HTa1.out.tb hp3 (by omega)); have HR2 := hide ((HX.out.keep HB2.out).range hlt); have HP2 := hide (tr_push (HT.out.keep HB2.out) HTb2.out HX.out.lt (fun _ _ => rfl) (rfl : F i = F i) (by omega)); clear hp2 hp3))
        go_wp2_with (first
          | (refine wpList_load_h rfl _ rfl rfl HR2.out ?_)
          | (go_at_call 15; refine Calls.mono HP2.out ?_; rintro e W3 hp; obtain ⟨⟨v3, rfl⟩, hp2, hp3⟩ := hp; have HTb3 := hide hp2; have HB3 := hide (HB2.out.grown hp3 HB2.out.size (fun k hk => by cases hk; omega)); have HTa3 := hide (HTa2.out.other HTb2.out.tb hp3 (by omega)); clear hp2 hp3))
        go_roundg (n - (i + 1))
        case measure => omega
        case rel => exact ⟨i + 1, rfl, hlt, by simp, HTa3.out, HTb3.out, HB3.out⟩
      · obtain rfl : i = n := by omega
        have HTa := hide hTa
        have HTb := hide hTb
        have HB := hide hB
        clear hTa hTb hB
        obtain ⟨E0, hE0⟩ : ∃ E0, e0 = E0 := ⟨_, rfl⟩
        obtain ⟨S2, hS2⟩ : ∃ S2, rt F i = S2 := ⟨_, rfl⟩
        have HE0 := hide hE0
        have HS2 := hide hS2
        have HE1 := hide (fun W => eqH_same E0 W)
        have HE2 := hide (fun W => eqH_same S2 W)
        clear hE0 hS2
        have HN0 := hide (fun W => edge_any (parts_nil W) (fun j q h => by simp at h) (by show 0 ≤ _; omega))
        have HLn := hide (fun W => len_any (parts_nil W) (by show 0 ≤ _; omega) (by show 0 ≤ _; omega))
        go_wp2_with (first
          | (go_at_call 9; refine Calls.mono HLa.out ?_; rintro e W7 ⟨rfl, hb7⟩; have HB7 := hide (Go.Proofs.YtjobcffelbddcaaDoor.K.call HB6.out hb7); clear hb7)
          | (go_at_call 9; refine Calls.mono (HLn.out _) ?_; rintro e W1 ⟨rfl, hb1⟩; have HB1 := hide (Go.Proofs.YtjobcffelbddcaaDoor.K.call HB.out hb1); have HW1 : Hid (Below wr.heap.size wr W1) := hb1; clear hb1)
          | (go_at_call 11; refine Calls.mono (HN0.out _) ?_; rintro e W2 hE; obtain ⟨v2, rfl, hO2, hB2⟩ := hE; obtain ⟨a2, c2, rfl, _, _⟩ := hO2.form; have HB2 := hide (Go.Proofs.YtjobcffelbddcaaDoor.K.call HB1.out hB2); have HW2 := hide (Go.Proofs.YtjobcffelbddcaaDoor.K.call HW1.out hB2); have HRn : Hid (Calls Tryd.prog 13 #[.pointer none] W2 fun e w' => e = .returned (.agg (ab E0 32).toArray) ∧ Below W2.heap.size W2 w') := (by rw [← HE0.out]; exact rootT_any (L := []) (HT.out.keep HB2.out) (fun W _ => HN0.out W) (fun f h => by cases h) (by show 0 ≤ _; omega)); clear hO2 hB2)
          | (go_at_call 13; refine Calls.mono HRb.out ?_; rintro e W6 ⟨rfl, hb6⟩; have HB6 := hide (Go.Proofs.YtjobcffelbddcaaDoor.K.call HB5.out hb6); have HLa := hide (tr_len ((HTa.out.keep HW5.out).keep hb6) (by have := HN.out; omega)); clear hb6)
          | (go_at_call 13; refine Calls.mono HRa.out ?_; rintro e W5 ⟨rfl, hb5⟩; have HW5 := hide (Go.Proofs.YtjobcffelbddcaaDoor.K.call HW4.out hb5); have HB5 := hide (Go.Proofs.YtjobcffelbddcaaDoor.K.call HB.out HW5.out); have hr := tr_root (HT.out.keep HB5.out) (HTb.out.keep HW5.out) (by have := HN.out; omega); rw [HS2.out] at hr; unfold hv at hr; have HRb := hide hr; clear hb5 hr)
          | (go_at_call 13; refine Calls.mono HRn.out ?_; rintro e W3 ⟨rfl, hb3⟩; have HB3 := hide (Go.Proofs.YtjobcffelbddcaaDoor.K.call HB2.out hb3); have HW3 := hide (Go.Proofs.YtjobcffelbddcaaDoor.K.call HW2.out hb3); have hr := refRoot_any 0 (w := W3) (x := none) (c := 0) (F := fun _ _ => 0) ⟨fun _ _ => by omega, Or.inl rfl⟩ (Nat.le_refl _) (by unfold maxLen; omega) (by omega); rw [rt_zero, HE0.out] at hr; unfold hv at hr; have HRf := hide hr; clear hb3 hr)
          | (go_at_call 14; refine Calls.mono HRf.out ?_; rintro e W4 ⟨rfl, hb4⟩; have HB4 := hide (Go.Proofs.YtjobcffelbddcaaDoor.K.call HB3.out hb4); have HW4 := hide (Go.Proofs.YtjobcffelbddcaaDoor.K.call HW3.out hb4); have hr := tr_root (HT.out.keep HB4.out) (HTa.out.keep HW4.out) (by have := HN.out; omega); rw [HS2.out] at hr; unfold hv at hr; have HRa := hide hr; clear hb4 hr)
          | (refine wpList_eqH (by rfl) _ _ _ rfl _ _ true rfl rfl (HE1.out _) ?_; simp only [Act.put, List.setIfInBounds_toArray, List.set_cons_zero, List.set_cons_succ])
          | (refine wpList_eqH (by rfl) _ _ _ rfl _ _ true rfl rfl (HE2.out _) ?_; simp only [Act.put, List.setIfInBounds_toArray, List.set_cons_zero, List.set_cons_succ]))
        go_ret
        exact ⟨rfl, HB7.out⟩
  · have hq : (60 : Int) < (n : Int) := by omega
    clear hn
    go_enter Tryd.func6, Tryd.ntmps6
    go_upto_region 2 with (go_at_call 8; refine Calls.mono (awake_any HT.out) ?_; rintro e W1 ⟨rfl, hb⟩; have HB1 := hide hb; clear hb)
    go_wp2_with (go_at_call 8; refine Calls.mono (awake_any (HT.out.keep HB1.out)) ?_; rintro e W2 ⟨rfl, hb⟩; have HB2 := hide (Go.Proofs.YtjobcffelbddcaaDoor.K.call HB1.out hb); clear hb)
    go_ret
    exact ⟨rfl, HB2.out⟩
end Go.Proofs.YtjobcffelbddcaaDoor
