/- Layer 15: the law of none. -/
import Derived.Test.YtjgpopjpmfkfmaaL15C
namespace Go.Proofs.Ytjgpopjpmfkfmaa
open Go.RowKit Go.Maps
attribute [local go_sem ↓] Go.wp_at_zero Go.wp_at_succ

theorem below_set1 {w w1 : World} {g o : Nat} (hB : Below w.heap.size w w1) (hg : w.heap.size ≤ g) (v : Value) : Below w.heap.size w (w1.setCell ⟨g, o, none⟩ v) := hB.setCell (p := ⟨g, o, none⟩) hg v
def f123 (i : Nat) : Nat := if i = 0 then 1 else if i = 1 then 2 else 3
theorem ba_123 (w : World) : BA (w.alloc (.cells #[.int .u8 1, .int .u8 2, .int .u8 3] 5)) (some ⟨w.heap.size, 0, none⟩) 3 f123 :=
  ⟨fun i => by unfold f123; split; decide; split <;> decide, Or.inr ⟨_, _, rfl, ⟨fun i hi => by
    rw [cell_of_row _ _ _ _ _ _ (heap_alloc_new w _)]
    have hc : i = 0 ∨ i = 1 ∨ i = 2 := by omega
    rcases hc with rfl | rfl | rfl <;> rfl⟩⟩⟩
theorem fl_123 : fl f123 3 = [1, 2, 3] := by decide
set_option maxRecDepth 100000 in
set_option maxHeartbeats 8000000 in
theorem storeNil_any {a : Int} {z : Option Addr} {m c : Nat} {f : Nat → Nat} (w : World) (_ : BA w z m f) : Calls Try.prog 6 #[.int .i64 a, .slice z m c] w (OkT w) := by
  by_cases hm : 300 < m
  · have hm' : (300 : Int) < (m : Int) := by omega
    have HA := hide awake_n
    go_enter Try.func6, Try.ntmps6
    go_upto_region 2 with (go_at_call 8; refine Calls.mono (HA.out _) ?_; rintro e W1 ⟨rfl, hB1⟩; have HB1 := hide hB1; clear hB1)
    go_wp2_with (go_at_call 8; refine Calls.mono (HA.out _) ?_; rintro e W2 ⟨rfl, hB2⟩; have HB2 := hide hB2; clear hB2)
    go_ret
    exact ⟨rfl, HB1.out.trans (HB2.out.mono HB1.out.size)⟩
  · have hm' : ¬ ((300 : Int) < (m : Int)) := by omega
    go_enter Try.func6, Try.ntmps6
    go_upto_region 8 with (first
      | (go_at_call 8; refine Calls.mono (awake_n _) ?_; rintro e W1 ⟨rfl, hB1⟩; have HB1 := hide hB1; clear hB1)
      | (go_at_call 31; refine Calls.mono (entry_nil _ _) ?_; rintro e W1 ⟨rfl, rfl⟩)
      | (go_at_call 12; refine Calls.mono (open_nil _) ?_; rintro e W2 ⟨rfl, hB2⟩; have HB2 := hide hB2; clear hB2)
      | (go_at_call 15; refine Calls.mono (append_nil _ _) ?_; rintro e W2 ⟨rfl, rfl⟩)
      | (go_at_call 17; refine Calls.mono (commit_nil _) ?_; rintro e W2 ⟨rfl, rfl⟩)
      | (go_at_call 30; refine Calls.mono (len_nil _) ?_; rintro e W2 ⟨rfl, rfl⟩)
      | (go_at_call 29; refine Calls.mono (waits_nil _) ?_; rintro e W2 ⟨rfl, rfl⟩)
      | (go_at_call 27; refine Calls.mono (room_nil _) ?_; rintro e W2 ⟨rfl, rfl⟩))
    have HBw : Hid (Below w.heap.size w W2) := HB1.out.trans (HB2.out.mono HB1.out.size)
    go_upto_region 9 with (go_at_call 10; refine Calls.mono (new_any (n := 30) (by omega) _) ?_; rintro e W3 ⟨b, lb, mb, rfl, hD, h1, h2, h3, hB⟩; have HD := hide hD; have HB3 := hide hB; have HG := hide (And.intro h1 (And.intro h2 h3)); clear hD hB h1 h2 h3)
    have HB3w : Hid (Below w.heap.size w W3) := HBw.out.trans (HB3.out.mono HBw.out.size)
    have HFo := hide (fresh_open HD.out (by omega) (by omega))
    go_upto_region 10 with (go_at_call 12; refine Calls.mono HFo.out ?_; rintro e W4 ⟨t, s, rfl, hP, hf, hn, hk, hw, ho, hK⟩; have HP := hide hP; have HS := hide (And.intro hf (And.intro hn (And.intro hk (And.intro hw ho)))); have HK4 := hide hK; clear hP hf hn hk hw ho hK)
    have HX : Hid (∀ k, X3 b lb mb k = true → w.heap.size ≤ k) := fun k hk => by
      rcases X3_of.1 hk with e | e | e
      · rw [e]; exact Nat.le_trans HBw.out.size HG.out.1
      · rw [e]; exact Nat.le_trans HBw.out.size HG.out.2.1
      · rw [e]; exact Nat.le_trans HBw.out.size HG.out.2.2
    have HB4 : Hid (Below w.heap.size w W4) := kp_below HB3w.out HK4.out HX.out
    have HP5 := hide (HP.out.keep (Go.Proofs.Ytjgpopjpmfkfmaa.K.alloc (Below.refl _ W4) (.cells #[.int .u8 1, .int .u8 2, .int .u8 3] 5)))
    have HAf : Hid (s.apE [1, 2, 3] = 0 ∧ (s.ap [1, 2, 3]).D.free ∧ (s.ap [1, 2, 3]).D.n = 30 ∧ (s.ap [1, 2, 3]).K = [] ∧ (s.ap [1, 2, 3]).W = [[1, 2, 3]] ∧ (s.ap [1, 2, 3]).o = false) := by
      obtain ⟨q1, q2, q3, q4, q5⟩ := HS.out
      obtain ⟨g1, g2, g3, g4, g5, g6⟩ := ap_free (s := s) (l := [1, 2, 3]) q1 q5 (fun x hx => by simp at hx; omega) (by decide) (by rw [q3, q4, q2]; decide)
      exact ⟨g1, g2, g3.trans q2, g4.trans q3, by rw [g5, q4]; rfl, g6⟩
    have HAp : Hid (Calls Try.prog 15 #[pp t, .slice (some ⟨W4.heap.size, 0, none⟩) 3 3] (W4.alloc (.cells #[.int .u8 1, .int .u8 2, .int .u8 3] 5)) fun e w' => e = .returned (.int .i64 0) ∧ PW w' b lb mb t (grow (grow (X3 b lb mb) W3 W4) (W4.alloc (.cells #[.int .u8 1, .int .u8 2, .int .u8 3] 5)) w') (X3 b lb mb) (s.ap [1, 2, 3]) ∧ Kp (grow (X3 b lb mb) W3 W4) (W4.alloc (.cells #[.int .u8 1, .int .u8 2, .int .u8 3] 5)) w') := by
      have h5 := ap_pw (c := 3) HP5.out (ba_123 W4) (fun _ p hp => by cases hp; exact HP.out.dsk.out (Nat.le_refl _))
      rw [fl_123] at h5
      unfold ApW at h5
      rw [HAf.out.1] at h5
      exact h5
    obtain ⟨s1, hs1⟩ : ∃ s1, s1 = s.ap [1, 2, 3] := ⟨_, rfl⟩
    rw [← hs1] at HAp HAf
    clear hs1
    have HCf := hide (co_free HAf.out.2.1 HAf.out.2.2.2.2.2 (by rw [HAf.out.2.2.1]; decide))
    have HKe : Hid (s1.co.K[0]? = some [1, 2, 3]) := by show s1.co.K[0]? = some [1, 2, 3]; rw [HCf.out.2.2.2.1, HAf.out.2.2.2.1, HAf.out.2.2.2.2.1]; rfl
    have HCo : Hid (∀ (W : World) (O : Nat → Bool), PW W b lb mb t O (X3 b lb mb) s1 → Calls Try.prog 17 #[pp t] W fun e w' => e = .returned (.int .i64 0) ∧ PW w' b lb mb t (grow O W w') (X3 b lb mb) s1.co ∧ Kp O W w') := fun W O hW => by
      have h5 := co_pw hW
      unfold ApW at h5
      rw [HCf.out.1] at h5
      exact h5
    have HG2 : Hid (∀ k, grow (X3 b lb mb) W3 W4 k = true → w.heap.size ≤ k) := fun k hk => by
      rcases grow_of.1 hk with e | e
      · exact HX.out k e
      · exact Nat.le_trans HB3w.out.size e.1
    go_upto_region 12 with (first
      | (go_at_call 15; refine Calls.mono HAp.out ?_; rintro e W5 ⟨rfl, hP5, hK5⟩; have HK5 := hide hK5; have HCo5 := hide (HCo.out _ _ hP5); clear hP5 hK5)
      | (go_at_call 17; refine Calls.mono HCo5.out ?_; rintro e W6 ⟨rfl, hP6, hK6⟩; have HP6 := hide hP6; have HK6 := hide hK6; clear hP6 hK6))
    have HB5 : Hid (Below w.heap.size w W5) := kp_below (HB4.out.trans ((Go.Proofs.Ytjgpopjpmfkfmaa.K.alloc (Below.refl _ W4) _).mono HB4.out.size)) HK5.out HG2.out
    have HB6 : Hid (Below w.heap.size w W6) := kp_below HB5.out HK6.out (fun k hk => by
      rcases grow_of.1 hk with e | e
      · exact HG2.out k e
      · exact Nat.le_trans HB4.out.size (Nat.le_trans (by simp) e.1))
    have HE6 := hide (entry_w HP6.out HKe.out (by decide))
    go_upto_region 13 with (go_at_call 31; refine Calls.mono HE6.out ?_; rintro e W7 ⟨g7, c7, f7, rfl, hr7, hf7, hg7, hl7, hB7⟩; have HR7 := hide (And.intro hr7 (And.intro hg7 (And.intro hl7 hB7))); have hc7 := hr7.c 0 (by decide); have hz7 := hr7.z 0 (by decide); clear hr7 hf7 hg7 hl7 hB7)
    go_upto_region 14 with fail
    have HP8 : Hid (PW (W7.setCell ⟨g7, 0, none⟩ (.int .u8 77)) b lb mb t _ (X3 b lb mb) s1.co) := HP6.out.keep (below_set1 HR7.out.2.2.2 HR7.out.2.1 _)
    have HE8 := hide (entry_pw HP8.out HKe.out)
    go_upto_region 15 with (go_at_call 31; refine Calls.mono HE8.out ?_; rintro e W8 ⟨z8, c8, f8, rfl, hb8, hf8, _, hB8⟩; have HR8 := hide (And.intro hb8 (And.intro hf8 hB8)); clear hb8 hf8 hB8)
    have HSa : Hid (Calls Try.prog 32 #[.slice z8 3 c8, .slice (some ⟨W8.heap.size, 0, none⟩) 3 3] (W8.alloc (.cells #[.int .u8 1, .int .u8 2, .int .u8 3] 5)) fun e w' => e = .returned (.bool true) ∧ Below (W8.alloc (.cells #[.int .u8 1, .int .u8 2, .int .u8 3] 5)).heap.size (W8.alloc (.cells #[.int .u8 1, .int .u8 2, .int .u8 3] 5)) w') := by
      have h5 := same_l (c := c8) (c2 := 3) (HR8.out.1.keep (Go.Proofs.Ytjgpopjpmfkfmaa.K.alloc (Below.refl _ W8) _)) (ba_123 W8) (by decide) HR8.out.2.1 fl_123
      rw [decide_eq_true rfl] at h5
      exact h5
    go_wp2_with (go_at_call 32; refine Calls.mono HSa.out ?_; rintro e W9 ⟨rfl, hB9⟩; have HB9 := hide hB9; clear hB9)
    go_ret
    have hB8w : Below w.heap.size w W8 := (HB6.out.trans ((below_set1 HR7.out.2.2.2 HR7.out.2.1 _).mono HB6.out.size)).trans (HR8.out.2.2.mono (by have := HB6.out.size; have := HR7.out.2.2.2.size; simp; omega))
    exact ⟨rfl, (hB8w.trans ((Go.Proofs.Ytjgpopjpmfkfmaa.K.alloc (Below.refl _ W8) _).mono hB8w.size)).trans (HB9.out.mono (by have := hB8w.size; simp; omega))⟩
end Go.Proofs.Ytjgpopjpmfkfmaa
