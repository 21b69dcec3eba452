/- Layer 15, the laws: a new disk is opened; awake; what a store tells. -/
import Derived.Test.YtjgpopjpmfkfmaaP15M
import Derived.Lib.SlBytesConst
namespace Go.Proofs.Ytjgpopjpmfkfmaa
open Go.RowKit Go.Maps
attribute [local go_sem ↓] Go.wp_at_zero Go.wp_at_succ

theorem mkv_nil : mkv [] = z64 := by decide
theorem new_open {n : Nat} (h3 : 3 ≤ n) (h4 : n ≤ 4096) : (DM.new n).mendE 0 = 0 ∧ ((DM.new n).mendD 0).free ∧ ((DM.new n).mendD 0).n = n ∧ (DM.new n).opE = 0 ∧ (DM.new n).opL = [] ∧ (DM.new n).opO = some [] := by
  have hf := new_free n
  obtain ⟨m1, m2, m3⟩ := mend_free hf (DM.new_ok h4) (show 2 < n by omega)
  have hl := (ld_free hf (a := 0) (show 2 < n by omega)).2
  have hv : (DM.new n).ldB 0 = z64 := hl
  have hb : ((DM.new n).mendD 0).ldB 0 = z64 := (mend_ok (a := 0) m1).2.2.2.2.2.2.trans hv
  have ho : (DM.new n).opO = some [] := by
    unfold DM.opO
    rw [hb, ← mkv_nil]
    exact opn_lays trivial (show 0 + 3 ≤ n by omega) h4
  refine ⟨m1, m2, m3, ?_, ?_, ho⟩
  · unfold DM.opE
    rw [if_pos m1, ho]
    rfl
  · unfold DM.opL
    rw [ho]
    rfl
theorem ap_free {s : SM} (hf : s.D.free) (ho : s.o = false) {l : List Nat} (hl : ∀ x ∈ l, x < 256) (hm : l.length ≤ 200) (hn : 3 + tks s.K + tks s.W + tk l.length ≤ s.D.n) : s.apE l = 0 ∧ (s.ap l).D.free ∧ (s.ap l).D.n = s.D.n ∧ (s.ap l).K = s.K ∧ (s.ap l).W = s.W ++ [l] ∧ (s.ap l).o = false := by
  have ho' : ¬ (s.o = true) := by rw [ho]; decide
  obtain ⟨g1, g2, g3⟩ := apw_free hf (p := 3 + tks s.K + tks s.W) (f := fun i => l.getD i 0) (fun i => getD_lt hl i) hm (tk l.length) (by omega)
  have e1 : s.ap l = ⟨(apx s l).1, s.K, apW (apx s l).2 s.W l, cmO (apx s l).2⟩ := (if_neg ho').trans ((if_neg (by omega)).trans (if_neg (by omega)))
  have e2 : s.apE l = (apx s l).2 := (if_neg ho').trans ((if_neg (by omega)).trans (if_neg (by omega)))
  have e3 : (apx s l).2 = 0 := g1
  rw [e1, e2]
  refine ⟨e3, g2, g3, rfl, ?_, ?_⟩
  · show apW (apx s l).2 s.W l = _
    exact if_pos e3
  · show cmO (apx s l).2 = false
    rw [e3]
    decide
theorem co_free {s : SM} (hf : s.D.free) (ho : s.o = false) (hn : 2 < s.D.n) : s.coE = 0 ∧ s.co.D.free ∧ s.co.D.n = s.D.n ∧ s.co.K = s.K ++ s.W ∧ s.co.W = [] ∧ s.co.o = false := by
  have ho' : ¬ (s.o = true) := by rw [ho]; decide
  by_cases hw : s.W = []
  · have e1 : s.co = s := (if_neg ho').trans (if_pos hw)
    have e2 : s.coE = 0 := (if_neg ho').trans (if_pos hw)
    rw [e1, e2, hw, List.append_nil]
    exact ⟨rfl, hf, rfl, rfl, rfl, ho⟩
  · obtain ⟨g1, g2, g3⟩ := cm_free hf hn (s.K ++ s.W)
    have e1 : s.co = ⟨(cm s.D (s.K ++ s.W)).1, cmK (cm s.D (s.K ++ s.W)).2 s.K s.W, cmW (cm s.D (s.K ++ s.W)).2 s.W, cmO (cm s.D (s.K ++ s.W)).2⟩ := (if_neg ho').trans (if_neg hw)
    have e2 : s.coE = (cm s.D (s.K ++ s.W)).2 := (if_neg ho').trans (if_neg hw)
    rw [e1, e2]
    refine ⟨g1, g2, g3, ?_, ?_, ?_⟩
    · exact if_pos g1
    · exact if_pos g1
    · show cmO _ = false
      rw [g1]
      decide
theorem kp_below {X : Nat → Bool} {w w1 w2 : World} (hB : Below w.heap.size w w1) (hK : Kp X w1 w2) (hX : ∀ k, X k = true → w.heap.size ≤ k) : Below w.heap.size w w2 :=
  ⟨hK.os.trans hB.os, hK.tape.trans hB.tape, hK.output.trans hB.output, Nat.le_trans hB.size hK.size, fun k hk => (hK.block k (Nat.lt_of_lt_of_le hk hB.size) (by
    cases hx : X k with
    | false => rfl
    | true => have := hX k hx; omega)).trans (hB.block k hk)⟩
/-- The blocks of a disk are there. -/
theorem Dsk.xl {w : World} {b lb mb : Nat} {D : DM} (h : Dsk w b lb mb D) : ∀ g, X3 b lb mb g = true → g < w.heap.size := fun k hk => by
  rcases X3_of.1 hk with rfl | rfl | rfl
  · exact h.bl
  · exact h.ll
  · exact h.mp.lt
/-- A new disk that is opened. -/
def FrP (w : World) (b lb mb : Nat) (n : Nat) (e : Ending) (w' : World) : Prop := ∃ t s, e = .returned (.tuple #[pp t, .int .i64 0]) ∧ PW w' b lb mb t (grow (X3 b lb mb) w w') (X3 b lb mb) s ∧ s.D.free ∧ s.D.n = n ∧ s.K = [] ∧ s.W = [] ∧ s.o = false ∧ Kp (X3 b lb mb) w w'
theorem fresh_open {w : World} {b lb mb n : Nat} (h : Dsk w b lb mb (.new n)) (h3 : 3 ≤ n) (h4 : n ≤ 4096) : Calls Try.prog 12 #[pp b] w (FrP w b lb mb n) := by
  obtain ⟨_, m2, m3, m4, m5, _⟩ := new_open h3 h4
  refine Calls.mono (open_pw (Y := X3 b lb mb) h (fun _ hg => hg) h.xl) ?_
  rintro e w' ⟨W, h1, h2, h5, ⟨_, t, rfl, h6, _⟩ | ⟨hne, _⟩⟩
  · exact ⟨t, _, rfl, h6, m2, m3, m5, rfl, rfl, h2.trans (Kp.of h5)⟩
  · exact absurd m4 hne
theorem ba_a (w : World) : BA (w.alloc (.cells #[.int .u8 97] 5 (1, 2))) (some ⟨w.heap.size, 0, none⟩) 1 (fun _ => 97) :=
  ⟨fun _ => by decide, Or.inr ⟨_, _, rfl, ⟨fun i hi => by
    obtain rfl : i = 0 := by omega
    rw [cell_of_row _ _ _ _ _ _ (heap_alloc_new w _)]; rfl⟩⟩⟩
set_option maxRecDepth 100000 in
set_option maxHeartbeats 4000000 in
theorem awake_n (w : World) : Calls Try.prog 8 #[] w fun e w' => e = .returned (.bool true) ∧ Below w.heap.size w w' := by
  go_enter Try.func8, Try.ntmps8
  go_upto_region 2 with (go_at_call 10; refine Calls.mono (new_any (n := 9) (by omega) _) ?_; rintro e W1 ⟨b, lb, mb, rfl, hD, h1, h2, h3, hB⟩; have HD := hide hD; have HB1 := hide hB; have HG := hide (And.intro h1 (And.intro h2 h3)); clear hD hB h1 h2 h3)
  have HFo := hide (fresh_open HD.out (by omega) (by omega))
  go_upto_region 3 with (go_at_call 12; refine Calls.mono HFo.out ?_; rintro e W2 ⟨t, s, rfl, hP, hf, hn, hk, hw, ho, hK⟩; have HP := hide hP; have HS := hide (And.intro hf (And.intro hn (And.intro hk (And.intro hw ho)))); have HK2 := hide hK; clear hP hf hn hk hw ho hK)
  have HX : Hid (∀ k, X3 b lb mb k = true → w.heap.size ≤ k) := fun k hk => by
    rcases X3_of.1 hk with e | e | e
    · rw [e]; exact HG.out.1
    · rw [e]; exact HG.out.2.1
    · rw [e]; exact HG.out.2.2
  have HB2 : Hid (Below w.heap.size w W2) := kp_below HB1.out HK2.out HX.out
  have hcv : (convert 38 38 (.slice (some ⟨W2.heap.size, 0, none⟩) 1 1)).run Try.prog (W2.alloc (.cells #[.int .u8 97] 5)) = .ok (.slice (some ⟨W2.heap.size, 0, none⟩) 1 1) (W2.alloc (.cells #[.int .u8 97] 5 (1, 2))) := Lib.run_convert_bytes_const W2 38 5 #[.int .u8 97] 1 1 Try.underlying38 Try.underlying5
  have HP3 := hide (HP.out.keep (Go.Proofs.Ytjgpopjpmfkfmaa.K.alloc (Below.refl _ W2) (.cells #[.int .u8 97] 5 (1, 2))))
  have HAp : Hid (Calls Try.prog 15 #[pp t, .slice (some ⟨W2.heap.size, 0, none⟩) 1 1] (W2.alloc (.cells #[.int .u8 97] 5 (1, 2))) fun e w' => e = .returned (.int .i64 0) ∧ PW w' b lb mb t (grow (grow (X3 b lb mb) W1 W2) (W2.alloc (.cells #[.int .u8 97] 5 (1, 2))) w') (X3 b lb mb) (s.ap [97]) ∧ Kp (grow (X3 b lb mb) W1 W2) (W2.alloc (.cells #[.int .u8 97] 5 (1, 2))) w') := by
    have h5 := ap_pw (c := 1) HP3.out (ba_a W2) (fun _ p hp => by cases hp; exact HP.out.dsk.out (Nat.le_refl _))
    obtain ⟨q1, q2, q3, q4, q5⟩ := HS.out
    have h6 := (ap_free (s := s) (l := [97]) q1 q5 (fun x hx => by simp at hx; omega) (by decide) (by rw [q3, q4, q2]; decide)).1
    rw [show fl (fun _ => 97) 1 = [97] from rfl] at h5
    unfold ApW at h5
    rw [h6] at h5
    exact h5
  have HAf : Hid ((s.ap [97]).D.free ∧ (s.ap [97]).o = false ∧ (s.ap [97]).K = [] ∧ (s.ap [97]).W = [[97]] ∧ (s.ap [97]).D.n = 9) := by
    obtain ⟨q1, q2, q3, q4, q5⟩ := HS.out
    obtain ⟨_, g2, g3, g4, g5, g6⟩ := ap_free (s := s) (l := [97]) q1 q5 (fun x hx => by simp at hx; omega) (by decide) (by rw [q3, q4, q2]; decide)
    exact ⟨g2, g6, g4.trans q3, by rw [g5, q4]; rfl, g3.trans q2⟩
  obtain ⟨s1, hs1⟩ : ∃ s1, s1 = s.ap [97] := ⟨_, rfl⟩
  rw [← hs1] at HAp HAf
  clear hs1
  have HCf := hide (co_free HAf.out.1 HAf.out.2.1 (by rw [HAf.out.2.2.2.2]; decide))
  have HLn : Hid (s1.co.K.length = 1) := by show s1.co.K.length = 1; rw [HCf.out.2.2.2.1, HAf.out.2.2.1, HAf.out.2.2.2.1]; rfl
  have HCo : Hid (∀ (W : World) (O : Nat → Bool), PW W b lb mb t O (X3 b lb mb) s1 → Calls Try.prog 17 #[pp t] W fun e w' => e = .returned (.int .i64 0) ∧ PW w' b lb mb t (grow O W w') (X3 b lb mb) s1.co ∧ Kp O W w') := fun W O hW => by
    have h5 := co_pw hW
    unfold ApW at h5
    rw [HCf.out.1] at h5
    exact h5
  have HLe : Hid (∀ (W : World) (O : Nat → Bool), PW W b lb mb t O (X3 b lb mb) s1.co → Calls Try.prog 30 #[pp t] W fun e w' => e = .returned (.int .i64 1) ∧ w' = W) := fun W O hW => by
    have h5 := len_pw hW
    rw [HLn.out] at h5
    exact h5
  have HG2 : Hid (∀ k, grow (X3 b lb mb) W1 W2 k = true → w.heap.size ≤ k) := fun k hk => by
    rcases grow_of.1 hk with e | e
    · exact HX.out k e
    · exact Nat.le_trans HB1.out.size e.1
  go_wp2_with (first
    | (go_at_call 15; refine Calls.mono HAp.out ?_; rintro e W3 ⟨rfl, hP3, hK3⟩; have HP4 := hide hP3; have HK3 := hide hK3; have HCo3 := hide (HCo.out _ _ hP3); clear hP3 hK3)
    | (go_at_call 17; refine Calls.mono HCo3.out ?_; rintro e W4 ⟨rfl, hP5, hK5⟩; have HLe4 := hide (HLe.out _ _ hP5); have HK5 := hide hK5; clear hP5 hK5)
    | (go_at_call 30; refine Calls.mono HLe4.out ?_; rintro e W4 ⟨rfl, rfl⟩))
  go_ret
  have hB3 : Below w.heap.size w W3 := kp_below (HB2.out.trans ((Go.Proofs.Ytjgpopjpmfkfmaa.K.alloc (Below.refl _ W2) _).mono HB2.out.size)) HK3.out HG2.out
  exact ⟨rfl, kp_below hB3 HK5.out (fun k hk => by
    rcases grow_of.1 hk with e | e
    · exact HG2.out k e
    · exact Nat.le_trans HB2.out.size (Nat.le_trans (by simp) e.1))⟩
end Go.Proofs.Ytjgpopjpmfkfmaa
