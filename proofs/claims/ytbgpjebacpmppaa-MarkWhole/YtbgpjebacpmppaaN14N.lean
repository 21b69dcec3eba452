/- Layer 14: what a program that does nothing does not answer; the law of what is refused. -/
import Derived.Test.YtbgpjebacpmppaaN14S
namespace Go.Proofs.Ytbgpjebacpmppaa
open Go.RowKit Go.Maps
attribute [local go_sem ↓] Go.wp_at_zero Go.wp_at_succ

theorem sv_ld {D : DM} (h : D.free) {a : Nat} (ha : a + 2 < D.n) {v : List Nat} (hv : sec v) : (sv D a v 3).1.ldE (a : Int) = 0 ∧ (sv D a v 3).1.ldB (a : Int) = v := by
  obtain ⟨_, h1, h2, h3⟩ := sv_free h ha hv 3 (by omega)
  obtain ⟨g1, g2⟩ := ld_free h1 (a := a) (by rw [h2]; exact ha)
  refine ⟨g1, ?_⟩
  rw [g2, h3, h3, h3, if_pos (by omega), if_pos (by omega), if_pos (by omega)]
  exact if_pos rfl
theorem made_ba (w : World) (l : List Nat) (hl : ∀ x ∈ l, x < 256) : BA (w.alloc (.cells (cells8 l).toArray 5)) (some ⟨w.heap.size, 0, none⟩) l.length (fun i => l.getD i 0) :=
  ba_range (range_new w (cells8 l) 5) hl
def b123 (i : Nat) : Nat := [1, 2, 3].getD i 0
theorem b123_lt (i : Nat) : b123 i < 256 := getD_lt (by decide) i
set_option maxRecDepth 100000 in
set_option maxHeartbeats 8000000 in
theorem awake_any (w : World) : Calls Try.prog 7 #[] w fun e w' => e = .returned (.bool true) ∧ Below w.heap.size w w' := by
  go_enter Try.func7, Try.ntmps7
  go_upto_region 2 with (go_at_call 8; refine Calls.mono (new_any (n := 3) (by omega) _) ?_; rintro e W1 ⟨b, lb, mb, rfl, hD, h1, h2, h3, hB⟩; have HR := hide (FzR.mk hD h1 h2 h3 hB); clear hD h1 h2 h3 hB)
  have HA : Hid (BA (W1.alloc (.cells #[.int .u8 1, .int .u8 2, .int .u8 3] 5)) (some ⟨W1.heap.size, 0, none⟩) 3 b123) := made_ba W1 [1, 2, 3] (by decide)
  have HR1 := hide (HR.out.grow (K.alloc (Below.refl _ _) (.cells #[.int .u8 1, .int .u8 2, .int .u8 3] 5)))
  obtain ⟨s1, s2⟩ := save_free (new_free 3) (a := 0) (by show 0 + 2 < 3; omega) b123_lt (m := 3) (by omega)
  have HC := hide (save_any (c := 3) HR1.out.d (a := 0) ⟨by omega, by omega⟩ HA.out)
  obtain ⟨l1, l2⟩ := sv_ld (new_free 3) (a := 0) (by show 0 + 2 < 3; omega) (pd_sec b123_lt 3)
  replace s1 : (DM.new 3).saveE 0 b123 3 = 0 := s1
  replace s2 : (DM.new 3).saveD 0 b123 3 = (sv (DM.new 3) 0 (pd b123 3) 3).1 := s2
  replace l1 : (sv (DM.new 3) 0 (pd b123 3) 3).1.ldE 0 = 0 := l1
  replace l2 : (sv (DM.new 3) 0 (pd b123 3) 3).1.ldB 0 = pd b123 3 := l2
  rw [s1, s2] at HC
  have HL := hide (And.intro l1 l2)
  have H3 : Hid ((cells8 (pd b123 3))[2]? = some (.int .u8 3)) := by show _ = _; rfl
  clear s1 s2 l1 l2
  go_upto_region 3 with (go_at_call 9; refine Calls.mono HC.out ?_; rintro e W2 ⟨rfl, hD2, hK2⟩; have HR2 := hide (HR1.out.next hD2 hK2); clear hD2 hK2)
  have HQ := hide (load_got HR2.out.d (a := 0) ⟨by omega, by omega⟩ HL.out.1)
  rw [HL.out.2] at HQ
  go_upto_region 4 with (go_at_call 12; refine Calls.mono HQ.out ?_; rintro e W3 ⟨g, rfl, hG, hB3⟩; have hc := hG.r 2 _ H3.out; rw [Nat.zero_add] at hc; have HR3 := hide (HR2.out.grow hB3); clear hG hB3)
  go_wp2_with fail
  go_ret
  exact ⟨rfl, HR3.out.k⟩
/-- Sixty-five noughts that are made. -/
def o65 : Obj := .cells (madeCells #[.int .u8 0] 65) 5
theorem run_mk65 (w : World) : (Instr.makeSlice 22 (.int .i64 65) (.int .i64 65)).run Try.prog w = .ok (.slice (some ⟨w.heap.size, 0, none⟩) 65 65) (w.alloc o65) := by
  obtain ⟨i0, hi, hz0, hz1, hz2⟩ := info_parts info8
  have hr := run_make (P := Try.prog) w 22 5 i0 (.int .u8 0) Try.underlying22 hi hz0 .i64 .i64 65 65 (by omega) (by omega) (by rw [hz2]; omega) (by omega)
  rw [hz1] at hr
  exact hr
theorem own65 (w : World) {base : Nat} (hb : base ≤ w.heap.size) : (w.alloc o65).ownsRow base 5 1 (.slice (some ⟨w.heap.size, 0, none⟩) 65 65) 65 (cells8 (List.replicate 65 0)) := by
  refine ⟨?_, .inr ⟨w.heap.size, 65, madeCells #[.int .u8 0] 65, rfl, hb, heap_alloc_new w _, Nat.le_refl _, by decide, by simp [madeCells], ?_⟩⟩
  · rfl
  · apply List.ext_getElem?
    intro j
    rw [Nat.mul_one, List.getElem?_take]
    by_cases hj : j < 65
    · have hm : (madeCells #[.int .u8 0] 65)[j]? = some (.int .u8 0) := by simp [madeCells, hj, Nat.mod_one]
      rw [if_pos hj, Array.getElem?_toList, hm, cells8_at _ j (by rw [List.length_replicate]; exact hj), List.getD_eq_getElem?_getD, List.getElem?_replicate, if_pos hj]
      rfl
    · rw [if_neg hj, List.getElem?_eq_none (by rw [cells8_len, List.length_replicate]; omega)]
theorem new3_read {i : Int} (h : (DM.new 3).rdE i = 0) : 0 ≤ i ∧ i < 3 := by
  unfold DM.rdE at h
  rw [if_neg (by show ¬ false = true; decide)] at h
  split at h
  · rename_i h2; exact h2
  · cases h
theorem new3_mend {a : Int} : ((DM.new 3).mendE a = 0) ↔ a = 0 := by
  constructor
  · intro h
    by_cases he : (DM.new 3).ldE a = 0
    · obtain ⟨h0, _, h2⟩ := ld_rd he
      have := new3_read h0
      have := new3_read h2
      omega
    · exact absurd ((if_neg he).symm.trans h) he
  · rintro rfl
    have hc := new_calm 3
    obtain ⟨l1, l2⟩ := ld_calm hc (a := 0) (by show 0 + 2 < 3; omega)
    replace l1 : (DM.new 3).ldE 0 = 0 := l1
    replace l2 : (DM.new 3).ldB 0 = z64 := l2.trans rfl
    have e : (DM.new 3).mendE 0 = (md2 (DM.new 3) 0 ((DM.new 3).three 0) z64 3).2 := (if_pos l1).trans (by rw [l2])
    rw [e]
    rcases md2_steps hc (a := 0) (by show 0 + 2 < 3; omega) (B := (DM.new 3).three 0) (fun j hj => by
      obtain ⟨_, r2⟩ := rd_calm hc (i := j) (by show j < 3; exact hj)
      have : (DM.new 3).three 0 j = (DM.new 3).rdB (j : Int) := by unfold DM.three; rw [Int.zero_add]
      rw [this, r2]
      rfl) z64_sec 3 (by omega) with ⟨h, _⟩ | ⟨_, q, _, h, _⟩
    · exact h
    · exact absurd rfl h
theorem save_long {w : World} {b : Nat} (a : Int) {z : Option Addr} {m c : Nat} (hm : 64 < m) : Calls Try.prog 9 #[pp b, .int .i64 a, .slice z m c] w fun e w' => e = .returned (.int .i64 1) ∧ w' = w := by
  have hm' : (64 : Int) < (m : Int) := by omega
  go_enter Try.func9, Try.ntmps9
  go_wp2_with fail
  go_ret
  exact ⟨rfl, rfl⟩
set_option maxRecDepth 100000 in
set_option maxHeartbeats 8000000 in
theorem markNone_any {a : Int} {z : Option Addr} {m c : Nat} {f : Nat → Nat} (w : World) (_ : BA w z m f) : Calls Try.prog 5 #[.int .i64 a, .slice z m c] w (OkT w) := by
  have hmk := run_mk65
  by_cases h0 : a < -1000
  · go_enter Try.func5, Try.ntmps5
    go_wp2_with (go_at_call 7; refine Calls.mono (awake_any _) ?_; rintro e W4 ⟨rfl, hB4⟩)
    go_ret
    exact ⟨rfl, hB4⟩
  have h0' : decide (a < -1000) = false := decide_eq_false h0
  by_cases h1 : 1000 < a
  · go_enter Try.func5, Try.ntmps5
    go_wp2_with (go_at_call 7; refine Calls.mono (awake_any _) ?_; rintro e W4 ⟨rfl, hB4⟩)
    go_ret
    exact ⟨rfl, hB4⟩
  have h1' : decide (1000 < a) = false := decide_eq_false h1
  have HA : Hid (few9 a) := ⟨by omega, by omega⟩
  have HM := hide (new3_mend (a := a))
  clear h0 h1
  go_enter Try.func5, Try.ntmps5
  go_upto_region 5 with (first
    | (go_at_call 12; refine Calls.mono (load_nil _ _) ?_; rintro e W1 ⟨rfl, hB1⟩; have HB1 := hide hB1; clear hB1)
    | (go_at_call 8; refine Calls.mono (new_any (n := 3) (by omega) _) ?_; rintro e W2 ⟨b, lb, mb, rfl, hD, h1, h2, h3, hB⟩; have HR := hide (FzR.mk hD h1 h2 h3 hB); clear hD h1 h2 h3 hB))
  have HO : Hid (((W2.alloc o65).alloc (.cells #[.int .u8 1] 5)).ownsRow W2.heap.size 5 1 (.slice (some ⟨W2.heap.size, 0, none⟩) 65 65) 65 (cells8 (List.replicate 65 0))) := own_keep (own65 W2 (Nat.le_refl _)) (K.alloc (Below.refl _ _) _)
  have H1 : Hid (BA ((W2.alloc o65).alloc (.cells #[.int .u8 1] 5)) (some ⟨W2.heap.size + 1, 0, none⟩) 1 (fun _ => 1)) := by
    have := one_made (W2.alloc o65) 1 (by omega)
    rwa [show (W2.alloc o65).heap.size = W2.heap.size + 1 by simp] at this
  have HB2 : Hid (Below W2.heap.size W2 ((W2.alloc o65).alloc (.cells #[.int .u8 1] 5))) := K.alloc (K.alloc (Below.refl _ W2) _) _
  go_upto_region 6 with (first
    | (refine wpList_app rfl _ _ rfl rfl HO.out rfl H1.out (by omega) HB2.out.size ?_; intro v1 W3 hO3 hg3; obtain ⟨p, cap, rfl, _, _⟩ := own_max hO3; have HR3 := hide (HR.out.grow (below_append HB2.out HO.out hg3)); clear hO3 hg3)
    | (go_at_call 9; refine Calls.mono (save_long _ (by omega)) ?_; rintro e W4 ⟨rfl, rfl⟩))
  clear HO H1 HB2
  by_cases ha : a = 0
  · have HE := hide (HM.out.2 ha)
    have k1 : (a == 0) = true := by simp [ha]
    clear ha
    go_wp2_with (first
      | (go_at_call 16; refine Calls.mono (mend_any HR5.out.d HA.out) ?_; rw [HE.out]; rintro e W7 ⟨rfl, hD7, hK7⟩; have HR7 := hide (HR5.out.next hD7 hK7); clear hD7 hK7)
      | (go_at_call 16; refine Calls.mono (mend_nil _ _) ?_; rintro e W6 ⟨rfl, hB6⟩; have HR5 := hide (HR4.out.grow hB6); clear hB6)
      | (go_at_call 9; refine Calls.mono (save_nil _ _ _ _ _) ?_; rintro e W6 ⟨rfl, hB6⟩; replace HR4 := hide (HR4.out.grow hB6); clear hB6)
      | (go_at_call 7; refine Calls.mono (awake_any _) ?_; rintro e W5 ⟨rfl, hB5⟩; have HR4 := hide (HR3.out.grow hB5); clear hB5))
    go_ret
    exact ⟨rfl, K.call HB1.out HR7.out.k⟩
  · have k1 : (a == 0) = false := by simp [ha]
    have k2 : ((DM.new 3).mendE a == 0) = false := by simp [HM.out, ha]
    clear ha
    go_wp2_with (first
      | (go_at_call 16; refine Calls.mono (mend_any HR5.out.d HA.out) ?_; rintro e W7 ⟨rfl, hD7, hK7⟩; have HR7 := hide (HR5.out.next hD7 hK7); clear hD7 hK7)
      | (go_at_call 16; refine Calls.mono (mend_nil _ _) ?_; rintro e W6 ⟨rfl, hB6⟩; have HR5 := hide (HR4.out.grow hB6); clear hB6)
      | (go_at_call 9; refine Calls.mono (save_nil _ _ _ _ _) ?_; rintro e W6 ⟨rfl, hB6⟩; replace HR4 := hide (HR4.out.grow hB6); clear hB6)
      | (go_at_call 7; refine Calls.mono (awake_any _) ?_; rintro e W5 ⟨rfl, hB5⟩; have HR4 := hide (HR3.out.grow hB5); clear hB5))
    go_ret
    exact ⟨rfl, K.call HB1.out HR7.out.k⟩
end Go.Proofs.Ytbgpjebacpmppaa
