/- What the document's own integer of layer 10 answers. -/
import Derived.Test.YtlpjdhoboebbfaaDoorD10Int
import Derived.Test.YtlpjdhoboebbfaaDoorVBytes
import Derived.Test.YtlpjdhoboebbfaaDoorKCat
namespace Go.Proofs.YtlpjdhoboebbfaaDoor
open Go.RowKit
attribute [local go_sem ↓] Go.wp_at_zero Go.wp_at_succ

theorem refPutBig_own (a : Int) (w : World) :
    Calls Tryd.prog 30 #[.agg #[.int .u64 (L 0 a), .int .u64 (L 1 a), .int .u64 (L 2 a), .int .u64 (L 3 a)]] w fun e w' => ∃ g cap, e = .returned (.slice (some ⟨g, 0, none⟩) 32 cap) ∧ 32 ≤ cap ∧ Row8 w' g 32 (fun i => Y (31 - i) a) ∧ Below w.heap.size w w' := by
  go_enter Tryd.func30, Tryd.ntmps30
  go_wp2_with fail
  with_reducible refine Calls.mono (refPutLittle_any a _) ?_
  rintro e w1 ⟨g, cap, rfl, hR, hb1⟩
  have hB1 : Below w.heap.size w w1 := K.call (K.alloc (Below.refl _ _) _) hb1
  clear hb1
  go_wp2_with fail
  with_reducible refine Calls.mono (turned_any (by omega) hR.rd) ?_
  rintro e w2 ⟨v, rfl, hown, hb2⟩
  have hown2 := hown
  obtain ⟨g2, cap2, rfl, _, hR2⟩ := own_rd (f := fun i => Y (31 - i) a) hown (fun j hj => rv_at _ 32 32 j hj) (by omega)
  have hcp := own_cap hown2
  clear hown hown2
  go_wp2_with fail
  go_ret
  exact ⟨g2, cap2, rfl, hcp, hR2, K.call hB1 hb2⟩
theorem made3 (w : World) (x : Nat) (h : x < 256) : BA (w.alloc (.cells #[.int .u8 2, .int .u8 (x : Int), .int .u8 0] 5)) (some ⟨w.heap.size, 0, none⟩) 3 (fun i => if i = 1 then x else if i = 0 then 2 else 0) :=
  ⟨fun i => by
    show (if i = 1 then x else if i = 0 then 2 else 0) < 256
    split
    · exact h
    · split <;> omega, Or.inr ⟨_, _, rfl, ⟨fun i hi => by
    rw [cell_of_row _ _ _ _ _ _ (heap_alloc_new w _)]
    match i, hi with
    | 0, _ => rfl
    | 1, _ => rfl
    | 2, _ => rfl⟩⟩⟩
theorem made2 (w : World) (y x : Nat) (hy : y < 256) (h : x < 256) : BA (w.alloc (.cells #[.int .u8 (y : Int), .int .u8 (x : Int)] 5)) (some ⟨w.heap.size, 0, none⟩) 2 (fun i => if i = 0 then y else x) :=
  ⟨fun i => by show (if i = 0 then y else x) < 256; split <;> omega, Or.inr ⟨_, _, rfl, ⟨fun i hi => by
    rw [cell_of_row _ _ _ _ _ _ (heap_alloc_new w _)]
    match i, hi with
    | 0, _ => rfl
    | 1, _ => rfl⟩⟩⟩
set_option maxRecDepth 100000 in
set_option maxHeartbeats 4000000 in
theorem refInt_any {A : Nat} (hA : A < 2 ^ 256) (w : World) :
    Calls Tryd.prog 22 #[.agg #[.int .u64 (L 0 (A : Int)), .int .u64 (L 1 (A : Int)), .int .u64 (L 2 (A : Int)), .int .u64 (L 3 (A : Int))]] w fun e w' => ∃ v, e = .returned v ∧ w'.ownsRow w.heap.size 5 1 v (msz A + 2) (cells8 (dI A)) ∧ Below w.heap.size w w' := by
  have hw : Below w.heap.size w (w.alloc (.cells #[.int .u64 (L 0 (A : Int)), .int .u64 (L 1 (A : Int)), .int .u64 (L 2 (A : Int)), .int .u64 (L 3 (A : Int))] 26)) := K.alloc (Below.refl _ _) _
  have HW := hide hw
  clear hw
  go_enter Tryd.func22, Tryd.ntmps22
  go_wp2_with fail
  with_reducible refine Calls.mono (refPutBig_own (A : Int) _) ?_
  rintro e W1 ⟨g, cap, rfl, hcp, hR, hb⟩
  have HB : Hid (Below w.heap.size w W1) := K.call HW.out hb
  have HR : Hid (Row8 W1 g 32 (fun i => Y (31 - i) (A : Int))) := hR
  have HA : Hid (A < 2 ^ 256) := hA
  have HC : Hid (32 ≤ cap) := hcp
  clear HW hb hA hR hcp
  go_wp2_with fail
  go_loopg [4] 31 (fun gm s4 wr => wr = W1 ∧ ∃ k : Nat, gm = 31 - k ∧ k ≤ 31 ∧ s4 = .int .i64 k ∧ ∀ i, i < k → A / 256 ^ (31 - i) % 256 = 0)
  case atStart => exact ⟨rfl, 0, rfl, by omega, rfl, fun i hi => by omega⟩
  case round =>
    obtain ⟨rfl, k, rfl, hk, rfl, h0⟩ := hrel
    have H0 : Hid (∀ i, i < k → A / 256 ^ (31 - i) % 256 = 0) := h0
    have hc := HR.out.c k (by omega)
    rw [Y_nat] at hc
    have HK : Hid (A / 256 ^ (31 - k) % 256 < 256) := Nat.mod_lt _ (by decide)
    obtain ⟨y, hy⟩ : ∃ y, y = A / 256 ^ (31 - k) % 256 := ⟨_, rfl⟩
    rw [← hy] at hc HK
    have HY := hide hy
    clear h0 hy
    have hki : (k : Int) ≤ 31 := by omega
    have hy256 := HK.out
    by_cases hlt : k < 31
    · have hlti : (k : Int) < 31 := by omega
      by_cases h0 : y = 0
      · subst h0
        go_wp2_with fail
        go_roundg (31 - (k + 1))
        case measure => omega
        case rel => exact ⟨rfl, k + 1, rfl, by omega, by go_num, fun i hi => by
          rcases Nat.lt_or_ge i k with hl | hl
          · exact H0.out i hl
          · obtain rfl : i = k := by omega
            exact HY.out.symm⟩
      · have h0i : ¬ (y : Int) = 0 := by omega
        by_cases hq : 128 ≤ y
        · have hqi : (128 : Int) ≤ (y : Int) := by omega
          have HL : Hid (dI A = [2, 33 - k, 0] ++ fl (fun i => A / 256 ^ (31 - (k + i)) % 256) (32 - k)) := by
            show dI A = _
            rw [dI_lead HA.out (by omega) H0.out (Or.inr (by rw [← HY.out]; exact h0)), if_pos (by rw [← HY.out]; exact hq)]
          obtain ⟨xk, hxk⟩ : ∃ xk, xk = 33 - k := ⟨_, rfl⟩
          have hx1 : (32 : Int) - (k : Int) + 1 = ((xk : Nat) : Int) := by omega
          have HB1 := hide (K.alloc HB.out (.cells #[.int .u8 2, .int .u8 ((xk : Nat) : Int), .int .u8 0] 5))
          have hsl : ∀ W : World, (Instr.sliceAt 22 (.slice (some ⟨g, 0, none⟩) 32 cap) (some (.int .i64 (k : Int))) none none).run Tryd.prog W = .ok (.slice (some ⟨g, k, none⟩) (32 - k) (cap - k)) W := fun W => by
            have ea : (⟨g, 0, none⟩ : Addr).add k = ⟨g, 0 + k, none⟩ := by unfold Addr.add; split <;> simp_all
            rw [run_fromS (by omega) W, cutA, if_neg (by have := HC.out; omega), Option.map_some, ea, Nat.zero_add]
          have HX : Hid (xk = 33 - k ∧ xk < 256) := ⟨hxk, by omega⟩
          have HO : Hid ((wr.alloc (.cells #[.int .u8 2, .int .u8 ((xk : Nat) : Int), .int .u8 0] 5)).ownsRow w.heap.size 5 1 (.slice none 0 0) 0 (cells8 [])) := World.ownsRow_nil _ _ _ _
          have HM : Hid (BA (wr.alloc (.cells #[.int .u8 2, .int .u8 ((xk : Nat) : Int), .int .u8 0] 5)) (some ⟨wr.heap.size, 0, none⟩) 3 _) := made3 wr xk (by omega)
          clear hxk
          go_upto_region 10 with (at_builtin; refine wpList_app rfl _ _ rfl rfl HO.out rfl HM.out (by omega) HB1.out.size ?_; intro v1 w1 hO1 hg1)
          have hB1 : Below w.heap.size w w1 := HB1.out.grown hg1 HB1.out.size (fun k hk => by cases hk)
          have hB2 : Below wr.heap.size wr w1 := (K.alloc (Below.refl _ wr) _).grown hg1 (K.alloc (Below.refl _ wr) _).size (fun k hk => by cases hk)
          have HBA : Hid (BA w1 (some ⟨g, k, none⟩) (32 - k) (fun i => A / 256 ^ (31 - (k + i)) % 256)) := by
            refine ⟨fun i => Nat.mod_lt _ (by decide), Or.inr ⟨g, k, rfl, ?_⟩⟩
            have hp := (HR.out.rd.keep hB2).part k (32 - k) (by omega)
            rw [Nat.zero_add] at hp
            exact hp.congr (fun i _ => Y_nat _ _)
          have HO1 := hide hO1
          have HBB := hide hB1
          clear hO1 hg1 hB1 hB2 HB1 HO HM HR hc HB
          go_wp2_with (at_builtin; refine wpList_app rfl _ _ rfl rfl HO1.out rfl HBA.out (by omega) HBB.out.size ?_; intro v2 w2 hO2 hg2)
          have hB3 : Below w.heap.size w w2 := below_append HBB.out HO1.out hg2
          have hO3 : w2.ownsRow w.heap.size 5 1 v2 (msz A + 2) (cells8 (dI A)) := by
            have e1 : 3 + (32 - k) = msz A + 2 := by
              have := congrArg List.length HL.out
              rw [dI_len, List.length_append, fl_len] at this
              simp at this
              omega
            have e2 : dI A = [] ++ fl (fun i => if i = 1 then xk else if i = 0 then 2 else 0) 3 ++ fl (fun i => A / 256 ^ (31 - (k + i)) % 256) (32 - k) := by
              rw [HL.out, ← HX.out.1]
              rfl
            rw [e2, ← e1]
            exact hO2
          clear hO2 hg2
          go_ret
          exact ⟨_, rfl, hO3, hB3⟩
        · have hqi : ¬ (128 : Int) ≤ (y : Int) := by omega
          have HL : Hid (dI A = [2, 32 - k] ++ fl (fun i => A / 256 ^ (31 - (k + i)) % 256) (32 - k)) := by
            show dI A = _
            rw [dI_lead HA.out (by omega) H0.out (Or.inr (by rw [← HY.out]; exact h0)), if_neg (by rw [← HY.out]; exact hq)]
          obtain ⟨xk, hxk⟩ : ∃ xk, xk = 32 - k := ⟨_, rfl⟩
          have hx1 : (32 : Int) - (k : Int) = ((xk : Nat) : Int) := by omega
          have HB1 := hide (K.alloc HB.out (.cells #[.int .u8 ((2 : Nat) : Int), .int .u8 ((xk : Nat) : Int)] 5))
          have hsl : ∀ W : World, (Instr.sliceAt 22 (.slice (some ⟨g, 0, none⟩) 32 cap) (some (.int .i64 (k : Int))) none none).run Tryd.prog W = .ok (.slice (some ⟨g, k, none⟩) (32 - k) (cap - k)) W := fun W => by
            have ea : (⟨g, 0, none⟩ : Addr).add k = ⟨g, 0 + k, none⟩ := by unfold Addr.add; split <;> simp_all
            rw [run_fromS (by omega) W, cutA, if_neg (by have := HC.out; omega), Option.map_some, ea, Nat.zero_add]
          have HX : Hid (xk = 32 - k ∧ xk < 256) := ⟨hxk, by omega⟩
          have HO : Hid ((wr.alloc (.cells #[.int .u8 ((2 : Nat) : Int), .int .u8 ((xk : Nat) : Int)] 5)).ownsRow w.heap.size 5 1 (.slice none 0 0) 0 (cells8 [])) := World.ownsRow_nil _ _ _ _
          have HM : Hid (BA (wr.alloc (.cells #[.int .u8 ((2 : Nat) : Int), .int .u8 ((xk : Nat) : Int)] 5)) (some ⟨wr.heap.size, 0, none⟩) 2 _) := made2 wr 2 xk (by omega) (by omega)
          clear hxk
          go_upto_region 10 with (at_builtin; refine wpList_app rfl _ _ rfl rfl HO.out rfl HM.out (by omega) HB1.out.size ?_; intro v1 w1 hO1 hg1)
          have hB1 : Below w.heap.size w w1 := HB1.out.grown hg1 HB1.out.size (fun k hk => by cases hk)
          have hB2 : Below wr.heap.size wr w1 := (K.alloc (Below.refl _ wr) _).grown hg1 (K.alloc (Below.refl _ wr) _).size (fun k hk => by cases hk)
          have HBA : Hid (BA w1 (some ⟨g, k, none⟩) (32 - k) (fun i => A / 256 ^ (31 - (k + i)) % 256)) := by
            refine ⟨fun i => Nat.mod_lt _ (by decide), Or.inr ⟨g, k, rfl, ?_⟩⟩
            have hp := (HR.out.rd.keep hB2).part k (32 - k) (by omega)
            rw [Nat.zero_add] at hp
            exact hp.congr (fun i _ => Y_nat _ _)
          have HO1 := hide hO1
          have HBB := hide hB1
          clear hO1 hg1 hB1 hB2 HB1 HO HM HR hc HB
          go_wp2_with (at_builtin; refine wpList_app rfl _ _ rfl rfl HO1.out rfl HBA.out (by omega) HBB.out.size ?_; intro v2 w2 hO2 hg2)
          have hB3 : Below w.heap.size w w2 := below_append HBB.out HO1.out hg2
          have hO3 : w2.ownsRow w.heap.size 5 1 v2 (msz A + 2) (cells8 (dI A)) := by
            have e1 : 2 + (32 - k) = msz A + 2 := by
              have := congrArg List.length HL.out
              rw [dI_len, List.length_append, fl_len] at this
              simp at this
              omega
            have e2 : dI A = [] ++ fl (fun i => if i = 0 then 2 else xk) 2 ++ fl (fun i => A / 256 ^ (31 - (k + i)) % 256) (32 - k) := by
              rw [HL.out, ← HX.out.1]
              rfl
            rw [e2, ← e1]
            exact hO2
          clear hO2 hg2
          go_ret
          exact ⟨_, rfl, hO3, hB3⟩
    · have hlti : ¬ (k : Int) < 31 := by omega
      have HK31 : Hid (k = 31) := by show k = 31; omega
      by_cases hq : 128 ≤ y
      · have hqi : (128 : Int) ≤ (y : Int) := by omega
        have HL : Hid (dI A = [2, 33 - k, 0] ++ fl (fun i => A / 256 ^ (31 - (k + i)) % 256) (32 - k)) := by
          show dI A = _
          rw [dI_lead HA.out (by omega) H0.out (Or.inl HK31.out), if_pos (by rw [← HY.out]; exact hq)]
        obtain ⟨xk, hxk⟩ : ∃ xk, xk = 33 - k := ⟨_, rfl⟩
        have hx1 : (32 : Int) - (k : Int) + 1 = ((xk : Nat) : Int) := by omega
        have HB1 := hide (K.alloc HB.out (.cells #[.int .u8 2, .int .u8 ((xk : Nat) : Int), .int .u8 0] 5))
        have hsl : ∀ W : World, (Instr.sliceAt 22 (.slice (some ⟨g, 0, none⟩) 32 cap) (some (.int .i64 (k : Int))) none none).run Tryd.prog W = .ok (.slice (some ⟨g, k, none⟩) (32 - k) (cap - k)) W := fun W => by
          have ea : (⟨g, 0, none⟩ : Addr).add k = ⟨g, 0 + k, none⟩ := by unfold Addr.add; split <;> simp_all
          rw [run_fromS (by omega) W, cutA, if_neg (by have := HC.out; omega), Option.map_some, ea, Nat.zero_add]
        have HX : Hid (xk = 33 - k ∧ xk < 256) := ⟨hxk, by omega⟩
        have HO : Hid ((wr.alloc (.cells #[.int .u8 2, .int .u8 ((xk : Nat) : Int), .int .u8 0] 5)).ownsRow w.heap.size 5 1 (.slice none 0 0) 0 (cells8 [])) := World.ownsRow_nil _ _ _ _
        have HM : Hid (BA (wr.alloc (.cells #[.int .u8 2, .int .u8 ((xk : Nat) : Int), .int .u8 0] 5)) (some ⟨wr.heap.size, 0, none⟩) 3 _) := made3 wr xk (by omega)
        clear hxk
        go_upto_region 10 with (at_builtin; refine wpList_app rfl _ _ rfl rfl HO.out rfl HM.out (by omega) HB1.out.size ?_; intro v1 w1 hO1 hg1)
        have hB1 : Below w.heap.size w w1 := HB1.out.grown hg1 HB1.out.size (fun k hk => by cases hk)
        have hB2 : Below wr.heap.size wr w1 := (K.alloc (Below.refl _ wr) _).grown hg1 (K.alloc (Below.refl _ wr) _).size (fun k hk => by cases hk)
        have HBA : Hid (BA w1 (some ⟨g, k, none⟩) (32 - k) (fun i => A / 256 ^ (31 - (k + i)) % 256)) := by
          refine ⟨fun i => Nat.mod_lt _ (by decide), Or.inr ⟨g, k, rfl, ?_⟩⟩
          have hp := (HR.out.rd.keep hB2).part k (32 - k) (by omega)
          rw [Nat.zero_add] at hp
          exact hp.congr (fun i _ => Y_nat _ _)
        have HO1 := hide hO1
        have HBB := hide hB1
        clear hO1 hg1 hB1 hB2 HB1 HO HM HR hc HB
        go_wp2_with (at_builtin; refine wpList_app rfl _ _ rfl rfl HO1.out rfl HBA.out (by omega) HBB.out.size ?_; intro v2 w2 hO2 hg2)
        have hB3 : Below w.heap.size w w2 := below_append HBB.out HO1.out hg2
        have hO3 : w2.ownsRow w.heap.size 5 1 v2 (msz A + 2) (cells8 (dI A)) := by
          have e1 : 3 + (32 - k) = msz A + 2 := by
            have := congrArg List.length HL.out
            rw [dI_len, List.length_append, fl_len] at this
            simp at this
            omega
          have e2 : dI A = [] ++ fl (fun i => if i = 1 then xk else if i = 0 then 2 else 0) 3 ++ fl (fun i => A / 256 ^ (31 - (k + i)) % 256) (32 - k) := by
            rw [HL.out, ← HX.out.1]
            rfl
          rw [e2, ← e1]
          exact hO2
        clear hO2 hg2
        go_ret
        exact ⟨_, rfl, hO3, hB3⟩
      · have hqi : ¬ (128 : Int) ≤ (y : Int) := by omega
        have HL : Hid (dI A = [2, 32 - k] ++ fl (fun i => A / 256 ^ (31 - (k + i)) % 256) (32 - k)) := by
          show dI A = _
          rw [dI_lead HA.out (by omega) H0.out (Or.inl HK31.out), if_neg (by rw [← HY.out]; exact hq)]
        obtain ⟨xk, hxk⟩ : ∃ xk, xk = 32 - k := ⟨_, rfl⟩
        have hx1 : (32 : Int) - (k : Int) = ((xk : Nat) : Int) := by omega
        have HB1 := hide (K.alloc HB.out (.cells #[.int .u8 ((2 : Nat) : Int), .int .u8 ((xk : Nat) : Int)] 5))
        have hsl : ∀ W : World, (Instr.sliceAt 22 (.slice (some ⟨g, 0, none⟩) 32 cap) (some (.int .i64 (k : Int))) none none).run Tryd.prog W = .ok (.slice (some ⟨g, k, none⟩) (32 - k) (cap - k)) W := fun W => by
          have ea : (⟨g, 0, none⟩ : Addr).add k = ⟨g, 0 + k, none⟩ := by unfold Addr.add; split <;> simp_all
          rw [run_fromS (by omega) W, cutA, if_neg (by have := HC.out; omega), Option.map_some, ea, Nat.zero_add]
        have HX : Hid (xk = 32 - k ∧ xk < 256) := ⟨hxk, by omega⟩
        have HO : Hid ((wr.alloc (.cells #[.int .u8 ((2 : Nat) : Int), .int .u8 ((xk : Nat) : Int)] 5)).ownsRow w.heap.size 5 1 (.slice none 0 0) 0 (cells8 [])) := World.ownsRow_nil _ _ _ _
        have HM : Hid (BA (wr.alloc (.cells #[.int .u8 ((2 : Nat) : Int), .int .u8 ((xk : Nat) : Int)] 5)) (some ⟨wr.heap.size, 0, none⟩) 2 _) := made2 wr 2 xk (by omega) (by omega)
        clear hxk
        go_upto_region 10 with (at_builtin; refine wpList_app rfl _ _ rfl rfl HO.out rfl HM.out (by omega) HB1.out.size ?_; intro v1 w1 hO1 hg1)
        have hB1 : Below w.heap.size w w1 := HB1.out.grown hg1 HB1.out.size (fun k hk => by cases hk)
        have hB2 : Below wr.heap.size wr w1 := (K.alloc (Below.refl _ wr) _).grown hg1 (K.alloc (Below.refl _ wr) _).size (fun k hk => by cases hk)
        have HBA : Hid (BA w1 (some ⟨g, k, none⟩) (32 - k) (fun i => A / 256 ^ (31 - (k + i)) % 256)) := by
          refine ⟨fun i => Nat.mod_lt _ (by decide), Or.inr ⟨g, k, rfl, ?_⟩⟩
          have hp := (HR.out.rd.keep hB2).part k (32 - k) (by omega)
          rw [Nat.zero_add] at hp
          exact hp.congr (fun i _ => Y_nat _ _)
        have HO1 := hide hO1
        have HBB := hide hB1
        clear hO1 hg1 hB1 hB2 HB1 HO HM HR hc HB
        go_wp2_with (at_builtin; refine wpList_app rfl _ _ rfl rfl HO1.out rfl HBA.out (by omega) HBB.out.size ?_; intro v2 w2 hO2 hg2)
        have hB3 : Below w.heap.size w w2 := below_append HBB.out HO1.out hg2
        have hO3 : w2.ownsRow w.heap.size 5 1 v2 (msz A + 2) (cells8 (dI A)) := by
          have e1 : 2 + (32 - k) = msz A + 2 := by
            have := congrArg List.length HL.out
            rw [dI_len, List.length_append, fl_len] at this
            simp at this
            omega
          have e2 : dI A = [] ++ fl (fun i => if i = 0 then 2 else xk) 2 ++ fl (fun i => A / 256 ^ (31 - (k + i)) % 256) (32 - k) := by
            rw [HL.out, ← HX.out.1]
            rfl
          rw [e2, ← e1]
          exact hO2
        clear hO2 hg2
        go_ret
        exact ⟨_, rfl, hO3, hB3⟩
end Go.Proofs.YtlpjdhoboebbfaaDoor
