/- What the document's own Padded answers. -/
import Derived.Test.YteplklbpehkdjaaDoorS5PadP
import Derived.Deep.LoopGhost
import Derived.Deep.DeepCutAuto
namespace Go.Proofs.YteplklbpehkdjaaDoor
set_option maxRecDepth 100000
open Go.RowKit
attribute [local go_sem ↓] Go.wp_at_zero Go.wp_at_succ

theorem cells8_app (a b : List Nat) : cells8 (a ++ b) = cells8 a ++ cells8 b := List.map_append
set_option maxRecDepth 100000 in
set_option maxHeartbeats 8000000 in
theorem refPadded_any {x : Option Addr} {n c : Nat} {f : Nat → Nat} {w : World} (h : BA w x n f) (hn : n ≤ 100000) :
    Calls Tryd.prog 24 #[.slice x n c] w fun e w' => ∃ v, e = .returned v ∧ w'.ownsRow w.heap.size 5 1 v (padLen n) (cells8 (padL f n)) ∧ Below w.heap.size w w' := by
  have H : Hid (BA w x n f) := h
  have hz := zs_eq n
  have hni : (n : Int) ≤ 100000 := by omega
  have hz64 : zs n ≤ 64 := by unfold zs padLen; omega
  clear h
  have hO0 : w.ownsRow w.heap.size 5 1 (.slice none 0 0) 0 (cells8 []) := World.ownsRow_nil _ _ _ _
  go_enter Tryd.func24, Tryd.ntmps24
  go_upto_region 3 with (at_builtin; refine wpList_app rfl _ _ rfl rfl hO0 rfl H.out (by omega) (Nat.le_refl _) ?_; intro v1 w1 hO1 hg1)
  have hB1 : Below w.heap.size w w1 := (Below.refl _ w).grown hg1 (Nat.le_refl _) (fun k hk => by cases hk)
  rw [Nat.zero_add, List.nil_append] at hO1
  clear hg1
  go_wp2_with (at_builtin; refine wpList_app rfl _ _ rfl rfl (hO1.alloc _) rfl (one_made w1 128 (by decide)) (by omega) (by have := hB1.size; simp; omega) ?_; intro v2 w2 hO2 hg2)
  have hB2 : Below w.heap.size w w2 := (K.alloc hB1 _).grown hg2 (K.alloc hB1 _).size (fun k hk => (hO1.lt k hk).1)
  clear hg2 hO1 hB1
  go_loopg [3] (zs n) (fun g v wr => ∃ (k : Nat) (u : Value), u = v ∧ g = zs n - k ∧ k ≤ zs n ∧ wr.ownsRow w.heap.size 5 1 u (n + 1 + k) (cells8 (fl f n ++ [128] ++ List.replicate k 0)) ∧ Below w.heap.size w wr)
  case atStart => exact ⟨0, _, rfl, rfl, by omega, by rw [List.replicate_zero, List.append_nil]; exact hO2, hB2⟩
  case round =>
    clear hO2 hB2
    obtain ⟨k, u, hu, rfl, hk, hO, hB⟩ := hrel
    subst hu
    obtain ⟨a, cap, rfl⟩ := own_shape hO
    by_cases hlt : k < zs n
    · have hne : (((n + 1 + k : Nat) : Int) % 64 == 56) = false := beq_eq_false_iff_ne.2 (by have := zs_no hlt; omega)
      obtain ⟨L, hL⟩ : ∃ L, L = n + 1 + k := ⟨_, rfl⟩
      have HL := hide hL
      rw [← hL] at hne hO ⊢
      have hLb : L ≤ 200000 := by omega
      have HK := hide hlt
      clear hL hlt hk
      go_wp2_with (at_builtin; refine wpList_app rfl _ _ rfl rfl (hO.alloc _) rfl (one_made wr 0 (by decide)) (by omega) (by have := hB.size; simp; omega) ?_; intro v2 w2 hO2 hg2)
      have hB2 : Below w.heap.size w w2 := (K.alloc hB _).grown hg2 (K.alloc hB _).size (fun k hk => (hO.lt k hk).1)
      have hO3 : w2.ownsRow w.heap.size 5 1 v2 (n + 1 + (k + 1)) (cells8 (fl f n ++ [128] ++ List.replicate (k + 1) 0)) := by
        rw [List.replicate_succ', ← List.append_assoc, show n + 1 + (k + 1) = L + 1 by have := HL.out; omega]
        exact hO2
      clear hO2 hg2 hO hB
      go_wp2_with fail
      go_roundg (zs n - (k + 1))
      case measure => have := HK.out; omega
      case rel => exact ⟨k + 1, _, rfl, rfl, by have := HK.out; omega, hO3, hB2⟩
    · obtain rfl : k = zs n := by omega
      have heq : ((n + 1 + zs n : Nat) : Int) % 64 = 56 := by omega
      obtain ⟨L, hL⟩ : ∃ L, L = n + 1 + zs n := ⟨_, rfl⟩
      have HL := hide hL
      rw [← hL] at heq hO ⊢
      have hLb : L ≤ 200000 := by omega
      have HO := hide hO
      have HB := hide hB
      have HZ := hide hz
      clear hL hlt hk hO hB hz
      go_wp2_with fail
      clear heq
      go_loopg [3, 4, 5] 8 (fun g v s4 s5 wr => ∃ (i : Nat) (u : Value), u = v ∧ g = 8 - i ∧ i ≤ 8 ∧ s5 = .int .i64 i ∧ s4 = .int .u64 (shN n i : Nat) ∧ wr.ownsRow w.heap.size 5 1 u (L + i) (cells8 (fl f n ++ [128] ++ List.replicate (zs n) 0 ++ lenB n i)) ∧ Below w.heap.size w wr)
      case atStart => exact ⟨0, _, rfl, rfl, by omega, rfl, congrArg (Value.int .u64) (by simp only [shN]; omega), by simp only [lenB, List.append_nil]; exact HO.out, HB.out⟩
      case round =>
        clear HO HB
        obtain ⟨i, u, hu, rfl, hi, rfl, rfl, hO, hB⟩ := hrel
        subst hu
        by_cases hlt : i < 8
        · have hii : (i : Int) < 8 := by omega
          have hsl := shN_lt n hn i
          have htop := shN_top n hn i hlt
          obtain ⟨bt, hbt⟩ : ∃ bt, bt = 8 * n / 256 ^ (7 - i) % 256 := ⟨_, rfl⟩
          have hb256 : bt < 256 := by rw [hbt]; exact Nat.mod_lt _ (by omega)
          have HLB : Hid (lenB n (i + 1) = lenB n i ++ [bt]) := by show _ = _; rw [hbt]; rfl
          have HSH : Hid (shN n (i + 1) = shN n i * 256 % 18446744073709551616) := rfl
          rw [← hbt] at htop
          generalize shN n i = q at *
          have h1 : (q : Int) / 72057594037927936 = (bt : Int) := by omega
          have hbi : (bt : Int) < 256 := by omega
          have h2 : (q : Int) <<< 8 % 18446744073709551616 = ((q * 256 % 18446744073709551616 : Nat) : Int) := by rw [Int.shiftLeft_eq]; omega
          have h3 : (q : Int) * 256 % 18446744073709551616 = ((q * 256 % 18446744073709551616 : Nat) : Int) := by omega
          have hqi : (q : Int) < 18446744073709551616 := by omega
          have HI := hide hlt
          clear hbt htop hlt hi
          go_wp2_with (at_builtin; refine wpList_app rfl _ _ rfl rfl (hO.alloc _) rfl (one_made wr bt hb256) (by omega) (by have := hB.size; simp; omega) ?_; intro v2 w2 hO2 hg2)
          have hB2 : Below w.heap.size w w2 := (K.alloc hB _).grown hg2 (K.alloc hB _).size (fun k hk => (hO.lt k hk).1)
          have hO3 : w2.ownsRow w.heap.size 5 1 v2 (L + (i + 1)) (cells8 (fl f n ++ [128] ++ List.replicate (zs n) 0 ++ lenB n (i + 1))) := by
            rw [HLB.out, ← List.append_assoc]
            exact hO2
          clear hO2 hg2 hO hB
          go_wp2_with fail
          go_roundg (8 - (i + 1))
          case measure => have := HI.out; omega
          case rel => exact ⟨i + 1, _, rfl, rfl, by have := HI.out; omega, by go_num, congrArg (Value.int .u64) (by rw [HSH.out, IntKind.wrap_u64]; omega), hO3, hB2⟩
        · obtain rfl : i = 8 := by omega
          have hO3 : wr.ownsRow w.heap.size 5 1 u (padLen n) (cells8 (padL f n)) := by
            have e : L + 8 = padLen n := by have := HL.out; have := HZ.out; omega
            rw [← e]; exact hO
          clear hO hlt hi
          go_wp2_with fail
          go_ret
          exact ⟨_, rfl, hO3, hB⟩
end Go.Proofs.YteplklbpehkdjaaDoor
