/- What codec.Wide answers. -/
import Derived.Test.YtnfgkflhanjjcaaTakesBase
namespace Go.Proofs.Ytnfgkflhanjjcaa
open Go.RowKit
attribute [local go_sem ↓] Go.wp_at_zero Go.wp_at_succ

set_option maxHeartbeats 2000000 in
theorem wide_not (v : Option Addr) (n cap : Nat) (h : n ≠ 64) (w : World) :
    Calls Try.prog 12 #[.slice v n cap] w fun e w' => e = .returned (.tuple #[.agg #[.int .u64 0, .int .u64 0, .int .u64 0, .int .u64 0, .int .u64 0, .int .u64 0, .int .u64 0, .int .u64 0], .bool false]) ∧ Below w.heap.size w w' := by
  have hb : ((n : Int) == 64) = false := beq_eq_false_iff_ne.2 (by omega)
  go_enter Try.func12, Try.ntmps12
  go_wp2
  exact bodyPost_ret (v := .tuple #[.agg #[.int .u64 0, .int .u64 0, .int .u64 0, .int .u64 0, .int .u64 0, .int .u64 0, .int .u64 0, .int .u64 0], .bool false]) (by simp [results, Try.results12, go_sem]) rfl ⟨rfl, by go_grown⟩

set_option maxHeartbeats 4000000 in
theorem wide_any {b o cap : Nat} {f : Nat → Int} (hf : ∀ i, 0 ≤ f i ∧ f i < 256) {w : World} (hD : Rd w b o 64 f) :
    Calls Try.prog 12 #[.slice (some ⟨b, o, none⟩) 64 cap] w fun e w' => e = .returned (.tuple #[.agg #[.int .u64 (E f 0 8), .int .u64 (E f 8 8), .int .u64 (E f 16 8), .int .u64 (E f 24 8), .int .u64 (E f 32 8), .int .u64 (E f 40 8), .int .u64 (E f 48 8), .int .u64 (E f 56 8)], .bool true]) ∧ Below w.heap.size w w' := by
  have HF : Hid (∀ i, 0 ≤ f i ∧ f i < 256) := hf
  have HD : Hid (Rd w b o 64 f) := hD
  clear hf hD
  go_enter Try.func12, Try.ntmps12
  go_wp2_with fail
  go_loopg [13] 64 (fun g s wr => ∃ k : Nat, g = 64 - k ∧ k ≤ 64 ∧ s = .int .i64 k ∧ RowQ wr (w.heap.size + 1) 8 (G f k) ∧ RowQ wr w.heap.size 8 (fun _ => 0) ∧ Below w.heap.size w wr)
  case atStart => exact ⟨0, rfl, by omega, rfl, (RowQ.new8 _ _ (by simp)).congr (fun i _ => (G_zero _ i).symm), (RowQ.new8 w _ rfl).keep ((Below.refl _ _).alloc (Nat.le_refl _) _), K.alloc (K.alloc (Below.refl _ w) _) _⟩
  case round =>
    obtain ⟨k, rfl, hk, rfl, hR, hZ, hB⟩ := hrel
    by_cases hlt : k < 64
    · have hx := HF.out k
      have hd := (HD.out.keep hB).c k (by omega)
      have HR : Hid (RowQ wr (w.heap.size + 1) 8 (G f k)) := hR
      have HZ : Hid (RowQ wr w.heap.size 8 (fun _ => 0)) := hZ
      have HB : Hid (Below w.heap.size w wr) := hB
      have hrl := hR.lt
      have hq : k / 8 = 0 ∨ k / 8 = 1 ∨ k / 8 = 2 ∨ k / 8 = 3 ∨ k / 8 = 4 ∨ k / 8 = 5 ∨ k / 8 = 6 ∨ k / 8 = 7 := by omega
      clear hR hZ hB
      rcases hq with hq | hq | hq | hq | hq | hq | hq | hq
      · have HQ : Hid (k / 8 = 0) := hq
        have hqi : (k : Int) / 8 = 0 := by omega
        have hg := G_bd (f := f) (fun i => HF.out _) k 0
        have hc := HR.out.c 0 (by omega)
        have hz := HR.out.z 0 (by omega)
        clear hq
        go_upto_region 7 with fail
        apply wp_mono (Q := Only _ _)
        · go_region_with (go_at_call 19; with_reducible refine Calls.mono (lift_any (f k) hx.1 hx.2 k (by omega) _) ?_; rintro e w' ⟨rfl, rfl⟩)
          all_goals exact Only.intro _ _
        refine Only.out ?_
        have HG : Hid (bits .or .u64 (G f k 0) (f k * 256 ^ (k % 8)) = G f (k + 1) 0) := by have h := G_step (f := f) (fun i => HF.out _) k; rw [HQ.out] at h; exact h
        clear hc hz hd hx hg
        go_wp2_with fail
        go_roundg (64 - (k + 1))
        case measure => omega
        case rel => exact ⟨k + 1, rfl, by omega, by go_num, ((HR.out.store 0 (by omega) _).congr (word_step HG.out (fun e => G_other _ (by rw [HQ.out]; exact e)))).drew, (HZ.out.other (by omega)).drew, K.drew (K.set HB.out (by simp) _)⟩
      · have HQ : Hid (k / 8 = 1) := hq
        have hqi : (k : Int) / 8 = 1 := by omega
        have hg := G_bd (f := f) (fun i => HF.out _) k 1
        have hc := HR.out.c 1 (by omega)
        have hz := HR.out.z 1 (by omega)
        clear hq
        go_upto_region 7 with fail
        apply wp_mono (Q := Only _ _)
        · go_region_with (go_at_call 19; with_reducible refine Calls.mono (lift_any (f k) hx.1 hx.2 k (by omega) _) ?_; rintro e w' ⟨rfl, rfl⟩)
          all_goals exact Only.intro _ _
        refine Only.out ?_
        have HG : Hid (bits .or .u64 (G f k 1) (f k * 256 ^ (k % 8)) = G f (k + 1) 1) := by have h := G_step (f := f) (fun i => HF.out _) k; rw [HQ.out] at h; exact h
        clear hc hz hd hx hg
        go_wp2_with fail
        go_roundg (64 - (k + 1))
        case measure => omega
        case rel => exact ⟨k + 1, rfl, by omega, by go_num, ((HR.out.store 1 (by omega) _).congr (word_step HG.out (fun e => G_other _ (by rw [HQ.out]; exact e)))).drew, (HZ.out.other (by omega)).drew, K.drew (K.set HB.out (by simp) _)⟩
      · have HQ : Hid (k / 8 = 2) := hq
        have hqi : (k : Int) / 8 = 2 := by omega
        have hg := G_bd (f := f) (fun i => HF.out _) k 2
        have hc := HR.out.c 2 (by omega)
        have hz := HR.out.z 2 (by omega)
        clear hq
        go_upto_region 7 with fail
        apply wp_mono (Q := Only _ _)
        · go_region_with (go_at_call 19; with_reducible refine Calls.mono (lift_any (f k) hx.1 hx.2 k (by omega) _) ?_; rintro e w' ⟨rfl, rfl⟩)
          all_goals exact Only.intro _ _
        refine Only.out ?_
        have HG : Hid (bits .or .u64 (G f k 2) (f k * 256 ^ (k % 8)) = G f (k + 1) 2) := by have h := G_step (f := f) (fun i => HF.out _) k; rw [HQ.out] at h; exact h
        clear hc hz hd hx hg
        go_wp2_with fail
        go_roundg (64 - (k + 1))
        case measure => omega
        case rel => exact ⟨k + 1, rfl, by omega, by go_num, ((HR.out.store 2 (by omega) _).congr (word_step HG.out (fun e => G_other _ (by rw [HQ.out]; exact e)))).drew, (HZ.out.other (by omega)).drew, K.drew (K.set HB.out (by simp) _)⟩
      · have HQ : Hid (k / 8 = 3) := hq
        have hqi : (k : Int) / 8 = 3 := by omega
        have hg := G_bd (f := f) (fun i => HF.out _) k 3
        have hc := HR.out.c 3 (by omega)
        have hz := HR.out.z 3 (by omega)
        clear hq
        go_upto_region 7 with fail
        apply wp_mono (Q := Only _ _)
        · go_region_with (go_at_call 19; with_reducible refine Calls.mono (lift_any (f k) hx.1 hx.2 k (by omega) _) ?_; rintro e w' ⟨rfl, rfl⟩)
          all_goals exact Only.intro _ _
        refine Only.out ?_
        have HG : Hid (bits .or .u64 (G f k 3) (f k * 256 ^ (k % 8)) = G f (k + 1) 3) := by have h := G_step (f := f) (fun i => HF.out _) k; rw [HQ.out] at h; exact h
        clear hc hz hd hx hg
        go_wp2_with fail
        go_roundg (64 - (k + 1))
        case measure => omega
        case rel => exact ⟨k + 1, rfl, by omega, by go_num, ((HR.out.store 3 (by omega) _).congr (word_step HG.out (fun e => G_other _ (by rw [HQ.out]; exact e)))).drew, (HZ.out.other (by omega)).drew, K.drew (K.set HB.out (by simp) _)⟩
      · have HQ : Hid (k / 8 = 4) := hq
        have hqi : (k : Int) / 8 = 4 := by omega
        have hg := G_bd (f := f) (fun i => HF.out _) k 4
        have hc := HR.out.c 4 (by omega)
        have hz := HR.out.z 4 (by omega)
        clear hq
        go_upto_region 7 with fail
        apply wp_mono (Q := Only _ _)
        · go_region_with (go_at_call 19; with_reducible refine Calls.mono (lift_any (f k) hx.1 hx.2 k (by omega) _) ?_; rintro e w' ⟨rfl, rfl⟩)
          all_goals exact Only.intro _ _
        refine Only.out ?_
        have HG : Hid (bits .or .u64 (G f k 4) (f k * 256 ^ (k % 8)) = G f (k + 1) 4) := by have h := G_step (f := f) (fun i => HF.out _) k; rw [HQ.out] at h; exact h
        clear hc hz hd hx hg
        go_wp2_with fail
        go_roundg (64 - (k + 1))
        case measure => omega
        case rel => exact ⟨k + 1, rfl, by omega, by go_num, ((HR.out.store 4 (by omega) _).congr (word_step HG.out (fun e => G_other _ (by rw [HQ.out]; exact e)))).drew, (HZ.out.other (by omega)).drew, K.drew (K.set HB.out (by simp) _)⟩
      · have HQ : Hid (k / 8 = 5) := hq
        have hqi : (k : Int) / 8 = 5 := by omega
        have hg := G_bd (f := f) (fun i => HF.out _) k 5
        have hc := HR.out.c 5 (by omega)
        have hz := HR.out.z 5 (by omega)
        clear hq
        go_upto_region 7 with fail
        apply wp_mono (Q := Only _ _)
        · go_region_with (go_at_call 19; with_reducible refine Calls.mono (lift_any (f k) hx.1 hx.2 k (by omega) _) ?_; rintro e w' ⟨rfl, rfl⟩)
          all_goals exact Only.intro _ _
        refine Only.out ?_
        have HG : Hid (bits .or .u64 (G f k 5) (f k * 256 ^ (k % 8)) = G f (k + 1) 5) := by have h := G_step (f := f) (fun i => HF.out _) k; rw [HQ.out] at h; exact h
        clear hc hz hd hx hg
        go_wp2_with fail
        go_roundg (64 - (k + 1))
        case measure => omega
        case rel => exact ⟨k + 1, rfl, by omega, by go_num, ((HR.out.store 5 (by omega) _).congr (word_step HG.out (fun e => G_other _ (by rw [HQ.out]; exact e)))).drew, (HZ.out.other (by omega)).drew, K.drew (K.set HB.out (by simp) _)⟩
      · have HQ : Hid (k / 8 = 6) := hq
        have hqi : (k : Int) / 8 = 6 := by omega
        have hg := G_bd (f := f) (fun i => HF.out _) k 6
        have hc := HR.out.c 6 (by omega)
        have hz := HR.out.z 6 (by omega)
        clear hq
        go_upto_region 7 with fail
        apply wp_mono (Q := Only _ _)
        · go_region_with (go_at_call 19; with_reducible refine Calls.mono (lift_any (f k) hx.1 hx.2 k (by omega) _) ?_; rintro e w' ⟨rfl, rfl⟩)
          all_goals exact Only.intro _ _
        refine Only.out ?_
        have HG : Hid (bits .or .u64 (G f k 6) (f k * 256 ^ (k % 8)) = G f (k + 1) 6) := by have h := G_step (f := f) (fun i => HF.out _) k; rw [HQ.out] at h; exact h
        clear hc hz hd hx hg
        go_wp2_with fail
        go_roundg (64 - (k + 1))
        case measure => omega
        case rel => exact ⟨k + 1, rfl, by omega, by go_num, ((HR.out.store 6 (by omega) _).congr (word_step HG.out (fun e => G_other _ (by rw [HQ.out]; exact e)))).drew, (HZ.out.other (by omega)).drew, K.drew (K.set HB.out (by simp) _)⟩
      · have HQ : Hid (k / 8 = 7) := hq
        have hqi : (k : Int) / 8 = 7 := by omega
        have hg := G_bd (f := f) (fun i => HF.out _) k 7
        have hc := HR.out.c 7 (by omega)
        have hz := HR.out.z 7 (by omega)
        clear hq
        go_upto_region 7 with fail
        apply wp_mono (Q := Only _ _)
        · go_region_with (go_at_call 19; with_reducible refine Calls.mono (lift_any (f k) hx.1 hx.2 k (by omega) _) ?_; rintro e w' ⟨rfl, rfl⟩)
          all_goals exact Only.intro _ _
        refine Only.out ?_
        have HG : Hid (bits .or .u64 (G f k 7) (f k * 256 ^ (k % 8)) = G f (k + 1) 7) := by have h := G_step (f := f) (fun i => HF.out _) k; rw [HQ.out] at h; exact h
        clear hc hz hd hx hg
        go_wp2_with fail
        go_roundg (64 - (k + 1))
        case measure => omega
        case rel => exact ⟨k + 1, rfl, by omega, by go_num, ((HR.out.store 7 (by omega) _).congr (word_step HG.out (fun e => G_other _ (by rw [HQ.out]; exact e)))).drew, (HZ.out.other (by omega)).drew, K.drew (K.set HB.out (by simp) _)⟩
    · obtain rfl : k = 64 := by omega
      have c0 := hR.c 0 (by omega)
      have c1 := hR.c 1 (by omega)
      have c2 := hR.c 2 (by omega)
      have c3 := hR.c 3 (by omega)
      have c4 := hR.c 4 (by omega)
      have c5 := hR.c 5 (by omega)
      have c6 := hR.c 6 (by omega)
      have c7 := hR.c 7 (by omega)
      have z0 := hZ.c 0 (by omega)
      have z1 := hZ.c 1 (by omega)
      have z2 := hZ.c 2 (by omega)
      have z3 := hZ.c 3 (by omega)
      have z4 := hZ.c 4 (by omega)
      have z5 := hZ.c 5 (by omega)
      have z6 := hZ.c 6 (by omega)
      have z7 := hZ.c 7 (by omega)
      have y0 := hZ.z 0 (by omega)
      have y1 := hZ.z 1 (by omega)
      have y2 := hZ.z 2 (by omega)
      have y3 := hZ.z 3 (by omega)
      have y4 := hZ.z 4 (by omega)
      have y5 := hZ.z 5 (by omega)
      have y6 := hZ.z 6 (by omega)
      have y7 := hZ.z 7 (by omega)
      have zl := hZ.lt
      have cl := hR.lt
      rw [G_full _ (show 8 * 0 + 8 ≤ 64 by omega)] at c0
      rw [G_full _ (show 8 * 1 + 8 ≤ 64 by omega)] at c1
      rw [G_full _ (show 8 * 2 + 8 ≤ 64 by omega)] at c2
      rw [G_full _ (show 8 * 3 + 8 ≤ 64 by omega)] at c3
      rw [G_full _ (show 8 * 4 + 8 ≤ 64 by omega)] at c4
      rw [G_full _ (show 8 * 5 + 8 ≤ 64 by omega)] at c5
      rw [G_full _ (show 8 * 6 + 8 ≤ 64 by omega)] at c6
      rw [G_full _ (show 8 * 7 + 8 ≤ 64 by omega)] at c7
      clear hR hZ
      go_wp2_with fail
      exact bodyPost_ret (v := .tuple #[.agg #[.int .u64 (E f 0 8), .int .u64 (E f 8 8), .int .u64 (E f 16 8), .int .u64 (E f 24 8), .int .u64 (E f 32 8), .int .u64 (E f 40 8), .int .u64 (E f 48 8), .int .u64 (E f 56 8)], .bool true]) (by simp [results, Try.results12, go_sem, z0, z1, z2, z3, z4, z5, z6, z7]) rfl ⟨rfl, K.set (K.set (K.set (K.set (K.set (K.set (K.set (K.set (hB) (by simp) _) (by simp) _) (by simp) _) (by simp) _) (by simp) _) (by simp) _) (by simp) _) (by simp) _⟩
end Go.Proofs.Ytnfgkflhanjjcaa
