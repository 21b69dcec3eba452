/- What the document's own Encode answers. -/
import Derived.Test.YtloboidolhpogaaTSign
import Derived.Test.YtloboidolhpogaaTEncP
import Derived.Deep.LoopGhost
import Derived.Deep.DeepCutAuto
namespace Go.Proofs.Ytloboidolhpogaa
open Go.RowKit
attribute [local go_sem ↓] Go.wp_at_zero Go.wp_at_succ

theorem sign_int (v : Int) (n : Nat) (hv : v = (n : Int)) (h : n < 64) (w : World) : Calls Try.prog 18 #[.int .i64 v] w fun e w' => e = .returned (.string (tx [sgn n])) ∧ w' = w := by
  subst hv; exact sign_any n h w
attribute [local go_sem] tx_size tx_append eq_one eq_two

set_option maxRecDepth 100000 in
set_option maxHeartbeats 8000000 in
theorem refEncode_any {b o cap n : Nat} {f : Nat → Nat} (hf : ∀ i, f i < 256) (hn : n ≤ 1000) {w : World} (hD : Rd w b o n (fun i => (f i : Int))) :
    Calls Try.prog 11 #[.slice (some ⟨b, o, none⟩) n cap] w fun e w' => e = .returned (.string (tx (enc f n))) ∧ Below w.heap.size w w' := by
  have HF : Hid (∀ i, f i < 256) := hf
  have HD : Hid (Rd w b o n (fun i => (f i : Int))) := hD
  clear hf hD
  go_enter Try.func11, Try.ntmps11
  go_wp2_with fail
  go_loopg [3, 4] n (fun g s i wr => ∃ k : Nat, g = n - 3 * k ∧ 3 * k ≤ n ∧ i = .int .i64 ((3 * k : Nat) : Int) ∧ s = .string (tx (encW f k)) ∧ Below w.heap.size w wr)
  case atStart => exact ⟨0, rfl, by omega, rfl, rfl, Below.refl _ _⟩
  case round =>
    obtain ⟨k, rfl, hk, rfl, rfl, hB⟩ := hrel
    have hel : (encW f k).length ≤ 2000 := by rw [encW_len]; omega
    have HB : Hid (Below w.heap.size w wr) := hB
    by_cases hlt : 3 * k + 3 ≤ n
    · obtain ⟨m, hm⟩ : ∃ m, m = 3 * k := ⟨_, rfl⟩
      have c0 := (HD.out.keep hB).c (3 * k) (by omega)
      have c1 := (HD.out.keep hB).c (3 * k + 1) (by omega)
      have c2 := (HD.out.keep hB).c (3 * k + 2) (by omega)
      have x1 := HF.out (3 * k)
      have y1 := HF.out (3 * k + 1)
      have z1 := HF.out (3 * k + 2)
      have HE : Hid (encW f (k + 1) = encW f k ++ quad (f (3 * k)) (f (3 * k + 1)) (f (3 * k + 2))) := rfl
      have HK : Hid (3 * k = m ∧ 3 * (k + 1) = m + 3 ∧ m + 3 ≤ n) := ⟨by omega, by omega, by omega⟩
      rw [← hm] at c0 c1 c2 x1 y1 z1 HE hlt ⊢
      clear hm hk
      generalize f m = x at *
      generalize f (m + 1) = y at *
      generalize f (m + 2) = z at *
      generalize encW f k = ek at *
      have ni : (n : Int) ≤ 1000 := by omega
      have mi : (m : Int) + 3 ≤ (n : Int) := by omega
      have xi : (x : Int) < 256 := by omega
      have yi : (y : Int) < 256 := by omega
      have zi : (z : Int) < 256 := by omega
      clear hB
      go_upto_region 5 with fail
      go_quiet (fail)
      go_wp2_with (first
        | (go_at_call 18; with_reducible refine Calls.mono (sign_int _ (x / 4) (by omega) (by omega) _) ?_; rintro e w' ⟨rfl, rfl⟩)
        | (go_at_call 18; with_reducible refine Calls.mono (sign_int _ (x % 4 * 16 + y / 16) (by omega) (by omega) _) ?_; rintro e w' ⟨rfl, rfl⟩)
        | (go_at_call 18; with_reducible refine Calls.mono (sign_int _ (y % 16 * 4 + z / 64) (by omega) (by omega) _) ?_; rintro e w' ⟨rfl, rfl⟩)
        | (go_at_call 18; with_reducible refine Calls.mono (sign_int _ (z % 64) (by omega) (by omega) _) ?_; rintro e w' ⟨rfl, rfl⟩))
      go_roundg (n - 3 * (k + 1))
      case measure => have := HK.out; omega
      case rel => exact ⟨k + 1, rfl, by have := HK.out; omega, congrArg (Value.int .i64) (by have := HK.out; omega), by rw [HE.out]; first | rfl | simp [quad], K.drewN HB.out _⟩
    · obtain ⟨m, hm⟩ : ∃ m, m = 3 * k := ⟨_, rfl⟩
      have hk3 : n / 3 = k := by omega
      have ni : (n : Int) ≤ 1000 := by omega
      have hr : n = m ∨ n = m + 1 ∨ n = m + 2 := by omega
      rcases hr with hr | hr | hr
      · have HT : Hid (enc f n = encW f k) := by
          show _ = _
          unfold enc encT
          rw [hk3, if_neg (by omega), if_neg (by omega), List.append_nil]
        have ms : (n : Int) - (m : Int) = 0 := by omega
        have ml : ¬ (m : Int) + 3 ≤ (n : Int) := by omega
        rw [← hm]
        clear hm hk3 hk hlt HF HD hB hr
        generalize encW f k = ek at *
        go_wp2_with fail
        go_ret
        exact ⟨by rw [HT.out]; rfl, HB.out⟩
      · have c0 := (HD.out.keep hB).c m (by omega)
        have x1 := HF.out m
        have HT : Hid (enc f n = encW f k ++ [sgn (f m / 4), sgn (f m % 4 * 16), 61, 61]) := by
          show _ = _
          unfold enc encT
          rw [hk3, if_pos (by omega), show n - 1 = m by omega]
        have ms : (n : Int) - (m : Int) = 1 := by omega
        have ml : ¬ (m : Int) + 3 ≤ (n : Int) := by omega
        have mi : (m : Int) < (n : Int) := by omega
        rw [← hm]
        clear hm hk3 hk hlt HF HD hB hr
        generalize encW f k = ek at *
        generalize f m = x at *
        have xi : (x : Int) < 256 := by omega
        go_wp2_with (first
          | (go_at_call 18; with_reducible refine Calls.mono (sign_int _ (x / 4) (by omega) (by omega) _) ?_; rintro e w' ⟨rfl, rfl⟩)
          | (go_at_call 18; with_reducible refine Calls.mono (sign_int _ (x % 4 * 16) (by omega) (by omega) _) ?_; rintro e w' ⟨rfl, rfl⟩))
        go_ret
        exact ⟨by rw [HT.out]; first | rfl | simp, HB.out⟩
      · have c0 := (HD.out.keep hB).c m (by omega)
        have c1 := (HD.out.keep hB).c (m + 1) (by omega)
        have x1 := HF.out m
        have y1 := HF.out (m + 1)
        have HT : Hid (enc f n = encW f k ++ [sgn (f m / 4), sgn (f m % 4 * 16 + f (m + 1) / 16), sgn (f (m + 1) % 16 * 4), 61]) := by
          show _ = _
          unfold enc encT
          rw [hk3, if_neg (by omega), if_pos (by omega), show n - 2 = m by omega, show n - 1 = m + 1 by omega]
        have ms : (n : Int) - (m : Int) = 2 := by omega
        have ml : ¬ (m : Int) + 3 ≤ (n : Int) := by omega
        have mi : (m : Int) + 1 < (n : Int) := by omega
        rw [← hm]
        clear hm hk3 hk hlt HF HD hB hr
        generalize encW f k = ek at *
        generalize f m = x at *
        generalize f (m + 1) = y at *
        have xi : (x : Int) < 256 := by omega
        have yi : (y : Int) < 256 := by omega
        go_upto_region 11 with fail
        go_quiet (fail)
        go_wp2_with (first
          | (go_at_call 18; with_reducible refine Calls.mono (sign_int _ (x / 4) (by omega) (by omega) _) ?_; rintro e w' ⟨rfl, rfl⟩)
          | (go_at_call 18; with_reducible refine Calls.mono (sign_int _ (x % 4 * 16 + y / 16) (by omega) (by omega) _) ?_; rintro e w' ⟨rfl, rfl⟩)
          | (go_at_call 18; with_reducible refine Calls.mono (sign_int _ (y % 16 * 4) (by omega) (by omega) _) ?_; rintro e w' ⟨rfl, rfl⟩))
        go_ret
        exact ⟨by rw [HT.out]; first | rfl | simp, K.drewN HB.out _⟩

set_option maxHeartbeats 1000000 in
theorem refEncode_none (a : Option Addr) (cap : Nat) (f : Nat → Nat) (w : World) :
    Calls Try.prog 11 #[.slice a 0 cap] w fun e w' => e = .returned (.string (tx (enc f 0))) ∧ w' = w := by
  go_enter Try.func11, Try.ntmps11
  go_wp2_with fail
  refine wp_loop_rounds 1 ?_
  rw [rounds_succ]
  go_wp2_with fail
  go_ret
  exact ⟨rfl, rfl⟩
end Go.Proofs.Ytloboidolhpogaa
