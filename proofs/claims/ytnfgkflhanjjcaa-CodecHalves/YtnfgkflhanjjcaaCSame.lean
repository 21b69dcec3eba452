/- What the document's own Same and eight answer, and that the program is awake. -/
import Derived.Test.YtnfgkflhanjjcaaTakesBase
namespace Go.Proofs.Ytnfgkflhanjjcaa
open Go.RowKit
attribute [local go_sem ↓] Go.wp_at_zero Go.wp_at_succ

set_option maxHeartbeats 2000000 in
theorem same_true {b o c b2 o2 c2 n : Nat} {f g : Nat → Int} (hn : n ≤ 1000000) {w : World} (h1 : Rd w b o n f) (h2 : Rd w b2 o2 n g) (he : ∀ i, i < n → g i = f i) :
    Calls Try.prog 16 #[.slice (some ⟨b, o, none⟩) n c, .slice (some ⟨b2, o2, none⟩) n c2] w fun e w' => e = .returned (.bool true) ∧ Below w.heap.size w w' := by
  have H1 : Hid (Rd w b o n f) := h1
  have H2 : Hid (Rd w b2 o2 n f) := h2.congr he
  clear h1 h2 he
  go_enter Try.func16, Try.ntmps16
  go_wp2_with fail
  go_loopg [5] n (fun g s wr => ∃ k : Nat, g = n - k ∧ k ≤ n ∧ s = .int .i64 k ∧ Below w.heap.size w wr)
  case atStart => exact ⟨0, rfl, by omega, rfl, Below.refl _ _⟩
  case round =>
    obtain ⟨k, rfl, hk, rfl, hB⟩ := hrel
    by_cases hlt : k < n
    · have hc1 := (H1.out.keep hB).c k hlt
      have hc2 := (H2.out.keep hB).c k hlt
      have HB : Hid (Below w.heap.size w wr) := hB
      clear hB
      go_upto_region 6 with fail
      go_quiet (fail)
      go_wp2_with fail
      go_roundg (n - (k + 1))
      case measure => omega
      case rel => exact ⟨k + 1, rfl, by omega, by go_num, K.drewN HB.out _⟩
    · go_wp2_with fail
      go_ret
      exact ⟨rfl, hB⟩

set_option maxHeartbeats 2000000 in
theorem eight_any {b o cap : Nat} {f : Nat → Int} (hf : ∀ i, 0 ≤ f i ∧ f i < 256) {w : World} (hD : Rd w b o 8 f) :
    Calls Try.prog 20 #[.slice (some ⟨b, o, none⟩) 8 cap] w fun e w' => e = .returned (.int .u64 (E f 0 8)) ∧ w' = w := by
  have c0 := hD.c 0 (by omega)
  have l0 := (hf 0).1
  have u0 := (hf 0).2
  have c1 := hD.c 1 (by omega)
  have l1 := (hf 1).1
  have u1 := (hf 1).2
  have c2 := hD.c 2 (by omega)
  have l2 := (hf 2).1
  have u2 := (hf 2).2
  have c3 := hD.c 3 (by omega)
  have l3 := (hf 3).1
  have u3 := (hf 3).2
  have c4 := hD.c 4 (by omega)
  have l4 := (hf 4).1
  have u4 := (hf 4).2
  have c5 := hD.c 5 (by omega)
  have l5 := (hf 5).1
  have u5 := (hf 5).2
  have c6 := hD.c 6 (by omega)
  have l6 := (hf 6).1
  have u6 := (hf 6).2
  have c7 := hD.c 7 (by omega)
  have l7 := (hf 7).1
  have u7 := (hf 7).2
  rw [Nat.add_zero] at c0
  have HE : Hid (E f 0 8 = f 0 + 256 * (f 1 + 256 * (f 2 + 256 * (f 3 + 256 * (f 4 + 256 * (f 5 + 256 * (f 6 + 256 * f 7))))))) := by
    show _ = _
    simp [E]
    omega
  clear hf hD
  generalize f 0 = x0 at *
  generalize f 1 = x1 at *
  generalize f 2 = x2 at *
  generalize f 3 = x3 at *
  generalize f 4 = x4 at *
  generalize f 5 = x5 at *
  generalize f 6 = x6 at *
  generalize f 7 = x7 at *
  go_enter Try.func20, Try.ntmps20
  go_wp2_with fail
  refine wp_loop_rounds 9 ?_
  rw [rounds_succ]
  go_wp2_with fail
  rw [rounds_succ]
  go_wp2_with fail
  rw [rounds_succ]
  go_wp2_with fail
  rw [rounds_succ]
  go_wp2_with fail
  rw [rounds_succ]
  go_wp2_with fail
  rw [rounds_succ]
  go_wp2_with fail
  rw [rounds_succ]
  go_wp2_with fail
  rw [rounds_succ]
  go_wp2_with fail
  rw [rounds_succ]
  go_wp2_with fail
  go_ret
  exact ⟨ret_int (by rw [HE.out]; omega), rfl⟩
theorem E_shift (f : Nat → Int) (k : Nat) : ∀ r, E (fun i => f (k + i)) 0 r = E f k r
  | 0 => rfl
  | r + 1 => by simp only [E]; rw [E_shift f k r, Nat.zero_add]
theorem eight_at {b o n cap : Nat} (k : Nat) {f : Nat → Int} (hf : ∀ i, 0 ≤ f i ∧ f i < 256) (hk : k + 8 ≤ n) {w : World} (hD : Rd w b o n f) :
    Calls Try.prog 20 #[.slice (some ⟨b, o + k, none⟩) 8 cap] w fun e w' => e = .returned (.int .u64 (E f k 8)) ∧ w' = w := by
  have h := eight_any (cap := cap) (fun i => hf (k + i)) (hD.part k 8 hk)
  rw [E_shift] at h
  exact h
theorem eight_at0 {b o n cap : Nat} {f : Nat → Int} (hf : ∀ i, 0 ≤ f i ∧ f i < 256) (hk : 8 ≤ n) {w : World} (hD : Rd w b o n f) :
    Calls Try.prog 20 #[.slice (some ⟨b, o, none⟩) 8 cap] w fun e w' => e = .returned (.int .u64 (E f 0 8)) ∧ w' = w :=
  eight_at (cap := cap) 0 hf (by omega) hD

theorem words_zero (i : Nat) : L i 0 = 0 := by simp [L]
set_option maxHeartbeats 1000000 in
theorem awake_any (w : World) : Calls Try.prog 7 #[] w fun e w' => e = .returned (.bool true) ∧ Below w.heap.size w w' := by
  have HP : Hid (∀ w, Calls Try.prog 14 #[.agg #[.int .u64 0, .int .u64 0, .int .u64 0, .int .u64 0]] w fun e w' => e = .returned (.slice (some ⟨w.heap.size + 1, 0, none⟩) 32 32) ∧ Row8 w' (w.heap.size + 1) 32 (fun i => Y (31 - i) 0) ∧ Below w.heap.size w w') := by
    intro w
    have h := putBig_any 0 w
    rw [words_zero, words_zero, words_zero, words_zero] at h
    exact h
  go_enter Try.func7, Try.ntmps7
  go_wp2_with (go_at_call 14; with_reducible refine Calls.mono (HP.out _) ?_; rintro e w' ⟨rfl, _, hb⟩)
  go_ret
  exact ⟨rfl, hb⟩
end Go.Proofs.Ytnfgkflhanjjcaa
