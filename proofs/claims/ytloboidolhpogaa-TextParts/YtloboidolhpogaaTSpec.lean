/- Plain facts on texts of bytes: what is encoded is decoded. -/
import Derived.Test.YtloboidolhpogaaTDecB
namespace Go.Proofs.Ytloboidolhpogaa

theorem sgn_not : ∀ n, n < 64 → sgn n ≠ 61 := by decide +kernel
theorem vz_61 : vz 61 = 0 := by decide +kernel
theorem quad_len (x y z : Nat) : (quad x y z).length = 4 := rfl
theorem encW_at (f : Nat → Nat) : ∀ (K k r : Nat), k < K → r < 4 → (encW f K).getD (4 * k + r) 0 = (quad (f (3 * k)) (f (3 * k + 1)) (f (3 * k + 2))).getD r 0
  | 0, k, r, h, _ => by omega
  | K + 1, k, r, h, hr => by
    simp only [encW]
    by_cases e : k = K
    · subst e
      rw [List.getD_eq_getElem?_getD, List.getElem?_append_right (by rw [encW_len]; omega), encW_len, show 4 * k + r - 4 * k = r by omega, List.getD_eq_getElem?_getD]
    · rw [List.getD_eq_getElem?_getD, List.getElem?_append_left (by rw [encW_len]; omega), ← List.getD_eq_getElem?_getD]
      exact encW_at f K k r (by omega) hr
theorem enc_at (f : Nat → Nat) (n k r : Nat) (h : k < n / 3) (hr : r < 4) : (enc f n).getD (4 * k + r) 0 = (quad (f (3 * k)) (f (3 * k + 1)) (f (3 * k + 2))).getD r 0 := by
  unfold enc
  rw [List.getD_eq_getElem?_getD, List.getElem?_append_left (by rw [encW_len]; omega), ← List.getD_eq_getElem?_getD]
  exact encW_at f _ k r h hr
theorem enc_tail (f : Nat → Nat) (n r : Nat) : (enc f n).getD (4 * (n / 3) + r) 0 = (encT f n).getD r 0 := by
  unfold enc
  rw [List.getD_eq_getElem?_getD, List.getElem?_append_right (by rw [encW_len]; omega), encW_len, show 4 * (n / 3) + r - 4 * (n / 3) = r by omega, ← List.getD_eq_getElem?_getD]
theorem part_four (l : List UInt8) (m : Nat) : part l m 4 = ((vz (l.getD (m + 0) 0) * 64 + vz (l.getD (m + 1) 0)) * 64 + vz (l.getD (m + 2) 0)) * 64 + vz (l.getD (m + 3) 0) := by
  simp only [part]; omega
theorem part_enc {f : Nat → Nat} (hf : ∀ i, f i < 256) (n k : Nat) (h : k < n / 3) : part (enc f n) (4 * k) 4 = f (3 * k) * 65536 + f (3 * k + 1) * 256 + f (3 * k + 2) := by
  have hx := hf (3 * k)
  have hy := hf (3 * k + 1)
  have hz := hf (3 * k + 2)
  rw [part_four, enc_at f n k 0 h (by omega), enc_at f n k 1 h (by omega), enc_at f n k 2 h (by omega), enc_at f n k 3 h (by omega)]
  simp only [quad, List.getD_cons_zero, List.getD_cons_succ]
  rw [vz_sgn _ (by omega), vz_sgn _ (by omega), vz_sgn _ (by omega), vz_sgn _ (by omega)]
  omega
theorem part_one {f : Nat → Nat} (hf : ∀ i, f i < 256) (n : Nat) (h : n % 3 = 1) : part (enc f n) (4 * (n / 3)) 4 = f (n - 1) * 65536 := by
  have hx := hf (n - 1)
  rw [part_four, enc_tail, enc_tail, enc_tail, enc_tail]
  unfold encT
  rw [if_pos h]
  simp only [List.getD_cons_zero, List.getD_cons_succ]
  rw [vz_sgn _ (by omega), vz_sgn _ (by omega), vz_61]
  omega
theorem part_two {f : Nat → Nat} (hf : ∀ i, f i < 256) (n : Nat) (h : n % 3 = 2) : part (enc f n) (4 * (n / 3)) 4 = f (n - 2) * 65536 + f (n - 1) * 256 := by
  have hx := hf (n - 2)
  have hy := hf (n - 1)
  rw [part_four, enc_tail, enc_tail, enc_tail, enc_tail]
  unfold encT
  rw [if_neg (by omega), if_pos h]
  simp only [List.getD_cons_zero, List.getD_cons_succ]
  rw [vz_sgn _ (by omega), vz_sgn _ (by omega), vz_sgn _ (by omega), vz_61]
  omega
theorem dl_at (l : List UInt8) : ∀ (K k r : Nat), k < K → r < 3 → (dl l K).getD (3 * k + r) 0 = [part l (4 * k) 4 / 65536, part l (4 * k) 4 / 256 % 256, part l (4 * k) 4 % 256].getD r 0
  | 0, k, r, h, _ => by omega
  | K + 1, k, r, h, hr => by
    simp only [dl]
    by_cases e : k = K
    · subst e
      rw [List.getD_eq_getElem?_getD, List.getElem?_append_right (by rw [dl_len]; omega), dl_len, show 3 * k + r - 3 * k = r by omega, List.getD_eq_getElem?_getD]
    · rw [List.getD_eq_getElem?_getD, List.getElem?_append_left (by rw [dl_len]; omega), ← List.getD_eq_getElem?_getD]
      exact dl_at l K k r (by omega) hr
/-- How many = there are tells how many bytes. -/
theorem eqs_enc {f : Nat → Nat} (hf : ∀ i, f i < 256) (n : Nat) (h0 : 0 < n) : 3 * ((enc f n).length / 4) - eqs (enc f n) = n := by
  have hl := enc_len f n
  unfold eqs
  rcases (show n % 3 = 0 ∨ n % 3 = 1 ∨ n % 3 = 2 by omega) with h | h | h
  · have e : (enc f n).length - 1 = 4 * (n / 3 - 1) + 3 := by omega
    have hz := hf (3 * (n / 3 - 1) + 2)
    rw [e, enc_at f n (n / 3 - 1) 3 (by omega) (by omega)]
    simp only [quad, List.getD_cons_zero, List.getD_cons_succ]
    rw [if_neg (sgn_not _ (by omega))]
    omega
  · have e : (enc f n).length - 1 = 4 * (n / 3) + 3 := by omega
    have e2 : (enc f n).length - 1 - 1 = 4 * (n / 3) + 2 := by omega
    rw [e2, e, enc_tail, enc_tail]
    unfold encT
    rw [if_pos h]
    simp only [List.getD_cons_zero, List.getD_cons_succ, if_true]
    omega
  · have e : (enc f n).length - 1 = 4 * (n / 3) + 3 := by omega
    have e2 : (enc f n).length - 1 - 1 = 4 * (n / 3) + 2 := by omega
    have hy := hf (n - 1)
    have hT : encT f n = [sgn (f (n - 2) / 4), sgn (f (n - 2) % 4 * 16 + f (n - 1) / 16), sgn (f (n - 1) % 16 * 4), 61] := by unfold encT; rw [if_neg (by omega), if_pos h]
    rw [e2, e, enc_tail, enc_tail, hT]
    simp only [List.getD_cons_zero, List.getD_cons_succ, if_true]
    rw [if_neg (sgn_not _ (by omega))]
    omega
/-- What is encoded is decoded. -/
theorem dl_enc {f : Nat → Nat} (hf : ∀ i, f i < 256) (n i : Nat) (hi : i < n) : (dl (enc f n) ((enc f n).length / 4)).getD i 0 = f i := by
  have hl := enc_len f n
  have hlen : (enc f n).length / 4 = (n + 2) / 3 := by omega
  have e : i = 3 * (i / 3) + i % 3 := by omega
  have ha := hf (3 * (i / 3))
  have hb := hf (3 * (i / 3) + 1)
  have hc := hf (3 * (i / 3) + 2)
  rw [hlen, e, dl_at _ _ (i / 3) (i % 3) (by omega) (by omega)]
  by_cases hk : i / 3 < n / 3
  · rw [part_enc hf n _ hk]
    rcases (show i % 3 = 0 ∨ i % 3 = 1 ∨ i % 3 = 2 by omega) with h | h | h <;> rw [h] <;> simp only [List.getD_cons_zero, List.getD_cons_succ, Nat.add_zero] <;> omega
  · have hkk : i / 3 = n / 3 := by omega
    rcases (show n % 3 = 1 ∨ n % 3 = 2 by omega) with h | h
    · have h0 : i % 3 = 0 := by omega
      have e1 : n - 1 = 3 * (n / 3) := by omega
      rw [hkk] at ha hb hc ⊢
      rw [part_one hf n h, h0, e1]
      simp only [List.getD_cons_zero, Nat.add_zero]
      omega
    · have e1 : n - 1 = 3 * (n / 3) + 1 := by omega
      have e2 : n - 2 = 3 * (n / 3) := by omega
      rw [hkk] at ha hb hc ⊢
      rw [part_two hf n h, e1, e2]
      rcases (show i % 3 = 0 ∨ i % 3 = 1 by omega) with h' | h' <;> rw [h'] <;> simp only [List.getD_cons_zero, List.getD_cons_succ, Nat.add_zero] <;> omega
/-- Two texts are the same just if the bytes are. -/
theorem enc_inj {f g : Nat → Nat} (hf : ∀ i, f i < 256) (hg : ∀ i, g i < 256) {n m : Nat} (h : enc f n = enc g m) : n = m ∧ ∀ i, i < n → f i = g i := by
  have hn : n = m := by
    by_cases h0 : n = 0
    · have l1 := enc_len f n
      have l2 := enc_len g m
      rw [h] at l1
      omega
    · by_cases h1 : m = 0
      · have l1 := enc_len f n
        have l2 := enc_len g m
        rw [h] at l1
        omega
      · have e1 := eqs_enc hf n (by omega)
        have e2 := eqs_enc hg m (by omega)
        rw [h] at e1
        omega
  subst hn
  refine ⟨rfl, fun i hi => ?_⟩
  rw [← dl_enc hf n i hi, ← dl_enc hg n i hi, h]
end Go.Proofs.Ytloboidolhpogaa
