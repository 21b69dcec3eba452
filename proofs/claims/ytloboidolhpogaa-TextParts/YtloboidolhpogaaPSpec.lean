/- Signs, and what is no text of any bytes (no function of the program is named). -/
import Derived.Test.YtloboidolhpogaaTSpec
import Derived.Lib.Bytealg
namespace Go.Proofs.Ytloboidolhpogaa

/-- What a sign stands for, or -1. -/
def vi (c : UInt8) : Int := Lib.indexByte signs c
theorem vi_all : ∀ k, k < 256 → (vi (UInt8.ofNat k) = -1 ∧ ∀ n, n < 64 → sgn n ≠ UInt8.ofNat k) ∨ (vi (UInt8.ofNat k) = (vz (UInt8.ofNat k) : Int) ∧ sgn (vz (UInt8.ofNat k)) = UInt8.ofNat k) := by decide +kernel
theorem vi_or (c : UInt8) : (vi c = -1 ∧ ∀ n, n < 64 → sgn n ≠ c) ∨ (vi c = (vz c : Int) ∧ sgn (vz c) = c) := by
  have := vi_all c.toNat c.toNat_lt
  rwa [UInt8.ofNat_toNat] at this
/-- A text without one = at its end. -/
def tr (l : List UInt8) : List UInt8 := if l.getD (l.length - 1) 0 = 61 then l.take (l.length - 1) else l
theorem tr_yes {l : List UInt8} (h : l.getD (l.length - 1) 0 = 61) : tr l = l.take (l.length - 1) := by unfold tr; rw [if_pos h]
theorem tr_no {l : List UInt8} (h : l.getD (l.length - 1) 0 ≠ 61) : tr l = l := by unfold tr; rw [if_neg h]
theorem tr_two {l : List UInt8} (h : 2 ≤ l.length) : tr (tr l) = l.take (l.length - eqs l) := by
  unfold eqs
  by_cases h1 : l.getD (l.length - 1) 0 = 61
  · rw [tr_yes h1, if_pos h1]
    have hl : (l.take (l.length - 1)).length = l.length - 1 := by rw [List.length_take]; omega
    have hg : (l.take (l.length - 1)).getD (l.length - 1 - 1) 0 = l.getD (l.length - 1 - 1) 0 := by
      rw [List.getD_eq_getElem?_getD, List.getElem?_take_of_lt (by omega), ← List.getD_eq_getElem?_getD]
    by_cases h2 : l.getD (l.length - 1 - 1) 0 = 61
    · rw [if_pos h2, tr_yes (by rw [hl, hg]; exact h2), hl, List.take_take]
      congr 1; omega
    · rw [if_neg h2, tr_no (by rw [hl, hg]; exact h2)]
  · rw [if_neg h1, tr_no h1, tr_no h1]
    simp
theorem eqs_le (l : List UInt8) : eqs l ≤ 2 := by unfold eqs; (repeat' split) <;> omega
theorem eqs_last {l : List UInt8} (h : 2 ≤ l.length) : ∀ i, l.length - eqs l ≤ i → i < l.length → l.getD i 0 = 61 := by
  intro i h1 h2
  unfold eqs at h1
  by_cases e1 : l.getD (l.length - 1) 0 = 61
  · rw [if_pos e1] at h1
    by_cases e2 : l.getD (l.length - 1 - 1) 0 = 61
    · rw [if_pos e2] at h1
      rcases (show i = l.length - 1 ∨ i = l.length - 1 - 1 by omega) with e | e <;> rw [e] <;> assumption
    · rw [if_neg e2] at h1
      rw [show i = l.length - 1 by omega]; exact e1
  · rw [if_neg e1] at h1; omega
/-- A group of signs that is some bytes'. -/
def okG (l : List UInt8) (q j : Nat) : Prop := (∀ r, r < min 4 (q - 4 * j) → sgn (vz (l.getD (4 * j + r) 0)) = l.getD (4 * j + r) 0) ∧ part l (4 * j) 4 % 256 ^ (4 - min 4 (q - 4 * j)) = 0
theorem part_pos (l : List UInt8) (m : Nat) : part l m 4 / 262144 = vz (l.getD m 0) ∧ part l m 4 / 4096 % 64 = vz (l.getD (m + 1) 0) ∧ part l m 4 / 64 % 64 = vz (l.getD (m + 2) 0) ∧ part l m 4 % 64 = vz (l.getD (m + 3) 0) := by
  have h0 := vz_lt (l.getD m 0)
  have h1 := vz_lt (l.getD (m + 1) 0)
  have h2 := vz_lt (l.getD (m + 2) 0)
  have h3 := vz_lt (l.getD (m + 3) 0)
  rw [part_four]
  simp only [Nat.add_zero]
  omega
theorem getD_ext {a b : List UInt8} (hl : a.length = b.length) (h : ∀ i, i < b.length → a.getD i 0 = b.getD i 0) : a = b := by
  apply List.ext_getElem hl
  intro i h1 h2
  have := h i h2
  rwa [List.getD_eq_getElem?_getD, List.getD_eq_getElem?_getD, List.getElem?_eq_getElem h1, List.getElem?_eq_getElem h2] at this
/-- Where every group is some bytes', the text is. -/
theorem enc_dl {l : List UInt8} {K : Nat} (hK : l.length = 4 * K) (h0 : 0 < K) (h : ∀ j, j < K → okG l (l.length - eqs l) j) : enc (fun i => (dl l K).getD i 0) (3 * K - eqs l) = l := by
  have he := eqs_le l
  have hlast := eqs_last (l := l) (by omega)
  obtain ⟨E, hE⟩ : ∃ E, E = eqs l := ⟨_, rfl⟩
  rw [← hE] at he hlast h ⊢
  refine getD_ext (by rw [enc_len, hK]; omega) (fun i hi => ?_)
  obtain ⟨k, hk⟩ : ∃ k, k = i / 4 := ⟨_, rfl⟩
  obtain ⟨r, hr⟩ : ∃ r, r = i % 4 := ⟨_, rfl⟩
  have hi4 : i = 4 * k + r := by omega
  have hr4 : r < 4 := by omega
  have hkK : k < K := by omega
  obtain ⟨hs, hp⟩ := h k hkK
  obtain ⟨p0, p1, p2, p3⟩ := part_pos l (4 * k)
  have d0 := dl_at l K k 0 hkK (by omega)
  have d1 := dl_at l K k 1 hkK (by omega)
  have d2 := dl_at l K k 2 hkK (by omega)
  simp only [List.getD_cons_zero, List.getD_cons_succ, Nat.add_zero] at d0 d1 d2
  rw [hi4]
  by_cases hf : k < (3 * K - E) / 3
  · rw [enc_at _ _ k r hf hr4, d0, d1, d2]
    have hm : min 4 (l.length - E - 4 * k) = 4 := by omega
    rw [hm] at hs
    rw [← hs r hr4]
    have hp4 := part_lt l (4 * k) 4
    rcases (show r = 0 ∨ r = 1 ∨ r = 2 ∨ r = 3 by omega) with e | e | e | e <;> subst e <;> simp only [quad, List.getD_cons_zero, List.getD_cons_succ, Nat.add_zero] <;> congr 1 <;> omega
  · have hkk : k = (3 * K - E) / 3 := by omega
    have hKk : K = k + 1 := by omega
    rw [hkk, enc_tail, ← hkk]
    have hp4 := part_lt l (4 * k) 4
    unfold encT
    rcases (show E = 2 ∨ E = 1 by omega) with e | e
    · have hm : min 4 (l.length - E - 4 * k) = 2 := by omega
      rw [hm] at hs hp
      have q2 := hlast (4 * k + 2) (by omega) (by omega)
      have q3 := hlast (4 * k + 3) (by omega) (by omega)
      rw [if_pos (by omega), show 3 * K - E - 1 = 3 * k by omega]
      dsimp only
      rw [d0]
      have hp' : part l (4 * k) 4 % 65536 = 0 := hp
      rcases (show r = 0 ∨ r = 1 ∨ r = 2 ∨ r = 3 by omega) with e | e | e | e <;> subst e <;> simp only [List.getD_cons_zero, List.getD_cons_succ, Nat.add_zero]
      · have hs0 := hs 0 (by omega); rw [Nat.add_zero] at hs0; rw [← hs0]; congr 1; omega
      · rw [← hs 1 (by omega)]; congr 1; omega
      · rw [q2]
      · rw [q3]
    · have hm : min 4 (l.length - E - 4 * k) = 3 := by omega
      rw [hm] at hs hp
      have q3 := hlast (4 * k + 3) (by omega) (by omega)
      rw [if_neg (by omega), if_pos (by omega), show 3 * K - E - 1 = 3 * k + 1 by omega, show 3 * K - E - 2 = 3 * k by omega]
      dsimp only
      rw [d0, d1]
      have hp' : part l (4 * k) 4 % 256 = 0 := hp
      rcases (show r = 0 ∨ r = 1 ∨ r = 2 ∨ r = 3 by omega) with e | e | e | e <;> subst e <;> simp only [List.getD_cons_zero, List.getD_cons_succ, Nat.add_zero]
      · have hs0 := hs 0 (by omega); rw [Nat.add_zero] at hs0; rw [← hs0]; congr 1; omega
      · rw [← hs 1 (by omega)]; congr 1; omega
      · rw [← hs 2 (by omega)]; congr 1; omega
      · rw [q3]
/-- The groups of a text of some bytes are. -/
theorem okG_enc {f : Nat → Nat} (hf : ∀ i, f i < 256) {n : Nat} (h0 : 0 < n) (j : Nat) (hj : 4 * j < (enc f n).length) : okG (enc f n) ((enc f n).length - eqs (enc f n)) j := by
  have hl := enc_len f n
  have he := eqs_enc hf n h0
  have hel := eqs_le (enc f n)
  have hss : ∀ v, v < 64 → sgn (vz (sgn v)) = sgn v := fun v hv => by rw [vz_sgn v hv]
  unfold okG
  by_cases hk : j < n / 3
  · have hm : min 4 ((enc f n).length - eqs (enc f n) - 4 * j) = 4 := by omega
    have hx := hf (3 * j)
    have hy := hf (3 * j + 1)
    have hz := hf (3 * j + 2)
    rw [hm]
    refine ⟨fun r hr => ?_, Nat.mod_one _⟩
    rw [enc_at f n j r hk hr]
    rcases (show r = 0 ∨ r = 1 ∨ r = 2 ∨ r = 3 by omega) with e | e | e | e <;> subst e <;> simp only [quad, List.getD_cons_zero, List.getD_cons_succ] <;> exact hss _ (by omega)
  · have hkk : j = n / 3 := by omega
    rcases (show n % 3 = 1 ∨ n % 3 = 2 by omega) with h | h
    · have hm : min 4 ((enc f n).length - eqs (enc f n) - 4 * j) = 2 := by omega
      have hx := hf (n - 1)
      rw [hm, hkk, part_one hf n h]
      refine ⟨fun r hr => ?_, by show _ % 65536 = 0; omega⟩
      rw [enc_tail]
      unfold encT
      rw [if_pos h]
      rcases (show r = 0 ∨ r = 1 by omega) with e | e <;> subst e <;> simp only [List.getD_cons_zero, List.getD_cons_succ] <;> exact hss _ (by omega)
    · have hm : min 4 ((enc f n).length - eqs (enc f n) - 4 * j) = 3 := by omega
      have hx := hf (n - 2)
      have hy := hf (n - 1)
      rw [hm, hkk, part_two hf n h]
      refine ⟨fun r hr => ?_, by show _ % 256 = 0; omega⟩
      rw [enc_tail]
      unfold encT
      rw [if_neg (by omega), if_pos h]
      rcases (show r = 0 ∨ r = 1 ∨ r = 2 by omega) with e | e | e <;> subst e <;> simp only [List.getD_cons_zero, List.getD_cons_succ] <;> exact hss _ (by omega)
theorem enc_not {l : List UInt8} {K : Nat} (hK : l.length = 4 * K) (h0 : 0 < K) {j : Nat} (hj : j < K) (h : ¬ okG l (l.length - eqs l) j) : enc (fun i => (dl l K).getD i 0) (3 * K - eqs l) ≠ l := by
  intro he
  apply h
  have hel := eqs_le l
  have := okG_enc (f := fun i => (dl l K).getD i 0) (getD_lt (dl_lt l K)) (n := 3 * K - eqs l) (by omega) j (by rw [he]; omega)
  rwa [he] at this
end Go.Proofs.Ytloboidolhpogaa
