/- Two numbers as bytes (DER), by themselves: what a pair's bytes are, that they tell the pair, and what else they tell. -/
import Derived.Test.YtlpjdhoboebbfaaDoorNum
namespace Go.Proofs.YtlpjdhoboebbfaaDoor

/-- How many bytes a number's INTEGER has: as few as leave its first bit free. -/
def msz (a : Nat) : Nat := ((List.range 33).find? (fun k => decide (a < 128 * 256 ^ k))).getD 32 + 1
/-- A number's m bytes, the most significant first. -/
def be (a : Nat) : Nat → List Nat
  | 0 => []
  | m + 1 => be (a / 256) m ++ [a % 256]
/-- The number of bytes, the most significant first. -/
def num (l : List Nat) : Nat := l.foldl (fun x b => 256 * x + b) 0
def dI (a : Nat) : List Nat := 2 :: msz a :: be a (msz a)
def dE (r s : Nat) : List Nat := 48 :: (dI r ++ dI s).length :: (dI r ++ dI s)
/-- The pair whose bytes these are, if there is one. -/
def ddec (l : List Nat) : Option (Nat × Nat) :=
  let m := l.getD 3 0
  let r := num ((l.drop 4).take m) % 2 ^ 256
  let s := num (l.drop (6 + m)) % 2 ^ 256
  if dE r s = l then some (r, s) else none

theorem be_len (a m : Nat) : (be a m).length = m := by
  induction m generalizing a with
  | zero => rfl
  | succ m ih => simp [be, ih]
theorem be_lt (a m : Nat) : ∀ x ∈ be a m, x < 256 := by
  induction m generalizing a with
  | zero => intro x hx; cases hx
  | succ m ih =>
    intro x hx
    simp only [be, List.mem_append, List.mem_singleton] at hx
    rcases hx with hx | rfl
    · exact ih _ x hx
    · exact Nat.mod_lt _ (by decide)
theorem num_snoc (l : List Nat) (b : Nat) : num (l ++ [b]) = 256 * num l + b := by simp [num]
theorem num_be (a m : Nat) : num (be a m) = a % 256 ^ m := by
  induction m generalizing a with
  | zero => simp [be, num, Nat.mod_one]
  | succ m ih =>
    rw [be, num_snoc, ih, Nat.pow_succ, Nat.mul_comm (256 ^ m) 256, Nat.mod_mul]
    omega
theorem be_num {l : List Nat} (h : ∀ x ∈ l, x < 256) : be (num l) l.length = l := by
  have key : ∀ (n : Nat) (l : List Nat), l.length = n → (∀ x ∈ l, x < 256) → be (num l) n = l := by
    intro n
    induction n with
    | zero => intro l hl _; rw [List.eq_nil_of_length_eq_zero hl]; rfl
    | succ n ih =>
      intro l hl hx
      obtain ⟨q, b, rfl⟩ : ∃ q b, l = q ++ [b] := by
        refine ⟨l.dropLast, l.getLast (by intro e; subst e; cases hl), ?_⟩
        exact (List.dropLast_concat_getLast _).symm
      have hb : b < 256 := hx b (by simp)
      rw [num_snoc, be, show (256 * num q + b) / 256 = num q by omega, show (256 * num q + b) % 256 = b by omega, ih q (by simpa using hl) (fun x hq => hx x (by simp [hq]))]
  exact key _ l rfl h
theorem be_at (a m : Nat) : ∀ i, i < m → (be a m)[i]? = some (a / 256 ^ (m - 1 - i) % 256) := by
  induction m generalizing a with
  | zero => intro i hi; omega
  | succ m ih =>
    intro i hi
    rw [be]
    by_cases h : i < m
    · rw [List.getElem?_append_left (by rw [be_len]; exact h), ih _ i h, Nat.div_div_eq_div_mul, Nat.mul_comm 256, ← Nat.pow_succ, show (m - 1 - i).succ = m + 1 - 1 - i by omega]
    · obtain rfl : i = m := by omega
      rw [List.getElem?_append_right (by rw [be_len]; exact Nat.le_refl _), be_len]
      simp
theorem be_head (a m : Nat) (h : a < 256 ^ m) : be a (m + 1) = 0 :: be a m := by
  induction m generalizing a with
  | zero => simp only [be, List.nil_append]; rw [show a = 0 by simpa using h]
  | succ m ih =>
    rw [be, ih (a / 256) (by rw [Nat.pow_succ] at h; omega), be]
    rfl
/-- The number of an INTEGER's bytes. -/
theorem msz_spec {a : Nat} (h : a < 2 ^ 256) : a < 128 * 256 ^ (msz a - 1) ∧ (∀ k, k < msz a - 1 → 128 * 256 ^ k ≤ a) ∧ 1 ≤ msz a ∧ msz a ≤ 33 := by
  have h33 : a < 128 * 256 ^ 32 := Nat.lt_of_lt_of_le h (by decide)
  unfold msz
  cases hf : (List.range 33).find? (fun k => decide (a < 128 * 256 ^ k)) with
  | none =>
    have := List.find?_eq_none.1 hf 32 (by simp)
    simp at this
    omega
  | some k =>
    have h1 := List.find?_some hf
    have hk : k < 33 := List.mem_range.1 (List.mem_of_find?_eq_some hf)
    refine ⟨of_decide_eq_true h1, fun j hj => ?_, by omega, by simp; omega⟩
    have hj2 : j < k := by simpa using hj
    rw [List.find?_range_eq_some] at hf
    have := hf.2.2 j hj2
    simpa using this
theorem msz_of {a n : Nat} (ha : a < 2 ^ 256) (h1 : a < 128 * 256 ^ (n - 1)) (h2 : n = 1 ∨ 128 * 256 ^ (n - 2) ≤ a) (hn : 1 ≤ n) : msz a = n := by
  obtain ⟨s1, s2, s3, s4⟩ := msz_spec ha
  rcases Nat.lt_trichotomy (msz a) n with h | h | h
  · exfalso
    rcases h2 with h2 | h2
    · omega
    · have : 256 ^ (msz a - 1) ≤ 256 ^ (n - 2) := Nat.pow_le_pow_right (by decide) (by omega)
      have := Nat.mul_le_mul_left 128 this
      omega
  · exact h
  · have := s2 (n - 1) (by omega)
    omega
theorem be_msz {a : Nat} (h : a < 2 ^ 256) : num (be a (msz a)) = a := by
  obtain ⟨s1, _, s3, _⟩ := msz_spec h
  rw [num_be, Nat.mod_eq_of_lt]
  have : 256 ^ msz a = 256 * 256 ^ (msz a - 1) := by
    rw [← Nat.pow_succ', show (msz a - 1).succ = msz a by omega]
  omega
theorem dI_len (a : Nat) : (dI a).length = msz a + 2 := by simp [dI, be_len]
theorem dE_len (r s : Nat) : (dE r s).length = msz r + msz s + 6 := by simp [dE, dI_len]; omega
theorem dE_bd {r s : Nat} (hr : r < 2 ^ 256) (hs : s < 2 ^ 256) : 8 ≤ (dE r s).length ∧ (dE r s).length ≤ 72 := by
  obtain ⟨_, _, a, b⟩ := msz_spec hr
  obtain ⟨_, _, c, d⟩ := msz_spec hs
  rw [dE_len]
  omega
theorem dE_eq (r s : Nat) : dE r s = 48 :: (msz r + msz s + 4) :: 2 :: msz r :: (be r (msz r) ++ 2 :: msz s :: be s (msz s)) := by
  have e : (dI r ++ dI s).length = msz r + msz s + 4 := by simp [dI_len]; omega
  unfold dE
  rw [e]
  rfl
theorem dE_r (r s : Nat) : ((dE r s).drop 4).take (msz r) = be r (msz r) := by
  rw [dE_eq]
  show (be r (msz r) ++ 2 :: msz s :: be s (msz s)).take (msz r) = _
  rw [List.take_append_of_le_length (by rw [be_len]; exact Nat.le_refl _), List.take_of_length_le (by rw [be_len]; exact Nat.le_refl _)]
theorem dE_s (r s : Nat) : (dE r s).drop (6 + msz r) = be s (msz s) := by
  rw [dE_eq, show 6 + msz r = 4 + (msz r + 2) by omega, ← List.drop_drop]
  show List.drop (msz r + 2) (be r (msz r) ++ 2 :: msz s :: be s (msz s)) = _
  rw [← List.drop_drop, List.drop_left' (be_len _ _)]
  rfl
theorem dE_lt {r s : Nat} (hr : r < 2 ^ 256) (hs : s < 2 ^ 256) : ∀ x ∈ dE r s, x < 256 := by
  obtain ⟨_, _, _, a⟩ := msz_spec hr
  obtain ⟨_, _, _, b⟩ := msz_spec hs
  rw [dE_eq]
  intro x hx
  simp only [List.mem_cons, List.mem_append] at hx
  rcases hx with rfl | rfl | rfl | rfl | hx | rfl | rfl | hx
  · omega
  · omega
  · omega
  · omega
  · exact be_lt _ _ x hx
  · omega
  · omega
  · exact be_lt _ _ x hx
theorem ddec_of {r s : Nat} (hr : r < 2 ^ 256) (hs : s < 2 ^ 256) : ddec (dE r s) = some (r, s) := by
  have e3 : (dE r s).getD 3 0 = msz r := by rw [dE_eq]; rfl
  unfold ddec
  simp only [e3, dE_r, dE_s, be_msz hr, be_msz hs, Nat.mod_eq_of_lt hr, Nat.mod_eq_of_lt hs, if_true]
theorem ddec_is {l : List Nat} {r s : Nat} (h : ddec l = some (r, s)) : dE r s = l ∧ r < 2 ^ 256 ∧ s < 2 ^ 256 := by
  unfold ddec at h
  simp only at h
  split at h
  · rename_i he
    cases h
    exact ⟨he, Nat.mod_lt _ (by decide), Nat.mod_lt _ (by decide)⟩
  · cases h
theorem ddec_none {l : List Nat} (h : ∀ r s, r < 2 ^ 256 → s < 2 ^ 256 → dE r s ≠ l) : ddec l = none := by
  cases hd : ddec l with
  | none => rfl
  | some p =>
    obtain ⟨e, hr, hs⟩ := ddec_is (r := p.1) (s := p.2) hd
    exact absurd e (h _ _ hr hs)
theorem dE_inj {r s r2 s2 : Nat} (hr : r < 2 ^ 256) (hs : s < 2 ^ 256) (hr2 : r2 < 2 ^ 256) (hs2 : s2 < 2 ^ 256) (h : dE r s = dE r2 s2) : r = r2 ∧ s = s2 := by
  have e := ddec_of hr hs
  rw [h, ddec_of hr2 hs2] at e
  cases e
  exact ⟨rfl, rfl⟩
theorem dE_two (r s : Nat) : (dE r s)[1]? = some ((dE r s).length - 2) := by
  rw [dE_len, dE_eq]
  show some _ = some _
  congr 1
/-- Bytes without some at the end, or with some more, are none's. -/
theorem ddec_cut {r s k : Nat} (h : k < (dE r s).length) : ddec ((dE r s).take k) = none := by
  refine ddec_none fun r2 s2 hr2 hs2 e => ?_
  have hl : (dE r2 s2).length = k := by rw [e, List.length_take]; omega
  have hb := (dE_bd hr2 hs2).1
  have h1 := dE_two r2 s2
  rw [e, List.getElem?_take_of_lt (by omega), dE_two r s] at h1
  have h2 := Option.some.inj h1
  rw [List.length_take] at h2
  omega
theorem ddec_more {r s : Nat} {q : List Nat} (h : q ≠ []) : ddec (dE r s ++ q) = none := by
  refine ddec_none fun r2 s2 _ _ e => ?_
  have h1 := dE_two r2 s2
  have hl : 2 ≤ (dE r s).length := by rw [dE_len]; omega
  rw [e, List.getElem?_append_left (by omega), dE_two r s] at h1
  have h2 := Option.some.inj h1
  rw [List.length_append] at h2
  have : 0 < q.length := List.length_pos_iff.2 h
  omega
/-- What the first byte of an INTEGER tells. -/
theorem be_first {a : Nat} (h : a < 2 ^ 256) : ∃ x, (be a (msz a))[0]? = some x ∧ x < 128 ∧ (msz a = 1 ↔ a < 128) ∧ (msz a = 1 ∨ x ≠ 0 ∨ ∃ y, (be a (msz a))[1]? = some y ∧ 128 ≤ y) := by
  obtain ⟨s1, s2, s3, s4⟩ := msz_spec h
  have hx : a / 256 ^ (msz a - 1) < 128 := Nat.div_lt_of_lt_mul (by rw [Nat.mul_comm]; exact s1)
  refine ⟨a / 256 ^ (msz a - 1), ?_, hx, ⟨fun e => by rw [e] at s1; simpa using s1, fun h1 => msz_of h (by simpa using h1) (Or.inl rfl) (by decide)⟩, ?_⟩
  · rw [be_at a (msz a) 0 (by omega), show msz a - 1 - 0 = msz a - 1 by omega, Nat.mod_eq_of_lt (by omega)]
  · by_cases h1 : msz a = 1
    · exact Or.inl h1
    · refine Or.inr ?_
      by_cases h0 : a / 256 ^ (msz a - 1) = 0
      · refine Or.inr ⟨_, be_at a (msz a) 1 (by omega), ?_⟩
        have h2 := s2 (msz a - 2) (by omega)
        have h3 : a < 256 ^ (msz a - 1) := by
          rcases Nat.lt_or_ge a (256 ^ (msz a - 1)) with q | q
          · exact q
          · have := Nat.div_pos q (Nat.pow_pos (by decide)); omega
        have e : 256 ^ (msz a - 1) = 256 ^ (msz a - 2) * 256 := by rw [← Nat.pow_succ, show (msz a - 2).succ = msz a - 1 by omega]
        have h4 : 128 ≤ a / 256 ^ (msz a - 2) := (Nat.le_div_iff_mul_le (Nat.pow_pos (by decide))).2 h2
        have h5 : a / 256 ^ (msz a - 2) < 256 := Nat.div_lt_of_lt_mul (by rw [e] at h3; exact h3)
        rw [show msz a - 1 - 1 = msz a - 2 by omega, Nat.mod_eq_of_lt h5]
        exact h4
      · exact Or.inl h0
/-- The document's way: 32 bytes, from the first on that isn't 0, with a 0 ahead where the first one is 128 or more. -/
theorem dI_way {a n : Nat} (h : a < 2 ^ 256) (hn : 1 ≤ n) (h1 : a < 256 ^ n) (h2 : n = 1 ∨ 256 ^ (n - 1) ≤ a) : dI a = if 128 ≤ a / 256 ^ (n - 1) then 2 :: (n + 1) :: 0 :: be a n else 2 :: n :: be a n := by
  have hp : 0 < 256 ^ (n - 1) := Nat.pow_pos (by decide)
  split
  · rename_i hq
    have hq2 : 128 * 256 ^ (n - 1) ≤ a := (Nat.le_div_iff_mul_le hp).1 hq
    have e : msz a = n + 1 := msz_of h (by
      show a < 128 * 256 ^ n
      omega) (Or.inr (by rw [show n + 1 - 2 = n - 1 by omega]; exact hq2)) (by omega)
    unfold dI
    rw [e, be_head a n h1]
  · rename_i hq
    have hq2 : a < 128 * 256 ^ (n - 1) := by
      rcases Nat.lt_or_ge a (128 * 256 ^ (n - 1)) with q | q
      · exact q
      · exact absurd ((Nat.le_div_iff_mul_le hp).2 q) hq
    have e : msz a = n := msz_of h hq2 (by
      rcases h2 with h2 | h2
      · exact Or.inl h2
      · by_cases h9 : n = 1
        · exact Or.inl h9
        · right
          have e : 256 ^ (n - 1) = 256 ^ (n - 2) * 256 := by rw [← Nat.pow_succ, show (n - 2).succ = n - 1 by omega]
          omega) hn
    unfold dI
    rw [e]
end Go.Proofs.YtlpjdhoboebbfaaDoor
