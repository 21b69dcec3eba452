/- Plain arithmetic: a number whose powers of some g have the full order is a prime, and every number that it doesn't divide has a power 1. -/
import Derived.Below
namespace Go.Proofs.YtffkeabpdmpjbaaDoor

/-- A prime. -/
structure Prm (p : Nat) : Prop where
  two : 2 ≤ p
  only : ∀ d, d ∣ p → d = 1 ∨ d = p

theorem prm_dvd_mul {p a b : Nat} (hp : Prm p) (h : p ∣ a * b) : p ∣ a ∨ p ∣ b := by
  rcases hp.only (Nat.gcd p a) (Nat.gcd_dvd_left p a) with h1 | h1
  · exact Or.inr (Nat.Coprime.dvd_of_dvd_mul_left h1 h)
  · exact Or.inl (h1 ▸ Nat.gcd_dvd_right p a)
theorem prm_factor (n : Nat) : 2 ≤ n → ∃ p, Prm p ∧ p ∣ n := by
  induction n using Nat.strongRecOn with
  | ind n ih =>
    intro h
    by_cases hp : ∀ d, d ∣ n → d = 1 ∨ d = n
    · exact ⟨n, ⟨h, hp⟩, Nat.dvd_refl n⟩
    · have ⟨d, hd⟩ : ∃ d, ¬ (d ∣ n → d = 1 ∨ d = n) := Classical.not_forall.1 hp
      have hd1 : d ∣ n := Classical.byContradiction fun hc => hd fun h => (hc h).elim
      have hd2 : ¬ (d = 1 ∨ d = n) := fun hc => hd fun _ => hc
      have hle : d ≤ n := Nat.le_of_dvd (by omega) hd1
      have h0 : d ≠ 0 := fun e => by rw [e] at hd1; have := Nat.eq_zero_of_zero_dvd hd1; omega
      obtain ⟨p, hp, hpd⟩ := ih d (by omega) (by omega)
      exact ⟨p, hp, Nat.dvd_trans hpd hd1⟩
/-- The product of a list. -/
def prodL : List Nat → Nat
  | [] => 1
  | q :: qs => q * prodL qs
theorem prm_mem {p : Nat} (hp : Prm p) : ∀ (qs : List Nat), (∀ q ∈ qs, Prm q) → p ∣ prodL qs → p ∈ qs
  | [], _, h => by
    have := Nat.le_of_dvd (by decide) h
    have := hp.two
    simp [prodL] at *
    omega
  | q :: qs, hq, h => by
    rcases prm_dvd_mul hp h with h1 | h1
    · rcases (hq q (by simp)).only p h1 with h2 | h2
      · have := hp.two
        omega
      · simp [h2]
    · have := prm_mem hp qs (fun q hq' => hq q (by simp [hq'])) h1
      simp [this]

theorem pigeon : ∀ (n : Nat) (f : Nat → Nat), (∀ i, i < n → f i < n) → (∀ i j, i < n → j < n → f i = f j → i = j) → ∀ v, v < n → ∃ i, i < n ∧ f i = v
  | 0, _, _, _, v, hv => by omega
  | n + 1, f, hr, hi, v, hv => by
    have hc := hr n (by omega)
    have ih := pigeon n (fun i => if f i = n then f n else f i) (fun i h => by
      have h1 := hr i (by omega)
      show (if f i = n then f n else f i) < n
      split
      · have : f n ≠ n := fun e => by have := hi i n (by omega) (by omega) (by omega); omega
        omega
      · omega) (fun i j h1 h2 e => by
      have e' : (if f i = n then f n else f i) = (if f j = n then f n else f j) := e
      split at e' <;> split at e'
      · exact hi i j (by omega) (by omega) (by omega)
      · have := hi n j (by omega) (by omega) e'; omega
      · have := hi i n (by omega) (by omega) e'; omega
      · exact hi i j (by omega) (by omega) e')
    by_cases h1 : v = f n
    · exact ⟨n, by omega, h1.symm⟩
    · by_cases h2 : v = n
      · obtain ⟨i, hin, he⟩ := ih (f n) (by omega)
        have he' : (if f i = n then f n else f i) = f n := he
        split at he'
        · exact ⟨i, by omega, by omega⟩
        · have := hi i n (by omega) (by omega) he'
          omega
      · obtain ⟨i, hin, he⟩ := ih v (by omega)
        have he' : (if f i = n then f n else f i) = v := he
        split at he'
        · exact absurd he'.symm h1
        · exact ⟨i, by omega, he'⟩

theorem pow_one_mod {m x : Nat} (hm : 1 < m) (h : x % m = 1) (k : Nat) : x ^ k % m = 1 := by
  rw [Nat.pow_mod, h, Nat.one_pow, Nat.mod_eq_of_lt hm]

/-- No lesser power is 1. -/
theorem order_full {m g : Nat} {qs : List Nat} (hm : 2 < m) (hN : m - 1 = prodL qs) (hq : ∀ q ∈ qs, Prm q) (h1 : g ^ (m - 1) % m = 1) (h2 : ∀ q ∈ qs, g ^ ((m - 1) / q) % m ≠ 1) (d : Nat) : 0 < d → d < m - 1 → g ^ d % m ≠ 1 := by
  induction d using Nat.strongRecOn with
  | ind d ih =>
    intro h0 hd he
    by_cases hr : (m - 1) % d = 0
    · obtain ⟨k, hk⟩ := Nat.dvd_of_mod_eq_zero hr
      have hk2 : 2 ≤ k := by
        rcases k with _ | _ | k
        · omega
        · omega
        · omega
      obtain ⟨p, hp, hpk⟩ := prm_factor k hk2
      obtain ⟨j, hj⟩ := hpk
      have hmem := prm_mem hp qs hq (hN ▸ ⟨d * j, by rw [hk, hj, Nat.mul_left_comm]⟩)
      refine h2 p hmem ?_
      have e : (m - 1) / p = d * j := by
        rw [hk, hj, Nat.mul_left_comm, Nat.mul_div_cancel_left _ (by have := hp.two; omega)]
      rw [e, Nat.pow_mul]
      exact pow_one_mod (by omega) he j
    · have hlt := Nat.mod_lt (m - 1) h0
      refine ih ((m - 1) % d) hlt (by omega) (by omega) ?_
      have e : g ^ (m - 1) = (g ^ d) ^ ((m - 1) / d) * g ^ ((m - 1) % d) := by
        rw [← Nat.pow_mul, ← Nat.pow_add, Nat.div_add_mod]
      rw [e, Nat.mul_mod, pow_one_mod (by omega) he, Nat.one_mul, Nat.mod_mod] at h1
      exact h1

theorem lucas {m g : Nat} {qs : List Nat} (hm : 2 < m) (hN : m - 1 = prodL qs) (hq : ∀ q ∈ qs, Prm q) (h1 : g ^ (m - 1) % m = 1) (h2 : ∀ q ∈ qs, g ^ ((m - 1) / q) % m ≠ 1) :
    (∀ a, ¬ m ∣ a → a ^ (m - 1) % m = 1) ∧ Prm m := by
  have ord := order_full hm hN hq h1 h2
  have unit : ∀ i, i < m - 1 → g ^ i % m ≠ 0 := by
    intro i hi h0
    have e : g ^ (m - 1) = g ^ i * g ^ (m - 1 - i) := by rw [← Nat.pow_add]; congr 1; omega
    rw [e, Nat.mul_mod, h0, Nat.zero_mul, Nat.zero_mod] at h1
    omega
  have inj : ∀ i j, i < j → j < m - 1 → g ^ i % m = g ^ j % m → False := by
    intro i j hij hj he
    refine ord (j - i) (by omega) (by omega) ?_
    have e1 : g ^ (m - 1) = g ^ i * g ^ (m - 1 - i) := by rw [← Nat.pow_add]; congr 1; omega
    have e2 : g ^ (m - 1) * g ^ (j - i) = g ^ j * g ^ (m - 1 - i) := by rw [← Nat.pow_add, ← Nat.pow_add]; congr 1; omega
    have e3 : g ^ (m - 1) * g ^ (j - i) % m = g ^ (m - 1) % m := by
      rw [e2, e1, Nat.mul_mod, ← he, ← Nat.mul_mod]
    rw [Nat.mul_mod, h1, Nat.one_mul, Nat.mod_mod] at e3
    exact e3
  have surj := pigeon (m - 1) (fun i => g ^ i % m - 1) (fun i hi => by
      have h3 := unit i hi
      have h4 := Nat.mod_lt (g ^ i) (show 0 < m by omega)
      show g ^ i % m - 1 < m - 1
      omega) (fun i j hi hj e => by
      have h3 := unit i hi
      have h4 := unit j hj
      have e' : g ^ i % m - 1 = g ^ j % m - 1 := e
      have e2 : g ^ i % m = g ^ j % m := by omega
      rcases Nat.lt_trichotomy i j with h | h | h
      · exact (inj i j h hj e2).elim
      · exact h
      · exact (inj j i h hi e2.symm).elim)
  have fermat : ∀ a, ¬ m ∣ a → a ^ (m - 1) % m = 1 := by
    intro a ha
    have h3 : a % m ≠ 0 := fun e => ha (Nat.dvd_of_mod_eq_zero e)
    have h4 := Nat.mod_lt a (show 0 < m by omega)
    obtain ⟨i, hi, he⟩ := surj (a % m - 1) (by omega)
    have he' : g ^ i % m - 1 = a % m - 1 := he
    have h5 := unit i hi
    have e : a % m = g ^ i % m := by omega
    rw [Nat.pow_mod, e, ← Nat.pow_mod, ← Nat.pow_mul, Nat.mul_comm, Nat.pow_mul]
    exact pow_one_mod (by omega) h1 i
  refine ⟨fermat, by omega, fun d hd => ?_⟩
  have hle := Nat.le_of_dvd (by omega) hd
  by_cases h3 : d = m
  · exact Or.inr h3
  · refine Or.inl ?_
    have h0 : d ≠ 0 := fun e => by rw [e] at hd; have := Nat.eq_zero_of_zero_dvd hd; omega
    have h4 := fermat d (fun h => by have := Nat.le_of_dvd (by omega) h; omega)
    have h5 : d ∣ d ^ (m - 1) := ⟨d ^ (m - 2), by rw [← Nat.pow_succ']; congr 1; omega⟩
    have h6 : d ∣ d ^ (m - 1) % m := (Nat.dvd_mod_iff hd).2 h5
    rw [h4] at h6
    exact Nat.dvd_one.1 h6

/-- A power modulo m, by squares. -/
def pm : Nat → Nat → Nat → Nat → Nat
  | 0, _, _, m => 1 % m
  | n + 1, b, e, m => if e % 2 = 1 then b * pm n (b * b % m) (e / 2) m % m else pm n (b * b % m) (e / 2) m
theorem pm_eq : ∀ (n b e m : Nat), e < 2 ^ n → pm n b e m = b ^ e % m
  | 0, b, e, m, h => by
    have : e = 0 := by simpa using h
    subst this
    simp [pm]
  | n + 1, b, e, m, h => by
    have ih := pm_eq n (b * b % m) (e / 2) m (by rw [Nat.pow_succ] at h; omega)
    have e1 : (b * b % m) ^ (e / 2) % m = b ^ (2 * (e / 2)) % m := by
      rw [← Nat.pow_mod, Nat.pow_mul, Nat.pow_two]
    unfold pm
    rw [ih, e1]
    split
    · rw [Nat.mul_mod, Nat.mod_mod, ← Nat.mul_mod, ← Nat.pow_succ']
      congr 2
      omega
    · congr 2
      omega
/-- What is asked of a prime's record. -/
def rec1 (m g : Nat) (qs : List Nat) : Bool :=
  decide (2 < m) && decide (m - 1 < 2 ^ 256) && (m - 1 == prodL qs) && (pm 256 g (m - 1) m == 1) && qs.all fun q => pm 256 g ((m - 1) / q) m != 1
/-- A prime, of which Fermat's word holds. -/
structure Full (m : Nat) : Prop where
  fermat : ∀ a, ¬ m ∣ a → a ^ (m - 1) % m = 1
  prm : Prm m
theorem lucas_rec {m : Nat} (g : Nat) (qs : List Nat) (h : rec1 m g qs = true) (hq : ∀ q ∈ qs, Prm q) : Full m := by
  unfold rec1 at h
  simp only [Bool.and_eq_true, decide_eq_true_eq, beq_iff_eq, List.all_eq_true, bne_iff_ne] at h
  obtain ⟨⟨⟨⟨a1, a2⟩, a3⟩, a4⟩, a5⟩ := h
  have key := lucas (g := g) a1 a3 hq ?_ (fun q hm => ?_)
  · exact ⟨key.1, key.2⟩
  · rw [← pm_eq 256 g (m - 1) m a2]; exact a4
  · rw [← pm_eq 256 g ((m - 1) / q) m (Nat.lt_of_le_of_lt (Nat.div_le_self _ _) a2)]; exact a5 q hm
/-- A small prime, by trial. -/
def small (p : Nat) : Bool := decide (2 ≤ p) && (List.range p).all fun d => decide (d < 2) || decide (p % d ≠ 0)
theorem prm_small {p : Nat} (h : small p = true) : Prm p := by
  unfold small at h
  simp only [Bool.and_eq_true, decide_eq_true_eq, List.all_eq_true, List.mem_range, Bool.or_eq_true] at h
  refine ⟨h.1, fun d hd => ?_⟩
  have hle := Nat.le_of_dvd (by omega) hd
  by_cases e : d = p
  · exact Or.inr e
  · rcases h.2 d (by omega) with h1 | h1
    · have h0 : d ≠ 0 := fun e => by rw [e] at hd; have := Nat.eq_zero_of_zero_dvd hd; omega
      exact Or.inl (by omega)
    · exact absurd (Nat.mod_eq_zero_of_dvd hd) h1
end Go.Proofs.YtffkeabpdmpjbaaDoor
