/- Digits, as the library writes and reads them (no function of the program is named). -/
import Derived.Test.YtloboidolhpogaaDoorTNum
import Derived.Lib.ItoaNum
import Derived.Lib.ItoaLen
import Derived.Lib.ParseIntB
import Derived.Lib.ParseIntBCases
namespace Go.Proofs.YtloboidolhpogaaDoor

theorem dg_of : ∀ n, n < 10 → dg n = UInt8.ofNat (48 + n) := by decide
theorem dg_nat : ∀ n, n < 10 → (dg n).toNat = 48 + n := by decide
theorem digs_dec : ∀ (k n : Nat), n < 10 ^ (k + 1) → Lib.decDigits n = digs n
  | 0, n, h => by
    have hl : n < 10 := by simpa using h
    rw [Lib.decDigits, dif_pos hl, digs_low hl, dg_of n hl]
  | k + 1, n, h => by
    by_cases hl : n < 10
    · rw [Lib.decDigits, dif_pos hl, digs_low hl, dg_of n hl]
    · rw [Lib.decDigits, dif_neg hl, digs_up hl, digs_dec k (n / 10) (by rw [Nat.pow_succ] at h; omega), dg_of _ (by omega)]
theorem pow20 {n : Nat} (h : n < 18446744073709551616) : n < 10 ^ (19 + 1) := Nat.lt_trans h (by decide)
theorem dec_digs {n : Nat} (h : n < 18446744073709551616) : Lib.decDigits n = digs n := digs_dec 19 n (pow20 h)
/-- One digit more is read. -/
theorem parse_more (M : Nat) : ∀ (l : List UInt8) (acc v d : Nat), Lib.parseUintM M acc l = .ok v → d < 10 → v < 1844674407370955162 → v * 10 + d ≤ M → Lib.parseUintM M acc (l ++ [dg d]) = .ok (v * 10 + d)
  | [], acc, v, d, h, hd, hv, hM => by
    simp only [Lib.parseUintM] at h
    obtain rfl : acc = v := by injection h
    have e := dg_nat d hd
    simp only [List.nil_append, Lib.parseUintM]
    rw [if_pos (by omega), if_neg (by omega), if_neg (by omega), e]
    congr 1
    omega
  | c :: r, acc, v, d, h, hd, hv, hM => by
    simp only [List.cons_append, Lib.parseUintM] at h ⊢
    split at h
    · rename_i h1
      rw [if_pos h1]
      split at h
      · cases h
      · rename_i h2
        rw [if_neg h2]
        split at h
        · cases h
        · rename_i h3
          rw [if_neg h3]
          exact parse_more M r _ v d h hd hv hM
    · cases h
theorem parse_digs : ∀ (k n : Nat), n < 10 ^ (k + 1) → n ≤ 18446744073709551615 → Lib.parseUintM 18446744073709551615 0 (digs n) = .ok n
  | 0, n, h, hn => by
    have hl : n < 10 := by simpa using h
    have := parse_more 18446744073709551615 [] 0 0 n rfl hl (by omega) (by omega)
    rw [digs_low hl]
    simpa using this
  | k + 1, n, h, hn => by
    by_cases hl : n < 10
    · have := parse_more 18446744073709551615 [] 0 0 n rfl hl (by omega) (by omega)
      rw [digs_low hl]
      simpa using this
    · rw [digs_up hl]
      have ih := parse_digs k (n / 10) (by rw [Nat.pow_succ] at h; omega) (by omega)
      rw [parse_more _ _ _ _ _ ih (show n % 10 < 10 by omega) (by omega) (by omega)]
      congr 1
      omega
/-- A number's digits are read as the number. -/
theorem parse_of_digs {n : Nat} {l : List UInt8} (hn : n < 18446744073709551616) (h : digs n = l) : Lib.parseUintB 64 l = .ok n := by
  have h0 : l ≠ [] := by
    intro e
    have := digs_pos n
    rw [h, e] at this
    simp at this
  unfold Lib.parseUintB
  rw [if_neg h0, ← h, show (2 : Nat) ^ 64 - 1 = 18446744073709551615 by decide]
  exact parse_digs 19 n (pow20 hn) (by omega)
theorem num_none {l : List UInt8} (h : ∀ n, Lib.parseUintB 64 l ≠ .ok n) : numR l = .tuple #[.int .u64 0, .bool false] :=
  numR_no fun n hn e => h n (parse_of_digs hn e)
theorem num_other {l : List UInt8} {u : Nat} (hp : Lib.parseUintB 64 l = .ok u) (h : digs u ≠ l) : numR l = .tuple #[.int .u64 0, .bool false] :=
  numR_no fun n hn e => by
    have := parse_of_digs hn e
    rw [hp] at this
    injection this with e2
    rw [e2] at h
    exact h e
theorem parse_lt {l : List UInt8} {u : Nat} (h : Lib.parseUintB 64 l = .ok u) : u < 18446744073709551616 := by
  have := Lib.parseUintB_le h
  have e : (2 : Nat) ^ 64 - 1 = 18446744073709551615 := by decide
  omega
end Go.Proofs.YtloboidolhpogaaDoor
