/- TextNumbers, TextDigits. -/
import Derived.Test.YtloboidolhpogaaDoorDNumW
import Derived.Test.YtloboidolhpogaaDoorPAwake
import Derived.Test.YtloboidolhpogaaDoorPName
import Derived.Test.YtloboidolhpogaaDoorTName
namespace Go.Proofs.YtloboidolhpogaaDoor
open Go.RowKit
attribute [local go_sem ↓] Go.wp_at_zero Go.wp_at_succ
attribute [local go_sem] tx_size

theorem numR_shape (l : List UInt8) : ∃ x b, numR l = .tuple #[.int .u64 x, .bool b] := by
  unfold numR
  split
  · exact ⟨_, _, rfl⟩
  · exact ⟨_, _, rfl⟩
set_option maxHeartbeats 4000000 in
theorem textNumbers_walk {n : Int} (hn : 0 ≤ n ∧ n < 18446744073709551616) (l : List UInt8) (hl : l.length ≤ 9223372036854775807) {w : World} (hT : Tb w) :
    Calls Tryd.prog 3 #[.int .u64 n, .string (tx l)] w fun e w' => e = .returned (.bool true) ∧ Below w.heap.size w w' := by
  by_cases h1 : l.length ≤ 100
  · have h1i : (l.length : Int) ≤ 100 := by omega
    obtain ⟨m, rfl⟩ : ∃ m : Nat, n = (m : Int) := ⟨n.toNat, by omega⟩
    have hm : m < 18446744073709551616 := by omega
    obtain ⟨x, b, hx⟩ := numR_shape l
    have HA : Hid (∀ w, Tb w → Calls Tryd.prog 6 #[.string (tx l)] w fun e w' => e = .returned (.tuple #[.int .u64 x, .bool b]) ∧ Below w.heap.size w w') := by
      intro w hT
      rw [← hx]; exact number_any l (by omega) hT
    have HB : Hid (∀ w, Calls Tryd.prog 7 #[.string (tx l)] w fun e w' => e = .returned (.tuple #[.int .u64 x, .bool b]) ∧ w' = w) := by
      intro w
      rw [← hx]; exact refNumber_walk (tx l) (by rw [tx_size]; exact hl) w
    have HD : Hid (∀ w, Calls Tryd.prog 9 #[.int .u64 (m : Int)] w fun e w' => e = .returned (.string (tx (digs m))) ∧ w' = w) := fun w => refDigits_any 19 m w (by omega) (pow20 hm) hm
    have HN : Hid (∀ w, Calls Tryd.prog 10 #[.string (tx l)] w fun e w' => e = .returned (.bool (nameB (tx l))) ∧ w' = w) := fun w => name_any (tx l) (by rw [tx_size]; exact hl) w
    have HM : Hid (∀ w, Calls Tryd.prog 11 #[.string (tx l)] w fun e w' => e = .returned (.bool (nameB (tx l))) ∧ w' = w) := fun w => refName_any (tx l) (by rw [tx_size]; exact hl) w
    have HE : Hid (∀ w, Tb w → Calls Tryd.prog 8 #[.int .u64 (m : Int)] w fun e w' => e = .returned (.string (tx (digs m))) ∧ Below w.heap.size w w') := fun w hT => digits_any m hm hT
    have hq : ((tx (digs m)).toList == (tx (digs m)).toList) = true := by simp
    generalize nameB (tx l) = nb at *
    generalize tx (digs m) = D at *
    clear hx
    go_enter Tryd.func3, Tryd.ntmps3
    go_wp2_with fail
    with_reducible refine Calls.mono (awake_any _) ?_
    rintro e w1 ⟨rfl, hb1⟩
    go_wp2_with fail
    with_reducible refine Calls.mono (HA.out _ (hT.keep hb1)) ?_
    rintro e w2 ⟨rfl, hb⟩
    have hb2 : Below w.heap.size w w2 := K.call hb1 hb
    clear hb hb1
    go_wp2_with fail
    with_reducible refine Calls.mono (HB.out _) ?_
    rintro e w3 ⟨rfl, rfl⟩
    go_wp2_with fail
    with_reducible refine Calls.mono (HE.out _ (hT.keep hb2)) ?_
    rintro e w4 ⟨rfl, hb⟩
    have hb4 : Below w.heap.size w w4 := K.call hb2 hb
    clear hb hb2
    go_wp2_with fail
    with_reducible refine Calls.mono (HD.out _) ?_
    rintro e w5 ⟨rfl, rfl⟩
    go_wp2_with fail
    with_reducible refine Calls.mono (HN.out _) ?_
    rintro e w6 ⟨rfl, rfl⟩
    go_wp2_with fail
    with_reducible refine Calls.mono (HM.out _) ?_
    rintro e w7 ⟨rfl, rfl⟩
    go_wp2_with fail
    go_ret
    exact ⟨rfl, hb4⟩
  · have h1i : ¬ (l.length : Int) ≤ 100 := by omega
    go_enter Tryd.func3, Tryd.ntmps3
    go_wp2_with fail
    with_reducible refine Calls.mono (awake_any _) ?_
    rintro e w1 ⟨rfl, hb1⟩
    go_wp2_with fail
    with_reducible refine Calls.mono (awake_any _) ?_
    rintro e w2 ⟨rfl, hb2⟩
    go_wp2_with fail
    go_ret
    exact ⟨rfl, K.call hb1 hb2⟩

/-- The number that a row of digits stands for. -/
def dval (l : List UInt8) : Nat := l.foldl (fun a c => a * 10 + (c.toNat - 48)) 0
theorem dval_digs : ∀ (k n : Nat), n < 10 ^ (k + 1) → dval (digs n) = n
  | 0, n, h => by
    have hl : n < 10 := by simpa using h
    rw [digs_low hl]
    simp only [dval, List.foldl_cons, List.foldl_nil]
    rw [dg_nat n hl]; omega
  | k + 1, n, h => by
    by_cases hl : n < 10
    · rw [digs_low hl]
      simp only [dval, List.foldl_cons, List.foldl_nil]
      rw [dg_nat n hl]; omega
    · rw [digs_up hl]
      have ih := dval_digs k (n / 10) (by rw [Nat.pow_succ] at h; omega)
      simp only [dval, List.foldl_append, List.foldl_cons, List.foldl_nil] at ih ⊢
      rw [ih, dg_nat _ (by omega)]; omega
theorem lt_pow10 : ∀ n : Nat, n < 10 ^ (n + 1)
  | 0 => by decide
  | n + 1 => by
    have := lt_pow10 n
    rw [Nat.pow_succ]
    omega
theorem digs_inj {m n : Nat} (h : digs m = digs n) : m = n := by
  rw [← dval_digs m m (lt_pow10 m), h, dval_digs n n (lt_pow10 n)]
theorem digs_head : ∀ (k n : Nat), n < 10 ^ (k + 1) → 0 < n → ∀ r, digs n ≠ 48 :: r
  | 0, n, h, h0, r => by
    have hl : n < 10 := by simpa using h
    rw [digs_low hl]
    intro e
    injection e with e1 _
    have := dg_nat n hl
    rw [e1] at this
    have e2 : (48 : UInt8).toNat = 48 := rfl
    omega
  | k + 1, n, h, h0, r => by
    by_cases hl : n < 10
    · exact digs_head 0 n (by simpa using hl) h0 r
    · rw [digs_up hl]
      intro e
      cases hd : digs (n / 10) with
      | nil => have := digs_pos (n / 10); rw [hd] at this; simp at this
      | cons c t =>
        rw [hd] at e
        injection e with e1 _
        exact digs_head k (n / 10) (by rw [Nat.pow_succ] at h; omega) (by omega) t (by rw [hd, e1])
theorem num_own {n : Nat} (h : n < 18446744073709551616) : numR (digs n) = .tuple #[.int .u64 n, .bool true] := numR_yes h rfl
theorem num_nought {l : List UInt8} (h : 0 < l.length) : numR (48 :: l) = .tuple #[.int .u64 0, .bool false] := by
  refine numR_no fun m _ e => ?_
  rcases Nat.eq_zero_or_pos m with rfl | hm
  · rw [digs_low (by omega)] at e
    have := congrArg List.length e
    rw [List.length_singleton, List.length_cons] at this
    omega
  · exact digs_head m m (lt_pow10 m) hm l e
theorem digs_ten {n : Nat} (h : 0 < n) : digs (n * 10) = digs n ++ [48] := by
  rw [digs_up (by omega), Nat.mul_div_cancel _ (by omega), Nat.mul_mod_left]
  rfl
theorem num_ten {n : Nat} (h0 : 0 < n) (h : n ≤ 1844674407370955161) : numR (digs n ++ [48]) = .tuple #[.int .u64 ((n : Int) * 10), .bool true] := by
  rw [← digs_ten h0, num_own (by omega)]
  congr 3
theorem num_over {n : Nat} (h : ¬ n ≤ 1844674407370955161) : numR (digs n ++ [48]) = .tuple #[.int .u64 0, .bool false] := by
  refine numR_no fun m hm e => ?_
  rw [← digs_ten (by omega)] at e
  have := digs_inj e
  omega
theorem lit48 : (⟨#[48]⟩ : ByteArray) = tx [48] := rfl
theorem ahead48 (l : List UInt8) : (⟨#[48]⟩ : ByteArray) ++ tx l = tx (48 :: l) := by rw [lit48, tx_append]; rfl
theorem behind48 (l : List UInt8) : tx l ++ (⟨#[48]⟩ : ByteArray) = tx (l ++ [48]) := by rw [lit48, tx_append]
attribute [local go_sem] ahead48 behind48
set_option maxHeartbeats 4000000 in
theorem textDigits_walk {n : Int} (hn : 0 ≤ n ∧ n < 18446744073709551616) {w : World} (hT : Tb w) :
    Calls Tryd.prog 4 #[.int .u64 n] w fun e w' => e = .returned (.bool true) ∧ Below w.heap.size w w' := by
  obtain ⟨m, rfl⟩ : ∃ m : Nat, n = (m : Int) := ⟨n.toNat, by omega⟩
  have hm : m < 18446744073709551616 := by omega
  have hlen : (digs m).length ≤ 20 := digs_len 19 m (pow20 hm)
  have hpos := digs_pos m
  have HE : Hid (∀ w, Tb w → Calls Tryd.prog 8 #[.int .u64 (m : Int)] w fun e w' => e = .returned (.string (tx (digs m))) ∧ Below w.heap.size w w') := fun w hT => digits_any m hm hT
  have N1 : Hid (∀ w, Tb w → Calls Tryd.prog 6 #[.string (tx (digs m))] w fun e w' => e = .returned (.tuple #[.int .u64 m, .bool true]) ∧ Below w.heap.size w w') := fun w hT => by
    have := number_any (digs m) (by omega) hT
    rwa [num_own hm] at this
  have N2 : Hid (∀ w, Tb w → Calls Tryd.prog 6 #[.string (tx (48 :: digs m))] w fun e w' => e = .returned (.tuple #[.int .u64 0, .bool false]) ∧ Below w.heap.size w w') := fun w hT => by
    have := number_any (48 :: digs m) (by simp; omega) hT
    rwa [num_nought hpos] at this
  obtain ⟨y, g, hy, hyg⟩ : ∃ (y : Int) (g : Bool), numR (digs m ++ [48]) = .tuple #[.int .u64 y, .bool g] ∧ ((g = true ∧ 0 < m ∧ m ≤ 1844674407370955161 ∧ y = (m : Int) * 10) ∨ (g = false ∧ (m = 0 ∨ ¬ m ≤ 1844674407370955161))) := by
    rcases (show m = 0 ∨ (0 < m ∧ m ≤ 1844674407370955161) ∨ ¬ m ≤ 1844674407370955161 by omega) with h | ⟨h0, h⟩ | h
    · subst h
      exact ⟨0, false, by rw [show digs 0 ++ [48] = 48 :: [48] by rw [digs_low (by omega)]; rfl]; exact num_nought (by simp), Or.inr ⟨rfl, Or.inl rfl⟩⟩
    · exact ⟨_, true, num_ten h0 h, Or.inl ⟨rfl, h0, h, rfl⟩⟩
    · exact ⟨0, false, num_over h, Or.inr ⟨rfl, Or.inr h⟩⟩
  have N3 : Hid (∀ w, Tb w → Calls Tryd.prog 6 #[.string (tx (digs m ++ [48]))] w fun e w' => e = .returned (.tuple #[.int .u64 y, .bool g]) ∧ Below w.heap.size w w') := fun w hT => by
    have := number_any (digs m ++ [48]) (by simp; omega) hT
    rwa [hy] at this
  clear hy
  generalize digs m = D at *
  have hyg2 : (g = true ∧ (0 : Int) < m ∧ (m : Int) ≤ 1844674407370955161 ∧ y = (m : Int) * 10) ∨ (g = false ∧ ¬ (0 : Int) < m ∧ (m : Int) ≤ 1844674407370955161) ∨ (g = false ∧ (0 : Int) < m ∧ ¬ (m : Int) ≤ 1844674407370955161) := by
    rcases hyg with ⟨h1, h2, h3, h4⟩ | ⟨h1, h2⟩
    · exact Or.inl ⟨h1, by omega, by omega, h4⟩
    · by_cases e : m = 0
      · exact Or.inr (Or.inl ⟨h1, by omega, by omega⟩)
      · exact Or.inr (Or.inr ⟨h1, by omega, by omega⟩)
  clear hyg hm
  generalize (m : Int) = z at *
  rcases hyg2 with ⟨rfl, h2, h3, rfl⟩ | ⟨rfl, h2, h3⟩ | ⟨rfl, h2, h3⟩
  all_goals
    go_enter Tryd.func4, Tryd.ntmps4
    go_wp2_with fail
    with_reducible refine Calls.mono (HE.out _ hT) ?_
    rintro e w1 ⟨rfl, hb1⟩
    go_wp2_with fail
    with_reducible refine Calls.mono (N1.out _ (hT.keep hb1)) ?_
    rintro e w2 ⟨rfl, hb⟩
    have hb2 : Below w.heap.size w w2 := K.call hb1 hb
    clear hb hb1
    go_wp2_with fail
    with_reducible refine Calls.mono (N2.out _ (hT.keep hb2)) ?_
    rintro e w3 ⟨rfl, hb⟩
    have hb3 : Below w.heap.size w w3 := K.call hb2 hb
    clear hb hb2
    go_wp2_with fail
    with_reducible refine Calls.mono (N3.out _ (hT.keep hb3)) ?_
    rintro e w4 ⟨rfl, hb⟩
    have hb4 : Below w.heap.size w w4 := K.call hb3 hb
    clear hb hb3
    go_wp2_with fail
    with_reducible refine Calls.mono (awake_any _) ?_
    rintro e w5 ⟨rfl, hb⟩
    have hb5 : Below w.heap.size w w5 := K.call hb4 hb
    clear hb hb4
    go_wp2_with fail
    go_ret
    first | exact ⟨rfl, hb5⟩ | exact ⟨ret_bool (show (!decide (0 < z)) = true by simp; omega), hb5⟩
end Go.Proofs.YtloboidolhpogaaDoor
