/- What field.Inv answers: the number that makes 1 with the given one, by Fermat. -/
import Derived.Test.YtffkeabpdmpjbaaDoorPow
import Derived.Test.YtffkeabpdmpjbaaDoorFnMod
import Derived.Test.YtffkeabpdmpjbaaDoorPrimes
namespace Go.Proofs.YtffkeabpdmpjbaaDoor
open Go.RowKit
attribute [local go_sem ↓] Go.wp_at_zero Go.wp_at_succ

theorem full_md {k : Int} (hk : 0 ≤ k ∧ k ≤ 3) : Full (md k).toNat := by
  rcases md_cases hk with rfl | rfl | rfl | rfl
  · exact mod0_full
  · exact mod1_full
  · exact mod2_full
  · exact mod3_full
theorem md_big {k : Int} (hk : 0 ≤ k ∧ k ≤ 3) : 4 < md k := by
  rcases md_cases hk with rfl | rfl | rfl | rfl <;> decide
theorem fermat_int {k a : Int} (hk : 0 ≤ k ∧ k ≤ 3) (ha : 0 ≤ a) (h : a % md k ≠ 0) : a ^ ((md k).toNat - 1) % md k = 1 := by
  have hb := md_big hk
  have F := full_md hk
  obtain ⟨m, hm⟩ := Int.eq_ofNat_of_zero_le (show 0 ≤ md k by omega)
  rw [hm] at h F ⊢
  obtain ⟨a, rfl⟩ := Int.eq_ofNat_of_zero_le ha
  simp only [Int.toNat_natCast] at F ⊢
  have hd : ¬ m ∣ a := fun hd => h (by have := Nat.mod_eq_zero_of_dvd hd; omega)
  have e := F.fermat a hd
  have e2 : ((a ^ (m - 1) % m : Nat) : Int) = 1 := by rw [e]; rfl
  rw [Int.natCast_emod, Int.natCast_pow] at e2
  exact e2
theorem inv_one {k a : Int} (hk : 0 ≤ k ∧ k ≤ 3) (ha : 0 ≤ a) (h : a % md k ≠ 0) : a * (pw a (md k - 2) % md k) % md k = 1 := by
  have hb := md_big hk
  rw [mul_mod_r]
  unfold pw
  have e : (md k).toNat - 1 = (md k - 2).toNat + 1 := by omega
  have f := fermat_int hk ha h
  rw [e, Int.pow_succ, Int.mul_comm] at f
  exact f
theorem inv_back {k a : Int} (hk : 0 ≤ k ∧ k ≤ 3) (ha : 0 ≤ a) (h : a % md k ≠ 0) : pw (pw a (md k - 2) % md k) (md k - 2) % md k = a % md k := by
  have hb := md_big hk
  rw [pw_mod]
  unfold pw
  obtain ⟨s, hs⟩ : ∃ s, (md k - 2).toNat = s + 1 := ⟨(md k - 2).toNat - 1, by omega⟩
  have e : (md k).toNat - 1 = s + 2 := by omega
  have f := fermat_int hk ha h
  rw [e] at f
  rw [hs, ← Int.pow_mul, show (s + 1) * (s + 1) = (s + 2) * s + 1 by rw [Nat.add_mul, Nat.mul_add, Nat.add_mul]; omega, Int.pow_succ, Int.pow_mul, ← mul_mod_l, ← pow_mod_any, f, Int.one_pow, mul_mod_l, Int.one_mul]
theorem inv_none {k a : Int} (hk : 0 ≤ k ∧ k ≤ 3) (h : a % md k = 0) : pw a (md k - 2) % md k = 0 := by
  have hb := md_big hk
  rw [← pw_mod, h]
  unfold pw
  obtain ⟨s, hs⟩ : ∃ s, (md k - 2).toNat = s + 1 := ⟨(md k - 2).toNat - 1, by omega⟩
  rw [hs, Int.pow_succ, Int.mul_zero, Int.zero_emod]

set_option maxHeartbeats 2000000 in
theorem f_inv {k a : Int} (hkk : 0 ≤ k ∧ k ≤ 3) (ha : Num a) {w : World} (hT : Tab w) : Calls Tryd.prog 14 #[.int .i64 k, .agg #[.int .u64 (L 0 a), .int .u64 (L 1 a), .int .u64 (L 2 a), .int .u64 (L 3 a)]] w fun e w' => e = .returned (.agg #[.int .u64 (L 0 (pw a (md k - 2) % md k)), .int .u64 (L 1 (pw a (md k - 2) % md k)), .int .u64 (L 2 (pw a (md k - 2) % md k)), .int .u64 (L 3 (pw a (md k - 2) % md k))]) ∧ Below w.heap.size w w' := by
  have hb := md_big hkk
  have nm := md_num k
  have ne : Num (md k - 2) := ⟨by omega, by have := nm.hi; omega⟩
  have HS : Hid (∀ w, Calls Tryd.prog 26 #[.agg #[.int .u64 (L 0 (md k)), .int .u64 (L 1 (md k)), .int .u64 (L 2 (md k)), .int .u64 (L 3 (md k))], .agg #[.int .u64 2, .int .u64 0, .int .u64 0, .int .u64 0]] w fun e w' => e = .returned (.tuple #[.agg #[.int .u64 (L 0 (md k - 2)), .int .u64 (L 1 (md k - 2)), .int .u64 (L 2 (md k - 2)), .int .u64 (L 3 (md k - 2))], .bool (D (md k) 2 4 == 1)]) ∧ Below w.heap.size w w') := by
    intro w
    have h := sub_walk (md k) 2 w
    have b0 : L 0 2 = 2 := by decide
    have b1 : L 1 2 = 0 := by decide
    have b2 : L 2 2 = 0 := by decide
    have b3 : L 3 2 = 0 := by decide
    rw [b0, b1, b2, b3] at h
    exact h
  have HP : Hid (∀ w, Tab w → Calls Tryd.prog 13 #[.int .i64 k, .agg #[.int .u64 (L 0 a), .int .u64 (L 1 a), .int .u64 (L 2 a), .int .u64 (L 3 a)], .agg #[.int .u64 (L 0 (md k - 2)), .int .u64 (L 1 (md k - 2)), .int .u64 (L 2 (md k - 2)), .int .u64 (L 3 (md k - 2))]] w fun e w' => e = .returned (.agg #[.int .u64 (L 0 (pw a (md k - 2) % md k)), .int .u64 (L 1 (pw a (md k - 2) % md k)), .int .u64 (L 2 (pw a (md k - 2) % md k)), .int .u64 (L 3 (pw a (md k - 2) % md k))]) ∧ Below w.heap.size w w') := fun w hT => f_pow hkk ha ne hT
  have HM : Hid (∀ w, Tab w → Calls Tryd.prog 6 #[.int .i64 k] w fun e w' => e = .returned (.agg #[.int .u64 (L 0 (md k)), .int .u64 (L 1 (md k)), .int .u64 (L 2 (md k)), .int .u64 (L 3 (md k))]) ∧ Below w.heap.size w w') := fun w hT => f_mod k hT
  clear hkk ha ne nm hb
  generalize pw a (md k - 2) % md k = i at *
  generalize md k - 2 = ex at *
  generalize md k = m at *
  generalize (D m 2 4 == 1) = u at *
  go_enter Tryd.func14, Tryd.ntmps14
  go_wp2_with fail
  with_reducible refine Calls.mono (HM.out _ (hT.keep (K.alloc (K.alloc (Below.refl _ _) _) _))) ?_
  rintro e w1 ⟨rfl, hb1⟩
  have A1 := ((Arr.new w w.heap.size rfl 24 (L 0 a) (L 1 a) (L 2 a) (L 3 a)).alloc _).keep hb1
  have R1 := (ArrW.new _ (w.heap.size + 1) (by simp) 24 0 0 0 0).keep hb1
  have hw1 : Below w.heap.size w w1 := K.call (K.alloc (K.alloc (Below.refl _ w) _) _) hb1
  clear hb1
  go_wp2_with fail
  with_reducible refine Calls.mono (HS.out _) ?_
  rintro e w2 ⟨rfl, hb2⟩
  have A2 := (A1.keep hb2).alloc (.cells #[.int .u64 (L 0 ex), .int .u64 (L 1 ex), .int .u64 (L 2 ex), .int .u64 (L 3 ex)] 24)
  have R2 := (R1.keep hb2).alloc (.cells #[.int .u64 (L 0 ex), .int .u64 (L 1 ex), .int .u64 (L 2 ex), .int .u64 (L 3 ex)] 24)
  have E2 := Arr.new w2 w2.heap.size rfl 24 (L 0 ex) (L 1 ex) (L 2 ex) (L 3 ex)
  have hw2 : Below w.heap.size w (w2.alloc (.cells #[.int .u64 (L 0 ex), .int .u64 (L 1 ex), .int .u64 (L 2 ex), .int .u64 (L 3 ex)] 24)) := K.alloc (K.call hw1 hb2) _
  have hT2 := hT.keep hw2
  clear hb2 A1 R1 hw1 hT
  have ⟨ka, ka0, ka1, ka2, ka3⟩ := A2
  have ⟨ke, ke0, ke1, ke2, ke3⟩ := E2
  go_wp2_with fail
  with_reducible refine Calls.mono (HP.out _ hT2) ?_
  clear ka ka0 ka1 ka2 ka3 ke ke0 ke1 ke2 ke3
  rintro e w3 ⟨rfl, hb3⟩
  have ⟨kr, kr0, kr1, kr2, kr3, kf0, kf1, kf2, kf3⟩ := R2.keep hb3
  have hw3 : Below w.heap.size w w3 := K.call hw2 hb3
  go_wp2_with fail
  exact bodyPost_ret (v := .agg #[.int .u64 (L 0 i), .int .u64 (L 1 i), .int .u64 (L 2 i), .int .u64 (L 3 i)]) (by simp [results, Tryd.results14, go_sem, kr0, kr1, kr2, kr3]) rfl ⟨rfl, K.set4 hw3 (by omega) _ _ _ _⟩
end Go.Proofs.YtffkeabpdmpjbaaDoor
