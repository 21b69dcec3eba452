/- What field.Pow answers: the power, bit by bit from the lowest on. -/
import Derived.Test.YtffkeabpdmpjbaaDoorAwake
import Derived.Test.YtffkeabpdmpjbaaDoorHalfBit
import Derived.Deep.LoopGhost
import Derived.Deep.DeepCutAuto
namespace Go.Proofs.YtffkeabpdmpjbaaDoor
open Go.RowKit
attribute [local go_sem ↓] Go.wp_at_zero Go.wp_at_succ

/-- A power. -/
def pw (x e : Int) : Int := x ^ e.toNat
theorem pw_zero (x : Int) : pw x 0 = 1 := by simp [pw]
theorem pow_mod_any (x m : Int) : ∀ k : Nat, (x % m) ^ k % m = x ^ k % m
  | 0 => by simp
  | k + 1 => by rw [Int.pow_succ, Int.pow_succ, mul_mod_r, Int.mul_emod, pow_mod_any x m k, ← Int.mul_emod]
theorem pw_mod (x e m : Int) : pw (x % m) e % m = pw x e % m := pow_mod_any x m e.toNat
theorem pw_even {x e m : Int} (h : e % 2 = 0) : pw x e % m = pw (x * x % m) (e / 2) % m := by
  rw [pw_mod]
  unfold pw
  have e1 : e.toNat = 2 * (e / 2).toNat := by omega
  rw [e1, Int.pow_mul, Int.pow_succ, Int.pow_succ, Int.pow_zero, Int.one_mul]
theorem pw_odd {x e m : Int} (h0 : 0 < e) (h : e % 2 = 1) : pw x e % m = x * pw (x * x % m) (e / 2) % m := by
  rw [← mul_mod_r, pw_mod, mul_mod_r]
  unfold pw
  have e1 : e.toNat = 2 * (e / 2).toNat + 1 := by omega
  rw [e1, Int.pow_succ, Int.pow_mul, Int.pow_succ, Int.pow_succ, Int.pow_zero, Int.one_mul, Int.mul_comm]
theorem inv_even {x y e m : Int} (h : e % 2 = 0) : y * pw (x * x % m) (e / 2) % m = y * pw x e % m := by
  rw [← mul_mod_r y (pw x e), pw_even h, mul_mod_r]
theorem inv_odd {x y e m : Int} (h0 : 0 < e) (h : e % 2 = 1) : (y * x % m) * pw (x * x % m) (e / 2) % m = y * pw x e % m := by
  rw [mul_mod_l, ← mul_mod_r y (pw x e), pw_odd h0 h, mul_mod_r, Int.mul_assoc]
theorem bt_0 (f : Int) : bt f 0 = f % 2 := by unfold bt; simp
theorem words_not {f : Int} (h : Num f) (hf : f ≠ 0) : (L 0 f == 0 && (L 1 f == 0 && (L 2 f == 0 && (L 3 f == 0 && true)))) = false := by
  cases hb : (L 0 f == 0 && (L 1 f == 0 && (L 2 f == 0 && (L 3 f == 0 && true)))) with
  | false => rfl
  | true =>
    simp only [Bool.and_eq_true, beq_iff_eq, and_true] at hb
    have := num_val h
    omega

/-- What the loop keeps: the number, the exponent, the place of the answer, the power. -/
structure PowS (w wr : World) (n : Nat) (x f y : Int) : Prop where
  below : Below w.heap.size w wr
  X : ArrW wr w.heap.size (L 0 x) (L 1 x) (L 2 x) (L 3 x)
  E : ArrW wr (w.heap.size + 1) (L 0 f) (L 1 f) (L 2 f) (L 3 f)
  R : ArrW wr (w.heap.size + 1 + 1) 0 0 0 0
  P : ArrW wr n (L 0 y) (L 1 y) (L 2 y) (L 3 y)
theorem PowS.call {w wr w1 : World} {n : Nat} {x f y : Int} (h : PowS w wr n x f y) (hk : Below wr.heap.size wr w1) : PowS w w1 n x f y :=
  ⟨K.call h.below hk, h.X.keep hk, h.E.keep hk, h.R.keep hk, h.P.keep hk⟩
theorem PowS.storeP {w wr : World} {n : Nat} {x f y : Int} (h : PowS w wr n x f y) (hn : w.heap.size + 1 + 1 < n) (z : Int) : PowS w ((((wr.setCell ⟨n, 0, none⟩ (.int .u64 (L 0 z))).setCell ⟨n, 1, none⟩ (.int .u64 (L 1 z))).setCell ⟨n, 2, none⟩ (.int .u64 (L 2 z))).setCell ⟨n, 3, none⟩ (.int .u64 (L 3 z))) n x f z :=
  ⟨K.set4 h.below (by omega) _ _ _ _, h.X.set4 (by omega) _ _ _ _, h.E.set4 (by omega) _ _ _ _, h.R.set4 (by omega) _ _ _ _, h.P.stored _ _ _ _⟩
theorem PowS.storeA {w wr : World} {n : Nat} {x f y : Int} (h : PowS w wr n x f y) (hn : w.heap.size + 1 + 1 < n) (z : Int) : PowS w ((((wr.setCell ⟨w.heap.size, 0, none⟩ (.int .u64 (L 0 z))).setCell ⟨w.heap.size, 1, none⟩ (.int .u64 (L 1 z))).setCell ⟨w.heap.size, 2, none⟩ (.int .u64 (L 2 z))).setCell ⟨w.heap.size, 3, none⟩ (.int .u64 (L 3 z))) n z f y :=
  ⟨K.set4 h.below (by omega) _ _ _ _, h.X.stored _ _ _ _, h.E.set4 (by omega) _ _ _ _, h.R.set4 (by omega) _ _ _ _, h.P.set4 (by omega) _ _ _ _⟩
theorem PowS.storeE {w wr : World} {n : Nat} {x f y : Int} (h : PowS w wr n x f y) (hn : w.heap.size + 1 + 1 < n) (z : Int) : PowS w ((((wr.setCell ⟨(w.heap.size + 1), 0, none⟩ (.int .u64 (L 0 z))).setCell ⟨(w.heap.size + 1), 1, none⟩ (.int .u64 (L 1 z))).setCell ⟨(w.heap.size + 1), 2, none⟩ (.int .u64 (L 2 z))).setCell ⟨(w.heap.size + 1), 3, none⟩ (.int .u64 (L 3 z))) n x z y :=
  ⟨K.set4 h.below (by omega) _ _ _ _, h.X.set4 (by omega) _ _ _ _, h.E.stored _ _ _ _, h.R.set4 (by omega) _ _ _ _, h.P.set4 (by omega) _ _ _ _⟩

set_option maxHeartbeats 8000000 in
theorem f_pow {k a ex : Int} (hkk : 0 ≤ k ∧ k ≤ 3) (ha : Num a) (he : Num ex) {w : World} (hT : Tab w) :
    Calls Tryd.prog 13 #[.int .i64 k, .agg #[.int .u64 (L 0 a), .int .u64 (L 1 a), .int .u64 (L 2 a), .int .u64 (L 3 a)], .agg #[.int .u64 (L 0 ex), .int .u64 (L 1 ex), .int .u64 (L 2 ex), .int .u64 (L 3 ex)]] w fun e w' => e = .returned (.agg #[.int .u64 (L 0 (pw a ex % md k)), .int .u64 (L 1 (pw a ex % md k)), .int .u64 (L 2 (pw a ex % md k)), .int .u64 (L 3 (pw a ex % md k))]) ∧ Below w.heap.size w w' := by
  have nm := md_num k
  have hp := md_pos hkk
  have HF : Hid (∀ w, Calls Tryd.prog 22 #[.agg #[.int .u64 (L 0 (md k)), .int .u64 (L 1 (md k)), .int .u64 (L 2 (md k)), .int .u64 (L 3 (md k))], .agg #[.int .u64 1, .int .u64 0, .int .u64 0, .int .u64 0]] w fun e w' => e = .returned (.agg #[.int .u64 (L 0 (1 % md k)), .int .u64 (L 1 (1 % md k)), .int .u64 (L 2 (1 % md k)), .int .u64 (L 3 (1 % md k))]) ∧ Below w.heap.size w w') := by
    intro w
    have h := fold_any (a := 1) hkk ⟨by decide, by decide⟩ w
    have b0 : L 0 1 = 1 := by decide
    have b1 : L 1 1 = 0 := by decide
    have b2 : L 2 1 = 0 := by decide
    have b3 : L 3 1 = 0 := by decide
    rw [b0, b1, b2, b3] at h
    exact h
  have HPR : Hid (∀ a b w, Num a → Num b → Calls Tryd.prog 28 #[.agg #[.int .u64 (L 0 (md k)), .int .u64 (L 1 (md k)), .int .u64 (L 2 (md k)), .int .u64 (L 3 (md k))], .agg #[.int .u64 (L 0 a), .int .u64 (L 1 a), .int .u64 (L 2 a), .int .u64 (L 3 a)], .agg #[.int .u64 (L 0 b), .int .u64 (L 1 b), .int .u64 (L 2 b), .int .u64 (L 3 b)]] w fun e w' => e = .returned (.agg #[.int .u64 (L 0 (a * b % md k)), .int .u64 (L 1 (a * b % md k)), .int .u64 (L 2 (a * b % md k)), .int .u64 (L 3 (a * b % md k))]) ∧ Below w.heap.size w w') := fun a b w ha hb => prod_any hkk ha hb w
  have HMO : Hid (∀ w, Tab w → Calls Tryd.prog 21 #[.int .i64 k] w fun e w' => e = .returned (.agg #[.int .u64 (L 0 (md k)), .int .u64 (L 1 (md k)), .int .u64 (L 2 (md k)), .int .u64 (L 3 (md k))]) ∧ Below w.heap.size w w') := fun w hT => modOf_any k hT
  have H0 : Hid (Num a ∧ Num ex ∧ 0 ≤ 1 % md k ∧ 1 % md k < md k ∧ Num (1 % md k)) := ⟨ha, he, Int.emod_nonneg _ (by omega), Int.emod_lt_of_pos _ hp, num_f hkk⟩
  have HNM : Hid (Num (md k) ∧ 0 < md k) := ⟨nm, hp⟩
  clear ha he hp nm hkk
  generalize md k = m at *
  go_enter Tryd.func13, Tryd.ntmps13
  go_wp2_with fail
  with_reducible refine Calls.mono (HMO.out _ (hT.keep (K.alloc (K.alloc (K.alloc (Below.refl _ _) _) _) _))) ?_
  rintro e w1 ⟨rfl, hb1⟩
  clear HMO
  have X1 := (((ArrW.new w w.heap.size rfl 24 (L 0 a) (L 1 a) (L 2 a) (L 3 a)).alloc _).alloc _).keep hb1 |>.alloc (.cells #[.int .u64 (L 0 m), .int .u64 (L 1 m), .int .u64 (L 2 m), .int .u64 (L 3 m)] 34)
  have E1 := ((ArrW.new _ (w.heap.size + 1) (by simp) 24 (L 0 ex) (L 1 ex) (L 2 ex) (L 3 ex)).alloc _).keep hb1 |>.alloc (.cells #[.int .u64 (L 0 m), .int .u64 (L 1 m), .int .u64 (L 2 m), .int .u64 (L 3 m)] 34)
  have R1 := (ArrW.new _ (w.heap.size + 1 + 1) (by simp) 24 0 0 0 0).keep hb1 |>.alloc (.cells #[.int .u64 (L 0 m), .int .u64 (L 1 m), .int .u64 (L 2 m), .int .u64 (L 3 m)] 34)
  have M1 := Arr.new w1 w1.heap.size rfl 34 (L 0 m) (L 1 m) (L 2 m) (L 3 m)
  have hw1 : Below w.heap.size w (w1.alloc (.cells #[.int .u64 (L 0 m), .int .u64 (L 1 m), .int .u64 (L 2 m), .int .u64 (L 3 m)] 34)) := K.alloc (K.call (K.alloc (K.alloc (K.alloc (Below.refl _ w) _) _) _) hb1) _
  clear hb1 hT
  go_wp2_with fail
  with_reducible refine Calls.mono (HF.out _) ?_
  rintro e w2 ⟨rfl, hb2⟩
  generalize h1m : 1 % m = y0 at *
  have HY : Hid (1 % m = y0) := h1m
  clear h1m
  have hS1 : PowS w (w2.alloc (.cells #[.int .u64 (L 0 y0), .int .u64 (L 1 y0), .int .u64 (L 2 y0), .int .u64 (L 3 y0)] 24)) w2.heap.size a ex y0 :=
    ⟨K.alloc (K.call hw1 hb2) _, (X1.keep hb2).alloc _, (E1.keep hb2).alloc _, (R1.keep hb2).alloc _, ArrW.new w2 w2.heap.size rfl 24 _ _ _ _⟩
  have hn : w.heap.size + 1 + 1 < w2.heap.size := by have := R1.lt; have := hb2.size; omega
  clear hb2 X1 E1 R1 M1 hw1 HF
  go_wp2_with fail
  go_loopg [] ex.toNat (fun g wr => ∃ x y f : Int, g = f.toNat ∧ Num f ∧ Num x ∧ Num y ∧ (0 ≤ y ∧ y < m) ∧ y * pw x f % m = pw a ex % m ∧ PowS w wr w2.heap.size x f y)
  case atStart =>
    have h := H0.out
    exact ⟨a, y0, ex, rfl, h.2.1, h.1, h.2.2.2.2, ⟨h.2.2.1, h.2.2.2.1⟩, by rw [← HY.out, mul_mod_l, Int.one_mul], hS1⟩
  case round =>
    clear hS1
    obtain ⟨x, y, f, hg, nf, nx, ny, hy, hinv, hS⟩ := hrel
    have hS0 := hS
    obtain ⟨hbw, ⟨al, a0, a1, a2, a3, af0, af1, af2, af3⟩, ⟨el, e0, e1, e2, e3, ef0, ef1, ef2, ef3⟩, ⟨rl, r0, r1, r2, r3, rf0, rf1, rf2, rf3⟩, ⟨pl, p0, p1, p2, p3, pf0, pf1, pf2, pf3⟩⟩ := hS0
    by_cases hf : f = 0
    · have HV : Hid (y = pw a ex % m) := by rw [← hinv, hf, pw_zero, Int.mul_one]; exact (Int.emod_eq_of_lt hy.1 hy.2).symm
      have HE : ∀ w, (Op.equalIn 10000 24 (.agg #[.int .u64 (L 0 f), .int .u64 (L 1 f), .int .u64 (L 2 f), .int .u64 (L 3 f)]) (.agg #[.int .u64 0, .int .u64 0, .int .u64 0, .int .u64 0])).run Tryd.prog w = .ok true w := by
        intro w; rw [eq4, hf, L_zero, L_zero, L_zero, L_zero]; rfl
      clear hg hinv hy nf nx ny hf
      go_wp2_with fail
      refine bodyPost_ret (v := .agg #[.int .u64 (L 0 y), .int .u64 (L 1 y), .int .u64 (L 2 y), .int .u64 (L 3 y)]) (by simp [results, Tryd.results13, go_sem, r0, r1, r2, r3]) rfl ⟨by rw [← HV.out], K.set4 hS.below (by omega) _ _ _ _⟩
    · have HE : ∀ w, (Op.equalIn 10000 24 (.agg #[.int .u64 (L 0 f), .int .u64 (L 1 f), .int .u64 (L 2 f), .int .u64 (L 3 f)]) (.agg #[.int .u64 0, .int .u64 0, .int .u64 0, .int .u64 0])).run Tryd.prog w = .ok false w := by
        intro w; rw [eq4, words_not nf hf]
      have hm := HNM.out
      have HH : Hid (∀ w, Calls Tryd.prog 30 #[.agg #[.int .u64 (L 0 f), .int .u64 (L 1 f), .int .u64 (L 2 f), .int .u64 (L 3 f)]] w fun e w' => e = .returned (.agg #[.int .u64 (L 0 (f / 2)), .int .u64 (L 1 (f / 2)), .int .u64 (L 2 (f / 2)), .int .u64 (L 3 (f / 2))]) ∧ Below w.heap.size w w') := fun w => half_any nf w
      have HP2 : Hid (∀ w, Calls Tryd.prog 28 #[.agg #[.int .u64 (L 0 m), .int .u64 (L 1 m), .int .u64 (L 2 m), .int .u64 (L 3 m)], .agg #[.int .u64 (L 0 x), .int .u64 (L 1 x), .int .u64 (L 2 x), .int .u64 (L 3 x)], .agg #[.int .u64 (L 0 x), .int .u64 (L 1 x), .int .u64 (L 2 x), .int .u64 (L 3 x)]] w fun e w' => e = .returned (.agg #[.int .u64 (L 0 (x * x % m)), .int .u64 (L 1 (x * x % m)), .int .u64 (L 2 (x * x % m)), .int .u64 (L 3 (x * x % m))]) ∧ Below w.heap.size w w') := fun w => HPR.out x x w nx nx
      have fl := nf.lo
      have fh := nf.hi
      have nx' : Num (x * x % m) := num_mod hm.1 hm.2
      have nf' : Num (f / 2) := ⟨by omega, by omega⟩
      by_cases ho : f % 2 = 1
      · have HB : ∀ w, Calls Tryd.prog 29 #[.agg #[.int .u64 (L 0 f), .int .u64 (L 1 f), .int .u64 (L 2 f), .int .u64 (L 3 f)], .int .i64 0] w fun e w' => e = .returned (.int .i64 1) ∧ Below w.heap.size w w' := by
          intro w; have h := bit_any f 0 w; rwa [bt_0, ho] at h
        have HP1 : Hid (∀ w, Calls Tryd.prog 28 #[.agg #[.int .u64 (L 0 m), .int .u64 (L 1 m), .int .u64 (L 2 m), .int .u64 (L 3 m)], .agg #[.int .u64 (L 0 y), .int .u64 (L 1 y), .int .u64 (L 2 y), .int .u64 (L 3 y)], .agg #[.int .u64 (L 0 x), .int .u64 (L 1 x), .int .u64 (L 2 x), .int .u64 (L 3 x)]] w fun e w' => e = .returned (.agg #[.int .u64 (L 0 (y * x % m)), .int .u64 (L 1 (y * x % m)), .int .u64 (L 2 (y * x % m)), .int .u64 (L 3 (y * x % m))]) ∧ Below w.heap.size w w') := fun w => HPR.out y x w ny nx
        have HI : Hid (Num (f / 2) ∧ Num (x * x % m) ∧ Num (y * x % m) ∧ (0 ≤ y * x % m ∧ y * x % m < m) ∧ (y * x % m) * pw (x * x % m) (f / 2) % m = pw a ex % m ∧ 0 < f ∧ gk = f.toNat) :=
          ⟨nf', nx', num_mod hm.1 hm.2, ⟨Int.emod_nonneg _ (by omega), Int.emod_lt_of_pos _ hm.2⟩, by rw [inv_odd (by omega) ho, hinv], by omega, hg⟩
        clear hg hinv hy nf nx ny hf nx' nf' ho fl fh hm
        generalize x * x % m = x' at *
        generalize y * x % m = y' at *
        go_wp2_with fail
        with_reducible refine Calls.mono (HB _) ?_
        clear hbw al a0 a1 a2 a3 af0 af1 af2 af3 el e0 e1 e2 e3 ef0 ef1 ef2 ef3 rl r0 r1 r2 r3 rf0 rf1 rf2 rf3 pl p0 p1 p2 p3 pf0 pf1 pf2 pf3
        rintro e w3 ⟨rfl, hb⟩
        have hS3 := hS.call hb
        clear hb hS
        have hS0 := hS3
        obtain ⟨hbw, ⟨al, a0, a1, a2, a3, af0, af1, af2, af3⟩, ⟨el, e0, e1, e2, e3, ef0, ef1, ef2, ef3⟩, ⟨rl, r0, r1, r2, r3, rf0, rf1, rf2, rf3⟩, ⟨pl, p0, p1, p2, p3, pf0, pf1, pf2, pf3⟩⟩ := hS0
        go_wp2_with fail
        with_reducible refine Calls.mono (HP1.out _) ?_
        clear hbw al a0 a1 a2 a3 af0 af1 af2 af3 el e0 e1 e2 e3 ef0 ef1 ef2 ef3 rl r0 r1 r2 r3 rf0 rf1 rf2 rf3 pl p0 p1 p2 p3 pf0 pf1 pf2 pf3
        rintro e w4 ⟨rfl, hb⟩
        have hS4 := hS3.call hb
        clear hb hS3
        have hS0 := hS4
        obtain ⟨hbw, ⟨al, a0, a1, a2, a3, af0, af1, af2, af3⟩, ⟨el, e0, e1, e2, e3, ef0, ef1, ef2, ef3⟩, ⟨rl, r0, r1, r2, r3, rf0, rf1, rf2, rf3⟩, ⟨pl, p0, p1, p2, p3, pf0, pf1, pf2, pf3⟩⟩ := hS0
        go_upto_region 7 with fail
        refine wp_world (fun W => PowS w W w2.heap.size x f y') (hS4.storeP hn y') ?_
        clear hbw al a0 a1 a2 a3 af0 af1 af2 af3 el e0 e1 e2 e3 ef0 ef1 ef2 ef3 rl r0 r1 r2 r3 rf0 rf1 rf2 rf3 pl p0 p1 p2 p3 pf0 pf1 pf2 pf3 hS4
        intro w5 hS5
        have hS0 := hS5
        obtain ⟨hbw, ⟨al, a0, a1, a2, a3, af0, af1, af2, af3⟩, ⟨el, e0, e1, e2, e3, ef0, ef1, ef2, ef3⟩, ⟨rl, r0, r1, r2, r3, rf0, rf1, rf2, rf3⟩, ⟨pl, p0, p1, p2, p3, pf0, pf1, pf2, pf3⟩⟩ := hS0
        go_wp2_with fail
        with_reducible refine Calls.mono (HP2.out _) ?_
        clear hbw al a0 a1 a2 a3 af0 af1 af2 af3 el e0 e1 e2 e3 ef0 ef1 ef2 ef3 rl r0 r1 r2 r3 rf0 rf1 rf2 rf3 pl p0 p1 p2 p3 pf0 pf1 pf2 pf3
        rintro e w6 ⟨rfl, hb⟩
        have hS6 := hS5.call hb
        clear hb hS5
        have hS0 := hS6
        obtain ⟨hbw, ⟨al, a0, a1, a2, a3, af0, af1, af2, af3⟩, ⟨el, e0, e1, e2, e3, ef0, ef1, ef2, ef3⟩, ⟨rl, r0, r1, r2, r3, rf0, rf1, rf2, rf3⟩, ⟨pl, p0, p1, p2, p3, pf0, pf1, pf2, pf3⟩⟩ := hS0
        go_upto_region 8 with fail
        refine wp_world (fun W => PowS w W w2.heap.size x' f y') (hS6.storeA hn x') ?_
        clear hbw al a0 a1 a2 a3 af0 af1 af2 af3 el e0 e1 e2 e3 ef0 ef1 ef2 ef3 rl r0 r1 r2 r3 rf0 rf1 rf2 rf3 pl p0 p1 p2 p3 pf0 pf1 pf2 pf3 hS6
        intro w7 hS7
        have hS0 := hS7
        obtain ⟨hbw, ⟨al, a0, a1, a2, a3, af0, af1, af2, af3⟩, ⟨el, e0, e1, e2, e3, ef0, ef1, ef2, ef3⟩, ⟨rl, r0, r1, r2, r3, rf0, rf1, rf2, rf3⟩, ⟨pl, p0, p1, p2, p3, pf0, pf1, pf2, pf3⟩⟩ := hS0
        go_wp2_with fail
        with_reducible refine Calls.mono (HH.out _) ?_
        clear hbw al a0 a1 a2 a3 af0 af1 af2 af3 el e0 e1 e2 e3 ef0 ef1 ef2 ef3 rl r0 r1 r2 r3 rf0 rf1 rf2 rf3 pl p0 p1 p2 p3 pf0 pf1 pf2 pf3
        rintro e w8 ⟨rfl, hb⟩
        have hS8 := hS7.call hb
        clear hb hS7
        have hS0 := hS8
        obtain ⟨hbw, ⟨al, a0, a1, a2, a3, af0, af1, af2, af3⟩, ⟨el, e0, e1, e2, e3, ef0, ef1, ef2, ef3⟩, ⟨rl, r0, r1, r2, r3, rf0, rf1, rf2, rf3⟩, ⟨pl, p0, p1, p2, p3, pf0, pf1, pf2, pf3⟩⟩ := hS0
        go_wp2_with fail
        go_roundg (f / 2).toNat
        case measure => have := HI.out; omega
        case rel => exact ⟨x', y', f / 2, rfl, HI.out.1, HI.out.2.1, HI.out.2.2.1, HI.out.2.2.2.1, HI.out.2.2.2.2.1, hS8.storeE hn (f / 2)⟩
      · have hz : f % 2 = 0 := by omega
        have HB : ∀ w, Calls Tryd.prog 29 #[.agg #[.int .u64 (L 0 f), .int .u64 (L 1 f), .int .u64 (L 2 f), .int .u64 (L 3 f)], .int .i64 0] w fun e w' => e = .returned (.int .i64 0) ∧ Below w.heap.size w w' := by
          intro w; have h := bit_any f 0 w; rwa [bt_0, hz] at h
        have HI : Hid (Num (f / 2) ∧ Num (x * x % m) ∧ Num y ∧ (0 ≤ y ∧ y < m) ∧ y * pw (x * x % m) (f / 2) % m = pw a ex % m ∧ 0 < f ∧ gk = f.toNat) :=
          ⟨nf', nx', ny, hy, by rw [inv_even hz, hinv], by omega, hg⟩
        clear hg hinv hy nf nx ny hf nx' nf' ho hz fl fh hm
        generalize x * x % m = x' at *
        go_wp2_with fail
        with_reducible refine Calls.mono (HB _) ?_
        clear hbw al a0 a1 a2 a3 af0 af1 af2 af3 el e0 e1 e2 e3 ef0 ef1 ef2 ef3 rl r0 r1 r2 r3 rf0 rf1 rf2 rf3 pl p0 p1 p2 p3 pf0 pf1 pf2 pf3
        rintro e w3 ⟨rfl, hb⟩
        have hS3 := hS.call hb
        clear hb hS
        have hS0 := hS3
        obtain ⟨hbw, ⟨al, a0, a1, a2, a3, af0, af1, af2, af3⟩, ⟨el, e0, e1, e2, e3, ef0, ef1, ef2, ef3⟩, ⟨rl, r0, r1, r2, r3, rf0, rf1, rf2, rf3⟩, ⟨pl, p0, p1, p2, p3, pf0, pf1, pf2, pf3⟩⟩ := hS0
        go_wp2_with fail
        with_reducible refine Calls.mono (HP2.out _) ?_
        clear hbw al a0 a1 a2 a3 af0 af1 af2 af3 el e0 e1 e2 e3 ef0 ef1 ef2 ef3 rl r0 r1 r2 r3 rf0 rf1 rf2 rf3 pl p0 p1 p2 p3 pf0 pf1 pf2 pf3
        rintro e w6 ⟨rfl, hb⟩
        have hS6 := hS3.call hb
        clear hb hS3
        have hS0 := hS6
        obtain ⟨hbw, ⟨al, a0, a1, a2, a3, af0, af1, af2, af3⟩, ⟨el, e0, e1, e2, e3, ef0, ef1, ef2, ef3⟩, ⟨rl, r0, r1, r2, r3, rf0, rf1, rf2, rf3⟩, ⟨pl, p0, p1, p2, p3, pf0, pf1, pf2, pf3⟩⟩ := hS0
        go_upto_region 8 with fail
        refine wp_world (fun W => PowS w W w2.heap.size x' f y) (hS6.storeA hn x') ?_
        clear hbw al a0 a1 a2 a3 af0 af1 af2 af3 el e0 e1 e2 e3 ef0 ef1 ef2 ef3 rl r0 r1 r2 r3 rf0 rf1 rf2 rf3 pl p0 p1 p2 p3 pf0 pf1 pf2 pf3 hS6
        intro w7 hS7
        have hS0 := hS7
        obtain ⟨hbw, ⟨al, a0, a1, a2, a3, af0, af1, af2, af3⟩, ⟨el, e0, e1, e2, e3, ef0, ef1, ef2, ef3⟩, ⟨rl, r0, r1, r2, r3, rf0, rf1, rf2, rf3⟩, ⟨pl, p0, p1, p2, p3, pf0, pf1, pf2, pf3⟩⟩ := hS0
        go_wp2_with fail
        with_reducible refine Calls.mono (HH.out _) ?_
        clear hbw al a0 a1 a2 a3 af0 af1 af2 af3 el e0 e1 e2 e3 ef0 ef1 ef2 ef3 rl r0 r1 r2 r3 rf0 rf1 rf2 rf3 pl p0 p1 p2 p3 pf0 pf1 pf2 pf3
        rintro e w8 ⟨rfl, hb⟩
        have hS8 := hS7.call hb
        clear hb hS7
        have hS0 := hS8
        obtain ⟨hbw, ⟨al, a0, a1, a2, a3, af0, af1, af2, af3⟩, ⟨el, e0, e1, e2, e3, ef0, ef1, ef2, ef3⟩, ⟨rl, r0, r1, r2, r3, rf0, rf1, rf2, rf3⟩, ⟨pl, p0, p1, p2, p3, pf0, pf1, pf2, pf3⟩⟩ := hS0
        go_wp2_with fail
        go_roundg (f / 2).toNat
        case measure => have := HI.out; omega
        case rel => exact ⟨x', y, f / 2, rfl, HI.out.1, HI.out.2.1, HI.out.2.2.1, HI.out.2.2.2.1, HI.out.2.2.2.2.1, hS8.storeE hn (f / 2)⟩
end Go.Proofs.YtffkeabpdmpjbaaDoor
