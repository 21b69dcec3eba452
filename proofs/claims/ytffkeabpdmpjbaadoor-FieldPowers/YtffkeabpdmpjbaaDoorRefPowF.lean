/- What the document's own Pow and Inv modulo a number answer. -/
import Derived.Test.YtffkeabpdmpjbaaDoorRefMulF
import Derived.Test.YtffkeabpdmpjbaaDoorRefBit
import Derived.Test.YtffkeabpdmpjbaaDoorInv
import Derived.Deep.LoopGhost
namespace Go.Proofs.YtffkeabpdmpjbaaDoor
open Go.RowKit
attribute [local go_sem ↓] Go.wp_at_zero Go.wp_at_succ

theorem pw_dbl (a m : Int) {q : Int} (h : 0 ≤ q) : pw a q % m * (pw a q % m) % m = pw a (2 * q) % m := by
  rw [← Int.mul_emod]
  unfold pw
  rw [show (2 * q).toNat = q.toNat + q.toNat by omega, Int.pow_add]
theorem pw_one (a m : Int) {q : Int} (h : 0 ≤ q) : pw a q % m * a % m = pw a (q + 1) % m := by
  rw [mul_mod_l]
  unfold pw
  rw [show (q + 1).toNat = q.toNat + 1 by omega, Int.pow_succ]
theorem half_bit (ex : Int) (j : Nat) : ex / 2 ^ j = 2 * (ex / 2 ^ (j + 1)) + ex / 2 ^ j % 2 := by
  rw [Int.pow_succ, ← Int.ediv_ediv_of_nonneg (Int.le_of_lt (Int.pow_pos (by omega)))]
  omega
theorem small_any (x : Int) (w : World) : Calls Tryd.prog 33 #[.int .u64 x] w fun e w' => e = .returned (.agg #[.int .u64 x, .int .u64 0, .int .u64 0, .int .u64 0]) ∧ Below w.heap.size w w' := by
  go_enter Tryd.func33, Tryd.ntmps33
  go_wp2
  go_returns
  refine ⟨rfl, ?_⟩
  go_grown

structure PS (w wr : World) (no : Nat) (a ex z : Int) : Prop where
  below : Below w.heap.size w wr
  A : Arr wr w.heap.size (L 0 a) (L 1 a) (L 2 a) (L 3 a)
  E : Arr wr (w.heap.size + 1) (L 0 ex) (L 1 ex) (L 2 ex) (L 3 ex)
  R : ArrW wr (w.heap.size + 1 + 1) 0 0 0 0
  O : ArrW wr no (L 0 z) (L 1 z) (L 2 z) (L 3 z)
theorem PS.call {w wr w1 : World} {no : Nat} {a ex z : Int} (h : PS w wr no a ex z) (hk : Below wr.heap.size wr w1) : PS w w1 no a ex z :=
  ⟨K.call h.below hk, h.A.keep hk, h.E.keep hk, h.R.keep hk, h.O.keep hk⟩
theorem PS.store {w wr : World} {no : Nat} {a ex z : Int} (h : PS w wr no a ex z) (hn : w.heap.size + 1 + 1 < no) (u : Int) : PS w ((((wr.setCell ⟨no, 0, none⟩ (.int .u64 (L 0 u))).setCell ⟨no, 1, none⟩ (.int .u64 (L 1 u))).setCell ⟨no, 2, none⟩ (.int .u64 (L 2 u))).setCell ⟨no, 3, none⟩ (.int .u64 (L 3 u))) no a ex u :=
  ⟨K.set4 h.below (by omega) _ _ _ _, h.A.set4 (by omega) _ _ _ _, h.E.set4 (by omega) _ _ _ _, h.R.set4 (by omega) _ _ _ _, h.O.stored _ _ _ _⟩

set_option maxHeartbeats 8000000 in
theorem ref_powf_walk {k a ex m : Int} (w : World)
    (HN : Hid (∀ x, Num (x % m))) (HE0 : Hid (0 ≤ ex)) (HZ : Hid (1 = (pw a (ex / 2 ^ 256) % m))) (HA : Hid (Num a))
    (HNE : ∀ w, (Op.equalIn 10000 24 (.agg #[.int .u64 (L 0 m), .int .u64 (L 1 m), .int .u64 (L 2 m), .int .u64 (L 3 m)]) (.agg #[.int .u64 0, .int .u64 0, .int .u64 0, .int .u64 0])).run Tryd.prog w = .ok false w)
    (HMU : Hid (∀ x y w, Num x → Num y → Calls Tryd.prog 18 #[.int .i64 k, .agg #[.int .u64 (L 0 x), .int .u64 (L 1 x), .int .u64 (L 2 x), .int .u64 (L 3 x)], .agg #[.int .u64 (L 0 y), .int .u64 (L 1 y), .int .u64 (L 2 y), .int .u64 (L 3 y)]] w fun e w' => e = .returned (.agg #[.int .u64 (L 0 (x * y % m)), .int .u64 (L 1 (x * y % m)), .int .u64 (L 2 (x * y % m)), .int .u64 (L 3 (x * y % m))]) ∧ Below w.heap.size w w'))
    (HMO : Hid (∀ w, Calls Tryd.prog 7 #[.int .i64 k] w fun e w' => e = .returned (.agg #[.int .u64 (L 0 m), .int .u64 (L 1 m), .int .u64 (L 2 m), .int .u64 (L 3 m)]) ∧ Below w.heap.size w w')) :
    Calls Tryd.prog 19 #[.int .i64 k, .agg #[.int .u64 (L 0 a), .int .u64 (L 1 a), .int .u64 (L 2 a), .int .u64 (L 3 a)], .agg #[.int .u64 (L 0 ex), .int .u64 (L 1 ex), .int .u64 (L 2 ex), .int .u64 (L 3 ex)]] w fun e w' => e = .returned (.agg #[.int .u64 (L 0 (pw a ex % m)), .int .u64 (L 1 (pw a ex % m)), .int .u64 (L 2 (pw a ex % m)), .int .u64 (L 3 (pw a ex % m))]) ∧ Below w.heap.size w w' := by
  go_enter Tryd.func19, Tryd.ntmps19
  go_wp2_with fail
  with_reducible refine Calls.mono (HMO.out _) ?_
  rintro e w1 ⟨rfl, hb1⟩
  have A1 := (((Arr.new w w.heap.size rfl 24 (L 0 a) (L 1 a) (L 2 a) (L 3 a)).alloc _).alloc _).keep hb1
  have E1 := ((Arr.new _ (w.heap.size + 1) (by simp) 24 (L 0 ex) (L 1 ex) (L 2 ex) (L 3 ex)).alloc _).keep hb1
  have R1 := (ArrW.new _ (w.heap.size + 1 + 1) (by simp) 24 0 0 0 0).keep hb1
  have hw1 : Below w.heap.size w w1 := K.call (K.alloc (K.alloc (K.alloc (Below.refl _ w) _) _) _) hb1
  clear hb1 HMO
  go_wp2_with fail
  with_reducible refine Calls.mono (small_any 1 _) ?_
  rintro e w2 ⟨rfl, hb2⟩
  have hS1 : PS w (w2.alloc (.cells #[.int .u64 1, .int .u64 0, .int .u64 0, .int .u64 0] 24)) w2.heap.size a ex (pw a (ex / 2 ^ 256) % m) := by
    rw [← HZ.out]
    refine ⟨K.alloc (K.call hw1 hb2) _, (A1.keep hb2).alloc _, (E1.keep hb2).alloc _, (R1.keep hb2).alloc _, ?_⟩
    rw [show L 0 1 = 1 by decide, show L 1 1 = 0 by decide, show L 2 1 = 0 by decide, show L 3 1 = 0 by decide]
    exact ArrW.new w2 w2.heap.size rfl 24 1 0 0 0
  have hn : w.heap.size + 1 + 1 < w2.heap.size := by have := R1.lt; have := hb2.size; omega
  clear A1 E1 R1 hw1 hb2 HZ HNE
  go_wp2_with fail
  generalize w2.heap.size = no at *
  go_loopg [8] 256 (fun g s8 wr => g ≤ 256 ∧ s8 = .int .i64 ((g : Int) - 1) ∧ PS w wr no a ex (pw a (ex / 2 ^ g) % m))
  case atStart => exact ⟨Nat.le_refl _, rfl, hS1⟩
  case round =>
    clear hS1
    obtain ⟨hg, rfl, hS⟩ := hrel
    cases gk with
    | zero =>
      have e0 : (pw a (ex / 2 ^ 0) % m) = pw a ex % m := by simp
      rw [e0] at hS
      have hS0 := hS
      obtain ⟨hbw, ⟨al, a0, a1, a2, a3⟩, ⟨el, e0, e1, e2, e3⟩, ⟨rl, r0, r1, r2, r3, rf0, rf1, rf2, rf3⟩, ⟨ol, o0, o1, o2, o3, of0, of1, of2, of3⟩⟩ := hS0
      have hm1 : ((0 : Nat) : Int) - 1 = -1 := by omega
      rw [hm1]
      go_wp2_with fail
      exact bodyPost_ret (v := .agg #[.int .u64 (L 0 (pw a ex % m)), .int .u64 (L 1 (pw a ex % m)), .int .u64 (L 2 (pw a ex % m)), .int .u64 (L 3 (pw a ex % m))]) (by simp [results, Tryd.results19, go_sem, r0, r1, r2, r3]) rfl ⟨rfl, K.set4 hS.below (by omega) _ _ _ _⟩
    | succ j =>
      have hji : ((j + 1 : Nat) : Int) - 1 = (j : Int) := by omega
      rw [hji]
      have hq : 0 ≤ ex / 2 ^ (j + 1) := Int.ediv_nonneg HE0.out (Int.le_of_lt (Int.pow_pos (by omega)))
      have hb := half_bit ex j
      have h2 := pw_dbl a m hq
      have HI : Hid (∀ w, Calls Tryd.prog 18 #[.int .i64 k, .agg #[.int .u64 (L 0 (pw a (ex / 2 ^ (j + 1)) % m)), .int .u64 (L 1 (pw a (ex / 2 ^ (j + 1)) % m)), .int .u64 (L 2 (pw a (ex / 2 ^ (j + 1)) % m)), .int .u64 (L 3 (pw a (ex / 2 ^ (j + 1)) % m))], .agg #[.int .u64 (L 0 (pw a (ex / 2 ^ (j + 1)) % m)), .int .u64 (L 1 (pw a (ex / 2 ^ (j + 1)) % m)), .int .u64 (L 2 (pw a (ex / 2 ^ (j + 1)) % m)), .int .u64 (L 3 (pw a (ex / 2 ^ (j + 1)) % m))]] w fun e w' => e = .returned (.agg #[.int .u64 (L 0 ((pw a (ex / 2 ^ (j + 1)) % m) * (pw a (ex / 2 ^ (j + 1)) % m) % m)), .int .u64 (L 1 ((pw a (ex / 2 ^ (j + 1)) % m) * (pw a (ex / 2 ^ (j + 1)) % m) % m)), .int .u64 (L 2 ((pw a (ex / 2 ^ (j + 1)) % m) * (pw a (ex / 2 ^ (j + 1)) % m) % m)), .int .u64 (L 3 ((pw a (ex / 2 ^ (j + 1)) % m) * (pw a (ex / 2 ^ (j + 1)) % m) % m))]) ∧ Below w.heap.size w w') := fun w => HMU.out _ _ w (HN.out _) (HN.out _)
      have HG : Hid (j + 1 ≤ 256) := hg
      have hbt : bt ex j = ex / 2 ^ j % 2 := by rw [bt_in ex j (by omega) (by omega)]; simp
      have hjl : (j : Int) < 256 := by omega
      have hb2 : ex / 2 ^ j % 2 = 0 ∨ ex / 2 ^ j % 2 = 1 := by omega
      rcases hb2 with hb2 | hb2
      · have HBT : Hid (∀ w, Calls Tryd.prog 34 #[.agg #[.int .u64 (L 0 ex), .int .u64 (L 1 ex), .int .u64 (L 2 ex), .int .u64 (L 3 ex)], .int .i64 j] w fun e w' => e = .returned (.int .i64 0) ∧ Below w.heap.size w w') := fun w => by have h := ref_bit_any ex j w; rw [hbt, hb2] at h; exact h
        have HV : Hid ((pw a (ex / 2 ^ (j + 1)) % m) * (pw a (ex / 2 ^ (j + 1)) % m) % m = (pw a (ex / 2 ^ j) % m)) := by show _ = _; rw [h2, hb, hb2, Int.add_zero]
        clear hbt hb2 hb h2 hq hg hji
        generalize (pw a (ex / 2 ^ (j + 1)) % m) * (pw a (ex / 2 ^ (j + 1)) % m) % m = z2 at *
        generalize pw a (ex / 2 ^ (j + 1)) % m = z1 at *
        have hS0 := hS
        obtain ⟨hbw, ⟨al, a0, a1, a2, a3⟩, ⟨el, e0, e1, e2, e3⟩, ⟨rl, r0, r1, r2, r3, rf0, rf1, rf2, rf3⟩, ⟨ol, o0, o1, o2, o3, of0, of1, of2, of3⟩⟩ := hS0
        go_wp2_with fail
        with_reducible refine Calls.mono (HI.out _) ?_
        clear hbw al a0 a1 a2 a3 el e0 e1 e2 e3 rl r0 r1 r2 r3 rf0 rf1 rf2 rf3 ol o0 o1 o2 o3 of0 of1 of2 of3
        rintro e w3 ⟨rfl, hb3⟩
        have hS3 := hS.call hb3
        clear hS hb3
        have hS0 := hS3
        obtain ⟨hbw, ⟨al, a0, a1, a2, a3⟩, ⟨el, e0, e1, e2, e3⟩, ⟨rl, r0, r1, r2, r3, rf0, rf1, rf2, rf3⟩, ⟨ol, o0, o1, o2, o3, of0, of1, of2, of3⟩⟩ := hS0
        go_upto_region 8 with fail
        refine wp_world (fun W => PS w W no a ex z2) (hS3.store hn z2) ?_
        clear hbw al a0 a1 a2 a3 el e0 e1 e2 e3 rl r0 r1 r2 r3 rf0 rf1 rf2 rf3 ol o0 o1 o2 o3 of0 of1 of2 of3 hS3
        intro w4 hS4
        have hS0 := hS4
        obtain ⟨hbw, ⟨al, a0, a1, a2, a3⟩, ⟨el, e0, e1, e2, e3⟩, ⟨rl, r0, r1, r2, r3, rf0, rf1, rf2, rf3⟩, ⟨ol, o0, o1, o2, o3, of0, of1, of2, of3⟩⟩ := hS0
        go_wp2_with fail
        with_reducible refine Calls.mono (HBT.out _) ?_
        clear hbw al a0 a1 a2 a3 el e0 e1 e2 e3 rl r0 r1 r2 r3 rf0 rf1 rf2 rf3 ol o0 o1 o2 o3 of0 of1 of2 of3
        rintro e w5 ⟨rfl, hb5⟩
        have hS5 := hS4.call hb5
        clear hS4 hb5
        go_wp2_with fail
        go_roundg j
        case measure => omega
        case rel =>
          refine ⟨by have := HG.out; omega, by go_num, ?_⟩
          rw [← HV.out]; exact hS5
      · have HBT : Hid (∀ w, Calls Tryd.prog 34 #[.agg #[.int .u64 (L 0 ex), .int .u64 (L 1 ex), .int .u64 (L 2 ex), .int .u64 (L 3 ex)], .int .i64 j] w fun e w' => e = .returned (.int .i64 1) ∧ Below w.heap.size w w') := fun w => by have h := ref_bit_any ex j w; rw [hbt, hb2] at h; exact h
        have HV : Hid ((pw a (ex / 2 ^ (j + 1)) % m) * (pw a (ex / 2 ^ (j + 1)) % m) % m * a % m = (pw a (ex / 2 ^ j) % m)) := by show _ = _; rw [h2, pw_one a m (by omega), hb, hb2]
        have HI2 : Hid (∀ w, Calls Tryd.prog 18 #[.int .i64 k, .agg #[.int .u64 (L 0 ((pw a (ex / 2 ^ (j + 1)) % m) * (pw a (ex / 2 ^ (j + 1)) % m) % m)), .int .u64 (L 1 ((pw a (ex / 2 ^ (j + 1)) % m) * (pw a (ex / 2 ^ (j + 1)) % m) % m)), .int .u64 (L 2 ((pw a (ex / 2 ^ (j + 1)) % m) * (pw a (ex / 2 ^ (j + 1)) % m) % m)), .int .u64 (L 3 ((pw a (ex / 2 ^ (j + 1)) % m) * (pw a (ex / 2 ^ (j + 1)) % m) % m))], .agg #[.int .u64 (L 0 a), .int .u64 (L 1 a), .int .u64 (L 2 a), .int .u64 (L 3 a)]] w fun e w' => e = .returned (.agg #[.int .u64 (L 0 ((pw a (ex / 2 ^ (j + 1)) % m) * (pw a (ex / 2 ^ (j + 1)) % m) % m * a % m)), .int .u64 (L 1 ((pw a (ex / 2 ^ (j + 1)) % m) * (pw a (ex / 2 ^ (j + 1)) % m) % m * a % m)), .int .u64 (L 2 ((pw a (ex / 2 ^ (j + 1)) % m) * (pw a (ex / 2 ^ (j + 1)) % m) % m * a % m)), .int .u64 (L 3 ((pw a (ex / 2 ^ (j + 1)) % m) * (pw a (ex / 2 ^ (j + 1)) % m) % m * a % m))]) ∧ Below w.heap.size w w') := fun w => HMU.out _ _ w (HN.out _) HA.out
        clear hbt hb2 hb h2 hq hg hji
        generalize (pw a (ex / 2 ^ (j + 1)) % m) * (pw a (ex / 2 ^ (j + 1)) % m) % m * a % m = z3 at *
        generalize (pw a (ex / 2 ^ (j + 1)) % m) * (pw a (ex / 2 ^ (j + 1)) % m) % m = z2 at *
        generalize pw a (ex / 2 ^ (j + 1)) % m = z1 at *
        have hS0 := hS
        obtain ⟨hbw, ⟨al, a0, a1, a2, a3⟩, ⟨el, e0, e1, e2, e3⟩, ⟨rl, r0, r1, r2, r3, rf0, rf1, rf2, rf3⟩, ⟨ol, o0, o1, o2, o3, of0, of1, of2, of3⟩⟩ := hS0
        go_wp2_with fail
        with_reducible refine Calls.mono (HI.out _) ?_
        clear hbw al a0 a1 a2 a3 el e0 e1 e2 e3 rl r0 r1 r2 r3 rf0 rf1 rf2 rf3 ol o0 o1 o2 o3 of0 of1 of2 of3
        rintro e w3 ⟨rfl, hb3⟩
        have hS3 := hS.call hb3
        clear hS hb3
        have hS0 := hS3
        obtain ⟨hbw, ⟨al, a0, a1, a2, a3⟩, ⟨el, e0, e1, e2, e3⟩, ⟨rl, r0, r1, r2, r3, rf0, rf1, rf2, rf3⟩, ⟨ol, o0, o1, o2, o3, of0, of1, of2, of3⟩⟩ := hS0
        go_upto_region 8 with fail
        refine wp_world (fun W => PS w W no a ex z2) (hS3.store hn z2) ?_
        clear hbw al a0 a1 a2 a3 el e0 e1 e2 e3 rl r0 r1 r2 r3 rf0 rf1 rf2 rf3 ol o0 o1 o2 o3 of0 of1 of2 of3 hS3
        intro w4 hS4
        have hS0 := hS4
        obtain ⟨hbw, ⟨al, a0, a1, a2, a3⟩, ⟨el, e0, e1, e2, e3⟩, ⟨rl, r0, r1, r2, r3, rf0, rf1, rf2, rf3⟩, ⟨ol, o0, o1, o2, o3, of0, of1, of2, of3⟩⟩ := hS0
        go_wp2_with fail
        with_reducible refine Calls.mono (HBT.out _) ?_
        clear hbw al a0 a1 a2 a3 el e0 e1 e2 e3 rl r0 r1 r2 r3 rf0 rf1 rf2 rf3 ol o0 o1 o2 o3 of0 of1 of2 of3
        rintro e w5 ⟨rfl, hb5⟩
        have hS5 := hS4.call hb5
        clear hS4 hb5
        have hS0 := hS5
        obtain ⟨hbw, ⟨al, a0, a1, a2, a3⟩, ⟨el, e0, e1, e2, e3⟩, ⟨rl, r0, r1, r2, r3, rf0, rf1, rf2, rf3⟩, ⟨ol, o0, o1, o2, o3, of0, of1, of2, of3⟩⟩ := hS0
        go_wp2_with fail
        with_reducible refine Calls.mono (HI2.out _) ?_
        clear hbw al a0 a1 a2 a3 el e0 e1 e2 e3 rl r0 r1 r2 r3 rf0 rf1 rf2 rf3 ol o0 o1 o2 o3 of0 of1 of2 of3
        rintro e w6 ⟨rfl, hb6⟩
        have hS6 := hS5.call hb6
        clear hS5 hb6
        have hS0 := hS6
        obtain ⟨hbw, ⟨al, a0, a1, a2, a3⟩, ⟨el, e0, e1, e2, e3⟩, ⟨rl, r0, r1, r2, r3, rf0, rf1, rf2, rf3⟩, ⟨ol, o0, o1, o2, o3, of0, of1, of2, of3⟩⟩ := hS0
        go_wp2_with fail
        go_roundg j
        case measure => omega
        case rel =>
          refine ⟨by have := HG.out; omega, by go_num, ?_⟩
          rw [← HV.out]; exact hS6.store hn z3

theorem ref_powf_any {k a ex : Int} (hk : 0 ≤ k ∧ k ≤ 3) (ha : Num a) (he : Num ex) (w : World) :
    Calls Tryd.prog 19 #[.int .i64 k, .agg #[.int .u64 (L 0 a), .int .u64 (L 1 a), .int .u64 (L 2 a), .int .u64 (L 3 a)], .agg #[.int .u64 (L 0 ex), .int .u64 (L 1 ex), .int .u64 (L 2 ex), .int .u64 (L 3 ex)]] w fun e w' => e = .returned (.agg #[.int .u64 (L 0 (pw a ex % md k)), .int .u64 (L 1 (pw a ex % md k)), .int .u64 (L 2 (pw a ex % md k)), .int .u64 (L 3 (pw a ex % md k))]) ∧ Below w.heap.size w w' := by
  have hp := md_pos hk
  have hb := md_big hk
  refine ref_powf_walk w (fun x => num_mod (md_num k) hp) he.lo ?_ ha (fun w => by rw [eq4, md_odd hk]; rfl) (fun x y w hx hy => ref_mulf_any hk hx hy w) (fun w => ref_mod_any k w)
  show _ = _
  have e : ex / 2 ^ 256 = 0 := Int.ediv_eq_zero_of_lt he.lo (by
    have h2 := he.hi
    unfold M at h2
    rw [show (2 : Int) ^ 256 = 115792089237316195423570985008687907853269984665640564039457584007913129639936 by decide +kernel]
    omega)
  rw [e, pw_zero, Int.emod_eq_of_lt (by omega) (by omega)]

set_option maxHeartbeats 2000000 in
theorem ref_invf_any {k a : Int} (hk : 0 ≤ k ∧ k ≤ 3) (ha : Num a) (w : World) :
    Calls Tryd.prog 20 #[.int .i64 k, .agg #[.int .u64 (L 0 a), .int .u64 (L 1 a), .int .u64 (L 2 a), .int .u64 (L 3 a)]] w fun e w' => e = .returned (.agg #[.int .u64 (L 0 (pw a (md k - 2) % md k)), .int .u64 (L 1 (pw a (md k - 2) % md k)), .int .u64 (L 2 (pw a (md k - 2) % md k)), .int .u64 (L 3 (pw a (md k - 2) % md k))]) ∧ Below w.heap.size w w' := by
  have hb := md_big hk
  have nm := md_num k
  have ne : Num (md k - 2) := ⟨by omega, by have := nm.hi; omega⟩
  have HS : Hid (∀ w, Calls Tryd.prog 24 #[.agg #[.int .u64 (L 0 (md k)), .int .u64 (L 1 (md k)), .int .u64 (L 2 (md k)), .int .u64 (L 3 (md k))], .agg #[.int .u64 2, .int .u64 0, .int .u64 0, .int .u64 0]] w fun e w' => e = .returned (.tuple #[.agg #[.int .u64 (L 0 (md k - 2)), .int .u64 (L 1 (md k - 2)), .int .u64 (L 2 (md k - 2)), .int .u64 (L 3 (md k - 2))], .bool (D (md k) 2 4 == 1)]) ∧ Below w.heap.size w w') := by
    intro w
    have h := ref_sub_walk (md k) 2 w
    rw [show L 0 2 = 2 by decide, show L 1 2 = 0 by decide, show L 2 2 = 0 by decide, show L 3 2 = 0 by decide] at h
    exact h
  have HP : Hid (∀ w, Calls Tryd.prog 19 #[.int .i64 k, .agg #[.int .u64 (L 0 a), .int .u64 (L 1 a), .int .u64 (L 2 a), .int .u64 (L 3 a)], .agg #[.int .u64 (L 0 (md k - 2)), .int .u64 (L 1 (md k - 2)), .int .u64 (L 2 (md k - 2)), .int .u64 (L 3 (md k - 2))]] w fun e w' => e = .returned (.agg #[.int .u64 (L 0 (pw a (md k - 2) % md k)), .int .u64 (L 1 (pw a (md k - 2) % md k)), .int .u64 (L 2 (pw a (md k - 2) % md k)), .int .u64 (L 3 (pw a (md k - 2) % md k))]) ∧ Below w.heap.size w w') := fun w => ref_powf_any hk ha ne w
  have HM : Hid (∀ w, Calls Tryd.prog 7 #[.int .i64 k] w fun e w' => e = .returned (.agg #[.int .u64 (L 0 (md k)), .int .u64 (L 1 (md k)), .int .u64 (L 2 (md k)), .int .u64 (L 3 (md k))]) ∧ Below w.heap.size w w') := fun w => ref_mod_any k w
  clear hk ha ne nm hb
  generalize pw a (md k - 2) % md k = i at *
  generalize md k - 2 = ex at *
  generalize md k = m at *
  generalize (D m 2 4 == 1) = u at *
  go_enter Tryd.func20, Tryd.ntmps20
  go_wp2_with fail
  with_reducible refine Calls.mono (HM.out _) ?_
  rintro e w1 ⟨rfl, hb1⟩
  have A1 := ((Arr.new w w.heap.size rfl 24 (L 0 a) (L 1 a) (L 2 a) (L 3 a)).alloc _).keep hb1
  have R1 := (ArrW.new _ (w.heap.size + 1) (by simp) 24 0 0 0 0).keep hb1
  have hw1 : Below w.heap.size w w1 := K.call (K.alloc (K.alloc (Below.refl _ w) _) _) hb1
  clear hb1
  go_wp2_with fail
  with_reducible refine Calls.mono (small_any 2 _) ?_
  rintro e w1b ⟨rfl, hb1⟩
  have A1 := A1.keep hb1
  have R1 := R1.keep hb1
  have hw1 : Below w.heap.size w w1b := K.call hw1 hb1
  clear hb1
  go_wp2_with fail
  with_reducible refine Calls.mono (HS.out _) ?_
  rintro e w2 ⟨rfl, hb2⟩
  have A2 := (A1.keep hb2).alloc (.cells #[.int .u64 (L 0 ex), .int .u64 (L 1 ex), .int .u64 (L 2 ex), .int .u64 (L 3 ex)] 24)
  have R2 := (R1.keep hb2).alloc (.cells #[.int .u64 (L 0 ex), .int .u64 (L 1 ex), .int .u64 (L 2 ex), .int .u64 (L 3 ex)] 24)
  have E2 := Arr.new w2 w2.heap.size rfl 24 (L 0 ex) (L 1 ex) (L 2 ex) (L 3 ex)
  have hw2 : Below w.heap.size w (w2.alloc (.cells #[.int .u64 (L 0 ex), .int .u64 (L 1 ex), .int .u64 (L 2 ex), .int .u64 (L 3 ex)] 24)) := K.alloc (K.call hw1 hb2) _
  clear hb2 A1 R1 hw1
  have ⟨ka, ka0, ka1, ka2, ka3⟩ := A2
  have ⟨ke, ke0, ke1, ke2, ke3⟩ := E2
  go_wp2_with fail
  with_reducible refine Calls.mono (HP.out _) ?_
  clear ka ka0 ka1 ka2 ka3 ke ke0 ke1 ke2 ke3
  rintro e w3 ⟨rfl, hb3⟩
  have ⟨kr, kr0, kr1, kr2, kr3, kf0, kf1, kf2, kf3⟩ := R2.keep hb3
  have hw3 : Below w.heap.size w w3 := K.call hw2 hb3
  go_wp2_with fail
  exact bodyPost_ret (v := .agg #[.int .u64 (L 0 i), .int .u64 (L 1 i), .int .u64 (L 2 i), .int .u64 (L 3 i)]) (by simp [results, Tryd.results20, go_sem, kr0, kr1, kr2, kr3]) rfl ⟨rfl, K.set4 hw3 (by omega) _ _ _ _⟩
end Go.Proofs.YtffkeabpdmpjbaaDoor
