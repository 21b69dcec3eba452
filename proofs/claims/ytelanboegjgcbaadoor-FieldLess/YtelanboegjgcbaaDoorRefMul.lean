/- What the document's own Mul answers, for all numbers: the product, bit by bit. -/
import Derived.Test.YtelanboegjgcbaaDoorArr8
import Derived.Test.YtelanboegjgcbaaDoorRefWide
import Derived.Test.YtelanboegjgcbaaDoorRefBit
namespace Go.Proofs.YtelanboegjgcbaaDoor
open Go.RowKit
attribute [local go_sem ↓] Go.wp_at_zero Go.wp_at_succ

/-- What the loop keeps: both numbers, the place of the answer, and what was gathered. -/
structure Seen (w wr : World) (a b p : Int) : Prop where
  below : Below w.heap.size w wr
  A : Arr wr (w.heap.size) (L 0 a) (L 1 a) (L 2 a) (L 3 a)
  B : Arr wr (w.heap.size + 1) (L 0 b) (L 1 b) (L 2 b) (L 3 b)
  Z : Arr8 wr (w.heap.size + 1 + 1) 0
  P : Arr8 wr (w.heap.size + 1 + 1 + 1) p
theorem Seen.call {w wr w1 : World} {a b p : Int} (h : Seen w wr a b p) (hk : Below wr.heap.size wr w1) : Seen w w1 a b p :=
  ⟨K.call h.below hk, h.A.keep hk, h.B.keep hk, h.Z.keep hk, h.P.keep hk⟩
theorem Seen.store {w wr : World} {a b p : Int} (h : Seen w wr a b p) (x : Int) : Seen w ((((((((wr.setCell ⟨w.heap.size + 1 + 1 + 1, 0, none⟩ (.int .u64 (L 0 x))).setCell ⟨w.heap.size + 1 + 1 + 1, 1, none⟩ (.int .u64 (L 1 x))).setCell ⟨w.heap.size + 1 + 1 + 1, 2, none⟩ (.int .u64 (L 2 x))).setCell ⟨w.heap.size + 1 + 1 + 1, 3, none⟩ (.int .u64 (L 3 x))).setCell ⟨w.heap.size + 1 + 1 + 1, 4, none⟩ (.int .u64 (L 4 x))).setCell ⟨w.heap.size + 1 + 1 + 1, 5, none⟩ (.int .u64 (L 5 x))).setCell ⟨w.heap.size + 1 + 1 + 1, 6, none⟩ (.int .u64 (L 6 x))).setCell ⟨w.heap.size + 1 + 1 + 1, 7, none⟩ (.int .u64 (L 7 x))) a b x :=
  ⟨K.set8 h.below (by omega) x, h.A.set8 (by omega) x, h.B.set8 (by omega) x, h.Z.set8 (by omega) x, h.P.stored x⟩
theorem mul_step0 (a b : Int) (j : Nat) (hj : j < 256) (h : bt a (255 - j) = 0) : a / 2 ^ (256 - (j + 1)) * b = 2 * (a / 2 ^ (256 - j) * b) := by
  obtain ⟨m, hm⟩ : ∃ m, m = 255 - j := ⟨_, rfl⟩
  rw [bt_in _ _ (by omega) (by omega), show ((255 : Int) - j).toNat = m by omega] at h
  rw [show 256 - (j + 1) = m by omega, show 256 - j = m + 1 by omega, ← half_pow]
  generalize a / 2 ^ m = q at *
  rw [← Int.mul_assoc]
  congr 1
  omega
theorem mul_step1 (a b : Int) (j : Nat) (hj : j < 256) (h : bt a (255 - j) = 1) : a / 2 ^ (256 - (j + 1)) * b = b + 2 * (a / 2 ^ (256 - j) * b) := by
  obtain ⟨m, hm⟩ : ∃ m, m = 255 - j := ⟨_, rfl⟩
  rw [bt_in _ _ (by omega) (by omega), show ((255 : Int) - j).toNat = m by omega] at h
  rw [show 256 - (j + 1) = m by omega, show 256 - j = m + 1 by omega, ← half_pow]
  generalize a / 2 ^ m = q at *
  rw [← Int.mul_assoc]
  have e : q = 1 + 2 * (q / 2) := by omega
  have e2 : q * b = (1 + 2 * (q / 2)) * b := by rw [← e]
  rw [e2, Int.add_mul, Int.one_mul]

set_option maxHeartbeats 4000000 in
theorem ref_mul_any {a b : Int} (ha : Num a) (hb : Num b) (w : World) :
    Calls Tryd.prog 26 #[.agg #[.int .u64 (L 0 a), .int .u64 (L 1 a), .int .u64 (L 2 a), .int .u64 (L 3 a)], .agg #[.int .u64 (L 0 b), .int .u64 (L 1 b), .int .u64 (L 2 b), .int .u64 (L 3 b)]] w fun e w' => e = .returned (.agg #[.int .u64 (L 0 (a * b)), .int .u64 (L 1 (a * b)), .int .u64 (L 2 (a * b)), .int .u64 (L 3 (a * b)), .int .u64 (L 4 (a * b)), .int .u64 (L 5 (a * b)), .int .u64 (L 6 (a * b)), .int .u64 (L 7 (a * b))]) ∧ Below w.heap.size w w' := by
  go_enter Tryd.func26, Tryd.ntmps26
  go_wp2
  go_loopw [6] (fun s6 wr => ∃ j : Nat, j ≤ 256 ∧ s6 = .int .i64 (255 - j) ∧ Seen w wr a b (a / 2 ^ (256 - j) * b)) (fun s6 _ => (intOf s6 + 1).toNat)
  case atStart =>
    refine ⟨0, by omega, rfl, ?_⟩
    have e : a / 2 ^ (256 - 0) * b = 0 := by
      obtain ⟨h1, h2⟩ := ha
      rw [show a / 2 ^ (256 - 0) = 0 from Int.ediv_eq_zero_of_lt h1 h2, Int.zero_mul]
    rw [e]
    exact ⟨K.alloc (K.alloc (K.alloc (K.alloc (Below.refl _ w) _) _) _) _, (((Arr.new w w.heap.size rfl 24 _ _ _ _).alloc _).alloc _).alloc _, ((Arr.new _ (w.heap.size + 1) (by simp) 24 _ _ _ _).alloc _).alloc _, (Arr8.zero _ _ (by simp)).alloc _, Arr8.zero _ _ (by simp)⟩
  case round =>
    obtain ⟨j, hj, rfl, hS⟩ := hrel
    by_cases hlt : j < 256
    · have st0 := mul_step0 a b j hlt
      have st1 := mul_step1 a b j hlt
      have H0 : Hid (bt a (255 - j) = 0 → _) := st0
      have H1 : Hid (bt a (255 - j) = 1 → _) := st1
      clear st0 st1
      have i0 : (0 : Int) ≤ 255 - j := by omega
      generalize hp : a / 2 ^ (256 - j) * b = p at hS
      have HP : Hid (a / 2 ^ (256 - j) * b = p) := hp
      clear hp
      have hS0 := hS
      obtain ⟨hbw, ⟨al, a0, a1, a2, a3⟩, ⟨bl, b0, b1, b2, b3⟩, ⟨zl, z0, z1, z2, z3, z4, z5, z6, z7, zf0, zf1, zf2, zf3, zf4, zf5, zf6, zf7⟩, ⟨pl, p0, p1, p2, p3, p4, p5, p6, p7, pf0, pf1, pf2, pf3, pf4, pf5, pf6, pf7⟩⟩ := hS0
      go_wp2_with fail
      with_reducible refine Calls.mono (double_any p _) ?_
      clear hbw al a0 a1 a2 a3 bl b0 b1 b2 b3 zl z0 z1 z2 z3 z4 z5 z6 z7 zf0 zf1 zf2 zf3 zf4 zf5 zf6 zf7 pl p0 p1 p2 p3 p4 p5 p6 p7 pf0 pf1 pf2 pf3 pf4 pf5 pf6 pf7
      rintro e w1 ⟨rfl, hk1⟩
      have hS1 := hS.call hk1
      clear hS hk1
      have hS0 := hS1
      obtain ⟨hbw, ⟨al, a0, a1, a2, a3⟩, ⟨bl, b0, b1, b2, b3⟩, ⟨zl, z0, z1, z2, z3, z4, z5, z6, z7, zf0, zf1, zf2, zf3, zf4, zf5, zf6, zf7⟩, ⟨pl, p0, p1, p2, p3, p4, p5, p6, p7, pf0, pf1, pf2, pf3, pf4, pf5, pf6, pf7⟩⟩ := hS0
      go_wp2_with fail
      have hS2 := hS1.store (2 * p)
      clear hS1 hbw al a0 a1 a2 a3 bl b0 b1 b2 b3 zl z0 z1 z2 z3 z4 z5 z6 z7 zf0 zf1 zf2 zf3 zf4 zf5 zf6 zf7 pl p0 p1 p2 p3 p4 p5 p6 p7 pf0 pf1 pf2 pf3 pf4 pf5 pf6 pf7
      with_reducible refine Calls.mono (ref_bit_any a (255 - ↑j) _) ?_
      rintro e w2 ⟨rfl, hk2⟩
      have hS3 := hS2.call hk2
      clear hS2 hk2
      have hS0 := hS3
      obtain ⟨hbw, ⟨al, a0, a1, a2, a3⟩, ⟨bl, b0, b1, b2, b3⟩, ⟨zl, z0, z1, z2, z3, z4, z5, z6, z7, zf0, zf1, zf2, zf3, zf4, zf5, zf6, zf7⟩, ⟨pl, p0, p1, p2, p3, p4, p5, p6, p7, pf0, pf1, pf2, pf3, pf4, pf5, pf6, pf7⟩⟩ := hS0
      have hbit : bt a (255 - j) = 0 ∨ bt a (255 - j) = 1 := by
        have h1 := bt_lo a (255 - j)
        have h2 := bt_hi a (255 - j)
        omega
      rcases hbit with hbit | hbit
      · have HE : Hid (a / 2 ^ (256 - (j + 1)) * b = 2 * p) := by rw [← HP.out]; exact H0.out hbit
        go_wp2
        exact ⟨⟨j + 1, by omega, congrArg (Value.int .i64) (by omega), by rw [HE.out]; exact hS3⟩, by simp [intOf]; omega⟩
      · have HE : Hid (a / 2 ^ (256 - (j + 1)) * b = b + 2 * p) := by rw [← HP.out]; exact H1.out hbit
        go_wp2_with fail
        with_reducible refine Calls.mono (plus_any hb (2 * p) _) ?_
        clear hbw al a0 a1 a2 a3 bl b0 b1 b2 b3 zl z0 z1 z2 z3 z4 z5 z6 z7 zf0 zf1 zf2 zf3 zf4 zf5 zf6 zf7 pl p0 p1 p2 p3 p4 p5 p6 p7 pf0 pf1 pf2 pf3 pf4 pf5 pf6 pf7
        rintro e w3 ⟨rfl, hk3⟩
        have hS4 := hS3.call hk3
        clear hS3 hk3
        have hS0 := hS4
        obtain ⟨hbw, ⟨al, a0, a1, a2, a3⟩, ⟨bl, b0, b1, b2, b3⟩, ⟨zl, z0, z1, z2, z3, z4, z5, z6, z7, zf0, zf1, zf2, zf3, zf4, zf5, zf6, zf7⟩, ⟨pl, p0, p1, p2, p3, p4, p5, p6, p7, pf0, pf1, pf2, pf3, pf4, pf5, pf6, pf7⟩⟩ := hS0
        go_wp2
        exact ⟨⟨j + 1, by omega, congrArg (Value.int .i64) (by omega), by rw [HE.out]; exact hS4.store (b + 2 * p)⟩, by simp [intOf]; omega⟩
    · have hj2 : j = 256 := by omega
      subst hj2
      have e1 : a / 2 ^ (256 - 256) * b = a * b := by simp
      rw [e1] at hS
      have hS0 := hS
      obtain ⟨hbw, ⟨al, a0, a1, a2, a3⟩, ⟨bl, b0, b1, b2, b3⟩, ⟨zl, z0, z1, z2, z3, z4, z5, z6, z7, zf0, zf1, zf2, zf3, zf4, zf5, zf6, zf7⟩, ⟨pl, p0, p1, p2, p3, p4, p5, p6, p7, pf0, pf1, pf2, pf3, pf4, pf5, pf6, pf7⟩⟩ := hS0
      go_wp2
      exact bodyPost_ret (v := .agg #[.int .u64 (L 0 (a * b)), .int .u64 (L 1 (a * b)), .int .u64 (L 2 (a * b)), .int .u64 (L 3 (a * b)), .int .u64 (L 4 (a * b)), .int .u64 (L 5 (a * b)), .int .u64 (L 6 (a * b)), .int .u64 (L 7 (a * b))]) (by simp [results, Tryd.results26, go_sem, z0, z1, z2, z3, z4, z5, z6, z7]) rfl ⟨rfl, K.set8 hS.below (by omega) _⟩
end Go.Proofs.YtelanboegjgcbaaDoor
