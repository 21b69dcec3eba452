/- What the document's own Reduce answers: what is left of a number of eight words, bit by bit. -/
import Derived.Test.YtelanboegjgcbaaDoorRefPlus
import Derived.Test.YtelanboegjgcbaaDoorRed
import Derived.Test.YtelanboegjgcbaaDoorHalfBit
import Derived.Test.YtelanboegjgcbaaDoorFnAdd
import Derived.Deep.LoopGhost
import Derived.Deep.DeepCutAuto
namespace Go.Proofs.YtelanboegjgcbaaDoor
open Go.RowKit
attribute [local go_sem ↓] Go.wp_at_zero Go.wp_at_succ

/-- The bit that is asked when j are left; 0 when none is. -/
def bw (j : Nat) : Int := if j = 0 then 0 else 2 ^ (j - 1)
theorem bw_zero : bw 0 = 0 := rfl
theorem bw_succ (j : Nat) : bw (j + 1) = 2 ^ j := by simp [bw]
theorem bw_half (j : Nat) : (2 : Int) ^ j / 2 = bw j := by
  cases j with
  | zero => rfl
  | succ j => rw [bw_succ, Int.pow_succ]; omega
theorem pow_lt64 (j : Nat) (h : j < 64) : (0 : Int) < 2 ^ j ∧ (2 : Int) ^ j < 18446744073709551616 := by
  refine ⟨Int.pow_pos (by omega), ?_⟩
  have h1 : (2 : Nat) ^ j < 2 ^ 64 := Nat.pow_lt_pow_right (by omega) h
  have h2 : ((2 ^ j : Nat) : Int) < ((2 ^ 64 : Nat) : Int) := Int.ofNat_lt.2 h1
  simpa using h2
theorem and_bit (z : Int) (j : Nat) (h0 : 0 ≤ z) (h1 : z < 18446744073709551616) (hj : j < 64) : bits .and .u64 z (2 ^ j) = z / 2 ^ j % 2 * 2 ^ j := by
  obtain ⟨z, rfl⟩ := Int.eq_ofNat_of_zero_le h0
  have hp := pow_lt64 j hj
  have e : (2 : Int) ^ j = ((2 ^ j : Nat) : Int) := by simp
  rw [e] at hp ⊢
  rw [u64_and_nat _ _ (by omega) (by omega), nat_bit]
  rw [← Int.natCast_ediv, show ((2 : Int)) = ((2 : Nat) : Int) from rfl, ← Int.natCast_emod, ← Int.natCast_mul]
theorem bit_val (x m : Int) (e : Nat) : ((x / 2 ^ (e + 1) % m + x / 2 ^ (e + 1) % m) % m + x / 2 ^ e % 2) % m = x / 2 ^ e % m := by
  have h : x / 2 ^ e = x / 2 ^ (e + 1) + x / 2 ^ (e + 1) + x / 2 ^ e % 2 := by
    rw [Int.pow_succ, ← Int.ediv_ediv_of_nonneg (Int.le_of_lt (Int.pow_pos (by omega)))]
    generalize x / 2 ^ e = z
    omega
  rw [← Int.add_emod, Int.emod_add_emod, ← h]
theorem bit_none {x m : Int} {e : Nat} (hb : x / 2 ^ e % 2 = 0) : (x / 2 ^ (e + 1) % m + x / 2 ^ (e + 1) % m) % m = x / 2 ^ e % m := by
  have h := bit_val x m e
  rw [hb, Int.add_zero, Int.emod_emod] at h
  exact h

structure RS (w wr : World) (nm no nu : Nat) (m x y : Int) : Prop where
  below : Below w.heap.size w wr
  X : Arr8 wr w.heap.size x
  R : ArrW wr (w.heap.size + 1) 0 0 0 0
  M0 : Arr wr nm (L 0 m) (L 1 m) (L 2 m) (L 3 m)
  O : ArrW wr no (L 0 y) (L 1 y) (L 2 y) (L 3 y)
  N : Arr wr nu 1 0 0 0
theorem RS.call {w wr w1 : World} {nm no nu : Nat} {m x y : Int} (h : RS w wr nm no nu m x y) (hk : Below wr.heap.size wr w1) : RS w w1 nm no nu m x y :=
  ⟨K.call h.below hk, h.X.keep hk, h.R.keep hk, h.M0.keep hk, h.O.keep hk, h.N.keep hk⟩
theorem RS.store {w wr : World} {nm no nu : Nat} {m x y : Int} (h : RS w wr nm no nu m x y) (hn : w.heap.size + 1 < no ∧ nm ≠ no ∧ nu ≠ no) (z : Int) : RS w ((((wr.setCell ⟨no, 0, none⟩ (.int .u64 (L 0 z))).setCell ⟨no, 1, none⟩ (.int .u64 (L 1 z))).setCell ⟨no, 2, none⟩ (.int .u64 (L 2 z))).setCell ⟨no, 3, none⟩ (.int .u64 (L 3 z))) nm no nu m x z :=
  ⟨K.set4 h.below (by omega) _ _ _ _, h.X.set4 (by omega) _ _ _ _, h.R.set4 (by omega) _ _ _ _, h.M0.set4 (by omega) _ _ _ _, h.O.stored _ _ _ _, h.N.set4 (by omega) _ _ _ _⟩

set_option maxHeartbeats 1000000 in
theorem small_1 (w : World) : Calls Tryd.prog 39 #[.int .u64 1] w fun e w' => e = .returned (.agg #[.int .u64 1, .int .u64 0, .int .u64 0, .int .u64 0]) ∧ Below w.heap.size w w' := by
  go_enter Tryd.func39, Tryd.ntmps39
  go_wp2
  go_returns
  refine ⟨rfl, ?_⟩
  go_grown

set_option maxRecDepth 100000 in
set_option maxHeartbeats 16000000 in
theorem ref_reduce_any {k x : Int} (hk : 0 ≤ k ∧ k ≤ 3) (hx : Wide x) (w : World) :
    Calls Tryd.prog 23 #[.int .i64 k, .agg #[.int .u64 (L 0 x), .int .u64 (L 1 x), .int .u64 (L 2 x), .int .u64 (L 3 x), .int .u64 (L 4 x), .int .u64 (L 5 x), .int .u64 (L 6 x), .int .u64 (L 7 x)]] w fun e w' => e = .returned (.agg #[.int .u64 (L 0 (x % md k)), .int .u64 (L 1 (x % md k)), .int .u64 (L 2 (x % md k)), .int .u64 (L 3 (x % md k))]) ∧ Below w.heap.size w w' := by
  have HM : Hid (Num (md k) ∧ 0 < md k) := ⟨md_num k, md_pos hk⟩
  have HPL : Hid (∀ a b w, 0 ≤ a → a < md k → 0 ≤ b → b < md k → Calls Tryd.prog 38 #[.agg #[.int .u64 (L 0 (md k)), .int .u64 (L 1 (md k)), .int .u64 (L 2 (md k)), .int .u64 (L 3 (md k))], .agg #[.int .u64 (L 0 a), .int .u64 (L 1 a), .int .u64 (L 2 a), .int .u64 (L 3 a)], .agg #[.int .u64 (L 0 b), .int .u64 (L 1 b), .int .u64 (L 2 b), .int .u64 (L 3 b)]] w fun e w' => e = .returned (.agg #[.int .u64 (L 0 ((a + b) % md k)), .int .u64 (L 1 ((a + b) % md k)), .int .u64 (L 2 ((a + b) % md k)), .int .u64 (L 3 ((a + b) % md k))]) ∧ Below w.heap.size w w') := fun a b w h1 h2 h3 h4 => ref_plus_any (md_num k) h1 h2 h3 h4 w
  have HP1 : Hid (∀ a w, 0 ≤ a → a < md k → Calls Tryd.prog 38 #[.agg #[.int .u64 (L 0 (md k)), .int .u64 (L 1 (md k)), .int .u64 (L 2 (md k)), .int .u64 (L 3 (md k))], .agg #[.int .u64 (L 0 a), .int .u64 (L 1 a), .int .u64 (L 2 a), .int .u64 (L 3 a)], .agg #[.int .u64 1, .int .u64 0, .int .u64 0, .int .u64 0]] w fun e w' => e = .returned (.agg #[.int .u64 (L 0 ((a + 1) % md k)), .int .u64 (L 1 ((a + 1) % md k)), .int .u64 (L 2 ((a + 1) % md k)), .int .u64 (L 3 ((a + 1) % md k))]) ∧ Below w.heap.size w w') := by
    intro a w h1 h2
    have hb : 4 < md k := by rcases md_cases hk with rfl | rfl | rfl | rfl <;> decide
    have h := ref_plus_any (b := 1) (md_num k) h1 h2 (by omega) (by omega) w
    have b0 : L 0 1 = 1 := by decide
    have b1 : L 1 1 = 0 := by decide
    have b2 : L 2 1 = 0 := by decide
    have b3 : L 3 1 = 0 := by decide
    rw [b0, b1, b2, b3] at h
    exact h
  have HMO : Hid (∀ w, Calls Tryd.prog 11 #[.int .i64 k] w fun e w' => e = .returned (.agg #[.int .u64 (L 0 (md k)), .int .u64 (L 1 (md k)), .int .u64 (L 2 (md k)), .int .u64 (L 3 (md k))]) ∧ Below w.heap.size w w') := fun w => ref_mod_any k w
  have HE : ∀ w, (Op.equalIn 10000 24 (.agg #[.int .u64 (L 0 (md k)), .int .u64 (L 1 (md k)), .int .u64 (L 2 (md k)), .int .u64 (L 3 (md k))]) (.agg #[.int .u64 0, .int .u64 0, .int .u64 0, .int .u64 0])).run Tryd.prog w = .ok false w := by
    intro w; rw [eq4, md_odd hk]; rfl
  have HZ : Hid (0 = x / 2 ^ (64 * 7 + 64) % md k) := by
    have e : x / 2 ^ (64 * 7 + 64) = 0 := Int.ediv_eq_zero_of_lt hx.lo (by rw [show (2 : Int) ^ (64 * 7 + 64) = 13407807929942597099574024998205846127479365820592393377723561443721764030073546976801874298166903427690031858186486050853753882811946569946433649006084096 by decide +kernel]; exact hx.hi)
    show _ = _
    rw [e, Int.zero_emod]
  clear hk hx
  generalize md k = m at *
  go_enter Tryd.func23, Tryd.ntmps23
  go_wp2_with fail
  with_reducible refine Calls.mono (HMO.out _) ?_
  rintro e w1 ⟨rfl, hb1⟩
  have X1 := (((Arr8.new w w.heap.size rfl 31 x).alloc _).keep hb1 |>.alloc (.cells #[.int .u64 (L 0 m), .int .u64 (L 1 m), .int .u64 (L 2 m), .int .u64 (L 3 m)] 24)).alloc (.cells #[.int .u64 0, .int .u64 0, .int .u64 0, .int .u64 0] 24)
  have R1 := ((ArrW.new _ (w.heap.size + 1) (by simp) 24 0 0 0 0).keep hb1 |>.alloc (.cells #[.int .u64 (L 0 m), .int .u64 (L 1 m), .int .u64 (L 2 m), .int .u64 (L 3 m)] 24)).alloc (.cells #[.int .u64 0, .int .u64 0, .int .u64 0, .int .u64 0] 24)
  have M1 := (Arr.new w1 w1.heap.size rfl 24 (L 0 m) (L 1 m) (L 2 m) (L 3 m)).alloc (.cells #[.int .u64 0, .int .u64 0, .int .u64 0, .int .u64 0] 24)
  have O1 := ArrW.new (w1.alloc (.cells #[.int .u64 (L 0 m), .int .u64 (L 1 m), .int .u64 (L 2 m), .int .u64 (L 3 m)] 24)) (w1.heap.size + 1) (by simp) 24 0 0 0 0
  have hw1 : Below w.heap.size w ((w1.alloc (.cells #[.int .u64 (L 0 m), .int .u64 (L 1 m), .int .u64 (L 2 m), .int .u64 (L 3 m)] 24)).alloc (.cells #[.int .u64 0, .int .u64 0, .int .u64 0, .int .u64 0] 24)) := K.alloc (K.alloc (K.call (K.alloc (K.alloc (Below.refl _ w) _) _) hb1) _) _
  have hn1 : w.heap.size + 1 < w1.heap.size := by have := hb1.size; simp at this; omega
  clear hb1
  go_wp2_with fail
  with_reducible refine Calls.mono (small_1 _) ?_
  rintro e w2 ⟨rfl, hb2⟩
  have hS1 : RS w (w2.alloc (.cells #[.int .u64 1, .int .u64 0, .int .u64 0, .int .u64 0] 24)) w1.heap.size (w1.heap.size + 1) w2.heap.size m x (x / 2 ^ (64 * 7 + 64) % m) := by
    rw [← HZ.out]
    refine ⟨K.alloc (K.call hw1 hb2) _, (X1.keep hb2).alloc _, (R1.keep hb2).alloc _, (M1.keep hb2).alloc _, ?_, Arr.new w2 w2.heap.size rfl 24 1 0 0 0⟩
    rw [L_zero, L_zero, L_zero, L_zero]
    exact (O1.keep hb2).alloc _
  have hnn : w.heap.size + 1 < w1.heap.size + 1 ∧ w1.heap.size ≠ w1.heap.size + 1 ∧ w2.heap.size ≠ w1.heap.size + 1 := by have := O1.lt; have := hb2.size; exact ⟨by omega, by omega, by omega⟩
  clear X1 R1 M1 O1 hw1 hb2 hn1 HZ HMO
  go_wp2_with fail
  clear HE
  generalize w1.heap.size + 1 = no at *
  generalize w1.heap.size = nm at *
  generalize w2.heap.size = nu at *
  go_loopg [8] 8 (fun g s8 wr => (g = 8 ∧ s8 = .int .i64 7 ∧ RS w wr nm no nu m x (x / 2 ^ (64 * 7 + 64) % m)) ∨ (g = 7 ∧ s8 = .int .i64 6 ∧ RS w wr nm no nu m x (x / 2 ^ (64 * 6 + 64) % m)) ∨ (g = 6 ∧ s8 = .int .i64 5 ∧ RS w wr nm no nu m x (x / 2 ^ (64 * 5 + 64) % m)) ∨ (g = 5 ∧ s8 = .int .i64 4 ∧ RS w wr nm no nu m x (x / 2 ^ (64 * 4 + 64) % m)) ∨ (g = 4 ∧ s8 = .int .i64 3 ∧ RS w wr nm no nu m x (x / 2 ^ (64 * 3 + 64) % m)) ∨ (g = 3 ∧ s8 = .int .i64 2 ∧ RS w wr nm no nu m x (x / 2 ^ (64 * 2 + 64) % m)) ∨ (g = 2 ∧ s8 = .int .i64 1 ∧ RS w wr nm no nu m x (x / 2 ^ (64 * 1 + 64) % m)) ∨ (g = 1 ∧ s8 = .int .i64 0 ∧ RS w wr nm no nu m x (x / 2 ^ (64 * 0 + 64) % m)) ∨ (g = 0 ∧ s8 = .int .i64 (-1) ∧ RS w wr nm no nu m x (x / 2 ^ (64 * 0 + 0) % m)))
  case atStart => exact Or.inl ⟨rfl, rfl, hS1⟩
  case round =>
    rcases hrel with ⟨rfl, rfl, hS⟩ | ⟨rfl, rfl, hS⟩ | ⟨rfl, rfl, hS⟩ | ⟨rfl, rfl, hS⟩ | ⟨rfl, rfl, hS⟩ | ⟨rfl, rfl, hS⟩ | ⟨rfl, rfl, hS⟩ | ⟨rfl, rfl, hS⟩ | ⟨rfl, rfl, hS⟩
    · clear hS1
      have HXI : Hid (∀ e : Nat, e < 64 → bits .and .u64 (L 7 x) (2 ^ e) = x / 2 ^ (64 * 7 + e) % 2 * 2 ^ e) := fun e he => by rw [and_bit _ _ (L_lo _ _) (L_hi _ _) he, word_bit x 7 e he]
      go_wp2_with fail
      go_loopg [9] 64 (fun g s9 wr => g ≤ 64 ∧ s9 = .int .u64 (bw g) ∧ RS w wr nm no nu m x (x / 2 ^ (64 * 7 + g) % m))
      case atStart => exact ⟨Nat.le_refl _, rfl, hS⟩
      case round =>
        clear hS
        obtain ⟨hg, rfl, hS⟩ := hrel
        cases gk with
        | zero =>
          rw [bw_zero]
          go_wp2_with fail
          go_roundg 7
          case measure => omega
          case rel => exact Or.inr (Or.inl ⟨rfl, rfl, hS⟩)
        | succ j =>
          have hp := pow_lt64 j (by omega)
          have HI : Hid (∀ w, Calls Tryd.prog 38 #[.agg #[.int .u64 (L 0 m), .int .u64 (L 1 m), .int .u64 (L 2 m), .int .u64 (L 3 m)], .agg #[.int .u64 (L 0 (x / 2 ^ (64 * 7 + (j + 1)) % m)), .int .u64 (L 1 (x / 2 ^ (64 * 7 + (j + 1)) % m)), .int .u64 (L 2 (x / 2 ^ (64 * 7 + (j + 1)) % m)), .int .u64 (L 3 (x / 2 ^ (64 * 7 + (j + 1)) % m))], .agg #[.int .u64 (L 0 (x / 2 ^ (64 * 7 + (j + 1)) % m)), .int .u64 (L 1 (x / 2 ^ (64 * 7 + (j + 1)) % m)), .int .u64 (L 2 (x / 2 ^ (64 * 7 + (j + 1)) % m)), .int .u64 (L 3 (x / 2 ^ (64 * 7 + (j + 1)) % m))]] w fun e w' => e = .returned (.agg #[.int .u64 (L 0 (((x / 2 ^ (64 * 7 + (j + 1)) % m) + (x / 2 ^ (64 * 7 + (j + 1)) % m)) % m)), .int .u64 (L 1 (((x / 2 ^ (64 * 7 + (j + 1)) % m) + (x / 2 ^ (64 * 7 + (j + 1)) % m)) % m)), .int .u64 (L 2 (((x / 2 ^ (64 * 7 + (j + 1)) % m) + (x / 2 ^ (64 * 7 + (j + 1)) % m)) % m)), .int .u64 (L 3 (((x / 2 ^ (64 * 7 + (j + 1)) % m) + (x / 2 ^ (64 * 7 + (j + 1)) % m)) % m))]) ∧ Below w.heap.size w w') := fun w => HPL.out _ _ w (Int.emod_nonneg _ (by have := HM.out.2; omega)) (Int.emod_lt_of_pos _ HM.out.2) (Int.emod_nonneg _ (by have := HM.out.2; omega)) (Int.emod_lt_of_pos _ HM.out.2)
          have hh := bw_half j
          have ha := HXI.out j (by omega)
          have hb2 : x / 2 ^ (64 * 7 + j) % 2 = 0 ∨ x / 2 ^ (64 * 7 + j) % 2 = 1 := by omega
          have HG : Hid (j + 1 ≤ 64) := hg
          rw [bw_succ]
          rcases hb2 with hb2 | hb2
          · rw [hb2, Int.zero_mul] at ha
            have HV : Hid (((x / 2 ^ (64 * 7 + (j + 1)) % m) + (x / 2 ^ (64 * 7 + (j + 1)) % m)) % m = (x / 2 ^ (64 * 7 + j) % m)) := bit_none (e := 64 * 7 + j) hb2
            generalize ((x / 2 ^ (64 * 7 + (j + 1)) % m) + (x / 2 ^ (64 * 7 + (j + 1)) % m)) % m = y2 at *
            generalize x / 2 ^ (64 * 7 + (j + 1)) % m = y1 at *
            generalize (2 : Int) ^ j = be at *
            clear hb2 hg
            have hS0 := hS
            obtain ⟨hbw, hX, ⟨rl, r0, r1, r2, r3, rf0, rf1, rf2, rf3⟩, ⟨ml, m0, m1, m2, m3⟩, ⟨ol, o0, o1, o2, o3, of0, of1, of2, of3⟩, ⟨nl, n0, n1, n2, n3⟩⟩ := hS0
            go_wp2_with fail
            with_reducible refine Calls.mono (HI.out _) ?_
            clear hbw hX rl r0 r1 r2 r3 rf0 rf1 rf2 rf3 ml m0 m1 m2 m3 ol o0 o1 o2 o3 of0 of1 of2 of3 nl n0 n1 n2 n3
            rintro e w3 ⟨rfl, hb3⟩
            have hS3 := hS.call hb3
            clear hS hb3
            have hS0 := hS3
            obtain ⟨hbw, hX, ⟨rl, r0, r1, r2, r3, rf0, rf1, rf2, rf3⟩, ⟨ml, m0, m1, m2, m3⟩, ⟨ol, o0, o1, o2, o3, of0, of1, of2, of3⟩, ⟨nl, n0, n1, n2, n3⟩⟩ := hS0
            go_upto_region 13 with fail
            refine wp_world (fun W => RS w W nm no nu m x y2) (hS3.store hnn y2) ?_
            clear hbw hX rl r0 r1 r2 r3 rf0 rf1 rf2 rf3 ml m0 m1 m2 m3 ol o0 o1 o2 o3 of0 of1 of2 of3 nl n0 n1 n2 n3 hS3
            intro w4 hS4
            have hS0 := hS4
            obtain ⟨hbw, hX, ⟨rl, r0, r1, r2, r3, rf0, rf1, rf2, rf3⟩, ⟨ml, m0, m1, m2, m3⟩, ⟨ol, o0, o1, o2, o3, of0, of1, of2, of3⟩, ⟨nl, n0, n1, n2, n3⟩⟩ := hS0
            have hxi := hX.c7
            clear hX
            go_wp2_with fail
            go_roundg j
            case measure => omega
            case rel =>
              refine ⟨by have := HG.out; omega, by first | rfl | exact congrArg _ hh, ?_⟩
              rw [← HV.out]; exact hS4
          · rw [hb2, Int.one_mul] at ha
            have HV : Hid ((((x / 2 ^ (64 * 7 + (j + 1)) % m) + (x / 2 ^ (64 * 7 + (j + 1)) % m)) % m + 1) % m = (x / 2 ^ (64 * 7 + j) % m)) := by have h := bit_val x m (64 * 7 + j); rw [hb2] at h; exact h
            have HI2 : Hid (∀ w, Calls Tryd.prog 38 #[.agg #[.int .u64 (L 0 m), .int .u64 (L 1 m), .int .u64 (L 2 m), .int .u64 (L 3 m)], .agg #[.int .u64 (L 0 (((x / 2 ^ (64 * 7 + (j + 1)) % m) + (x / 2 ^ (64 * 7 + (j + 1)) % m)) % m)), .int .u64 (L 1 (((x / 2 ^ (64 * 7 + (j + 1)) % m) + (x / 2 ^ (64 * 7 + (j + 1)) % m)) % m)), .int .u64 (L 2 (((x / 2 ^ (64 * 7 + (j + 1)) % m) + (x / 2 ^ (64 * 7 + (j + 1)) % m)) % m)), .int .u64 (L 3 (((x / 2 ^ (64 * 7 + (j + 1)) % m) + (x / 2 ^ (64 * 7 + (j + 1)) % m)) % m))], .agg #[.int .u64 1, .int .u64 0, .int .u64 0, .int .u64 0]] w fun e w' => e = .returned (.agg #[.int .u64 (L 0 ((((x / 2 ^ (64 * 7 + (j + 1)) % m) + (x / 2 ^ (64 * 7 + (j + 1)) % m)) % m + 1) % m)), .int .u64 (L 1 ((((x / 2 ^ (64 * 7 + (j + 1)) % m) + (x / 2 ^ (64 * 7 + (j + 1)) % m)) % m + 1) % m)), .int .u64 (L 2 ((((x / 2 ^ (64 * 7 + (j + 1)) % m) + (x / 2 ^ (64 * 7 + (j + 1)) % m)) % m + 1) % m)), .int .u64 (L 3 ((((x / 2 ^ (64 * 7 + (j + 1)) % m) + (x / 2 ^ (64 * 7 + (j + 1)) % m)) % m + 1) % m))]) ∧ Below w.heap.size w w') := fun w => HP1.out _ w (Int.emod_nonneg _ (by have := HM.out.2; omega)) (Int.emod_lt_of_pos _ HM.out.2)
            have hbe : ((2 : Int) ^ j == 0) = false := beq_eq_false_iff_ne.2 (by omega)
            generalize (((x / 2 ^ (64 * 7 + (j + 1)) % m) + (x / 2 ^ (64 * 7 + (j + 1)) % m)) % m + 1) % m = y3 at *
            generalize ((x / 2 ^ (64 * 7 + (j + 1)) % m) + (x / 2 ^ (64 * 7 + (j + 1)) % m)) % m = y2 at *
            generalize x / 2 ^ (64 * 7 + (j + 1)) % m = y1 at *
            generalize (2 : Int) ^ j = be at *
            clear hb2 hg
            have hS0 := hS
            obtain ⟨hbw, hX, ⟨rl, r0, r1, r2, r3, rf0, rf1, rf2, rf3⟩, ⟨ml, m0, m1, m2, m3⟩, ⟨ol, o0, o1, o2, o3, of0, of1, of2, of3⟩, ⟨nl, n0, n1, n2, n3⟩⟩ := hS0
            go_wp2_with fail
            with_reducible refine Calls.mono (HI.out _) ?_
            clear hbw hX rl r0 r1 r2 r3 rf0 rf1 rf2 rf3 ml m0 m1 m2 m3 ol o0 o1 o2 o3 of0 of1 of2 of3 nl n0 n1 n2 n3
            rintro e w3 ⟨rfl, hb3⟩
            have hS3 := hS.call hb3
            clear hS hb3
            have hS0 := hS3
            obtain ⟨hbw, hX, ⟨rl, r0, r1, r2, r3, rf0, rf1, rf2, rf3⟩, ⟨ml, m0, m1, m2, m3⟩, ⟨ol, o0, o1, o2, o3, of0, of1, of2, of3⟩, ⟨nl, n0, n1, n2, n3⟩⟩ := hS0
            go_upto_region 13 with fail
            refine wp_world (fun W => RS w W nm no nu m x y2) (hS3.store hnn y2) ?_
            clear hbw hX rl r0 r1 r2 r3 rf0 rf1 rf2 rf3 ml m0 m1 m2 m3 ol o0 o1 o2 o3 of0 of1 of2 of3 nl n0 n1 n2 n3 hS3
            intro w4 hS4
            have hS0 := hS4
            obtain ⟨hbw, hX, ⟨rl, r0, r1, r2, r3, rf0, rf1, rf2, rf3⟩, ⟨ml, m0, m1, m2, m3⟩, ⟨ol, o0, o1, o2, o3, of0, of1, of2, of3⟩, ⟨nl, n0, n1, n2, n3⟩⟩ := hS0
            have hxi := hX.c7
            clear hX
            have hX := hxi
            go_wp2_with fail
            with_reducible refine Calls.mono (HI2.out _) ?_
            clear hbw hX rl r0 r1 r2 r3 rf0 rf1 rf2 rf3 ml m0 m1 m2 m3 ol o0 o1 o2 o3 of0 of1 of2 of3 nl n0 n1 n2 n3 hxi
            rintro e w5 ⟨rfl, hb5⟩
            have hS5 := hS4.call hb5
            clear hS4 hb5
            have hS0 := hS5
            obtain ⟨hbw, hX, ⟨rl, r0, r1, r2, r3, rf0, rf1, rf2, rf3⟩, ⟨ml, m0, m1, m2, m3⟩, ⟨ol, o0, o1, o2, o3, of0, of1, of2, of3⟩, ⟨nl, n0, n1, n2, n3⟩⟩ := hS0
            clear hX
            go_wp2_with fail
            go_roundg j
            case measure => omega
            case rel =>
              refine ⟨by have := HG.out; omega, by first | rfl | exact congrArg _ hh, ?_⟩
              rw [← HV.out]; exact hS5.store hnn y3
    · clear hS1
      have HXI : Hid (∀ e : Nat, e < 64 → bits .and .u64 (L 6 x) (2 ^ e) = x / 2 ^ (64 * 6 + e) % 2 * 2 ^ e) := fun e he => by rw [and_bit _ _ (L_lo _ _) (L_hi _ _) he, word_bit x 6 e he]
      go_wp2_with fail
      go_loopg [9] 64 (fun g s9 wr => g ≤ 64 ∧ s9 = .int .u64 (bw g) ∧ RS w wr nm no nu m x (x / 2 ^ (64 * 6 + g) % m))
      case atStart => exact ⟨Nat.le_refl _, rfl, hS⟩
      case round =>
        clear hS
        obtain ⟨hg, rfl, hS⟩ := hrel
        cases gk with
        | zero =>
          rw [bw_zero]
          go_wp2_with fail
          go_roundg 6
          case measure => omega
          case rel => exact Or.inr (Or.inr (Or.inl ⟨rfl, rfl, hS⟩))
        | succ j =>
          have hp := pow_lt64 j (by omega)
          have HI : Hid (∀ w, Calls Tryd.prog 38 #[.agg #[.int .u64 (L 0 m), .int .u64 (L 1 m), .int .u64 (L 2 m), .int .u64 (L 3 m)], .agg #[.int .u64 (L 0 (x / 2 ^ (64 * 6 + (j + 1)) % m)), .int .u64 (L 1 (x / 2 ^ (64 * 6 + (j + 1)) % m)), .int .u64 (L 2 (x / 2 ^ (64 * 6 + (j + 1)) % m)), .int .u64 (L 3 (x / 2 ^ (64 * 6 + (j + 1)) % m))], .agg #[.int .u64 (L 0 (x / 2 ^ (64 * 6 + (j + 1)) % m)), .int .u64 (L 1 (x / 2 ^ (64 * 6 + (j + 1)) % m)), .int .u64 (L 2 (x / 2 ^ (64 * 6 + (j + 1)) % m)), .int .u64 (L 3 (x / 2 ^ (64 * 6 + (j + 1)) % m))]] w fun e w' => e = .returned (.agg #[.int .u64 (L 0 (((x / 2 ^ (64 * 6 + (j + 1)) % m) + (x / 2 ^ (64 * 6 + (j + 1)) % m)) % m)), .int .u64 (L 1 (((x / 2 ^ (64 * 6 + (j + 1)) % m) + (x / 2 ^ (64 * 6 + (j + 1)) % m)) % m)), .int .u64 (L 2 (((x / 2 ^ (64 * 6 + (j + 1)) % m) + (x / 2 ^ (64 * 6 + (j + 1)) % m)) % m)), .int .u64 (L 3 (((x / 2 ^ (64 * 6 + (j + 1)) % m) + (x / 2 ^ (64 * 6 + (j + 1)) % m)) % m))]) ∧ Below w.heap.size w w') := fun w => HPL.out _ _ w (Int.emod_nonneg _ (by have := HM.out.2; omega)) (Int.emod_lt_of_pos _ HM.out.2) (Int.emod_nonneg _ (by have := HM.out.2; omega)) (Int.emod_lt_of_pos _ HM.out.2)
          have hh := bw_half j
          have ha := HXI.out j (by omega)
          have hb2 : x / 2 ^ (64 * 6 + j) % 2 = 0 ∨ x / 2 ^ (64 * 6 + j) % 2 = 1 := by omega
          have HG : Hid (j + 1 ≤ 64) := hg
          rw [bw_succ]
          rcases hb2 with hb2 | hb2
          · rw [hb2, Int.zero_mul] at ha
            have HV : Hid (((x / 2 ^ (64 * 6 + (j + 1)) % m) + (x / 2 ^ (64 * 6 + (j + 1)) % m)) % m = (x / 2 ^ (64 * 6 + j) % m)) := bit_none (e := 64 * 6 + j) hb2
            generalize ((x / 2 ^ (64 * 6 + (j + 1)) % m) + (x / 2 ^ (64 * 6 + (j + 1)) % m)) % m = y2 at *
            generalize x / 2 ^ (64 * 6 + (j + 1)) % m = y1 at *
            generalize (2 : Int) ^ j = be at *
            clear hb2 hg
            have hS0 := hS
            obtain ⟨hbw, hX, ⟨rl, r0, r1, r2, r3, rf0, rf1, rf2, rf3⟩, ⟨ml, m0, m1, m2, m3⟩, ⟨ol, o0, o1, o2, o3, of0, of1, of2, of3⟩, ⟨nl, n0, n1, n2, n3⟩⟩ := hS0
            go_wp2_with fail
            with_reducible refine Calls.mono (HI.out _) ?_
            clear hbw hX rl r0 r1 r2 r3 rf0 rf1 rf2 rf3 ml m0 m1 m2 m3 ol o0 o1 o2 o3 of0 of1 of2 of3 nl n0 n1 n2 n3
            rintro e w3 ⟨rfl, hb3⟩
            have hS3 := hS.call hb3
            clear hS hb3
            have hS0 := hS3
            obtain ⟨hbw, hX, ⟨rl, r0, r1, r2, r3, rf0, rf1, rf2, rf3⟩, ⟨ml, m0, m1, m2, m3⟩, ⟨ol, o0, o1, o2, o3, of0, of1, of2, of3⟩, ⟨nl, n0, n1, n2, n3⟩⟩ := hS0
            go_upto_region 13 with fail
            refine wp_world (fun W => RS w W nm no nu m x y2) (hS3.store hnn y2) ?_
            clear hbw hX rl r0 r1 r2 r3 rf0 rf1 rf2 rf3 ml m0 m1 m2 m3 ol o0 o1 o2 o3 of0 of1 of2 of3 nl n0 n1 n2 n3 hS3
            intro w4 hS4
            have hS0 := hS4
            obtain ⟨hbw, hX, ⟨rl, r0, r1, r2, r3, rf0, rf1, rf2, rf3⟩, ⟨ml, m0, m1, m2, m3⟩, ⟨ol, o0, o1, o2, o3, of0, of1, of2, of3⟩, ⟨nl, n0, n1, n2, n3⟩⟩ := hS0
            have hxi := hX.c6
            clear hX
            go_wp2_with fail
            go_roundg j
            case measure => omega
            case rel =>
              refine ⟨by have := HG.out; omega, by first | rfl | exact congrArg _ hh, ?_⟩
              rw [← HV.out]; exact hS4
          · rw [hb2, Int.one_mul] at ha
            have HV : Hid ((((x / 2 ^ (64 * 6 + (j + 1)) % m) + (x / 2 ^ (64 * 6 + (j + 1)) % m)) % m + 1) % m = (x / 2 ^ (64 * 6 + j) % m)) := by have h := bit_val x m (64 * 6 + j); rw [hb2] at h; exact h
            have HI2 : Hid (∀ w, Calls Tryd.prog 38 #[.agg #[.int .u64 (L 0 m), .int .u64 (L 1 m), .int .u64 (L 2 m), .int .u64 (L 3 m)], .agg #[.int .u64 (L 0 (((x / 2 ^ (64 * 6 + (j + 1)) % m) + (x / 2 ^ (64 * 6 + (j + 1)) % m)) % m)), .int .u64 (L 1 (((x / 2 ^ (64 * 6 + (j + 1)) % m) + (x / 2 ^ (64 * 6 + (j + 1)) % m)) % m)), .int .u64 (L 2 (((x / 2 ^ (64 * 6 + (j + 1)) % m) + (x / 2 ^ (64 * 6 + (j + 1)) % m)) % m)), .int .u64 (L 3 (((x / 2 ^ (64 * 6 + (j + 1)) % m) + (x / 2 ^ (64 * 6 + (j + 1)) % m)) % m))], .agg #[.int .u64 1, .int .u64 0, .int .u64 0, .int .u64 0]] w fun e w' => e = .returned (.agg #[.int .u64 (L 0 ((((x / 2 ^ (64 * 6 + (j + 1)) % m) + (x / 2 ^ (64 * 6 + (j + 1)) % m)) % m + 1) % m)), .int .u64 (L 1 ((((x / 2 ^ (64 * 6 + (j + 1)) % m) + (x / 2 ^ (64 * 6 + (j + 1)) % m)) % m + 1) % m)), .int .u64 (L 2 ((((x / 2 ^ (64 * 6 + (j + 1)) % m) + (x / 2 ^ (64 * 6 + (j + 1)) % m)) % m + 1) % m)), .int .u64 (L 3 ((((x / 2 ^ (64 * 6 + (j + 1)) % m) + (x / 2 ^ (64 * 6 + (j + 1)) % m)) % m + 1) % m))]) ∧ Below w.heap.size w w') := fun w => HP1.out _ w (Int.emod_nonneg _ (by have := HM.out.2; omega)) (Int.emod_lt_of_pos _ HM.out.2)
            have hbe : ((2 : Int) ^ j == 0) = false := beq_eq_false_iff_ne.2 (by omega)
            generalize (((x / 2 ^ (64 * 6 + (j + 1)) % m) + (x / 2 ^ (64 * 6 + (j + 1)) % m)) % m + 1) % m = y3 at *
            generalize ((x / 2 ^ (64 * 6 + (j + 1)) % m) + (x / 2 ^ (64 * 6 + (j + 1)) % m)) % m = y2 at *
            generalize x / 2 ^ (64 * 6 + (j + 1)) % m = y1 at *
            generalize (2 : Int) ^ j = be at *
            clear hb2 hg
            have hS0 := hS
            obtain ⟨hbw, hX, ⟨rl, r0, r1, r2, r3, rf0, rf1, rf2, rf3⟩, ⟨ml, m0, m1, m2, m3⟩, ⟨ol, o0, o1, o2, o3, of0, of1, of2, of3⟩, ⟨nl, n0, n1, n2, n3⟩⟩ := hS0
            go_wp2_with fail
            with_reducible refine Calls.mono (HI.out _) ?_
            clear hbw hX rl r0 r1 r2 r3 rf0 rf1 rf2 rf3 ml m0 m1 m2 m3 ol o0 o1 o2 o3 of0 of1 of2 of3 nl n0 n1 n2 n3
            rintro e w3 ⟨rfl, hb3⟩
            have hS3 := hS.call hb3
            clear hS hb3
            have hS0 := hS3
            obtain ⟨hbw, hX, ⟨rl, r0, r1, r2, r3, rf0, rf1, rf2, rf3⟩, ⟨ml, m0, m1, m2, m3⟩, ⟨ol, o0, o1, o2, o3, of0, of1, of2, of3⟩, ⟨nl, n0, n1, n2, n3⟩⟩ := hS0
            go_upto_region 13 with fail
            refine wp_world (fun W => RS w W nm no nu m x y2) (hS3.store hnn y2) ?_
            clear hbw hX rl r0 r1 r2 r3 rf0 rf1 rf2 rf3 ml m0 m1 m2 m3 ol o0 o1 o2 o3 of0 of1 of2 of3 nl n0 n1 n2 n3 hS3
            intro w4 hS4
            have hS0 := hS4
            obtain ⟨hbw, hX, ⟨rl, r0, r1, r2, r3, rf0, rf1, rf2, rf3⟩, ⟨ml, m0, m1, m2, m3⟩, ⟨ol, o0, o1, o2, o3, of0, of1, of2, of3⟩, ⟨nl, n0, n1, n2, n3⟩⟩ := hS0
            have hxi := hX.c6
            clear hX
            have hX := hxi
            go_wp2_with fail
            with_reducible refine Calls.mono (HI2.out _) ?_
            clear hbw hX rl r0 r1 r2 r3 rf0 rf1 rf2 rf3 ml m0 m1 m2 m3 ol o0 o1 o2 o3 of0 of1 of2 of3 nl n0 n1 n2 n3 hxi
            rintro e w5 ⟨rfl, hb5⟩
            have hS5 := hS4.call hb5
            clear hS4 hb5
            have hS0 := hS5
            obtain ⟨hbw, hX, ⟨rl, r0, r1, r2, r3, rf0, rf1, rf2, rf3⟩, ⟨ml, m0, m1, m2, m3⟩, ⟨ol, o0, o1, o2, o3, of0, of1, of2, of3⟩, ⟨nl, n0, n1, n2, n3⟩⟩ := hS0
            clear hX
            go_wp2_with fail
            go_roundg j
            case measure => omega
            case rel =>
              refine ⟨by have := HG.out; omega, by first | rfl | exact congrArg _ hh, ?_⟩
              rw [← HV.out]; exact hS5.store hnn y3
    · clear hS1
      have HXI : Hid (∀ e : Nat, e < 64 → bits .and .u64 (L 5 x) (2 ^ e) = x / 2 ^ (64 * 5 + e) % 2 * 2 ^ e) := fun e he => by rw [and_bit _ _ (L_lo _ _) (L_hi _ _) he, word_bit x 5 e he]
      go_wp2_with fail
      go_loopg [9] 64 (fun g s9 wr => g ≤ 64 ∧ s9 = .int .u64 (bw g) ∧ RS w wr nm no nu m x (x / 2 ^ (64 * 5 + g) % m))
      case atStart => exact ⟨Nat.le_refl _, rfl, hS⟩
      case round =>
        clear hS
        obtain ⟨hg, rfl, hS⟩ := hrel
        cases gk with
        | zero =>
          rw [bw_zero]
          go_wp2_with fail
          go_roundg 5
          case measure => omega
          case rel => exact Or.inr (Or.inr (Or.inr (Or.inl ⟨rfl, rfl, hS⟩)))
        | succ j =>
          have hp := pow_lt64 j (by omega)
          have HI : Hid (∀ w, Calls Tryd.prog 38 #[.agg #[.int .u64 (L 0 m), .int .u64 (L 1 m), .int .u64 (L 2 m), .int .u64 (L 3 m)], .agg #[.int .u64 (L 0 (x / 2 ^ (64 * 5 + (j + 1)) % m)), .int .u64 (L 1 (x / 2 ^ (64 * 5 + (j + 1)) % m)), .int .u64 (L 2 (x / 2 ^ (64 * 5 + (j + 1)) % m)), .int .u64 (L 3 (x / 2 ^ (64 * 5 + (j + 1)) % m))], .agg #[.int .u64 (L 0 (x / 2 ^ (64 * 5 + (j + 1)) % m)), .int .u64 (L 1 (x / 2 ^ (64 * 5 + (j + 1)) % m)), .int .u64 (L 2 (x / 2 ^ (64 * 5 + (j + 1)) % m)), .int .u64 (L 3 (x / 2 ^ (64 * 5 + (j + 1)) % m))]] w fun e w' => e = .returned (.agg #[.int .u64 (L 0 (((x / 2 ^ (64 * 5 + (j + 1)) % m) + (x / 2 ^ (64 * 5 + (j + 1)) % m)) % m)), .int .u64 (L 1 (((x / 2 ^ (64 * 5 + (j + 1)) % m) + (x / 2 ^ (64 * 5 + (j + 1)) % m)) % m)), .int .u64 (L 2 (((x / 2 ^ (64 * 5 + (j + 1)) % m) + (x / 2 ^ (64 * 5 + (j + 1)) % m)) % m)), .int .u64 (L 3 (((x / 2 ^ (64 * 5 + (j + 1)) % m) + (x / 2 ^ (64 * 5 + (j + 1)) % m)) % m))]) ∧ Below w.heap.size w w') := fun w => HPL.out _ _ w (Int.emod_nonneg _ (by have := HM.out.2; omega)) (Int.emod_lt_of_pos _ HM.out.2) (Int.emod_nonneg _ (by have := HM.out.2; omega)) (Int.emod_lt_of_pos _ HM.out.2)
          have hh := bw_half j
          have ha := HXI.out j (by omega)
          have hb2 : x / 2 ^ (64 * 5 + j) % 2 = 0 ∨ x / 2 ^ (64 * 5 + j) % 2 = 1 := by omega
          have HG : Hid (j + 1 ≤ 64) := hg
          rw [bw_succ]
          rcases hb2 with hb2 | hb2
          · rw [hb2, Int.zero_mul] at ha
            have HV : Hid (((x / 2 ^ (64 * 5 + (j + 1)) % m) + (x / 2 ^ (64 * 5 + (j + 1)) % m)) % m = (x / 2 ^ (64 * 5 + j) % m)) := bit_none (e := 64 * 5 + j) hb2
            generalize ((x / 2 ^ (64 * 5 + (j + 1)) % m) + (x / 2 ^ (64 * 5 + (j + 1)) % m)) % m = y2 at *
            generalize x / 2 ^ (64 * 5 + (j + 1)) % m = y1 at *
            generalize (2 : Int) ^ j = be at *
            clear hb2 hg
            have hS0 := hS
            obtain ⟨hbw, hX, ⟨rl, r0, r1, r2, r3, rf0, rf1, rf2, rf3⟩, ⟨ml, m0, m1, m2, m3⟩, ⟨ol, o0, o1, o2, o3, of0, of1, of2, of3⟩, ⟨nl, n0, n1, n2, n3⟩⟩ := hS0
            go_wp2_with fail
            with_reducible refine Calls.mono (HI.out _) ?_
            clear hbw hX rl r0 r1 r2 r3 rf0 rf1 rf2 rf3 ml m0 m1 m2 m3 ol o0 o1 o2 o3 of0 of1 of2 of3 nl n0 n1 n2 n3
            rintro e w3 ⟨rfl, hb3⟩
            have hS3 := hS.call hb3
            clear hS hb3
            have hS0 := hS3
            obtain ⟨hbw, hX, ⟨rl, r0, r1, r2, r3, rf0, rf1, rf2, rf3⟩, ⟨ml, m0, m1, m2, m3⟩, ⟨ol, o0, o1, o2, o3, of0, of1, of2, of3⟩, ⟨nl, n0, n1, n2, n3⟩⟩ := hS0
            go_upto_region 13 with fail
            refine wp_world (fun W => RS w W nm no nu m x y2) (hS3.store hnn y2) ?_
            clear hbw hX rl r0 r1 r2 r3 rf0 rf1 rf2 rf3 ml m0 m1 m2 m3 ol o0 o1 o2 o3 of0 of1 of2 of3 nl n0 n1 n2 n3 hS3
            intro w4 hS4
            have hS0 := hS4
            obtain ⟨hbw, hX, ⟨rl, r0, r1, r2, r3, rf0, rf1, rf2, rf3⟩, ⟨ml, m0, m1, m2, m3⟩, ⟨ol, o0, o1, o2, o3, of0, of1, of2, of3⟩, ⟨nl, n0, n1, n2, n3⟩⟩ := hS0
            have hxi := hX.c5
            clear hX
            go_wp2_with fail
            go_roundg j
            case measure => omega
            case rel =>
              refine ⟨by have := HG.out; omega, by first | rfl | exact congrArg _ hh, ?_⟩
              rw [← HV.out]; exact hS4
          · rw [hb2, Int.one_mul] at ha
            have HV : Hid ((((x / 2 ^ (64 * 5 + (j + 1)) % m) + (x / 2 ^ (64 * 5 + (j + 1)) % m)) % m + 1) % m = (x / 2 ^ (64 * 5 + j) % m)) := by have h := bit_val x m (64 * 5 + j); rw [hb2] at h; exact h
            have HI2 : Hid (∀ w, Calls Tryd.prog 38 #[.agg #[.int .u64 (L 0 m), .int .u64 (L 1 m), .int .u64 (L 2 m), .int .u64 (L 3 m)], .agg #[.int .u64 (L 0 (((x / 2 ^ (64 * 5 + (j + 1)) % m) + (x / 2 ^ (64 * 5 + (j + 1)) % m)) % m)), .int .u64 (L 1 (((x / 2 ^ (64 * 5 + (j + 1)) % m) + (x / 2 ^ (64 * 5 + (j + 1)) % m)) % m)), .int .u64 (L 2 (((x / 2 ^ (64 * 5 + (j + 1)) % m) + (x / 2 ^ (64 * 5 + (j + 1)) % m)) % m)), .int .u64 (L 3 (((x / 2 ^ (64 * 5 + (j + 1)) % m) + (x / 2 ^ (64 * 5 + (j + 1)) % m)) % m))], .agg #[.int .u64 1, .int .u64 0, .int .u64 0, .int .u64 0]] w fun e w' => e = .returned (.agg #[.int .u64 (L 0 ((((x / 2 ^ (64 * 5 + (j + 1)) % m) + (x / 2 ^ (64 * 5 + (j + 1)) % m)) % m + 1) % m)), .int .u64 (L 1 ((((x / 2 ^ (64 * 5 + (j + 1)) % m) + (x / 2 ^ (64 * 5 + (j + 1)) % m)) % m + 1) % m)), .int .u64 (L 2 ((((x / 2 ^ (64 * 5 + (j + 1)) % m) + (x / 2 ^ (64 * 5 + (j + 1)) % m)) % m + 1) % m)), .int .u64 (L 3 ((((x / 2 ^ (64 * 5 + (j + 1)) % m) + (x / 2 ^ (64 * 5 + (j + 1)) % m)) % m + 1) % m))]) ∧ Below w.heap.size w w') := fun w => HP1.out _ w (Int.emod_nonneg _ (by have := HM.out.2; omega)) (Int.emod_lt_of_pos _ HM.out.2)
            have hbe : ((2 : Int) ^ j == 0) = false := beq_eq_false_iff_ne.2 (by omega)
            generalize (((x / 2 ^ (64 * 5 + (j + 1)) % m) + (x / 2 ^ (64 * 5 + (j + 1)) % m)) % m + 1) % m = y3 at *
            generalize ((x / 2 ^ (64 * 5 + (j + 1)) % m) + (x / 2 ^ (64 * 5 + (j + 1)) % m)) % m = y2 at *
            generalize x / 2 ^ (64 * 5 + (j + 1)) % m = y1 at *
            generalize (2 : Int) ^ j = be at *
            clear hb2 hg
            have hS0 := hS
            obtain ⟨hbw, hX, ⟨rl, r0, r1, r2, r3, rf0, rf1, rf2, rf3⟩, ⟨ml, m0, m1, m2, m3⟩, ⟨ol, o0, o1, o2, o3, of0, of1, of2, of3⟩, ⟨nl, n0, n1, n2, n3⟩⟩ := hS0
            go_wp2_with fail
            with_reducible refine Calls.mono (HI.out _) ?_
            clear hbw hX rl r0 r1 r2 r3 rf0 rf1 rf2 rf3 ml m0 m1 m2 m3 ol o0 o1 o2 o3 of0 of1 of2 of3 nl n0 n1 n2 n3
            rintro e w3 ⟨rfl, hb3⟩
            have hS3 := hS.call hb3
            clear hS hb3
            have hS0 := hS3
            obtain ⟨hbw, hX, ⟨rl, r0, r1, r2, r3, rf0, rf1, rf2, rf3⟩, ⟨ml, m0, m1, m2, m3⟩, ⟨ol, o0, o1, o2, o3, of0, of1, of2, of3⟩, ⟨nl, n0, n1, n2, n3⟩⟩ := hS0
            go_upto_region 13 with fail
            refine wp_world (fun W => RS w W nm no nu m x y2) (hS3.store hnn y2) ?_
            clear hbw hX rl r0 r1 r2 r3 rf0 rf1 rf2 rf3 ml m0 m1 m2 m3 ol o0 o1 o2 o3 of0 of1 of2 of3 nl n0 n1 n2 n3 hS3
            intro w4 hS4
            have hS0 := hS4
            obtain ⟨hbw, hX, ⟨rl, r0, r1, r2, r3, rf0, rf1, rf2, rf3⟩, ⟨ml, m0, m1, m2, m3⟩, ⟨ol, o0, o1, o2, o3, of0, of1, of2, of3⟩, ⟨nl, n0, n1, n2, n3⟩⟩ := hS0
            have hxi := hX.c5
            clear hX
            have hX := hxi
            go_wp2_with fail
            with_reducible refine Calls.mono (HI2.out _) ?_
            clear hbw hX rl r0 r1 r2 r3 rf0 rf1 rf2 rf3 ml m0 m1 m2 m3 ol o0 o1 o2 o3 of0 of1 of2 of3 nl n0 n1 n2 n3 hxi
            rintro e w5 ⟨rfl, hb5⟩
            have hS5 := hS4.call hb5
            clear hS4 hb5
            have hS0 := hS5
            obtain ⟨hbw, hX, ⟨rl, r0, r1, r2, r3, rf0, rf1, rf2, rf3⟩, ⟨ml, m0, m1, m2, m3⟩, ⟨ol, o0, o1, o2, o3, of0, of1, of2, of3⟩, ⟨nl, n0, n1, n2, n3⟩⟩ := hS0
            clear hX
            go_wp2_with fail
            go_roundg j
            case measure => omega
            case rel =>
              refine ⟨by have := HG.out; omega, by first | rfl | exact congrArg _ hh, ?_⟩
              rw [← HV.out]; exact hS5.store hnn y3
    · clear hS1
      have HXI : Hid (∀ e : Nat, e < 64 → bits .and .u64 (L 4 x) (2 ^ e) = x / 2 ^ (64 * 4 + e) % 2 * 2 ^ e) := fun e he => by rw [and_bit _ _ (L_lo _ _) (L_hi _ _) he, word_bit x 4 e he]
      go_wp2_with fail
      go_loopg [9] 64 (fun g s9 wr => g ≤ 64 ∧ s9 = .int .u64 (bw g) ∧ RS w wr nm no nu m x (x / 2 ^ (64 * 4 + g) % m))
      case atStart => exact ⟨Nat.le_refl _, rfl, hS⟩
      case round =>
        clear hS
        obtain ⟨hg, rfl, hS⟩ := hrel
        cases gk with
        | zero =>
          rw [bw_zero]
          go_wp2_with fail
          go_roundg 4
          case measure => omega
          case rel => exact Or.inr (Or.inr (Or.inr (Or.inr (Or.inl ⟨rfl, rfl, hS⟩))))
        | succ j =>
          have hp := pow_lt64 j (by omega)
          have HI : Hid (∀ w, Calls Tryd.prog 38 #[.agg #[.int .u64 (L 0 m), .int .u64 (L 1 m), .int .u64 (L 2 m), .int .u64 (L 3 m)], .agg #[.int .u64 (L 0 (x / 2 ^ (64 * 4 + (j + 1)) % m)), .int .u64 (L 1 (x / 2 ^ (64 * 4 + (j + 1)) % m)), .int .u64 (L 2 (x / 2 ^ (64 * 4 + (j + 1)) % m)), .int .u64 (L 3 (x / 2 ^ (64 * 4 + (j + 1)) % m))], .agg #[.int .u64 (L 0 (x / 2 ^ (64 * 4 + (j + 1)) % m)), .int .u64 (L 1 (x / 2 ^ (64 * 4 + (j + 1)) % m)), .int .u64 (L 2 (x / 2 ^ (64 * 4 + (j + 1)) % m)), .int .u64 (L 3 (x / 2 ^ (64 * 4 + (j + 1)) % m))]] w fun e w' => e = .returned (.agg #[.int .u64 (L 0 (((x / 2 ^ (64 * 4 + (j + 1)) % m) + (x / 2 ^ (64 * 4 + (j + 1)) % m)) % m)), .int .u64 (L 1 (((x / 2 ^ (64 * 4 + (j + 1)) % m) + (x / 2 ^ (64 * 4 + (j + 1)) % m)) % m)), .int .u64 (L 2 (((x / 2 ^ (64 * 4 + (j + 1)) % m) + (x / 2 ^ (64 * 4 + (j + 1)) % m)) % m)), .int .u64 (L 3 (((x / 2 ^ (64 * 4 + (j + 1)) % m) + (x / 2 ^ (64 * 4 + (j + 1)) % m)) % m))]) ∧ Below w.heap.size w w') := fun w => HPL.out _ _ w (Int.emod_nonneg _ (by have := HM.out.2; omega)) (Int.emod_lt_of_pos _ HM.out.2) (Int.emod_nonneg _ (by have := HM.out.2; omega)) (Int.emod_lt_of_pos _ HM.out.2)
          have hh := bw_half j
          have ha := HXI.out j (by omega)
          have hb2 : x / 2 ^ (64 * 4 + j) % 2 = 0 ∨ x / 2 ^ (64 * 4 + j) % 2 = 1 := by omega
          have HG : Hid (j + 1 ≤ 64) := hg
          rw [bw_succ]
          rcases hb2 with hb2 | hb2
          · rw [hb2, Int.zero_mul] at ha
            have HV : Hid (((x / 2 ^ (64 * 4 + (j + 1)) % m) + (x / 2 ^ (64 * 4 + (j + 1)) % m)) % m = (x / 2 ^ (64 * 4 + j) % m)) := bit_none (e := 64 * 4 + j) hb2
            generalize ((x / 2 ^ (64 * 4 + (j + 1)) % m) + (x / 2 ^ (64 * 4 + (j + 1)) % m)) % m = y2 at *
            generalize x / 2 ^ (64 * 4 + (j + 1)) % m = y1 at *
            generalize (2 : Int) ^ j = be at *
            clear hb2 hg
            have hS0 := hS
            obtain ⟨hbw, hX, ⟨rl, r0, r1, r2, r3, rf0, rf1, rf2, rf3⟩, ⟨ml, m0, m1, m2, m3⟩, ⟨ol, o0, o1, o2, o3, of0, of1, of2, of3⟩, ⟨nl, n0, n1, n2, n3⟩⟩ := hS0
            go_wp2_with fail
            with_reducible refine Calls.mono (HI.out _) ?_
            clear hbw hX rl r0 r1 r2 r3 rf0 rf1 rf2 rf3 ml m0 m1 m2 m3 ol o0 o1 o2 o3 of0 of1 of2 of3 nl n0 n1 n2 n3
            rintro e w3 ⟨rfl, hb3⟩
            have hS3 := hS.call hb3
            clear hS hb3
            have hS0 := hS3
            obtain ⟨hbw, hX, ⟨rl, r0, r1, r2, r3, rf0, rf1, rf2, rf3⟩, ⟨ml, m0, m1, m2, m3⟩, ⟨ol, o0, o1, o2, o3, of0, of1, of2, of3⟩, ⟨nl, n0, n1, n2, n3⟩⟩ := hS0
            go_upto_region 13 with fail
            refine wp_world (fun W => RS w W nm no nu m x y2) (hS3.store hnn y2) ?_
            clear hbw hX rl r0 r1 r2 r3 rf0 rf1 rf2 rf3 ml m0 m1 m2 m3 ol o0 o1 o2 o3 of0 of1 of2 of3 nl n0 n1 n2 n3 hS3
            intro w4 hS4
            have hS0 := hS4
            obtain ⟨hbw, hX, ⟨rl, r0, r1, r2, r3, rf0, rf1, rf2, rf3⟩, ⟨ml, m0, m1, m2, m3⟩, ⟨ol, o0, o1, o2, o3, of0, of1, of2, of3⟩, ⟨nl, n0, n1, n2, n3⟩⟩ := hS0
            have hxi := hX.c4
            clear hX
            go_wp2_with fail
            go_roundg j
            case measure => omega
            case rel =>
              refine ⟨by have := HG.out; omega, by first | rfl | exact congrArg _ hh, ?_⟩
              rw [← HV.out]; exact hS4
          · rw [hb2, Int.one_mul] at ha
            have HV : Hid ((((x / 2 ^ (64 * 4 + (j + 1)) % m) + (x / 2 ^ (64 * 4 + (j + 1)) % m)) % m + 1) % m = (x / 2 ^ (64 * 4 + j) % m)) := by have h := bit_val x m (64 * 4 + j); rw [hb2] at h; exact h
            have HI2 : Hid (∀ w, Calls Tryd.prog 38 #[.agg #[.int .u64 (L 0 m), .int .u64 (L 1 m), .int .u64 (L 2 m), .int .u64 (L 3 m)], .agg #[.int .u64 (L 0 (((x / 2 ^ (64 * 4 + (j + 1)) % m) + (x / 2 ^ (64 * 4 + (j + 1)) % m)) % m)), .int .u64 (L 1 (((x / 2 ^ (64 * 4 + (j + 1)) % m) + (x / 2 ^ (64 * 4 + (j + 1)) % m)) % m)), .int .u64 (L 2 (((x / 2 ^ (64 * 4 + (j + 1)) % m) + (x / 2 ^ (64 * 4 + (j + 1)) % m)) % m)), .int .u64 (L 3 (((x / 2 ^ (64 * 4 + (j + 1)) % m) + (x / 2 ^ (64 * 4 + (j + 1)) % m)) % m))], .agg #[.int .u64 1, .int .u64 0, .int .u64 0, .int .u64 0]] w fun e w' => e = .returned (.agg #[.int .u64 (L 0 ((((x / 2 ^ (64 * 4 + (j + 1)) % m) + (x / 2 ^ (64 * 4 + (j + 1)) % m)) % m + 1) % m)), .int .u64 (L 1 ((((x / 2 ^ (64 * 4 + (j + 1)) % m) + (x / 2 ^ (64 * 4 + (j + 1)) % m)) % m + 1) % m)), .int .u64 (L 2 ((((x / 2 ^ (64 * 4 + (j + 1)) % m) + (x / 2 ^ (64 * 4 + (j + 1)) % m)) % m + 1) % m)), .int .u64 (L 3 ((((x / 2 ^ (64 * 4 + (j + 1)) % m) + (x / 2 ^ (64 * 4 + (j + 1)) % m)) % m + 1) % m))]) ∧ Below w.heap.size w w') := fun w => HP1.out _ w (Int.emod_nonneg _ (by have := HM.out.2; omega)) (Int.emod_lt_of_pos _ HM.out.2)
            have hbe : ((2 : Int) ^ j == 0) = false := beq_eq_false_iff_ne.2 (by omega)
            generalize (((x / 2 ^ (64 * 4 + (j + 1)) % m) + (x / 2 ^ (64 * 4 + (j + 1)) % m)) % m + 1) % m = y3 at *
            generalize ((x / 2 ^ (64 * 4 + (j + 1)) % m) + (x / 2 ^ (64 * 4 + (j + 1)) % m)) % m = y2 at *
            generalize x / 2 ^ (64 * 4 + (j + 1)) % m = y1 at *
            generalize (2 : Int) ^ j = be at *
            clear hb2 hg
            have hS0 := hS
            obtain ⟨hbw, hX, ⟨rl, r0, r1, r2, r3, rf0, rf1, rf2, rf3⟩, ⟨ml, m0, m1, m2, m3⟩, ⟨ol, o0, o1, o2, o3, of0, of1, of2, of3⟩, ⟨nl, n0, n1, n2, n3⟩⟩ := hS0
            go_wp2_with fail
            with_reducible refine Calls.mono (HI.out _) ?_
            clear hbw hX rl r0 r1 r2 r3 rf0 rf1 rf2 rf3 ml m0 m1 m2 m3 ol o0 o1 o2 o3 of0 of1 of2 of3 nl n0 n1 n2 n3
            rintro e w3 ⟨rfl, hb3⟩
            have hS3 := hS.call hb3
            clear hS hb3
            have hS0 := hS3
            obtain ⟨hbw, hX, ⟨rl, r0, r1, r2, r3, rf0, rf1, rf2, rf3⟩, ⟨ml, m0, m1, m2, m3⟩, ⟨ol, o0, o1, o2, o3, of0, of1, of2, of3⟩, ⟨nl, n0, n1, n2, n3⟩⟩ := hS0
            go_upto_region 13 with fail
            refine wp_world (fun W => RS w W nm no nu m x y2) (hS3.store hnn y2) ?_
            clear hbw hX rl r0 r1 r2 r3 rf0 rf1 rf2 rf3 ml m0 m1 m2 m3 ol o0 o1 o2 o3 of0 of1 of2 of3 nl n0 n1 n2 n3 hS3
            intro w4 hS4
            have hS0 := hS4
            obtain ⟨hbw, hX, ⟨rl, r0, r1, r2, r3, rf0, rf1, rf2, rf3⟩, ⟨ml, m0, m1, m2, m3⟩, ⟨ol, o0, o1, o2, o3, of0, of1, of2, of3⟩, ⟨nl, n0, n1, n2, n3⟩⟩ := hS0
            have hxi := hX.c4
            clear hX
            have hX := hxi
            go_wp2_with fail
            with_reducible refine Calls.mono (HI2.out _) ?_
            clear hbw hX rl r0 r1 r2 r3 rf0 rf1 rf2 rf3 ml m0 m1 m2 m3 ol o0 o1 o2 o3 of0 of1 of2 of3 nl n0 n1 n2 n3 hxi
            rintro e w5 ⟨rfl, hb5⟩
            have hS5 := hS4.call hb5
            clear hS4 hb5
            have hS0 := hS5
            obtain ⟨hbw, hX, ⟨rl, r0, r1, r2, r3, rf0, rf1, rf2, rf3⟩, ⟨ml, m0, m1, m2, m3⟩, ⟨ol, o0, o1, o2, o3, of0, of1, of2, of3⟩, ⟨nl, n0, n1, n2, n3⟩⟩ := hS0
            clear hX
            go_wp2_with fail
            go_roundg j
            case measure => omega
            case rel =>
              refine ⟨by have := HG.out; omega, by first | rfl | exact congrArg _ hh, ?_⟩
              rw [← HV.out]; exact hS5.store hnn y3
    · clear hS1
      have HXI : Hid (∀ e : Nat, e < 64 → bits .and .u64 (L 3 x) (2 ^ e) = x / 2 ^ (64 * 3 + e) % 2 * 2 ^ e) := fun e he => by rw [and_bit _ _ (L_lo _ _) (L_hi _ _) he, word_bit x 3 e he]
      go_wp2_with fail
      go_loopg [9] 64 (fun g s9 wr => g ≤ 64 ∧ s9 = .int .u64 (bw g) ∧ RS w wr nm no nu m x (x / 2 ^ (64 * 3 + g) % m))
      case atStart => exact ⟨Nat.le_refl _, rfl, hS⟩
      case round =>
        clear hS
        obtain ⟨hg, rfl, hS⟩ := hrel
        cases gk with
        | zero =>
          rw [bw_zero]
          go_wp2_with fail
          go_roundg 3
          case measure => omega
          case rel => exact Or.inr (Or.inr (Or.inr (Or.inr (Or.inr (Or.inl ⟨rfl, rfl, hS⟩)))))
        | succ j =>
          have hp := pow_lt64 j (by omega)
          have HI : Hid (∀ w, Calls Tryd.prog 38 #[.agg #[.int .u64 (L 0 m), .int .u64 (L 1 m), .int .u64 (L 2 m), .int .u64 (L 3 m)], .agg #[.int .u64 (L 0 (x / 2 ^ (64 * 3 + (j + 1)) % m)), .int .u64 (L 1 (x / 2 ^ (64 * 3 + (j + 1)) % m)), .int .u64 (L 2 (x / 2 ^ (64 * 3 + (j + 1)) % m)), .int .u64 (L 3 (x / 2 ^ (64 * 3 + (j + 1)) % m))], .agg #[.int .u64 (L 0 (x / 2 ^ (64 * 3 + (j + 1)) % m)), .int .u64 (L 1 (x / 2 ^ (64 * 3 + (j + 1)) % m)), .int .u64 (L 2 (x / 2 ^ (64 * 3 + (j + 1)) % m)), .int .u64 (L 3 (x / 2 ^ (64 * 3 + (j + 1)) % m))]] w fun e w' => e = .returned (.agg #[.int .u64 (L 0 (((x / 2 ^ (64 * 3 + (j + 1)) % m) + (x / 2 ^ (64 * 3 + (j + 1)) % m)) % m)), .int .u64 (L 1 (((x / 2 ^ (64 * 3 + (j + 1)) % m) + (x / 2 ^ (64 * 3 + (j + 1)) % m)) % m)), .int .u64 (L 2 (((x / 2 ^ (64 * 3 + (j + 1)) % m) + (x / 2 ^ (64 * 3 + (j + 1)) % m)) % m)), .int .u64 (L 3 (((x / 2 ^ (64 * 3 + (j + 1)) % m) + (x / 2 ^ (64 * 3 + (j + 1)) % m)) % m))]) ∧ Below w.heap.size w w') := fun w => HPL.out _ _ w (Int.emod_nonneg _ (by have := HM.out.2; omega)) (Int.emod_lt_of_pos _ HM.out.2) (Int.emod_nonneg _ (by have := HM.out.2; omega)) (Int.emod_lt_of_pos _ HM.out.2)
          have hh := bw_half j
          have ha := HXI.out j (by omega)
          have hb2 : x / 2 ^ (64 * 3 + j) % 2 = 0 ∨ x / 2 ^ (64 * 3 + j) % 2 = 1 := by omega
          have HG : Hid (j + 1 ≤ 64) := hg
          rw [bw_succ]
          rcases hb2 with hb2 | hb2
          · rw [hb2, Int.zero_mul] at ha
            have HV : Hid (((x / 2 ^ (64 * 3 + (j + 1)) % m) + (x / 2 ^ (64 * 3 + (j + 1)) % m)) % m = (x / 2 ^ (64 * 3 + j) % m)) := bit_none (e := 64 * 3 + j) hb2
            generalize ((x / 2 ^ (64 * 3 + (j + 1)) % m) + (x / 2 ^ (64 * 3 + (j + 1)) % m)) % m = y2 at *
            generalize x / 2 ^ (64 * 3 + (j + 1)) % m = y1 at *
            generalize (2 : Int) ^ j = be at *
            clear hb2 hg
            have hS0 := hS
            obtain ⟨hbw, hX, ⟨rl, r0, r1, r2, r3, rf0, rf1, rf2, rf3⟩, ⟨ml, m0, m1, m2, m3⟩, ⟨ol, o0, o1, o2, o3, of0, of1, of2, of3⟩, ⟨nl, n0, n1, n2, n3⟩⟩ := hS0
            go_wp2_with fail
            with_reducible refine Calls.mono (HI.out _) ?_
            clear hbw hX rl r0 r1 r2 r3 rf0 rf1 rf2 rf3 ml m0 m1 m2 m3 ol o0 o1 o2 o3 of0 of1 of2 of3 nl n0 n1 n2 n3
            rintro e w3 ⟨rfl, hb3⟩
            have hS3 := hS.call hb3
            clear hS hb3
            have hS0 := hS3
            obtain ⟨hbw, hX, ⟨rl, r0, r1, r2, r3, rf0, rf1, rf2, rf3⟩, ⟨ml, m0, m1, m2, m3⟩, ⟨ol, o0, o1, o2, o3, of0, of1, of2, of3⟩, ⟨nl, n0, n1, n2, n3⟩⟩ := hS0
            go_upto_region 13 with fail
            refine wp_world (fun W => RS w W nm no nu m x y2) (hS3.store hnn y2) ?_
            clear hbw hX rl r0 r1 r2 r3 rf0 rf1 rf2 rf3 ml m0 m1 m2 m3 ol o0 o1 o2 o3 of0 of1 of2 of3 nl n0 n1 n2 n3 hS3
            intro w4 hS4
            have hS0 := hS4
            obtain ⟨hbw, hX, ⟨rl, r0, r1, r2, r3, rf0, rf1, rf2, rf3⟩, ⟨ml, m0, m1, m2, m3⟩, ⟨ol, o0, o1, o2, o3, of0, of1, of2, of3⟩, ⟨nl, n0, n1, n2, n3⟩⟩ := hS0
            have hxi := hX.c3
            clear hX
            go_wp2_with fail
            go_roundg j
            case measure => omega
            case rel =>
              refine ⟨by have := HG.out; omega, by first | rfl | exact congrArg _ hh, ?_⟩
              rw [← HV.out]; exact hS4
          · rw [hb2, Int.one_mul] at ha
            have HV : Hid ((((x / 2 ^ (64 * 3 + (j + 1)) % m) + (x / 2 ^ (64 * 3 + (j + 1)) % m)) % m + 1) % m = (x / 2 ^ (64 * 3 + j) % m)) := by have h := bit_val x m (64 * 3 + j); rw [hb2] at h; exact h
            have HI2 : Hid (∀ w, Calls Tryd.prog 38 #[.agg #[.int .u64 (L 0 m), .int .u64 (L 1 m), .int .u64 (L 2 m), .int .u64 (L 3 m)], .agg #[.int .u64 (L 0 (((x / 2 ^ (64 * 3 + (j + 1)) % m) + (x / 2 ^ (64 * 3 + (j + 1)) % m)) % m)), .int .u64 (L 1 (((x / 2 ^ (64 * 3 + (j + 1)) % m) + (x / 2 ^ (64 * 3 + (j + 1)) % m)) % m)), .int .u64 (L 2 (((x / 2 ^ (64 * 3 + (j + 1)) % m) + (x / 2 ^ (64 * 3 + (j + 1)) % m)) % m)), .int .u64 (L 3 (((x / 2 ^ (64 * 3 + (j + 1)) % m) + (x / 2 ^ (64 * 3 + (j + 1)) % m)) % m))], .agg #[.int .u64 1, .int .u64 0, .int .u64 0, .int .u64 0]] w fun e w' => e = .returned (.agg #[.int .u64 (L 0 ((((x / 2 ^ (64 * 3 + (j + 1)) % m) + (x / 2 ^ (64 * 3 + (j + 1)) % m)) % m + 1) % m)), .int .u64 (L 1 ((((x / 2 ^ (64 * 3 + (j + 1)) % m) + (x / 2 ^ (64 * 3 + (j + 1)) % m)) % m + 1) % m)), .int .u64 (L 2 ((((x / 2 ^ (64 * 3 + (j + 1)) % m) + (x / 2 ^ (64 * 3 + (j + 1)) % m)) % m + 1) % m)), .int .u64 (L 3 ((((x / 2 ^ (64 * 3 + (j + 1)) % m) + (x / 2 ^ (64 * 3 + (j + 1)) % m)) % m + 1) % m))]) ∧ Below w.heap.size w w') := fun w => HP1.out _ w (Int.emod_nonneg _ (by have := HM.out.2; omega)) (Int.emod_lt_of_pos _ HM.out.2)
            have hbe : ((2 : Int) ^ j == 0) = false := beq_eq_false_iff_ne.2 (by omega)
            generalize (((x / 2 ^ (64 * 3 + (j + 1)) % m) + (x / 2 ^ (64 * 3 + (j + 1)) % m)) % m + 1) % m = y3 at *
            generalize ((x / 2 ^ (64 * 3 + (j + 1)) % m) + (x / 2 ^ (64 * 3 + (j + 1)) % m)) % m = y2 at *
            generalize x / 2 ^ (64 * 3 + (j + 1)) % m = y1 at *
            generalize (2 : Int) ^ j = be at *
            clear hb2 hg
            have hS0 := hS
            obtain ⟨hbw, hX, ⟨rl, r0, r1, r2, r3, rf0, rf1, rf2, rf3⟩, ⟨ml, m0, m1, m2, m3⟩, ⟨ol, o0, o1, o2, o3, of0, of1, of2, of3⟩, ⟨nl, n0, n1, n2, n3⟩⟩ := hS0
            go_wp2_with fail
            with_reducible refine Calls.mono (HI.out _) ?_
            clear hbw hX rl r0 r1 r2 r3 rf0 rf1 rf2 rf3 ml m0 m1 m2 m3 ol o0 o1 o2 o3 of0 of1 of2 of3 nl n0 n1 n2 n3
            rintro e w3 ⟨rfl, hb3⟩
            have hS3 := hS.call hb3
            clear hS hb3
            have hS0 := hS3
            obtain ⟨hbw, hX, ⟨rl, r0, r1, r2, r3, rf0, rf1, rf2, rf3⟩, ⟨ml, m0, m1, m2, m3⟩, ⟨ol, o0, o1, o2, o3, of0, of1, of2, of3⟩, ⟨nl, n0, n1, n2, n3⟩⟩ := hS0
            go_upto_region 13 with fail
            refine wp_world (fun W => RS w W nm no nu m x y2) (hS3.store hnn y2) ?_
            clear hbw hX rl r0 r1 r2 r3 rf0 rf1 rf2 rf3 ml m0 m1 m2 m3 ol o0 o1 o2 o3 of0 of1 of2 of3 nl n0 n1 n2 n3 hS3
            intro w4 hS4
            have hS0 := hS4
            obtain ⟨hbw, hX, ⟨rl, r0, r1, r2, r3, rf0, rf1, rf2, rf3⟩, ⟨ml, m0, m1, m2, m3⟩, ⟨ol, o0, o1, o2, o3, of0, of1, of2, of3⟩, ⟨nl, n0, n1, n2, n3⟩⟩ := hS0
            have hxi := hX.c3
            clear hX
            have hX := hxi
            go_wp2_with fail
            with_reducible refine Calls.mono (HI2.out _) ?_
            clear hbw hX rl r0 r1 r2 r3 rf0 rf1 rf2 rf3 ml m0 m1 m2 m3 ol o0 o1 o2 o3 of0 of1 of2 of3 nl n0 n1 n2 n3 hxi
            rintro e w5 ⟨rfl, hb5⟩
            have hS5 := hS4.call hb5
            clear hS4 hb5
            have hS0 := hS5
            obtain ⟨hbw, hX, ⟨rl, r0, r1, r2, r3, rf0, rf1, rf2, rf3⟩, ⟨ml, m0, m1, m2, m3⟩, ⟨ol, o0, o1, o2, o3, of0, of1, of2, of3⟩, ⟨nl, n0, n1, n2, n3⟩⟩ := hS0
            clear hX
            go_wp2_with fail
            go_roundg j
            case measure => omega
            case rel =>
              refine ⟨by have := HG.out; omega, by first | rfl | exact congrArg _ hh, ?_⟩
              rw [← HV.out]; exact hS5.store hnn y3
    · clear hS1
      have HXI : Hid (∀ e : Nat, e < 64 → bits .and .u64 (L 2 x) (2 ^ e) = x / 2 ^ (64 * 2 + e) % 2 * 2 ^ e) := fun e he => by rw [and_bit _ _ (L_lo _ _) (L_hi _ _) he, word_bit x 2 e he]
      go_wp2_with fail
      go_loopg [9] 64 (fun g s9 wr => g ≤ 64 ∧ s9 = .int .u64 (bw g) ∧ RS w wr nm no nu m x (x / 2 ^ (64 * 2 + g) % m))
      case atStart => exact ⟨Nat.le_refl _, rfl, hS⟩
      case round =>
        clear hS
        obtain ⟨hg, rfl, hS⟩ := hrel
        cases gk with
        | zero =>
          rw [bw_zero]
          go_wp2_with fail
          go_roundg 2
          case measure => omega
          case rel => exact Or.inr (Or.inr (Or.inr (Or.inr (Or.inr (Or.inr (Or.inl ⟨rfl, rfl, hS⟩))))))
        | succ j =>
          have hp := pow_lt64 j (by omega)
          have HI : Hid (∀ w, Calls Tryd.prog 38 #[.agg #[.int .u64 (L 0 m), .int .u64 (L 1 m), .int .u64 (L 2 m), .int .u64 (L 3 m)], .agg #[.int .u64 (L 0 (x / 2 ^ (64 * 2 + (j + 1)) % m)), .int .u64 (L 1 (x / 2 ^ (64 * 2 + (j + 1)) % m)), .int .u64 (L 2 (x / 2 ^ (64 * 2 + (j + 1)) % m)), .int .u64 (L 3 (x / 2 ^ (64 * 2 + (j + 1)) % m))], .agg #[.int .u64 (L 0 (x / 2 ^ (64 * 2 + (j + 1)) % m)), .int .u64 (L 1 (x / 2 ^ (64 * 2 + (j + 1)) % m)), .int .u64 (L 2 (x / 2 ^ (64 * 2 + (j + 1)) % m)), .int .u64 (L 3 (x / 2 ^ (64 * 2 + (j + 1)) % m))]] w fun e w' => e = .returned (.agg #[.int .u64 (L 0 (((x / 2 ^ (64 * 2 + (j + 1)) % m) + (x / 2 ^ (64 * 2 + (j + 1)) % m)) % m)), .int .u64 (L 1 (((x / 2 ^ (64 * 2 + (j + 1)) % m) + (x / 2 ^ (64 * 2 + (j + 1)) % m)) % m)), .int .u64 (L 2 (((x / 2 ^ (64 * 2 + (j + 1)) % m) + (x / 2 ^ (64 * 2 + (j + 1)) % m)) % m)), .int .u64 (L 3 (((x / 2 ^ (64 * 2 + (j + 1)) % m) + (x / 2 ^ (64 * 2 + (j + 1)) % m)) % m))]) ∧ Below w.heap.size w w') := fun w => HPL.out _ _ w (Int.emod_nonneg _ (by have := HM.out.2; omega)) (Int.emod_lt_of_pos _ HM.out.2) (Int.emod_nonneg _ (by have := HM.out.2; omega)) (Int.emod_lt_of_pos _ HM.out.2)
          have hh := bw_half j
          have ha := HXI.out j (by omega)
          have hb2 : x / 2 ^ (64 * 2 + j) % 2 = 0 ∨ x / 2 ^ (64 * 2 + j) % 2 = 1 := by omega
          have HG : Hid (j + 1 ≤ 64) := hg
          rw [bw_succ]
          rcases hb2 with hb2 | hb2
          · rw [hb2, Int.zero_mul] at ha
            have HV : Hid (((x / 2 ^ (64 * 2 + (j + 1)) % m) + (x / 2 ^ (64 * 2 + (j + 1)) % m)) % m = (x / 2 ^ (64 * 2 + j) % m)) := bit_none (e := 64 * 2 + j) hb2
            generalize ((x / 2 ^ (64 * 2 + (j + 1)) % m) + (x / 2 ^ (64 * 2 + (j + 1)) % m)) % m = y2 at *
            generalize x / 2 ^ (64 * 2 + (j + 1)) % m = y1 at *
            generalize (2 : Int) ^ j = be at *
            clear hb2 hg
            have hS0 := hS
            obtain ⟨hbw, hX, ⟨rl, r0, r1, r2, r3, rf0, rf1, rf2, rf3⟩, ⟨ml, m0, m1, m2, m3⟩, ⟨ol, o0, o1, o2, o3, of0, of1, of2, of3⟩, ⟨nl, n0, n1, n2, n3⟩⟩ := hS0
            go_wp2_with fail
            with_reducible refine Calls.mono (HI.out _) ?_
            clear hbw hX rl r0 r1 r2 r3 rf0 rf1 rf2 rf3 ml m0 m1 m2 m3 ol o0 o1 o2 o3 of0 of1 of2 of3 nl n0 n1 n2 n3
            rintro e w3 ⟨rfl, hb3⟩
            have hS3 := hS.call hb3
            clear hS hb3
            have hS0 := hS3
            obtain ⟨hbw, hX, ⟨rl, r0, r1, r2, r3, rf0, rf1, rf2, rf3⟩, ⟨ml, m0, m1, m2, m3⟩, ⟨ol, o0, o1, o2, o3, of0, of1, of2, of3⟩, ⟨nl, n0, n1, n2, n3⟩⟩ := hS0
            go_upto_region 13 with fail
            refine wp_world (fun W => RS w W nm no nu m x y2) (hS3.store hnn y2) ?_
            clear hbw hX rl r0 r1 r2 r3 rf0 rf1 rf2 rf3 ml m0 m1 m2 m3 ol o0 o1 o2 o3 of0 of1 of2 of3 nl n0 n1 n2 n3 hS3
            intro w4 hS4
            have hS0 := hS4
            obtain ⟨hbw, hX, ⟨rl, r0, r1, r2, r3, rf0, rf1, rf2, rf3⟩, ⟨ml, m0, m1, m2, m3⟩, ⟨ol, o0, o1, o2, o3, of0, of1, of2, of3⟩, ⟨nl, n0, n1, n2, n3⟩⟩ := hS0
            have hxi := hX.c2
            clear hX
            go_wp2_with fail
            go_roundg j
            case measure => omega
            case rel =>
              refine ⟨by have := HG.out; omega, by first | rfl | exact congrArg _ hh, ?_⟩
              rw [← HV.out]; exact hS4
          · rw [hb2, Int.one_mul] at ha
            have HV : Hid ((((x / 2 ^ (64 * 2 + (j + 1)) % m) + (x / 2 ^ (64 * 2 + (j + 1)) % m)) % m + 1) % m = (x / 2 ^ (64 * 2 + j) % m)) := by have h := bit_val x m (64 * 2 + j); rw [hb2] at h; exact h
            have HI2 : Hid (∀ w, Calls Tryd.prog 38 #[.agg #[.int .u64 (L 0 m), .int .u64 (L 1 m), .int .u64 (L 2 m), .int .u64 (L 3 m)], .agg #[.int .u64 (L 0 (((x / 2 ^ (64 * 2 + (j + 1)) % m) + (x / 2 ^ (64 * 2 + (j + 1)) % m)) % m)), .int .u64 (L 1 (((x / 2 ^ (64 * 2 + (j + 1)) % m) + (x / 2 ^ (64 * 2 + (j + 1)) % m)) % m)), .int .u64 (L 2 (((x / 2 ^ (64 * 2 + (j + 1)) % m) + (x / 2 ^ (64 * 2 + (j + 1)) % m)) % m)), .int .u64 (L 3 (((x / 2 ^ (64 * 2 + (j + 1)) % m) + (x / 2 ^ (64 * 2 + (j + 1)) % m)) % m))], .agg #[.int .u64 1, .int .u64 0, .int .u64 0, .int .u64 0]] w fun e w' => e = .returned (.agg #[.int .u64 (L 0 ((((x / 2 ^ (64 * 2 + (j + 1)) % m) + (x / 2 ^ (64 * 2 + (j + 1)) % m)) % m + 1) % m)), .int .u64 (L 1 ((((x / 2 ^ (64 * 2 + (j + 1)) % m) + (x / 2 ^ (64 * 2 + (j + 1)) % m)) % m + 1) % m)), .int .u64 (L 2 ((((x / 2 ^ (64 * 2 + (j + 1)) % m) + (x / 2 ^ (64 * 2 + (j + 1)) % m)) % m + 1) % m)), .int .u64 (L 3 ((((x / 2 ^ (64 * 2 + (j + 1)) % m) + (x / 2 ^ (64 * 2 + (j + 1)) % m)) % m + 1) % m))]) ∧ Below w.heap.size w w') := fun w => HP1.out _ w (Int.emod_nonneg _ (by have := HM.out.2; omega)) (Int.emod_lt_of_pos _ HM.out.2)
            have hbe : ((2 : Int) ^ j == 0) = false := beq_eq_false_iff_ne.2 (by omega)
            generalize (((x / 2 ^ (64 * 2 + (j + 1)) % m) + (x / 2 ^ (64 * 2 + (j + 1)) % m)) % m + 1) % m = y3 at *
            generalize ((x / 2 ^ (64 * 2 + (j + 1)) % m) + (x / 2 ^ (64 * 2 + (j + 1)) % m)) % m = y2 at *
            generalize x / 2 ^ (64 * 2 + (j + 1)) % m = y1 at *
            generalize (2 : Int) ^ j = be at *
            clear hb2 hg
            have hS0 := hS
            obtain ⟨hbw, hX, ⟨rl, r0, r1, r2, r3, rf0, rf1, rf2, rf3⟩, ⟨ml, m0, m1, m2, m3⟩, ⟨ol, o0, o1, o2, o3, of0, of1, of2, of3⟩, ⟨nl, n0, n1, n2, n3⟩⟩ := hS0
            go_wp2_with fail
            with_reducible refine Calls.mono (HI.out _) ?_
            clear hbw hX rl r0 r1 r2 r3 rf0 rf1 rf2 rf3 ml m0 m1 m2 m3 ol o0 o1 o2 o3 of0 of1 of2 of3 nl n0 n1 n2 n3
            rintro e w3 ⟨rfl, hb3⟩
            have hS3 := hS.call hb3
            clear hS hb3
            have hS0 := hS3
            obtain ⟨hbw, hX, ⟨rl, r0, r1, r2, r3, rf0, rf1, rf2, rf3⟩, ⟨ml, m0, m1, m2, m3⟩, ⟨ol, o0, o1, o2, o3, of0, of1, of2, of3⟩, ⟨nl, n0, n1, n2, n3⟩⟩ := hS0
            go_upto_region 13 with fail
            refine wp_world (fun W => RS w W nm no nu m x y2) (hS3.store hnn y2) ?_
            clear hbw hX rl r0 r1 r2 r3 rf0 rf1 rf2 rf3 ml m0 m1 m2 m3 ol o0 o1 o2 o3 of0 of1 of2 of3 nl n0 n1 n2 n3 hS3
            intro w4 hS4
            have hS0 := hS4
            obtain ⟨hbw, hX, ⟨rl, r0, r1, r2, r3, rf0, rf1, rf2, rf3⟩, ⟨ml, m0, m1, m2, m3⟩, ⟨ol, o0, o1, o2, o3, of0, of1, of2, of3⟩, ⟨nl, n0, n1, n2, n3⟩⟩ := hS0
            have hxi := hX.c2
            clear hX
            have hX := hxi
            go_wp2_with fail
            with_reducible refine Calls.mono (HI2.out _) ?_
            clear hbw hX rl r0 r1 r2 r3 rf0 rf1 rf2 rf3 ml m0 m1 m2 m3 ol o0 o1 o2 o3 of0 of1 of2 of3 nl n0 n1 n2 n3 hxi
            rintro e w5 ⟨rfl, hb5⟩
            have hS5 := hS4.call hb5
            clear hS4 hb5
            have hS0 := hS5
            obtain ⟨hbw, hX, ⟨rl, r0, r1, r2, r3, rf0, rf1, rf2, rf3⟩, ⟨ml, m0, m1, m2, m3⟩, ⟨ol, o0, o1, o2, o3, of0, of1, of2, of3⟩, ⟨nl, n0, n1, n2, n3⟩⟩ := hS0
            clear hX
            go_wp2_with fail
            go_roundg j
            case measure => omega
            case rel =>
              refine ⟨by have := HG.out; omega, by first | rfl | exact congrArg _ hh, ?_⟩
              rw [← HV.out]; exact hS5.store hnn y3
    · clear hS1
      have HXI : Hid (∀ e : Nat, e < 64 → bits .and .u64 (L 1 x) (2 ^ e) = x / 2 ^ (64 * 1 + e) % 2 * 2 ^ e) := fun e he => by rw [and_bit _ _ (L_lo _ _) (L_hi _ _) he, word_bit x 1 e he]
      go_wp2_with fail
      go_loopg [9] 64 (fun g s9 wr => g ≤ 64 ∧ s9 = .int .u64 (bw g) ∧ RS w wr nm no nu m x (x / 2 ^ (64 * 1 + g) % m))
      case atStart => exact ⟨Nat.le_refl _, rfl, hS⟩
      case round =>
        clear hS
        obtain ⟨hg, rfl, hS⟩ := hrel
        cases gk with
        | zero =>
          rw [bw_zero]
          go_wp2_with fail
          go_roundg 1
          case measure => omega
          case rel => exact Or.inr (Or.inr (Or.inr (Or.inr (Or.inr (Or.inr (Or.inr (Or.inl ⟨rfl, rfl, hS⟩)))))))
        | succ j =>
          have hp := pow_lt64 j (by omega)
          have HI : Hid (∀ w, Calls Tryd.prog 38 #[.agg #[.int .u64 (L 0 m), .int .u64 (L 1 m), .int .u64 (L 2 m), .int .u64 (L 3 m)], .agg #[.int .u64 (L 0 (x / 2 ^ (64 * 1 + (j + 1)) % m)), .int .u64 (L 1 (x / 2 ^ (64 * 1 + (j + 1)) % m)), .int .u64 (L 2 (x / 2 ^ (64 * 1 + (j + 1)) % m)), .int .u64 (L 3 (x / 2 ^ (64 * 1 + (j + 1)) % m))], .agg #[.int .u64 (L 0 (x / 2 ^ (64 * 1 + (j + 1)) % m)), .int .u64 (L 1 (x / 2 ^ (64 * 1 + (j + 1)) % m)), .int .u64 (L 2 (x / 2 ^ (64 * 1 + (j + 1)) % m)), .int .u64 (L 3 (x / 2 ^ (64 * 1 + (j + 1)) % m))]] w fun e w' => e = .returned (.agg #[.int .u64 (L 0 (((x / 2 ^ (64 * 1 + (j + 1)) % m) + (x / 2 ^ (64 * 1 + (j + 1)) % m)) % m)), .int .u64 (L 1 (((x / 2 ^ (64 * 1 + (j + 1)) % m) + (x / 2 ^ (64 * 1 + (j + 1)) % m)) % m)), .int .u64 (L 2 (((x / 2 ^ (64 * 1 + (j + 1)) % m) + (x / 2 ^ (64 * 1 + (j + 1)) % m)) % m)), .int .u64 (L 3 (((x / 2 ^ (64 * 1 + (j + 1)) % m) + (x / 2 ^ (64 * 1 + (j + 1)) % m)) % m))]) ∧ Below w.heap.size w w') := fun w => HPL.out _ _ w (Int.emod_nonneg _ (by have := HM.out.2; omega)) (Int.emod_lt_of_pos _ HM.out.2) (Int.emod_nonneg _ (by have := HM.out.2; omega)) (Int.emod_lt_of_pos _ HM.out.2)
          have hh := bw_half j
          have ha := HXI.out j (by omega)
          have hb2 : x / 2 ^ (64 * 1 + j) % 2 = 0 ∨ x / 2 ^ (64 * 1 + j) % 2 = 1 := by omega
          have HG : Hid (j + 1 ≤ 64) := hg
          rw [bw_succ]
          rcases hb2 with hb2 | hb2
          · rw [hb2, Int.zero_mul] at ha
            have HV : Hid (((x / 2 ^ (64 * 1 + (j + 1)) % m) + (x / 2 ^ (64 * 1 + (j + 1)) % m)) % m = (x / 2 ^ (64 * 1 + j) % m)) := bit_none (e := 64 * 1 + j) hb2
            generalize ((x / 2 ^ (64 * 1 + (j + 1)) % m) + (x / 2 ^ (64 * 1 + (j + 1)) % m)) % m = y2 at *
            generalize x / 2 ^ (64 * 1 + (j + 1)) % m = y1 at *
            generalize (2 : Int) ^ j = be at *
            clear hb2 hg
            have hS0 := hS
            obtain ⟨hbw, hX, ⟨rl, r0, r1, r2, r3, rf0, rf1, rf2, rf3⟩, ⟨ml, m0, m1, m2, m3⟩, ⟨ol, o0, o1, o2, o3, of0, of1, of2, of3⟩, ⟨nl, n0, n1, n2, n3⟩⟩ := hS0
            go_wp2_with fail
            with_reducible refine Calls.mono (HI.out _) ?_
            clear hbw hX rl r0 r1 r2 r3 rf0 rf1 rf2 rf3 ml m0 m1 m2 m3 ol o0 o1 o2 o3 of0 of1 of2 of3 nl n0 n1 n2 n3
            rintro e w3 ⟨rfl, hb3⟩
            have hS3 := hS.call hb3
            clear hS hb3
            have hS0 := hS3
            obtain ⟨hbw, hX, ⟨rl, r0, r1, r2, r3, rf0, rf1, rf2, rf3⟩, ⟨ml, m0, m1, m2, m3⟩, ⟨ol, o0, o1, o2, o3, of0, of1, of2, of3⟩, ⟨nl, n0, n1, n2, n3⟩⟩ := hS0
            go_upto_region 13 with fail
            refine wp_world (fun W => RS w W nm no nu m x y2) (hS3.store hnn y2) ?_
            clear hbw hX rl r0 r1 r2 r3 rf0 rf1 rf2 rf3 ml m0 m1 m2 m3 ol o0 o1 o2 o3 of0 of1 of2 of3 nl n0 n1 n2 n3 hS3
            intro w4 hS4
            have hS0 := hS4
            obtain ⟨hbw, hX, ⟨rl, r0, r1, r2, r3, rf0, rf1, rf2, rf3⟩, ⟨ml, m0, m1, m2, m3⟩, ⟨ol, o0, o1, o2, o3, of0, of1, of2, of3⟩, ⟨nl, n0, n1, n2, n3⟩⟩ := hS0
            have hxi := hX.c1
            clear hX
            go_wp2_with fail
            go_roundg j
            case measure => omega
            case rel =>
              refine ⟨by have := HG.out; omega, by first | rfl | exact congrArg _ hh, ?_⟩
              rw [← HV.out]; exact hS4
          · rw [hb2, Int.one_mul] at ha
            have HV : Hid ((((x / 2 ^ (64 * 1 + (j + 1)) % m) + (x / 2 ^ (64 * 1 + (j + 1)) % m)) % m + 1) % m = (x / 2 ^ (64 * 1 + j) % m)) := by have h := bit_val x m (64 * 1 + j); rw [hb2] at h; exact h
            have HI2 : Hid (∀ w, Calls Tryd.prog 38 #[.agg #[.int .u64 (L 0 m), .int .u64 (L 1 m), .int .u64 (L 2 m), .int .u64 (L 3 m)], .agg #[.int .u64 (L 0 (((x / 2 ^ (64 * 1 + (j + 1)) % m) + (x / 2 ^ (64 * 1 + (j + 1)) % m)) % m)), .int .u64 (L 1 (((x / 2 ^ (64 * 1 + (j + 1)) % m) + (x / 2 ^ (64 * 1 + (j + 1)) % m)) % m)), .int .u64 (L 2 (((x / 2 ^ (64 * 1 + (j + 1)) % m) + (x / 2 ^ (64 * 1 + (j + 1)) % m)) % m)), .int .u64 (L 3 (((x / 2 ^ (64 * 1 + (j + 1)) % m) + (x / 2 ^ (64 * 1 + (j + 1)) % m)) % m))], .agg #[.int .u64 1, .int .u64 0, .int .u64 0, .int .u64 0]] w fun e w' => e = .returned (.agg #[.int .u64 (L 0 ((((x / 2 ^ (64 * 1 + (j + 1)) % m) + (x / 2 ^ (64 * 1 + (j + 1)) % m)) % m + 1) % m)), .int .u64 (L 1 ((((x / 2 ^ (64 * 1 + (j + 1)) % m) + (x / 2 ^ (64 * 1 + (j + 1)) % m)) % m + 1) % m)), .int .u64 (L 2 ((((x / 2 ^ (64 * 1 + (j + 1)) % m) + (x / 2 ^ (64 * 1 + (j + 1)) % m)) % m + 1) % m)), .int .u64 (L 3 ((((x / 2 ^ (64 * 1 + (j + 1)) % m) + (x / 2 ^ (64 * 1 + (j + 1)) % m)) % m + 1) % m))]) ∧ Below w.heap.size w w') := fun w => HP1.out _ w (Int.emod_nonneg _ (by have := HM.out.2; omega)) (Int.emod_lt_of_pos _ HM.out.2)
            have hbe : ((2 : Int) ^ j == 0) = false := beq_eq_false_iff_ne.2 (by omega)
            generalize (((x / 2 ^ (64 * 1 + (j + 1)) % m) + (x / 2 ^ (64 * 1 + (j + 1)) % m)) % m + 1) % m = y3 at *
            generalize ((x / 2 ^ (64 * 1 + (j + 1)) % m) + (x / 2 ^ (64 * 1 + (j + 1)) % m)) % m = y2 at *
            generalize x / 2 ^ (64 * 1 + (j + 1)) % m = y1 at *
            generalize (2 : Int) ^ j = be at *
            clear hb2 hg
            have hS0 := hS
            obtain ⟨hbw, hX, ⟨rl, r0, r1, r2, r3, rf0, rf1, rf2, rf3⟩, ⟨ml, m0, m1, m2, m3⟩, ⟨ol, o0, o1, o2, o3, of0, of1, of2, of3⟩, ⟨nl, n0, n1, n2, n3⟩⟩ := hS0
            go_wp2_with fail
            with_reducible refine Calls.mono (HI.out _) ?_
            clear hbw hX rl r0 r1 r2 r3 rf0 rf1 rf2 rf3 ml m0 m1 m2 m3 ol o0 o1 o2 o3 of0 of1 of2 of3 nl n0 n1 n2 n3
            rintro e w3 ⟨rfl, hb3⟩
            have hS3 := hS.call hb3
            clear hS hb3
            have hS0 := hS3
            obtain ⟨hbw, hX, ⟨rl, r0, r1, r2, r3, rf0, rf1, rf2, rf3⟩, ⟨ml, m0, m1, m2, m3⟩, ⟨ol, o0, o1, o2, o3, of0, of1, of2, of3⟩, ⟨nl, n0, n1, n2, n3⟩⟩ := hS0
            go_upto_region 13 with fail
            refine wp_world (fun W => RS w W nm no nu m x y2) (hS3.store hnn y2) ?_
            clear hbw hX rl r0 r1 r2 r3 rf0 rf1 rf2 rf3 ml m0 m1 m2 m3 ol o0 o1 o2 o3 of0 of1 of2 of3 nl n0 n1 n2 n3 hS3
            intro w4 hS4
            have hS0 := hS4
            obtain ⟨hbw, hX, ⟨rl, r0, r1, r2, r3, rf0, rf1, rf2, rf3⟩, ⟨ml, m0, m1, m2, m3⟩, ⟨ol, o0, o1, o2, o3, of0, of1, of2, of3⟩, ⟨nl, n0, n1, n2, n3⟩⟩ := hS0
            have hxi := hX.c1
            clear hX
            have hX := hxi
            go_wp2_with fail
            with_reducible refine Calls.mono (HI2.out _) ?_
            clear hbw hX rl r0 r1 r2 r3 rf0 rf1 rf2 rf3 ml m0 m1 m2 m3 ol o0 o1 o2 o3 of0 of1 of2 of3 nl n0 n1 n2 n3 hxi
            rintro e w5 ⟨rfl, hb5⟩
            have hS5 := hS4.call hb5
            clear hS4 hb5
            have hS0 := hS5
            obtain ⟨hbw, hX, ⟨rl, r0, r1, r2, r3, rf0, rf1, rf2, rf3⟩, ⟨ml, m0, m1, m2, m3⟩, ⟨ol, o0, o1, o2, o3, of0, of1, of2, of3⟩, ⟨nl, n0, n1, n2, n3⟩⟩ := hS0
            clear hX
            go_wp2_with fail
            go_roundg j
            case measure => omega
            case rel =>
              refine ⟨by have := HG.out; omega, by first | rfl | exact congrArg _ hh, ?_⟩
              rw [← HV.out]; exact hS5.store hnn y3
    · clear hS1
      have HXI : Hid (∀ e : Nat, e < 64 → bits .and .u64 (L 0 x) (2 ^ e) = x / 2 ^ (64 * 0 + e) % 2 * 2 ^ e) := fun e he => by rw [and_bit _ _ (L_lo _ _) (L_hi _ _) he, word_bit x 0 e he]
      go_wp2_with fail
      go_loopg [9] 64 (fun g s9 wr => g ≤ 64 ∧ s9 = .int .u64 (bw g) ∧ RS w wr nm no nu m x (x / 2 ^ (64 * 0 + g) % m))
      case atStart => exact ⟨Nat.le_refl _, rfl, hS⟩
      case round =>
        clear hS
        obtain ⟨hg, rfl, hS⟩ := hrel
        cases gk with
        | zero =>
          rw [bw_zero]
          go_wp2_with fail
          go_roundg 0
          case measure => omega
          case rel => exact Or.inr (Or.inr (Or.inr (Or.inr (Or.inr (Or.inr (Or.inr (Or.inr (⟨rfl, rfl, hS⟩))))))))
        | succ j =>
          have hp := pow_lt64 j (by omega)
          have HI : Hid (∀ w, Calls Tryd.prog 38 #[.agg #[.int .u64 (L 0 m), .int .u64 (L 1 m), .int .u64 (L 2 m), .int .u64 (L 3 m)], .agg #[.int .u64 (L 0 (x / 2 ^ (64 * 0 + (j + 1)) % m)), .int .u64 (L 1 (x / 2 ^ (64 * 0 + (j + 1)) % m)), .int .u64 (L 2 (x / 2 ^ (64 * 0 + (j + 1)) % m)), .int .u64 (L 3 (x / 2 ^ (64 * 0 + (j + 1)) % m))], .agg #[.int .u64 (L 0 (x / 2 ^ (64 * 0 + (j + 1)) % m)), .int .u64 (L 1 (x / 2 ^ (64 * 0 + (j + 1)) % m)), .int .u64 (L 2 (x / 2 ^ (64 * 0 + (j + 1)) % m)), .int .u64 (L 3 (x / 2 ^ (64 * 0 + (j + 1)) % m))]] w fun e w' => e = .returned (.agg #[.int .u64 (L 0 (((x / 2 ^ (64 * 0 + (j + 1)) % m) + (x / 2 ^ (64 * 0 + (j + 1)) % m)) % m)), .int .u64 (L 1 (((x / 2 ^ (64 * 0 + (j + 1)) % m) + (x / 2 ^ (64 * 0 + (j + 1)) % m)) % m)), .int .u64 (L 2 (((x / 2 ^ (64 * 0 + (j + 1)) % m) + (x / 2 ^ (64 * 0 + (j + 1)) % m)) % m)), .int .u64 (L 3 (((x / 2 ^ (64 * 0 + (j + 1)) % m) + (x / 2 ^ (64 * 0 + (j + 1)) % m)) % m))]) ∧ Below w.heap.size w w') := fun w => HPL.out _ _ w (Int.emod_nonneg _ (by have := HM.out.2; omega)) (Int.emod_lt_of_pos _ HM.out.2) (Int.emod_nonneg _ (by have := HM.out.2; omega)) (Int.emod_lt_of_pos _ HM.out.2)
          have hh := bw_half j
          have ha := HXI.out j (by omega)
          have hb2 : x / 2 ^ (64 * 0 + j) % 2 = 0 ∨ x / 2 ^ (64 * 0 + j) % 2 = 1 := by omega
          have HG : Hid (j + 1 ≤ 64) := hg
          rw [bw_succ]
          rcases hb2 with hb2 | hb2
          · rw [hb2, Int.zero_mul] at ha
            have HV : Hid (((x / 2 ^ (64 * 0 + (j + 1)) % m) + (x / 2 ^ (64 * 0 + (j + 1)) % m)) % m = (x / 2 ^ (64 * 0 + j) % m)) := bit_none (e := 64 * 0 + j) hb2
            generalize ((x / 2 ^ (64 * 0 + (j + 1)) % m) + (x / 2 ^ (64 * 0 + (j + 1)) % m)) % m = y2 at *
            generalize x / 2 ^ (64 * 0 + (j + 1)) % m = y1 at *
            generalize (2 : Int) ^ j = be at *
            clear hb2 hg
            have hS0 := hS
            obtain ⟨hbw, hX, ⟨rl, r0, r1, r2, r3, rf0, rf1, rf2, rf3⟩, ⟨ml, m0, m1, m2, m3⟩, ⟨ol, o0, o1, o2, o3, of0, of1, of2, of3⟩, ⟨nl, n0, n1, n2, n3⟩⟩ := hS0
            go_wp2_with fail
            with_reducible refine Calls.mono (HI.out _) ?_
            clear hbw hX rl r0 r1 r2 r3 rf0 rf1 rf2 rf3 ml m0 m1 m2 m3 ol o0 o1 o2 o3 of0 of1 of2 of3 nl n0 n1 n2 n3
            rintro e w3 ⟨rfl, hb3⟩
            have hS3 := hS.call hb3
            clear hS hb3
            have hS0 := hS3
            obtain ⟨hbw, hX, ⟨rl, r0, r1, r2, r3, rf0, rf1, rf2, rf3⟩, ⟨ml, m0, m1, m2, m3⟩, ⟨ol, o0, o1, o2, o3, of0, of1, of2, of3⟩, ⟨nl, n0, n1, n2, n3⟩⟩ := hS0
            go_upto_region 13 with fail
            refine wp_world (fun W => RS w W nm no nu m x y2) (hS3.store hnn y2) ?_
            clear hbw hX rl r0 r1 r2 r3 rf0 rf1 rf2 rf3 ml m0 m1 m2 m3 ol o0 o1 o2 o3 of0 of1 of2 of3 nl n0 n1 n2 n3 hS3
            intro w4 hS4
            have hS0 := hS4
            obtain ⟨hbw, hX, ⟨rl, r0, r1, r2, r3, rf0, rf1, rf2, rf3⟩, ⟨ml, m0, m1, m2, m3⟩, ⟨ol, o0, o1, o2, o3, of0, of1, of2, of3⟩, ⟨nl, n0, n1, n2, n3⟩⟩ := hS0
            have hxi := hX.c0
            clear hX
            go_wp2_with fail
            go_roundg j
            case measure => omega
            case rel =>
              refine ⟨by have := HG.out; omega, by first | rfl | exact congrArg _ hh, ?_⟩
              rw [← HV.out]; exact hS4
          · rw [hb2, Int.one_mul] at ha
            have HV : Hid ((((x / 2 ^ (64 * 0 + (j + 1)) % m) + (x / 2 ^ (64 * 0 + (j + 1)) % m)) % m + 1) % m = (x / 2 ^ (64 * 0 + j) % m)) := by have h := bit_val x m (64 * 0 + j); rw [hb2] at h; exact h
            have HI2 : Hid (∀ w, Calls Tryd.prog 38 #[.agg #[.int .u64 (L 0 m), .int .u64 (L 1 m), .int .u64 (L 2 m), .int .u64 (L 3 m)], .agg #[.int .u64 (L 0 (((x / 2 ^ (64 * 0 + (j + 1)) % m) + (x / 2 ^ (64 * 0 + (j + 1)) % m)) % m)), .int .u64 (L 1 (((x / 2 ^ (64 * 0 + (j + 1)) % m) + (x / 2 ^ (64 * 0 + (j + 1)) % m)) % m)), .int .u64 (L 2 (((x / 2 ^ (64 * 0 + (j + 1)) % m) + (x / 2 ^ (64 * 0 + (j + 1)) % m)) % m)), .int .u64 (L 3 (((x / 2 ^ (64 * 0 + (j + 1)) % m) + (x / 2 ^ (64 * 0 + (j + 1)) % m)) % m))], .agg #[.int .u64 1, .int .u64 0, .int .u64 0, .int .u64 0]] w fun e w' => e = .returned (.agg #[.int .u64 (L 0 ((((x / 2 ^ (64 * 0 + (j + 1)) % m) + (x / 2 ^ (64 * 0 + (j + 1)) % m)) % m + 1) % m)), .int .u64 (L 1 ((((x / 2 ^ (64 * 0 + (j + 1)) % m) + (x / 2 ^ (64 * 0 + (j + 1)) % m)) % m + 1) % m)), .int .u64 (L 2 ((((x / 2 ^ (64 * 0 + (j + 1)) % m) + (x / 2 ^ (64 * 0 + (j + 1)) % m)) % m + 1) % m)), .int .u64 (L 3 ((((x / 2 ^ (64 * 0 + (j + 1)) % m) + (x / 2 ^ (64 * 0 + (j + 1)) % m)) % m + 1) % m))]) ∧ Below w.heap.size w w') := fun w => HP1.out _ w (Int.emod_nonneg _ (by have := HM.out.2; omega)) (Int.emod_lt_of_pos _ HM.out.2)
            have hbe : ((2 : Int) ^ j == 0) = false := beq_eq_false_iff_ne.2 (by omega)
            generalize (((x / 2 ^ (64 * 0 + (j + 1)) % m) + (x / 2 ^ (64 * 0 + (j + 1)) % m)) % m + 1) % m = y3 at *
            generalize ((x / 2 ^ (64 * 0 + (j + 1)) % m) + (x / 2 ^ (64 * 0 + (j + 1)) % m)) % m = y2 at *
            generalize x / 2 ^ (64 * 0 + (j + 1)) % m = y1 at *
            generalize (2 : Int) ^ j = be at *
            clear hb2 hg
            have hS0 := hS
            obtain ⟨hbw, hX, ⟨rl, r0, r1, r2, r3, rf0, rf1, rf2, rf3⟩, ⟨ml, m0, m1, m2, m3⟩, ⟨ol, o0, o1, o2, o3, of0, of1, of2, of3⟩, ⟨nl, n0, n1, n2, n3⟩⟩ := hS0
            go_wp2_with fail
            with_reducible refine Calls.mono (HI.out _) ?_
            clear hbw hX rl r0 r1 r2 r3 rf0 rf1 rf2 rf3 ml m0 m1 m2 m3 ol o0 o1 o2 o3 of0 of1 of2 of3 nl n0 n1 n2 n3
            rintro e w3 ⟨rfl, hb3⟩
            have hS3 := hS.call hb3
            clear hS hb3
            have hS0 := hS3
            obtain ⟨hbw, hX, ⟨rl, r0, r1, r2, r3, rf0, rf1, rf2, rf3⟩, ⟨ml, m0, m1, m2, m3⟩, ⟨ol, o0, o1, o2, o3, of0, of1, of2, of3⟩, ⟨nl, n0, n1, n2, n3⟩⟩ := hS0
            go_upto_region 13 with fail
            refine wp_world (fun W => RS w W nm no nu m x y2) (hS3.store hnn y2) ?_
            clear hbw hX rl r0 r1 r2 r3 rf0 rf1 rf2 rf3 ml m0 m1 m2 m3 ol o0 o1 o2 o3 of0 of1 of2 of3 nl n0 n1 n2 n3 hS3
            intro w4 hS4
            have hS0 := hS4
            obtain ⟨hbw, hX, ⟨rl, r0, r1, r2, r3, rf0, rf1, rf2, rf3⟩, ⟨ml, m0, m1, m2, m3⟩, ⟨ol, o0, o1, o2, o3, of0, of1, of2, of3⟩, ⟨nl, n0, n1, n2, n3⟩⟩ := hS0
            have hxi := hX.c0
            clear hX
            have hX := hxi
            go_wp2_with fail
            with_reducible refine Calls.mono (HI2.out _) ?_
            clear hbw hX rl r0 r1 r2 r3 rf0 rf1 rf2 rf3 ml m0 m1 m2 m3 ol o0 o1 o2 o3 of0 of1 of2 of3 nl n0 n1 n2 n3 hxi
            rintro e w5 ⟨rfl, hb5⟩
            have hS5 := hS4.call hb5
            clear hS4 hb5
            have hS0 := hS5
            obtain ⟨hbw, hX, ⟨rl, r0, r1, r2, r3, rf0, rf1, rf2, rf3⟩, ⟨ml, m0, m1, m2, m3⟩, ⟨ol, o0, o1, o2, o3, of0, of1, of2, of3⟩, ⟨nl, n0, n1, n2, n3⟩⟩ := hS0
            clear hX
            go_wp2_with fail
            go_roundg j
            case measure => omega
            case rel =>
              refine ⟨by have := HG.out; omega, by first | rfl | exact congrArg _ hh, ?_⟩
              rw [← HV.out]; exact hS5.store hnn y3
    · have e0 : x / 2 ^ (64 * 0 + 0) % m = x % m := by simp
      rw [e0] at hS
      have hS0 := hS
      obtain ⟨hbw, hX, ⟨rl, r0, r1, r2, r3, rf0, rf1, rf2, rf3⟩, ⟨ml, m0, m1, m2, m3⟩, ⟨ol, o0, o1, o2, o3, of0, of1, of2, of3⟩, ⟨nl, n0, n1, n2, n3⟩⟩ := hS0
      go_wp2_with fail
      exact bodyPost_ret (v := .agg #[.int .u64 (L 0 (x % m)), .int .u64 (L 1 (x % m)), .int .u64 (L 2 (x % m)), .int .u64 (L 3 (x % m))]) (by simp [results, Tryd.results23, go_sem, r0, r1, r2, r3]) rfl ⟨rfl, K.set4 hS.below (by omega) _ _ _ _⟩
end Go.Proofs.YtelanboegjgcbaaDoor
