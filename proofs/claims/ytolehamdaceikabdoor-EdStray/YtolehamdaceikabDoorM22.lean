/- What the document's own Mul modulo a number answers: twice, and once more for each bit. -/
import Derived.Test.YtolehamdaceikabDoorM21
import Derived.Test.YtolehamdaceikabDoorM18
import Derived.Test.YtolehamdaceikabDoorM17
import Derived.Deep.LoopGhost
import Derived.Deep.DeepCutAuto
namespace Go.Proofs.YtolehamdaceikabDoor
open Go.RowKit
attribute [local go_sem ↓] Go.wp_at_zero Go.wp_at_succ


theorem size_drew (w : World) : w.drew.heap.size = w.heap.size := rfl

/-- The bit that is asked when j are left; 0 when none is. -/
def bw (j : Nat) : Int := if j = 0 then 0 else 2 ^ (j - 1)
theorem bw_zero : bw 0 = 0 := rfl
theorem bw_succ (j : Nat) : bw (j + 1) = 2 ^ j := by simp [bw]
theorem bw_half (j : Nat) : (2 : Int) ^ j / 2 = bw j := by
  cases j with
  | zero => rfl
  | succ j => rw [bw_succ, Int.pow_succ]; omega
theorem pow_lt64 (j : Nat) (h : j < 64) : (0 : Int) < 2 ^ j ∧ (2 : Int) ^ j < 18446744073709551616 := by
  refine ⟨Int.pow_pos (by omega), ?_⟩
  have h1 : (2 : Nat) ^ j < 2 ^ 64 := Nat.pow_lt_pow_right (by omega) h
  have h2 : ((2 ^ j : Nat) : Int) < ((2 ^ 64 : Nat) : Int) := Int.ofNat_lt.2 h1
  simpa using h2
theorem and_bit (z : Int) (j : Nat) (h0 : 0 ≤ z) (h1 : z < 18446744073709551616) (hj : j < 64) : bits .and .u64 z (2 ^ j) = z / 2 ^ j % 2 * 2 ^ j := by
  obtain ⟨z, rfl⟩ := Int.eq_ofNat_of_zero_le h0
  have hp := pow_lt64 j hj
  have e : (2 : Int) ^ j = ((2 ^ j : Nat) : Int) := by simp
  rw [e] at hp ⊢
  rw [u64_and_nat _ _ (by omega) (by omega), nat_bit]
  rw [← Int.natCast_ediv, show ((2 : Int)) = ((2 : Nat) : Int) from rfl, ← Int.natCast_emod, ← Int.natCast_mul]
theorem mulbit_val (x y m : Int) (e : Nat) : ((x / 2 ^ (e + 1) * y % m + x / 2 ^ (e + 1) * y % m) % m + x / 2 ^ e % 2 * y) % m = x / 2 ^ e * y % m := by
  have h : x / 2 ^ e = x / 2 ^ (e + 1) + x / 2 ^ (e + 1) + x / 2 ^ e % 2 := by
    rw [Int.pow_succ, ← Int.ediv_ediv_of_nonneg (Int.le_of_lt (Int.pow_pos (by omega)))]
    generalize x / 2 ^ e = z
    omega
  have h2 : x / 2 ^ e * y = x / 2 ^ (e + 1) * y + x / 2 ^ (e + 1) * y + x / 2 ^ e % 2 * y := by
    rw [← Int.add_mul, ← Int.add_mul, ← h]
  rw [← Int.add_emod, Int.emod_add_emod, ← h2]
theorem mulbit_none {x y m : Int} {e : Nat} (hb : x / 2 ^ e % 2 = 0) : (x / 2 ^ (e + 1) * y % m + x / 2 ^ (e + 1) * y % m) % m = x / 2 ^ e * y % m := by
  have h := mulbit_val x y m e
  rw [hb, Int.zero_mul, Int.add_zero, Int.emod_emod] at h
  exact h
theorem mulbit_one {x y m : Int} {e : Nat} (hb : x / 2 ^ e % 2 = 1) : ((x / 2 ^ (e + 1) * y % m + x / 2 ^ (e + 1) * y % m) % m + y) % m = x / 2 ^ e * y % m := by
  have h := mulbit_val x y m e
  rw [hb, Int.one_mul] at h
  exact h

structure MS (w wr : World) (nm nx ny no : Nat) (m x y z : Int) : Prop where
  below : Below w.heap.size w wr
  R : ArrW wr (w.heap.size + 1 + 1) 0 0 0 0
  M0 : Arr wr nm (L 0 m) (L 1 m) (L 2 m) (L 3 m)
  X : Arr wr nx (L 0 x) (L 1 x) (L 2 x) (L 3 x)
  Y : Arr wr ny (L 0 y) (L 1 y) (L 2 y) (L 3 y)
  O : ArrW wr no (L 0 z) (L 1 z) (L 2 z) (L 3 z)
theorem MS.call {w wr w1 : World} {nm nx ny no : Nat} {m x y z : Int} (h : MS w wr nm nx ny no m x y z) (hk : Below wr.heap.size wr w1) : MS w w1 nm nx ny no m x y z :=
  ⟨K.call h.below hk, h.R.keep hk, h.M0.keep hk, h.X.keep hk, h.Y.keep hk, h.O.keep hk⟩
theorem MS.store {w wr : World} {nm nx ny no : Nat} {m x y z : Int} (h : MS w wr nm nx ny no m x y z) (hn : w.heap.size + 1 + 1 < no ∧ nm ≠ no ∧ nx ≠ no ∧ ny ≠ no) (u : Int) : MS w ((((wr.setCell ⟨no, 0, none⟩ (.int .u64 (L 0 u))).setCell ⟨no, 1, none⟩ (.int .u64 (L 1 u))).setCell ⟨no, 2, none⟩ (.int .u64 (L 2 u))).setCell ⟨no, 3, none⟩ (.int .u64 (L 3 u))) nm nx ny no m x y u :=
  ⟨K.set4 h.below (by omega) _ _ _ _, h.R.set4 (by omega) _ _ _ _, h.M0.set4 (by omega) _ _ _ _, h.X.set4 (by omega) _ _ _ _, h.Y.set4 (by omega) _ _ _ _, h.O.stored _ _ _ _⟩

set_option maxRecDepth 100000 in
set_option maxHeartbeats 16000000 in
theorem ref_mulf_walk {k a b x y m : Int} (w : World)
    (HM : Hid (0 < m)) (HY : Hid (0 ≤ y ∧ y < m)) (HZ : Hid (0 = (x / 2 ^ (64 * 3 + 64) * y % m)))
    (HPL : Hid (∀ a b w, 0 ≤ a → a < m → 0 ≤ b → b < m → Calls Tryd.prog 18 #[.agg #[.int .u64 (L 0 m), .int .u64 (L 1 m), .int .u64 (L 2 m), .int .u64 (L 3 m)], .agg #[.int .u64 (L 0 a), .int .u64 (L 1 a), .int .u64 (L 2 a), .int .u64 (L 3 a)], .agg #[.int .u64 (L 0 b), .int .u64 (L 1 b), .int .u64 (L 2 b), .int .u64 (L 3 b)]] w fun e w' => e = .returned (.agg #[.int .u64 (L 0 ((a + b) % m)), .int .u64 (L 1 ((a + b) % m)), .int .u64 (L 2 ((a + b) % m)), .int .u64 (L 3 ((a + b) % m))]) ∧ Below w.heap.size w w'))
    (HMO : Hid (∀ w, Calls Tryd.prog 16 #[.int .i64 k] w fun e w' => e = .returned (.agg #[.int .u64 (L 0 m), .int .u64 (L 1 m), .int .u64 (L 2 m), .int .u64 (L 3 m)]) ∧ Below w.heap.size w w'))
    (HFA : Hid (∀ w, Calls Tryd.prog 17 #[.int .i64 k, .agg #[.int .u64 (L 0 a), .int .u64 (L 1 a), .int .u64 (L 2 a), .int .u64 (L 3 a)]] w fun e w' => e = .returned (.agg #[.int .u64 (L 0 x), .int .u64 (L 1 x), .int .u64 (L 2 x), .int .u64 (L 3 x)]) ∧ Below w.heap.size w w'))
    (HFB : Hid (∀ w, Calls Tryd.prog 17 #[.int .i64 k, .agg #[.int .u64 (L 0 b), .int .u64 (L 1 b), .int .u64 (L 2 b), .int .u64 (L 3 b)]] w fun e w' => e = .returned (.agg #[.int .u64 (L 0 y), .int .u64 (L 1 y), .int .u64 (L 2 y), .int .u64 (L 3 y)]) ∧ Below w.heap.size w w')) :
    Calls Tryd.prog 8 #[.int .i64 k, .agg #[.int .u64 (L 0 a), .int .u64 (L 1 a), .int .u64 (L 2 a), .int .u64 (L 3 a)], .agg #[.int .u64 (L 0 b), .int .u64 (L 1 b), .int .u64 (L 2 b), .int .u64 (L 3 b)]] w fun e w' => e = .returned (.agg #[.int .u64 (L 0 (x * y % m)), .int .u64 (L 1 (x * y % m)), .int .u64 (L 2 (x * y % m)), .int .u64 (L 3 (x * y % m))]) ∧ Below w.heap.size w w' := by
  go_enter Tryd.func8, Tryd.ntmps8
  go_wp2_with fail
  with_reducible refine Calls.mono (HMO.out _) ?_
  rintro e w1 ⟨rfl, hb1⟩
  have A1 := (((Arr.new w w.heap.size rfl 24 (L 0 a) (L 1 a) (L 2 a) (L 3 a)).alloc _).alloc _).keep hb1 |>.alloc (.cells #[.int .u64 (L 0 m), .int .u64 (L 1 m), .int .u64 (L 2 m), .int .u64 (L 3 m)] 24)
  have B1 := ((Arr.new _ (w.heap.size + 1) (by simp) 24 (L 0 b) (L 1 b) (L 2 b) (L 3 b)).alloc _).keep hb1 |>.alloc (.cells #[.int .u64 (L 0 m), .int .u64 (L 1 m), .int .u64 (L 2 m), .int .u64 (L 3 m)] 24)
  have R1 := (ArrW.new _ (w.heap.size + 1 + 1) (by simp) 24 0 0 0 0).keep hb1 |>.alloc (.cells #[.int .u64 (L 0 m), .int .u64 (L 1 m), .int .u64 (L 2 m), .int .u64 (L 3 m)] 24)
  have M1 := Arr.new w1 w1.heap.size rfl 24 (L 0 m) (L 1 m) (L 2 m) (L 3 m)
  have hw1 : Below w.heap.size w (w1.alloc (.cells #[.int .u64 (L 0 m), .int .u64 (L 1 m), .int .u64 (L 2 m), .int .u64 (L 3 m)] 24)) := K.alloc (K.call (K.alloc (K.alloc (K.alloc (Below.refl _ w) _) _) _) hb1) _
  have hn1 : w.heap.size + 1 + 1 < w1.heap.size := by have := hb1.size; simp at this; omega
  clear hb1 HMO
  go_wp2_with fail
  generalize hbm : w1.heap.size = bm at *
  clear hbm
  generalize w1.alloc (.cells #[.int .u64 (L 0 m), .int .u64 (L 1 m), .int .u64 (L 2 m), .int .u64 (L 3 m)] 24) = W0 at *
  clear w1
  have ⟨ka, ka0, ka1, ka2, ka3⟩ := A1
  have ⟨kb, kb0, kb1, kb2, kb3⟩ := B1
  have hS : Hid (∀ w', Below W0.heap.size W0 w' → (Below W0.heap.size W0 w' ∧ w'.cell? ⟨w.heap.size, 0, none⟩ = some (.int .u64 (L 0 a)) ∧ w'.cell? ⟨w.heap.size, 1, none⟩ = some (.int .u64 (L 1 a)) ∧ w'.cell? ⟨w.heap.size, 2, none⟩ = some (.int .u64 (L 2 a)) ∧ w'.cell? ⟨w.heap.size, 3, none⟩ = some (.int .u64 (L 3 a)) ∧ w'.cell? ⟨w.heap.size + 1, 0, none⟩ = some (.int .u64 (L 0 b)) ∧ w'.cell? ⟨w.heap.size + 1, 1, none⟩ = some (.int .u64 (L 1 b)) ∧ w'.cell? ⟨w.heap.size + 1, 2, none⟩ = some (.int .u64 (L 2 b)) ∧ w'.cell? ⟨w.heap.size + 1, 3, none⟩ = some (.int .u64 (L 3 b)))) := fun w' hB => ⟨hB, later hB ka0, later hB ka1, later hB ka2, later hB ka3, later hB kb0, later hB kb1, later hB kb2, later hB kb3⟩
  clear ka ka0 ka1 ka2 ka3 kb kb0 kb1 kb2 kb3
  go_cut [8, 9] (fun s8 s9 wc => ∃ n8 n9, s8 = .pointer (some ⟨n8, 0, none⟩) ∧ s9 = .pointer (some ⟨n9, 0, none⟩) ∧ Below W0.heap.size W0 wc ∧ Arr wc n8 (L 0 x) (L 1 x) (L 2 x) (L 3 x) ∧ Arr wc n9 (L 0 y) (L 1 y) (L 2 y) (L 3 y))
  case first =>
    go_region_held3 (fun w' => Below W0.heap.size W0 w' ∧ w'.cell? ⟨w.heap.size, 0, none⟩ = some (.int .u64 (L 0 a)) ∧ w'.cell? ⟨w.heap.size, 1, none⟩ = some (.int .u64 (L 1 a)) ∧ w'.cell? ⟨w.heap.size, 2, none⟩ = some (.int .u64 (L 2 a)) ∧ w'.cell? ⟨w.heap.size, 3, none⟩ = some (.int .u64 (L 3 a)) ∧ w'.cell? ⟨w.heap.size + 1, 0, none⟩ = some (.int .u64 (L 0 b)) ∧ w'.cell? ⟨w.heap.size + 1, 1, none⟩ = some (.int .u64 (L 1 b)) ∧ w'.cell? ⟨w.heap.size + 1, 2, none⟩ = some (.int .u64 (L 2 b)) ∧ w'.cell? ⟨w.heap.size + 1, 3, none⟩ = some (.int .u64 (L 3 b)))
      ((refine hS.out _ ?_; first | (with_reducible exact (K.drew (Below.refl _ _))) | (with_reducible exact (K.drew (K.alloc (Below.refl _ _) _))) | (with_reducible exact (K.drew (K.alloc (K.alloc (Below.refl _ _) _) _))) | (with_reducible exact (K.alloc (K.drew (Below.refl _ _)) _)) | (with_reducible exact (K.alloc (K.alloc (K.drew (Below.refl _ _)) _) _)) | (with_reducible exact hQ) | (with_reducible exact (K.alloc hQ _)) | (with_reducible exact (K.alloc (K.alloc hQ _) _)) | (with_reducible exact (K.set4 hQ (by first | omega | (simp; done) | (simp; omega)) _ _ _ _)) | (with_reducible exact (K.alloc (K.set4 hQ (by first | omega | (simp; done) | (simp; omega)) _ _ _ _) _)) | (with_reducible exact (K.set4 (K.set4 hQ (by first | omega | (simp; done) | (simp; omega)) _ _ _ _) (by first | omega | (simp; done) | (simp; omega)) _ _ _ _)) | (with_reducible exact (K.set4 (K.alloc hQ _) (by first | omega | (simp; done) | (simp; omega)) _ _ _ _)) | (with_reducible exact (K.alloc (K.set4 (K.alloc hQ _) (by first | omega | (simp; done) | (simp; omega)) _ _ _ _) _)) | (with_reducible exact (K.set4 (K.alloc (K.alloc hQ _) _) (by first | omega | (simp; done) | (simp; omega)) _ _ _ _))))
      (first
        | (go_at_call 17; with_reducible refine Calls.mono (HFA.out _) ?_; rintro e w' ⟨rfl, hk⟩; have hz := hk.size; (try simp at hz); have hQ : Below W0.heap.size W0 w' := K.call (by go_split_ands; with_reducible assumption) hk; (try have hlz : W0.heap.size < w'.heap.size := (by omega)); (first | (with_reducible have hN := (ArrW.new _ _ rfl 24 0 0 0 0).keep hk) | (with_reducible have hN := (ArrW.new _ _ rfl 24 0 0 0 0).drew.keep hk) | skip); (first | (with_reducible have hP := ((ArrW.new _ _ rfl 24 0 0 0 0).alloc _).keep hk) | (with_reducible have hP := ((ArrW.new _ _ rfl 24 0 0 0 0).alloc _).drew.keep hk) | skip); (try rw [size_alloc1] at hN); (try rw [size_drew] at hN); (try rw [size_alloc1] at hP); (try rw [size_drew] at hP); (try have ⟨kn, kn0, kn1, kn2, kn3, knf0, knf1, knf2, knf3⟩ := hN); (try have ⟨kp, kp0, kp1, kp2, kp3, kpf0, kpf1, kpf2, kpf3⟩ := hP))
        | (go_at_call 17; with_reducible refine Calls.mono (HFB.out _) ?_; rintro e w' ⟨rfl, hk⟩; have hz := hk.size; (try simp at hz); have hQ : Below W0.heap.size W0 w' := K.call (by go_split_ands; with_reducible assumption) hk; (try have hlz : W0.heap.size < w'.heap.size := (by omega)); (first | (with_reducible have hN := hN.keep hk) | (with_reducible have hN := (hN.alloc _).keep hk) | (with_reducible have hN := ((hN.alloc _).alloc _).keep hk) | skip); (first | (with_reducible have hP := hP.keep hk) | (with_reducible have hP := (hP.alloc _).keep hk) | skip); (try rw [size_alloc1] at hN); (try rw [size_drew] at hN); (try rw [size_alloc1] at hP); (try rw [size_drew] at hP); (try have ⟨kn, kn0, kn1, kn2, kn3, knf0, knf1, knf2, knf3⟩ := hN); (try have ⟨kp, kp0, kp1, kp2, kp3, kpf0, kpf1, kpf2, kpf3⟩ := hP); (first | (with_reducible have hG := (ArrW.new _ _ rfl 24 0 0 0 0).keep hk) | (with_reducible have hG := (ArrW.new _ _ rfl 24 0 0 0 0).drew.keep hk) | skip); (first | (with_reducible have hJ := ((ArrW.new _ _ rfl 24 0 0 0 0).alloc _).keep hk) | (with_reducible have hJ := ((ArrW.new _ _ rfl 24 0 0 0 0).alloc _).drew.keep hk) | skip); (try rw [size_alloc1] at hG); (try rw [size_drew] at hG); (try rw [size_alloc1] at hJ); (try rw [size_drew] at hJ); (try have ⟨kg, kg0, kg1, kg2, kg3, kgf0, kgf1, kgf2, kgf3⟩ := hG); (try have ⟨kj, kj0, kj1, kj2, kj3, kjf0, kjf1, kjf2, kjf3⟩ := hJ)))
    all_goals
      have hH := ‹Below _ _ _ ∧ _›
      (try go_wp2_with fail)
      go_meet
      refine ⟨_, _, rfl, rfl, hH.1, ?_, ?_⟩
      all_goals
        constructor
        · (try simp only [World.size_setCell, size_alloc1]); first | omega | (simp; omega)
        all_goals simp [go_sem, *]
  case rest =>
  obtain ⟨nx, ny, rfl, rfl, hb, hX, hY⟩ := hcut
  have hR := R1.keep hb
  have hMm := M1.keep hb
  have hWw : Below w.heap.size w wc := K.call hw1 hb
  clear A1 B1 R1 M1 hw1 hS hb
  have hS1 : MS w (wc.alloc (.cells #[.int .u64 0, .int .u64 0, .int .u64 0, .int .u64 0] 24)) bm nx ny wc.heap.size m x y (x / 2 ^ (64 * 3 + 64) * y % m) := by
    rw [← HZ.out]
    refine ⟨K.alloc hWw _, hR.alloc _, hMm.alloc _, hX.alloc _, hY.alloc _, ?_⟩
    rw [L_zero, L_zero, L_zero, L_zero]
    exact ArrW.new wc wc.heap.size rfl 24 0 0 0 0
  have hnn : w.heap.size + 1 + 1 < wc.heap.size ∧ bm ≠ wc.heap.size ∧ nx ≠ wc.heap.size ∧ ny ≠ wc.heap.size := by have := hR.lt; have := hMm.lt; have := hX.lt; have := hY.lt; omega
  clear hR hMm hWw hX hY HZ hn1
  go_wp2_with fail
  generalize wc.heap.size = no at *
  generalize bm = nm at *
  go_loopg [11] 4 (fun g s8 wr => (g = 4 ∧ s8 = .int .i64 3 ∧ MS w wr nm nx ny no m x y (x / 2 ^ (64 * 3 + 64) * y % m)) ∨ (g = 3 ∧ s8 = .int .i64 2 ∧ MS w wr nm nx ny no m x y (x / 2 ^ (64 * 2 + 64) * y % m)) ∨ (g = 2 ∧ s8 = .int .i64 1 ∧ MS w wr nm nx ny no m x y (x / 2 ^ (64 * 1 + 64) * y % m)) ∨ (g = 1 ∧ s8 = .int .i64 0 ∧ MS w wr nm nx ny no m x y (x / 2 ^ (64 * 0 + 64) * y % m)) ∨ (g = 0 ∧ s8 = .int .i64 (-1) ∧ MS w wr nm nx ny no m x y (x / 2 ^ (64 * 0 + 0) * y % m)))
  case atStart => exact Or.inl ⟨rfl, rfl, hS1⟩
  case round =>
    rcases hrel with ⟨rfl, rfl, hS⟩ | ⟨rfl, rfl, hS⟩ | ⟨rfl, rfl, hS⟩ | ⟨rfl, rfl, hS⟩ | ⟨rfl, rfl, hS⟩
    · clear hS1
      have HXI : Hid (∀ e : Nat, e < 64 → bits .and .u64 (L 3 x) (2 ^ e) = x / 2 ^ (64 * 3 + e) % 2 * 2 ^ e) := fun e he => by rw [and_bit _ _ (L_lo _ _) (L_hi _ _) he, word_bit x 3 e he]
      go_wp2_with fail
      go_loopg [12] 64 (fun g s9 wr => g ≤ 64 ∧ s9 = .int .u64 (bw g) ∧ MS w wr nm nx ny no m x y (x / 2 ^ (64 * 3 + g) * y % m))
      case atStart => exact ⟨Nat.le_refl _, rfl, hS⟩
      case round =>
        clear hS
        obtain ⟨hg, rfl, hS⟩ := hrel
        cases gk with
        | zero =>
          rw [bw_zero]
          go_wp2_with fail
          go_roundg 3
          case measure => omega
          case rel => exact Or.inr (Or.inl ⟨rfl, rfl, hS⟩)
        | succ j =>
          have hp := pow_lt64 j (by omega)
          have HI : Hid (∀ w, Calls Tryd.prog 18 #[.agg #[.int .u64 (L 0 m), .int .u64 (L 1 m), .int .u64 (L 2 m), .int .u64 (L 3 m)], .agg #[.int .u64 (L 0 (x / 2 ^ (64 * 3 + (j + 1)) * y % m)), .int .u64 (L 1 (x / 2 ^ (64 * 3 + (j + 1)) * y % m)), .int .u64 (L 2 (x / 2 ^ (64 * 3 + (j + 1)) * y % m)), .int .u64 (L 3 (x / 2 ^ (64 * 3 + (j + 1)) * y % m))], .agg #[.int .u64 (L 0 (x / 2 ^ (64 * 3 + (j + 1)) * y % m)), .int .u64 (L 1 (x / 2 ^ (64 * 3 + (j + 1)) * y % m)), .int .u64 (L 2 (x / 2 ^ (64 * 3 + (j + 1)) * y % m)), .int .u64 (L 3 (x / 2 ^ (64 * 3 + (j + 1)) * y % m))]] w fun e w' => e = .returned (.agg #[.int .u64 (L 0 (((x / 2 ^ (64 * 3 + (j + 1)) * y % m) + (x / 2 ^ (64 * 3 + (j + 1)) * y % m)) % m)), .int .u64 (L 1 (((x / 2 ^ (64 * 3 + (j + 1)) * y % m) + (x / 2 ^ (64 * 3 + (j + 1)) * y % m)) % m)), .int .u64 (L 2 (((x / 2 ^ (64 * 3 + (j + 1)) * y % m) + (x / 2 ^ (64 * 3 + (j + 1)) * y % m)) % m)), .int .u64 (L 3 (((x / 2 ^ (64 * 3 + (j + 1)) * y % m) + (x / 2 ^ (64 * 3 + (j + 1)) * y % m)) % m))]) ∧ Below w.heap.size w w') := fun w => HPL.out _ _ w (Int.emod_nonneg _ (by have := HM.out; omega)) (Int.emod_lt_of_pos _ HM.out) (Int.emod_nonneg _ (by have := HM.out; omega)) (Int.emod_lt_of_pos _ HM.out)
          have hh := bw_half j
          have ha := HXI.out j (by omega)
          have hb2 : x / 2 ^ (64 * 3 + j) % 2 = 0 ∨ x / 2 ^ (64 * 3 + j) % 2 = 1 := by omega
          have HG : Hid (j + 1 ≤ 64) := hg
          rw [bw_succ]
          rcases hb2 with hb2 | hb2
          · rw [hb2, Int.zero_mul] at ha
            have HV : Hid (((x / 2 ^ (64 * 3 + (j + 1)) * y % m) + (x / 2 ^ (64 * 3 + (j + 1)) * y % m)) % m = (x / 2 ^ (64 * 3 + j) * y % m)) := mulbit_none (e := 64 * 3 + j) hb2
            generalize ((x / 2 ^ (64 * 3 + (j + 1)) * y % m) + (x / 2 ^ (64 * 3 + (j + 1)) * y % m)) % m = z2 at *
            generalize x / 2 ^ (64 * 3 + (j + 1)) * y % m = z1 at *
            generalize (2 : Int) ^ j = be at *
            clear hb2 hg
            have hS0 := hS
            obtain ⟨hbw, ⟨rl, r0, r1, r2, r3, rf0, rf1, rf2, rf3⟩, ⟨ml, m0, m1, m2, m3⟩, hX, ⟨yl, y0, y1, y2, y3⟩, ⟨ol, o0, o1, o2, o3, of0, of1, of2, of3⟩⟩ := hS0
            go_wp2_with fail
            with_reducible refine Calls.mono (HI.out _) ?_
            clear hbw hX rl r0 r1 r2 r3 rf0 rf1 rf2 rf3 ml m0 m1 m2 m3 yl y0 y1 y2 y3 ol o0 o1 o2 o3 of0 of1 of2 of3
            rintro e w3 ⟨rfl, hb3⟩
            have hS3 := hS.call hb3
            clear hS hb3
            have hS0 := hS3
            obtain ⟨hbw, ⟨rl, r0, r1, r2, r3, rf0, rf1, rf2, rf3⟩, ⟨ml, m0, m1, m2, m3⟩, hX, ⟨yl, y0, y1, y2, y3⟩, ⟨ol, o0, o1, o2, o3, of0, of1, of2, of3⟩⟩ := hS0
            go_upto_region 11 with fail
            refine wp_world (fun W => MS w W nm nx ny no m x y z2) (hS3.store hnn z2) ?_
            clear hbw hX rl r0 r1 r2 r3 rf0 rf1 rf2 rf3 ml m0 m1 m2 m3 yl y0 y1 y2 y3 ol o0 o1 o2 o3 of0 of1 of2 of3 hS3
            intro w4 hS4
            have hS0 := hS4
            obtain ⟨hbw, ⟨rl, r0, r1, r2, r3, rf0, rf1, rf2, rf3⟩, ⟨ml, m0, m1, m2, m3⟩, hX, ⟨yl, y0, y1, y2, y3⟩, ⟨ol, o0, o1, o2, o3, of0, of1, of2, of3⟩⟩ := hS0
            have hxi := hX.c3
            clear hX
            go_wp2_with fail
            go_roundg j
            case measure => omega
            case rel =>
              refine ⟨by have := HG.out; omega, by first | rfl | exact congrArg _ hh, ?_⟩
              rw [← HV.out]; exact hS4
          · rw [hb2, Int.one_mul] at ha
            have HV : Hid ((((x / 2 ^ (64 * 3 + (j + 1)) * y % m) + (x / 2 ^ (64 * 3 + (j + 1)) * y % m)) % m + y) % m = (x / 2 ^ (64 * 3 + j) * y % m)) := mulbit_one (e := 64 * 3 + j) hb2
            have HI2 : Hid (∀ w, Calls Tryd.prog 18 #[.agg #[.int .u64 (L 0 m), .int .u64 (L 1 m), .int .u64 (L 2 m), .int .u64 (L 3 m)], .agg #[.int .u64 (L 0 (((x / 2 ^ (64 * 3 + (j + 1)) * y % m) + (x / 2 ^ (64 * 3 + (j + 1)) * y % m)) % m)), .int .u64 (L 1 (((x / 2 ^ (64 * 3 + (j + 1)) * y % m) + (x / 2 ^ (64 * 3 + (j + 1)) * y % m)) % m)), .int .u64 (L 2 (((x / 2 ^ (64 * 3 + (j + 1)) * y % m) + (x / 2 ^ (64 * 3 + (j + 1)) * y % m)) % m)), .int .u64 (L 3 (((x / 2 ^ (64 * 3 + (j + 1)) * y % m) + (x / 2 ^ (64 * 3 + (j + 1)) * y % m)) % m))], .agg #[.int .u64 (L 0 y), .int .u64 (L 1 y), .int .u64 (L 2 y), .int .u64 (L 3 y)]] w fun e w' => e = .returned (.agg #[.int .u64 (L 0 ((((x / 2 ^ (64 * 3 + (j + 1)) * y % m) + (x / 2 ^ (64 * 3 + (j + 1)) * y % m)) % m + y) % m)), .int .u64 (L 1 ((((x / 2 ^ (64 * 3 + (j + 1)) * y % m) + (x / 2 ^ (64 * 3 + (j + 1)) * y % m)) % m + y) % m)), .int .u64 (L 2 ((((x / 2 ^ (64 * 3 + (j + 1)) * y % m) + (x / 2 ^ (64 * 3 + (j + 1)) * y % m)) % m + y) % m)), .int .u64 (L 3 ((((x / 2 ^ (64 * 3 + (j + 1)) * y % m) + (x / 2 ^ (64 * 3 + (j + 1)) * y % m)) % m + y) % m))]) ∧ Below w.heap.size w w') := fun w => HPL.out _ _ w (Int.emod_nonneg _ (by have := HM.out; omega)) (Int.emod_lt_of_pos _ HM.out) HY.out.1 HY.out.2
            have hbe : ((2 : Int) ^ j == 0) = false := beq_eq_false_iff_ne.2 (by omega)
            generalize (((x / 2 ^ (64 * 3 + (j + 1)) * y % m) + (x / 2 ^ (64 * 3 + (j + 1)) * y % m)) % m + y) % m = z3 at *
            generalize ((x / 2 ^ (64 * 3 + (j + 1)) * y % m) + (x / 2 ^ (64 * 3 + (j + 1)) * y % m)) % m = z2 at *
            generalize x / 2 ^ (64 * 3 + (j + 1)) * y % m = z1 at *
            generalize (2 : Int) ^ j = be at *
            clear hb2 hg
            have hS0 := hS
            obtain ⟨hbw, ⟨rl, r0, r1, r2, r3, rf0, rf1, rf2, rf3⟩, ⟨ml, m0, m1, m2, m3⟩, hX, ⟨yl, y0, y1, y2, y3⟩, ⟨ol, o0, o1, o2, o3, of0, of1, of2, of3⟩⟩ := hS0
            go_wp2_with fail
            with_reducible refine Calls.mono (HI.out _) ?_
            clear hbw hX rl r0 r1 r2 r3 rf0 rf1 rf2 rf3 ml m0 m1 m2 m3 yl y0 y1 y2 y3 ol o0 o1 o2 o3 of0 of1 of2 of3
            rintro e w3 ⟨rfl, hb3⟩
            have hS3 := hS.call hb3
            clear hS hb3
            have hS0 := hS3
            obtain ⟨hbw, ⟨rl, r0, r1, r2, r3, rf0, rf1, rf2, rf3⟩, ⟨ml, m0, m1, m2, m3⟩, hX, ⟨yl, y0, y1, y2, y3⟩, ⟨ol, o0, o1, o2, o3, of0, of1, of2, of3⟩⟩ := hS0
            go_upto_region 11 with fail
            refine wp_world (fun W => MS w W nm nx ny no m x y z2) (hS3.store hnn z2) ?_
            clear hbw hX rl r0 r1 r2 r3 rf0 rf1 rf2 rf3 ml m0 m1 m2 m3 yl y0 y1 y2 y3 ol o0 o1 o2 o3 of0 of1 of2 of3 hS3
            intro w4 hS4
            have hS0 := hS4
            obtain ⟨hbw, ⟨rl, r0, r1, r2, r3, rf0, rf1, rf2, rf3⟩, ⟨ml, m0, m1, m2, m3⟩, hX, ⟨yl, y0, y1, y2, y3⟩, ⟨ol, o0, o1, o2, o3, of0, of1, of2, of3⟩⟩ := hS0
            have hxi := hX.c3
            clear hX
            have hX := hxi
            go_wp2_with fail
            with_reducible refine Calls.mono (HI2.out _) ?_
            clear hbw hX rl r0 r1 r2 r3 rf0 rf1 rf2 rf3 ml m0 m1 m2 m3 yl y0 y1 y2 y3 ol o0 o1 o2 o3 of0 of1 of2 of3 hxi
            rintro e w5 ⟨rfl, hb5⟩
            have hS5 := hS4.call hb5
            clear hS4 hb5
            have hS0 := hS5
            obtain ⟨hbw, ⟨rl, r0, r1, r2, r3, rf0, rf1, rf2, rf3⟩, ⟨ml, m0, m1, m2, m3⟩, hX, ⟨yl, y0, y1, y2, y3⟩, ⟨ol, o0, o1, o2, o3, of0, of1, of2, of3⟩⟩ := hS0
            clear hX
            go_wp2_with fail
            go_roundg j
            case measure => omega
            case rel =>
              refine ⟨by have := HG.out; omega, by first | rfl | exact congrArg _ hh, ?_⟩
              rw [← HV.out]; exact hS5.store hnn z3
    · clear hS1
      have HXI : Hid (∀ e : Nat, e < 64 → bits .and .u64 (L 2 x) (2 ^ e) = x / 2 ^ (64 * 2 + e) % 2 * 2 ^ e) := fun e he => by rw [and_bit _ _ (L_lo _ _) (L_hi _ _) he, word_bit x 2 e he]
      go_wp2_with fail
      go_loopg [12] 64 (fun g s9 wr => g ≤ 64 ∧ s9 = .int .u64 (bw g) ∧ MS w wr nm nx ny no m x y (x / 2 ^ (64 * 2 + g) * y % m))
      case atStart => exact ⟨Nat.le_refl _, rfl, hS⟩
      case round =>
        clear hS
        obtain ⟨hg, rfl, hS⟩ := hrel
        cases gk with
        | zero =>
          rw [bw_zero]
          go_wp2_with fail
          go_roundg 2
          case measure => omega
          case rel => exact Or.inr (Or.inr (Or.inl ⟨rfl, rfl, hS⟩))
        | succ j =>
          have hp := pow_lt64 j (by omega)
          have HI : Hid (∀ w, Calls Tryd.prog 18 #[.agg #[.int .u64 (L 0 m), .int .u64 (L 1 m), .int .u64 (L 2 m), .int .u64 (L 3 m)], .agg #[.int .u64 (L 0 (x / 2 ^ (64 * 2 + (j + 1)) * y % m)), .int .u64 (L 1 (x / 2 ^ (64 * 2 + (j + 1)) * y % m)), .int .u64 (L 2 (x / 2 ^ (64 * 2 + (j + 1)) * y % m)), .int .u64 (L 3 (x / 2 ^ (64 * 2 + (j + 1)) * y % m))], .agg #[.int .u64 (L 0 (x / 2 ^ (64 * 2 + (j + 1)) * y % m)), .int .u64 (L 1 (x / 2 ^ (64 * 2 + (j + 1)) * y % m)), .int .u64 (L 2 (x / 2 ^ (64 * 2 + (j + 1)) * y % m)), .int .u64 (L 3 (x / 2 ^ (64 * 2 + (j + 1)) * y % m))]] w fun e w' => e = .returned (.agg #[.int .u64 (L 0 (((x / 2 ^ (64 * 2 + (j + 1)) * y % m) + (x / 2 ^ (64 * 2 + (j + 1)) * y % m)) % m)), .int .u64 (L 1 (((x / 2 ^ (64 * 2 + (j + 1)) * y % m) + (x / 2 ^ (64 * 2 + (j + 1)) * y % m)) % m)), .int .u64 (L 2 (((x / 2 ^ (64 * 2 + (j + 1)) * y % m) + (x / 2 ^ (64 * 2 + (j + 1)) * y % m)) % m)), .int .u64 (L 3 (((x / 2 ^ (64 * 2 + (j + 1)) * y % m) + (x / 2 ^ (64 * 2 + (j + 1)) * y % m)) % m))]) ∧ Below w.heap.size w w') := fun w => HPL.out _ _ w (Int.emod_nonneg _ (by have := HM.out; omega)) (Int.emod_lt_of_pos _ HM.out) (Int.emod_nonneg _ (by have := HM.out; omega)) (Int.emod_lt_of_pos _ HM.out)
          have hh := bw_half j
          have ha := HXI.out j (by omega)
          have hb2 : x / 2 ^ (64 * 2 + j) % 2 = 0 ∨ x / 2 ^ (64 * 2 + j) % 2 = 1 := by omega
          have HG : Hid (j + 1 ≤ 64) := hg
          rw [bw_succ]
          rcases hb2 with hb2 | hb2
          · rw [hb2, Int.zero_mul] at ha
            have HV : Hid (((x / 2 ^ (64 * 2 + (j + 1)) * y % m) + (x / 2 ^ (64 * 2 + (j + 1)) * y % m)) % m = (x / 2 ^ (64 * 2 + j) * y % m)) := mulbit_none (e := 64 * 2 + j) hb2
            generalize ((x / 2 ^ (64 * 2 + (j + 1)) * y % m) + (x / 2 ^ (64 * 2 + (j + 1)) * y % m)) % m = z2 at *
            generalize x / 2 ^ (64 * 2 + (j + 1)) * y % m = z1 at *
            generalize (2 : Int) ^ j = be at *
            clear hb2 hg
            have hS0 := hS
            obtain ⟨hbw, ⟨rl, r0, r1, r2, r3, rf0, rf1, rf2, rf3⟩, ⟨ml, m0, m1, m2, m3⟩, hX, ⟨yl, y0, y1, y2, y3⟩, ⟨ol, o0, o1, o2, o3, of0, of1, of2, of3⟩⟩ := hS0
            go_wp2_with fail
            with_reducible refine Calls.mono (HI.out _) ?_
            clear hbw hX rl r0 r1 r2 r3 rf0 rf1 rf2 rf3 ml m0 m1 m2 m3 yl y0 y1 y2 y3 ol o0 o1 o2 o3 of0 of1 of2 of3
            rintro e w3 ⟨rfl, hb3⟩
            have hS3 := hS.call hb3
            clear hS hb3
            have hS0 := hS3
            obtain ⟨hbw, ⟨rl, r0, r1, r2, r3, rf0, rf1, rf2, rf3⟩, ⟨ml, m0, m1, m2, m3⟩, hX, ⟨yl, y0, y1, y2, y3⟩, ⟨ol, o0, o1, o2, o3, of0, of1, of2, of3⟩⟩ := hS0
            go_upto_region 11 with fail
            refine wp_world (fun W => MS w W nm nx ny no m x y z2) (hS3.store hnn z2) ?_
            clear hbw hX rl r0 r1 r2 r3 rf0 rf1 rf2 rf3 ml m0 m1 m2 m3 yl y0 y1 y2 y3 ol o0 o1 o2 o3 of0 of1 of2 of3 hS3
            intro w4 hS4
            have hS0 := hS4
            obtain ⟨hbw, ⟨rl, r0, r1, r2, r3, rf0, rf1, rf2, rf3⟩, ⟨ml, m0, m1, m2, m3⟩, hX, ⟨yl, y0, y1, y2, y3⟩, ⟨ol, o0, o1, o2, o3, of0, of1, of2, of3⟩⟩ := hS0
            have hxi := hX.c2
            clear hX
            go_wp2_with fail
            go_roundg j
            case measure => omega
            case rel =>
              refine ⟨by have := HG.out; omega, by first | rfl | exact congrArg _ hh, ?_⟩
              rw [← HV.out]; exact hS4
          · rw [hb2, Int.one_mul] at ha
            have HV : Hid ((((x / 2 ^ (64 * 2 + (j + 1)) * y % m) + (x / 2 ^ (64 * 2 + (j + 1)) * y % m)) % m + y) % m = (x / 2 ^ (64 * 2 + j) * y % m)) := mulbit_one (e := 64 * 2 + j) hb2
            have HI2 : Hid (∀ w, Calls Tryd.prog 18 #[.agg #[.int .u64 (L 0 m), .int .u64 (L 1 m), .int .u64 (L 2 m), .int .u64 (L 3 m)], .agg #[.int .u64 (L 0 (((x / 2 ^ (64 * 2 + (j + 1)) * y % m) + (x / 2 ^ (64 * 2 + (j + 1)) * y % m)) % m)), .int .u64 (L 1 (((x / 2 ^ (64 * 2 + (j + 1)) * y % m) + (x / 2 ^ (64 * 2 + (j + 1)) * y % m)) % m)), .int .u64 (L 2 (((x / 2 ^ (64 * 2 + (j + 1)) * y % m) + (x / 2 ^ (64 * 2 + (j + 1)) * y % m)) % m)), .int .u64 (L 3 (((x / 2 ^ (64 * 2 + (j + 1)) * y % m) + (x / 2 ^ (64 * 2 + (j + 1)) * y % m)) % m))], .agg #[.int .u64 (L 0 y), .int .u64 (L 1 y), .int .u64 (L 2 y), .int .u64 (L 3 y)]] w fun e w' => e = .returned (.agg #[.int .u64 (L 0 ((((x / 2 ^ (64 * 2 + (j + 1)) * y % m) + (x / 2 ^ (64 * 2 + (j + 1)) * y % m)) % m + y) % m)), .int .u64 (L 1 ((((x / 2 ^ (64 * 2 + (j + 1)) * y % m) + (x / 2 ^ (64 * 2 + (j + 1)) * y % m)) % m + y) % m)), .int .u64 (L 2 ((((x / 2 ^ (64 * 2 + (j + 1)) * y % m) + (x / 2 ^ (64 * 2 + (j + 1)) * y % m)) % m + y) % m)), .int .u64 (L 3 ((((x / 2 ^ (64 * 2 + (j + 1)) * y % m) + (x / 2 ^ (64 * 2 + (j + 1)) * y % m)) % m + y) % m))]) ∧ Below w.heap.size w w') := fun w => HPL.out _ _ w (Int.emod_nonneg _ (by have := HM.out; omega)) (Int.emod_lt_of_pos _ HM.out) HY.out.1 HY.out.2
            have hbe : ((2 : Int) ^ j == 0) = false := beq_eq_false_iff_ne.2 (by omega)
            generalize (((x / 2 ^ (64 * 2 + (j + 1)) * y % m) + (x / 2 ^ (64 * 2 + (j + 1)) * y % m)) % m + y) % m = z3 at *
            generalize ((x / 2 ^ (64 * 2 + (j + 1)) * y % m) + (x / 2 ^ (64 * 2 + (j + 1)) * y % m)) % m = z2 at *
            generalize x / 2 ^ (64 * 2 + (j + 1)) * y % m = z1 at *
            generalize (2 : Int) ^ j = be at *
            clear hb2 hg
            have hS0 := hS
            obtain ⟨hbw, ⟨rl, r0, r1, r2, r3, rf0, rf1, rf2, rf3⟩, ⟨ml, m0, m1, m2, m3⟩, hX, ⟨yl, y0, y1, y2, y3⟩, ⟨ol, o0, o1, o2, o3, of0, of1, of2, of3⟩⟩ := hS0
            go_wp2_with fail
            with_reducible refine Calls.mono (HI.out _) ?_
            clear hbw hX rl r0 r1 r2 r3 rf0 rf1 rf2 rf3 ml m0 m1 m2 m3 yl y0 y1 y2 y3 ol o0 o1 o2 o3 of0 of1 of2 of3
            rintro e w3 ⟨rfl, hb3⟩
            have hS3 := hS.call hb3
            clear hS hb3
            have hS0 := hS3
            obtain ⟨hbw, ⟨rl, r0, r1, r2, r3, rf0, rf1, rf2, rf3⟩, ⟨ml, m0, m1, m2, m3⟩, hX, ⟨yl, y0, y1, y2, y3⟩, ⟨ol, o0, o1, o2, o3, of0, of1, of2, of3⟩⟩ := hS0
            go_upto_region 11 with fail
            refine wp_world (fun W => MS w W nm nx ny no m x y z2) (hS3.store hnn z2) ?_
            clear hbw hX rl r0 r1 r2 r3 rf0 rf1 rf2 rf3 ml m0 m1 m2 m3 yl y0 y1 y2 y3 ol o0 o1 o2 o3 of0 of1 of2 of3 hS3
            intro w4 hS4
            have hS0 := hS4
            obtain ⟨hbw, ⟨rl, r0, r1, r2, r3, rf0, rf1, rf2, rf3⟩, ⟨ml, m0, m1, m2, m3⟩, hX, ⟨yl, y0, y1, y2, y3⟩, ⟨ol, o0, o1, o2, o3, of0, of1, of2, of3⟩⟩ := hS0
            have hxi := hX.c2
            clear hX
            have hX := hxi
            go_wp2_with fail
            with_reducible refine Calls.mono (HI2.out _) ?_
            clear hbw hX rl r0 r1 r2 r3 rf0 rf1 rf2 rf3 ml m0 m1 m2 m3 yl y0 y1 y2 y3 ol o0 o1 o2 o3 of0 of1 of2 of3 hxi
            rintro e w5 ⟨rfl, hb5⟩
            have hS5 := hS4.call hb5
            clear hS4 hb5
            have hS0 := hS5
            obtain ⟨hbw, ⟨rl, r0, r1, r2, r3, rf0, rf1, rf2, rf3⟩, ⟨ml, m0, m1, m2, m3⟩, hX, ⟨yl, y0, y1, y2, y3⟩, ⟨ol, o0, o1, o2, o3, of0, of1, of2, of3⟩⟩ := hS0
            clear hX
            go_wp2_with fail
            go_roundg j
            case measure => omega
            case rel =>
              refine ⟨by have := HG.out; omega, by first | rfl | exact congrArg _ hh, ?_⟩
              rw [← HV.out]; exact hS5.store hnn z3
    · clear hS1
      have HXI : Hid (∀ e : Nat, e < 64 → bits .and .u64 (L 1 x) (2 ^ e) = x / 2 ^ (64 * 1 + e) % 2 * 2 ^ e) := fun e he => by rw [and_bit _ _ (L_lo _ _) (L_hi _ _) he, word_bit x 1 e he]
      go_wp2_with fail
      go_loopg [12] 64 (fun g s9 wr => g ≤ 64 ∧ s9 = .int .u64 (bw g) ∧ MS w wr nm nx ny no m x y (x / 2 ^ (64 * 1 + g) * y % m))
      case atStart => exact ⟨Nat.le_refl _, rfl, hS⟩
      case round =>
        clear hS
        obtain ⟨hg, rfl, hS⟩ := hrel
        cases gk with
        | zero =>
          rw [bw_zero]
          go_wp2_with fail
          go_roundg 1
          case measure => omega
          case rel => exact Or.inr (Or.inr (Or.inr (Or.inl ⟨rfl, rfl, hS⟩)))
        | succ j =>
          have hp := pow_lt64 j (by omega)
          have HI : Hid (∀ w, Calls Tryd.prog 18 #[.agg #[.int .u64 (L 0 m), .int .u64 (L 1 m), .int .u64 (L 2 m), .int .u64 (L 3 m)], .agg #[.int .u64 (L 0 (x / 2 ^ (64 * 1 + (j + 1)) * y % m)), .int .u64 (L 1 (x / 2 ^ (64 * 1 + (j + 1)) * y % m)), .int .u64 (L 2 (x / 2 ^ (64 * 1 + (j + 1)) * y % m)), .int .u64 (L 3 (x / 2 ^ (64 * 1 + (j + 1)) * y % m))], .agg #[.int .u64 (L 0 (x / 2 ^ (64 * 1 + (j + 1)) * y % m)), .int .u64 (L 1 (x / 2 ^ (64 * 1 + (j + 1)) * y % m)), .int .u64 (L 2 (x / 2 ^ (64 * 1 + (j + 1)) * y % m)), .int .u64 (L 3 (x / 2 ^ (64 * 1 + (j + 1)) * y % m))]] w fun e w' => e = .returned (.agg #[.int .u64 (L 0 (((x / 2 ^ (64 * 1 + (j + 1)) * y % m) + (x / 2 ^ (64 * 1 + (j + 1)) * y % m)) % m)), .int .u64 (L 1 (((x / 2 ^ (64 * 1 + (j + 1)) * y % m) + (x / 2 ^ (64 * 1 + (j + 1)) * y % m)) % m)), .int .u64 (L 2 (((x / 2 ^ (64 * 1 + (j + 1)) * y % m) + (x / 2 ^ (64 * 1 + (j + 1)) * y % m)) % m)), .int .u64 (L 3 (((x / 2 ^ (64 * 1 + (j + 1)) * y % m) + (x / 2 ^ (64 * 1 + (j + 1)) * y % m)) % m))]) ∧ Below w.heap.size w w') := fun w => HPL.out _ _ w (Int.emod_nonneg _ (by have := HM.out; omega)) (Int.emod_lt_of_pos _ HM.out) (Int.emod_nonneg _ (by have := HM.out; omega)) (Int.emod_lt_of_pos _ HM.out)
          have hh := bw_half j
          have ha := HXI.out j (by omega)
          have hb2 : x / 2 ^ (64 * 1 + j) % 2 = 0 ∨ x / 2 ^ (64 * 1 + j) % 2 = 1 := by omega
          have HG : Hid (j + 1 ≤ 64) := hg
          rw [bw_succ]
          rcases hb2 with hb2 | hb2
          · rw [hb2, Int.zero_mul] at ha
            have HV : Hid (((x / 2 ^ (64 * 1 + (j + 1)) * y % m) + (x / 2 ^ (64 * 1 + (j + 1)) * y % m)) % m = (x / 2 ^ (64 * 1 + j) * y % m)) := mulbit_none (e := 64 * 1 + j) hb2
            generalize ((x / 2 ^ (64 * 1 + (j + 1)) * y % m) + (x / 2 ^ (64 * 1 + (j + 1)) * y % m)) % m = z2 at *
            generalize x / 2 ^ (64 * 1 + (j + 1)) * y % m = z1 at *
            generalize (2 : Int) ^ j = be at *
            clear hb2 hg
            have hS0 := hS
            obtain ⟨hbw, ⟨rl, r0, r1, r2, r3, rf0, rf1, rf2, rf3⟩, ⟨ml, m0, m1, m2, m3⟩, hX, ⟨yl, y0, y1, y2, y3⟩, ⟨ol, o0, o1, o2, o3, of0, of1, of2, of3⟩⟩ := hS0
            go_wp2_with fail
            with_reducible refine Calls.mono (HI.out _) ?_
            clear hbw hX rl r0 r1 r2 r3 rf0 rf1 rf2 rf3 ml m0 m1 m2 m3 yl y0 y1 y2 y3 ol o0 o1 o2 o3 of0 of1 of2 of3
            rintro e w3 ⟨rfl, hb3⟩
            have hS3 := hS.call hb3
            clear hS hb3
            have hS0 := hS3
            obtain ⟨hbw, ⟨rl, r0, r1, r2, r3, rf0, rf1, rf2, rf3⟩, ⟨ml, m0, m1, m2, m3⟩, hX, ⟨yl, y0, y1, y2, y3⟩, ⟨ol, o0, o1, o2, o3, of0, of1, of2, of3⟩⟩ := hS0
            go_upto_region 11 with fail
            refine wp_world (fun W => MS w W nm nx ny no m x y z2) (hS3.store hnn z2) ?_
            clear hbw hX rl r0 r1 r2 r3 rf0 rf1 rf2 rf3 ml m0 m1 m2 m3 yl y0 y1 y2 y3 ol o0 o1 o2 o3 of0 of1 of2 of3 hS3
            intro w4 hS4
            have hS0 := hS4
            obtain ⟨hbw, ⟨rl, r0, r1, r2, r3, rf0, rf1, rf2, rf3⟩, ⟨ml, m0, m1, m2, m3⟩, hX, ⟨yl, y0, y1, y2, y3⟩, ⟨ol, o0, o1, o2, o3, of0, of1, of2, of3⟩⟩ := hS0
            have hxi := hX.c1
            clear hX
            go_wp2_with fail
            go_roundg j
            case measure => omega
            case rel =>
              refine ⟨by have := HG.out; omega, by first | rfl | exact congrArg _ hh, ?_⟩
              rw [← HV.out]; exact hS4
          · rw [hb2, Int.one_mul] at ha
            have HV : Hid ((((x / 2 ^ (64 * 1 + (j + 1)) * y % m) + (x / 2 ^ (64 * 1 + (j + 1)) * y % m)) % m + y) % m = (x / 2 ^ (64 * 1 + j) * y % m)) := mulbit_one (e := 64 * 1 + j) hb2
            have HI2 : Hid (∀ w, Calls Tryd.prog 18 #[.agg #[.int .u64 (L 0 m), .int .u64 (L 1 m), .int .u64 (L 2 m), .int .u64 (L 3 m)], .agg #[.int .u64 (L 0 (((x / 2 ^ (64 * 1 + (j + 1)) * y % m) + (x / 2 ^ (64 * 1 + (j + 1)) * y % m)) % m)), .int .u64 (L 1 (((x / 2 ^ (64 * 1 + (j + 1)) * y % m) + (x / 2 ^ (64 * 1 + (j + 1)) * y % m)) % m)), .int .u64 (L 2 (((x / 2 ^ (64 * 1 + (j + 1)) * y % m) + (x / 2 ^ (64 * 1 + (j + 1)) * y % m)) % m)), .int .u64 (L 3 (((x / 2 ^ (64 * 1 + (j + 1)) * y % m) + (x / 2 ^ (64 * 1 + (j + 1)) * y % m)) % m))], .agg #[.int .u64 (L 0 y), .int .u64 (L 1 y), .int .u64 (L 2 y), .int .u64 (L 3 y)]] w fun e w' => e = .returned (.agg #[.int .u64 (L 0 ((((x / 2 ^ (64 * 1 + (j + 1)) * y % m) + (x / 2 ^ (64 * 1 + (j + 1)) * y % m)) % m + y) % m)), .int .u64 (L 1 ((((x / 2 ^ (64 * 1 + (j + 1)) * y % m) + (x / 2 ^ (64 * 1 + (j + 1)) * y % m)) % m + y) % m)), .int .u64 (L 2 ((((x / 2 ^ (64 * 1 + (j + 1)) * y % m) + (x / 2 ^ (64 * 1 + (j + 1)) * y % m)) % m + y) % m)), .int .u64 (L 3 ((((x / 2 ^ (64 * 1 + (j + 1)) * y % m) + (x / 2 ^ (64 * 1 + (j + 1)) * y % m)) % m + y) % m))]) ∧ Below w.heap.size w w') := fun w => HPL.out _ _ w (Int.emod_nonneg _ (by have := HM.out; omega)) (Int.emod_lt_of_pos _ HM.out) HY.out.1 HY.out.2
            have hbe : ((2 : Int) ^ j == 0) = false := beq_eq_false_iff_ne.2 (by omega)
            generalize (((x / 2 ^ (64 * 1 + (j + 1)) * y % m) + (x / 2 ^ (64 * 1 + (j + 1)) * y % m)) % m + y) % m = z3 at *
            generalize ((x / 2 ^ (64 * 1 + (j + 1)) * y % m) + (x / 2 ^ (64 * 1 + (j + 1)) * y % m)) % m = z2 at *
            generalize x / 2 ^ (64 * 1 + (j + 1)) * y % m = z1 at *
            generalize (2 : Int) ^ j = be at *
            clear hb2 hg
            have hS0 := hS
            obtain ⟨hbw, ⟨rl, r0, r1, r2, r3, rf0, rf1, rf2, rf3⟩, ⟨ml, m0, m1, m2, m3⟩, hX, ⟨yl, y0, y1, y2, y3⟩, ⟨ol, o0, o1, o2, o3, of0, of1, of2, of3⟩⟩ := hS0
            go_wp2_with fail
            with_reducible refine Calls.mono (HI.out _) ?_
            clear hbw hX rl r0 r1 r2 r3 rf0 rf1 rf2 rf3 ml m0 m1 m2 m3 yl y0 y1 y2 y3 ol o0 o1 o2 o3 of0 of1 of2 of3
            rintro e w3 ⟨rfl, hb3⟩
            have hS3 := hS.call hb3
            clear hS hb3
            have hS0 := hS3
            obtain ⟨hbw, ⟨rl, r0, r1, r2, r3, rf0, rf1, rf2, rf3⟩, ⟨ml, m0, m1, m2, m3⟩, hX, ⟨yl, y0, y1, y2, y3⟩, ⟨ol, o0, o1, o2, o3, of0, of1, of2, of3⟩⟩ := hS0
            go_upto_region 11 with fail
            refine wp_world (fun W => MS w W nm nx ny no m x y z2) (hS3.store hnn z2) ?_
            clear hbw hX rl r0 r1 r2 r3 rf0 rf1 rf2 rf3 ml m0 m1 m2 m3 yl y0 y1 y2 y3 ol o0 o1 o2 o3 of0 of1 of2 of3 hS3
            intro w4 hS4
            have hS0 := hS4
            obtain ⟨hbw, ⟨rl, r0, r1, r2, r3, rf0, rf1, rf2, rf3⟩, ⟨ml, m0, m1, m2, m3⟩, hX, ⟨yl, y0, y1, y2, y3⟩, ⟨ol, o0, o1, o2, o3, of0, of1, of2, of3⟩⟩ := hS0
            have hxi := hX.c1
            clear hX
            have hX := hxi
            go_wp2_with fail
            with_reducible refine Calls.mono (HI2.out _) ?_
            clear hbw hX rl r0 r1 r2 r3 rf0 rf1 rf2 rf3 ml m0 m1 m2 m3 yl y0 y1 y2 y3 ol o0 o1 o2 o3 of0 of1 of2 of3 hxi
            rintro e w5 ⟨rfl, hb5⟩
            have hS5 := hS4.call hb5
            clear hS4 hb5
            have hS0 := hS5
            obtain ⟨hbw, ⟨rl, r0, r1, r2, r3, rf0, rf1, rf2, rf3⟩, ⟨ml, m0, m1, m2, m3⟩, hX, ⟨yl, y0, y1, y2, y3⟩, ⟨ol, o0, o1, o2, o3, of0, of1, of2, of3⟩⟩ := hS0
            clear hX
            go_wp2_with fail
            go_roundg j
            case measure => omega
            case rel =>
              refine ⟨by have := HG.out; omega, by first | rfl | exact congrArg _ hh, ?_⟩
              rw [← HV.out]; exact hS5.store hnn z3
    · clear hS1
      have HXI : Hid (∀ e : Nat, e < 64 → bits .and .u64 (L 0 x) (2 ^ e) = x / 2 ^ (64 * 0 + e) % 2 * 2 ^ e) := fun e he => by rw [and_bit _ _ (L_lo _ _) (L_hi _ _) he, word_bit x 0 e he]
      go_wp2_with fail
      go_loopg [12] 64 (fun g s9 wr => g ≤ 64 ∧ s9 = .int .u64 (bw g) ∧ MS w wr nm nx ny no m x y (x / 2 ^ (64 * 0 + g) * y % m))
      case atStart => exact ⟨Nat.le_refl _, rfl, hS⟩
      case round =>
        clear hS
        obtain ⟨hg, rfl, hS⟩ := hrel
        cases gk with
        | zero =>
          rw [bw_zero]
          go_wp2_with fail
          go_roundg 0
          case measure => omega
          case rel => exact Or.inr (Or.inr (Or.inr (Or.inr (⟨rfl, rfl, hS⟩))))
        | succ j =>
          have hp := pow_lt64 j (by omega)
          have HI : Hid (∀ w, Calls Tryd.prog 18 #[.agg #[.int .u64 (L 0 m), .int .u64 (L 1 m), .int .u64 (L 2 m), .int .u64 (L 3 m)], .agg #[.int .u64 (L 0 (x / 2 ^ (64 * 0 + (j + 1)) * y % m)), .int .u64 (L 1 (x / 2 ^ (64 * 0 + (j + 1)) * y % m)), .int .u64 (L 2 (x / 2 ^ (64 * 0 + (j + 1)) * y % m)), .int .u64 (L 3 (x / 2 ^ (64 * 0 + (j + 1)) * y % m))], .agg #[.int .u64 (L 0 (x / 2 ^ (64 * 0 + (j + 1)) * y % m)), .int .u64 (L 1 (x / 2 ^ (64 * 0 + (j + 1)) * y % m)), .int .u64 (L 2 (x / 2 ^ (64 * 0 + (j + 1)) * y % m)), .int .u64 (L 3 (x / 2 ^ (64 * 0 + (j + 1)) * y % m))]] w fun e w' => e = .returned (.agg #[.int .u64 (L 0 (((x / 2 ^ (64 * 0 + (j + 1)) * y % m) + (x / 2 ^ (64 * 0 + (j + 1)) * y % m)) % m)), .int .u64 (L 1 (((x / 2 ^ (64 * 0 + (j + 1)) * y % m) + (x / 2 ^ (64 * 0 + (j + 1)) * y % m)) % m)), .int .u64 (L 2 (((x / 2 ^ (64 * 0 + (j + 1)) * y % m) + (x / 2 ^ (64 * 0 + (j + 1)) * y % m)) % m)), .int .u64 (L 3 (((x / 2 ^ (64 * 0 + (j + 1)) * y % m) + (x / 2 ^ (64 * 0 + (j + 1)) * y % m)) % m))]) ∧ Below w.heap.size w w') := fun w => HPL.out _ _ w (Int.emod_nonneg _ (by have := HM.out; omega)) (Int.emod_lt_of_pos _ HM.out) (Int.emod_nonneg _ (by have := HM.out; omega)) (Int.emod_lt_of_pos _ HM.out)
          have hh := bw_half j
          have ha := HXI.out j (by omega)
          have hb2 : x / 2 ^ (64 * 0 + j) % 2 = 0 ∨ x / 2 ^ (64 * 0 + j) % 2 = 1 := by omega
          have HG : Hid (j + 1 ≤ 64) := hg
          rw [bw_succ]
          rcases hb2 with hb2 | hb2
          · rw [hb2, Int.zero_mul] at ha
            have HV : Hid (((x / 2 ^ (64 * 0 + (j + 1)) * y % m) + (x / 2 ^ (64 * 0 + (j + 1)) * y % m)) % m = (x / 2 ^ (64 * 0 + j) * y % m)) := mulbit_none (e := 64 * 0 + j) hb2
            generalize ((x / 2 ^ (64 * 0 + (j + 1)) * y % m) + (x / 2 ^ (64 * 0 + (j + 1)) * y % m)) % m = z2 at *
            generalize x / 2 ^ (64 * 0 + (j + 1)) * y % m = z1 at *
            generalize (2 : Int) ^ j = be at *
            clear hb2 hg
            have hS0 := hS
            obtain ⟨hbw, ⟨rl, r0, r1, r2, r3, rf0, rf1, rf2, rf3⟩, ⟨ml, m0, m1, m2, m3⟩, hX, ⟨yl, y0, y1, y2, y3⟩, ⟨ol, o0, o1, o2, o3, of0, of1, of2, of3⟩⟩ := hS0
            go_wp2_with fail
            with_reducible refine Calls.mono (HI.out _) ?_
            clear hbw hX rl r0 r1 r2 r3 rf0 rf1 rf2 rf3 ml m0 m1 m2 m3 yl y0 y1 y2 y3 ol o0 o1 o2 o3 of0 of1 of2 of3
            rintro e w3 ⟨rfl, hb3⟩
            have hS3 := hS.call hb3
            clear hS hb3
            have hS0 := hS3
            obtain ⟨hbw, ⟨rl, r0, r1, r2, r3, rf0, rf1, rf2, rf3⟩, ⟨ml, m0, m1, m2, m3⟩, hX, ⟨yl, y0, y1, y2, y3⟩, ⟨ol, o0, o1, o2, o3, of0, of1, of2, of3⟩⟩ := hS0
            go_upto_region 11 with fail
            refine wp_world (fun W => MS w W nm nx ny no m x y z2) (hS3.store hnn z2) ?_
            clear hbw hX rl r0 r1 r2 r3 rf0 rf1 rf2 rf3 ml m0 m1 m2 m3 yl y0 y1 y2 y3 ol o0 o1 o2 o3 of0 of1 of2 of3 hS3
            intro w4 hS4
            have hS0 := hS4
            obtain ⟨hbw, ⟨rl, r0, r1, r2, r3, rf0, rf1, rf2, rf3⟩, ⟨ml, m0, m1, m2, m3⟩, hX, ⟨yl, y0, y1, y2, y3⟩, ⟨ol, o0, o1, o2, o3, of0, of1, of2, of3⟩⟩ := hS0
            have hxi := hX.c0
            clear hX
            go_wp2_with fail
            go_roundg j
            case measure => omega
            case rel =>
              refine ⟨by have := HG.out; omega, by first | rfl | exact congrArg _ hh, ?_⟩
              rw [← HV.out]; exact hS4
          · rw [hb2, Int.one_mul] at ha
            have HV : Hid ((((x / 2 ^ (64 * 0 + (j + 1)) * y % m) + (x / 2 ^ (64 * 0 + (j + 1)) * y % m)) % m + y) % m = (x / 2 ^ (64 * 0 + j) * y % m)) := mulbit_one (e := 64 * 0 + j) hb2
            have HI2 : Hid (∀ w, Calls Tryd.prog 18 #[.agg #[.int .u64 (L 0 m), .int .u64 (L 1 m), .int .u64 (L 2 m), .int .u64 (L 3 m)], .agg #[.int .u64 (L 0 (((x / 2 ^ (64 * 0 + (j + 1)) * y % m) + (x / 2 ^ (64 * 0 + (j + 1)) * y % m)) % m)), .int .u64 (L 1 (((x / 2 ^ (64 * 0 + (j + 1)) * y % m) + (x / 2 ^ (64 * 0 + (j + 1)) * y % m)) % m)), .int .u64 (L 2 (((x / 2 ^ (64 * 0 + (j + 1)) * y % m) + (x / 2 ^ (64 * 0 + (j + 1)) * y % m)) % m)), .int .u64 (L 3 (((x / 2 ^ (64 * 0 + (j + 1)) * y % m) + (x / 2 ^ (64 * 0 + (j + 1)) * y % m)) % m))], .agg #[.int .u64 (L 0 y), .int .u64 (L 1 y), .int .u64 (L 2 y), .int .u64 (L 3 y)]] w fun e w' => e = .returned (.agg #[.int .u64 (L 0 ((((x / 2 ^ (64 * 0 + (j + 1)) * y % m) + (x / 2 ^ (64 * 0 + (j + 1)) * y % m)) % m + y) % m)), .int .u64 (L 1 ((((x / 2 ^ (64 * 0 + (j + 1)) * y % m) + (x / 2 ^ (64 * 0 + (j + 1)) * y % m)) % m + y) % m)), .int .u64 (L 2 ((((x / 2 ^ (64 * 0 + (j + 1)) * y % m) + (x / 2 ^ (64 * 0 + (j + 1)) * y % m)) % m + y) % m)), .int .u64 (L 3 ((((x / 2 ^ (64 * 0 + (j + 1)) * y % m) + (x / 2 ^ (64 * 0 + (j + 1)) * y % m)) % m + y) % m))]) ∧ Below w.heap.size w w') := fun w => HPL.out _ _ w (Int.emod_nonneg _ (by have := HM.out; omega)) (Int.emod_lt_of_pos _ HM.out) HY.out.1 HY.out.2
            have hbe : ((2 : Int) ^ j == 0) = false := beq_eq_false_iff_ne.2 (by omega)
            generalize (((x / 2 ^ (64 * 0 + (j + 1)) * y % m) + (x / 2 ^ (64 * 0 + (j + 1)) * y % m)) % m + y) % m = z3 at *
            generalize ((x / 2 ^ (64 * 0 + (j + 1)) * y % m) + (x / 2 ^ (64 * 0 + (j + 1)) * y % m)) % m = z2 at *
            generalize x / 2 ^ (64 * 0 + (j + 1)) * y % m = z1 at *
            generalize (2 : Int) ^ j = be at *
            clear hb2 hg
            have hS0 := hS
            obtain ⟨hbw, ⟨rl, r0, r1, r2, r3, rf0, rf1, rf2, rf3⟩, ⟨ml, m0, m1, m2, m3⟩, hX, ⟨yl, y0, y1, y2, y3⟩, ⟨ol, o0, o1, o2, o3, of0, of1, of2, of3⟩⟩ := hS0
            go_wp2_with fail
            with_reducible refine Calls.mono (HI.out _) ?_
            clear hbw hX rl r0 r1 r2 r3 rf0 rf1 rf2 rf3 ml m0 m1 m2 m3 yl y0 y1 y2 y3 ol o0 o1 o2 o3 of0 of1 of2 of3
            rintro e w3 ⟨rfl, hb3⟩
            have hS3 := hS.call hb3
            clear hS hb3
            have hS0 := hS3
            obtain ⟨hbw, ⟨rl, r0, r1, r2, r3, rf0, rf1, rf2, rf3⟩, ⟨ml, m0, m1, m2, m3⟩, hX, ⟨yl, y0, y1, y2, y3⟩, ⟨ol, o0, o1, o2, o3, of0, of1, of2, of3⟩⟩ := hS0
            go_upto_region 11 with fail
            refine wp_world (fun W => MS w W nm nx ny no m x y z2) (hS3.store hnn z2) ?_
            clear hbw hX rl r0 r1 r2 r3 rf0 rf1 rf2 rf3 ml m0 m1 m2 m3 yl y0 y1 y2 y3 ol o0 o1 o2 o3 of0 of1 of2 of3 hS3
            intro w4 hS4
            have hS0 := hS4
            obtain ⟨hbw, ⟨rl, r0, r1, r2, r3, rf0, rf1, rf2, rf3⟩, ⟨ml, m0, m1, m2, m3⟩, hX, ⟨yl, y0, y1, y2, y3⟩, ⟨ol, o0, o1, o2, o3, of0, of1, of2, of3⟩⟩ := hS0
            have hxi := hX.c0
            clear hX
            have hX := hxi
            go_wp2_with fail
            with_reducible refine Calls.mono (HI2.out _) ?_
            clear hbw hX rl r0 r1 r2 r3 rf0 rf1 rf2 rf3 ml m0 m1 m2 m3 yl y0 y1 y2 y3 ol o0 o1 o2 o3 of0 of1 of2 of3 hxi
            rintro e w5 ⟨rfl, hb5⟩
            have hS5 := hS4.call hb5
            clear hS4 hb5
            have hS0 := hS5
            obtain ⟨hbw, ⟨rl, r0, r1, r2, r3, rf0, rf1, rf2, rf3⟩, ⟨ml, m0, m1, m2, m3⟩, hX, ⟨yl, y0, y1, y2, y3⟩, ⟨ol, o0, o1, o2, o3, of0, of1, of2, of3⟩⟩ := hS0
            clear hX
            go_wp2_with fail
            go_roundg j
            case measure => omega
            case rel =>
              refine ⟨by have := HG.out; omega, by first | rfl | exact congrArg _ hh, ?_⟩
              rw [← HV.out]; exact hS5.store hnn z3
    · have e0 : x / 2 ^ (64 * 0 + 0) * y % m = x * y % m := by simp
      rw [e0] at hS
      have hS0 := hS
      obtain ⟨hbw, ⟨rl, r0, r1, r2, r3, rf0, rf1, rf2, rf3⟩, ⟨ml, m0, m1, m2, m3⟩, hX, ⟨yl, y0, y1, y2, y3⟩, ⟨ol, o0, o1, o2, o3, of0, of1, of2, of3⟩⟩ := hS0
      go_wp2_with fail
      exact bodyPost_ret (v := .agg #[.int .u64 (L 0 (x * y % m)), .int .u64 (L 1 (x * y % m)), .int .u64 (L 2 (x * y % m)), .int .u64 (L 3 (x * y % m))]) (by simp [results, Tryd.results8, go_sem, r0, r1, r2, r3]) rfl ⟨rfl, K.set4 hS.below (by omega) _ _ _ _⟩

theorem ref_mulf_any {k a b : Int} (hk : 0 ≤ k ∧ k ≤ 3) (ha : Num a) (hb : Num b) (w : World) :
    Calls Tryd.prog 8 #[.int .i64 k, .agg #[.int .u64 (L 0 a), .int .u64 (L 1 a), .int .u64 (L 2 a), .int .u64 (L 3 a)], .agg #[.int .u64 (L 0 b), .int .u64 (L 1 b), .int .u64 (L 2 b), .int .u64 (L 3 b)]] w fun e w' => e = .returned (.agg #[.int .u64 (L 0 (a * b % md k)), .int .u64 (L 1 (a * b % md k)), .int .u64 (L 2 (a * b % md k)), .int .u64 (L 3 (a * b % md k))]) ∧ Below w.heap.size w w' := by
  have hm := md_pos hk
  have hl := md_odd hk
  have h := ref_mulf_walk (k := k) (a := a) (b := b) (x := a % md k) (y := b % md k) (m := md k) w hm ⟨Int.emod_nonneg _ (by omega), Int.emod_lt_of_pos _ hm⟩ ?_
    (fun a b w h1 h2 h3 h4 => ref_plus_any (md_num k) h1 h2 h3 h4 w) (fun w => ref_mod_any k w) (fun w => ref_fold_any ha hm hl w) (fun w => ref_fold_any hb hm hl w)
  · rw [← Int.mul_emod] at h
    exact h
  · show _ = _
    have e : a % md k / 2 ^ (64 * 3 + 64) = 0 := Int.ediv_eq_zero_of_lt (Int.emod_nonneg _ (by omega)) (by
      have h1 := Int.emod_lt_of_pos a hm
      have h2 := (md_num k).hi
      unfold M at h2
      rw [show (2 : Int) ^ (64 * 3 + 64) = 115792089237316195423570985008687907853269984665640564039457584007913129639936 by decide +kernel]
      omega)
    rw [e, Int.zero_mul, Int.zero_emod]
end Go.Proofs.YtolehamdaceikabDoor
