/- What the document's own Fold answers: a number modulo each modulus. -/
import Derived.Test.YtolehamdaceikabDoorM20
import Derived.Deep.LoopGhost
namespace Go.Proofs.YtolehamdaceikabDoor
open Go.RowKit
attribute [local go_sem ↓] Go.wp_at_zero Go.wp_at_succ
attribute [local go_sem] eq4

/-- What the loop keeps: the number, the place of the answer, the modulus. -/
structure FoldS (w wr : World) (n : Nat) (x m : Int) : Prop where
  below : Below w.heap.size w wr
  X : ArrW wr (w.heap.size) (L 0 x) (L 1 x) (L 2 x) (L 3 x)
  R : ArrW wr (w.heap.size + 1) 0 0 0 0
  D : Arr wr n (L 0 m) (L 1 m) (L 2 m) (L 3 m)
theorem FoldS.call {w wr w1 : World} {n : Nat} {x m : Int} (h : FoldS w wr n x m) (hk : Below wr.heap.size wr w1) : FoldS w w1 n x m :=
  ⟨K.call h.below hk, h.X.keep hk, h.R.keep hk, h.D.keep hk⟩
theorem FoldS.alloc {w wr : World} {n : Nat} {x m : Int} (h : FoldS w wr n x m) (o : Obj) : FoldS w (wr.alloc o) n x m :=
  ⟨K.alloc h.below o, h.X.alloc o, h.R.alloc o, h.D.alloc o⟩
theorem FoldS.store {w wr : World} {n : Nat} {x m : Int} (h : FoldS w wr n x m) (hn : w.heap.size + 1 < n) (y : Int) : FoldS w ((((wr.setCell ⟨w.heap.size, 0, none⟩ (.int .u64 (L 0 y))).setCell ⟨w.heap.size, 1, none⟩ (.int .u64 (L 1 y))).setCell ⟨w.heap.size, 2, none⟩ (.int .u64 (L 2 y))).setCell ⟨w.heap.size, 3, none⟩ (.int .u64 (L 3 y))) n y m :=
  ⟨K.set4 h.below (Nat.le_refl _) _ _ _ _, h.X.stored _ _ _ _, h.R.set4 (by omega) _ _ _ _, h.D.set4 (by omega) _ _ _ _⟩

set_option maxHeartbeats 4000000 in
theorem ref_fold_any {k a : Int} (ha : Num a) (hm : 0 < md k) (hl : (L 0 (md k) == 0) = false) (w : World) :
    Calls Tryd.prog 17 #[.int .i64 k, .agg #[.int .u64 (L 0 a), .int .u64 (L 1 a), .int .u64 (L 2 a), .int .u64 (L 3 a)]] w fun e w' => e = .returned (.agg #[.int .u64 (L 0 (a % md k)), .int .u64 (L 1 (a % md k)), .int .u64 (L 2 (a % md k)), .int .u64 (L 3 (a % md k))]) ∧ Below w.heap.size w w' := by
  have nm := md_num k
  go_enter Tryd.func17, Tryd.ntmps17
  go_wp2_with fail
  with_reducible refine Calls.mono (ref_mod_any k _) ?_
  rintro e w1 ⟨rfl, hb1⟩
  have A1 := ((ArrW.new w (w.heap.size) rfl 24 (L 0 a) (L 1 a) (L 2 a) (L 3 a)).alloc _).keep hb1
  have R1 := (ArrW.new _ (w.heap.size + 1) (by simp) 24 0 0 0 0).keep hb1
  have hw1 : Below w.heap.size w w1 := K.call (K.alloc (K.alloc (Below.refl _ w) _) _) hb1
  have hS1 : FoldS w (w1.alloc (.cells #[.int .u64 (L 0 (md k)), .int .u64 (L 1 (md k)), .int .u64 (L 2 (md k)), .int .u64 (L 3 (md k))] 24)) w1.heap.size a (md k) := ⟨K.alloc hw1 _, A1.alloc _, R1.alloc _, Arr.new w1 w1.heap.size rfl 24 _ _ _ _⟩
  have hn : w.heap.size + 1 < w1.heap.size := R1.lt
  clear A1 R1 hw1 hb1
  generalize hmd : md k = m at *
  have HM : Hid (md k = m) := hmd
  clear hmd
  go_wp2_with fail
  go_loopg [] a.toNat (fun g wr => ∃ x : Int, g = x.toNat ∧ Num x ∧ x % m = a % m ∧ FoldS w wr w1.heap.size x m)
  case atStart => exact ⟨a, rfl, ha, rfl, hS1⟩
  case round =>
    obtain ⟨x, hg, nx, hxm, hS⟩ := hrel
    have HG : Hid (gk = x.toNat) := hg
    have HX : Hid (x % m = a % m) := hxm
    clear hg hxm hS1
    have hS0 := hS
    obtain ⟨hbw, ⟨xl, x0, x1, x2, x3, xf0, xf1, xf2, xf3⟩, ⟨rl, r0, r1, r2, r3, rf0, rf1, rf2, rf3⟩, ⟨ml, m0, m1, m2, m3⟩⟩ := hS0
    by_cases hlt : x < m
    · have HE : Hid (x = a % m) := by rw [← HX.out]; exact (Int.emod_eq_of_lt nx.lo hlt).symm
      go_wp2_with fail
      with_reducible refine Calls.mono (less_true nx nm (by omega) _) ?_
      clear hbw xl x0 x1 x2 x3 xf0 xf1 xf2 xf3 rl r0 r1 r2 r3 rf0 rf1 rf2 rf3 ml m0 m1 m2 m3
      rintro e w2 ⟨rfl, hb2⟩
      have hS2 := hS.call hb2
      clear hS hb2
      have hS0 := hS2
      obtain ⟨hbw, ⟨xl, x0, x1, x2, x3, xf0, xf1, xf2, xf3⟩, ⟨rl, r0, r1, r2, r3, rf0, rf1, rf2, rf3⟩, ⟨ml, m0, m1, m2, m3⟩⟩ := hS0
      go_wp2_with fail
      refine bodyPost_ret (v := .agg #[.int .u64 (L 0 x), .int .u64 (L 1 x), .int .u64 (L 2 x), .int .u64 (L 3 x)]) (by simp [results, Tryd.results17, go_sem, r0, r1, r2, r3]) rfl ⟨?_, K.set4 hS2.below (by omega) _ _ _ _⟩
      rw [HM.out, ← HE.out]
    · go_wp2_with fail
      with_reducible refine Calls.mono (less_false nx nm (by omega) _) ?_
      clear hbw xl x0 x1 x2 x3 xf0 xf1 xf2 xf3 rl r0 r1 r2 r3 rf0 rf1 rf2 rf3 ml m0 m1 m2 m3
      rintro e w2 ⟨rfl, hb2⟩
      have hS2 := hS.call hb2
      clear hS hb2
      have hS0 := hS2
      obtain ⟨hbw, ⟨xl, x0, x1, x2, x3, xf0, xf1, xf2, xf3⟩, ⟨rl, r0, r1, r2, r3, rf0, rf1, rf2, rf3⟩, ⟨ml, m0, m1, m2, m3⟩⟩ := hS0
      go_wp2_with fail
      with_reducible refine Calls.mono (ref_sub_walk x m _) ?_
      clear hbw xl x0 x1 x2 x3 xf0 xf1 xf2 xf3 rl r0 r1 r2 r3 rf0 rf1 rf2 rf3 ml m0 m1 m2 m3
      rintro e w3 ⟨rfl, hb3⟩
      have hS3 := hS2.call hb3
      clear hS2 hb3
      have hS0 := hS3
      obtain ⟨hbw, ⟨xl, x0, x1, x2, x3, xf0, xf1, xf2, xf3⟩, ⟨rl, r0, r1, r2, r3, rf0, rf1, rf2, rf3⟩, ⟨ml, m0, m1, m2, m3⟩⟩ := hS0
      go_wp2_with fail
      go_roundg (x - m).toNat
      case measure => rw [HG.out]; have := nx.lo; omega
      case rel => exact ⟨x - m, rfl, ⟨by omega, by have := nx.hi; omega⟩, by rw [Int.sub_emod_right]; exact HX.out, (hS3.store hn (x - m)).alloc _⟩
end Go.Proofs.YtolehamdaceikabDoor
