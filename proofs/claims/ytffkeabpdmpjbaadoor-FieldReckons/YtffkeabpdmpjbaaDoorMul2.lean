/- What limb.Mul answers, for all numbers: the eight words of the product. -/
import Derived.Test.YtffkeabpdmpjbaaDoorMul1
import Derived.Test.YtffkeabpdmpjbaaDoorMulVal
import Derived.Deep.DeepCutAuto
import Derived.Deep.RegionWith
namespace Go.Proofs.YtffkeabpdmpjbaaDoor
open Go.RowKit
attribute [local go_sem ↓] Go.wp_at_zero Go.wp_at_succ

/-- The region ends in one way. -/
def Only (A : Act) (W : World) : Exit → Act → World → Prop
  | .normal, a, w => a = A ∧ w = W
  | _, _, _ => False
theorem Only.intro (A : Act) (W : World) : Only A W .normal A W := ⟨rfl, rfl⟩
theorem Only.out {A : Act} {W : World} {Q : Exit → Act → World → Prop} (h : Q .normal A W) : ∀ e a w, Only A W e a w → Q e a w := by
  intro e a w hq
  cases e <;> first | exact (hq : False).elim | (obtain ⟨rfl, rfl⟩ := hq; exact h)

/-- A word. -/
structure Word (x : Int) : Prop where
  lo : 0 ≤ x
  hi : x < 18446744073709551616
theorem Word.hiW {x y c d : Int} (hx : Word x) (hy : Word y) (hc : Word c) (hd : Word d) : Word (hiW x y c d) :=
  ⟨hiW_lo _ _ _ _ hx.lo hy.lo hc.lo hd.lo, hiW_hi _ _ _ _ hx.lo hx.hi hy.lo hy.hi hc.hi hd.hi⟩
theorem Word.loW (x y c d : Int) : Word (loW x y c d) := ⟨loW_lo _ _ _ _, loW_hi _ _ _ _⟩
theorem Word.zero : Word 0 := ⟨by omega, by omega⟩
theorem mulAdd_told {x y c d : Int} (hx : Word x) (hy : Word y) (hc : Word c) (hd : Word d) (w : World) :
    Calls Tryd.prog 41 #[.int .u64 x, .int .u64 y, .int .u64 c, .int .u64 d] w fun e w' => e = .returned (.tuple #[.int .u64 (hiW x y c d), .int .u64 (loW x y c d)]) ∧ w' = w :=
  mulAdd_any x y c d hx.lo hx.hi hy.lo hy.hi hc.lo hc.hi hd.lo hd.hi w

set_option maxHeartbeats 8000000 in
theorem mul_walk (a0 a1 a2 a3 b0 b1 b2 b3 : Int) (ha0 : Word a0) (ha1 : Word a1) (ha2 : Word a2) (ha3 : Word a3) (hb0 : Word b0) (hb1 : Word b1) (hb2 : Word b2) (hb3 : Word b3) (w : World) :
    Calls Tryd.prog 38 #[.agg #[.int .u64 a0, .int .u64 a1, .int .u64 a2, .int .u64 a3], .agg #[.int .u64 b0, .int .u64 b1, .int .u64 b2, .int .u64 b3]] w fun e w' =>
      ∃ p0 p1 p2 p3 p4 p5 p6 p7 : Int, Word p0 ∧ Word p1 ∧ Word p2 ∧ Word p3 ∧ Word p4 ∧ Word p5 ∧ Word p6 ∧ Word p7 ∧ (p0 + 18446744073709551616 * p1 + 340282366920938463463374607431768211456 * p2 + 6277101735386680763835789423207666416102355444464034512896 * p3 + 115792089237316195423570985008687907853269984665640564039457584007913129639936 * p4 + 2135987035920910082395021706169552114602704522356652769947041607822219725780640550022962086936576 * p5 + 39402006196394479212279040100143613805079739270465446667948293404245721771497210611414266254884915640806627990306816 * p6 + 726838724295606890549323807888004534353641360687318060281490199180639288113397923326191050713763565560762521606266177933534601628614656 * p7 = (a0 + 18446744073709551616 * a1 + 340282366920938463463374607431768211456 * a2 + 6277101735386680763835789423207666416102355444464034512896 * a3) * (b0 + 18446744073709551616 * b1 + 340282366920938463463374607431768211456 * b2 + 6277101735386680763835789423207666416102355444464034512896 * b3)) ∧ e = .returned (.agg #[.int .u64 p0, .int .u64 p1, .int .u64 p2, .int .u64 p3, .int .u64 p4, .int .u64 p5, .int .u64 p6, .int .u64 p7]) ∧ Below w.heap.size w w' := by
  go_enter Tryd.func38, Tryd.ntmps38
  go_wp2
  refine wp_loop_rounds 5 ?_
  rw [rounds_succ]
  go_wp2
  refine wp_loop_rounds 5 ?_
  rw [rounds_succ]
  go_upto_region 9 with fail
  apply wp_mono (Q := Only _ _)
  · go_region_with (go_at_call 41; with_reducible refine Calls.mono (mulAdd_told ha0 hb0 Word.zero Word.zero _) ?_; rintro e w' ⟨rfl, rfl⟩)
    all_goals exact Only.intro _ _
  refine Only.out ?_
  have Wh00 := Word.hiW ha0 hb0 Word.zero Word.zero
  have Wl00 := Word.loW a0 b0 0 0
  have e00 : Hid _ := hilo a0 b0 0 0
  generalize hiW a0 b0 0 0 = h00 at *
  generalize loW a0 b0 0 0 = l00 at *
  go_wp2
  rw [rounds_succ]
  go_upto_region 9 with fail
  apply wp_mono (Q := Only _ _)
  · go_region_with (go_at_call 41; with_reducible refine Calls.mono (mulAdd_told ha0 hb1 Word.zero Wh00 _) ?_; rintro e w' ⟨rfl, rfl⟩)
    all_goals exact Only.intro _ _
  refine Only.out ?_
  have Wh01 := Word.hiW ha0 hb1 Word.zero Wh00
  have Wl01 := Word.loW a0 b1 0 h00
  have e01 : Hid _ := hilo a0 b1 0 h00
  generalize hiW a0 b1 0 h00 = h01 at *
  generalize loW a0 b1 0 h00 = l01 at *
  go_wp2
  rw [rounds_succ]
  go_upto_region 9 with fail
  apply wp_mono (Q := Only _ _)
  · go_region_with (go_at_call 41; with_reducible refine Calls.mono (mulAdd_told ha0 hb2 Word.zero Wh01 _) ?_; rintro e w' ⟨rfl, rfl⟩)
    all_goals exact Only.intro _ _
  refine Only.out ?_
  have Wh02 := Word.hiW ha0 hb2 Word.zero Wh01
  have Wl02 := Word.loW a0 b2 0 h01
  have e02 : Hid _ := hilo a0 b2 0 h01
  generalize hiW a0 b2 0 h01 = h02 at *
  generalize loW a0 b2 0 h01 = l02 at *
  go_wp2
  rw [rounds_succ]
  go_upto_region 9 with fail
  apply wp_mono (Q := Only _ _)
  · go_region_with (go_at_call 41; with_reducible refine Calls.mono (mulAdd_told ha0 hb3 Word.zero Wh02 _) ?_; rintro e w' ⟨rfl, rfl⟩)
    all_goals exact Only.intro _ _
  refine Only.out ?_
  have Wh03 := Word.hiW ha0 hb3 Word.zero Wh02
  have Wl03 := Word.loW a0 b3 0 h02
  have e03 : Hid _ := hilo a0 b3 0 h02
  generalize hiW a0 b3 0 h02 = h03 at *
  generalize loW a0 b3 0 h02 = l03 at *
  go_wp2
  rw [rounds_succ]
  go_wp2
  rw [rounds_succ]
  go_wp2
  refine wp_loop_rounds 5 ?_
  rw [rounds_succ]
  go_upto_region 9 with fail
  apply wp_mono (Q := Only _ _)
  · go_region_with (go_at_call 41; with_reducible refine Calls.mono (mulAdd_told ha1 hb0 Wl01 Word.zero _) ?_; rintro e w' ⟨rfl, rfl⟩)
    all_goals exact Only.intro _ _
  refine Only.out ?_
  have Wh10 := Word.hiW ha1 hb0 Wl01 Word.zero
  have Wl10 := Word.loW a1 b0 l01 0
  have e10 : Hid _ := hilo a1 b0 l01 0
  generalize hiW a1 b0 l01 0 = h10 at *
  generalize loW a1 b0 l01 0 = l10 at *
  go_wp2
  rw [rounds_succ]
  go_upto_region 9 with fail
  apply wp_mono (Q := Only _ _)
  · go_region_with (go_at_call 41; with_reducible refine Calls.mono (mulAdd_told ha1 hb1 Wl02 Wh10 _) ?_; rintro e w' ⟨rfl, rfl⟩)
    all_goals exact Only.intro _ _
  refine Only.out ?_
  have Wh11 := Word.hiW ha1 hb1 Wl02 Wh10
  have Wl11 := Word.loW a1 b1 l02 h10
  have e11 : Hid _ := hilo a1 b1 l02 h10
  generalize hiW a1 b1 l02 h10 = h11 at *
  generalize loW a1 b1 l02 h10 = l11 at *
  go_wp2
  rw [rounds_succ]
  go_upto_region 9 with fail
  apply wp_mono (Q := Only _ _)
  · go_region_with (go_at_call 41; with_reducible refine Calls.mono (mulAdd_told ha1 hb2 Wl03 Wh11 _) ?_; rintro e w' ⟨rfl, rfl⟩)
    all_goals exact Only.intro _ _
  refine Only.out ?_
  have Wh12 := Word.hiW ha1 hb2 Wl03 Wh11
  have Wl12 := Word.loW a1 b2 l03 h11
  have e12 : Hid _ := hilo a1 b2 l03 h11
  generalize hiW a1 b2 l03 h11 = h12 at *
  generalize loW a1 b2 l03 h11 = l12 at *
  go_wp2
  rw [rounds_succ]
  go_upto_region 9 with fail
  apply wp_mono (Q := Only _ _)
  · go_region_with (go_at_call 41; with_reducible refine Calls.mono (mulAdd_told ha1 hb3 Wh03 Wh12 _) ?_; rintro e w' ⟨rfl, rfl⟩)
    all_goals exact Only.intro _ _
  refine Only.out ?_
  have Wh13 := Word.hiW ha1 hb3 Wh03 Wh12
  have Wl13 := Word.loW a1 b3 h03 h12
  have e13 : Hid _ := hilo a1 b3 h03 h12
  generalize hiW a1 b3 h03 h12 = h13 at *
  generalize loW a1 b3 h03 h12 = l13 at *
  go_wp2
  rw [rounds_succ]
  go_wp2
  rw [rounds_succ]
  go_wp2
  refine wp_loop_rounds 5 ?_
  rw [rounds_succ]
  go_upto_region 9 with fail
  apply wp_mono (Q := Only _ _)
  · go_region_with (go_at_call 41; with_reducible refine Calls.mono (mulAdd_told ha2 hb0 Wl11 Word.zero _) ?_; rintro e w' ⟨rfl, rfl⟩)
    all_goals exact Only.intro _ _
  refine Only.out ?_
  have Wh20 := Word.hiW ha2 hb0 Wl11 Word.zero
  have Wl20 := Word.loW a2 b0 l11 0
  have e20 : Hid _ := hilo a2 b0 l11 0
  generalize hiW a2 b0 l11 0 = h20 at *
  generalize loW a2 b0 l11 0 = l20 at *
  go_wp2
  rw [rounds_succ]
  go_upto_region 9 with fail
  apply wp_mono (Q := Only _ _)
  · go_region_with (go_at_call 41; with_reducible refine Calls.mono (mulAdd_told ha2 hb1 Wl12 Wh20 _) ?_; rintro e w' ⟨rfl, rfl⟩)
    all_goals exact Only.intro _ _
  refine Only.out ?_
  have Wh21 := Word.hiW ha2 hb1 Wl12 Wh20
  have Wl21 := Word.loW a2 b1 l12 h20
  have e21 : Hid _ := hilo a2 b1 l12 h20
  generalize hiW a2 b1 l12 h20 = h21 at *
  generalize loW a2 b1 l12 h20 = l21 at *
  go_wp2
  rw [rounds_succ]
  go_upto_region 9 with fail
  apply wp_mono (Q := Only _ _)
  · go_region_with (go_at_call 41; with_reducible refine Calls.mono (mulAdd_told ha2 hb2 Wl13 Wh21 _) ?_; rintro e w' ⟨rfl, rfl⟩)
    all_goals exact Only.intro _ _
  refine Only.out ?_
  have Wh22 := Word.hiW ha2 hb2 Wl13 Wh21
  have Wl22 := Word.loW a2 b2 l13 h21
  have e22 : Hid _ := hilo a2 b2 l13 h21
  generalize hiW a2 b2 l13 h21 = h22 at *
  generalize loW a2 b2 l13 h21 = l22 at *
  go_wp2
  rw [rounds_succ]
  go_upto_region 9 with fail
  apply wp_mono (Q := Only _ _)
  · go_region_with (go_at_call 41; with_reducible refine Calls.mono (mulAdd_told ha2 hb3 Wh13 Wh22 _) ?_; rintro e w' ⟨rfl, rfl⟩)
    all_goals exact Only.intro _ _
  refine Only.out ?_
  have Wh23 := Word.hiW ha2 hb3 Wh13 Wh22
  have Wl23 := Word.loW a2 b3 h13 h22
  have e23 : Hid _ := hilo a2 b3 h13 h22
  generalize hiW a2 b3 h13 h22 = h23 at *
  generalize loW a2 b3 h13 h22 = l23 at *
  go_wp2
  rw [rounds_succ]
  go_wp2
  rw [rounds_succ]
  go_wp2
  refine wp_loop_rounds 5 ?_
  rw [rounds_succ]
  go_upto_region 9 with fail
  apply wp_mono (Q := Only _ _)
  · go_region_with (go_at_call 41; with_reducible refine Calls.mono (mulAdd_told ha3 hb0 Wl21 Word.zero _) ?_; rintro e w' ⟨rfl, rfl⟩)
    all_goals exact Only.intro _ _
  refine Only.out ?_
  have Wh30 := Word.hiW ha3 hb0 Wl21 Word.zero
  have Wl30 := Word.loW a3 b0 l21 0
  have e30 : Hid _ := hilo a3 b0 l21 0
  generalize hiW a3 b0 l21 0 = h30 at *
  generalize loW a3 b0 l21 0 = l30 at *
  go_wp2
  rw [rounds_succ]
  go_upto_region 9 with fail
  apply wp_mono (Q := Only _ _)
  · go_region_with (go_at_call 41; with_reducible refine Calls.mono (mulAdd_told ha3 hb1 Wl22 Wh30 _) ?_; rintro e w' ⟨rfl, rfl⟩)
    all_goals exact Only.intro _ _
  refine Only.out ?_
  have Wh31 := Word.hiW ha3 hb1 Wl22 Wh30
  have Wl31 := Word.loW a3 b1 l22 h30
  have e31 : Hid _ := hilo a3 b1 l22 h30
  generalize hiW a3 b1 l22 h30 = h31 at *
  generalize loW a3 b1 l22 h30 = l31 at *
  go_wp2
  rw [rounds_succ]
  go_upto_region 9 with fail
  apply wp_mono (Q := Only _ _)
  · go_region_with (go_at_call 41; with_reducible refine Calls.mono (mulAdd_told ha3 hb2 Wl23 Wh31 _) ?_; rintro e w' ⟨rfl, rfl⟩)
    all_goals exact Only.intro _ _
  refine Only.out ?_
  have Wh32 := Word.hiW ha3 hb2 Wl23 Wh31
  have Wl32 := Word.loW a3 b2 l23 h31
  have e32 : Hid _ := hilo a3 b2 l23 h31
  generalize hiW a3 b2 l23 h31 = h32 at *
  generalize loW a3 b2 l23 h31 = l32 at *
  go_wp2
  rw [rounds_succ]
  go_upto_region 9 with fail
  apply wp_mono (Q := Only _ _)
  · go_region_with (go_at_call 41; with_reducible refine Calls.mono (mulAdd_told ha3 hb3 Wh23 Wh32 _) ?_; rintro e w' ⟨rfl, rfl⟩)
    all_goals exact Only.intro _ _
  refine Only.out ?_
  have Wh33 := Word.hiW ha3 hb3 Wh23 Wh32
  have Wl33 := Word.loW a3 b3 h23 h32
  have e33 : Hid _ := hilo a3 b3 h23 h32
  generalize hiW a3 b3 h23 h32 = h33 at *
  generalize loW a3 b3 h23 h32 = l33 at *
  go_wp2
  rw [rounds_succ]
  go_wp2
  rw [rounds_succ]
  go_wp2
  go_returns
  refine ⟨l00, l10, l20, l30, l31, l32, l33, h33, Wl00, Wl10, Wl20, Wl30, Wl31, Wl32, Wl33, Wh33, mul_val e00.out e01.out e02.out e03.out e10.out e11.out e12.out e13.out e20.out e21.out e22.out e23.out e30.out e31.out e32.out e33.out, rfl, ?_⟩
  repeat' (first | exact Below.refl _ _ | refine K.drew ?_ | refine K.alloc ?_ _)
end Go.Proofs.YtffkeabpdmpjbaaDoor
