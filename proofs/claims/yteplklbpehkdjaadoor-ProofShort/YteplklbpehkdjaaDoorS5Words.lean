/- What the document's own words answers. -/
import Derived.Test.YteplklbpehkdjaaDoorS5K
import Derived.Deep.LoopGhost
import Derived.BigRegion
namespace Go.Proofs.YteplklbpehkdjaaDoor
set_option maxRecDepth 100000
open Go.RowKit
attribute [local go_sem ↓] Go.wp_at_zero Go.wp_at_succ
theorem wn_mod (x : Wd) : wn x % 4294967296 = wn x := by
  have := wn_nn x
  have := wn_lt x
  omega
theorem wn_add' (x y : Wd) : (wn x + wn y) % 4294967296 = wn (wadd x y) := by rw [← wn_add, IntKind.wrap_u32']
attribute [local go_sem] wn_add wn_xor wn_wrap wn_mod wn_add'

/-- The region ends in one way. -/
def Only (A : Act) (W : World) : Exit → Act → World → Prop
  | .normal, a, w => a = A ∧ w = W
  | _, _, _ => False
theorem Only.intro (A : Act) (W : World) : Only A W .normal A W := ⟨rfl, rfl⟩
theorem Only.out {A : Act} {W : World} {Q : Exit → Act → World → Prop} (h : Q .normal A W) : ∀ e a w, Only A W e a w → Q e a w := by
  intro e a w hq
  cases e <;> first | exact (hq : False).elim | (obtain ⟨rfl, rfl⟩ := hq; exact h)
/-- The words, as far as they are filled in. -/
def w1 (p : Nat → Nat) (t i j : Nat) : Wd := if j < t then wordP p j 4 else if j = t then wordP p t i else 0
def w2 (m : Nat → Wd) (t j : Nat) : Wd := if j < t then sched m j else 0
theorem zeros64 : (#[.int .u32 0, .int .u32 0, .int .u32 0, .int .u32 0, .int .u32 0, .int .u32 0, .int .u32 0, .int .u32 0, .int .u32 0, .int .u32 0, .int .u32 0, .int .u32 0, .int .u32 0, .int .u32 0, .int .u32 0, .int .u32 0, .int .u32 0, .int .u32 0, .int .u32 0, .int .u32 0, .int .u32 0, .int .u32 0, .int .u32 0, .int .u32 0, .int .u32 0, .int .u32 0, .int .u32 0, .int .u32 0, .int .u32 0, .int .u32 0, .int .u32 0, .int .u32 0, .int .u32 0, .int .u32 0, .int .u32 0, .int .u32 0, .int .u32 0, .int .u32 0, .int .u32 0, .int .u32 0, .int .u32 0, .int .u32 0, .int .u32 0, .int .u32 0, .int .u32 0, .int .u32 0, .int .u32 0, .int .u32 0, .int .u32 0, .int .u32 0, .int .u32 0, .int .u32 0, .int .u32 0, .int .u32 0, .int .u32 0, .int .u32 0, .int .u32 0, .int .u32 0, .int .u32 0, .int .u32 0, .int .u32 0, .int .u32 0, .int .u32 0, .int .u32 0] : Array Value) = (aw (fun _ => 0) 64).toArray := by kernel_rfl

theorem below_setCells {w w' : World} {b : Nat} : ∀ (vs : List Value) (o : Nat), Below w.heap.size w w' → w.heap.size ≤ b → Below w.heap.size w (w'.setCells b o vs) := by
  intro vs
  induction vs generalizing w' with
  | nil => intro o h _; exact h
  | cons v r ih => intro o h hb; rw [World.setCells]; exact ih (o + 1) (K.set h hb v) hb
set_option maxRecDepth 100000 in
set_option maxHeartbeats 8000000 in
theorem refWords_any {b o cap : Nat} {p : Nat → Nat} (hp : ∀ i, p i < 256) {w : World} (hD : Rd w b o 64 (fun i => ((p i : Nat) : Int))) :
    Calls Tryd.prog 30 #[.slice (some ⟨b, o, none⟩) 64 cap] w fun e w' => e = .returned (.agg (aw (sched (fun t => wordP p t 4)) 64).toArray) ∧ Below w.heap.size w w' := by
  have HP : Hid (∀ i, p i < 256) := hp
  have HD : Hid (Rd w b o 64 (fun i => ((p i : Nat) : Int))) := hD
  clear hp hD
  go_enter Tryd.func30, Tryd.ntmps30
  go_wp2_with fail
  go_loopg [4] 16 (fun g s4 wr => ∃ t : Nat, g = 16 - t ∧ t ≤ 16 ∧ s4 = .int .i64 t ∧ RowW wr w.heap.size 64 (fun _ => 0) ∧ RowW wr (w.heap.size + 1) 64 (w1 p t 0) ∧ Below w.heap.size w wr)
  case atStart => exact ⟨0, rfl, by omega, rfl, (RowW.made w _ 64 (fun _ => 0) _ zeros64).keep (K.alloc (Below.refl _ _) _), by
    have h := RowW.made (w.alloc (.cells (aw (fun _ => 0) 64).toArray 52)) 52 64 (w1 p 0 0) _ (zeros64.trans (by rw [aw_congr (g := w1 p 0 0) (fun i _ => by unfold w1; rw [if_neg (by omega)]; split <;> rfl)]))
    rw [← zeros64] at h
    simpa using h, K.alloc (K.alloc (Below.refl _ _) _) _⟩
  case round =>
    obtain ⟨t, rfl, ht, rfl, hR, hW, hB⟩ := hrel
    by_cases hlt : t < 16
    · have hti : (t : Int) < 16 := by omega
      have HT : Hid (t < 16) := hlt
      clear hlt ht
      go_wp2_with fail
      go_loopg [5] 4 (fun g s5 wr => ∃ i : Nat, g = 4 - i ∧ i ≤ 4 ∧ s5 = .int .i64 i ∧ RowW wr w.heap.size 64 (fun _ => 0) ∧ RowW wr (w.heap.size + 1) 64 (w1 p t i) ∧ Below w.heap.size w wr)
      case atStart => exact ⟨0, rfl, by omega, rfl, hR, hW, hB⟩
      case round =>
        clear hR hW hB
        obtain ⟨i, rfl, hi, rfl, hR, hW, hB⟩ := hrel
        by_cases hlt : i < 4
        · have hii : (i : Int) < 4 := by omega
          have hcW := hW.c t (by have := HT.out; omega)
          have hzW := hW.z t (by have := HT.out; omega)
          obtain ⟨m, hm⟩ : ∃ m, m = 4 * t + i := ⟨_, rfl⟩
          have hcb := (HD.out.keep hB).c m (by have := HT.out; omega)
          rw [← wn_of (p m) (by have := HP.out m; omega)] at hcb
          obtain ⟨y, hy⟩ : ∃ y : Wd, y = BitVec.ofNat 32 (p m) := ⟨_, rfl⟩
          rw [← hy] at hcb
          have hx : w1 p t i t = wordP p t i := by unfold w1; rw [if_neg (by omega), if_pos rfl]
          rw [hx] at hcW
          have HX : Hid (wadd (wmul (wordP p t i) 256) y = wordP p t (i + 1)) := by show _ = _; rw [hy, hm]; rfl
          obtain ⟨x, hx'⟩ : ∃ x : Wd, x = wordP p t i := ⟨_, rfl⟩
          rw [← hx'] at hcW HX
          have hmul : IntKind.u32.wrap (wn x * 256) = wn (wmul x 256) := wn_mul x 256
          have hmI : (4 : Int) * (t : Int) + (i : Int) = (m : Int) := by omega
          have hml : (m : Int) < 64 := by have := HT.out; omega
          have hmn : m < 64 := by omega
          have htn : t < 64 := by have := HT.out; omega
          have hw1 : IntKind.i64.wrap (4 * (t : Int)) = 4 * (t : Int) := by rw [IntKind.wrap_i64]; omega
          have hw2 : IntKind.i64.wrap (m : Int) = (m : Int) := by rw [IntKind.wrap_i64]; omega
          have HR : Hid (RowW wr w.heap.size 64 (fun _ => 0)) := hR
          have HW : Hid (RowW wr (w.heap.size + 1) 64 (w1 p t i)) := hW
          have HB : Hid (Below w.heap.size w wr) := hB
          have hbl := hW.lt
          have HI : Hid (i < 4) := hlt
          clear hR hW hB hm hy hx hx' hlt hi
          go_upto_region 8 with fail
          apply wp_mono (Q := Only _ _)
          · go_region
            all_goals exact Only.intro _ _
          refine Only.out ?_
          clear hcW hcb hzW
          go_wp2_with fail
          go_roundg (4 - (i + 1))
          case measure => have := HI.out; omega
          case rel => exact ⟨i + 1, rfl, by have := HI.out; omega, by go_num, (HR.out.keep (K.drew (Below.refl _ _))).other (by omega) t _, by
            have h := (HW.out.keep (K.drew (Below.refl _ _))).store t htn (wadd (wmul x 256) y)
            rw [HX.out] at h ⊢
            exact h.congr (fun j hj => by unfold w1; (repeat' split) <;> first | rfl | omega), K.set (K.drew HB.out) (by simp) _⟩
        · obtain rfl : i = 4 := by omega
          have HR : Hid (RowW wr w.heap.size 64 (fun _ => 0)) := hR
          have HW : Hid (RowW wr (w.heap.size + 1) 64 (w1 p t 4)) := hW
          have HB : Hid (Below w.heap.size w wr) := hB
          clear hR hW hB hlt hi
          go_wp2_with fail
          go_roundg (16 - (t + 1))
          case measure => have := HT.out; omega
          case rel => exact ⟨t + 1, rfl, by have := HT.out; omega, by go_num, HR.out, HW.out.congr (fun j hj => by unfold w1; (repeat' split) <;> first | rfl | omega | (congr 1; omega) | (subst_vars; rfl)), HB.out⟩
    · obtain rfl : t = 16 := by omega
      have HR : Hid (RowW wr w.heap.size 64 (fun _ => 0)) := hR
      have HW : Hid (RowW wr (w.heap.size + 1) 64 (w2 (fun t => wordP p t 4) 16)) := hW.congr (fun j hj => by unfold w1 w2; (repeat' split) <;> first | rfl | omega | (rw [sched_low _ (by assumption)]))
      have HB : Hid (Below w.heap.size w wr) := hB
      clear hR hW hB hlt ht HD
      obtain ⟨m, hm⟩ : ∃ m : Nat → Wd, m = fun t => wordP p t 4 := ⟨_, rfl⟩
      have HM : Hid (m = fun t => wordP p t 4) := hm
      rw [← hm] at HW
      clear hm
      go_wp2_with fail
      go_loopg [6] 48 (fun g s6 wr => ∃ t : Nat, g = 64 - t ∧ 16 ≤ t ∧ t ≤ 64 ∧ s6 = .int .i64 t ∧ RowW wr w.heap.size 64 (fun _ => 0) ∧ RowW wr (w.heap.size + 1) 64 (w2 m t) ∧ Below w.heap.size w wr)
      case atStart => exact ⟨16, rfl, by omega, by omega, rfl, HR.out, HW.out, HB.out⟩
      case round =>
        clear HR HW HB
        obtain ⟨t, rfl, h16, ht, rfl, hR, hW, hB⟩ := hrel
        by_cases hlt : t < 64
        · have c15 := hW.c (t - 15) (by omega)
          have c2 := hW.c (t - 2) (by omega)
          have c7 := hW.c (t - 7) (by omega)
          have c16 := hW.c (t - 16) (by omega)
          have ct := hW.c t hlt
          have zt := hW.z t hlt
          have e15 : w2 m t (t - 15) = sched m (t - 15) := by unfold w2; rw [if_pos (by omega)]
          have e2 : w2 m t (t - 2) = sched m (t - 2) := by unfold w2; rw [if_pos (by omega)]
          have e7 : w2 m t (t - 7) = sched m (t - 7) := by unfold w2; rw [if_pos (by omega)]
          have e16 : w2 m t (t - 16) = sched m (t - 16) := by unfold w2; rw [if_pos (by omega)]
          rw [e15] at c15
          rw [e2] at c2
          rw [e7] at c7
          rw [e16] at c16
          have HX : Hid (wadd (wadd (wadd (wxor (wxor (rotr (sched m (t - 2)) 17) (rotr (sched m (t - 2)) 19)) (wshr (sched m (t - 2)) 10)) (sched m (t - 7))) (wxor (wxor (rotr (sched m (t - 15)) 7) (rotr (sched m (t - 15)) 18)) (wshr (sched m (t - 15)) 3))) (sched m (t - 16)) = sched m t) := by
            exact (sched_up m (t := t) (by omega)).symm
          generalize sched m (t - 15) = x at *
          generalize sched m (t - 2) = y at *
          generalize sched m (t - 7) = u at *
          generalize sched m (t - 16) = v at *
          have i15 : (t : Int) - 15 = ((t - 15 : Nat) : Int) := by omega
          have i2 : (t : Int) - 2 = ((t - 2 : Nat) : Int) := by omega
          have i7 : (t : Int) - 7 = ((t - 7 : Nat) : Int) := by omega
          have i16 : (t : Int) - 16 = ((t - 16 : Nat) : Int) := by omega
          have b15 : t - 15 < 64 := by omega
          have b2 : t - 2 < 64 := by omega
          have b7 : t - 7 < 64 := by omega
          have b16 : t - 16 < 64 := by omega
          have hti : (t : Int) < 64 := by omega
          have HT : Hid (t < 64 ∧ 16 ≤ t) := ⟨hlt, h16⟩
          obtain ⟨t15, ht15⟩ : ∃ k, k = t - 15 := ⟨_, rfl⟩
          obtain ⟨t2, ht2⟩ : ∃ k, k = t - 2 := ⟨_, rfl⟩
          obtain ⟨t7, ht7⟩ : ∃ k, k = t - 7 := ⟨_, rfl⟩
          obtain ⟨t16, ht16⟩ : ∃ k, k = t - 16 := ⟨_, rfl⟩
          rw [← ht15] at c15 i15 b15
          rw [← ht2] at c2 i2 b2
          rw [← ht7] at c7 i7 b7
          rw [← ht16] at c16 i16 b16
          have j15 : (t15 : Int) < 64 := by omega
          have j2 : (t2 : Int) < 64 := by omega
          have j7 : (t7 : Int) < 64 := by omega
          have j16 : (t16 : Int) < 64 := by omega
          have k7 : IntKind.i64.wrap (t7 : Int) = (t7 : Int) := by rw [IntKind.wrap_i64]; omega
          have k16 : IntKind.i64.wrap (t16 : Int) = (t16 : Int) := by rw [IntKind.wrap_i64]; omega
          have d3 : (wn x).tdiv 8 = wn (wshr x 3) := by rw [Int.tdiv_eq_ediv_of_nonneg (wn_nn x)]; exact wn_shr x 3
          have d10 : (wn y).tdiv 1024 = wn (wshr y 10) := by rw [Int.tdiv_eq_ediv_of_nonneg (wn_nn y)]; exact wn_shr y 10
          have HR : Hid (RowW wr w.heap.size 64 (fun _ => 0)) := hR
          have HW : Hid (RowW wr (w.heap.size + 1) 64 (w2 m t)) := hW
          have HB : Hid (Below w.heap.size w wr) := hB
          have hbl := hW.lt
          clear hR hW hB hlt ht h16 e15 e2 e7 e16 ht15 ht2 ht7 ht16
          go_wp2_with (first
            | (go_at_call 32; with_reducible refine Calls.mono (turned_7 x _) ?_; rintro e w' ⟨rfl, rfl⟩)
            | (go_at_call 32; with_reducible refine Calls.mono (turned_18 x _) ?_; rintro e w' ⟨rfl, rfl⟩)
            | (go_at_call 32; with_reducible refine Calls.mono (turned_17 y _) ?_; rintro e w' ⟨rfl, rfl⟩)
            | (go_at_call 32; with_reducible refine Calls.mono (turned_19 y _) ?_; rintro e w' ⟨rfl, rfl⟩))
          apply wp_mono (Q := Only _ _)
          · go_region
            all_goals exact Only.intro _ _
          refine Only.out ?_
          clear c15 c2 c7 c16 ct zt
          go_wp2_with fail
          go_roundg (64 - (t + 1))
          case measure => have := HT.out; omega
          case rel => exact ⟨t + 1, rfl, by have := HT.out; omega, by have := HT.out; omega, by go_num, (HR.out.keep (K.drew (Below.refl _ _))).other (by omega) t _, by
            have h := (HW.out.keep (K.drew (Below.refl _ _))).store t HT.out.1 (wadd (wadd (wadd (wxor (wxor (rotr y 17) (rotr y 19)) (wshr y 10)) u) (wxor (wxor (rotr x 7) (rotr x 18)) (wshr x 3))) v)
            rw [HX.out] at h ⊢
            exact h.congr (fun j hj => by unfold w2; (repeat' split) <;> first | rfl | omega | (subst_vars; rfl)), K.set (K.drew HB.out) (by simp) _⟩
        · obtain rfl : t = 64 := by omega
          have hW' : RowW wr (w.heap.size + 1) 64 (sched m) := hW.congr (fun j hj => by unfold w2; rw [if_pos hj])
          have hr := hW'.range
          have hsz : (aw (sched m) 64).toArray.size = 64 := by rw [List.size_toArray, aw_len]
          have hth : wr.there w.heap.size 0 (aw (sched m) 64).toArray.size := by rw [hsz]; exact hR.there
          have hin : (Tryd.prog.info? 52).map (·.size) = some (aw (sched m) 64).toArray.size := by rw [hsz]; exact info64W
          have hil : (Tryd.prog.info? 52).map (·.size) = some (aw (sched m) 64).length := by rw [aw_len]; exact info64W
          have HH := hide hth
          have HI := hide hin
          have HL := hide hil
          have HRr := hide hr
          clear hth hin hil hr hsz
          have HS : Hid (RowW (wr.setCells w.heap.size 0 (aw (sched m) 64).toArray.toList) w.heap.size 64 (sched m)) := hR.stored (sched m)
          have HB : Hid (Below w.heap.size w (wr.setCells w.heap.size 0 (aw (sched m) 64).toArray.toList)) := below_setCells _ _ hB (Nat.le_refl _)
          clear hR hW hB hlt ht h16 hW'
          go_upto_region 17 with fail
          go_wp2_with (refine wpList_load_mid rfl 52 _ rfl _ 0 rfl (aw (sched m) 64) _ HRr.out Tryd.underlying52 rfl HL.out ?_; simp only [Act.put, List.setIfInBounds_toArray, List.set_cons_zero, List.set_cons_succ]; refine wpList_store_mid rfl 52 _ _ rfl w.heap.size 0 (aw (sched m) 64).toArray rfl rfl HH.out HI.out (all_oneCell_toArray (aw_one _ _)) ?_; generalize wr.setCells w.heap.size 0 (aw (sched m) 64).toArray.toList = X at HS HB ⊢)
          refine bodyPost_ret (results_cell_mid Tryd.results30 _ _ w.heap.size (aw (sched m) 64) _ rfl HS.out.range Tryd.underlying52 rfl HL.out) rfl ⟨?_, HB.out⟩
          rw [HM.out]
end Go.Proofs.YteplklbpehkdjaaDoor
