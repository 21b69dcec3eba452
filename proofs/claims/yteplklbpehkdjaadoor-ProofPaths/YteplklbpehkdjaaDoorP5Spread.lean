/- What the program's own spread answers. -/
import Derived.Test.YteplklbpehkdjaaDoorP5Turn
import Derived.Test.YteplklbpehkdjaaDoorS5Take
import Derived.Test.YteplklbpehkdjaaDoorS5Ab
namespace Go.Proofs.YteplklbpehkdjaaDoor
set_option maxRecDepth 100000
open Go.RowKit
attribute [local go_sem ↓] Go.wp_at_zero Go.wp_at_succ
attribute [local go_sem] wn_add wn_xor wn_wrap wn_mod wn_add' wn_or

theorem infoBlk : (Tryd.prog.info? 61).map (·.size) = some 64 := by kernel_rfl
theorem ilBlk (f : Nat → Nat) : (Tryd.prog.info? 61).map (·.size) = some (ab f 64).length := by rw [ab_len]; exact infoBlk
/-- An array by value, one byte of it. -/
theorem run_index_ab (f : Nat → Nat) {i : Nat} (hi : i < 64) (w : World) : (Instr.index 61 (.agg (ab f 64).toArray) (.int .i64 (i : Int))).run Tryd.prog w = .ok (.int .u8 ((f i : Nat) : Int)) w := by
  have hx : (ab f 64).toArray[i]? = some (.int .u8 ((f i : Nat) : Int)) := by have := ab_at f hi; simpa using this
  have he : Tryd.prog.plainKey 5 = true := by kernel_rfl
  have h1 : (sizeOf 5).run Tryd.prog w = .ok 1 w := by
    obtain ⟨i, hi⟩ := Option.isSome_iff_exists.1 (show (Tryd.prog.info? 5).isSome = true by kernel_rfl)
    have : (Tryd.prog.info? 5).map (·.size) = some 1 := by kernel_rfl
    rw [hi] at this
    simp [sizeOf, typeInfo, hi]
    simpa using this
  have h2 := run_part_plain w he hx
  simp [Instr.index, asIntOf, run_underlying Tryd.underlying61, h1, h2, hi]
theorem wpList_index {P : Program} {w : World} {ops : Array Oper} {rest : List Oper} {op : Oper} {a : Act} {Q : Exit → Act → World → Prop} (hgd : op.guard = none) (t : TypeId) (x y : Operand) (ho : op.op = .index t x y)
    (X Y v : Value) (hx : a.eval x = X) (hy : a.eval y = Y) (hr : (Instr.index t X Y).run P w = .ok v w) (h : wpList P ops Q rest (a.put op.dst v) w) : wpList P ops Q (op :: rest) a w := by
  refine wpList_plain hgd fun K hK => ?_
  unfold Oper.wp execOp
  simp only [ho, hx, hy, Sem.run_bind, Sem.run_pure, Result.andThen_ok, hr]
  exact hK _ _ h
set_option maxRecDepth 100000 in
set_option maxHeartbeats 8000000 in
theorem spread_any {p : Nat → Nat} (hp : ∀ i, p i < 256) (w : World) :
    Calls Tryd.prog 40 #[.agg (ab p 64).toArray] w fun e w' => e = .returned (.agg (aw (sched (fun t => wordP p t 4)) 64).toArray) ∧ Below w.heap.size w w' := by
  have HP : Hid (∀ i, p i < 256) := hp
  clear hp
  have HIX : Hid (∀ (i : Nat), i < 64 → ∀ W : World, (Instr.index 61 (.agg (ab p 64).toArray) (.int .i64 (i : Int))).run Tryd.prog W = .ok (.int .u8 ((p i : Nat) : Int)) W) := fun i hi W => run_index_ab p hi W
  have HMA : Hid (∀ W : World, RowB (W.alloc (.cells (ab p 64).toArray 61)) W.heap.size 64 p) := fun W => RowB.made W _ 64 p _ rfl
  have HRG : Hid (∀ (W : World) (b : Nat), RowB W b 64 p → W.rangeAt b 0 (ab p 64)) := fun W b h => RowB.range h
  have HIL := hide (ilBlk p)
  obtain ⟨A, hA⟩ : ∃ A, A = ab p 64 := ⟨_, rfl⟩
  rw [← hA] at HIX HMA HRG HIL ⊢
  clear hA
  go_enter Tryd.func40, Tryd.ntmps40
  go_upto_region 2 with fail
  refine wp_world (fun X hX => ?_)
  have hB : Below w.heap.size w X := by rw [hX]; exact K.alloc (K.alloc (K.alloc (Below.refl _ _) _) _) _
  have hR : RowB X w.heap.size 64 p := by rw [hX]; exact (HMA.out w).keep (K.alloc (K.alloc (Below.refl _ _) _) _)
  have hZ : RowW X (w.heap.size + 1) 64 (fun _ => 0) := by
    have h := (RowW.made (w.alloc (.cells A.toArray 61)) 52 64 (fun _ => 0) _ zeros64).keep (K.alloc (Below.refl _ _) (.cells (aw (fun _ => 0) 64).toArray 52))
    rw [← zeros64] at h
    rw [hX]
    simpa using h
  have hW : RowW X (w.heap.size + 1 + 1) 64 (fun _ => 0) := by
    have h := RowW.made ((w.alloc (.cells A.toArray 61)).alloc (.cells (aw (fun _ => 0) 64).toArray 52)) 52 64 (fun _ => 0) _ zeros64
    rw [← zeros64] at h
    rw [hX]
    simpa using h
  clear hX
  have HRr := hide (HRG.out X _ hR)
  have hW := hW.congr (g := w1 p 0 0) (fun i _ => by unfold w1; rw [if_neg (by omega)]; split <;> rfl)
  generalize hb0 : w.heap.size = b0 at *
  have HW := hide hW
  have HZ := hide hZ
  have HB := hide hB
  clear hR hW hZ hB
  go_wp2_with (refine wpList_load_mid rfl 61 _ rfl _ 0 rfl A _ HRr.out Tryd.underlying61 rfl HIL.out ?_; simp only [Act.put, List.setIfInBounds_toArray, List.set_cons_zero, List.set_cons_succ])
  go_loopg [12] 64 (fun g s12 wr => ∃ t : Nat, g = 64 - t ∧ t ≤ 64 ∧ s12 = .int .i64 t ∧ RowW wr (b0 + 1) 64 (fun _ => 0) ∧ RowW wr (b0 + 1 + 1) 64 (w1 p (t / 4) (t % 4)) ∧ Below b0 w wr)
  case atStart => exact ⟨0, rfl, by omega, rfl, HZ.out, HW.out, HB.out⟩
  case round =>
    clear HW HZ HB HRr HIL HMA HRG
    obtain ⟨t, rfl, ht, rfl, hZ, hW, hB⟩ := hrel
    by_cases hlt : t < 64
    · obtain ⟨q, hq⟩ : ∃ q, q = t / 4 := ⟨_, rfl⟩
      obtain ⟨r, hr⟩ : ∃ r, r = t % 4 := ⟨_, rfl⟩
      have HQ := hide (show t = 4 * q + r ∧ r < 4 ∧ q < 16 from by omega)
      rw [← hq, ← hr] at hW
      have cq := hW.c q (by omega)
      have zq := hW.z q (by omega)
      have e1 : w1 p q r q = wordP p q r := by unfold w1; rw [if_neg (by omega), if_pos rfl]
      rw [e1] at cq
      obtain ⟨y, hy⟩ : ∃ y : Wd, y = BitVec.ofNat 32 (p t) := ⟨_, rfl⟩
      have hix := HIX.out t hlt
      rw [← wn_of (p t) (by have := HP.out t; omega), ← hy] at hix
      have HX : Hid (wor (wshl (wordP p q r) 8) y = wordP p q (r + 1)) := by
        show _ = _
        rw [hy, shl8_or _ _ (HP.out t), HQ.out.1]; rfl
      obtain ⟨x, hx'⟩ : ∃ x : Wd, x = wordP p q r := ⟨_, rfl⟩
      rw [← hx'] at cq HX
      have hti : (t : Int) < 64 := by omega
      have q1 : (t : Int) / 4 = (q : Int) := by omega
      have q2 : (t : Int).tdiv 4 = (q : Int) := by rw [Int.tdiv_eq_ediv_of_nonneg (by omega)]; omega
      have q3 : (q : Int) < 64 := by omega
      have q4 : q < 64 := by omega
      have q5 : IntKind.i64.wrap (q : Int) = (q : Int) := by rw [IntKind.wrap_i64]; omega
      have s1 : wn x <<< 8 % 4294967296 = wn (wshl x 8) := wn_shl' x 8
      have s2 : wn x * 256 % 4294967296 = wn (wshl x 8) := wn_shl x 8
      have HZ := hide hZ
      have HW := hide hW
      have HB := hide hB
      have hbl := hW.lt
      have HT := hide hlt
      have HIXt := hide hix
      clear hZ hW hB hq hr e1 hy hx' ht hlt hix
      go_wp2_with (refine wpList_index rfl 61 _ _ rfl _ _ _ rfl rfl (HIXt.out _) ?_)
      go_roundg (64 - (t + 1))
      case measure => have := HT.out; omega
      case rel => exact ⟨t + 1, rfl, by have := HT.out; omega, by go_num, HZ.out.other (by omega) q _, by
        have h := HW.out.store q q4 (wor (wshl x 8) y)
        rw [HX.out] at h ⊢
        have hq := HQ.out
        by_cases e : r = 3
        · refine h.congr (fun j hj => ?_)
          rw [show (t + 1) / 4 = q + 1 by omega, show (t + 1) % 4 = 0 by omega]
          unfold w1
          subst e
          (repeat' split) <;> first | rfl | omega | (subst_vars; rfl)
        · refine h.congr (fun j hj => ?_)
          rw [show (t + 1) / 4 = q by omega, show (t + 1) % 4 = r + 1 by omega]
          unfold w1
          (repeat' split) <;> first | rfl | omega | (subst_vars; rfl), by
        have := hb0
        exact hb0 ▸ K.set (hb0 ▸ HB.out) (by simp; omega) _⟩
    · obtain rfl : t = 64 := by omega
      have HZ := hide hZ
      have HW : Hid (RowW wr (b0 + 1 + 1) 64 (w2 (fun t => wordP p t 4) 16)) := hW.congr (fun j hj => by unfold w1 w2; (repeat' split) <;> first | rfl | omega | (rw [sched_low _ (by assumption)]))
      have HB := hide hB
      clear hZ hW hB hlt ht HIX
      obtain ⟨m, hm⟩ : ∃ m : Nat → Wd, m = fun t => wordP p t 4 := ⟨_, rfl⟩
      have HM : Hid (m = fun t => wordP p t 4) := hm
      rw [← hm] at HW
      clear hm
      go_wp2_with fail
      go_loopg [6] 48 (fun g s6 wr => ∃ t : Nat, g = 64 - t ∧ 16 ≤ t ∧ t ≤ 64 ∧ s6 = .int .i64 t ∧ RowW wr (b0 + 1) 64 (fun _ => 0) ∧ RowW wr (b0 + 1 + 1) 64 (w2 m t) ∧ Below b0 w wr)
      case atStart => exact ⟨16, rfl, by omega, by omega, rfl, HZ.out, HW.out, HB.out⟩
      case round =>
        clear HZ HW HB
        obtain ⟨t, rfl, h16, ht, rfl, hZ, hW, hB⟩ := hrel
        by_cases hlt : t < 64
        · have c15 := hW.c (t - 15) (by omega)
          have c2 := hW.c (t - 2) (by omega)
          have c7 := hW.c (t - 7) (by omega)
          have c16 := hW.c (t - 16) (by omega)
          have ct := hW.c t hlt
          have zt := hW.z t hlt
          have e15 : w2 m t (t - 15) = sched m (t - 15) := by unfold w2; rw [if_pos (by omega)]
          have e2 : w2 m t (t - 2) = sched m (t - 2) := by unfold w2; rw [if_pos (by omega)]
          have e7 : w2 m t (t - 7) = sched m (t - 7) := by unfold w2; rw [if_pos (by omega)]
          have e16 : w2 m t (t - 16) = sched m (t - 16) := by unfold w2; rw [if_pos (by omega)]
          rw [e15] at c15
          rw [e2] at c2
          rw [e7] at c7
          rw [e16] at c16
          have HX : Hid (wadd (wadd (wadd (wxor (wxor (rotr (sched m (t - 2)) 17) (rotr (sched m (t - 2)) 19)) (wshr (sched m (t - 2)) 10)) (sched m (t - 7))) (wxor (wxor (rotr (sched m (t - 15)) 7) (rotr (sched m (t - 15)) 18)) (wshr (sched m (t - 15)) 3))) (sched m (t - 16)) = sched m t) := by
            exact (sched_up m (t := t) (by omega)).symm
          generalize sched m (t - 15) = x at *
          generalize sched m (t - 2) = y at *
          generalize sched m (t - 7) = u at *
          generalize sched m (t - 16) = v at *
          have i15 : (t : Int) - 15 = ((t - 15 : Nat) : Int) := by omega
          have i2 : (t : Int) - 2 = ((t - 2 : Nat) : Int) := by omega
          have i7 : (t : Int) - 7 = ((t - 7 : Nat) : Int) := by omega
          have i16 : (t : Int) - 16 = ((t - 16 : Nat) : Int) := by omega
          have b15 : t - 15 < 64 := by omega
          have b2 : t - 2 < 64 := by omega
          have b7 : t - 7 < 64 := by omega
          have b16 : t - 16 < 64 := by omega
          have hti : (t : Int) < 64 := by omega
          have HT : Hid (t < 64 ∧ 16 ≤ t) := ⟨hlt, h16⟩
          obtain ⟨t15, ht15⟩ : ∃ k, k = t - 15 := ⟨_, rfl⟩
          obtain ⟨t2, ht2⟩ : ∃ k, k = t - 2 := ⟨_, rfl⟩
          obtain ⟨t7, ht7⟩ : ∃ k, k = t - 7 := ⟨_, rfl⟩
          obtain ⟨t16, ht16⟩ : ∃ k, k = t - 16 := ⟨_, rfl⟩
          rw [← ht15] at c15 i15 b15
          rw [← ht2] at c2 i2 b2
          rw [← ht7] at c7 i7 b7
          rw [← ht16] at c16 i16 b16
          have j15 : (t15 : Int) < 64 := by omega
          have j2 : (t2 : Int) < 64 := by omega
          have j7 : (t7 : Int) < 64 := by omega
          have j16 : (t16 : Int) < 64 := by omega
          have k15 : IntKind.i64.wrap (t15 : Int) = (t15 : Int) := by rw [IntKind.wrap_i64]; omega
          have k2 : IntKind.i64.wrap (t2 : Int) = (t2 : Int) := by rw [IntKind.wrap_i64]; omega
          have k7 : IntKind.i64.wrap (t7 : Int) = (t7 : Int) := by rw [IntKind.wrap_i64]; omega
          have k16 : IntKind.i64.wrap (t16 : Int) = (t16 : Int) := by rw [IntKind.wrap_i64]; omega
          have d3 : wn x / 8 = wn (wshr x 3) := wn_shr x 3
          have d10 : wn y / 1024 = wn (wshr y 10) := wn_shr y 10
          have HZ := hide hZ
          have HW := hide hW
          have HB := hide hB
          have hbl := hW.lt
          clear hZ hW hB hlt ht h16 e15 e2 e7 e16 ht15 ht2 ht7 ht16
          go_upto_region 10 with fail
          apply wp_mono (Q := Only _ _)
          · go_region
            all_goals exact Only.intro _ _
          refine Only.out ?_
          go_upto_region 11 with fail
          refine wp_world (fun X hX => ?_)
          have hbX : Below wr.heap.size wr X := by rw [hX]; exact K.drew (Below.refl _ _)
          have HZ := hide (HZ.out.keep hbX)
          have HW := hide (HW.out.keep hbX)
          have HB : Hid (Below b0 w X) := by subst hb0; exact K.call HB.out hbX
          clear c15 c2
          have c7 := later hbX c7
          have c16 := later hbX c16
          have ct := later hbX ct
          have zt := HW.out.z t HT.out.1
          have hbl := HW.out.lt
          clear hX hbX
          go_wp2_with (first
            | (go_at_call 41; with_reducible refine Calls.mono (right_7 x _) ?_; rintro e w' ⟨rfl, rfl⟩)
            | (go_at_call 41; with_reducible refine Calls.mono (right_18 x _) ?_; rintro e w' ⟨rfl, rfl⟩)
            | (go_at_call 41; with_reducible refine Calls.mono (right_17 y _) ?_; rintro e w' ⟨rfl, rfl⟩)
            | (go_at_call 41; with_reducible refine Calls.mono (right_19 y _) ?_; rintro e w' ⟨rfl, rfl⟩))
          apply wp_mono (Q := Only _ _)
          · go_region
            all_goals exact Only.intro _ _
          refine Only.out ?_
          clear c7 c16 ct zt
          go_wp2_with fail
          go_roundg (64 - (t + 1))
          case measure => have := HT.out; omega
          case rel => exact ⟨t + 1, rfl, by have := HT.out; omega, by have := HT.out; omega, by go_num, (HZ.out.keep (K.drew (Below.refl _ _))).other (by omega) t _, by
            have h := (HW.out.keep (K.drew (Below.refl _ _))).store t HT.out.1 (wadd (wadd (wadd (wxor (wxor (rotr y 17) (rotr y 19)) (wshr y 10)) u) (wxor (wxor (rotr x 7) (rotr x 18)) (wshr x 3))) v)
            rw [HX.out] at h ⊢
            exact h.congr (fun j hj => by unfold w2; (repeat' split) <;> first | rfl | omega | (subst_vars; rfl)), by
            subst hb0
            exact K.set (K.drew HB.out) (by simp; omega) _⟩
        · obtain rfl : t = 64 := by omega
          have hW' : RowW wr (b0 + 1 + 1) 64 (sched m) := hW.congr (fun j hj => by unfold w2; rw [if_pos hj])
          have hr := hW'.range
          have hsz : (aw (sched m) 64).toArray.size = 64 := by rw [List.size_toArray, aw_len]
          have hth : wr.there (b0 + 1) 0 (aw (sched m) 64).toArray.size := by rw [hsz]; exact hZ.there
          have hin : (Tryd.prog.info? 52).map (·.size) = some (aw (sched m) 64).toArray.size := by rw [hsz]; exact info64W
          have hil : (Tryd.prog.info? 52).map (·.size) = some (aw (sched m) 64).length := by rw [aw_len]; exact info64W
          have HH := hide hth
          have HI := hide hin
          have HL := hide hil
          have HRr := hide hr
          clear hth hin hil hr hsz
          have HS : Hid (RowW (wr.setCells (b0 + 1) 0 (aw (sched m) 64).toArray.toList) (b0 + 1) 64 (sched m)) := hZ.stored (sched m)
          have HB : Hid (Below b0 w (wr.setCells (b0 + 1) 0 (aw (sched m) 64).toArray.toList)) := by subst hb0; exact below_setCells _ _ hB (by omega)
          clear hZ hW hB hlt ht h16 hW'
          go_upto_region 14 with fail
          go_wp2_with (refine wpList_load_mid rfl 52 _ rfl _ 0 rfl (aw (sched m) 64) _ HRr.out Tryd.underlying52 rfl HL.out ?_; simp only [Act.put, List.setIfInBounds_toArray, List.set_cons_zero, List.set_cons_succ]; refine wpList_store_mid rfl 52 _ _ rfl (b0 + 1) 0 (aw (sched m) 64).toArray rfl rfl HH.out HI.out (all_oneCell_toArray (aw_one _ _)) ?_; generalize wr.setCells (b0 + 1) 0 (aw (sched m) 64).toArray.toList = X at HS HB ⊢)
          refine bodyPost_ret (results_cell_mid Tryd.results40 _ _ (b0 + 1) (aw (sched m) 64) _ rfl HS.out.range Tryd.underlying52 rfl HL.out) rfl ⟨?_, by rw [hb0]; exact HB.out⟩
          rw [HM.out]
end Go.Proofs.YteplklbpehkdjaaDoor
