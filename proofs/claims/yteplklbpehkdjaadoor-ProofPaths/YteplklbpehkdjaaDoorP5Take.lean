/- What the program's own takeIn answers. -/
import Derived.Test.YteplklbpehkdjaaDoorP5Spread
import Derived.Deep.RegionHeld3
namespace Go.Proofs.YteplklbpehkdjaaDoor
set_option maxRecDepth 100000
open Go.RowKit
attribute [local go_sem ↓] Go.wp_at_zero Go.wp_at_succ
attribute [local go_sem] wn_add wn_xor wn_wrap wn_mod wn_add' wn_or

/-- The program's two tables lie where its start laid them. -/
structure Tab (w : World) : Prop where
  f : ∀ i, i < 8 → w.cell? ⟨0, i, none⟩ = some (.int .u32 (wn (start.w i)))
  k : ∀ i, i < 64 → w.cell? ⟨1, i, none⟩ = some (.int .u32 (wn (kW i)))
theorem Tab.keep {W w1 : World} (h : Tab W) (hb : Below W.heap.size W w1) : Tab w1 :=
  ⟨fun i hi => later hb (h.f i hi), fun i hi => later hb (h.k i hi)⟩
theorem infoSt : (Tryd.prog.info? 59).map (·.size) = some 8 := by kernel_rfl
theorem inSt (f : Nat → Wd) : (Tryd.prog.info? 59).map (·.size) = some (aw f 8).toArray.size := by rw [size8]; exact infoSt
theorem ilSt (f : Nat → Wd) : (Tryd.prog.info? 59).map (·.size) = some (aw f 8).length := by rw [aw_len]; exact infoSt
theorem addS_w (s v r : St) (hr : r = addS s v) : r.w 0 = wadd (s.w 0) v.a ∧ r.w 1 = wadd (s.w 1) v.b ∧ r.w 2 = wadd (s.w 2) v.c ∧ r.w 3 = wadd (s.w 3) v.d ∧ r.w 4 = wadd (s.w 4) v.e ∧ r.w 5 = wadd (s.w 5) v.f ∧ r.w 6 = wadd (s.w 6) v.g ∧ r.w 7 = wadd (s.w 7) v.h := by
  subst hr
  exact ⟨rfl, rfl, rfl, rfl, rfl, rfl, rfl, rfl⟩

set_option maxRecDepth 100000 in
set_option maxHeartbeats 8000000 in
theorem takeIn_any {p : Nat → Nat} (hp : ∀ i, p i < 256) (s : St) {w : World} (hT : Tab w) :
    Calls Tryd.prog 37 #[.agg (aw s.w 8).toArray, .agg (ab p 64).toArray] w fun e w' => e = .returned (.agg (aw (takeB s p).w 8).toArray) ∧ Below w.heap.size w w' := by
  have HSP : Hid (∀ W : World, Calls Tryd.prog 40 #[.agg (ab p 64).toArray] W fun e w' => e = .returned (.agg (aw (sched (fun t => wordP p t 4)) 64).toArray) ∧ Below W.heap.size W w') := fun W => spread_any hp W
  have HT : Hid (Tab w) := hT
  clear hp hT
  have HMA : Hid (∀ W : World, RowB (W.alloc (.cells (ab p 64).toArray 61)) W.heap.size 64 p) := fun W => RowB.made W _ 64 p _ rfl
  have HRG : Hid (∀ (W : World) (b : Nat), RowB W b 64 p → W.rangeAt b 0 (ab p 64)) := fun W b h => RowB.range h
  have HIL := hide (ilBlk p)
  obtain ⟨A, hA⟩ : ∃ A, A = ab p 64 := ⟨_, rfl⟩
  rw [← hA] at HSP HMA HRG HIL ⊢
  clear hA
  have HTK : Hid (∀ v : St, v = rnds kW (sched (fun t => wordP p t 4)) s 64 → takeB s p = addS s v) := fun v e => by rw [e]; rfl
  obtain ⟨Wf, hWf⟩ : ∃ Wf : Nat → Wd, Wf = sched (fun t => wordP p t 4) := ⟨_, rfl⟩
  rw [← hWf] at HTK HSP
  clear hWf
  rw [aw8 s.w]
  go_enter Tryd.func37, Tryd.ntmps37
  go_upto_region 1 with fail
  refine wp_world (fun X hX => ?_)
  have hB : Below w.heap.size w X := by rw [hX]; exact K.alloc (K.alloc (K.alloc (Below.refl _ _) _) _) _
  have hH : RowW X w.heap.size 8 s.w := by rw [hX]; exact (RowW.made w 59 8 s.w _ (aw8 s.w).symm).keep (K.alloc (K.alloc (Below.refl _ _) _) _)
  have hR : RowB X (w.heap.size + 1) 64 p := by
    rw [hX]
    have h := (HMA.out (w.alloc (.cells #[.int .u32 (wn (s.w 0)), .int .u32 (wn (s.w 1)), .int .u32 (wn (s.w 2)), .int .u32 (wn (s.w 3)), .int .u32 (wn (s.w 4)), .int .u32 (wn (s.w 5)), .int .u32 (wn (s.w 6)), .int .u32 (wn (s.w 7))] 59))).keep (K.alloc (Below.refl _ _) (.cells #[.int .u32 0, .int .u32 0, .int .u32 0, .int .u32 0, .int .u32 0, .int .u32 0, .int .u32 0, .int .u32 0] 59))
    simpa using h
  have hZ : RowW X (w.heap.size + 1 + 1) 8 (fun _ => 0) := by
    rw [hX]
    have h := RowW.made ((w.alloc (.cells #[.int .u32 (wn (s.w 0)), .int .u32 (wn (s.w 1)), .int .u32 (wn (s.w 2)), .int .u32 (wn (s.w 3)), .int .u32 (wn (s.w 4)), .int .u32 (wn (s.w 5)), .int .u32 (wn (s.w 6)), .int .u32 (wn (s.w 7))] 59)).alloc (.cells A.toArray 61)) 59 8 (fun _ => 0) _ zeros8
    simpa using h
  have hT := HT.out.keep hB
  clear hX HT
  have HRr := hide (HRG.out X _ hR)
  clear HMA HRG hR
  obtain ⟨b0, hb0⟩ : ∃ b0, w.heap.size = b0 := ⟨_, rfl⟩
  rw [hb0] at hB hH hZ HRr ⊢
  have HH := hide hH
  have HZ := hide hZ
  have HB := hide hB
  have HT := hide hT
  clear hH hZ hB hT
  go_wp2_with (refine wpList_load_mid rfl 61 _ rfl _ 0 rfl A _ HRr.out Tryd.underlying61 rfl HIL.out ?_; simp only [Act.put, List.setIfInBounds_toArray, List.set_cons_zero, List.set_cons_succ])
  with_reducible refine Calls.mono (HSP.out _) ?_
  rintro e W1 ⟨rfl, hb⟩
  have hH := HH.out.keep hb
  have hZ := HZ.out.keep hb
  have hT := HT.out.keep hb
  have hB1 : Below b0 w W1 := by subst hb0; exact K.call HB.out hb
  clear hb HH HZ HB HT HRr HIL HSP
  have hsz : (aw Wf 64).toArray.size = 64 := by rw [List.size_toArray, aw_len]
  have hin : (Tryd.prog.info? 52).map (·.size) = some (aw Wf 64).toArray.size := by rw [hsz]; exact info64W
  have h64 : 64 = (aw Wf 64).toArray.size := hsz.symm
  have HIN := hide hin
  have H64 := hide h64
  clear hsz hin h64
  go_upto_region 2 with (refine wpList_store_new rfl 52 _ _ rfl _ (aw Wf 64).toArray rfl rfl HIN.out H64.out (all_oneCell_toArray (aw_one _ _)) ?_)
  have hal := K.alloc (Below.refl _ W1) (.cells (aw Wf 64).toArray 52)
  have hW := RowW.made W1 52 64 Wf _ rfl
  have hn5 : b0 + 1 + 1 < W1.heap.size := hZ.lt
  have hH := hH.keep hal
  have hZ := hZ.keep hal
  have hT := hT.keep hal
  have hB2 : Below b0 w (W1.alloc (.cells (aw Wf 64).toArray 52)) := by subst hb0; exact K.call hB1 hal
  clear hal hB1 HIN H64
  generalize W1.alloc (.cells (aw Wf 64).toArray 52) = X2 at *
  generalize W1.heap.size = n5 at *
  have v0 := hH.c 0 (by omega)
  have v1 := hH.c 1 (by omega)
  have v2 := hH.c 2 (by omega)
  have v3 := hH.c 3 (by omega)
  have v4 := hH.c 4 (by omega)
  have v5 := hH.c 5 (by omega)
  have v6 := hH.c 6 (by omega)
  have v7 := hH.c 7 (by omega)
  have HH := hide hH
  have HZ := hide hZ
  have HB := hide hB2
  have HT := hide hT
  have HW := hide hW
  clear hH hZ hB2 hT hW
  go_region_held3 (fun w' => w' = X2.drew ∧ w'.cell? ⟨b0, 0, none⟩ = some (.int .u32 (wn (s.w 0))) ∧ w'.cell? ⟨b0, 1, none⟩ = some (.int .u32 (wn (s.w 1))) ∧ w'.cell? ⟨b0, 2, none⟩ = some (.int .u32 (wn (s.w 2))) ∧ w'.cell? ⟨b0, 3, none⟩ = some (.int .u32 (wn (s.w 3))) ∧ w'.cell? ⟨b0, 4, none⟩ = some (.int .u32 (wn (s.w 4))) ∧ w'.cell? ⟨b0, 5, none⟩ = some (.int .u32 (wn (s.w 5))) ∧ w'.cell? ⟨b0, 6, none⟩ = some (.int .u32 (wn (s.w 6))) ∧ w'.cell? ⟨b0, 7, none⟩ = some (.int .u32 (wn (s.w 7))))
    (first | (with_reducible assumption) | exact ⟨rfl, v0, v1, v2, v3, v4, v5, v6, v7⟩)
    (fail)
  clear v0 v1 v2 v3 v4 v5 v6 v7 hH hZ hT
  go_upto_region 3 with fail
  refine wp_world (fun Y hY => ?_)
  have hbY : Below X2.heap.size X2 Y := by rw [hY]; exact K.drew (Below.refl _ _)
  have HH := hide (HH.out.keep hbY)
  have HZ := hide (HZ.out.keep hbY)
  have HT := hide (HT.out.keep hbY)
  have HW := hide (HW.out.keep hbY)
  have HB : Hid (Below b0 w Y) := by subst hb0; exact K.call HB.out hbY
  clear hY hbY
  go_wp2_with fail
  go_loopg [6, 7, 8, 9, 10, 11, 12, 13, 35] 64 (fun g s6 s7 s8 s9 s10 s11 s12 s13 s35 wr => ∃ t : Nat, g = 64 - t ∧ t ≤ 64 ∧ s35 = .int .i64 t ∧ s6 = .int .u32 (wn (rnds kW Wf s t).a) ∧ s7 = .int .u32 (wn (rnds kW Wf s t).b) ∧ s8 = .int .u32 (wn (rnds kW Wf s t).c) ∧ s9 = .int .u32 (wn (rnds kW Wf s t).d) ∧ s10 = .int .u32 (wn (rnds kW Wf s t).e) ∧ s11 = .int .u32 (wn (rnds kW Wf s t).f) ∧ s12 = .int .u32 (wn (rnds kW Wf s t).g) ∧ s13 = .int .u32 (wn (rnds kW Wf s t).h) ∧ RowW wr n5 64 Wf ∧ RowW wr b0 8 s.w ∧ RowW wr (b0 + 1 + 1) 8 (fun _ => 0) ∧ Tab wr ∧ Below b0 w wr)
  case atStart => exact ⟨0, rfl, by omega, rfl, rfl, rfl, rfl, rfl, rfl, rfl, rfl, rfl, HW.out, HH.out, HZ.out, HT.out, HB.out⟩
  case round =>
    clear HW HH HZ HT HB
    obtain ⟨t, rfl, ht, rfl, rfl, rfl, rfl, rfl, rfl, rfl, rfl, rfl, hW, hH, hZ, hT, hB⟩ := hrel
    by_cases hlt : t < 64
    · have ck := hT.k t hlt
      have cw := hW.c t hlt
      have HS : Hid (rnds kW Wf s (t + 1) = rnd (rnds kW Wf s t) (kW t) (Wf t)) := rfl
      obtain ⟨q, hq⟩ : ∃ q, q = rnds kW Wf s t := ⟨_, rfl⟩
      rw [← hq] at HS ⊢
      clear hq
      obtain ⟨qa, qb, qc, qd, qe, qf, qg, qh⟩ := q
      dsimp only
      have hti : (t : Int) < 64 := by omega
      have HW := hide hW
      have HH := hide hH
      have HZ := hide hZ
      have HT := hide hT
      have HB := hide hB
      have HL := hide hlt
      clear hW hH hZ hT hB ht
      generalize kW t = kt at *
      generalize Wf t = wt at *
      go_upto_region 6 with fail
      go_region_held3 (fun w' => w' = wr.drew ∧ w'.cell? ⟨1, t, none⟩ = some (.int .u32 (wn kt)) ∧ w'.cell? ⟨n5, t, none⟩ = some (.int .u32 (wn wt)))
        (first | (with_reducible assumption) | exact ⟨rfl, ck, cw⟩)
        (first
        | (go_at_call 41; with_reducible refine Calls.mono (right_6 qe _) ?_; rintro e w' ⟨rfl, rfl⟩)
        | (go_at_call 41; with_reducible refine Calls.mono (right_11 qe _) ?_; rintro e w' ⟨rfl, rfl⟩)
        | (go_at_call 41; with_reducible refine Calls.mono (right_25 qe _) ?_; rintro e w' ⟨rfl, rfl⟩)
        | (go_at_call 42; with_reducible refine Calls.mono (choice_any qe qf qg _) ?_; rintro e w' ⟨rfl, rfl⟩))
      clear ck cw
      go_wp2_with (first
        | (go_at_call 41; with_reducible refine Calls.mono (right_2 qa _) ?_; rintro e w' ⟨rfl, rfl⟩)
        | (go_at_call 41; with_reducible refine Calls.mono (right_13 qa _) ?_; rintro e w' ⟨rfl, rfl⟩)
        | (go_at_call 41; with_reducible refine Calls.mono (right_22 qa _) ?_; rintro e w' ⟨rfl, rfl⟩)
        | (go_at_call 43; with_reducible refine Calls.mono (majority_any qa qb qc _) ?_; rintro e w' ⟨rfl, rfl⟩))
      go_roundg (64 - (t + 1))
      case measure => have := HL.out; omega
      case rel =>
        have hbY : Below wr.heap.size wr wr.drew := K.drew (Below.refl _ _)
        refine ⟨t + 1, rfl, by have := HL.out; omega, by go_num, ?_, ?_, ?_, ?_, ?_, ?_, ?_, ?_, HW.out.keep hbY, HH.out.keep hbY, HZ.out.keep hbY, HT.out.keep hbY, by subst hb0; exact K.call HB.out hbY⟩
        all_goals (rw [HS.out]; rfl)
    · obtain rfl : t = 64 := by omega
      obtain ⟨v, hv⟩ : ∃ v, v = rnds kW Wf s 64 := ⟨_, rfl⟩
      have HE := hide (HTK.out v hv)
      rw [← hv]
      clear hv
      have v0 := hH.c 0 (by omega)
      have v1 := hH.c 1 (by omega)
      have v2 := hH.c 2 (by omega)
      have v3 := hH.c 3 (by omega)
      have v4 := hH.c 4 (by omega)
      have v5 := hH.c 5 (by omega)
      have v6 := hH.c 6 (by omega)
      have v7 := hH.c 7 (by omega)
      obtain ⟨r, hr⟩ : ∃ r, r = addS s v := ⟨_, rfl⟩
      have HRE : Hid (r = takeB s p) := by show _ = _; rw [hr, HE.out]
      have HRW := hide (addS_w s v r hr)
      have HTH := hide (there8 hZ r.w)
      have HS := hide (hZ.stored r.w)
      have HB : Hid (Below b0 w (wr.setCells (b0 + 1 + 1) 0 (aw r.w 8).toArray.toList)) := by subst hb0; exact below_setCells _ _ hB (by omega)
      clear hW hH hZ hT hB hlt ht hr
      go_wp2_with (refine wpList_store_mid rfl 59 _ _ rfl (b0 + 1 + 1) 0 (aw r.w 8).toArray rfl (by rw [aw8, HRW.out.1, HRW.out.2.1, HRW.out.2.2.1, HRW.out.2.2.2.1, HRW.out.2.2.2.2.1, HRW.out.2.2.2.2.2.1, HRW.out.2.2.2.2.2.2.1, HRW.out.2.2.2.2.2.2.2]; rfl) HTH.out (inSt _) (all8 _) ?_; generalize wr.setCells (b0 + 1 + 1) 0 (aw r.w 8).toArray.toList = X at HS HB ⊢)
      refine bodyPost_ret (results_cell_mid Tryd.results37 _ _ (b0 + 1 + 1) (aw r.w 8) _ rfl HS.out.range Tryd.underlying59 rfl (ilSt _)) rfl ⟨?_, by rw [hb0]; exact HB.out⟩
      rw [HRE.out]
end Go.Proofs.YteplklbpehkdjaaDoor
