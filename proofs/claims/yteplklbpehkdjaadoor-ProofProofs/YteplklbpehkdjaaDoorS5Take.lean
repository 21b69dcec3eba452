/- What the document's own take answers. -/
import Derived.Test.YteplklbpehkdjaaDoorS5Words
import Derived.Deep.RegionHeld3
namespace Go.Proofs.YteplklbpehkdjaaDoor
set_option maxRecDepth 100000
open Go.RowKit
attribute [local go_sem ↓] Go.wp_at_zero Go.wp_at_succ
attribute [local go_sem] wn_add wn_xor wn_wrap wn_mod wn_add' wn_and wn_or

theorem RowW.apart {w : World} {b n : Nat} {f : Nat → Wd} (h : RowW w b n f) {g : Nat} (hg : b ≠ g) (o : Nat) (vs : List Value) : RowW (w.setCells g o vs) b n f :=
  ⟨by rw [size_setCells]; exact h.lt, fun i hi => by rw [World.cell?_setCells_out g vs o w ⟨b, i, none⟩ (fun e _ => absurd e hg)]; exact h.c i hi, fun i hi => by rw [World.frozen?_setCells]; exact h.z i hi⟩
theorem zeros8 : (#[.int .u32 0, .int .u32 0, .int .u32 0, .int .u32 0, .int .u32 0, .int .u32 0, .int .u32 0, .int .u32 0] : Array Value) = (aw (fun _ => 0) 8).toArray := by kernel_rfl
theorem aw8 (f : Nat → Wd) : (aw f 8).toArray = #[.int .u32 (wn (f 0)), .int .u32 (wn (f 1)), .int .u32 (wn (f 2)), .int .u32 (wn (f 3)), .int .u32 (wn (f 4)), .int .u32 (wn (f 5)), .int .u32 (wn (f 6)), .int .u32 (wn (f 7))] := rfl
theorem all8 (f : Nat → Wd) : (aw f 8).toArray.all (·.oneCell') = true := all_oneCell_toArray (aw_one f 8)
theorem wp_world {P : Program} {c : Code} {Q : Exit → Act → World → Prop} {a : Act} {w : World} (h : ∀ w', w' = w → Code.wp P c Q a w') : Code.wp P c Q a w := h w rfl
theorem size8 (f : Nat → Wd) : (aw f 8).toArray.size = 8 := by rw [List.size_toArray, aw_len]
theorem in8 (f : Nat → Wd) : (Tryd.prog.info? 43).map (·.size) = some (aw f 8).toArray.size := by rw [size8]; exact info8W
theorem il8 (f : Nat → Wd) : (Tryd.prog.info? 43).map (·.size) = some (aw f 8).length := by rw [aw_len]; exact info8W
theorem there8 {w : World} {b : Nat} {f : Nat → Wd} (h : RowW w b 8 f) (g : Nat → Wd) : w.there b 0 (aw g 8).toArray.size := by rw [size8]; exact h.there
/-- Two rows of eight words, the first i of them added. -/
def addP (s v : St) (i j : Nat) : Wd := if j < i then wadd (s.w j) (v.w j) else s.w j

set_option maxRecDepth 100000 in
set_option maxHeartbeats 8000000 in
theorem refTake_any {b o cap : Nat} {p : Nat → Nat} (hp : ∀ i, p i < 256) (s : St) {w : World} (hD : Rd w b o 64 (fun i => ((p i : Nat) : Int))) :
    Calls Tryd.prog 25 #[.agg (aw s.w 8).toArray, .slice (some ⟨b, o, none⟩) 64 cap] w fun e w' => e = .returned (.agg (aw (takeB s p).w 8).toArray) ∧ Below w.heap.size w w' := by
  have HP : Hid (∀ i, p i < 256) := hp
  have HD : Hid (Rd w b o 64 (fun i => ((p i : Nat) : Int))) := hD
  clear hp hD
  rw [aw8 s.w]
  go_enter Tryd.func25, Tryd.ntmps25
  go_wp2_with fail
  have hH := (RowW.made w 43 8 s.w _ (aw8 s.w).symm).keep (K.alloc (Below.refl _ _) (.cells #[.int .u32 0, .int .u32 0, .int .u32 0, .int .u32 0, .int .u32 0, .int .u32 0, .int .u32 0, .int .u32 0] 43))
  have hZ := RowW.made (w.alloc (.cells #[.int .u32 (wn (s.w 0)), .int .u32 (wn (s.w 1)), .int .u32 (wn (s.w 2)), .int .u32 (wn (s.w 3)), .int .u32 (wn (s.w 4)), .int .u32 (wn (s.w 5)), .int .u32 (wn (s.w 6)), .int .u32 (wn (s.w 7))] 43)) 43 8 (fun _ => 0) _ zeros8
  have hBa : Below w.heap.size w ((w.alloc (.cells #[.int .u32 (wn (s.w 0)), .int .u32 (wn (s.w 1)), .int .u32 (wn (s.w 2)), .int .u32 (wn (s.w 3)), .int .u32 (wn (s.w 4)), .int .u32 (wn (s.w 5)), .int .u32 (wn (s.w 6)), .int .u32 (wn (s.w 7))] 43)).alloc (.cells #[.int .u32 0, .int .u32 0, .int .u32 0, .int .u32 0, .int .u32 0, .int .u32 0, .int .u32 0, .int .u32 0] 43)) := K.alloc (K.alloc (Below.refl _ _) _) _
  have hsz1 : (w.alloc (.cells #[.int .u32 (wn (s.w 0)), .int .u32 (wn (s.w 1)), .int .u32 (wn (s.w 2)), .int .u32 (wn (s.w 3)), .int .u32 (wn (s.w 4)), .int .u32 (wn (s.w 5)), .int .u32 (wn (s.w 6)), .int .u32 (wn (s.w 7))] 43)).heap.size = w.heap.size + 1 := by simp
  rw [hsz1] at hZ
  with_reducible refine Calls.mono (refWords_any HP.out (HD.out.keep hBa)) ?_
  rintro e W1 ⟨rfl, hb⟩
  have hH := hH.keep hb
  have hZ := hZ.keep hb
  have hB1 : Below w.heap.size w W1 := K.call hBa hb
  clear hb hBa hsz1 HP HD
  have HTK : Hid (∀ v : St, v = rnds kW (sched (fun t => wordP p t 4)) s 64 → takeB s p = addS s v) := fun v e => by rw [e]; rfl
  obtain ⟨Wf, hWf⟩ : ∃ Wf : Nat → Wd, Wf = sched (fun t => wordP p t 4) := ⟨_, rfl⟩
  rw [← hWf] at HTK ⊢
  clear hWf
  have hsz : (aw Wf 64).toArray.size = 64 := by rw [List.size_toArray, aw_len]
  have hin : (Tryd.prog.info? 52).map (·.size) = some (aw Wf 64).toArray.size := by rw [hsz]; exact info64W
  have h64 : 64 = (aw Wf 64).toArray.size := hsz.symm
  have HIN := hide hin
  have H64 := hide h64
  clear hsz hin h64
  go_upto_region 2 with (refine wpList_store_new rfl 52 _ _ rfl _ (aw Wf 64).toArray rfl rfl HIN.out H64.out (all_oneCell_toArray (aw_one _ _)) ?_)
  have hal := K.alloc (Below.refl _ W1) (.cells (aw Wf 64).toArray 52)
  have hW := RowW.made W1 52 64 Wf _ rfl
  have hH := hH.keep hal
  have hn5 : w.heap.size + 1 < W1.heap.size := hZ.lt
  have hZ := hZ.keep hal
  have hB2 : Below w.heap.size w (W1.alloc (.cells (aw Wf 64).toArray 52)) := K.call hB1 hal
  clear hal hB1 HIN H64
  generalize W1.alloc (.cells (aw Wf 64).toArray 52) = X2 at *
  generalize W1.heap.size = n5 at *
  go_wp2_with fail
  with_reducible refine Calls.mono (refK_any _) ?_
  rintro e W2 ⟨rfl, hb⟩
  have hW := hW.keep hb
  have hH := hH.keep hb
  have hZ := hZ.keep hb
  have hB3 : Below w.heap.size w W2 := K.call hB2 hb
  clear hb hB2
  have hsz : (aw kW 64).toArray.size = 64 := by rw [List.size_toArray, aw_len]
  have hin : (Tryd.prog.info? 52).map (·.size) = some (aw kW 64).toArray.size := by rw [hsz]; exact info64W
  have h64 : 64 = (aw kW 64).toArray.size := hsz.symm
  have HIN := hide hin
  have H64 := hide h64
  clear hsz hin h64
  go_upto_region 3 with (refine wpList_store_new rfl 52 _ _ rfl _ (aw kW 64).toArray rfl rfl HIN.out H64.out (all_oneCell_toArray (aw_one _ _)) ?_)
  have hal := K.alloc (Below.refl _ W2) (.cells (aw kW 64).toArray 52)
  have hn6 : n5 < W2.heap.size := hW.lt
  have hKr := RowW.made W2 52 64 kW _ rfl
  have hH := hH.keep hal
  have hW := hW.keep hal
  have hZ := hZ.keep hal
  have hB4 : Below w.heap.size w (W2.alloc (.cells (aw kW 64).toArray 52)) := K.call hB3 hal
  clear hal hB3 HIN H64
  generalize W2.alloc (.cells (aw kW 64).toArray 52) = X3 at *
  generalize W2.heap.size = n6 at *
  have c0 := hH.c 0 (by omega)
  have c1 := hH.c 1 (by omega)
  have c2 := hH.c 2 (by omega)
  have c3 := hH.c 3 (by omega)
  have c4 := hH.c 4 (by omega)
  have c5 := hH.c 5 (by omega)
  have c6 := hH.c 6 (by omega)
  have c7 := hH.c 7 (by omega)
  have HH := hide hH
  have HZ := hide hZ
  have HW := hide hW
  have HK := hide hKr
  have HB := hide hB4
  have hn7 : n6 < X3.heap.size := hKr.lt
  clear hH hZ hW hKr hB4
  go_wp2_with fail
  clear c0 c1 c2 c3 c4 c5 c6 c7
  have hV := RowW.made X3 43 8 s.w _ (aw8 s.w).symm
  have hal := K.alloc (Below.refl _ X3) (.cells #[.int .u32 (wn (s.w 0)), .int .u32 (wn (s.w 1)), .int .u32 (wn (s.w 2)), .int .u32 (wn (s.w 3)), .int .u32 (wn (s.w 4)), .int .u32 (wn (s.w 5)), .int .u32 (wn (s.w 6)), .int .u32 (wn (s.w 7))] 43)
  have hH := HH.out.keep hal
  have hW := HW.out.keep hal
  have hZ := HZ.out.keep hal
  have hKr := HK.out.keep hal
  have hB5 : Below w.heap.size w (X3.alloc (.cells #[.int .u32 (wn (s.w 0)), .int .u32 (wn (s.w 1)), .int .u32 (wn (s.w 2)), .int .u32 (wn (s.w 3)), .int .u32 (wn (s.w 4)), .int .u32 (wn (s.w 5)), .int .u32 (wn (s.w 6)), .int .u32 (wn (s.w 7))] 43)) := K.call HB.out hal
  clear HH HW HZ HK HB hal
  generalize X3.alloc (.cells #[.int .u32 (wn (s.w 0)), .int .u32 (wn (s.w 1)), .int .u32 (wn (s.w 2)), .int .u32 (wn (s.w 3)), .int .u32 (wn (s.w 4)), .int .u32 (wn (s.w 5)), .int .u32 (wn (s.w 6)), .int .u32 (wn (s.w 7))] 43) = X4 at *
  generalize X3.heap.size = n7 at *
  go_loopg [8] 64 (fun g s8 wr => ∃ t : Nat, g = 64 - t ∧ t ≤ 64 ∧ s8 = .int .i64 t ∧ RowW wr n7 8 (rnds kW Wf s t).w ∧ RowW wr n5 64 Wf ∧ RowW wr n6 64 kW ∧ RowW wr w.heap.size 8 s.w ∧ RowW wr (w.heap.size + 1) 8 (fun _ => 0) ∧ Below w.heap.size w wr)
  case atStart => exact ⟨0, rfl, by omega, rfl, hV, hW, hKr, hH, hZ, hB5⟩
  case round =>
    clear hV hW hKr hH hZ hB5
    obtain ⟨t, rfl, ht, rfl, hV, hW, hKr, hH, hZ, hB⟩ := hrel
    by_cases hlt : t < 64
    · have v0 := hV.c 0 (by omega)
      have v1 := hV.c 1 (by omega)
      have v2 := hV.c 2 (by omega)
      have v3 := hV.c 3 (by omega)
      have v4 := hV.c 4 (by omega)
      have v5 := hV.c 5 (by omega)
      have v6 := hV.c 6 (by omega)
      have v7 := hV.c 7 (by omega)
      have ck := hKr.c t hlt
      have cw := hW.c t hlt
      have HS : Hid (rnds kW Wf s (t + 1) = rnd (rnds kW Wf s t) (kW t) (Wf t)) := rfl
      simp only [St.w] at v0 v1 v2 v3 v4 v5 v6 v7
      obtain ⟨q, hq⟩ : ∃ q, q = rnds kW Wf s t := ⟨_, rfl⟩
      have HQ : Hid (q = rnds kW Wf s t) := hq
      rw [← hq] at v0 v1 v2 v3 v4 v5 v6 v7 HS hV
      clear hq
      obtain ⟨qa, qb, qc, qd, qe, qf, qg, qh⟩ := q
      dsimp only at v0 v1 v2 v3 v4 v5 v6 v7
      have hti : (t : Int) < 64 := by omega
      have HV := hide hV
      have HW := hide hW
      have HK := hide hKr
      have HH := hide hH
      have HZ := hide hZ
      have HB := hide hB
      have HT := hide hlt
      have nt : (4294967295 : Int) - wn qe = wn (wnot qe) := wn_not qe
      have hvl := hV.lt
      clear hV hW hKr hH hZ hB ht
      generalize kW t = kt at *
      generalize Wf t = wt at *
      go_upto_region 9 with fail
      go_region_held3 (fun w' => w' = wr.drew ∧ w'.cell? ⟨n7, 7, none⟩ = some (.int .u32 (wn qh)) ∧ w'.cell? ⟨n7, 4, none⟩ = some (.int .u32 (wn qe)) ∧ w'.cell? ⟨n6, t, none⟩ = some (.int .u32 (wn kt)) ∧ w'.cell? ⟨n5, t, none⟩ = some (.int .u32 (wn wt)))
        (first | (with_reducible assumption) | exact ⟨rfl, v7, v4, ck, cw⟩)
        (first
        | (go_at_call 32; with_reducible refine Calls.mono (turned_6 qe _) ?_; rintro e w' ⟨rfl, rfl⟩)
        | (go_at_call 32; with_reducible refine Calls.mono (turned_11 qe _) ?_; rintro e w' ⟨rfl, rfl⟩)
        | (go_at_call 32; with_reducible refine Calls.mono (turned_25 qe _) ?_; rintro e w' ⟨rfl, rfl⟩))
      go_upto_region 10 with fail
      go_region_held3 (fun w' => w' = wr.drew.drew ∧ w'.cell? ⟨n7, 0, none⟩ = some (.int .u32 (wn qa)))
        (first | (with_reducible assumption) | exact ⟨rfl, v0⟩)
        (first
        | (go_at_call 32; with_reducible refine Calls.mono (turned_2 qa _) ?_; rintro e w' ⟨rfl, rfl⟩)
        | (go_at_call 32; with_reducible refine Calls.mono (turned_13 qa _) ?_; rintro e w' ⟨rfl, rfl⟩)
        | (go_at_call 32; with_reducible refine Calls.mono (turned_22 qa _) ?_; rintro e w' ⟨rfl, rfl⟩))
      go_upto_region 11 with fail
      refine wp_world (fun X hX => ?_)
      have hbX : Below wr.heap.size wr X := by rw [hX]; exact K.drew (K.drew (Below.refl _ _))
      have hV := HV.out.keep hbX
      have hW := HW.out.keep hbX
      have hKr := HK.out.keep hbX
      have hH := HH.out.keep hbX
      have hZ := HZ.out.keep hbX
      have hB : Below w.heap.size w X := K.call HB.out hbX
      clear hX hbX HV HW HK HH HZ HB v0 v1 v2 v3 v4 v5 v6 v7 ck cw
      have v0 := hV.c 0 (by omega)
      have v1 := hV.c 1 (by omega)
      have v2 := hV.c 2 (by omega)
      have v3 := hV.c 3 (by omega)
      have v4 := hV.c 4 (by omega)
      have v5 := hV.c 5 (by omega)
      have v6 := hV.c 6 (by omega)
      simp only [St.w] at v0 v1 v2 v3 v4 v5 v6
      obtain ⟨q', hq'⟩ : ∃ q' : St, q' = rnd ⟨qa, qb, qc, qd, qe, qf, qg, qh⟩ kt wt := ⟨_, rfl⟩
      have HTH := hide (there8 hV q'.w)
      have HV := hide (hV.stored q'.w)
      have HW := hide (hW.apart (g := n7) (by omega) 0 (aw q'.w 8).toArray.toList)
      have HK := hide (hKr.apart (g := n7) (by omega) 0 (aw q'.w 8).toArray.toList)
      have HH := hide (hH.apart (g := n7) (by omega) 0 (aw q'.w 8).toArray.toList)
      have HZ := hide (hZ.apart (g := n7) (by omega) 0 (aw q'.w 8).toArray.toList)
      have HB : Hid (Below w.heap.size w (X.setCells n7 0 (aw q'.w 8).toArray.toList)) := below_setCells _ _ hB (by omega)
      have HQ' : Hid (q' = rnds kW Wf s (t + 1)) := by rw [hq', HS.out]; rfl
      clear hV hW hKr hH hZ hB
      go_wp2_with (refine wpList_store_mid rfl 43 _ _ rfl n7 0 (aw q'.w 8).toArray rfl (by rw [hq']; rfl) HTH.out (in8 _) (all8 _) ?_; generalize X.setCells n7 0 (aw q'.w 8).toArray.toList = Y at HV HW HK HH HZ HB ⊢)
      go_roundg (64 - (t + 1))
      case measure => have := HT.out; omega
      case rel => exact ⟨t + 1, rfl, by have := HT.out; omega, by go_num, by rw [← HQ'.out]; exact HV.out, HW.out, HK.out, HH.out, HZ.out, HB.out⟩
    · obtain rfl : t = 64 := by omega
      obtain ⟨v, hv⟩ : ∃ v, v = rnds kW Wf s 64 := ⟨_, rfl⟩
      have HE := hide (HTK.out v hv)
      rw [← hv] at hV
      have HV := hide hV
      have HH := hide hH
      have HZ := hide hZ
      have HB := hide hB
      clear hV hW hKr hH hZ hB hlt ht hv
      go_wp2_with fail
      go_loopg [13] 8 (fun g s13 wr => ∃ i : Nat, g = 8 - i ∧ i ≤ 8 ∧ s13 = .int .i64 i ∧ RowW wr n7 8 v.w ∧ RowW wr w.heap.size 8 (addP s v i) ∧ RowW wr (w.heap.size + 1) 8 (fun _ => 0) ∧ Below w.heap.size w wr)
      case atStart => exact ⟨0, rfl, by omega, rfl, HV.out, HH.out.congr (fun j hj => by unfold addP; rw [if_neg (by omega)]), HZ.out, HB.out⟩
      case round =>
        clear HV HH HZ HB
        obtain ⟨i, rfl, hi, rfl, hV, hH, hZ, hB⟩ := hrel
        by_cases hlt : i < 8
        · have ch := hH.c i hlt
          have zh := hH.z i hlt
          have cv := hV.c i hlt
          have e1 : addP s v i i = s.w i := by unfold addP; rw [if_neg (by omega)]
          rw [e1] at ch
          have hii : (i : Int) < 8 := by omega
          have HV := hide hV
          have HH := hide hH
          have HZ := hide hZ
          have HB := hide hB
          have HI := hide hlt
          have hbl := hH.lt
          generalize hx : s.w i = x at *
          generalize hy : v.w i = y at *
          have HXY := hide (And.intro hx hy)
          clear hV hH hZ hB e1 hi hx hy
          go_upto_region 15 with fail
          apply wp_mono (Q := Only _ _)
          · go_region
            all_goals exact Only.intro _ _
          refine Only.out ?_
          clear ch zh cv
          go_wp2_with fail
          go_roundg (8 - (i + 1))
          case measure => have := HI.out; omega
          case rel => exact ⟨i + 1, rfl, by have := HI.out; omega, by go_num, (HV.out.keep (K.drew (Below.refl _ _))).other (by omega) i _, by
            have h := (HH.out.keep (K.drew (Below.refl _ _))).store i HI.out (wadd x y)
            exact h.congr (fun j hj => by
              unfold addP
              by_cases e : j = i
              · subst e; rw [if_pos rfl, if_pos (by omega), HXY.out.1, HXY.out.2]
              · rw [if_neg e]; (repeat' split) <;> first | rfl | omega), (HZ.out.keep (K.drew (Below.refl _ _))).other (by omega) i _, K.set (K.drew HB.out) (by simp) _⟩
        · obtain rfl : i = 8 := by omega
          have hH' : RowW wr w.heap.size 8 (takeB s p).w := hH.congr (fun j hj => by
            unfold addP
            rw [if_pos hj, HE.out]
            rcases (show j = 0 ∨ j = 1 ∨ j = 2 ∨ j = 3 ∨ j = 4 ∨ j = 5 ∨ j = 6 ∨ j = 7 by omega) with e | e | e | e | e | e | e | e <;> subst e <;> rfl)
          obtain ⟨r, hr⟩ : ∃ r, r = takeB s p := ⟨_, rfl⟩
          have HRE := hide hr
          rw [← hr] at hH'
          clear hr
          have HRr := hide hH'.range
          have HTH := hide (there8 hZ r.w)
          have HS := hide (hZ.stored r.w)
          have HB : Hid (Below w.heap.size w (wr.setCells (w.heap.size + 1) 0 (aw r.w 8).toArray.toList)) := below_setCells _ _ hB (by omega)
          clear hV hH hZ hB hlt hi hH'
          go_upto_region 16 with fail
          go_wp2_with (refine wpList_load_mid rfl 43 _ rfl _ 0 rfl (aw r.w 8) _ HRr.out Tryd.underlying43 rfl (il8 _) ?_; simp only [Act.put, List.setIfInBounds_toArray, List.set_cons_zero, List.set_cons_succ]; refine wpList_store_mid rfl 43 _ _ rfl (w.heap.size + 1) 0 (aw r.w 8).toArray rfl rfl HTH.out (in8 _) (all8 _) ?_; generalize wr.setCells (w.heap.size + 1) 0 (aw r.w 8).toArray.toList = X at HS HB ⊢)
          refine bodyPost_ret (results_cell_mid Tryd.results25 _ _ (w.heap.size + 1) (aw r.w 8) _ rfl HS.out.range Tryd.underlying43 rfl (il8 _)) rfl ⟨?_, HB.out⟩
          rw [HRE.out]
end Go.Proofs.YteplklbpehkdjaaDoor
