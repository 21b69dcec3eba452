/- What the document's own take answers. Rows of bytes as cells. What the program's own spread answers. What the program's own takeIn answers. Rows of bytes that may grow. Bytes that are handed in, and bytes that are appended to a row of one's own (no function of the program is named). -/
import Derived.Test.YtpokecijongkpaaDoorMB01
import Derived.Deep.RegionHeld3
import Derived.Deep.AppendLies
import Derived.OwnWalk
namespace Go.Proofs.YtpokecijongkpaaDoor
set_option maxRecDepth 100000
open Go.RowKit
attribute [local go_sem ↓] Go.wp_at_zero Go.wp_at_succ
attribute [local go_sem] wn_add wn_xor wn_wrap wn_mod wn_add' wn_and wn_or

theorem RowW.apart {w : World} {b n : Nat} {f : Nat → Wd} (h : RowW w b n f) {g : Nat} (hg : b ≠ g) (o : Nat) (vs : List Value) : RowW (w.setCells g o vs) b n f :=
  ⟨by rw [size_setCells]; exact h.lt, fun i hi => by rw [World.cell?_setCells_out g vs o w ⟨b, i, none⟩ (fun e _ => absurd e hg)]; exact h.c i hi, fun i hi => by rw [World.frozen?_setCells]; exact h.z i hi⟩
theorem zeros8 : (#[.int .u32 0, .int .u32 0, .int .u32 0, .int .u32 0, .int .u32 0, .int .u32 0, .int .u32 0, .int .u32 0] : Array Value) = (aw (fun _ => 0) 8).toArray := by kernel_rfl
theorem aw8 (f : Nat → Wd) : (aw f 8).toArray = #[.int .u32 (wn (f 0)), .int .u32 (wn (f 1)), .int .u32 (wn (f 2)), .int .u32 (wn (f 3)), .int .u32 (wn (f 4)), .int .u32 (wn (f 5)), .int .u32 (wn (f 6)), .int .u32 (wn (f 7))] := rfl
theorem all8 (f : Nat → Wd) : (aw f 8).toArray.all (·.oneCell') = true := all_oneCell_toArray (aw_one f 8)
theorem wp_world {P : Program} {c : Code} {Q : Exit → Act → World → Prop} {a : Act} {w : World} (h : ∀ w', w' = w → Code.wp P c Q a w') : Code.wp P c Q a w := h w rfl
theorem size8 (f : Nat → Wd) : (aw f 8).toArray.size = 8 := by rw [List.size_toArray, aw_len]
theorem in8 (f : Nat → Wd) : (Tryd.prog.info? 58).map (·.size) = some (aw f 8).toArray.size := by rw [size8]; exact info8W
theorem il8 (f : Nat → Wd) : (Tryd.prog.info? 58).map (·.size) = some (aw f 8).length := by rw [aw_len]; exact info8W
theorem there8 {w : World} {b : Nat} {f : Nat → Wd} (h : RowW w b 8 f) (g : Nat → Wd) : w.there b 0 (aw g 8).toArray.size := by rw [size8]; exact h.there
/-- Two rows of eight words, the first i of them added. -/
def addP (s v : St) (i j : Nat) : Wd := if j < i then wadd (s.w j) (v.w j) else s.w j

set_option maxRecDepth 100000 in
set_option maxHeartbeats 8000000 in
theorem refTake_any {b o cap : Nat} {p : Nat → Nat} (hp : ∀ i, p i < 256) (s : St) {w : World} (hD : Rd w b o 64 (fun i => ((p i : Nat) : Int))) :
    Calls Tryd.prog 40 #[.agg (aw s.w 8).toArray, .slice (some ⟨b, o, none⟩) 64 cap] w fun e w' => e = .returned (.agg (aw (takeB s p).w 8).toArray) ∧ Below w.heap.size w w' := by
  have HP : Hid (∀ i, p i < 256) := hp
  have HD : Hid (Rd w b o 64 (fun i => ((p i : Nat) : Int))) := hD
  clear hp hD
  rw [aw8 s.w]
  go_enter Tryd.func40, Tryd.ntmps40
  go_wp2_with fail
  have hH := (RowW.made w 58 8 s.w _ (aw8 s.w).symm).keep (K.alloc (Below.refl _ _) (.cells #[.int .u32 0, .int .u32 0, .int .u32 0, .int .u32 0, .int .u32 0, .int .u32 0, .int .u32 0, .int .u32 0] 58))
  have hZ := RowW.made (w.alloc (.cells #[.int .u32 (wn (s.w 0)), .int .u32 (wn (s.w 1)), .int .u32 (wn (s.w 2)), .int .u32 (wn (s.w 3)), .int .u32 (wn (s.w 4)), .int .u32 (wn (s.w 5)), .int .u32 (wn (s.w 6)), .int .u32 (wn (s.w 7))] 58)) 58 8 (fun _ => 0) _ zeros8
  have hBa : Below w.heap.size w ((w.alloc (.cells #[.int .u32 (wn (s.w 0)), .int .u32 (wn (s.w 1)), .int .u32 (wn (s.w 2)), .int .u32 (wn (s.w 3)), .int .u32 (wn (s.w 4)), .int .u32 (wn (s.w 5)), .int .u32 (wn (s.w 6)), .int .u32 (wn (s.w 7))] 58)).alloc (.cells #[.int .u32 0, .int .u32 0, .int .u32 0, .int .u32 0, .int .u32 0, .int .u32 0, .int .u32 0, .int .u32 0] 58)) := K.alloc (K.alloc (Below.refl _ _) _) _
  have hsz1 : (w.alloc (.cells #[.int .u32 (wn (s.w 0)), .int .u32 (wn (s.w 1)), .int .u32 (wn (s.w 2)), .int .u32 (wn (s.w 3)), .int .u32 (wn (s.w 4)), .int .u32 (wn (s.w 5)), .int .u32 (wn (s.w 6)), .int .u32 (wn (s.w 7))] 58)).heap.size = w.heap.size + 1 := by simp
  rw [hsz1] at hZ
  with_reducible refine Calls.mono (refWords_any HP.out (HD.out.keep hBa)) ?_
  rintro e W1 ⟨rfl, hb⟩
  have hH := hH.keep hb
  have hZ := hZ.keep hb
  have hB1 : Below w.heap.size w W1 := K.call hBa hb
  clear hb hBa hsz1 HP HD
  have HTK : Hid (∀ v : St, v = rnds kW (sched (fun t => wordP p t 4)) s 64 → takeB s p = addS s v) := fun v e => by rw [e]; rfl
  obtain ⟨Wf, hWf⟩ : ∃ Wf : Nat → Wd, Wf = sched (fun t => wordP p t 4) := ⟨_, rfl⟩
  rw [← hWf] at HTK ⊢
  clear hWf
  have hsz : (aw Wf 64).toArray.size = 64 := by rw [List.size_toArray, aw_len]
  have hin : (Tryd.prog.info? 83).map (·.size) = some (aw Wf 64).toArray.size := by rw [hsz]; exact info64W
  have h64 : 64 = (aw Wf 64).toArray.size := hsz.symm
  have HIN := hide hin
  have H64 := hide h64
  clear hsz hin h64
  go_upto_region 2 with (refine wpList_store_new rfl 83 _ _ rfl _ (aw Wf 64).toArray rfl rfl HIN.out H64.out (all_oneCell_toArray (aw_one _ _)) ?_)
  have hal := K.alloc (Below.refl _ W1) (.cells (aw Wf 64).toArray 83)
  have hW := RowW.made W1 83 64 Wf _ rfl
  have hH := hH.keep hal
  have hn5 : w.heap.size + 1 < W1.heap.size := hZ.lt
  have hZ := hZ.keep hal
  have hB2 : Below w.heap.size w (W1.alloc (.cells (aw Wf 64).toArray 83)) := K.call hB1 hal
  clear hal hB1 HIN H64
  generalize W1.alloc (.cells (aw Wf 64).toArray 83) = X2 at *
  generalize W1.heap.size = n5 at *
  go_wp2_with fail
  with_reducible refine Calls.mono (refK_any _) ?_
  rintro e W2 ⟨rfl, hb⟩
  have hW := hW.keep hb
  have hH := hH.keep hb
  have hZ := hZ.keep hb
  have hB3 : Below w.heap.size w W2 := K.call hB2 hb
  clear hb hB2
  have hsz : (aw kW 64).toArray.size = 64 := by rw [List.size_toArray, aw_len]
  have hin : (Tryd.prog.info? 83).map (·.size) = some (aw kW 64).toArray.size := by rw [hsz]; exact info64W
  have h64 : 64 = (aw kW 64).toArray.size := hsz.symm
  have HIN := hide hin
  have H64 := hide h64
  clear hsz hin h64
  go_upto_region 3 with (refine wpList_store_new rfl 83 _ _ rfl _ (aw kW 64).toArray rfl rfl HIN.out H64.out (all_oneCell_toArray (aw_one _ _)) ?_)
  have hal := K.alloc (Below.refl _ W2) (.cells (aw kW 64).toArray 83)
  have hn6 : n5 < W2.heap.size := hW.lt
  have hKr := RowW.made W2 83 64 kW _ rfl
  have hH := hH.keep hal
  have hW := hW.keep hal
  have hZ := hZ.keep hal
  have hB4 : Below w.heap.size w (W2.alloc (.cells (aw kW 64).toArray 83)) := K.call hB3 hal
  clear hal hB3 HIN H64
  generalize W2.alloc (.cells (aw kW 64).toArray 83) = X3 at *
  generalize W2.heap.size = n6 at *
  have c0 := hH.c 0 (by omega)
  have c1 := hH.c 1 (by omega)
  have c2 := hH.c 2 (by omega)
  have c3 := hH.c 3 (by omega)
  have c4 := hH.c 4 (by omega)
  have c5 := hH.c 5 (by omega)
  have c6 := hH.c 6 (by omega)
  have c7 := hH.c 7 (by omega)
  have HH := hide hH
  have HZ := hide hZ
  have HW := hide hW
  have HK := hide hKr
  have HB := hide hB4
  have hn7 : n6 < X3.heap.size := hKr.lt
  clear hH hZ hW hKr hB4
  go_wp2_with fail
  clear c0 c1 c2 c3 c4 c5 c6 c7
  have hV := RowW.made X3 58 8 s.w _ (aw8 s.w).symm
  have hal := K.alloc (Below.refl _ X3) (.cells #[.int .u32 (wn (s.w 0)), .int .u32 (wn (s.w 1)), .int .u32 (wn (s.w 2)), .int .u32 (wn (s.w 3)), .int .u32 (wn (s.w 4)), .int .u32 (wn (s.w 5)), .int .u32 (wn (s.w 6)), .int .u32 (wn (s.w 7))] 58)
  have hH := HH.out.keep hal
  have hW := HW.out.keep hal
  have hZ := HZ.out.keep hal
  have hKr := HK.out.keep hal
  have hB5 : Below w.heap.size w (X3.alloc (.cells #[.int .u32 (wn (s.w 0)), .int .u32 (wn (s.w 1)), .int .u32 (wn (s.w 2)), .int .u32 (wn (s.w 3)), .int .u32 (wn (s.w 4)), .int .u32 (wn (s.w 5)), .int .u32 (wn (s.w 6)), .int .u32 (wn (s.w 7))] 58)) := K.call HB.out hal
  clear HH HW HZ HK HB hal
  generalize X3.alloc (.cells #[.int .u32 (wn (s.w 0)), .int .u32 (wn (s.w 1)), .int .u32 (wn (s.w 2)), .int .u32 (wn (s.w 3)), .int .u32 (wn (s.w 4)), .int .u32 (wn (s.w 5)), .int .u32 (wn (s.w 6)), .int .u32 (wn (s.w 7))] 58) = X4 at *
  generalize X3.heap.size = n7 at *
  go_loopg [8] 64 (fun g s8 wr => ∃ t : Nat, g = 64 - t ∧ t ≤ 64 ∧ s8 = .int .i64 t ∧ RowW wr n7 8 (rnds kW Wf s t).w ∧ RowW wr n5 64 Wf ∧ RowW wr n6 64 kW ∧ RowW wr w.heap.size 8 s.w ∧ RowW wr (w.heap.size + 1) 8 (fun _ => 0) ∧ Below w.heap.size w wr)
  case atStart => exact ⟨0, rfl, by omega, rfl, hV, hW, hKr, hH, hZ, hB5⟩
  case round =>
    clear hV hW hKr hH hZ hB5
    obtain ⟨t, rfl, ht, rfl, hV, hW, hKr, hH, hZ, hB⟩ := hrel
    by_cases hlt : t < 64
    · have v0 := hV.c 0 (by omega)
      have v1 := hV.c 1 (by omega)
      have v2 := hV.c 2 (by omega)
      have v3 := hV.c 3 (by omega)
      have v4 := hV.c 4 (by omega)
      have v5 := hV.c 5 (by omega)
      have v6 := hV.c 6 (by omega)
      have v7 := hV.c 7 (by omega)
      have ck := hKr.c t hlt
      have cw := hW.c t hlt
      have HS : Hid (rnds kW Wf s (t + 1) = rnd (rnds kW Wf s t) (kW t) (Wf t)) := rfl
      simp only [St.w] at v0 v1 v2 v3 v4 v5 v6 v7
      obtain ⟨q, hq⟩ : ∃ q, q = rnds kW Wf s t := ⟨_, rfl⟩
      have HQ : Hid (q = rnds kW Wf s t) := hq
      rw [← hq] at v0 v1 v2 v3 v4 v5 v6 v7 HS hV
      clear hq
      obtain ⟨qa, qb, qc, qd, qe, qf, qg, qh⟩ := q
      dsimp only at v0 v1 v2 v3 v4 v5 v6 v7
      have hti : (t : Int) < 64 := by omega
      have HV := hide hV
      have HW := hide hW
      have HK := hide hKr
      have HH := hide hH
      have HZ := hide hZ
      have HB := hide hB
      have HT := hide hlt
      have nt : (4294967295 : Int) - wn qe = wn (wnot qe) := wn_not qe
      have hvl := hV.lt
      clear hV hW hKr hH hZ hB ht
      generalize kW t = kt at *
      generalize Wf t = wt at *
      go_upto_region 9 with fail
      go_region_held3 (fun w' => w' = wr.drew ∧ w'.cell? ⟨n7, 7, none⟩ = some (.int .u32 (wn qh)) ∧ w'.cell? ⟨n7, 4, none⟩ = some (.int .u32 (wn qe)) ∧ w'.cell? ⟨n6, t, none⟩ = some (.int .u32 (wn kt)) ∧ w'.cell? ⟨n5, t, none⟩ = some (.int .u32 (wn wt)))
        (first | (with_reducible assumption) | exact ⟨rfl, v7, v4, ck, cw⟩)
        (first
        | (go_at_call 55; with_reducible refine Calls.mono (turned_6 qe _) ?_; rintro e w' ⟨rfl, rfl⟩)
        | (go_at_call 55; with_reducible refine Calls.mono (turned_11 qe _) ?_; rintro e w' ⟨rfl, rfl⟩)
        | (go_at_call 55; with_reducible refine Calls.mono (turned_25 qe _) ?_; rintro e w' ⟨rfl, rfl⟩))
      go_upto_region 10 with fail
      go_region_held3 (fun w' => w' = wr.drew.drew ∧ w'.cell? ⟨n7, 0, none⟩ = some (.int .u32 (wn qa)))
        (first | (with_reducible assumption) | exact ⟨rfl, v0⟩)
        (first
        | (go_at_call 55; with_reducible refine Calls.mono (turned_2 qa _) ?_; rintro e w' ⟨rfl, rfl⟩)
        | (go_at_call 55; with_reducible refine Calls.mono (turned_13 qa _) ?_; rintro e w' ⟨rfl, rfl⟩)
        | (go_at_call 55; with_reducible refine Calls.mono (turned_22 qa _) ?_; rintro e w' ⟨rfl, rfl⟩))
      go_upto_region 11 with fail
      refine wp_world (fun X hX => ?_)
      have hbX : Below wr.heap.size wr X := by rw [hX]; exact K.drew (K.drew (Below.refl _ _))
      have hV := HV.out.keep hbX
      have hW := HW.out.keep hbX
      have hKr := HK.out.keep hbX
      have hH := HH.out.keep hbX
      have hZ := HZ.out.keep hbX
      have hB : Below w.heap.size w X := K.call HB.out hbX
      clear hX hbX HV HW HK HH HZ HB v0 v1 v2 v3 v4 v5 v6 v7 ck cw
      have v0 := hV.c 0 (by omega)
      have v1 := hV.c 1 (by omega)
      have v2 := hV.c 2 (by omega)
      have v3 := hV.c 3 (by omega)
      have v4 := hV.c 4 (by omega)
      have v5 := hV.c 5 (by omega)
      have v6 := hV.c 6 (by omega)
      simp only [St.w] at v0 v1 v2 v3 v4 v5 v6
      obtain ⟨q', hq'⟩ : ∃ q' : St, q' = rnd ⟨qa, qb, qc, qd, qe, qf, qg, qh⟩ kt wt := ⟨_, rfl⟩
      have HTH := hide (there8 hV q'.w)
      have HV := hide (hV.stored q'.w)
      have HW := hide (hW.apart (g := n7) (by omega) 0 (aw q'.w 8).toArray.toList)
      have HK := hide (hKr.apart (g := n7) (by omega) 0 (aw q'.w 8).toArray.toList)
      have HH := hide (hH.apart (g := n7) (by omega) 0 (aw q'.w 8).toArray.toList)
      have HZ := hide (hZ.apart (g := n7) (by omega) 0 (aw q'.w 8).toArray.toList)
      have HB : Hid (Below w.heap.size w (X.setCells n7 0 (aw q'.w 8).toArray.toList)) := below_setCells _ _ hB (by omega)
      have HQ' : Hid (q' = rnds kW Wf s (t + 1)) := by rw [hq', HS.out]; rfl
      clear hV hW hKr hH hZ hB
      go_wp2_with (refine wpList_store_mid rfl 58 _ _ rfl n7 0 (aw q'.w 8).toArray rfl (by rw [hq']; rfl) HTH.out (in8 _) (all8 _) ?_; generalize X.setCells n7 0 (aw q'.w 8).toArray.toList = Y at HV HW HK HH HZ HB ⊢)
      go_roundg (64 - (t + 1))
      case measure => have := HT.out; omega
      case rel => exact ⟨t + 1, rfl, by have := HT.out; omega, by go_num, by rw [← HQ'.out]; exact HV.out, HW.out, HK.out, HH.out, HZ.out, HB.out⟩
    · obtain rfl : t = 64 := by omega
      obtain ⟨v, hv⟩ : ∃ v, v = rnds kW Wf s 64 := ⟨_, rfl⟩
      have HE := hide (HTK.out v hv)
      rw [← hv] at hV
      have HV := hide hV
      have HH := hide hH
      have HZ := hide hZ
      have HB := hide hB
      clear hV hW hKr hH hZ hB hlt ht hv
      go_wp2_with fail
      go_loopg [13] 8 (fun g s13 wr => ∃ i : Nat, g = 8 - i ∧ i ≤ 8 ∧ s13 = .int .i64 i ∧ RowW wr n7 8 v.w ∧ RowW wr w.heap.size 8 (addP s v i) ∧ RowW wr (w.heap.size + 1) 8 (fun _ => 0) ∧ Below w.heap.size w wr)
      case atStart => exact ⟨0, rfl, by omega, rfl, HV.out, HH.out.congr (fun j hj => by unfold addP; rw [if_neg (by omega)]), HZ.out, HB.out⟩
      case round =>
        clear HV HH HZ HB
        obtain ⟨i, rfl, hi, rfl, hV, hH, hZ, hB⟩ := hrel
        by_cases hlt : i < 8
        · have ch := hH.c i hlt
          have zh := hH.z i hlt
          have cv := hV.c i hlt
          have e1 : addP s v i i = s.w i := by unfold addP; rw [if_neg (by omega)]
          rw [e1] at ch
          have hii : (i : Int) < 8 := by omega
          have HV := hide hV
          have HH := hide hH
          have HZ := hide hZ
          have HB := hide hB
          have HI := hide hlt
          have hbl := hH.lt
          generalize hx : s.w i = x at *
          generalize hy : v.w i = y at *
          have HXY := hide (And.intro hx hy)
          clear hV hH hZ hB e1 hi hx hy
          go_upto_region 15 with fail
          apply wp_mono (Q := Only _ _)
          · go_region
            all_goals exact Only.intro _ _
          refine Only.out ?_
          clear ch zh cv
          go_wp2_with fail
          go_roundg (8 - (i + 1))
          case measure => have := HI.out; omega
          case rel => exact ⟨i + 1, rfl, by have := HI.out; omega, by go_num, (HV.out.keep (K.drew (Below.refl _ _))).other (by omega) i _, by
            have h := (HH.out.keep (K.drew (Below.refl _ _))).store i HI.out (wadd x y)
            exact h.congr (fun j hj => by
              unfold addP
              by_cases e : j = i
              · subst e; rw [if_pos rfl, if_pos (by omega), HXY.out.1, HXY.out.2]
              · rw [if_neg e]; (repeat' split) <;> first | rfl | omega), (HZ.out.keep (K.drew (Below.refl _ _))).other (by omega) i _, K.set (K.drew HB.out) (by simp) _⟩
        · obtain rfl : i = 8 := by omega
          have hH' : RowW wr w.heap.size 8 (takeB s p).w := hH.congr (fun j hj => by
            unfold addP
            rw [if_pos hj, HE.out]
            rcases (show j = 0 ∨ j = 1 ∨ j = 2 ∨ j = 3 ∨ j = 4 ∨ j = 5 ∨ j = 6 ∨ j = 7 by omega) with e | e | e | e | e | e | e | e <;> subst e <;> rfl)
          obtain ⟨r, hr⟩ : ∃ r, r = takeB s p := ⟨_, rfl⟩
          have HRE := hide hr
          rw [← hr] at hH'
          clear hr
          have HRr := hide hH'.range
          have HTH := hide (there8 hZ r.w)
          have HS := hide (hZ.stored r.w)
          have HB : Hid (Below w.heap.size w (wr.setCells (w.heap.size + 1) 0 (aw r.w 8).toArray.toList)) := below_setCells _ _ hB (by omega)
          clear hV hH hZ hB hlt hi hH'
          go_upto_region 16 with fail
          go_wp2_with (refine wpList_load_mid rfl 58 _ rfl _ 0 rfl (aw r.w 8) _ HRr.out Tryd.underlying58 rfl (il8 _) ?_; simp only [Act.put, List.setIfInBounds_toArray, List.set_cons_zero, List.set_cons_succ]; refine wpList_store_mid rfl 58 _ _ rfl (w.heap.size + 1) 0 (aw r.w 8).toArray rfl rfl HTH.out (in8 _) (all8 _) ?_; generalize wr.setCells (w.heap.size + 1) 0 (aw r.w 8).toArray.toList = X at HS HB ⊢)
          refine bodyPost_ret (results_cell_mid Tryd.results40 _ _ (w.heap.size + 1) (aw r.w 8) _ rfl HS.out.range Tryd.underlying58 rfl (il8 _)) rfl ⟨?_, HB.out⟩
          rw [HRE.out]
end Go.Proofs.YtpokecijongkpaaDoor
namespace Go.Proofs.YtpokecijongkpaaDoor
set_option maxRecDepth 100000
open Go.RowKit

/-- n bytes, as cells. -/
def ab (f : Nat → Nat) (n : Nat) : List Value := (List.range n).map (fun t => Value.int .u8 ((f t : Nat) : Int))
theorem ab_len (f : Nat → Nat) (n : Nat) : (ab f n).length = n := by simp [ab]
theorem ab_at (f : Nat → Nat) {n i : Nat} (h : i < n) : (ab f n)[i]? = some (.int .u8 ((f i : Nat) : Int)) := by simp [ab, h]
theorem ab_one (f : Nat → Nat) (n : Nat) : ∀ v ∈ ab f n, v.oneCell' = true := by
  intro v hv
  simp only [ab, List.mem_map] at hv
  obtain ⟨i, _, rfl⟩ := hv
  rfl
abbrev RowB (w : World) (b n : Nat) (f : Nat → Nat) : Prop := Row8 w b n (fun i => ((f i : Nat) : Int))
theorem RowB.range {w : World} {b n : Nat} {f : Nat → Nat} (h : RowB w b n f) : w.rangeAt b 0 (ab f n) := fun j v hv => by
  have hj : j < n := by
    rcases Nat.lt_or_ge j n with h' | h'
    · exact h'
    · rw [List.getElem?_eq_none (by rw [ab_len]; exact h')] at hv; cases hv
  rw [ab_at f hj] at hv
  rw [Nat.zero_add, h.c j hj]; exact hv
theorem RowB.there {w : World} {b n : Nat} {f : Nat → Nat} (h : RowB w b n f) (g : Nat → Nat) : w.there b 0 (ab g n).toArray.size := by
  rw [List.size_toArray, ab_len]
  intro j hj
  rw [Nat.zero_add, h.c j hj, h.z j hj]; exact ⟨rfl, rfl⟩
theorem RowB.stored {w : World} {b n : Nat} {f : Nat → Nat} (h : RowB w b n f) (g : Nat → Nat) : RowB (w.setCells b 0 (ab g n)) b n g := by
  have ht := h.there g
  rw [List.size_toArray] at ht
  have hr := World.rangeAt_setCells_same w b 0 (ab g n) ht
  refine ⟨by rw [size_setCells]; exact h.lt, fun i hi => ?_, fun i hi => by rw [World.frozen?_setCells]; exact h.z i hi⟩
  have := hr i _ (ab_at g hi)
  rwa [Nat.zero_add] at this
theorem Row8.apart {w : World} {b n : Nat} {f : Nat → Int} (h : Row8 w b n f) {g : Nat} (hg : b ≠ g) (o : Nat) (vs : List Value) : Row8 (w.setCells g o vs) b n f :=
  ⟨by rw [size_setCells]; exact h.lt, fun i hi => by rw [World.cell?_setCells_out g vs o w ⟨b, i, none⟩ (fun e _ => absurd e hg)]; exact h.c i hi, fun i hi => by rw [World.frozen?_setCells]; exact h.z i hi⟩
theorem Rd.apart {w : World} {b o n : Nat} {f : Nat → Int} (h : Rd w b o n f) {g : Nat} (hg : b ≠ g) (u : Nat) (vs : List Value) : Rd (w.setCells g u vs) b o n f :=
  ⟨fun i hi => by rw [World.cell?_setCells_out g vs u w ⟨b, o + i, none⟩ (fun e _ => absurd e hg)]; exact h.c i hi⟩
theorem RowB.made (w : World) (t : TypeId) (n : Nat) (f : Nat → Nat) (cs : Array Value) (h : cs = (ab f n).toArray) : RowB (w.alloc (.cells cs t)) w.heap.size n f := by
  subst h
  refine ⟨by simp, fun i hi => ?_, fun i _ => ?_⟩
  · rw [cell_of_row _ _ _ _ _ _ (heap_alloc_new w _)]
    have := ab_at f hi
    simpa using this
  · exact frozen_of_row _ _ _ _ _ (heap_alloc_new w _)
theorem row8_other {w : World} {b n : Nat} {f : Nat → Int} (h : Row8 w b n f) {g : Nat} (hg : b ≠ g) (k : Nat) (v : Value) : Row8 (w.setCell ⟨g, k, none⟩ v) b n f :=
  ⟨by simpa using h.lt, fun i hi => by rw [World.cell?_setCell_other _ _ _ _ (by intro e; injection e with e1; exact hg e1.symm)]; exact h.c i hi, fun i hi => by rw [World.frozen?_setCell]; exact h.z i hi⟩
theorem zeros32 : (#[.int .u8 0, .int .u8 0, .int .u8 0, .int .u8 0, .int .u8 0, .int .u8 0, .int .u8 0, .int .u8 0, .int .u8 0, .int .u8 0, .int .u8 0, .int .u8 0, .int .u8 0, .int .u8 0, .int .u8 0, .int .u8 0, .int .u8 0, .int .u8 0, .int .u8 0, .int .u8 0, .int .u8 0, .int .u8 0, .int .u8 0, .int .u8 0, .int .u8 0, .int .u8 0, .int .u8 0, .int .u8 0, .int .u8 0, .int .u8 0, .int .u8 0, .int .u8 0] : Array Value) = (ab (fun _ => 0) 32).toArray := by kernel_rfl
theorem infoH : (Tryd.prog.info? 24).map (·.size) = some 32 := by kernel_rfl
theorem inH (f : Nat → Nat) : (Tryd.prog.info? 24).map (·.size) = some (ab f 32).toArray.size := by rw [List.size_toArray, ab_len]; exact infoH
theorem ilH (f : Nat → Nat) : (Tryd.prog.info? 24).map (·.size) = some (ab f 32).length := by rw [ab_len]; exact infoH
end Go.Proofs.YtpokecijongkpaaDoor
namespace Go.Proofs.YtpokecijongkpaaDoor
set_option maxRecDepth 100000
open Go.RowKit
attribute [local go_sem ↓] Go.wp_at_zero Go.wp_at_succ
attribute [local go_sem] wn_add wn_xor wn_wrap wn_mod wn_add' wn_or

theorem infoBlk : (Tryd.prog.info? 69).map (·.size) = some 64 := by kernel_rfl
theorem ilBlk (f : Nat → Nat) : (Tryd.prog.info? 69).map (·.size) = some (ab f 64).length := by rw [ab_len]; exact infoBlk
/-- An array by value, one byte of it. -/
theorem run_index_ab (f : Nat → Nat) {i : Nat} (hi : i < 64) (w : World) : (Instr.index 69 (.agg (ab f 64).toArray) (.int .i64 (i : Int))).run Tryd.prog w = .ok (.int .u8 ((f i : Nat) : Int)) w := by
  have hx : (ab f 64).toArray[i]? = some (.int .u8 ((f i : Nat) : Int)) := by have := ab_at f hi; simpa using this
  have he : Tryd.prog.plainKey 5 = true := by kernel_rfl
  have h1 : (sizeOf 5).run Tryd.prog w = .ok 1 w := by
    obtain ⟨i, hi⟩ := Option.isSome_iff_exists.1 (show (Tryd.prog.info? 5).isSome = true by kernel_rfl)
    have : (Tryd.prog.info? 5).map (·.size) = some 1 := by kernel_rfl
    rw [hi] at this
    simp [sizeOf, typeInfo, hi]
    simpa using this
  have h2 := run_part_plain w he hx
  simp [Instr.index, asIntOf, run_underlying Tryd.underlying69, h1, h2, hi]
theorem wpList_index {P : Program} {w : World} {ops : Array Oper} {rest : List Oper} {op : Oper} {a : Act} {Q : Exit → Act → World → Prop} (hgd : op.guard = none) (t : TypeId) (x y : Operand) (ho : op.op = .index t x y)
    (X Y v : Value) (hx : a.eval x = X) (hy : a.eval y = Y) (hr : (Instr.index t X Y).run P w = .ok v w) (h : wpList P ops Q rest (a.put op.dst v) w) : wpList P ops Q (op :: rest) a w := by
  refine wpList_plain hgd fun K hK => ?_
  unfold Oper.wp execOp
  simp only [ho, hx, hy, Sem.run_bind, Sem.run_pure, Result.andThen_ok, hr]
  exact hK _ _ h
set_option maxRecDepth 100000 in
set_option maxHeartbeats 8000000 in
theorem spread_any {p : Nat → Nat} (hp : ∀ i, p i < 256) (w : World) :
    Calls Tryd.prog 65 #[.agg (ab p 64).toArray] w fun e w' => e = .returned (.agg (aw (sched (fun t => wordP p t 4)) 64).toArray) ∧ Below w.heap.size w w' := by
  have HP : Hid (∀ i, p i < 256) := hp
  clear hp
  have HIX : Hid (∀ (i : Nat), i < 64 → ∀ W : World, (Instr.index 69 (.agg (ab p 64).toArray) (.int .i64 (i : Int))).run Tryd.prog W = .ok (.int .u8 ((p i : Nat) : Int)) W) := fun i hi W => run_index_ab p hi W
  have HMA : Hid (∀ W : World, RowB (W.alloc (.cells (ab p 64).toArray 69)) W.heap.size 64 p) := fun W => RowB.made W _ 64 p _ rfl
  have HRG : Hid (∀ (W : World) (b : Nat), RowB W b 64 p → W.rangeAt b 0 (ab p 64)) := fun W b h => RowB.range h
  have HIL := hide (ilBlk p)
  obtain ⟨A, hA⟩ : ∃ A, A = ab p 64 := ⟨_, rfl⟩
  rw [← hA] at HIX HMA HRG HIL ⊢
  clear hA
  go_enter Tryd.func65, Tryd.ntmps65
  go_upto_region 2 with fail
  refine wp_world (fun X hX => ?_)
  have hB : Below w.heap.size w X := by rw [hX]; exact K.alloc (K.alloc (K.alloc (Below.refl _ _) _) _) _
  have hR : RowB X w.heap.size 64 p := by rw [hX]; exact (HMA.out w).keep (K.alloc (K.alloc (Below.refl _ _) _) _)
  have hZ : RowW X (w.heap.size + 1) 64 (fun _ => 0) := by
    have h := (RowW.made (w.alloc (.cells A.toArray 69)) 83 64 (fun _ => 0) _ zeros64).keep (K.alloc (Below.refl _ _) (.cells (aw (fun _ => 0) 64).toArray 83))
    rw [← zeros64] at h
    rw [hX]
    simpa using h
  have hW : RowW X (w.heap.size + 1 + 1) 64 (fun _ => 0) := by
    have h := RowW.made ((w.alloc (.cells A.toArray 69)).alloc (.cells (aw (fun _ => 0) 64).toArray 83)) 83 64 (fun _ => 0) _ zeros64
    rw [← zeros64] at h
    rw [hX]
    simpa using h
  clear hX
  have HRr := hide (HRG.out X _ hR)
  have hW := hW.congr (g := w1 p 0 0) (fun i _ => by unfold w1; rw [if_neg (by omega)]; split <;> rfl)
  generalize hb0 : w.heap.size = b0 at *
  have HW := hide hW
  have HZ := hide hZ
  have HB := hide hB
  clear hR hW hZ hB
  go_wp2_with (refine wpList_load_mid rfl 69 _ rfl _ 0 rfl A _ HRr.out Tryd.underlying69 rfl HIL.out ?_; simp only [Act.put, List.setIfInBounds_toArray, List.set_cons_zero, List.set_cons_succ])
  go_loopg [12] 64 (fun g s12 wr => ∃ t : Nat, g = 64 - t ∧ t ≤ 64 ∧ s12 = .int .i64 t ∧ RowW wr (b0 + 1) 64 (fun _ => 0) ∧ RowW wr (b0 + 1 + 1) 64 (w1 p (t / 4) (t % 4)) ∧ Below b0 w wr)
  case atStart => exact ⟨0, rfl, by omega, rfl, HZ.out, HW.out, HB.out⟩
  case round =>
    clear HW HZ HB HRr HIL HMA HRG
    obtain ⟨t, rfl, ht, rfl, hZ, hW, hB⟩ := hrel
    by_cases hlt : t < 64
    · obtain ⟨q, hq⟩ : ∃ q, q = t / 4 := ⟨_, rfl⟩
      obtain ⟨r, hr⟩ : ∃ r, r = t % 4 := ⟨_, rfl⟩
      have HQ := hide (show t = 4 * q + r ∧ r < 4 ∧ q < 16 from by omega)
      rw [← hq, ← hr] at hW
      have cq := hW.c q (by omega)
      have zq := hW.z q (by omega)
      have e1 : w1 p q r q = wordP p q r := by unfold w1; rw [if_neg (by omega), if_pos rfl]
      rw [e1] at cq
      obtain ⟨y, hy⟩ : ∃ y : Wd, y = BitVec.ofNat 32 (p t) := ⟨_, rfl⟩
      have hix := HIX.out t hlt
      rw [← wn_of (p t) (by have := HP.out t; omega), ← hy] at hix
      have HX : Hid (wor (wshl (wordP p q r) 8) y = wordP p q (r + 1)) := by
        show _ = _
        rw [hy, shl8_or _ _ (HP.out t), HQ.out.1]; rfl
      obtain ⟨x, hx'⟩ : ∃ x : Wd, x = wordP p q r := ⟨_, rfl⟩
      rw [← hx'] at cq HX
      have hti : (t : Int) < 64 := by omega
      have q1 : (t : Int) / 4 = (q : Int) := by omega
      have q2 : (t : Int).tdiv 4 = (q : Int) := by rw [Int.tdiv_eq_ediv_of_nonneg (by omega)]; omega
      have q3 : (q : Int) < 64 := by omega
      have q4 : q < 64 := by omega
      have q5 : IntKind.i64.wrap (q : Int) = (q : Int) := by rw [IntKind.wrap_i64]; omega
      have s1 : wn x <<< 8 % 4294967296 = wn (wshl x 8) := wn_shl' x 8
      have s2 : wn x * 256 % 4294967296 = wn (wshl x 8) := wn_shl x 8
      have HZ := hide hZ
      have HW := hide hW
      have HB := hide hB
      have hbl := hW.lt
      have HT := hide hlt
      have HIXt := hide hix
      clear hZ hW hB hq hr e1 hy hx' ht hlt hix
      go_wp2_with (refine wpList_index rfl 69 _ _ rfl _ _ _ rfl rfl (HIXt.out _) ?_)
      go_roundg (64 - (t + 1))
      case measure => have := HT.out; omega
      case rel => exact ⟨t + 1, rfl, by have := HT.out; omega, by go_num, HZ.out.other (by omega) q _, by
        have h := HW.out.store q q4 (wor (wshl x 8) y)
        rw [HX.out] at h ⊢
        have hq := HQ.out
        by_cases e : r = 3
        · refine h.congr (fun j hj => ?_)
          rw [show (t + 1) / 4 = q + 1 by omega, show (t + 1) % 4 = 0 by omega]
          unfold w1
          subst e
          (repeat' split) <;> first | rfl | omega | (subst_vars; rfl)
        · refine h.congr (fun j hj => ?_)
          rw [show (t + 1) / 4 = q by omega, show (t + 1) % 4 = r + 1 by omega]
          unfold w1
          (repeat' split) <;> first | rfl | omega | (subst_vars; rfl), by
        have := hb0
        exact hb0 ▸ K.set (hb0 ▸ HB.out) (by simp; omega) _⟩
    · obtain rfl : t = 64 := by omega
      have HZ := hide hZ
      have HW : Hid (RowW wr (b0 + 1 + 1) 64 (w2 (fun t => wordP p t 4) 16)) := hW.congr (fun j hj => by unfold w1 w2; (repeat' split) <;> first | rfl | omega | (rw [sched_low _ (by assumption)]))
      have HB := hide hB
      clear hZ hW hB hlt ht HIX
      obtain ⟨m, hm⟩ : ∃ m : Nat → Wd, m = fun t => wordP p t 4 := ⟨_, rfl⟩
      have HM : Hid (m = fun t => wordP p t 4) := hm
      rw [← hm] at HW
      clear hm
      go_wp2_with fail
      go_loopg [6] 48 (fun g s6 wr => ∃ t : Nat, g = 64 - t ∧ 16 ≤ t ∧ t ≤ 64 ∧ s6 = .int .i64 t ∧ RowW wr (b0 + 1) 64 (fun _ => 0) ∧ RowW wr (b0 + 1 + 1) 64 (w2 m t) ∧ Below b0 w wr)
      case atStart => exact ⟨16, rfl, by omega, by omega, rfl, HZ.out, HW.out, HB.out⟩
      case round =>
        clear HZ HW HB
        obtain ⟨t, rfl, h16, ht, rfl, hZ, hW, hB⟩ := hrel
        by_cases hlt : t < 64
        · have c15 := hW.c (t - 15) (by omega)
          have c2 := hW.c (t - 2) (by omega)
          have c7 := hW.c (t - 7) (by omega)
          have c16 := hW.c (t - 16) (by omega)
          have ct := hW.c t hlt
          have zt := hW.z t hlt
          have e15 : w2 m t (t - 15) = sched m (t - 15) := by unfold w2; rw [if_pos (by omega)]
          have e2 : w2 m t (t - 2) = sched m (t - 2) := by unfold w2; rw [if_pos (by omega)]
          have e7 : w2 m t (t - 7) = sched m (t - 7) := by unfold w2; rw [if_pos (by omega)]
          have e16 : w2 m t (t - 16) = sched m (t - 16) := by unfold w2; rw [if_pos (by omega)]
          rw [e15] at c15
          rw [e2] at c2
          rw [e7] at c7
          rw [e16] at c16
          have HX : Hid (wadd (wadd (wadd (wxor (wxor (rotr (sched m (t - 2)) 17) (rotr (sched m (t - 2)) 19)) (wshr (sched m (t - 2)) 10)) (sched m (t - 7))) (wxor (wxor (rotr (sched m (t - 15)) 7) (rotr (sched m (t - 15)) 18)) (wshr (sched m (t - 15)) 3))) (sched m (t - 16)) = sched m t) := by
            exact (sched_up m (t := t) (by omega)).symm
          generalize sched m (t - 15) = x at *
          generalize sched m (t - 2) = y at *
          generalize sched m (t - 7) = u at *
          generalize sched m (t - 16) = v at *
          have i15 : (t : Int) - 15 = ((t - 15 : Nat) : Int) := by omega
          have i2 : (t : Int) - 2 = ((t - 2 : Nat) : Int) := by omega
          have i7 : (t : Int) - 7 = ((t - 7 : Nat) : Int) := by omega
          have i16 : (t : Int) - 16 = ((t - 16 : Nat) : Int) := by omega
          have b15 : t - 15 < 64 := by omega
          have b2 : t - 2 < 64 := by omega
          have b7 : t - 7 < 64 := by omega
          have b16 : t - 16 < 64 := by omega
          have hti : (t : Int) < 64 := by omega
          have HT : Hid (t < 64 ∧ 16 ≤ t) := ⟨hlt, h16⟩
          obtain ⟨t15, ht15⟩ : ∃ k, k = t - 15 := ⟨_, rfl⟩
          obtain ⟨t2, ht2⟩ : ∃ k, k = t - 2 := ⟨_, rfl⟩
          obtain ⟨t7, ht7⟩ : ∃ k, k = t - 7 := ⟨_, rfl⟩
          obtain ⟨t16, ht16⟩ : ∃ k, k = t - 16 := ⟨_, rfl⟩
          rw [← ht15] at c15 i15 b15
          rw [← ht2] at c2 i2 b2
          rw [← ht7] at c7 i7 b7
          rw [← ht16] at c16 i16 b16
          have j15 : (t15 : Int) < 64 := by omega
          have j2 : (t2 : Int) < 64 := by omega
          have j7 : (t7 : Int) < 64 := by omega
          have j16 : (t16 : Int) < 64 := by omega
          have k15 : IntKind.i64.wrap (t15 : Int) = (t15 : Int) := by rw [IntKind.wrap_i64]; omega
          have k2 : IntKind.i64.wrap (t2 : Int) = (t2 : Int) := by rw [IntKind.wrap_i64]; omega
          have k7 : IntKind.i64.wrap (t7 : Int) = (t7 : Int) := by rw [IntKind.wrap_i64]; omega
          have k16 : IntKind.i64.wrap (t16 : Int) = (t16 : Int) := by rw [IntKind.wrap_i64]; omega
          have d3 : wn x / 8 = wn (wshr x 3) := wn_shr x 3
          have d10 : wn y / 1024 = wn (wshr y 10) := wn_shr y 10
          have HZ := hide hZ
          have HW := hide hW
          have HB := hide hB
          have hbl := hW.lt
          clear hZ hW hB hlt ht h16 e15 e2 e7 e16 ht15 ht2 ht7 ht16
          go_upto_region 10 with fail
          apply wp_mono (Q := Only _ _)
          · go_region
            all_goals exact Only.intro _ _
          refine Only.out ?_
          go_upto_region 11 with fail
          refine wp_world (fun X hX => ?_)
          have hbX : Below wr.heap.size wr X := by rw [hX]; exact K.drew (Below.refl _ _)
          have HZ := hide (HZ.out.keep hbX)
          have HW := hide (HW.out.keep hbX)
          have HB : Hid (Below b0 w X) := by subst hb0; exact K.call HB.out hbX
          clear c15 c2
          have c7 := later hbX c7
          have c16 := later hbX c16
          have ct := later hbX ct
          have zt := HW.out.z t HT.out.1
          have hbl := HW.out.lt
          clear hX hbX
          go_wp2_with (first
            | (go_at_call 66; with_reducible refine Calls.mono (right_7 x _) ?_; rintro e w' ⟨rfl, rfl⟩)
            | (go_at_call 66; with_reducible refine Calls.mono (right_18 x _) ?_; rintro e w' ⟨rfl, rfl⟩)
            | (go_at_call 66; with_reducible refine Calls.mono (right_17 y _) ?_; rintro e w' ⟨rfl, rfl⟩)
            | (go_at_call 66; with_reducible refine Calls.mono (right_19 y _) ?_; rintro e w' ⟨rfl, rfl⟩))
          apply wp_mono (Q := Only _ _)
          · go_region
            all_goals exact Only.intro _ _
          refine Only.out ?_
          clear c7 c16 ct zt
          go_wp2_with fail
          go_roundg (64 - (t + 1))
          case measure => have := HT.out; omega
          case rel => exact ⟨t + 1, rfl, by have := HT.out; omega, by have := HT.out; omega, by go_num, (HZ.out.keep (K.drew (Below.refl _ _))).other (by omega) t _, by
            have h := (HW.out.keep (K.drew (Below.refl _ _))).store t HT.out.1 (wadd (wadd (wadd (wxor (wxor (rotr y 17) (rotr y 19)) (wshr y 10)) u) (wxor (wxor (rotr x 7) (rotr x 18)) (wshr x 3))) v)
            rw [HX.out] at h ⊢
            exact h.congr (fun j hj => by unfold w2; (repeat' split) <;> first | rfl | omega | (subst_vars; rfl)), by
            subst hb0
            exact K.set (K.drew HB.out) (by simp; omega) _⟩
        · obtain rfl : t = 64 := by omega
          have hW' : RowW wr (b0 + 1 + 1) 64 (sched m) := hW.congr (fun j hj => by unfold w2; rw [if_pos hj])
          have hr := hW'.range
          have hsz : (aw (sched m) 64).toArray.size = 64 := by rw [List.size_toArray, aw_len]
          have hth : wr.there (b0 + 1) 0 (aw (sched m) 64).toArray.size := by rw [hsz]; exact hZ.there
          have hin : (Tryd.prog.info? 83).map (·.size) = some (aw (sched m) 64).toArray.size := by rw [hsz]; exact info64W
          have hil : (Tryd.prog.info? 83).map (·.size) = some (aw (sched m) 64).length := by rw [aw_len]; exact info64W
          have HH := hide hth
          have HI := hide hin
          have HL := hide hil
          have HRr := hide hr
          clear hth hin hil hr hsz
          have HS : Hid (RowW (wr.setCells (b0 + 1) 0 (aw (sched m) 64).toArray.toList) (b0 + 1) 64 (sched m)) := hZ.stored (sched m)
          have HB : Hid (Below b0 w (wr.setCells (b0 + 1) 0 (aw (sched m) 64).toArray.toList)) := by subst hb0; exact below_setCells _ _ hB (by omega)
          clear hZ hW hB hlt ht h16 hW'
          go_upto_region 14 with fail
          go_wp2_with (refine wpList_load_mid rfl 83 _ rfl _ 0 rfl (aw (sched m) 64) _ HRr.out Tryd.underlying83 rfl HL.out ?_; simp only [Act.put, List.setIfInBounds_toArray, List.set_cons_zero, List.set_cons_succ]; refine wpList_store_mid rfl 83 _ _ rfl (b0 + 1) 0 (aw (sched m) 64).toArray rfl rfl HH.out HI.out (all_oneCell_toArray (aw_one _ _)) ?_; generalize wr.setCells (b0 + 1) 0 (aw (sched m) 64).toArray.toList = X at HS HB ⊢)
          refine bodyPost_ret (results_cell_mid Tryd.results65 _ _ (b0 + 1) (aw (sched m) 64) _ rfl HS.out.range Tryd.underlying83 rfl HL.out) rfl ⟨?_, by rw [hb0]; exact HB.out⟩
          rw [HM.out]
end Go.Proofs.YtpokecijongkpaaDoor
namespace Go.Proofs.YtpokecijongkpaaDoor
set_option maxRecDepth 100000
open Go.RowKit
attribute [local go_sem ↓] Go.wp_at_zero Go.wp_at_succ
attribute [local go_sem] wn_add wn_xor wn_wrap wn_mod wn_add' wn_or

/-- The program's two tables lie where its start laid them. -/
structure Tab (w : World) : Prop where
  f : ∀ i, i < 8 → w.cell? ⟨0, i, none⟩ = some (.int .u32 (wn (start.w i)))
  k : ∀ i, i < 64 → w.cell? ⟨3, i, none⟩ = some (.int .u32 (wn (kW i)))
theorem Tab.keep {W w1 : World} (h : Tab W) (hb : Below W.heap.size W w1) : Tab w1 :=
  ⟨fun i hi => later hb (h.f i hi), fun i hi => later hb (h.k i hi)⟩
theorem infoSt : (Tryd.prog.info? 67).map (·.size) = some 8 := by kernel_rfl
theorem inSt (f : Nat → Wd) : (Tryd.prog.info? 67).map (·.size) = some (aw f 8).toArray.size := by rw [size8]; exact infoSt
theorem ilSt (f : Nat → Wd) : (Tryd.prog.info? 67).map (·.size) = some (aw f 8).length := by rw [aw_len]; exact infoSt
theorem addS_w (s v r : St) (hr : r = addS s v) : r.w 0 = wadd (s.w 0) v.a ∧ r.w 1 = wadd (s.w 1) v.b ∧ r.w 2 = wadd (s.w 2) v.c ∧ r.w 3 = wadd (s.w 3) v.d ∧ r.w 4 = wadd (s.w 4) v.e ∧ r.w 5 = wadd (s.w 5) v.f ∧ r.w 6 = wadd (s.w 6) v.g ∧ r.w 7 = wadd (s.w 7) v.h := by
  subst hr
  exact ⟨rfl, rfl, rfl, rfl, rfl, rfl, rfl, rfl⟩

set_option maxRecDepth 100000 in
set_option maxHeartbeats 8000000 in
theorem takeIn_any {p : Nat → Nat} (hp : ∀ i, p i < 256) (s : St) {w : World} (hT : Tab w) :
    Calls Tryd.prog 60 #[.agg (aw s.w 8).toArray, .agg (ab p 64).toArray] w fun e w' => e = .returned (.agg (aw (takeB s p).w 8).toArray) ∧ Below w.heap.size w w' := by
  have HSP : Hid (∀ W : World, Calls Tryd.prog 65 #[.agg (ab p 64).toArray] W fun e w' => e = .returned (.agg (aw (sched (fun t => wordP p t 4)) 64).toArray) ∧ Below W.heap.size W w') := fun W => spread_any hp W
  have HT : Hid (Tab w) := hT
  clear hp hT
  have HMA : Hid (∀ W : World, RowB (W.alloc (.cells (ab p 64).toArray 69)) W.heap.size 64 p) := fun W => RowB.made W _ 64 p _ rfl
  have HRG : Hid (∀ (W : World) (b : Nat), RowB W b 64 p → W.rangeAt b 0 (ab p 64)) := fun W b h => RowB.range h
  have HIL := hide (ilBlk p)
  obtain ⟨A, hA⟩ : ∃ A, A = ab p 64 := ⟨_, rfl⟩
  rw [← hA] at HSP HMA HRG HIL ⊢
  clear hA
  have HTK : Hid (∀ v : St, v = rnds kW (sched (fun t => wordP p t 4)) s 64 → takeB s p = addS s v) := fun v e => by rw [e]; rfl
  obtain ⟨Wf, hWf⟩ : ∃ Wf : Nat → Wd, Wf = sched (fun t => wordP p t 4) := ⟨_, rfl⟩
  rw [← hWf] at HTK HSP
  clear hWf
  rw [aw8 s.w]
  go_enter Tryd.func60, Tryd.ntmps60
  go_upto_region 1 with fail
  refine wp_world (fun X hX => ?_)
  have hB : Below w.heap.size w X := by rw [hX]; exact K.alloc (K.alloc (K.alloc (Below.refl _ _) _) _) _
  have hH : RowW X w.heap.size 8 s.w := by rw [hX]; exact (RowW.made w 67 8 s.w _ (aw8 s.w).symm).keep (K.alloc (K.alloc (Below.refl _ _) _) _)
  have hR : RowB X (w.heap.size + 1) 64 p := by
    rw [hX]
    have h := (HMA.out (w.alloc (.cells #[.int .u32 (wn (s.w 0)), .int .u32 (wn (s.w 1)), .int .u32 (wn (s.w 2)), .int .u32 (wn (s.w 3)), .int .u32 (wn (s.w 4)), .int .u32 (wn (s.w 5)), .int .u32 (wn (s.w 6)), .int .u32 (wn (s.w 7))] 67))).keep (K.alloc (Below.refl _ _) (.cells #[.int .u32 0, .int .u32 0, .int .u32 0, .int .u32 0, .int .u32 0, .int .u32 0, .int .u32 0, .int .u32 0] 67))
    simpa using h
  have hZ : RowW X (w.heap.size + 1 + 1) 8 (fun _ => 0) := by
    rw [hX]
    have h := RowW.made ((w.alloc (.cells #[.int .u32 (wn (s.w 0)), .int .u32 (wn (s.w 1)), .int .u32 (wn (s.w 2)), .int .u32 (wn (s.w 3)), .int .u32 (wn (s.w 4)), .int .u32 (wn (s.w 5)), .int .u32 (wn (s.w 6)), .int .u32 (wn (s.w 7))] 67)).alloc (.cells A.toArray 69)) 67 8 (fun _ => 0) _ zeros8
    simpa using h
  have hT := HT.out.keep hB
  clear hX HT
  have HRr := hide (HRG.out X _ hR)
  clear HMA HRG hR
  obtain ⟨b0, hb0⟩ : ∃ b0, w.heap.size = b0 := ⟨_, rfl⟩
  rw [hb0] at hB hH hZ HRr ⊢
  have HH := hide hH
  have HZ := hide hZ
  have HB := hide hB
  have HT := hide hT
  clear hH hZ hB hT
  go_wp2_with (refine wpList_load_mid rfl 69 _ rfl _ 0 rfl A _ HRr.out Tryd.underlying69 rfl HIL.out ?_; simp only [Act.put, List.setIfInBounds_toArray, List.set_cons_zero, List.set_cons_succ])
  with_reducible refine Calls.mono (HSP.out _) ?_
  rintro e W1 ⟨rfl, hb⟩
  have hH := HH.out.keep hb
  have hZ := HZ.out.keep hb
  have hT := HT.out.keep hb
  have hB1 : Below b0 w W1 := by subst hb0; exact K.call HB.out hb
  clear hb HH HZ HB HT HRr HIL HSP
  have hsz : (aw Wf 64).toArray.size = 64 := by rw [List.size_toArray, aw_len]
  have hin : (Tryd.prog.info? 83).map (·.size) = some (aw Wf 64).toArray.size := by rw [hsz]; exact info64W
  have h64 : 64 = (aw Wf 64).toArray.size := hsz.symm
  have HIN := hide hin
  have H64 := hide h64
  clear hsz hin h64
  go_upto_region 2 with (refine wpList_store_new rfl 83 _ _ rfl _ (aw Wf 64).toArray rfl rfl HIN.out H64.out (all_oneCell_toArray (aw_one _ _)) ?_)
  have hal := K.alloc (Below.refl _ W1) (.cells (aw Wf 64).toArray 83)
  have hW := RowW.made W1 83 64 Wf _ rfl
  have hn5 : b0 + 1 + 1 < W1.heap.size := hZ.lt
  have hH := hH.keep hal
  have hZ := hZ.keep hal
  have hT := hT.keep hal
  have hB2 : Below b0 w (W1.alloc (.cells (aw Wf 64).toArray 83)) := by subst hb0; exact K.call hB1 hal
  clear hal hB1 HIN H64
  generalize W1.alloc (.cells (aw Wf 64).toArray 83) = X2 at *
  generalize W1.heap.size = n5 at *
  have v0 := hH.c 0 (by omega)
  have v1 := hH.c 1 (by omega)
  have v2 := hH.c 2 (by omega)
  have v3 := hH.c 3 (by omega)
  have v4 := hH.c 4 (by omega)
  have v5 := hH.c 5 (by omega)
  have v6 := hH.c 6 (by omega)
  have v7 := hH.c 7 (by omega)
  have HH := hide hH
  have HZ := hide hZ
  have HB := hide hB2
  have HT := hide hT
  have HW := hide hW
  clear hH hZ hB2 hT hW
  go_region_held3 (fun w' => w' = X2.drew ∧ w'.cell? ⟨b0, 0, none⟩ = some (.int .u32 (wn (s.w 0))) ∧ w'.cell? ⟨b0, 1, none⟩ = some (.int .u32 (wn (s.w 1))) ∧ w'.cell? ⟨b0, 2, none⟩ = some (.int .u32 (wn (s.w 2))) ∧ w'.cell? ⟨b0, 3, none⟩ = some (.int .u32 (wn (s.w 3))) ∧ w'.cell? ⟨b0, 4, none⟩ = some (.int .u32 (wn (s.w 4))) ∧ w'.cell? ⟨b0, 5, none⟩ = some (.int .u32 (wn (s.w 5))) ∧ w'.cell? ⟨b0, 6, none⟩ = some (.int .u32 (wn (s.w 6))) ∧ w'.cell? ⟨b0, 7, none⟩ = some (.int .u32 (wn (s.w 7))))
    (first | (with_reducible assumption) | exact ⟨rfl, v0, v1, v2, v3, v4, v5, v6, v7⟩)
    (fail)
  clear v0 v1 v2 v3 v4 v5 v6 v7 hH hZ hT
  go_upto_region 3 with fail
  refine wp_world (fun Y hY => ?_)
  have hbY : Below X2.heap.size X2 Y := by rw [hY]; exact K.drew (Below.refl _ _)
  have HH := hide (HH.out.keep hbY)
  have HZ := hide (HZ.out.keep hbY)
  have HT := hide (HT.out.keep hbY)
  have HW := hide (HW.out.keep hbY)
  have HB : Hid (Below b0 w Y) := by subst hb0; exact K.call HB.out hbY
  clear hY hbY
  go_wp2_with fail
  go_loopg [6, 7, 8, 9, 10, 11, 12, 13, 35] 64 (fun g s6 s7 s8 s9 s10 s11 s12 s13 s35 wr => ∃ t : Nat, g = 64 - t ∧ t ≤ 64 ∧ s35 = .int .i64 t ∧ s6 = .int .u32 (wn (rnds kW Wf s t).a) ∧ s7 = .int .u32 (wn (rnds kW Wf s t).b) ∧ s8 = .int .u32 (wn (rnds kW Wf s t).c) ∧ s9 = .int .u32 (wn (rnds kW Wf s t).d) ∧ s10 = .int .u32 (wn (rnds kW Wf s t).e) ∧ s11 = .int .u32 (wn (rnds kW Wf s t).f) ∧ s12 = .int .u32 (wn (rnds kW Wf s t).g) ∧ s13 = .int .u32 (wn (rnds kW Wf s t).h) ∧ RowW wr n5 64 Wf ∧ RowW wr b0 8 s.w ∧ RowW wr (b0 + 1 + 1) 8 (fun _ => 0) ∧ Tab wr ∧ Below b0 w wr)
  case atStart => exact ⟨0, rfl, by omega, rfl, rfl, rfl, rfl, rfl, rfl, rfl, rfl, rfl, HW.out, HH.out, HZ.out, HT.out, HB.out⟩
  case round =>
    clear HW HH HZ HT HB
    obtain ⟨t, rfl, ht, rfl, rfl, rfl, rfl, rfl, rfl, rfl, rfl, rfl, hW, hH, hZ, hT, hB⟩ := hrel
    by_cases hlt : t < 64
    · have ck := hT.k t hlt
      have cw := hW.c t hlt
      have HS : Hid (rnds kW Wf s (t + 1) = rnd (rnds kW Wf s t) (kW t) (Wf t)) := rfl
      obtain ⟨q, hq⟩ : ∃ q, q = rnds kW Wf s t := ⟨_, rfl⟩
      rw [← hq] at HS ⊢
      clear hq
      obtain ⟨qa, qb, qc, qd, qe, qf, qg, qh⟩ := q
      dsimp only
      have hti : (t : Int) < 64 := by omega
      have HW := hide hW
      have HH := hide hH
      have HZ := hide hZ
      have HT := hide hT
      have HB := hide hB
      have HL := hide hlt
      clear hW hH hZ hT hB ht
      generalize kW t = kt at *
      generalize Wf t = wt at *
      go_upto_region 6 with fail
      go_region_held3 (fun w' => w' = wr.drew ∧ w'.cell? ⟨3, t, none⟩ = some (.int .u32 (wn kt)) ∧ w'.cell? ⟨n5, t, none⟩ = some (.int .u32 (wn wt)))
        (first | (with_reducible assumption) | exact ⟨rfl, ck, cw⟩)
        (first
        | (go_at_call 66; with_reducible refine Calls.mono (right_6 qe _) ?_; rintro e w' ⟨rfl, rfl⟩)
        | (go_at_call 66; with_reducible refine Calls.mono (right_11 qe _) ?_; rintro e w' ⟨rfl, rfl⟩)
        | (go_at_call 66; with_reducible refine Calls.mono (right_25 qe _) ?_; rintro e w' ⟨rfl, rfl⟩)
        | (go_at_call 67; with_reducible refine Calls.mono (choice_any qe qf qg _) ?_; rintro e w' ⟨rfl, rfl⟩))
      clear ck cw
      go_wp2_with (first
        | (go_at_call 66; with_reducible refine Calls.mono (right_2 qa _) ?_; rintro e w' ⟨rfl, rfl⟩)
        | (go_at_call 66; with_reducible refine Calls.mono (right_13 qa _) ?_; rintro e w' ⟨rfl, rfl⟩)
        | (go_at_call 66; with_reducible refine Calls.mono (right_22 qa _) ?_; rintro e w' ⟨rfl, rfl⟩)
        | (go_at_call 68; with_reducible refine Calls.mono (majority_any qa qb qc _) ?_; rintro e w' ⟨rfl, rfl⟩))
      go_roundg (64 - (t + 1))
      case measure => have := HL.out; omega
      case rel =>
        have hbY : Below wr.heap.size wr wr.drew := K.drew (Below.refl _ _)
        refine ⟨t + 1, rfl, by have := HL.out; omega, by go_num, ?_, ?_, ?_, ?_, ?_, ?_, ?_, ?_, HW.out.keep hbY, HH.out.keep hbY, HZ.out.keep hbY, HT.out.keep hbY, by subst hb0; exact K.call HB.out hbY⟩
        all_goals (rw [HS.out]; rfl)
    · obtain rfl : t = 64 := by omega
      obtain ⟨v, hv⟩ : ∃ v, v = rnds kW Wf s 64 := ⟨_, rfl⟩
      have HE := hide (HTK.out v hv)
      rw [← hv]
      clear hv
      have v0 := hH.c 0 (by omega)
      have v1 := hH.c 1 (by omega)
      have v2 := hH.c 2 (by omega)
      have v3 := hH.c 3 (by omega)
      have v4 := hH.c 4 (by omega)
      have v5 := hH.c 5 (by omega)
      have v6 := hH.c 6 (by omega)
      have v7 := hH.c 7 (by omega)
      obtain ⟨r, hr⟩ : ∃ r, r = addS s v := ⟨_, rfl⟩
      have HRE : Hid (r = takeB s p) := by show _ = _; rw [hr, HE.out]
      have HRW := hide (addS_w s v r hr)
      have HTH := hide (there8 hZ r.w)
      have HS := hide (hZ.stored r.w)
      have HB : Hid (Below b0 w (wr.setCells (b0 + 1 + 1) 0 (aw r.w 8).toArray.toList)) := by subst hb0; exact below_setCells _ _ hB (by omega)
      clear hW hH hZ hT hB hlt ht hr
      go_wp2_with (refine wpList_store_mid rfl 67 _ _ rfl (b0 + 1 + 1) 0 (aw r.w 8).toArray rfl (by rw [aw8, HRW.out.1, HRW.out.2.1, HRW.out.2.2.1, HRW.out.2.2.2.1, HRW.out.2.2.2.2.1, HRW.out.2.2.2.2.2.1, HRW.out.2.2.2.2.2.2.1, HRW.out.2.2.2.2.2.2.2]; rfl) HTH.out (inSt _) (all8 _) ?_; generalize wr.setCells (b0 + 1 + 1) 0 (aw r.w 8).toArray.toList = X at HS HB ⊢)
      refine bodyPost_ret (results_cell_mid Tryd.results60 _ _ (b0 + 1 + 1) (aw r.w 8) _ rfl HS.out.range Tryd.underlying67 rfl (ilSt _)) rfl ⟨?_, by rw [hb0]; exact HB.out⟩
      rw [HRE.out]
end Go.Proofs.YtpokecijongkpaaDoor
namespace Go.Proofs.YtpokecijongkpaaDoor
set_option maxRecDepth 100000
open Go.RowKit

theorem info8 : (Tryd.prog.info? 5).map (fun i => (i.zero, i.size, i.bytes)) = some (some (.int .u8 0), 1, 1) := by kernel_rfl
def cells8 (l : List Nat) : List Value := l.map (fun (x : Nat) => Value.int .u8 (x : Int))
theorem own_shape {w : World} {base n : Nat} {v : Value} {xs : List Value} (h : w.ownsRow base 5 1 v n xs) : ∃ a cap, v = .slice a n cap := by
  rcases h.2 with ⟨rfl, rfl⟩ | ⟨g, cap, cur, rfl, _⟩
  · exact ⟨_, _, rfl⟩
  · exact ⟨_, _, rfl⟩
theorem own_rd {w : World} {base n : Nat} {v : Value} {f : Nat → Int} {xs : List Value} (h : w.ownsRow base 5 1 v n xs) (hx : ∀ j, j < n → xs[j]? = some (.int .u8 (f j))) (hn : 0 < n) : ∃ g cap, v = .slice (some ⟨g, 0, none⟩) n cap ∧ base ≤ g ∧ Row8 w g n f := by
  rcases h.2 with ⟨_, h0⟩ | ⟨g, cap, cur, rfl, hg, _⟩
  · omega
  · refine ⟨g, cap, rfl, hg, (h.lt g rfl).2, fun j hj => ?_, fun j _ => h.frozenAt j⟩
    rw [h.cellAt j (by omega)]; exact hx j hj
theorem own_cap {w : World} {base n g cap : Nat} {xs : List Value} (h : w.ownsRow base 5 1 (.slice (some ⟨g, 0, none⟩) n cap) n xs) : n ≤ cap := by
  rcases h.2 with ⟨h1, _⟩ | ⟨g', cap', cur, h1, _, _, hle, _⟩
  · cases h1
  · cases h1; exact hle


theorem cells8_at (l : List Nat) (i : Nat) (h : i < l.length) : (cells8 l)[i]? = some (Value.int .u8 ((l.getD i 0 : Nat) : Int)) := by
  simp [cells8, h]
theorem getD_lt {l : List Nat} (h : ∀ x ∈ l, x < 256) (i : Nat) : l.getD i 0 < 256 := by
  rw [List.getD_eq_getElem?_getD]
  by_cases hi : i < l.length
  · rw [List.getElem?_eq_getElem hi]; exact h _ (List.getElem_mem hi)
  · rw [List.getElem?_eq_none (by omega)]; simp
theorem Rd.first {w : World} {b o n : Nat} {f : Nat → Int} (h : Rd w b o n f) (m : Nat) (hm : m ≤ n) : Rd w b o m f := ⟨fun i hi => h.c i (by omega)⟩
end Go.Proofs.YtpokecijongkpaaDoor
namespace Go.Proofs.YtpokecijongkpaaDoor
set_option maxRecDepth 100000
open Go.RowKit

/-- Some bytes: none, or n from an address on. -/
structure BA (w : World) (a : Option Addr) (n : Nat) (f : Nat → Nat) : Prop where
  lt : ∀ i, f i < 256
  at_ : n = 0 ∨ ∃ b o, a = some ⟨b, o, none⟩ ∧ Rd w b o n (fun i => ((f i : Nat) : Int))
theorem BA.keep {W w1 : World} {a : Option Addr} {n : Nat} {f : Nat → Nat} (h : BA W a n f) (hb : Below W.heap.size W w1) : BA w1 a n f :=
  ⟨h.lt, h.at_.elim Or.inl fun ⟨b, o, e, hr⟩ => Or.inr ⟨b, o, e, hr.keep hb⟩⟩
/-- The first n bytes of f, as a list. -/
def fl (f : Nat → Nat) (n : Nat) : List Nat := (List.range n).map f
theorem fl_len (f : Nat → Nat) (n : Nat) : (fl f n).length = n := by simp [fl]
theorem fl_at (f : Nat → Nat) {n i : Nat} (h : i < n) : (fl f n)[i]? = some (f i) := by simp [fl, h]
theorem cells8_len (l : List Nat) : (cells8 l).length = l.length := by simp [cells8]
theorem cells8_one (l : List Nat) : ∀ u ∈ cells8 l, u.oneCell' = true := by
  intro u hu
  simp only [cells8, List.mem_map] at hu
  obtain ⟨i, _, rfl⟩ := hu
  rfl
theorem run_append_zero {P : Program} (w : World) (base : Nat) (t ty e : TypeId) (i : TypeInfo) (size : Nat) (ht : P.underlying t = some (.slice e)) (hi : P.info? e = some i)
    (v : Value) (n : Nat) (xs : List Value) (hown : w.ownsRow base e size v n xs) (x : Option Addr) (c : Nat) :
    (Builtin.append_ #[t, t] ty #[v, .slice x 0 c]).run P w = .ok v w := by
  rcases hown.2 with ⟨rfl, rfl⟩ | ⟨g, cap, cur, rfl, _, _, hnc, _⟩
  · cases x <;> simp [Builtin.append_, run_underlying ht, sizeOf, typeInfo, hi, Builtin.lenOf, Builtin.firstCells, loadCells, loadCellsFrom]
  · cases x <;> simp [Builtin.append_, run_underlying ht, sizeOf, typeInfo, hi, Builtin.lenOf, Builtin.firstCells, hnc, storeCells, loadCells, loadCellsFrom]
/-- Bytes that are appended to a row of one's own. -/
theorem run_app {W : World} {base : Nat} {v : Value} {n : Nat} {l : List Nat} (hown : W.ownsRow base 5 1 v n (cells8 l)) {x : Option Addr} {m c : Nat} {f : Nat → Nat} (hx : BA W x m f) (hb : n + m ≤ 1000000) (hbase : base ≤ W.heap.size) (ty : TypeId) :
    ∃ v' w', (Builtin.append_ #[28, 28] ty #[v, .slice x m c]).run Tryd.prog W = .ok v' w' ∧ w'.ownsRow base 5 1 v' (n + m) (cells8 (l ++ fl f m)) ∧ W.grownBy w' v.ownBlock := by
  obtain ⟨i0, hi, hz0, hz1, hz2⟩ := info_parts info8
  rcases hx.at_ with rfl | ⟨b, o, rfl, hr⟩
  · refine ⟨v, W, run_append_zero W base _ _ 5 i0 1 Tryd.underlying28 hi v n _ hown x c, ?_, World.grownBy.refl _ _⟩
    rw [show fl f 0 = [] from rfl, List.append_nil]
    exact hown
  · obtain ⟨v', w', h1, h2, h3, _⟩ := run_append_own (P := Tryd.prog) W base 28 ty 5 i0 (.int .u8 0) 1 1 Tryd.underlying28 hi hz0 hz1 hz2 rfl (by decide) v n _ hown ⟨b, o, none⟩ m c (cells8 (fl f m)) (by rw [cells8_len, fl_len]; omega) (fun j u hu => by
      have hj : j < m := by
        rcases Nat.lt_or_ge j m with h' | h'
        · exact h'
        · rw [List.getElem?_eq_none (by rw [cells8_len, fl_len]; exact h')] at hu; cases hu
      have hc := hr.c j hj
      rw [cells8_at _ j (by rw [fl_len]; exact hj), List.getD_eq_getElem?_getD, fl_at f hj] at hu
      have ea : (⟨b, o, none⟩ : Addr).add j = ⟨b, o + j, none⟩ := by unfold Addr.add; split <;> simp_all
      rw [ea, hc]
      simpa using hu) (cells8_one _) (by unfold maxLen; omega) (by omega) hbase
    refine ⟨v', w', h1, ?_, h3⟩
    rw [show cells8 (l ++ fl f m) = cells8 l ++ cells8 (fl f m) from List.map_append]
    exact h2
theorem below_append {w0 w w' : World} {v : Value} {n : Nat} {xs : List Value} (h : Below w0.heap.size w0 w) (ho : w.ownsRow w0.heap.size 5 1 v n xs) (hg : w.grownBy w' v.ownBlock) : Below w0.heap.size w0 w' :=
  h.grown hg h.size (fun k hk => (ho.lt k hk).1)
/-- The same, at a plain region's list. -/
theorem wpList_app {W : World} {ops : Array Oper} {rest : List Oper} {op : Oper} {a : Act} {Q : Exit → Act → World → Prop} (hgd : op.guard = none) (s x : Operand)
    (ho : op.op = .call { callee := .builtin .append, args := #[s, x], argTypes := #[28, 28] })
    {base : Nat} {v : Value} {n : Nat} {l : List Nat} (hs : a.eval s = v) (hown : W.ownsRow base 5 1 v n (cells8 l)) {y : Option Addr} {m c : Nat} {f : Nat → Nat} (hx : a.eval x = .slice y m c) (hy : BA W y m f) (hb : n + m ≤ 1000000) (hbase : base ≤ W.heap.size)
    (h : ∀ v' w', w'.ownsRow base 5 1 v' (n + m) (cells8 (l ++ fl f m)) → W.grownBy w' v.ownBlock → wpList Tryd.prog ops Q rest (a.put op.dst v') w') : wpList Tryd.prog ops Q (op :: rest) a W := by
  refine wpList_plain hgd fun K hK => ?_
  obtain ⟨v', w', hr, h2, h3⟩ := run_app (c := c) hown hy hb hbase op.type
  unfold Oper.wp execOp
  simp only [ho, resolve, invoke, builtin, Sem.run_bind, Sem.run_pure, Result.andThen_ok, List.map_toArray, List.map_cons, List.map_nil, hs, hx, hr]
  exact hK _ _ (h v' w' h2 h3)
/-- One byte that was laid in a block of its own. -/
theorem one_made (w : World) (x : Nat) (h : x < 256) : BA (w.alloc (.cells #[.int .u8 (x : Int)] 5)) (some ⟨w.heap.size, 0, none⟩) 1 (fun _ => x) :=
  ⟨fun _ => h, Or.inr ⟨_, _, rfl, ⟨fun i hi => by
    obtain rfl : i = 0 := by omega
    rw [cell_of_row _ _ _ _ _ _ (heap_alloc_new w _)]; rfl⟩⟩⟩
end Go.Proofs.YtpokecijongkpaaDoor
