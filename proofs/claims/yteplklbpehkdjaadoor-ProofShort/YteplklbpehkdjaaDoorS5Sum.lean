/- What the document's own Sum answers. -/
import Derived.Test.YteplklbpehkdjaaDoorS5Take
import Derived.Test.YteplklbpehkdjaaDoorS5Pad
import Derived.Test.YteplklbpehkdjaaDoorS5Ab
import Derived.Deep.RegionWith
namespace Go.Proofs.YteplklbpehkdjaaDoor
set_option maxRecDepth 100000
open Go.RowKit
attribute [local go_sem ↓] Go.wp_at_zero Go.wp_at_succ

/-- take, with its state written out. -/
theorem refTake8 {b o cap : Nat} {p : Nat → Nat} (hp : ∀ i, p i < 256) (s r : St) (hr : r = takeB s p) {w : World} (hD : Rd w b o 64 (fun i => ((p i : Nat) : Int))) :
    Calls Tryd.prog 25 #[.agg #[.int .u32 (wn (s.w 0)), .int .u32 (wn (s.w 1)), .int .u32 (wn (s.w 2)), .int .u32 (wn (s.w 3)), .int .u32 (wn (s.w 4)), .int .u32 (wn (s.w 5)), .int .u32 (wn (s.w 6)), .int .u32 (wn (s.w 7))], .slice (some ⟨b, o, none⟩) 64 cap] w fun e w' => e = .returned (.agg #[.int .u32 (wn (r.w 0)), .int .u32 (wn (r.w 1)), .int .u32 (wn (r.w 2)), .int .u32 (wn (r.w 3)), .int .u32 (wn (r.w 4)), .int .u32 (wn (r.w 5)), .int .u32 (wn (r.w 6)), .int .u32 (wn (r.w 7))]) ∧ Below w.heap.size w w' := by
  have := refTake_any (cap := cap) hp s hD
  rw [← hr, aw8, aw8] at this
  exact this

set_option maxRecDepth 100000 in
set_option maxHeartbeats 8000000 in
theorem refSum_any {x : Option Addr} {n c : Nat} {f : Nat → Nat} {w : World} (h : BA w x n f) (hn : n ≤ 100000) :
    Calls Tryd.prog 19 #[.slice x n c] w fun e w' => e = .returned (.agg (ab (hByte (hashS f n)) 32).toArray) ∧ Below w.heap.size w w' := by
  have H : Hid (BA w x n f) := h
  clear h
  go_enter Tryd.func19, Tryd.ntmps19
  go_wp2_with fail
  with_reducible refine Calls.mono (refStart_any _) ?_
  rintro e W1 ⟨rfl, hb⟩
  have hR := (RowB.made w 32 32 (fun _ => 0) _ zeros32).keep hb
  have hB1 : Below w.heap.size w W1 := K.call (K.alloc (Below.refl _ _) _) hb
  clear hb
  go_upto_region 2 with (refine wpList_store_new rfl 43 _ _ rfl _ (aw start.w 8).toArray rfl rfl (in8 _) (by rw [size8]; rfl) (all8 _) ?_)
  have hal := K.alloc (Below.refl _ W1) (.cells (aw start.w 8).toArray 43)
  have hS := RowW.made W1 43 8 start.w _ rfl
  have hn3 : w.heap.size < W1.heap.size := hR.lt
  have hR := hR.keep hal
  have hB2 : Below w.heap.size w (W1.alloc (.cells (aw start.w 8).toArray 43)) := K.call hB1 hal
  clear hal hB1
  generalize W1.alloc (.cells (aw start.w 8).toArray 43) = X1 at *
  generalize W1.heap.size = n3 at *
  have hn3X : n3 < X1.heap.size := hS.lt
  go_wp2_with fail
  with_reducible refine Calls.mono (refPadded_any (H.out.keep hB2) hn) ?_
  rintro e W2 ⟨v, rfl, hO, hb⟩
  have hS := hS.keep hb
  have hR := hR.keep hb
  have hB3 : Below w.heap.size w W2 := K.call hB2 hb
  have hpl := zs_eq n
  obtain ⟨g, cap, rfl, hg, hP⟩ := own_rd (f := fun i => ((pad f n i : Nat) : Int)) hO (fun i hi => by rw [cells8_at _ i (by rw [padL_len]; exact hi), padL_at f n i hi]) (by omega)
  have hcap := own_cap hO
  have hgn : g ≠ n3 := by omega
  have hgN : g ≠ w.heap.size := by omega
  have HPL : Hid (∀ i, pad f n i < 256) := pad_lt H.out.lt n
  have hPd := hP.rd
  obtain ⟨pl, hpl'⟩ : ∃ pl, pl = padLen n := ⟨_, rfl⟩
  obtain ⟨M, hM⟩ : ∃ M, M = padLen n / 64 := ⟨_, rfl⟩
  have HM : Hid (pl = 64 * M ∧ hashS f n = hs (pad f n) M) := ⟨by omega, by rw [hM]; rfl⟩
  have hplb : pl ≤ 200000 := by rw [hpl']; unfold padLen; omega
  rw [← hpl'] at hcap hPd ⊢
  clear hO hb hB2 hP hpl hM hpl' H
  have hpli : (pl : Int) ≤ 200000 := by omega
  have HS := hide hS
  have HR := hide hR
  have HPd := hide hPd
  have HB := hide hB3
  clear hS hR hPd hB3
  go_wp2_with fail
  go_loopg [5] M (fun q s5 wr => ∃ k : Nat, q = M - k ∧ k ≤ M ∧ s5 = .int .i64 ((64 * k : Nat) : Int) ∧ RowW wr n3 8 (hs (pad f n) k).w ∧ Rd wr g 0 pl (fun i => ((pad f n i : Nat) : Int)) ∧ RowB wr w.heap.size 32 (fun _ => 0) ∧ Below w.heap.size w wr)
  case atStart => exact ⟨0, rfl, by omega, rfl, HS.out, HPd.out, HR.out, HB.out⟩
  case round =>
    clear HS HPd HR HB
    obtain ⟨k, rfl, hk, rfl, hS, hP, hR, hB⟩ := hrel
    by_cases hlt : k < M
    · obtain ⟨m, hm⟩ : ∃ m, m = 64 * k := ⟨_, rfl⟩
      have HK : Hid (m = 64 * k ∧ k < M ∧ m + 64 ≤ pl) := ⟨hm, hlt, by have := HM.out.1; omega⟩
      have hpart := hP.part m 64 HK.out.2.2
      obtain ⟨r, hr⟩ : ∃ r, r = hs (pad f n) (k + 1) := ⟨_, rfl⟩
      obtain ⟨s, hs'⟩ : ∃ s, s = hs (pad f n) k := ⟨_, rfl⟩
      have HRK : Hid (r = takeB s (fun i => pad f n (m + i))) := by show _ = _; rw [hr, hs', hm]; rfl
      have HRE := hide hr
      rw [← hs'] at hS
      rw [← hm]
      have c0 := hS.c 0 (by omega)
      have c1 := hS.c 1 (by omega)
      have c2 := hS.c 2 (by omega)
      have c3 := hS.c 3 (by omega)
      have c4 := hS.c 4 (by omega)
      have c5 := hS.c 5 (by omega)
      have c6 := hS.c 6 (by omega)
      have c7 := hS.c 7 (by omega)
      have hmi : (m : Int) < pl := by have := HK.out; omega
      have hmi2 : (m : Int) + 64 ≤ pl := by have := HK.out; omega
      have hw : IntKind.i64.wrap ((m : Int) + 64) = (m : Int) + 64 := by rw [IntKind.wrap_i64]; omega
      have HPart := hide hpart
      have HS := hide hS
      have HP := hide hP
      have HR := hide hR
      have HB := hide hB
      clear hm hr hs' hpart hS hP hR hB hlt hk
      go_upto_region 6 with fail
      rw [Nat.zero_add] at HPart
      have hl1 : ((m : Int) + 64).toNat - m = 64 := by omega
      have hl2 : m + 64 - m = 64 := by omega
      have hcm : (m : Int) + 64 ≤ cap := by omega
      go_region_with (go_at_call 25; with_reducible refine Calls.mono (refTake8 (fun i => HPL.out (m + i)) s r HRK.out (HPart.out.keep (K.drew (Below.refl _ _)))) ?_; rintro e w' ⟨rfl, hb⟩; have hS2 := (HS.out.keep (K.drew (Below.refl _ _))).keep hb; have d0 := hS2.c 0 (by omega); have z0 := hS2.z 0 (by omega); have d1 := hS2.c 1 (by omega); have z1 := hS2.z 1 (by omega); have d2 := hS2.c 2 (by omega); have z2 := hS2.z 2 (by omega); have d3 := hS2.c 3 (by omega); have z3 := hS2.z 3 (by omega); have d4 := hS2.c 4 (by omega); have z4 := hS2.z 4 (by omega); have d5 := hS2.c 5 (by omega); have z5 := hS2.z 5 (by omega); have d6 := hS2.c 6 (by omega); have z6 := hS2.z 6 (by omega); have d7 := hS2.c 7 (by omega); have z7 := hS2.z 7 (by omega))
      all_goals
        have hdb : Below wr.heap.size wr wr.drew := K.drew (Below.refl _ _)
        have hS3 : RowW (w'.setCells n3 0 (aw r.w 8)) n3 8 r.w := hS2.stored r.w
        have hP3 := ((HP.out.keep hdb).keep hb).apart hgn 0 (aw r.w 8)
        have hR3 := Row8.apart ((Row8.keep HR.out hdb).keep hb) (g := n3) (by omega) 0 (aw r.w 8)
        have hB3 : Below w.heap.size w (w'.setCells n3 0 (aw r.w 8)) := below_setCells _ _ (K.call (K.call HB.out hdb) hb) (by omega)
        rw [show ((((((((w'.setCell ⟨n3, 0, none⟩ (.int .u32 (wn (r.w 0)))).setCell ⟨n3, 1, none⟩ (.int .u32 (wn (r.w 1)))).setCell ⟨n3, 2, none⟩ (.int .u32 (wn (r.w 2)))).setCell ⟨n3, 3, none⟩ (.int .u32 (wn (r.w 3)))).setCell ⟨n3, 4, none⟩ (.int .u32 (wn (r.w 4)))).setCell ⟨n3, 5, none⟩ (.int .u32 (wn (r.w 5)))).setCell ⟨n3, 6, none⟩ (.int .u32 (wn (r.w 6)))).setCell ⟨n3, 7, none⟩ (.int .u32 (wn (r.w 7)))) = w'.setCells n3 0 (aw r.w 8) from rfl]
        clear d0 z0 c0 d1 z1 c1 d2 z2 c2 d3 z3 c3 d4 z4 c4 d5 z5 c5 d6 z6 c6 d7 z7 c7 hS2 hb hdb HS HP HR HB HPart
        generalize w'.setCells n3 0 (aw r.w 8) = X at *
        go_wp2_with fail
        go_roundg (M - (k + 1))
        case measure => have := HK.out; omega
        case rel => exact ⟨k + 1, rfl, by have := HK.out; omega, congrArg (Value.int .i64) (by have := HK.out; omega), by rw [← HRE.out]; exact hS3, hP3, hR3, hB3⟩
    · obtain rfl : k = M := by omega
      obtain ⟨s, hs'⟩ : ∃ s, s = hs (pad f n) k := ⟨_, rfl⟩
      have HSE : Hid (s = hashS f n) := by rw [hs', HM.out.2]; rfl
      rw [← hs'] at hS
      obtain ⟨m, hm⟩ : ∃ m, m = 64 * k := ⟨_, rfl⟩
      have hmi : ¬ (m : Int) < pl := by have := HM.out.1; omega
      rw [← hm]
      have HS := hide hS
      have HR := hide hR
      have HB := hide hB
      clear hs' hm hS hP hR hB hlt hk
      go_wp2_with fail
      have hal := K.alloc (Below.refl _ wr) (.cells #[.int .u8 0, .int .u8 0, .int .u8 0, .int .u8 0, .int .u8 0, .int .u8 0, .int .u8 0, .int .u8 0, .int .u8 0, .int .u8 0, .int .u8 0, .int .u8 0, .int .u8 0, .int .u8 0, .int .u8 0, .int .u8 0, .int .u8 0, .int .u8 0, .int .u8 0, .int .u8 0, .int .u8 0, .int .u8 0, .int .u8 0, .int .u8 0, .int .u8 0, .int .u8 0, .int .u8 0, .int .u8 0, .int .u8 0, .int .u8 0, .int .u8 0, .int .u8 0] 32)
      have hS := HS.out.keep hal
      have hR := Row8.keep HR.out hal
      have hO := RowB.made wr 32 32 (fun _ => 0) _ zeros32
      have hB := K.call HB.out hal
      have hn6 : n3 < wr.heap.size := HS.out.lt
      have hnN : w.heap.size < wr.heap.size := HR.out.lt
      clear HS HR HB hal
      generalize wr.alloc (.cells #[.int .u8 0, .int .u8 0, .int .u8 0, .int .u8 0, .int .u8 0, .int .u8 0, .int .u8 0, .int .u8 0, .int .u8 0, .int .u8 0, .int .u8 0, .int .u8 0, .int .u8 0, .int .u8 0, .int .u8 0, .int .u8 0, .int .u8 0, .int .u8 0, .int .u8 0, .int .u8 0, .int .u8 0, .int .u8 0, .int .u8 0, .int .u8 0, .int .u8 0, .int .u8 0, .int .u8 0, .int .u8 0, .int .u8 0, .int .u8 0, .int .u8 0, .int .u8 0] 32) = X at *
      generalize wr.heap.size = n6 at *
      go_loopg [7] 32 (fun q s7 wr => ∃ i : Nat, q = 32 - i ∧ i ≤ 32 ∧ s7 = .int .i64 i ∧ RowB wr n6 32 (fun j => if j < i then hByte s j else 0) ∧ RowW wr n3 8 s.w ∧ RowB wr w.heap.size 32 (fun _ => 0) ∧ Below w.heap.size w wr)
      case atStart => exact ⟨0, rfl, by omega, rfl, hO.congr (fun j hj => by simp), hS, hR, hB⟩
      case round =>
      clear hO hS hR hB
      obtain ⟨i, rfl, hi, rfl, hO, hS, hR, hB⟩ := hrel
      by_cases hlt : i < 32
      · have co := hO.c i hlt
        have zo := hO.z i hlt
        obtain ⟨j, hj⟩ : ∃ j, j = i / 4 := ⟨_, rfl⟩
        have cs := hS.c j (by omega)
        have hji : (i : Int) / 4 = (j : Int) := by omega
        have hj8 : (j : Int) < 8 := by omega
        have hii : (i : Int) < 32 := by omega
        obtain ⟨x, hx⟩ : ∃ x, x = s.w j := ⟨_, rfl⟩
        have HV : Hid (hByte s i = x.toNat / 256 ^ (3 - i % 4) % 256) := by show _ = _; unfold hByte; rw [hx, hj]
        rw [← hx] at cs
        have HO := hide hO
        have HS := hide hS
        have HR := hide hR
        have HB := hide hB
        have HI := hide hlt
        have hol := hO.lt
        clear hO hS hR hB hi hlt hx hj
        rcases (show i % 4 = 0 ∨ i % 4 = 1 ∨ i % 4 = 2 ∨ i % 4 = 3 by omega) with hr | hr | hr | hr
        · have hv : wn x / 16777216 % 256 = ((hByte s i : Nat) : Int) := by rw [HV.out, hr]; unfold wn; omega
          have hv2 : IntKind.u8.wrap (wn x / 16777216) = ((hByte s i : Nat) : Int) := by rw [IntKind.wrap_u8', hv]
          have hlo := wn_nn x
          have hhi := wn_lt x
          have hri : (i : Int) % 4 = 0 := by omega
          clear hr
          go_wp2_with fail
          go_roundg (32 - (i + 1))
          case measure => have := HI.out; omega
          case rel => exact ⟨i + 1, rfl, by have := HI.out; omega, by go_num, (Row8.store HO.out i HI.out _).congr (fun j hj => by
            by_cases e : j = i
            · subst e; simp
            · simp only [if_neg e]; (repeat' split) <;> first | rfl | omega), HS.out.other (by omega) i _, row8_other HR.out (by omega) i _, K.set HB.out (by show w.heap.size ≤ n6; omega) _⟩
        · have hv : wn x / 65536 % 256 = ((hByte s i : Nat) : Int) := by rw [HV.out, hr]; unfold wn; omega
          have hv2 : IntKind.u8.wrap (wn x / 65536) = ((hByte s i : Nat) : Int) := by rw [IntKind.wrap_u8', hv]
          have hlo := wn_nn x
          have hhi := wn_lt x
          have hri : (i : Int) % 4 = 1 := by omega
          clear hr
          go_wp2_with fail
          go_roundg (32 - (i + 1))
          case measure => have := HI.out; omega
          case rel => exact ⟨i + 1, rfl, by have := HI.out; omega, by go_num, (Row8.store HO.out i HI.out _).congr (fun j hj => by
            by_cases e : j = i
            · subst e; simp
            · simp only [if_neg e]; (repeat' split) <;> first | rfl | omega), HS.out.other (by omega) i _, row8_other HR.out (by omega) i _, K.set HB.out (by show w.heap.size ≤ n6; omega) _⟩
        · have hv : wn x / 256 % 256 = ((hByte s i : Nat) : Int) := by rw [HV.out, hr]; unfold wn; omega
          have hv2 : IntKind.u8.wrap (wn x / 256) = ((hByte s i : Nat) : Int) := by rw [IntKind.wrap_u8', hv]
          have hlo := wn_nn x
          have hhi := wn_lt x
          have hri : (i : Int) % 4 = 2 := by omega
          clear hr
          go_wp2_with fail
          go_roundg (32 - (i + 1))
          case measure => have := HI.out; omega
          case rel => exact ⟨i + 1, rfl, by have := HI.out; omega, by go_num, (Row8.store HO.out i HI.out _).congr (fun j hj => by
            by_cases e : j = i
            · subst e; simp
            · simp only [if_neg e]; (repeat' split) <;> first | rfl | omega), HS.out.other (by omega) i _, row8_other HR.out (by omega) i _, K.set HB.out (by show w.heap.size ≤ n6; omega) _⟩
        · have hv : wn x % 256 = ((hByte s i : Nat) : Int) := by rw [HV.out, hr]; unfold wn; omega
          have hv2 : IntKind.u8.wrap (wn x) = ((hByte s i : Nat) : Int) := by rw [IntKind.wrap_u8', hv]
          have hlo := wn_nn x
          have hhi := wn_lt x
          have hri : (i : Int) % 4 = 3 := by omega
          clear hr
          go_wp2_with fail
          go_roundg (32 - (i + 1))
          case measure => have := HI.out; omega
          case rel => exact ⟨i + 1, rfl, by have := HI.out; omega, by go_num, (Row8.store HO.out i HI.out _).congr (fun j hj => by
            by_cases e : j = i
            · subst e; simp
            · simp only [if_neg e]; (repeat' split) <;> first | rfl | omega), HS.out.other (by omega) i _, row8_other HR.out (by omega) i _, K.set HB.out (by show w.heap.size ≤ n6; omega) _⟩
      · obtain rfl : i = 32 := by omega
        have hO' : RowB wr n6 32 (hByte s) := hO.congr (fun j hj => by simp only [if_pos hj])
        have HRr := hide (RowB.range hO')
        have HTH := hide (RowB.there hR (hByte s))
        have HS := hide (RowB.stored hR (hByte s))
        have HB : Hid (Below w.heap.size w (wr.setCells w.heap.size 0 (ab (hByte s) 32).toArray.toList)) := below_setCells _ _ hB (Nat.le_refl _)
        clear hO hO' hS hR hB hi hlt
        go_upto_region 12 with fail
        go_wp2_with (refine wpList_load_mid rfl 32 _ rfl _ 0 rfl (ab (hByte s) 32) _ HRr.out Tryd.underlying32 rfl (ilH _) ?_; simp only [Act.put, List.setIfInBounds_toArray, List.set_cons_zero, List.set_cons_succ]; refine wpList_store_mid rfl 32 _ _ rfl w.heap.size 0 (ab (hByte s) 32).toArray rfl rfl HTH.out (inH _) (all_oneCell_toArray (ab_one _ _)) ?_; generalize wr.setCells w.heap.size 0 (ab (hByte s) 32).toArray.toList = X at HS HB ⊢)
        refine bodyPost_ret (results_cell_mid Tryd.results19 _ _ w.heap.size (ab (hByte s) 32) _ rfl (RowB.range HS.out) Tryd.underlying32 rfl (ilH _)) rfl ⟨?_, HB.out⟩
        rw [HSE.out]
end Go.Proofs.YteplklbpehkdjaaDoor
