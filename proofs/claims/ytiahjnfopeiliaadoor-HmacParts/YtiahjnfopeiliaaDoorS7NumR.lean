/- What the document's own Numbers answers. -/
import Derived.Test.YtiahjnfopeiliaaDoorS7Num
import Derived.Test.YtiahjnfopeiliaaDoorKStep
import Derived.Test.YtiahjnfopeiliaaDoorS7List
namespace Go.Proofs.YtiahjnfopeiliaaDoor
open Go.RowKit
attribute [local go_sem ↓] Go.wp_at_zero Go.wp_at_succ

theorem macB_lt (f : Nat → Nat) (n : Nat) (g : Nat → Nat) (m i : Nat) : macB f n g m i < 256 := hByte_lt _ i
/-- The key and the value behind c of the two first steps. -/
def kvIn (g : Nat → Nat) (m : Nat) : Nat → KV
  | 0 => kv0
  | c + 1 => kvStep (kvIn g m c) c g m
theorem kvIn_lt (g : Nat → Nat) (m : Nat) : ∀ c, (∀ i, (kvIn g m c).k i < 256) ∧ (∀ i, (kvIn g m c).v i < 256)
  | 0 => ⟨fun _ => by show 0 < 256; omega, fun _ => by show 1 < 256; omega⟩
  | _ + 1 => ⟨fun i => macB_lt _ _ _ _ i, fun i => macB_lt _ _ _ _ i⟩
theorem kvAt_lt (g : Nat → Nat) (m : Nat) : ∀ c, (∀ i, (kvAt g m c).k i < 256) ∧ (∀ i, (kvAt g m c).v i < 256)
  | 0 => kvIn_lt g m 2
  | 1 => ⟨(kvIn_lt g m 2).1, fun i => macB_lt _ _ _ _ i⟩
  | _ + 2 => ⟨fun i => macB_lt _ _ _ _ i, fun i => macB_lt _ _ _ _ i⟩
theorem refMac_B {x y : Option Addr} {n m c d : Nat} {f g k1 : Nat → Nat} {w : World} (hk : k1 = macB f n g m) (hx : BA w x n f) (hy : BA w y m g) (hn : n ≤ 80000) (hm : m ≤ 80000) :
    Calls Tryd.prog 10 #[.slice x n c, .slice y m d] w fun e w' => ∃ r, e = .returned r ∧ (r = .agg (ab k1 32).toArray ∧ Below w.heap.size w w') := by
  have h := refMac_any (c := c) (d := d) hx hy hn hm
  unfold mA at h
  rw [hk]
  unfold macB
  exact Calls.mono h (fun e w' ⟨he, hb⟩ => ⟨_, he, rfl, hb⟩)
theorem ba_nil (w : World) : BA w none 0 (fun _ => 0) := ⟨fun _ => by show 0 < 256; omega, Or.inl rfl⟩
def ones (i j : Nat) : Nat := if j < i then 1 else 0
set_option maxRecDepth 100000 in
set_option maxHeartbeats 16000000 in
theorem refNumbers_any {y : Option Addr} {m d n : Nat} {g : Nat → Nat} {w : World} (hy : BA w y m g) (hm : m ≤ 60000) (hn : n ≤ 1000) :
    Calls Tryd.prog 12 #[.slice y m d, .int .i64 (n : Int)] w fun e w' => ∃ x c, e = .returned (.slice x n c) ∧ HL w' x n (fun i => (kvAt g m (i + 1)).v) ∧ (∀ p, x = some p → w.heap.size ≤ p.block) ∧ Below w.heap.size w w' := by
  have HY := hide hy
  have HM := hide hm
  have HN := hide hn
  have hni : (n : Int) ≤ 1000 := by omega
  clear hy hm hn
  go_enter Tryd.func12, Tryd.ntmps12
  go_upto_region 2 with fail
  refine wp_world (fun X hX => ?_)
  have hB : Below w.heap.size w X := by rw [hX]; exact K.alloc (K.alloc (Below.refl _ _) _) _
  have hKr : RowB X w.heap.size 32 (fun _ => 0) := by rw [hX]; exact Row8.keep (RowB.made w 25 32 (fun _ => 0) _ zeros32) (K.alloc (Below.refl _ _) _)
  have hVr : RowB X (w.heap.size + 1) 32 (ones 0) := by
    rw [hX]
    have h := RowB.made (w.alloc (.cells (ab (fun _ => 0) 32).toArray 25)) 25 32 (fun _ => 0) _ zeros32
    rw [← zeros32] at h
    have h' := Row8.congr h (g := fun i => ((ones 0 i : Nat) : Int)) (fun i _ => by unfold ones; rw [if_neg (by omega)])
    show Row8 _ _ _ _
    simpa using h'
  clear hX
  obtain ⟨b0, hb0⟩ : ∃ b0, w.heap.size = b0 := ⟨_, rfl⟩
  rw [hb0] at hB hKr hVr ⊢
  have HK := hide hKr
  have HV := hide hVr
  have HB := hide hB
  clear hB hKr hVr
  go_wp2_with fail
  go_loopg [7] 32 (fun g' s7 wr => ∃ i : Nat, g' = 32 - i ∧ i ≤ 32 ∧ s7 = .int .i64 i ∧ RowB wr b0 32 (fun _ => 0) ∧ RowB wr (b0 + 1) 32 (ones i) ∧ Below b0 w wr)
  case atStart => exact ⟨0, rfl, by omega, rfl, HK.out, HV.out, HB.out⟩
  case round =>
    clear HK HV HB
    obtain ⟨i, rfl, hi, rfl, hKr, hVr, hB⟩ := hrel
    by_cases hlt : i < 32
    · have ci := hVr.c i hlt
      have zi := hVr.z i hlt
      have hii : (i : Int) < 32 := by omega
      have HK := hide hKr
      have HV := hide hVr
      have HB := hide hB
      have HI := hide hlt
      have hvl := hVr.lt
      clear hKr hVr hB hi hlt
      go_wp2_with fail
      go_roundg (32 - (i + 1))
      case measure => have := HI.out; omega
      case rel => exact ⟨i + 1, rfl, by have := HI.out; omega, by go_num, row8_other HK.out (by omega) i _, (Row8.store HV.out i HI.out 1).congr (fun j hj => by
        unfold ones
        by_cases e : j = i
        · subst e; simp
        · simp only [if_neg e]; (repeat' split) <;> first | rfl | omega), by subst hb0; exact K.set HB.out (by show w.heap.size ≤ w.heap.size + 1; omega) _⟩
    · obtain rfl : i = 32 := by omega
      have HK : Hid (RowB wr b0 32 (kvIn g m 0).k) := hKr
      have HV : Hid (RowB wr (b0 + 1) 32 (kvIn g m 0).v) := Row8.congr hVr (fun j hj => by unfold ones; rw [if_pos hj]; rfl)
      have HB := hide hB
      clear hKr hVr hB hi hlt
      go_wp2_with fail
      go_loopg [8] 2 (fun g' s8 wr => ∃ c : Nat, g' = 2 - c ∧ c ≤ 2 ∧ s8 = .int .i64 c ∧ RowB wr b0 32 (kvIn g m c).k ∧ RowB wr (b0 + 1) 32 (kvIn g m c).v ∧ Below b0 w wr)
      case atStart => exact ⟨0, rfl, by omega, rfl, HK.out, HV.out, HB.out⟩
      case round =>
        clear HK HV HB
        obtain ⟨c, rfl, hc, rfl, hKr, hVr, hB⟩ := hrel
        by_cases hlt : c < 2
        · have hci : (c : Int) < 2 := by omega
          have c8 : IntKind.u8.wrap (c : Int) = (c : Int) := by rw [IntKind.wrap_u8']; omega
          have HSB := hide (kvIn_lt g m c)
          have HST : Hid (kvIn g m (c + 1) = kvStep (kvIn g m c) c g m) := rfl
          have HCl := hide hlt
          have hbw : Below w.heap.size w wr := by rw [hb0]; exact hB
          have HYr := hide (HY.out.keep hbw)
          generalize kvIn g m c = s at *
          obtain ⟨k1, hk1⟩ : ∃ k1, k1 = macB s.k 32 (withF s.v c g) (33 + m) := ⟨_, rfl⟩
          obtain ⟨v1, hv1⟩ : ∃ v1, v1 = macB k1 32 s.v 32 := ⟨_, rfl⟩
          have HK1 : Hid (k1 = macB s.k 32 (withF s.v c g) (33 + m)) := hk1
          have HV1 : Hid (v1 = macB k1 32 s.v 32) := hv1
          have HKB : Hid (∀ i, k1 i < 256) := fun i => by rw [hk1]; exact macB_lt _ _ _ _ i
          have HVB := hide HSB.out.2
          have HRes : Hid (kvIn g m (c + 1) = ⟨k1, v1⟩) := by show _ = _; rw [HST.out, hv1, hk1]; rfl
          have HK := hide hKr
          have HV := hide hVr
          have HB := hide hB
          clear hKr hVr hB hc hlt hbw hk1 hv1 HST
          go_upto_region 9 with fail
          have hd := K.drew (Below.refl _ wr)
          have hKd := Row8.keep HK.out hd
          have hVd := Row8.keep HV.out hd
          have hYd := HYr.out.keep hd
          refine wp_region_noPanic ?_
          refine wp_region_held_drew (S := fun _ => True) (by kernel_rfl) trivial (fun _ => ?_)
          refine wpAnyH_take (i := 0) (v := .slice (some ⟨b0, 0, none⟩) 32 32) rfl (by kernel_rfl) (by kernel_rfl) (by kernel_rfl) (fun _ _ _ h => h) (Or.inl ⟨by rfl, fun w' _ => by go_simp⟩) trivial ?_
          simp only [Act.put, List.getElem_toArray, List.getElem_cons_zero, List.setIfInBounds_toArray, List.set_cons_zero, List.set_cons_succ]
          refine wpAnyH_take (i := 2) (v := .int .i64 (c : Int)) rfl (by kernel_rfl) (by kernel_rfl) (by kernel_rfl) (fun _ _ _ h => h) (Or.inl ⟨by rfl, fun w' _ => by go_simp⟩) trivial ?_
          simp only [Act.put, List.getElem_toArray, List.getElem_cons_zero, List.getElem_cons_succ, List.setIfInBounds_toArray, List.set_cons_zero, List.set_cons_succ]
          refine wpAnyH_take (i := 3) (v := .int .u8 (c : Int)) rfl (by kernel_rfl) (by kernel_rfl) (by kernel_rfl) (fun _ _ _ h => h) (Or.inl ⟨by rfl, fun w' _ => by go_simp⟩) trivial ?_
          simp only [Act.put, List.getElem_toArray, List.getElem_cons_zero, List.getElem_cons_succ, List.setIfInBounds_toArray, List.set_cons_zero, List.set_cons_succ]
          refine wpAnyH_take (i := 4) (v := .slice y m d) rfl (by kernel_rfl) (by kernel_rfl) (by kernel_rfl) (fun _ _ _ h => h) (Or.inl ⟨by rfl, fun w' _ => by go_simp⟩) trivial ?_
          simp only [Act.put, List.getElem_toArray, List.getElem_cons_zero, List.getElem_cons_succ, List.setIfInBounds_toArray, List.set_cons_zero, List.set_cons_succ]
          refine wpAnyH_ready (rs := [1]) (by kernel_rfl) (by simp) (AllReadyH.cons rfl (fun Kt hK => ?_) AllReadyH.nil)
          refine wanted_pos rfl ?_
          refine wp_load_mid 25 _ rfl (b0 + 1) 0 rfl (ab s.v 32) _ (RowB.range hVd) Tryd.underlying25 rfl (ilH _) (hK.out _ _ trivial (fun _ => ?_))
          clear hK Kt
          simp only [Act.put, List.getElem_toArray, List.getElem_cons_zero, List.getElem_cons_succ, List.setIfInBounds_toArray, List.set_cons_zero, List.set_cons_succ]
          refine wpAnyH_ready (rs := [5]) (by kernel_rfl) (by simp) (AllReadyH.cons rfl (fun Kt hK => ?_) AllReadyH.nil)
          refine wanted_pos rfl ?_
          refine wp_call (R := fun r w' => ∃ a' c', r = .slice a' (33 + m) c' ∧ BA w' a' (33 + m) (withF s.v c g) ∧ Below wr.drew.heap.size wr.drew w') (vs := #[.agg (ab s.v 32).toArray, .int .u8 (c : Int), .slice y m d]) rfl (by simp only [List.map_toArray, List.map_cons, List.map_nil]; rfl) (by go_simp) (Calls.mono (refWith_any (b := c) HSB.out.2 (by first | omega | decide) hYd (by have := HM.out; omega)) (fun e w' ⟨a, c, he, hB, hb⟩ => ⟨_, he, a, c, rfl, hB, hb⟩)) (fun r W1 ⟨a1, c1, hr, hB1, hb1⟩ => ?_)
          subst hr
          refine hK.out _ _ trivial (fun _ => ?_)
          clear hK Kt
          simp only [Act.put, List.getElem_toArray, List.getElem_cons_zero, List.getElem_cons_succ, List.setIfInBounds_toArray, List.set_cons_zero, List.set_cons_succ]
          refine wpAnyH_ready (rs := [6]) (by kernel_rfl) (by simp) (AllReadyH.cons rfl (fun Kt hK => ?_) AllReadyH.nil)
          refine wanted_pos rfl ?_
          refine wp_call (R := fun r w' => r = .agg (ab k1 32).toArray ∧ Below W1.heap.size W1 w') (vs := #[.slice (some ⟨b0, 0, none⟩) 32 32, .slice a1 (33 + m) c1]) rfl (by simp only [List.map_toArray, List.map_cons, List.map_nil]; rfl) (by go_simp) (refMac_B HK1.out (RowB.ba (Row8.keep hKd hb1) HSB.out.1) hB1 (by omega) (by have := HM.out; omega)) (fun r W2 ⟨hr, hb2⟩ => ?_)
          subst hr
          refine hK.out _ _ trivial (fun _ => ?_)
          clear hK Kt
          simp only [Act.put, List.getElem_toArray, List.getElem_cons_zero, List.getElem_cons_succ, List.setIfInBounds_toArray, List.set_cons_zero, List.set_cons_succ]
          refine wpAnyH_ready (rs := [7]) (by kernel_rfl) (by simp) (AllReadyH.cons rfl (fun Kt hK => ?_) AllReadyH.nil)
          refine wanted_pos rfl ?_
          have hK2 := Row8.keep (Row8.keep hKd hb1) hb2
          have hV2 := Row8.keep (Row8.keep hVd hb1) hb2
          refine wp_store_mid 25 _ _ rfl b0 0 (ab k1 32).toArray rfl rfl (RowB.there hK2 k1) (inH _) (all_oneCell_toArray (ab_one _ _)) (hK.out _ _ trivial (fun _ => ?_))
          clear hK Kt
          refine wpAnyH_done (by kernel_rfl) ?_ _
          refine NoPanic.normal ?_
          have hK3 : RowB (W2.setCells b0 0 (ab k1 32).toArray.toList) b0 32 k1 := RowB.stored hK2 k1
          have hV3 : RowB (W2.setCells b0 0 (ab k1 32).toArray.toList) (b0 + 1) 32 s.v := Row8.apart hV2 (by omega) 0 (ab k1 32)
          have hB3 : Below b0 w (W2.setCells b0 0 (ab k1 32).toArray.toList) := by subst hb0; exact below_setCells _ _ (K.call HB.out (K.call (K.call hd hb1) hb2)) (Nat.le_refl _)
          have hG3 : wr.grownBy (W2.setCells b0 0 (ab k1 32).toArray.toList) (some b0) := grown_trans (grown_of (K.call (K.call hd hb1) hb2) _) (grown_sets b0 (ab k1 32) 0 W2)
          generalize W2.setCells b0 0 (ab k1 32).toArray.toList = W3 at *
          clear hK2 hV2 hb1 hb2 hB1 hKd hVd hYd hd
          go_upto_region 10 with fail
          have hd := K.drew (Below.refl _ W3)
          have hKd := Row8.keep hK3 hd
          have hVd := Row8.keep hV3 hd
          refine wp_region_noPanic ?_
          refine wp_region_held_drew (S := fun _ => True) (by kernel_rfl) trivial (fun _ => ?_)
          refine wpAnyH_take (i := 0) (v := .slice (some ⟨b0, 0, none⟩) 32 32) rfl (by kernel_rfl) (by kernel_rfl) (by kernel_rfl) (fun _ _ _ h => h) (Or.inl ⟨by rfl, fun w' _ => by go_simp⟩) trivial ?_
          refine wpAnyH_take (i := 1) (v := .slice (some ⟨b0 + 1, 0, none⟩) 32 32) rfl (by kernel_rfl) (by kernel_rfl) (by kernel_rfl) (fun _ _ _ h => h) (Or.inl ⟨by rfl, fun w' _ => by go_simp⟩) trivial ?_
          simp only [Act.put, List.getElem_toArray, List.getElem_cons_zero, List.getElem_cons_succ, List.setIfInBounds_toArray, List.set_cons_zero, List.set_cons_succ]
          refine wpAnyH_ready (rs := [2]) (by kernel_rfl) (by simp) (AllReadyH.cons rfl (fun Kt hK => ?_) AllReadyH.nil)
          refine wanted_pos rfl ?_
          refine wp_call (R := fun r w' => r = .agg (ab v1 32).toArray ∧ Below W3.drew.heap.size W3.drew w') (vs := #[.slice (some ⟨b0, 0, none⟩) 32 32, .slice (some ⟨b0 + 1, 0, none⟩) 32 32]) rfl (by simp only [List.map_toArray, List.map_cons, List.map_nil]; rfl) (by go_simp) (refMac_B HV1.out (RowB.ba hKd HKB.out) (RowB.ba hVd HVB.out) (by omega) (by omega)) (fun r W5 ⟨hr, hb5⟩ => ?_)
          subst hr
          refine hK.out _ _ trivial (fun _ => ?_)
          clear hK Kt
          simp only [Act.put, List.getElem_toArray, List.getElem_cons_zero, List.getElem_cons_succ, List.setIfInBounds_toArray, List.set_cons_zero, List.set_cons_succ]
          refine wpAnyH_ready (rs := [3]) (by kernel_rfl) (by simp) (AllReadyH.cons rfl (fun Kt hK => ?_) AllReadyH.nil)
          refine wanted_pos rfl ?_
          have hK5 := Row8.keep hKd hb5
          have hV5 := Row8.keep hVd hb5
          refine wp_store_mid 25 _ _ rfl (b0 + 1) 0 (ab v1 32).toArray rfl rfl (RowB.there hV5 v1) (inH _) (all_oneCell_toArray (ab_one _ _)) (hK.out _ _ trivial (fun _ => ?_))
          clear hK Kt
          refine wpAnyH_done (by kernel_rfl) ?_ _
          refine NoPanic.normal ?_
          have hV6 : RowB (W5.setCells (b0 + 1) 0 (ab v1 32).toArray.toList) (b0 + 1) 32 v1 := RowB.stored hV5 v1
          have hK6 : RowB (W5.setCells (b0 + 1) 0 (ab v1 32).toArray.toList) b0 32 k1 := Row8.apart hK5 (by omega) 0 (ab v1 32)
          have hB6 : Below b0 w (W5.setCells (b0 + 1) 0 (ab v1 32).toArray.toList) := by subst hb0; exact below_setCells _ _ (K.call hB3 (K.call hd hb5)) (by omega)
          have hG6 : W3.grownBy (W5.setCells (b0 + 1) 0 (ab v1 32).toArray.toList) (some (b0 + 1)) := grown_trans (grown_of (K.call hd hb5) _) (grown_sets (b0 + 1) (ab v1 32) 0 W5)
          generalize W5.setCells (b0 + 1) 0 (ab v1 32).toArray.toList = W6 at *
          clear hK5 hV5 hb5 hKd hVd hd
          clear hK3 hV3 hB3 HK HV HB HYr HSB HKB HVB HK1 HV1
          go_wp2_with fail
          go_roundg (2 - (c + 1))
          case measure => have := HCl.out; omega
          case rel => exact ⟨c + 1, rfl, by have := HCl.out; omega, by go_num, by rw [HRes.out]; exact hK6, by rw [HRes.out]; exact hV6, hB6⟩
        · obtain rfl : c = 2 := by omega
          have HK : Hid (RowB wr b0 32 (kvAt g m 0).k) := hKr
          have HV : Hid (RowB wr (b0 + 1) 32 (kvAt g m 0).v) := hVr
          have HB := hide hB
          clear hKr hVr hB hc hlt
          go_wp2_with fail
          go_loopg [9, 10] n (fun g' s9 s10 wr => ∃ (i : Nat) (u : Value), u = s9 ∧ g' = n - i ∧ i ≤ n ∧ s10 = .int .i64 i ∧ RowB wr b0 32 (kvAt g m i).k ∧ RowB wr (b0 + 1) 32 (kvAt g m i).v ∧ wr.ownsRow (b0 + 2) 25 32 u i (hcells (fun j => (kvAt g m (j + 1)).v) i) ∧ Below b0 w wr)
          case atStart => exact ⟨0, _, rfl, rfl, by omega, rfl, HK.out, HV.out, World.ownsRow_nil _ _ _ _, HB.out⟩
          case round =>
            clear HK HV HB
            obtain ⟨i, u, hu, rfl, hi, rfl, hKr, hVr, hO, hB⟩ := hrel
            subst hu
            by_cases hlt : i < n
            · have hii : (i : Int) < (n : Int) := by omega
              have HI := hide hlt
              have HSB := hide (kvAt_lt g m i)
              have HO := hide hO
              have HBk : Hid (∀ q, u.ownBlock = some q → b0 + 2 ≤ q) := fun q hq => (hO.lt q hq).1
              by_cases hz : i = 0
              · have hzi : (i : Int) = 0 := by omega
                have HRes : Hid (kvAt g m (i + 1) = kvNext (kvAt g m i)) := by show _ = _; rw [hz]; rfl
                generalize hs : kvAt g m i = s at *
                obtain ⟨k1, hk1⟩ : ∃ k1, k1 = s.k := ⟨_, rfl⟩
                obtain ⟨v1, hv1⟩ : ∃ v1, v1 = macB k1 32 s.v 32 := ⟨_, rfl⟩
                have HV1 : Hid (v1 = macB k1 32 s.v 32) := hv1
                have HKB : Hid (∀ i, k1 i < 256) := fun i => by rw [hk1]; exact HSB.out.1 i
                have HVB := hide HSB.out.2
                have HRes : Hid (kvAt g m (i + 1) = ⟨k1, v1⟩) := by show _ = _; rw [HRes.out, hv1, hk1]; rfl
                rw [← hk1] at hKr
                have hK3 := hKr
                have hV3 := hVr
                have hB3 := hB
                clear hKr hVr hB hi hlt hk1 hv1 hO hs hz
                go_upto_region 18 with fail
                have hd := K.drew (Below.refl _ wr)
                have hKd := Row8.keep hK3 hd
                have hVd := Row8.keep hV3 hd
                refine wp_region_noPanic ?_
                refine wp_region_held_drew (S := fun _ => True) (by kernel_rfl) trivial (fun _ => ?_)
                refine wpAnyH_take (i := 0) (v := .slice (some ⟨b0, 0, none⟩) 32 32) rfl (by kernel_rfl) (by kernel_rfl) (by kernel_rfl) (fun _ _ _ h => h) (Or.inl ⟨by rfl, fun w' _ => by go_simp⟩) trivial ?_
                refine wpAnyH_take (i := 1) (v := .slice (some ⟨b0 + 1, 0, none⟩) 32 32) rfl (by kernel_rfl) (by kernel_rfl) (by kernel_rfl) (fun _ _ _ h => h) (Or.inl ⟨by rfl, fun w' _ => by go_simp⟩) trivial ?_
                simp only [Act.put, List.getElem_toArray, List.getElem_cons_zero, List.getElem_cons_succ, List.setIfInBounds_toArray, List.set_cons_zero, List.set_cons_succ]
                refine wpAnyH_ready (rs := [2]) (by kernel_rfl) (by simp) (AllReadyH.cons rfl (fun Kt hK => ?_) AllReadyH.nil)
                refine wanted_pos rfl ?_
                refine wp_call (R := fun r w' => r = .agg (ab v1 32).toArray ∧ Below wr.drew.heap.size wr.drew w') (vs := #[.slice (some ⟨b0, 0, none⟩) 32 32, .slice (some ⟨b0 + 1, 0, none⟩) 32 32]) rfl (by simp only [List.map_toArray, List.map_cons, List.map_nil]; rfl) (by go_simp) (refMac_B HV1.out (RowB.ba hKd HKB.out) (RowB.ba hVd HVB.out) (by omega) (by omega)) (fun r W5 ⟨hr, hb5⟩ => ?_)
                subst hr
                refine hK.out _ _ trivial (fun _ => ?_)
                clear hK Kt
                simp only [Act.put, List.getElem_toArray, List.getElem_cons_zero, List.getElem_cons_succ, List.setIfInBounds_toArray, List.set_cons_zero, List.set_cons_succ]
                refine wpAnyH_ready (rs := [3]) (by kernel_rfl) (by simp) (AllReadyH.cons rfl (fun Kt hK => ?_) AllReadyH.nil)
                refine wanted_pos rfl ?_
                have hK5 := Row8.keep hKd hb5
                have hV5 := Row8.keep hVd hb5
                refine wp_store_mid 25 _ _ rfl (b0 + 1) 0 (ab v1 32).toArray rfl rfl (RowB.there hV5 v1) (inH _) (all_oneCell_toArray (ab_one _ _)) (hK.out _ _ trivial (fun _ => ?_))
                clear hK Kt
                refine wpAnyH_done (by kernel_rfl) ?_ _
                refine NoPanic.normal ?_
                have hV6 : RowB (W5.setCells (b0 + 1) 0 (ab v1 32).toArray.toList) (b0 + 1) 32 v1 := RowB.stored hV5 v1
                have hK6 : RowB (W5.setCells (b0 + 1) 0 (ab v1 32).toArray.toList) b0 32 k1 := Row8.apart hK5 (by omega) 0 (ab v1 32)
                have hB6 : Below b0 w (W5.setCells (b0 + 1) 0 (ab v1 32).toArray.toList) := by subst hb0; exact below_setCells _ _ (K.call hB3 (K.call hd hb5)) (by omega)
                have hG6 : wr.grownBy (W5.setCells (b0 + 1) 0 (ab v1 32).toArray.toList) (some (b0 + 1)) := grown_trans (grown_of (K.call hd hb5) _) (grown_sets (b0 + 1) (ab v1 32) 0 W5)
                generalize W5.setCells (b0 + 1) 0 (ab v1 32).toArray.toList = W6 at *
                clear hK5 hV5 hb5 hKd hVd hd
                have hO6 := (HO.out.kept hG6 (by cases hq : u.ownBlock with | none => exact Or.inl rfl | some q => exact Or.inr (fun e => by have := HBk.out q hq; cases e; omega)))
                have R6 := hide (RowB.range hV6)
                have hsz : b0 + 2 ≤ W6.heap.size := hV6.lt
                have HO6 := hide (hO6.alloc (.cells (ab v1 32).toArray 25))
                have hR7 := hide (RowB.made W6 25 32 v1 _ rfl)
                have hal := K.alloc (Below.refl _ W6) (.cells (ab v1 32).toArray 25)
                have HK7 := hide (Row8.keep hK6 hal)
                have HV7 := hide (Row8.keep hV6 hal)
                have HB7 : Hid (Below b0 w (W6.alloc (.cells (ab v1 32).toArray 25))) := by subst hb0; exact K.call hB6 hal
                have HF : Hid ((kvAt g m (i + 1)).v = v1) := by show _ = _; rw [HRes.out]
                have HSZ : Hid (b0 + 2 ≤ (W6.alloc (.cells (ab v1 32).toArray 25)).heap.size) := by show _ ≤ _; simp; omega
                clear hO6 hal hK6 hV6 hB6 hsz HO
                go_wp2_with (first
                  | (refine wpList_load_mid rfl 25 _ rfl (b0 + 1) 0 rfl (ab v1 32) _ R6.out Tryd.underlying25 rfl (ilH _) ?_; simp only [Act.put, List.setIfInBounds_toArray, List.set_cons_zero, List.set_cons_succ])
                  | (refine wpList_listH rfl _ rfl v1 rfl ?_; simp only [Act.put, List.setIfInBounds_toArray, List.set_cons_zero, List.set_cons_succ]; generalize hW7 : W6.alloc (.cells (ab v1 32).toArray 25) = W7 at hR7 HK7 HV7 HB7 HO6 HSZ ⊢; clear hW7)
                  | (at_builtin; refine wpList_appH rfl _ _ rfl rfl HO6.out rfl hR7.out HF.out (by have := HI.out; have := HN.out; omega) HSZ.out ?_; intro u8 W8 hO8 hg8))
                have hK8 : RowB W8 b0 32 k1 := ⟨Nat.lt_of_lt_of_le HK7.out.lt hg8.size, fun j hj => hg8.cell (HK7.out.c j hj) (fun e => by have := HBk.out b0 e.symm; omega), fun j hj => by
                  rw [World.frozen?_of_block (w := W7) (hg8.block b0 HK7.out.lt (fun e => by have := HBk.out b0 e.symm; omega))]; exact HK7.out.z j hj⟩
                have hV8 : RowB W8 (b0 + 1) 32 v1 := ⟨Nat.lt_of_lt_of_le HV7.out.lt hg8.size, fun j hj => hg8.cell (HV7.out.c j hj) (fun e => by have := HBk.out (b0 + 1) e.symm; omega), fun j hj => by
                  rw [World.frozen?_of_block (w := W7) (hg8.block (b0 + 1) HV7.out.lt (fun e => by have := HBk.out (b0 + 1) e.symm; omega))]; exact HV7.out.z j hj⟩
                have hB8 : Below b0 w W8 := HB7.out.grown hg8 (by have := HK7.out.lt; omega) (fun k hk => by have := HBk.out k hk; omega)
                clear hg8 HK7 HV7 HB7 HO6 hR7 R6
                go_wp2_with fail
                go_roundg (n - (i + 1))
                case measure => have := HI.out; omega
                case rel => exact ⟨i + 1, _, rfl, rfl, HI.out, by go_num, by rw [HRes.out]; exact hK8, by rw [HRes.out]; exact hV8, hO8, hB8⟩
              · have hzi : (0 : Int) < (i : Int) := by omega
                obtain ⟨j, hj⟩ : ∃ j, i = j + 1 := ⟨i - 1, by omega⟩
                have HRes : Hid (kvAt g m (i + 1) = kvNext (kvStep (kvAt g m i) 0 (fun _ => 0) 0)) := by show _ = _; rw [hj]; rfl
                clear hj
                generalize hs : kvAt g m i = s at *
                obtain ⟨k1, hk1⟩ : ∃ k1, k1 = macB s.k 32 (withF s.v 0 (fun _ => 0)) (33 + 0) := ⟨_, rfl⟩
                obtain ⟨v0, hv0⟩ : ∃ v0, v0 = macB k1 32 s.v 32 := ⟨_, rfl⟩
                obtain ⟨v1, hv1⟩ : ∃ v1, v1 = macB k1 32 v0 32 := ⟨_, rfl⟩
                have HK1 : Hid (k1 = macB s.k 32 (withF s.v 0 (fun _ => 0)) (33 + 0)) := hk1
                have HV0 : Hid (v0 = macB k1 32 s.v 32) := hv0
                have HV1 : Hid (v1 = macB k1 32 v0 32) := hv1
                have HKB : Hid (∀ i, k1 i < 256) := fun i => by rw [hk1]; exact macB_lt _ _ _ _ i
                have HVB := hide HSB.out.2
                have HRes : Hid (kvAt g m (i + 1) = ⟨k1, v1⟩) := by show _ = _; rw [HRes.out, hv1, hv0, hk1]; rfl
                have HK := hide hKr
                have HV := hide hVr
                have HB := hide hB
                clear hKr hVr hB hi hlt hk1 hv0 hv1 hO hs hz
                go_upto_region 16 with fail
                have hd := K.drew (Below.refl _ wr)
                have hKd := Row8.keep HK.out hd
                have hVd := Row8.keep HV.out hd
                have hYd := (ba_nil wr).keep hd
                refine wp_region_noPanic ?_
                refine wp_region_held_drew (S := fun _ => True) (by kernel_rfl) trivial (fun _ => ?_)
                refine wpAnyH_take (i := 0) (v := .slice (some ⟨b0, 0, none⟩) 32 32) rfl (by kernel_rfl) (by kernel_rfl) (by kernel_rfl) (fun _ _ _ h => h) (Or.inl ⟨by rfl, fun w' _ => by go_simp⟩) trivial ?_
                simp only [Act.put, List.getElem_toArray, List.getElem_cons_zero, List.setIfInBounds_toArray, List.set_cons_zero, List.set_cons_succ]
                refine wpAnyH_ready (rs := [1]) (by kernel_rfl) (by simp) (AllReadyH.cons rfl (fun Kt hK => ?_) AllReadyH.nil)
                refine wanted_pos rfl ?_
                refine wp_load_mid 25 _ rfl (b0 + 1) 0 rfl (ab s.v 32) _ (RowB.range hVd) Tryd.underlying25 rfl (ilH _) (hK.out _ _ trivial (fun _ => ?_))
                clear hK Kt
                simp only [Act.put, List.getElem_toArray, List.getElem_cons_zero, List.getElem_cons_succ, List.setIfInBounds_toArray, List.set_cons_zero, List.set_cons_succ]
                refine wpAnyH_ready (rs := [2]) (by kernel_rfl) (by simp) (AllReadyH.cons rfl (fun Kt hK => ?_) AllReadyH.nil)
                refine wanted_pos rfl ?_
                refine wp_call (R := fun r w' => ∃ a' c', r = .slice a' (33 + 0) c' ∧ BA w' a' (33 + 0) (withF s.v 0 (fun _ => 0)) ∧ Below wr.drew.heap.size wr.drew w') (vs := #[.agg (ab s.v 32).toArray, .int .u8 0, .slice none 0 0]) rfl (by simp only [List.map_toArray, List.map_cons, List.map_nil]; rfl) (by go_simp) (Calls.mono (refWith_any (b := 0) HSB.out.2 (by first | omega | decide) hYd (by have := HM.out; omega)) (fun e w' ⟨a, c, he, hB, hb⟩ => ⟨_, he, a, c, rfl, hB, hb⟩)) (fun r W1 ⟨a1, c1, hr, hB1, hb1⟩ => ?_)
                subst hr
                refine hK.out _ _ trivial (fun _ => ?_)
                clear hK Kt
                simp only [Act.put, List.getElem_toArray, List.getElem_cons_zero, List.getElem_cons_succ, List.setIfInBounds_toArray, List.set_cons_zero, List.set_cons_succ]
                refine wpAnyH_ready (rs := [3]) (by kernel_rfl) (by simp) (AllReadyH.cons rfl (fun Kt hK => ?_) AllReadyH.nil)
                refine wanted_pos rfl ?_
                refine wp_call (R := fun r w' => r = .agg (ab k1 32).toArray ∧ Below W1.heap.size W1 w') (vs := #[.slice (some ⟨b0, 0, none⟩) 32 32, .slice a1 (33 + 0) c1]) rfl (by simp only [List.map_toArray, List.map_cons, List.map_nil]; rfl) (by go_simp) (refMac_B HK1.out (RowB.ba (Row8.keep hKd hb1) HSB.out.1) hB1 (by omega) (by have := HM.out; omega)) (fun r W2 ⟨hr, hb2⟩ => ?_)
                subst hr
                refine hK.out _ _ trivial (fun _ => ?_)
                clear hK Kt
                simp only [Act.put, List.getElem_toArray, List.getElem_cons_zero, List.getElem_cons_succ, List.setIfInBounds_toArray, List.set_cons_zero, List.set_cons_succ]
                refine wpAnyH_ready (rs := [4]) (by kernel_rfl) (by simp) (AllReadyH.cons rfl (fun Kt hK => ?_) AllReadyH.nil)
                refine wanted_pos rfl ?_
                have hK2 := Row8.keep (Row8.keep hKd hb1) hb2
                have hV2 := Row8.keep (Row8.keep hVd hb1) hb2
                refine wp_store_mid 25 _ _ rfl b0 0 (ab k1 32).toArray rfl rfl (RowB.there hK2 k1) (inH _) (all_oneCell_toArray (ab_one _ _)) (hK.out _ _ trivial (fun _ => ?_))
                clear hK Kt
                refine wpAnyH_done (by kernel_rfl) ?_ _
                refine NoPanic.normal ?_
                have hK3 : RowB (W2.setCells b0 0 (ab k1 32).toArray.toList) b0 32 k1 := RowB.stored hK2 k1
                have hV3 : RowB (W2.setCells b0 0 (ab k1 32).toArray.toList) (b0 + 1) 32 s.v := Row8.apart hV2 (by omega) 0 (ab k1 32)
                have hB3 : Below b0 w (W2.setCells b0 0 (ab k1 32).toArray.toList) := by subst hb0; exact below_setCells _ _ (K.call HB.out (K.call (K.call hd hb1) hb2)) (Nat.le_refl _)
                have hG3 : wr.grownBy (W2.setCells b0 0 (ab k1 32).toArray.toList) (some b0) := grown_trans (grown_of (K.call (K.call hd hb1) hb2) _) (grown_sets b0 (ab k1 32) 0 W2)
                generalize W2.setCells b0 0 (ab k1 32).toArray.toList = W3 at *
                clear hK2 hV2 hb1 hb2 hB1 hKd hVd hYd hd
                go_upto_region 17 with fail
                have hd := K.drew (Below.refl _ W3)
                have hKd := Row8.keep hK3 hd
                have hVd := Row8.keep hV3 hd
                refine wp_region_noPanic ?_
                refine wp_region_held_drew (S := fun _ => True) (by kernel_rfl) trivial (fun _ => ?_)
                refine wpAnyH_take (i := 0) (v := .slice (some ⟨b0, 0, none⟩) 32 32) rfl (by kernel_rfl) (by kernel_rfl) (by kernel_rfl) (fun _ _ _ h => h) (Or.inl ⟨by rfl, fun w' _ => by go_simp⟩) trivial ?_
                refine wpAnyH_take (i := 1) (v := .slice (some ⟨b0 + 1, 0, none⟩) 32 32) rfl (by kernel_rfl) (by kernel_rfl) (by kernel_rfl) (fun _ _ _ h => h) (Or.inl ⟨by rfl, fun w' _ => by go_simp⟩) trivial ?_
                simp only [Act.put, List.getElem_toArray, List.getElem_cons_zero, List.getElem_cons_succ, List.setIfInBounds_toArray, List.set_cons_zero, List.set_cons_succ]
                refine wpAnyH_ready (rs := [2]) (by kernel_rfl) (by simp) (AllReadyH.cons rfl (fun Kt hK => ?_) AllReadyH.nil)
                refine wanted_pos rfl ?_
                refine wp_call (R := fun r w' => r = .agg (ab v0 32).toArray ∧ Below W3.drew.heap.size W3.drew w') (vs := #[.slice (some ⟨b0, 0, none⟩) 32 32, .slice (some ⟨b0 + 1, 0, none⟩) 32 32]) rfl (by simp only [List.map_toArray, List.map_cons, List.map_nil]; rfl) (by go_simp) (refMac_B HV0.out (RowB.ba hKd HKB.out) (RowB.ba hVd HVB.out) (by omega) (by omega)) (fun r W5 ⟨hr, hb5⟩ => ?_)
                subst hr
                refine hK.out _ _ trivial (fun _ => ?_)
                clear hK Kt
                simp only [Act.put, List.getElem_toArray, List.getElem_cons_zero, List.getElem_cons_succ, List.setIfInBounds_toArray, List.set_cons_zero, List.set_cons_succ]
                refine wpAnyH_ready (rs := [3]) (by kernel_rfl) (by simp) (AllReadyH.cons rfl (fun Kt hK => ?_) AllReadyH.nil)
                refine wanted_pos rfl ?_
                have hK5 := Row8.keep hKd hb5
                have hV5 := Row8.keep hVd hb5
                refine wp_store_mid 25 _ _ rfl (b0 + 1) 0 (ab v0 32).toArray rfl rfl (RowB.there hV5 v0) (inH _) (all_oneCell_toArray (ab_one _ _)) (hK.out _ _ trivial (fun _ => ?_))
                clear hK Kt
                refine wpAnyH_done (by kernel_rfl) ?_ _
                refine NoPanic.normal ?_
                have hV6 : RowB (W5.setCells (b0 + 1) 0 (ab v0 32).toArray.toList) (b0 + 1) 32 v0 := RowB.stored hV5 v0
                have hK6 : RowB (W5.setCells (b0 + 1) 0 (ab v0 32).toArray.toList) b0 32 k1 := Row8.apart hK5 (by omega) 0 (ab v0 32)
                have hB6 : Below b0 w (W5.setCells (b0 + 1) 0 (ab v0 32).toArray.toList) := by subst hb0; exact below_setCells _ _ (K.call hB3 (K.call hd hb5)) (by omega)
                have hG6 : W3.grownBy (W5.setCells (b0 + 1) 0 (ab v0 32).toArray.toList) (some (b0 + 1)) := grown_trans (grown_of (K.call hd hb5) _) (grown_sets (b0 + 1) (ab v0 32) 0 W5)
                generalize W5.setCells (b0 + 1) 0 (ab v0 32).toArray.toList = W6 at *
                clear hK5 hV5 hb5 hKd hVd hd
                have hG5 := hG6
                have hK3 := hK6
                have hV3 := hV6
                have hB3 := hB6
                have HVB : Hid (∀ i, v0 i < 256) := fun i => by rw [HV0.out]; exact macB_lt _ _ _ _ i
                clear hK6 hV6 hB6 hG6
                generalize hW7 : W6 = W7 at *
                clear hW7
                go_upto_region 18 with fail
                have hd := K.drew (Below.refl _ W7)
                have hKd := Row8.keep hK3 hd
                have hVd := Row8.keep hV3 hd
                refine wp_region_noPanic ?_
                refine wp_region_held_drew (S := fun _ => True) (by kernel_rfl) trivial (fun _ => ?_)
                refine wpAnyH_take (i := 0) (v := .slice (some ⟨b0, 0, none⟩) 32 32) rfl (by kernel_rfl) (by kernel_rfl) (by kernel_rfl) (fun _ _ _ h => h) (Or.inl ⟨by rfl, fun w' _ => by go_simp⟩) trivial ?_
                refine wpAnyH_take (i := 1) (v := .slice (some ⟨b0 + 1, 0, none⟩) 32 32) rfl (by kernel_rfl) (by kernel_rfl) (by kernel_rfl) (fun _ _ _ h => h) (Or.inl ⟨by rfl, fun w' _ => by go_simp⟩) trivial ?_
                simp only [Act.put, List.getElem_toArray, List.getElem_cons_zero, List.getElem_cons_succ, List.setIfInBounds_toArray, List.set_cons_zero, List.set_cons_succ]
                refine wpAnyH_ready (rs := [2]) (by kernel_rfl) (by simp) (AllReadyH.cons rfl (fun Kt hK => ?_) AllReadyH.nil)
                refine wanted_pos rfl ?_
                refine wp_call (R := fun r w' => r = .agg (ab v1 32).toArray ∧ Below W7.drew.heap.size W7.drew w') (vs := #[.slice (some ⟨b0, 0, none⟩) 32 32, .slice (some ⟨b0 + 1, 0, none⟩) 32 32]) rfl (by simp only [List.map_toArray, List.map_cons, List.map_nil]; rfl) (by go_simp) (refMac_B HV1.out (RowB.ba hKd HKB.out) (RowB.ba hVd HVB.out) (by omega) (by omega)) (fun r W5 ⟨hr, hb5⟩ => ?_)
                subst hr
                refine hK.out _ _ trivial (fun _ => ?_)
                clear hK Kt
                simp only [Act.put, List.getElem_toArray, List.getElem_cons_zero, List.getElem_cons_succ, List.setIfInBounds_toArray, List.set_cons_zero, List.set_cons_succ]
                refine wpAnyH_ready (rs := [3]) (by kernel_rfl) (by simp) (AllReadyH.cons rfl (fun Kt hK => ?_) AllReadyH.nil)
                refine wanted_pos rfl ?_
                have hK5 := Row8.keep hKd hb5
                have hV5 := Row8.keep hVd hb5
                refine wp_store_mid 25 _ _ rfl (b0 + 1) 0 (ab v1 32).toArray rfl rfl (RowB.there hV5 v1) (inH _) (all_oneCell_toArray (ab_one _ _)) (hK.out _ _ trivial (fun _ => ?_))
                clear hK Kt
                refine wpAnyH_done (by kernel_rfl) ?_ _
                refine NoPanic.normal ?_
                have hV6 : RowB (W5.setCells (b0 + 1) 0 (ab v1 32).toArray.toList) (b0 + 1) 32 v1 := RowB.stored hV5 v1
                have hK6 : RowB (W5.setCells (b0 + 1) 0 (ab v1 32).toArray.toList) b0 32 k1 := Row8.apart hK5 (by omega) 0 (ab v1 32)
                have hB6 : Below b0 w (W5.setCells (b0 + 1) 0 (ab v1 32).toArray.toList) := by subst hb0; exact below_setCells _ _ (K.call hB3 (K.call hd hb5)) (by omega)
                have hG6 : W7.grownBy (W5.setCells (b0 + 1) 0 (ab v1 32).toArray.toList) (some (b0 + 1)) := grown_trans (grown_of (K.call hd hb5) _) (grown_sets (b0 + 1) (ab v1 32) 0 W5)
                generalize W5.setCells (b0 + 1) 0 (ab v1 32).toArray.toList = W6 at *
                clear hK5 hV5 hb5 hKd hVd hd
                have hO6 := (((HO.out.kept hG3 (by cases hq : u.ownBlock with | none => exact Or.inl rfl | some q => exact Or.inr (fun e => by have := HBk.out q hq; cases e; omega))).kept hG5 (by cases hq : u.ownBlock with | none => exact Or.inl rfl | some q => exact Or.inr (fun e => by have := HBk.out q hq; cases e; omega))).kept hG6 (by cases hq : u.ownBlock with | none => exact Or.inl rfl | some q => exact Or.inr (fun e => by have := HBk.out q hq; cases e; omega)))
                have R6 := hide (RowB.range hV6)
                have hsz : b0 + 2 ≤ W6.heap.size := hV6.lt
                have HO6 := hide (hO6.alloc (.cells (ab v1 32).toArray 25))
                have hR7 := hide (RowB.made W6 25 32 v1 _ rfl)
                have hal := K.alloc (Below.refl _ W6) (.cells (ab v1 32).toArray 25)
                have HK7 := hide (Row8.keep hK6 hal)
                have HV7 := hide (Row8.keep hV6 hal)
                have HB7 : Hid (Below b0 w (W6.alloc (.cells (ab v1 32).toArray 25))) := by subst hb0; exact K.call hB6 hal
                have HF : Hid ((kvAt g m (i + 1)).v = v1) := by show _ = _; rw [HRes.out]
                have HSZ : Hid (b0 + 2 ≤ (W6.alloc (.cells (ab v1 32).toArray 25)).heap.size) := by show _ ≤ _; simp; omega
                clear hO6 hal hK6 hV6 hB6 hsz HO
                go_wp2_with (first
                  | (refine wpList_load_mid rfl 25 _ rfl (b0 + 1) 0 rfl (ab v1 32) _ R6.out Tryd.underlying25 rfl (ilH _) ?_; simp only [Act.put, List.setIfInBounds_toArray, List.set_cons_zero, List.set_cons_succ])
                  | (refine wpList_listH rfl _ rfl v1 rfl ?_; simp only [Act.put, List.setIfInBounds_toArray, List.set_cons_zero, List.set_cons_succ]; generalize hW7 : W6.alloc (.cells (ab v1 32).toArray 25) = W7 at hR7 HK7 HV7 HB7 HO6 HSZ ⊢; clear hW7)
                  | (at_builtin; refine wpList_appH rfl _ _ rfl rfl HO6.out rfl hR7.out HF.out (by have := HI.out; have := HN.out; omega) HSZ.out ?_; intro u8 W8 hO8 hg8))
                have hK8 : RowB W8 b0 32 k1 := ⟨Nat.lt_of_lt_of_le HK7.out.lt hg8.size, fun j hj => hg8.cell (HK7.out.c j hj) (fun e => by have := HBk.out b0 e.symm; omega), fun j hj => by
                  rw [World.frozen?_of_block (w := W7) (hg8.block b0 HK7.out.lt (fun e => by have := HBk.out b0 e.symm; omega))]; exact HK7.out.z j hj⟩
                have hV8 : RowB W8 (b0 + 1) 32 v1 := ⟨Nat.lt_of_lt_of_le HV7.out.lt hg8.size, fun j hj => hg8.cell (HV7.out.c j hj) (fun e => by have := HBk.out (b0 + 1) e.symm; omega), fun j hj => by
                  rw [World.frozen?_of_block (w := W7) (hg8.block (b0 + 1) HV7.out.lt (fun e => by have := HBk.out (b0 + 1) e.symm; omega))]; exact HV7.out.z j hj⟩
                have hB8 : Below b0 w W8 := HB7.out.grown hg8 (by have := HK7.out.lt; omega) (fun k hk => by have := HBk.out k hk; omega)
                clear hg8 HK7 HV7 HB7 HO6 hR7 R6
                go_wp2_with fail
                go_roundg (n - (i + 1))
                case measure => have := HI.out; omega
                case rel => exact ⟨i + 1, _, rfl, rfl, HI.out, by go_num, by rw [HRes.out]; exact hK8, by rw [HRes.out]; exact hV8, hO8, hB8⟩
            · obtain rfl : n = i := by omega
              obtain ⟨x9, c9, rfl, hx9, hp9⟩ := own_hl hO
              have HX9 := hide hx9
              have HP9 := hide hp9
              have HB9 := hide hB
              clear hO hKr hVr hB hi hlt hx9 hp9
              go_wp2_with fail
              go_ret
              exact ⟨_, _, rfl, HX9.out, fun p hp => by have := HP9.out p hp; rw [hb0]; omega, by rw [hb0]; exact HB9.out⟩
end Go.Proofs.YtiahjnfopeiliaaDoor
