/- What the program's own renew does. -/
import Derived.Test.YtiahjnfopeiliaaDoorP7Step
import Derived.Test.YtiahjnfopeiliaaDoorP7Lists
namespace Go.Proofs.YtiahjnfopeiliaaDoor
open Go.RowKit
attribute [local go_sem ↓] Go.wp_at_zero Go.wp_at_succ

set_option maxRecDepth 100000 in
set_option maxHeartbeats 8000000 in
theorem renew_any {w : World} {b m k d : Nat} {s : KV} {t : Bool} {y : Option Addr} {A : Nat → Option Addr} {L C : Nat → Nat} {G : Nat → Nat → Nat} (hT : Tab w) (h2 : 2 ≤ b) (hS : Stm w b s t) (hs : s.ok) (hm : m < 256) (hP : PL w y k A L C G) (hk : k ≤ 900000) (hl : lenF L k ≤ 600000) :
    Calls Tryd.prog 18 #[.pointer (some ⟨b, 0, none⟩), .int .u8 (m : Int), .slice y k d] w fun e w' => (∃ v, e = .returned v) ∧ Stm w' b (kvStep s m (catF L G k) (lenF L k)) t ∧ w.grownBy w' (some b) := by
  have HT := hide hT
  have HS := hide hS
  have HP := hide hP
  have HK := hide (And.intro h2 (And.intro hk hl))
  have HM := hide hm
  have hmi : (m : Int) < 256 := by omega
  clear hT hS hP hk hl h2 hm
  have ha1 := K.alloc (Below.refl _ w) (.cells #[.int .u8 (m : Int)] 5)
  have ha2 := K.alloc ha1 (.cells #[.slice (some ⟨b, 32, none⟩) 32 32, .slice (some ⟨w.heap.size, 0, none⟩) 1 1] 22)
  have HO0 := hide (own_two (w.alloc (.cells #[.int .u8 (m : Int)] 5)) w.heap.size (w.heap.size + 1) (by simp) (by simp) (.slice (some ⟨b, 32, none⟩) 32 32) (.slice (some ⟨w.heap.size, 0, none⟩) 1 1))
  have HP2 := hide (HP.out.keep ha2)
  have HA2 := hide ha2
  have HOne := hide ((one_made w m HM.out).keep (K.alloc (Below.refl _ _) (.cells #[.slice (some ⟨b, 32, none⟩) 32 32, .slice (some ⟨w.heap.size, 0, none⟩) 1 1] 22)))
  have HBs : Hid (w.heap.size ≤ ((w.alloc (.cells #[.int .u8 (m : Int)] 5)).alloc (.cells #[.slice (some ⟨b, 32, none⟩) 32 32, .slice (some ⟨w.heap.size, 0, none⟩) 1 1] 22)).heap.size) := ha2.size
  clear ha1 ha2
  go_enter Tryd.func18, Tryd.ntmps18
  go_upto_region 1 with (at_builtin; refine wpList_appL rfl _ _ rfl rfl HO0.out rfl HP2.out (by have := HK.out; omega) HBs.out ?_; intro v1 w1 hO1 hg1)
  have hb1 : Below w.heap.size w w1 := HA2.out.grown hg1 HA2.out.size (fun k hk => by cases hk; show w.heap.size ≤ w.heap.size + 1; omega)
  have hone : BA w1 (some ⟨w.heap.size, 0, none⟩) 1 (fun _ => m) := HOne.out.kept (r := w.heap.size + 1) hg1 (fun p hp => by cases hp; show w.heap.size ≠ w.heap.size + 1; omega)
  have hS1 := HS.out.keep hb1
  obtain ⟨x1, c1, rfl, hP1⟩ := own_pl (k := k + 2) (A := pre2 (some ⟨b, 32, none⟩) (some ⟨w.heap.size, 0, none⟩) A) (L := pre2 32 1 L) (C := pre2 32 1 C) (G := pre2 s.v (fun _ => m) G) hO1 (by omega) (fun i hi => by
      rcases i with _ | _ | i
      · rfl
      · rfl
      · exact pcells_at A L C (by omega)) (fun i hi => by
      rcases i with _ | _ | i
      · exact hS1.baV hs
      · exact hone
      · exact (HP.out.ba i (by omega)).keep hb1) (fun i hi => by
      rcases i with _ | _ | i
      · exact ⟨Nat.le_refl _, by show 32 ≤ maxLen; unfold maxLen; omega⟩
      · exact ⟨Nat.le_refl _, by show 1 ≤ maxLen; unfold maxLen; omega⟩
      · exact HP.out.cp i (by omega))
  have hlen := lenF_pre2 32 1 L k
  have HE := hide (mac_any (d := c1) (HT.out.keep hb1) (hS1.baK hs) (Nat.le_refl 32) (by unfold maxLen; omega) (by omega) hP1 (by have := HK.out; omega) (by rw [hlen]; have := HK.out; omega))
  obtain ⟨k1, hk1⟩ : ∃ k1, k1 = macB s.k 32 (withF s.v m (catF L G k)) (33 + lenF L k) := ⟨_, rfl⟩
  have hmE : mA s.k 32 (catF (pre2 32 1 L) (pre2 s.v (fun _ => m) G) (k + 2)) (lenF (pre2 32 1 L) (k + 2)) = (ab k1 32).toArray := by
    rw [hlen, mA_congr (catF_pre2 32 1 L s.v (fun _ => m) G k), hk1]
    rfl
  rw [hmE] at HE
  have HRes : Hid (kvStep s m (catF L G k) (lenF L k) = kvNext ⟨k1, s.v⟩) := by show _ = _; rw [hk1]; rfl
  have HKB : Hid (KV.ok ⟨k1, s.v⟩) := ⟨fun i => by rw [hk1]; exact macB_lt _ _ _ _ i, hs.2⟩
  have HS1 := hide hS1
  have HB1 := hide hb1
  clear hS1 hb1 hone hO1 hg1 hP1 hlen hmE hk1 HO0 HP2 HA2 HOne HBs
  go_wp2_with fail
  with_reducible refine Calls.mono HE.out ?_
  rintro e w2 ⟨rfl, hb⟩
  have hS2 := HS1.out.keep hb
  have HTH : Hid (w2.there b 0 (ab k1 32).toArray.size) := by show World.there _ _ _ _; rw [List.size_toArray, ab_len]; exact hS2.there 0 32 (by omega)
  have HS3 : Hid (Stm (w2.setCells b 0 (ab k1 32).toArray.toList) b ⟨k1, s.v⟩ t) := hS2.setK k1
  have HG3 : Hid (w.grownBy (w2.setCells b 0 (ab k1 32).toArray.toList) (some b)) := grown_trans (grown_of (K.call HB1.out hb) _) (grown_sets b (ab k1 32) 0 w2)
  clear hS2 hb HE HS1 HB1
  go_upto_region 2 with (refine wpList_store_mid rfl 25 _ _ rfl b 0 (ab k1 32).toArray rfl rfl HTH.out (inH _) (all_oneCell_toArray (ab_one _ _)) ?_; generalize w2.setCells b 0 (ab k1 32).toArray.toList = Z at HS3 HG3 ⊢)
  have HE := hide (step_any (HT.out.kept HG3.out HK.out.1) HS3.out HKB.out)
  clear HTH
  go_wp2_with fail
  with_reducible refine Calls.mono HE.out ?_
  rintro e w3 ⟨⟨v, rfl⟩, hS4, hg4⟩
  have HS4 := hide hS4
  have HG4 := hide (grown_trans HG3.out hg4)
  clear hS4 hg4 HE HS3 HG3
  go_wp2_with fail
  exact bodyPost_end (by simp [results, Tryd.results18]; rfl) rfl ⟨⟨_, rfl⟩, by rw [HRes.out]; exact HS4.out, HG4.out⟩
end Go.Proofs.YtiahjnfopeiliaaDoor
