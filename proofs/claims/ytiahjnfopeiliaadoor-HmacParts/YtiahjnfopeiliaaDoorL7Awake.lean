/- awake; the program's own Mac and New of parts that are handed in. -/
import Derived.Test.YtiahjnfopeiliaaDoorP7New
import Derived.Test.YtiahjnfopeiliaaDoorS7Mac
namespace Go.Proofs.YtiahjnfopeiliaaDoor
open Go.RowKit
attribute [local go_sem ↓] Go.wp_at_zero Go.wp_at_succ

theorem cell_one (w : World) (t : TypeId) (x : Value) {q : Nat} (hq : q = w.heap.size) : (w.alloc (.cells #[x] t)).cell? ⟨q, 0, none⟩ = some x := by
  subst hq
  rw [cell_of_row _ _ _ _ _ _ (heap_alloc_new w _)]; rfl
theorem mac_one {w : World} {q : Nat} {x y : Option Addr} {n c m d : Nat} {f g : Nat → Nat} (hT : Tab w) (hx : BA w x n f) (hc : n ≤ c) (hcm : c ≤ maxLen) (hn : n ≤ 800000) (hy : BA w y m g) (hd : m ≤ d) (hdm : d ≤ maxLen) (hm : m ≤ 700000) (t : TypeId) (hq : q = w.heap.size) :
    Calls Tryd.prog 9 #[.slice x n c, .slice (some ⟨q, 0, none⟩) 1 1] (w.alloc (.cells #[.slice y m d] t)) fun e w' => e = .returned (.agg (mA f n g m)) ∧ Below w.heap.size w w' := by
  have hk := K.alloc (Below.refl _ w) (.cells #[.slice y m d] t)
  exact Calls.mono (mac_one_at (hT.keep hk) (hx.keep hk) hc hcm hn (hy.keep hk) hd hdm hm (cell_one w t _ hq)) (fun e w' ⟨h1, h2⟩ => ⟨h1, K.call hk h2⟩)
theorem new_one_at {w : World} {q : Nat} {y : Option Addr} {m d : Nat} {g : Nat → Nat} (hT : Tab w) (hy : BA w y m g) (hd : m ≤ d) (hdm : d ≤ maxLen) (hm : m ≤ 600000) (hq : w.cell? ⟨q, 0, none⟩ = some (.slice y m d)) :
    Calls Tryd.prog 11 #[.slice (some ⟨q, 0, none⟩) 1 1] w fun e w' => ∃ b, e = .returned (.pointer (some ⟨b, 0, none⟩)) ∧ w.heap.size ≤ b ∧ Stm w' b (kvSeed g m) false ∧ Below w.heap.size w w' := by
  have e1 : lenF (fun _ => m) 1 = m := by simp only [lenF]; omega
  have h := new_any (d := 1) (y := some ⟨q, 0, none⟩) (k := 1) (A := fun _ => y) (L := fun _ => m) (C := fun _ => d) (G := fun _ => g) hT ⟨fun i _ => hy, fun i _ => ⟨hd, hdm⟩, Or.inr ⟨_, _, rfl, fun i hi => by
    obtain rfl : i = 0 := by omega
    exact hq⟩⟩ (by omega) (by rw [e1]; exact hm)
  rw [e1] at h
  simp only [catF, lenF, cat_zero] at h
  exact h
theorem new_one {w : World} {q : Nat} {y : Option Addr} {m d : Nat} {g : Nat → Nat} (hT : Tab w) (hy : BA w y m g) (hd : m ≤ d) (hdm : d ≤ maxLen) (hm : m ≤ 600000) (t : TypeId) (hq : q = w.heap.size) :
    Calls Tryd.prog 11 #[.slice (some ⟨q, 0, none⟩) 1 1] (w.alloc (.cells #[.slice y m d] t)) fun e w' => ∃ b, e = .returned (.pointer (some ⟨b, 0, none⟩)) ∧ w.heap.size ≤ b ∧ Stm w' b (kvSeed g m) false ∧ Below w.heap.size w w' := by
  have hk := K.alloc (Below.refl _ w) (.cells #[.slice y m d] t)
  exact Calls.mono (new_one_at (hT.keep hk) (hy.keep hk) hd hdm hm (cell_one w t _ hq)) (fun e w' ⟨b, h1, h2, h3, h4⟩ => ⟨b, h1, Nat.le_trans hk.size h2, h3, K.call hk h4⟩)
theorem new_two_at {w : World} {q : Nat} {y z : Option Addr} {m d l r : Nat} {g k : Nat → Nat} (hT : Tab w) (hy : BA w y m g) (hd : m ≤ d) (hdm : d ≤ maxLen) (hz : BA w z l k) (hr : l ≤ r) (hrm : r ≤ maxLen) (hm : m + l ≤ 600000) (hq : w.cell? ⟨q, 0, none⟩ = some (.slice y m d)) (hq2 : w.cell? ⟨q, 1, none⟩ = some (.slice z l r)) :
    Calls Tryd.prog 11 #[.slice (some ⟨q, 0, none⟩) 2 2] w fun e w' => ∃ b, e = .returned (.pointer (some ⟨b, 0, none⟩)) ∧ w.heap.size ≤ b ∧ Stm w' b (kvSeed (cat g m k) (m + l)) false ∧ Below w.heap.size w w' := by
  have e1 : lenF (fun i => if i = 0 then m else l) 2 = m + l := by simp [lenF]
  have e2 : catF (fun i => if i = 0 then m else l) (fun i => if i = 0 then g else k) 2 = cat g m k := by simp [catF, lenF, cat_zero]
  have h := new_any (d := 2) (y := some ⟨q, 0, none⟩) (k := 2) (A := fun i => if i = 0 then y else z) (L := fun i => if i = 0 then m else l) (C := fun i => if i = 0 then d else r) (G := fun i => if i = 0 then g else k) hT ⟨fun i hi => by
    rcases (show i = 0 ∨ i = 1 by omega) with rfl | rfl
    · exact hy
    · exact hz, fun i hi => by
    rcases (show i = 0 ∨ i = 1 by omega) with rfl | rfl
    · exact ⟨hd, hdm⟩
    · exact ⟨hr, hrm⟩, Or.inr ⟨_, _, rfl, fun i hi => by
    rcases (show i = 0 ∨ i = 1 by omega) with rfl | rfl
    · exact hq
    · exact hq2⟩⟩ (by omega) (by rw [e1]; exact hm)
  rw [e1, e2] at h
  exact h
theorem kvSeed_ok (g : Nat → Nat) (m : Nat) : (kvSeed g m).ok := kvStep_ok _ _ _ _
theorem kvAt_ok (g : Nat → Nat) (m i : Nat) : (kvAt g m i).ok := kvAt_lt g m i
/-- Two hashes with a key that are one are the same. -/
theorem eqM (f : Nat → Nat) (w : World) : (Op.equalIn 10000 25 (.agg (ab f 32).toArray) (.agg (ab f 32).toArray)).run Tryd.prog w = .ok true w := eqH_same f w
set_option maxRecDepth 100000 in
set_option maxHeartbeats 4000000 in
theorem awake_any {w : World} (hT : Tab w) : Calls Tryd.prog 8 #[] w fun e w' => e = .returned (.bool true) ∧ Below w.heap.size w w' := by
  have HE := hide (mac_none_at (c := 0) hT (ba_nil w) (Nat.le_refl _) (by unfold maxLen; omega) (by omega))
  clear hT
  go_enter Tryd.func8, Tryd.ntmps8
  go_wp2_with fail
  with_reducible refine Calls.mono HE.out ?_
  rintro e W1 ⟨rfl, hb⟩
  have HB : Hid (Below w.heap.size w W1) := hb
  unfold mA
  rw [mac_none]
  have hab := out_bytes
  generalize hByte (hashS outN 96) = h at *
  obtain ⟨h0, h1, h2, h3⟩ := hab
  clear hb HE
  have hsz : 32 = (ab h 32).toArray.size := by rw [List.size_toArray, ab_len]
  have HSZ := hide hsz
  clear hsz
  go_upto_region 2 with (refine wpList_store_new rfl 25 _ _ rfl _ (ab h 32).toArray rfl rfl (inH _) HSZ.out (all_oneCell_toArray (ab_one _ _)) ?_)
  have hR := RowB.made W1 25 32 h _ rfl
  have HB2 := hide (K.alloc HB.out (.cells (ab h 32).toArray 25))
  have c0 := hR.c 0 (by omega)
  have c1 := hR.c 1 (by omega)
  have c2 := hR.c 2 (by omega)
  have c3 := hR.c 3 (by omega)
  rw [h0] at c0
  rw [h1] at c1
  rw [h2] at c2
  rw [h3] at c3
  clear hR HB HSZ
  generalize W1.alloc (.cells (ab h 32).toArray 25) = X at *
  go_wp2_with fail
  go_ret
  exact ⟨rfl, HB2.out⟩
end Go.Proofs.YtiahjnfopeiliaaDoor
