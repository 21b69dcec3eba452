/- What the document's own Two answers. -/
import Derived.Test.YtpophfeommlajaaDoorS5Own
namespace Go.Proofs.YtpophfeommlajaaDoor
open Go.RowKit
attribute [local go_sem ↓] Go.wp_at_zero Go.wp_at_succ

set_option maxRecDepth 100000 in
set_option maxHeartbeats 8000000 in
theorem refTwo_any {x y : Option Addr} {n m c d : Nat} {f g : Nat → Nat} {w : World} (hx : BA w x n f) (hy : BA w y m g) (hn : n + m ≤ 90000) :
    Calls Tryd.prog 19 #[.slice x n c, .slice y m d] w fun e w' => e = .returned (.agg (hA (cat f n g) (n + m))) ∧ Below w.heap.size w w' := by
  have HX := hide hx
  have HY := hide hy
  have HN := hide hn
  clear hx hy hn
  go_enter Tryd.func19, Tryd.ntmps19
  go_upto_region 1 with fail
  refine wp_world (fun X hX => ?_)
  have hB : Below w.heap.size w X := by rw [hX]; exact K.alloc (Below.refl _ _) _
  have hH : RowB X w.heap.size 32 (fun _ => 0) := by rw [hX]; exact RowB.made w 24 32 (fun _ => 0) _ zeros32
  clear hX
  have HX1 := hide (HX.out.keep hB)
  have hO0 : X.ownsRow X.heap.size 5 1 (.slice none 0 0) 0 (cells8 []) := World.ownsRow_nil _ _ _ _
  go_upto_region 3 with (at_builtin; refine wpList_app rfl _ _ rfl rfl hO0 rfl HX1.out (by have := HN.out; omega) (Nat.le_refl _) ?_; intro v1 w1 hO1 hg1)
  rw [Nat.zero_add, List.nil_append] at hO1
  have hb1 : Below X.heap.size X w1 := (Below.refl _ X).grown hg1 (Nat.le_refl _) (fun k hk => by cases hk)
  have HY1 := hide (HY.out.keep (K.call hB hb1))
  clear hO0 HX1 hg1
  go_upto_region 4 with (at_builtin; refine wpList_app rfl _ _ rfl rfl hO1 rfl HY1.out (by have := HN.out; omega) hb1.size ?_; intro v2 w2 hO2 hg2)
  have hb2 : Below X.heap.size X w2 := hb1.grown hg2 hb1.size (fun k hk => (hO1.lt k hk).1)
  rw [fl_cat] at hO2
  obtain ⟨a2, c2, rfl, hc2, hm2⟩ := own_max hO2
  have HA := hide (own_ba hO2 (cat_lt HX.out.lt HY.out.lt n))
  have hH2 := Row8.keep hH hb2
  have hB2 := K.call hB hb2
  clear hO1 hb1 hg2 hO2 hH HY1 hb2 hB
  obtain ⟨b0, hb0⟩ : ∃ b0, w.heap.size = b0 := ⟨_, rfl⟩
  rw [hb0] at hB2 hH2 ⊢
  have HH := hide hH2
  have HB := hide hB2
  clear hH2 hB2
  go_wp2_with fail
  with_reducible refine Calls.mono (refSum_hA HA.out (by have := HN.out; omega)) ?_
  rintro e W3 ⟨rfl, hb⟩
  have hH3 := Row8.keep HH.out hb
  have hB3 : Below b0 w W3 := by subst hb0; exact K.call HB.out hb
  have HTH := hide (RowB.there hH3 (hByte (hashS (cat f n g) (n + m))))
  have HST := hide (RowB.stored hH3 (hByte (hashS (cat f n g) (n + m))))
  have HB : Hid (Below b0 w (W3.setCells b0 0 (ab (hByte (hashS (cat f n g) (n + m))) 32).toArray.toList)) := by subst hb0; exact below_setCells _ _ hB3 (Nat.le_refl _)
  clear hb hH3 hB3 HH HA
  unfold hA
  generalize hs2 : hashS (cat f n g) (n + m) = s2 at HTH HST HB ⊢
  have HS2 := hide hs2
  clear hs2
  go_wp2_with (refine wpList_store_mid rfl 24 _ _ rfl b0 0 (ab (hByte s2) 32).toArray rfl rfl HTH.out (inH _) (all_oneCell_toArray (ab_one _ _)) ?_; generalize W3.setCells b0 0 (ab (hByte s2) 32).toArray.toList = Z at HST HB ⊢)
  exact bodyPost_ret (results_cell_mid Tryd.results19 _ _ b0 (ab (hByte s2) 32) _ rfl (RowB.range HST.out) Tryd.underlying24 rfl (ilH _)) rfl ⟨by unfold hA; rw [HS2.out], by rw [hb0]; exact HB.out⟩
end Go.Proofs.YtpophfeommlajaaDoor
