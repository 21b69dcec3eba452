/- Layer 16: the document's own Leaf, Text, Node. -/
import Derived.Test.YteplklbpehkdjaaDoorP16B
import Derived.Test.YteplklbpehkdjaaDoorS7Two
namespace Go.Proofs.YteplklbpehkdjaaDoor
set_option maxRecDepth 100000
open Go.RowKit
attribute [local go_sem ↓] Go.wp_at_zero Go.wp_at_succ

/-- What Text answers. -/
def TxP (w : World) (f g : Nat → Nat) (e : Ending) (w' : World) : Prop := ∃ a c, e = .returned (.slice a 65 c) ∧ BA w' a 65 (ndT f g) ∧ Below w.heap.size w w'
set_option maxRecDepth 100000 in
set_option maxHeartbeats 4000000 in
theorem refText_any {w : World} {f g : Nat → Nat} (hf : ∀ i, f i < 256) (hg : ∀ i, g i < 256) : Calls Tryd.prog 26 #[.agg (ab f 32).toArray, .agg (ab g 32).toArray] w (TxP w f g) := by
  have HF := hide (And.intro hf hg)
  clear hf hg
  go_enter Tryd.func26, Tryd.ntmps26
  go_upto_region 1 with fail
  refine wp_world (fun X hX => ?_)
  have hB : Below w.heap.size w X := by rw [hX]; exact K.alloc (K.alloc (Below.refl _ _) _) _
  have hF : RowB X w.heap.size 32 f := by
    rw [hX]
    exact Row8.keep (RowB.made w 32 32 f _ rfl) (K.alloc (Below.refl _ _) _)
  have hG : RowB X (w.heap.size + 1) 32 g := by
    rw [hX]
    have h := RowB.made (w.alloc (.cells (ab f 32).toArray 32)) 32 32 g _ rfl
    have e : ∀ o, (w.alloc o).heap.size = w.heap.size + 1 := fun o => by simp
    rw [e] at h
    exact h
  clear hX
  obtain ⟨b0, hb0⟩ : ∃ b0, w.heap.size = b0 := ⟨_, rfl⟩
  rw [hb0] at hF hG ⊢
  have HRf := hide (RowB.ba hF HF.out.1)
  have HRg := hide (RowB.ba hG HF.out.2)
  have HB := hide hB
  clear hB hF hG
  go_upto_region 2 with fail
  refine wp_world (fun Y hY => ?_)
  have hK : Below X.heap.size X Y := by rw [hY]; exact K.alloc (Below.refl _ _) _
  have hO : Y.ownsRow X.heap.size 5 1 (.slice (some ⟨X.heap.size, 0, none⟩) 1 1) 1 (cells8 [1]) := by
    rw [hY]
    exact ⟨rfl, Or.inr ⟨X.heap.size, 1, _, rfl, Nat.le_refl _, heap_alloc_new X _, by decide, by decide, rfl, rfl⟩⟩
  clear hY
  have HO := hide hO
  have HK := hide hK
  have HRf1 := hide (HRf.out.keep hK)
  clear hO hK
  go_upto_region 3 with (at_builtin; refine wpList_app rfl _ _ rfl rfl HO.out rfl HRf1.out (by omega) HK.out.size ?_; intro v1 w1 hO1 hg1)
  have hb1 : Below X.heap.size X w1 := HK.out.grown hg1 HK.out.size (fun k hk => (HO.out.lt k hk).1)
  have HRg1 := hide (HRg.out.keep hb1)
  clear hg1
  go_wp2_with (at_builtin; refine wpList_app rfl _ _ rfl rfl hO1 rfl HRg1.out (by omega) hb1.size ?_; intro v2 w2 hO2 hg2)
  have hb2 : Below X.heap.size X w2 := hb1.grown hg2 hb1.size (fun k hk => (hO1.lt k hk).1)
  rw [show ([1] : List Nat) = fl (fun _ => 1) 1 from rfl, fl_cat, fl_cat] at hO2
  obtain ⟨a2, c2, rfl, _, _⟩ := own_max hO2
  have hA := own_ba hO2 (cat_lt (cat_lt (fun _ => by omega) HF.out.1 1) HF.out.2 33)
  rw [show (1 + 32 + 32 : Nat) = 65 from rfl, show cat (cat (fun _ => 1) 1 f) 33 g = ndT f g from cat_assoc (fun _ => 1) f g 1 32] at hA
  have HAA := hide hA
  have HB2 := hide (K.call HB.out hb2)
  clear hO2 hA hg2 hO1 hb1 hb2
  go_ret
  exact ⟨_, _, rfl, HAA.out, HB2.out⟩
/-- A hash is put into the result's variable, wherever it lies. -/
theorem put_at {w X W : World} {b : Nat} (hb : w.heap.size ≤ b) (hH : RowB X b 32 (fun _ => 0)) (hB : Below w.heap.size w X) (hK : Below X.heap.size X W) (f : Nat → Nat) :
    Hid (W.there b 0 (ab f 32).toArray.size) ∧ Hid (RowB (W.setCells b 0 (ab f 32).toArray.toList) b 32 f) ∧ Hid (Below w.heap.size w (W.setCells b 0 (ab f 32).toArray.toList)) := by
  have h3 := Row8.keep hH hK
  exact ⟨RowB.there h3 f, RowB.stored h3 f, below_setCells _ _ (K.call hB hK) hb⟩
set_option maxRecDepth 100000 in
set_option maxHeartbeats 4000000 in
theorem refNode_any {w : World} {f g : Nat → Nat} (hf : ∀ i, f i < 256) (hg : ∀ i, g i < 256) :
    Calls Tryd.prog 20 #[hv f, hv g] w fun e w' => e = .returned (hv (nd f g)) ∧ Below w.heap.size w w' := by
  have HF := hide (And.intro hf hg)
  clear hf hg
  unfold hv
  go_enter Tryd.func20, Tryd.ntmps20
  go_upto_region 1 with fail
  refine wp_world (fun X hX => ?_)
  have hB : Below w.heap.size w X := by rw [hX]; exact K.alloc (K.alloc (K.alloc (Below.refl _ _) _) _) _
  have hF : RowB X w.heap.size 32 f := by
    rw [hX]
    exact Row8.keep (Row8.keep (RowB.made w 32 32 f _ rfl) (K.alloc (Below.refl _ _) _)) (K.alloc (Below.refl _ _) _)
  have hG : RowB X (w.heap.size + 1) 32 g := by
    rw [hX]
    have h := Row8.keep (RowB.made (w.alloc (.cells (ab f 32).toArray 32)) 32 32 g _ rfl) (K.alloc (Below.refl _ _) (.cells (ab (fun _ => 0) 32).toArray 32))
    rw [← zeros32] at h
    have e : ∀ o, (w.alloc o).heap.size = w.heap.size + 1 := fun o => by simp
    rw [e] at h
    exact h
  have hH : RowB X (w.heap.size + 2) 32 (fun _ => 0) := by
    rw [hX]
    have h := RowB.made ((w.alloc (.cells (ab f 32).toArray 32)).alloc (.cells (ab g 32).toArray 32)) 32 32 (fun _ => 0) _ zeros32
    have e : ∀ o o', ((w.alloc o).alloc o').heap.size = w.heap.size + 2 := fun o o' => by simp
    rw [e] at h
    exact h
  clear hX
  have HRf := hide hF
  have HRg := hide hG
  have HH := hide hH
  have HB := hide hB
  clear hB hF hG hH
  have HT := hide (refText_any (w := X) HF.out.1 HF.out.2)
  go_wp2_with (first
    | refine wpList_load_h rfl _ rfl rfl HRf.out.range ?_
    | refine wpList_load_h rfl _ rfl rfl HRg.out.range ?_)
  with_reducible refine Calls.mono HT.out ?_
  rintro e W1 hTx
  obtain ⟨a1, c1, rfl, hA1, hB1⟩ := hTx
  have HS := hide (refSum_hA (c := c1) hA1 (by omega))
  rw [show hA (ndT f g) 65 = (ab (nd f g) 32).toArray from rfl] at HS
  have HB1 := hide hB1
  clear hA1 hB1 HRf HRg HT
  go_wp2_with fail
  with_reducible refine Calls.mono HS.out ?_
  rintro e W3 ⟨rfl, hb⟩
  obtain ⟨HTH, HST, HB9⟩ := put_at (by omega) HH.out HB.out (K.call HB1.out hb) (nd f g)
  generalize hs2 : nd f g = s2 at HTH HST HB9 ⊢
  have HS2 := hide hs2
  clear hs2 HS hb HB1 HH HB
  go_wp2_with (refine wpList_store_mid rfl 32 _ _ rfl (w.heap.size + 2) 0 (ab s2 32).toArray rfl rfl HTH.out (inH _) (all_oneCell_toArray (ab_one _ _)) ?_; generalize W3.setCells (w.heap.size + 2) 0 (ab s2 32).toArray.toList = Z at HST HB9 ⊢)
  exact bodyPost_ret (results_cell_mid Tryd.results20 _ _ (w.heap.size + 2) (ab s2 32) _ rfl (RowB.range HST.out) Tryd.underlying32 rfl (ilH _)) rfl ⟨by rw [HS2.out], HB9.out⟩
end Go.Proofs.YteplklbpehkdjaaDoor
