/- Layer 16: the program's own Leaf and Node.  Layer 16: the program's own Split and Root. What the document's own Two answers. Layer 16: the document's own Leaf, Text, Node. Lists of hashes in rows of one's own, and two lists compared. Layer 16: the document's own Split, Root, Same. Layer 17: the edge of a growing tree (no function of the program is named). Lists of hashes that are told as lists; a slice literal of one hash. Layer 18: paths and proofs (no function of the program is named). -/
import Derived.Test.YtkpkkjcfodjifaaDoorMA05
import Derived.Test.YtkpkkjcfodjifaaDoorRows
import Derived.Lib.BitFns
import Derived.Deep.MidRow
import Derived.Great.BuildSlice
namespace Go.Proofs.YtkpkkjcfodjifaaDoor
set_option maxRecDepth 100000
open Go.RowKit
attribute [local go_sem ↓] Go.wp_at_zero Go.wp_at_succ

def s3 {α : Type} (a b c : α) (i : Nat) : α := if i = 0 then a else if i = 1 then b else c
/-- The program's own Sum of three parts that lie somewhere. -/
theorem sum_three_at {w : World} {x y z : Option Addr} {n c m d l r q : Nat} {g k h : Nat → Nat} (hT : Tab w) (hb : BA w x n g) (hc : n ≤ c ∧ c ≤ maxLen) (hb2 : BA w y m k) (hc2 : m ≤ d ∧ d ≤ maxLen) (hb3 : BA w z l h) (hc3 : l ≤ r ∧ r ≤ maxLen) (hn : n + (m + l) ≤ 800000) (hq : w.cell? ⟨q, 0, none⟩ = some (.slice x n c)) (hq2 : w.cell? ⟨q, 1, none⟩ = some (.slice y m d)) (hq3 : w.cell? ⟨q, 2, none⟩ = some (.slice z l r)) :
    Calls Tryd.prog 27 #[.slice (some ⟨q, 0, none⟩) 3 3] w fun e w' => e = .returned (.agg (hA (cat g n (cat k m h)) (n + (m + l)))) ∧ Below w.heap.size w w' := by
  have e1 : lenF (s3 n m l) 3 = n + (m + l) := by simp [lenF, s3]; omega
  have hs := sum_any (c := 3) (x := some ⟨q, 0, none⟩) (k := 3) (A := s3 x y z) (L := s3 n m l) (C := s3 c d r) (G := s3 g k h) hT ⟨fun i hi => by
    rcases (show i = 0 ∨ i = 1 ∨ i = 2 by omega) with rfl | rfl | rfl
    · exact hb
    · exact hb2
    · exact hb3, fun i hi => by
    rcases (show i = 0 ∨ i = 1 ∨ i = 2 by omega) with rfl | rfl | rfl
    · exact hc
    · exact hc2
    · exact hc3, Or.inr ⟨_, _, rfl, fun i hi => by
    rcases (show i = 0 ∨ i = 1 ∨ i = 2 by omega) with rfl | rfl | rfl
    · exact hq
    · exact hq2
    · exact hq3⟩⟩ (by omega) (by rw [e1]; exact hn)
  have e : hashS (catF (s3 n m l) (s3 g k h) 3) (lenF (s3 n m l) 3) = hashS (cat g n (cat k m h)) (n + (m + l)) := by
    rw [e1]
    simp [catF, lenF, cat_zero, s3, cat_assoc]
  rw [e] at hs
  unfold hA
  exact hs
theorem wp_byte {op : Oper} {a : Act} {w : World} {Kt : Act → World → Prop} {Q : Exit → Act → World → Prop} {b : Nat} (hb : b < 256) (ho : op.op = .buildSlice 55 1 #[(0, .const (.int .u8 (b : Int)))])
    (h : ∀ p W', p = w.heap.size → BA W' (some ⟨p, 0, none⟩) 1 (fun _ => b) → Below w.heap.size w W' → Kt (a.put op.dst (.slice (some ⟨p, 0, none⟩) 1 1)) W') : Oper.wp Tryd.prog op a w Kt Q := by
  have h' := h w.heap.size (w.alloc (.cells #[.int .u8 (b : Int)] 5)) rfl (one_made w b hb) (K.alloc (Below.refl _ _) _)
  unfold Oper.wp execOp
  simp only [ho, List.map_toArray, List.map_cons, List.map_nil]
  go_simp
  exact h'
theorem wp_three {op : Oper} {a : Act} {w : World} {Kt : Act → World → Prop} {Q : Exit → Act → World → Prop} {x1 x2 x3 : Operand} {y z u : Option Addr} {n c m d l r : Nat} (ho : op.op = .buildSlice 64 3 #[(0, x1), (1, x2), (2, x3)]) (hx : a.eval x1 = .slice y n c) (hz : a.eval x2 = .slice z m d) (hu : a.eval x3 = .slice u l r)
    (h : ∀ p W', p = w.heap.size → W'.cell? ⟨p, 0, none⟩ = some (.slice y n c) → W'.cell? ⟨p, 1, none⟩ = some (.slice z m d) → W'.cell? ⟨p, 2, none⟩ = some (.slice u l r) → Below w.heap.size w W' → Kt (a.put op.dst (.slice (some ⟨p, 0, none⟩) 3 3)) W') : Oper.wp Tryd.prog op a w Kt Q := by
  have h' := h w.heap.size (w.alloc (.cells #[.slice y n c, .slice z m d, .slice u l r] 55)) rfl (by rw [cell_of_row _ _ _ _ _ _ (heap_alloc_new w _)]; rfl) (by rw [cell_of_row _ _ _ _ _ _ (heap_alloc_new w _)]; rfl) (by rw [cell_of_row _ _ _ _ _ _ (heap_alloc_new w _)]; rfl) (K.alloc (Below.refl _ _) _)
  unfold Oper.wp execOp
  simp only [ho, List.map_toArray, List.map_cons, List.map_nil, hx, hz, hu]
  go_simp
  exact h'
theorem hA_nd (f g : Nat → Nat) : hA (cat (fun _ => 1) 1 (cat f 32 g)) (1 + (32 + 32)) = (ab (nd f g) 32).toArray := rfl
set_option maxRecDepth 100000 in
set_option maxHeartbeats 4000000 in
theorem node_any {w : World} {f g : Nat → Nat} (hT : Tab w) (hf : ∀ i, f i < 256) (hg : ∀ i, g i < 256) :
    Calls Tryd.prog 20 #[hv f, hv g] w fun e w' => e = .returned (hv (nd f g)) ∧ Below w.heap.size w w' := by
  have HT := hide hT
  have HF := hide (And.intro hf hg)
  clear hT hf hg
  unfold hv
  go_enter Tryd.func20, Tryd.ntmps20
  go_upto_region 1 with fail
  refine wp_world (fun X hX => ?_)
  have hB : Below w.heap.size w X := by rw [hX]; exact K.alloc (K.alloc (K.alloc (Below.refl _ _) _) _) _
  have hF : RowB X w.heap.size 32 f := by
    rw [hX]
    exact Row8.keep (Row8.keep (RowB.made w 23 32 f _ rfl) (K.alloc (Below.refl _ _) _)) (K.alloc (Below.refl _ _) _)
  have hG : RowB X (w.heap.size + 1) 32 g := by
    rw [hX]
    have h := Row8.keep (RowB.made (w.alloc (.cells (ab f 32).toArray 23)) 23 32 g _ rfl) (K.alloc (Below.refl _ _) (.cells (ab (fun _ => 0) 32).toArray 23))
    rw [← zeros32] at h
    have e : ∀ o, (w.alloc o).heap.size = w.heap.size + 1 := fun o => by simp
    rw [e] at h
    exact h
  have hH : RowB X (w.heap.size + 2) 32 (fun _ => 0) := by
    rw [hX]
    have h := RowB.made ((w.alloc (.cells (ab f 32).toArray 23)).alloc (.cells (ab g 32).toArray 23)) 23 32 (fun _ => 0) _ zeros32
    have e : ∀ o o', ((w.alloc o).alloc o').heap.size = w.heap.size + 2 := fun o o' => by simp
    rw [e] at h
    exact h
  clear hX
  obtain ⟨b0, hb0⟩ : ∃ b0, w.heap.size = b0 := ⟨_, rfl⟩
  have HTX := hide (HT.out.keep hB)
  rw [hb0] at hB hF hG hH ⊢
  have HRf := hide hF
  have HRg := hide hG
  have HH := hide hH
  have HB := hide hB
  clear hB hF hG hH HT
  refine wp_region_noPanic ?_
  refine wp_region_held_drew (S := fun _ => True) (by kernel_rfl) trivial (fun hS0 => ?_)
  refine wpAnyH_take (i := 1) (v := .slice (some ⟨b0, 0, none⟩) 32 32) rfl (by kernel_rfl) (by kernel_rfl) (by kernel_rfl) (fun _ _ _ h => h) (Or.inl ⟨by rfl, fun w' _ => by go_simp⟩) hS0 ?_
  simp only [Act.put, List.getElem_toArray, List.getElem_cons_zero, List.getElem_cons_succ, List.setIfInBounds_toArray, List.set_cons_zero, List.set_cons_succ]
  refine wpAnyH_take (i := 2) (v := .slice (some ⟨b0 + 1, 0, none⟩) 32 32) rfl (by kernel_rfl) (by kernel_rfl) (by kernel_rfl) (fun _ _ _ h => h) (Or.inl ⟨by rfl, fun w' _ => by go_simp⟩) hS0 ?_
  simp only [Act.put, List.getElem_toArray, List.getElem_cons_zero, List.getElem_cons_succ, List.setIfInBounds_toArray, List.set_cons_zero, List.set_cons_succ]
  refine wpAnyH_ready (rs := [0]) (by kernel_rfl) (by simp) (AllReadyH.cons rfl (fun Kt hK => ?_) AllReadyH.nil)
  refine wanted_pos rfl ?_
  refine wp_byte (b := 1) (by omega) rfl (fun q1 W1 _ ho1 hw1 => hK.out _ _ trivial (fun _ => ?_))
  clear hK Kt
  simp only [Act.put, List.getElem_toArray, List.getElem_cons_zero, List.setIfInBounds_toArray, List.set_cons_zero, List.set_cons_succ]
  have HK1 : Hid (Below X.heap.size X W1) := (Go.Proofs.YtkpkkjcfodjifaaDoor.K.drew (Below.refl _ X)).trans (hw1.mono (Go.Proofs.YtkpkkjcfodjifaaDoor.K.drew (Below.refl _ X)).size)
  have HO1 := hide ho1
  clear hw1 ho1
  refine wpAnyH_ready (rs := [3]) (by kernel_rfl) (by simp) (AllReadyH.cons rfl (fun Kt hK => ?_) AllReadyH.nil)
  refine wanted_pos rfl ?_
  refine wp_three rfl (by rfl) (by rfl) (by rfl) (fun q2 W2 _ hc0 hc1 hc2 hw2 => hK.out _ _ trivial (fun _ => ?_))
  clear hK Kt
  simp only [Act.put, List.getElem_toArray, List.getElem_cons_zero, List.getElem_cons_succ, List.setIfInBounds_toArray, List.set_cons_zero, List.set_cons_succ]
  have HK2 : Hid (Below X.heap.size X W2) := K.call HK1.out hw2
  have HS := hide (sum_three_at (HTX.out.keep HK2.out) (HO1.out.keep hw2) (by unfold maxLen; omega) ((RowB.ba HRf.out HF.out.1).keep HK2.out) (by unfold maxLen; omega) ((RowB.ba HRg.out HF.out.2).keep HK2.out) (by unfold maxLen; omega) (by omega) hc0 hc1 hc2)
  rw [hA_nd] at HS
  clear hw2 hc0 hc1 hc2 HO1 HK1
  refine wpAnyH_ready (rs := [4]) (by kernel_rfl) (by simp) (AllReadyH.cons rfl (fun Kt hK => ?_) AllReadyH.nil)
  refine wanted_pos rfl ?_
  refine wp_sum rfl (by rfl) HS.out (fun W3 hw3 => hK.out _ _ trivial (fun _ => ?_))
  clear hK Kt
  simp only [Act.put, List.getElem_toArray, List.getElem_cons_zero, List.getElem_cons_succ, List.setIfInBounds_toArray, List.set_cons_zero, List.set_cons_succ]
  have hX3 : Below X.heap.size X W3 := K.call HK2.out hw3
  have hH3 := Row8.keep HH.out hX3
  have hB3 : Below b0 w W3 := by subst hb0; exact K.call HB.out hX3
  clear hw3 hX3 HH HB HS HK2 HRf HRg
  generalize hs2 : nd f g = s2 at ⊢
  have HS2 := hide hs2
  clear hs2
  have HTH := hide (RowB.there hH3 s2)
  have HST := hide (RowB.stored hH3 s2)
  have HB : Hid (Below b0 w (W3.setCells (b0 + 2) 0 (ab s2 32).toArray.toList)) := by subst hb0; exact below_setCells _ _ hB3 (by omega)
  clear hH3 hB3
  refine wpAnyH_ready (rs := [5]) (by kernel_rfl) (by simp) (AllReadyH.cons rfl (fun Kt hK => ?_) AllReadyH.nil)
  refine wanted_pos rfl ?_
  refine wp_store_mid 23 _ _ rfl (b0 + 2) 0 (ab s2 32).toArray (by rfl) (by rfl) HTH.out (inH _) (all_oneCell_toArray (ab_one _ _)) (hK.out _ _ trivial (fun _ => ?_))
  clear hK Kt
  generalize W3.setCells (b0 + 2) 0 (ab s2 32).toArray.toList = Z at HST HB ⊢
  refine wpAnyH_done (by kernel_rfl) ?_ _
  refine NoPanic.normal ?_
  go_wp2_with fail
  exact bodyPost_ret (results_cell_mid Tryd.results20 _ _ (b0 + 2) (ab s2 32) _ rfl (RowB.range HST.out) Tryd.underlying23 rfl (ilH _)) rfl ⟨by (try unfold hv); rw [HS2.out], by first | exact HB.out | (rw [hb0]; exact HB.out)⟩
end Go.Proofs.YtkpkkjcfodjifaaDoor
namespace Go.Shelf
end Go.Shelf
namespace Go.Proofs.YtkpkkjcfodjifaaDoor
set_option maxRecDepth 100000
open Go.RowKit Go.Shelf
attribute [local go_sem ↓] Go.wp_at_zero Go.wp_at_succ

section
variable {w : World} {ops : Array Oper} {rest : List Oper} {o : Oper} {a : Act} {Q : Exit → Act → World → Prop}
theorem wpList_load_h (hgd : o.guard = none) (x : Operand) (hop : o.op = Op.load 23 x) {g off : Nat} {f : Nat → Nat} (hx : a.eval x = .pointer (some ⟨g, off, none⟩)) (ht : w.rangeAt g off (ab f 32)) (hK : wpList Tryd.prog ops Q rest (a.put o.dst (.agg (ab f 32).toArray)) w) : wpList Tryd.prog ops Q (o :: rest) a w :=
  wpList_load_mid hgd 23 x hop g off hx (ab f 32) _ ht Tryd.underlying23 rfl (ilH _) hK
end
theorem HL.tail {w : World} {b o n : Nat} {F : Nat → Nat → Nat} (h : HL w (some ⟨b, o, none⟩) n F) (k : Nat) : HL w (some ⟨b, o + k * 32, none⟩) (n - k) (fun i => F (k + i)) := by
  refine ⟨fun i => h.lt _, ?_⟩
  rcases h.at_ with hn | ⟨b', o', e, hr⟩
  · exact Or.inl (by omega)
  · cases e
    refine Or.inr ⟨b, o + k * 32, rfl, fun i hi => ?_⟩
    have := hr (k + i) (by omega)
    rw [Nat.add_mul, ← Nat.add_assoc] at this
    exact this
end Go.Proofs.YtkpkkjcfodjifaaDoor
namespace Go.Proofs.YtkpkkjcfodjifaaDoor
set_option maxRecDepth 100000
open Go.RowKit
attribute [local go_sem ↓] Go.wp_at_zero Go.wp_at_succ

end Go.Proofs.YtkpkkjcfodjifaaDoor
namespace Go.Proofs.YtkpkkjcfodjifaaDoor
set_option maxRecDepth 100000
open Go.RowKit
attribute [local go_sem ↓] Go.wp_at_zero Go.wp_at_succ

/-- What Text answers. -/
def TxP (w : World) (f g : Nat → Nat) (e : Ending) (w' : World) : Prop := ∃ a c, e = .returned (.slice a 65 c) ∧ BA w' a 65 (ndT f g) ∧ Below w.heap.size w w'
set_option maxRecDepth 100000 in
set_option maxHeartbeats 4000000 in
theorem refText_any {w : World} {f g : Nat → Nat} (hf : ∀ i, f i < 256) (hg : ∀ i, g i < 256) : Calls Tryd.prog 33 #[.agg (ab f 32).toArray, .agg (ab g 32).toArray] w (TxP w f g) := by
  have HF := hide (And.intro hf hg)
  clear hf hg
  go_enter Tryd.func33, Tryd.ntmps33
  go_upto_region 1 with fail
  refine wp_world (fun X hX => ?_)
  have hB : Below w.heap.size w X := by rw [hX]; exact K.alloc (K.alloc (Below.refl _ _) _) _
  have hF : RowB X w.heap.size 32 f := by
    rw [hX]
    exact Row8.keep (RowB.made w 23 32 f _ rfl) (K.alloc (Below.refl _ _) _)
  have hG : RowB X (w.heap.size + 1) 32 g := by
    rw [hX]
    have h := RowB.made (w.alloc (.cells (ab f 32).toArray 23)) 23 32 g _ rfl
    have e : ∀ o, (w.alloc o).heap.size = w.heap.size + 1 := fun o => by simp
    rw [e] at h
    exact h
  clear hX
  obtain ⟨b0, hb0⟩ : ∃ b0, w.heap.size = b0 := ⟨_, rfl⟩
  rw [hb0] at hF hG ⊢
  have HRf := hide (RowB.ba hF HF.out.1)
  have HRg := hide (RowB.ba hG HF.out.2)
  have HB := hide hB
  clear hB hF hG
  go_upto_region 2 with fail
  refine wp_world (fun Y hY => ?_)
  have hK : Below X.heap.size X Y := by rw [hY]; exact K.alloc (Below.refl _ _) _
  have hO : Y.ownsRow X.heap.size 5 1 (.slice (some ⟨X.heap.size, 0, none⟩) 1 1) 1 (cells8 [1]) := by
    rw [hY]
    exact ⟨rfl, Or.inr ⟨X.heap.size, 1, _, rfl, Nat.le_refl _, heap_alloc_new X _, by decide, by decide, rfl, rfl⟩⟩
  clear hY
  have HO := hide hO
  have HK := hide hK
  have HRf1 := hide (HRf.out.keep hK)
  clear hO hK
  go_upto_region 3 with (at_builtin; refine wpList_app rfl _ _ rfl rfl HO.out rfl HRf1.out (by omega) HK.out.size ?_; intro v1 w1 hO1 hg1)
  have hb1 : Below X.heap.size X w1 := HK.out.grown hg1 HK.out.size (fun k hk => (HO.out.lt k hk).1)
  have HRg1 := hide (HRg.out.keep hb1)
  clear hg1
  go_wp2_with (at_builtin; refine wpList_app rfl _ _ rfl rfl hO1 rfl HRg1.out (by omega) hb1.size ?_; intro v2 w2 hO2 hg2)
  have hb2 : Below X.heap.size X w2 := hb1.grown hg2 hb1.size (fun k hk => (hO1.lt k hk).1)
  rw [show ([1] : List Nat) = fl (fun _ => 1) 1 from rfl, fl_cat, fl_cat] at hO2
  obtain ⟨a2, c2, rfl, _, _⟩ := own_max hO2
  have hA := own_ba hO2 (cat_lt (cat_lt (fun _ => by omega) HF.out.1 1) HF.out.2 33)
  rw [show (1 + 32 + 32 : Nat) = 65 from rfl, show cat (cat (fun _ => 1) 1 f) 33 g = ndT f g from cat_assoc (fun _ => 1) f g 1 32] at hA
  have HAA := hide hA
  have HB2 := hide (K.call HB.out hb2)
  clear hO2 hA hg2 hO1 hb1 hb2
  go_ret
  exact ⟨_, _, rfl, HAA.out, HB2.out⟩
/-- A hash is put into the result's variable, wherever it lies. -/
theorem put_at {w X W : World} {b : Nat} (hb : w.heap.size ≤ b) (hH : RowB X b 32 (fun _ => 0)) (hB : Below w.heap.size w X) (hK : Below X.heap.size X W) (f : Nat → Nat) :
    Hid (W.there b 0 (ab f 32).toArray.size) ∧ Hid (RowB (W.setCells b 0 (ab f 32).toArray.toList) b 32 f) ∧ Hid (Below w.heap.size w (W.setCells b 0 (ab f 32).toArray.toList)) := by
  have h3 := Row8.keep hH hK
  exact ⟨RowB.there h3 f, RowB.stored h3 f, below_setCells _ _ (K.call hB hK) hb⟩
set_option maxRecDepth 100000 in
set_option maxHeartbeats 4000000 in
theorem refNode_any {w : World} {f g : Nat → Nat} (hf : ∀ i, f i < 256) (hg : ∀ i, g i < 256) :
    Calls Tryd.prog 25 #[hv f, hv g] w fun e w' => e = .returned (hv (nd f g)) ∧ Below w.heap.size w w' := by
  have HF := hide (And.intro hf hg)
  clear hf hg
  unfold hv
  go_enter Tryd.func25, Tryd.ntmps25
  go_upto_region 1 with fail
  refine wp_world (fun X hX => ?_)
  have hB : Below w.heap.size w X := by rw [hX]; exact K.alloc (K.alloc (K.alloc (Below.refl _ _) _) _) _
  have hF : RowB X w.heap.size 32 f := by
    rw [hX]
    exact Row8.keep (Row8.keep (RowB.made w 23 32 f _ rfl) (K.alloc (Below.refl _ _) _)) (K.alloc (Below.refl _ _) _)
  have hG : RowB X (w.heap.size + 1) 32 g := by
    rw [hX]
    have h := Row8.keep (RowB.made (w.alloc (.cells (ab f 32).toArray 23)) 23 32 g _ rfl) (K.alloc (Below.refl _ _) (.cells (ab (fun _ => 0) 32).toArray 23))
    rw [← zeros32] at h
    have e : ∀ o, (w.alloc o).heap.size = w.heap.size + 1 := fun o => by simp
    rw [e] at h
    exact h
  have hH : RowB X (w.heap.size + 2) 32 (fun _ => 0) := by
    rw [hX]
    have h := RowB.made ((w.alloc (.cells (ab f 32).toArray 23)).alloc (.cells (ab g 32).toArray 23)) 23 32 (fun _ => 0) _ zeros32
    have e : ∀ o o', ((w.alloc o).alloc o').heap.size = w.heap.size + 2 := fun o o' => by simp
    rw [e] at h
    exact h
  clear hX
  have HRf := hide hF
  have HRg := hide hG
  have HH := hide hH
  have HB := hide hB
  clear hB hF hG hH
  have HT := hide (refText_any (w := X) HF.out.1 HF.out.2)
  go_wp2_with (first
    | refine wpList_load_h rfl _ rfl rfl HRf.out.range ?_
    | refine wpList_load_h rfl _ rfl rfl HRg.out.range ?_)
  with_reducible refine Calls.mono HT.out ?_
  rintro e W1 hTx
  obtain ⟨a1, c1, rfl, hA1, hB1⟩ := hTx
  have HS := hide (refSum_hA (c := c1) hA1 (by omega))
  rw [show hA (ndT f g) 65 = (ab (nd f g) 32).toArray from rfl] at HS
  have HB1 := hide hB1
  clear hA1 hB1 HRf HRg HT
  go_wp2_with fail
  with_reducible refine Calls.mono HS.out ?_
  rintro e W3 ⟨rfl, hb⟩
  obtain ⟨HTH, HST, HB9⟩ := put_at (by omega) HH.out HB.out (K.call HB1.out hb) (nd f g)
  generalize hs2 : nd f g = s2 at HTH HST HB9 ⊢
  have HS2 := hide hs2
  clear hs2 HS hb HB1 HH HB
  go_wp2_with (refine wpList_store_mid rfl 23 _ _ rfl (w.heap.size + 2) 0 (ab s2 32).toArray rfl rfl HTH.out (inH _) (all_oneCell_toArray (ab_one _ _)) ?_; generalize W3.setCells (w.heap.size + 2) 0 (ab s2 32).toArray.toList = Z at HST HB9 ⊢)
  exact bodyPost_ret (results_cell_mid Tryd.results25 _ _ (w.heap.size + 2) (ab s2 32) _ rfl (RowB.range HST.out) Tryd.underlying23 rfl (ilH _)) rfl ⟨by rw [HS2.out], HB9.out⟩
end Go.Proofs.YtkpkkjcfodjifaaDoor
namespace Go.Proofs.YtkpkkjcfodjifaaDoor
set_option maxRecDepth 100000
open Go.RowKit

/-- The cells of n hashes. -/
def hfl (F : Nat → Nat → Nat) (n : Nat) : List Nat := fl (fun k => F (k / 32) (k % 32)) (n * 32)
def hc (F : Nat → Nat → Nat) (n : Nat) : List Value := cells8 (hfl F n)
theorem hc_get (F : Nat → Nat → Nat) {n k : Nat} (h : k < n * 32) : (hc F n)[k]? = some (.int .u8 ((F (k / 32) (k % 32) : Nat) : Int)) := by
  unfold hc hfl
  rw [cells8_at _ k (by rw [fl_len]; exact h), List.getD_eq_getElem?_getD, fl_at _ h]
  rfl
theorem hc_at (F : Nat → Nat → Nat) {n i j : Nat} (hi : i < n) (hj : j < 32) : (hc F n)[i * 32 + j]? = some (.int .u8 ((F i j : Nat) : Int)) := by
  rw [hc_get F (n := n) (by omega), show (i * 32 + j) / 32 = i by omega, show (i * 32 + j) % 32 = j by omega]
/-- n hashes in a row of one's own. -/
abbrev OH (w : World) (base : Nat) (v : Value) (n : Nat) (F : Nat → Nat → Nat) : Prop := w.ownsRow base 23 32 v n (hc F n)
theorem OH.keep {w w' : World} {base n : Nat} {v : Value} {F : Nat → Nat → Nat} (h : OH w base v n F) (hb : Below w.heap.size w w') : OH w' base v n F := by
  refine ⟨h.1, ?_⟩
  rcases h.2 with h0 | ⟨g, cap, cur, rfl, hg, hh, h1, h2, h3, h4⟩
  · exact Or.inl h0
  · exact Or.inr ⟨g, cap, cur, rfl, hg, by rw [hb.block g (h.lt g rfl).2]; exact hh, h1, h2, h3, h4⟩
theorem OH.form {w : World} {base n : Nat} {v : Value} {F : Nat → Nat → Nat} (h : OH w base v n F) : ∃ a cap, v = .slice a n cap ∧ n ≤ cap ∧ cap ≤ maxLen := by
  rcases h.2 with ⟨rfl, rfl⟩ | ⟨g, cap, cur, rfl, _, _, h1, h2, _⟩
  · exact ⟨_, _, rfl, Nat.le_refl _, by unfold maxLen; omega⟩
  · exact ⟨_, _, rfl, h1, h2⟩
theorem OH.hl {w : World} {base n cap : Nat} {a : Option Addr} {F : Nat → Nat → Nat} (h : OH w base (.slice a n cap) n F) (hF : ∀ i j, F i j < 256) : HL w a n F := by
  refine ⟨hF, ?_⟩
  by_cases h0 : n = 0
  · exact Or.inl h0
  · right
    rcases h.2 with ⟨e, _⟩ | ⟨g, cap', cur, e, hg, _⟩
    · cases e; omega
    · cases e
      refine ⟨g, 0, rfl, fun i hi j v hv => ?_⟩
      have hj : j < 32 := by
        rcases Nat.lt_or_ge j 32 with h' | h'
        · exact h'
        · rw [List.getElem?_eq_none (by rw [ab_len]; exact h')] at hv; cases hv
      rw [ab_at _ hj] at hv
      rw [show 0 + i * 32 + j = i * 32 + j by omega, h.cellAt (i * 32 + j) (by omega), hc_at F hi hj]
      exact hv
theorem OH.nil (w : World) (base : Nat) (F : Nat → Nat → Nat) : OH w base (.slice none 0 0) 0 F := World.ownsRow_nil _ _ _ _
theorem OH.below {w0 w w' : World} {v : Value} {n : Nat} {F : Nat → Nat → Nat} (h : OH w w0.heap.size v n F) (hb : Below w0.heap.size w0 w) (hg : w.grownBy w' v.ownBlock) : Below w0.heap.size w0 w' :=
  hb.grown hg hb.size (fun k hk => (h.lt k hk).1)
end Go.Proofs.YtkpkkjcfodjifaaDoor
namespace Go.Proofs.YtkpkkjcfodjifaaDoor
set_option maxRecDepth 100000
open Go.RowKit
attribute [local go_sem ↓] Go.wp_at_zero Go.wp_at_succ

end Go.Proofs.YtkpkkjcfodjifaaDoor
namespace Go.Proofs.YtkpkkjcfodjifaaDoor
set_option maxRecDepth 100000
open Go.RowKit

/-- How many hashes parts of such powers of two have. -/
def sz : List Nat → Nat
  | [] => 0
  | e :: es => 2 ^ e + sz es
/-- From the greatest on, no two the same. -/
def Desc : List Nat → Prop
  | [] => True
  | [_] => True
  | e :: x :: es => x < e ∧ Desc (x :: es)
theorem Desc.tail {e : Nat} : ∀ {es : List Nat}, Desc (e :: es) → Desc es
  | [], _ => trivial
  | _ :: _, h => h.2
def on : Nat → Nat → Nat
  | 0, _ => 0
  | f + 1, n => if n = 0 then 0 else n % 2 + on f (n / 2)
end Go.Proofs.YtkpkkjcfodjifaaDoor
namespace Go.Proofs.YtkpkkjcfodjifaaDoor
set_option maxRecDepth 100000
open Go.RowKit

/-- A list of hashes, as a function. -/
def lF (L : List (Nat → Nat)) : Nat → Nat → Nat := fun i => L.getD i (fun _ => 0)
theorem lF_lt {L : List (Nat → Nat)} (h : ∀ f ∈ L, ∀ j, f j < 256) (i j : Nat) : lF L i j < 256 := by
  unfold lF
  rw [List.getD_eq_getElem?_getD]
  by_cases hi : i < L.length
  · rw [List.getElem?_eq_getElem hi]
    exact h _ (List.getElem_mem hi) j
  · rw [List.getElem?_eq_none (by omega)]
    show 0 < 256
    omega
theorem hc_congr {F G : Nat → Nat → Nat} {n : Nat} (h : ∀ i, i < n → F i = G i) : hc F n = hc G n := by
  unfold hc hfl fl
  congr 1
  apply List.map_congr_left
  intro k hk
  have := List.mem_range.1 hk
  rw [h (k / 32) (by omega)]
theorem OH.congr {w : World} {base n : Nat} {v : Value} {F G : Nat → Nat → Nat} (h : OH w base v n F) (e : ∀ i, i < n → F i = G i) : OH w base v n G := by
  show w.ownsRow base 23 32 v n (hc G n)
  rw [← hc_congr e]
  exact h
end Go.Proofs.YtkpkkjcfodjifaaDoor
namespace Go.Proofs.YtkpkkjcfodjifaaDoor
set_option maxRecDepth 100000
open Go.RowKit

end Go.Proofs.YtkpkkjcfodjifaaDoor
