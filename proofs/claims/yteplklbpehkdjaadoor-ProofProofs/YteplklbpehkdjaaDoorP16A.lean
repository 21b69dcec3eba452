/- Layer 16: the program's own Leaf and Node. -/
import Derived.Test.YteplklbpehkdjaaDoorP5StepB
import Derived.Test.YteplklbpehkdjaaDoorKStep
import Derived.Test.YteplklbpehkdjaaDoorM16
namespace Go.Proofs.YteplklbpehkdjaaDoor
set_option maxRecDepth 100000
open Go.RowKit
attribute [local go_sem ↓] Go.wp_at_zero Go.wp_at_succ

def s3 {α : Type} (a b c : α) (i : Nat) : α := if i = 0 then a else if i = 1 then b else c
/-- The program's own Sum of three parts that lie somewhere. -/
theorem sum_three_at {w : World} {x y z : Option Addr} {n c m d l r q : Nat} {g k h : Nat → Nat} (hT : Tab w) (hb : BA w x n g) (hc : n ≤ c ∧ c ≤ maxLen) (hb2 : BA w y m k) (hc2 : m ≤ d ∧ d ≤ maxLen) (hb3 : BA w z l h) (hc3 : l ≤ r ∧ r ≤ maxLen) (hn : n + (m + l) ≤ 800000) (hq : w.cell? ⟨q, 0, none⟩ = some (.slice x n c)) (hq2 : w.cell? ⟨q, 1, none⟩ = some (.slice y m d)) (hq3 : w.cell? ⟨q, 2, none⟩ = some (.slice z l r)) :
    Calls Tryd.prog 28 #[.slice (some ⟨q, 0, none⟩) 3 3] w fun e w' => e = .returned (.agg (hA (cat g n (cat k m h)) (n + (m + l)))) ∧ Below w.heap.size w w' := by
  have e1 : lenF (s3 n m l) 3 = n + (m + l) := by simp [lenF, s3]; omega
  have hs := sum_any (c := 3) (x := some ⟨q, 0, none⟩) (k := 3) (A := s3 x y z) (L := s3 n m l) (C := s3 c d r) (G := s3 g k h) hT ⟨fun i hi => by
    rcases (show i = 0 ∨ i = 1 ∨ i = 2 by omega) with rfl | rfl | rfl
    · exact hb
    · exact hb2
    · exact hb3, fun i hi => by
    rcases (show i = 0 ∨ i = 1 ∨ i = 2 by omega) with rfl | rfl | rfl
    · exact hc
    · exact hc2
    · exact hc3, Or.inr ⟨_, _, rfl, fun i hi => by
    rcases (show i = 0 ∨ i = 1 ∨ i = 2 by omega) with rfl | rfl | rfl
    · exact hq
    · exact hq2
    · exact hq3⟩⟩ (by omega) (by rw [e1]; exact hn)
  have e : hashS (catF (s3 n m l) (s3 g k h) 3) (lenF (s3 n m l) 3) = hashS (cat g n (cat k m h)) (n + (m + l)) := by
    rw [e1]
    simp [catF, lenF, cat_zero, s3, cat_assoc]
  rw [e] at hs
  unfold hA
  exact hs
theorem wp_byte {op : Oper} {a : Act} {w : World} {Kt : Act → World → Prop} {Q : Exit → Act → World → Prop} {b : Nat} (hb : b < 256) (ho : op.op = .buildSlice 41 1 #[(0, .const (.int .u8 (b : Int)))])
    (h : ∀ p W', p = w.heap.size → BA W' (some ⟨p, 0, none⟩) 1 (fun _ => b) → Below w.heap.size w W' → Kt (a.put op.dst (.slice (some ⟨p, 0, none⟩) 1 1)) W') : Oper.wp Tryd.prog op a w Kt Q := by
  have h' := h w.heap.size (w.alloc (.cells #[.int .u8 (b : Int)] 5)) rfl (one_made w b hb) (K.alloc (Below.refl _ _) _)
  unfold Oper.wp execOp
  simp only [ho, List.map_toArray, List.map_cons, List.map_nil]
  go_simp
  exact h'
theorem wp_three {op : Oper} {a : Act} {w : World} {Kt : Act → World → Prop} {Q : Exit → Act → World → Prop} {x1 x2 x3 : Operand} {y z u : Option Addr} {n c m d l r : Nat} (ho : op.op = .buildSlice 58 3 #[(0, x1), (1, x2), (2, x3)]) (hx : a.eval x1 = .slice y n c) (hz : a.eval x2 = .slice z m d) (hu : a.eval x3 = .slice u l r)
    (h : ∀ p W', p = w.heap.size → W'.cell? ⟨p, 0, none⟩ = some (.slice y n c) → W'.cell? ⟨p, 1, none⟩ = some (.slice z m d) → W'.cell? ⟨p, 2, none⟩ = some (.slice u l r) → Below w.heap.size w W' → Kt (a.put op.dst (.slice (some ⟨p, 0, none⟩) 3 3)) W') : Oper.wp Tryd.prog op a w Kt Q := by
  have h' := h w.heap.size (w.alloc (.cells #[.slice y n c, .slice z m d, .slice u l r] 41)) rfl (by rw [cell_of_row _ _ _ _ _ _ (heap_alloc_new w _)]; rfl) (by rw [cell_of_row _ _ _ _ _ _ (heap_alloc_new w _)]; rfl) (by rw [cell_of_row _ _ _ _ _ _ (heap_alloc_new w _)]; rfl) (K.alloc (Below.refl _ _) _)
  unfold Oper.wp execOp
  simp only [ho, List.map_toArray, List.map_cons, List.map_nil, hx, hz, hu]
  go_simp
  exact h'
theorem hA_lf (f : Nat → Nat) (n : Nat) : hA (cat (fun _ => 0) 1 f) (1 + n) = (ab (lf f n) 32).toArray := rfl
theorem hA_nd (f g : Nat → Nat) : hA (cat (fun _ => 1) 1 (cat f 32 g)) (1 + (32 + 32)) = (ab (nd f g) 32).toArray := rfl
theorem hv_of {V : Array Value} {f : Nat → Nat} (h : V = (ab f 32).toArray) : Value.agg V = hv f := by rw [h]; rfl
set_option maxRecDepth 100000 in
set_option maxHeartbeats 4000000 in
theorem node_any {w : World} {f g : Nat → Nat} (hT : Tab w) (hf : ∀ i, f i < 256) (hg : ∀ i, g i < 256) :
    Calls Tryd.prog 29 #[hv f, hv g] w fun e w' => e = .returned (hv (nd f g)) ∧ Below w.heap.size w w' := by
  have HT := hide hT
  have HF := hide (And.intro hf hg)
  clear hT hf hg
  unfold hv
  go_enter Tryd.func29, Tryd.ntmps29
  go_upto_region 1 with fail
  refine wp_world (fun X hX => ?_)
  have hB : Below w.heap.size w X := by rw [hX]; exact K.alloc (K.alloc (K.alloc (Below.refl _ _) _) _) _
  have hF : RowB X w.heap.size 32 f := by
    rw [hX]
    exact Row8.keep (Row8.keep (RowB.made w 32 32 f _ rfl) (K.alloc (Below.refl _ _) _)) (K.alloc (Below.refl _ _) _)
  have hG : RowB X (w.heap.size + 1) 32 g := by
    rw [hX]
    have h := Row8.keep (RowB.made (w.alloc (.cells (ab f 32).toArray 32)) 32 32 g _ rfl) (K.alloc (Below.refl _ _) (.cells (ab (fun _ => 0) 32).toArray 32))
    rw [← zeros32] at h
    have e : ∀ o, (w.alloc o).heap.size = w.heap.size + 1 := fun o => by simp
    rw [e] at h
    exact h
  have hH : RowB X (w.heap.size + 2) 32 (fun _ => 0) := by
    rw [hX]
    have h := RowB.made ((w.alloc (.cells (ab f 32).toArray 32)).alloc (.cells (ab g 32).toArray 32)) 32 32 (fun _ => 0) _ zeros32
    have e : ∀ o o', ((w.alloc o).alloc o').heap.size = w.heap.size + 2 := fun o o' => by simp
    rw [e] at h
    exact h
  clear hX
  obtain ⟨b0, hb0⟩ : ∃ b0, w.heap.size = b0 := ⟨_, rfl⟩
  have HTX := hide (HT.out.keep hB)
  rw [hb0] at hB hF hG hH ⊢
  have HRf := hide hF
  have HRg := hide hG
  have HH := hide hH
  have HB := hide hB
  clear hB hF hG hH HT
  refine wp_region_noPanic ?_
  refine wp_region_held_drew (S := fun _ => True) (by kernel_rfl) trivial (fun hS0 => ?_)
  refine wpAnyH_take (i := 1) (v := .slice (some ⟨b0, 0, none⟩) 32 32) rfl (by kernel_rfl) (by kernel_rfl) (by kernel_rfl) (fun _ _ _ h => h) (Or.inl ⟨by rfl, fun w' _ => by go_simp⟩) hS0 ?_
  simp only [Act.put, List.getElem_toArray, List.getElem_cons_zero, List.getElem_cons_succ, List.setIfInBounds_toArray, List.set_cons_zero, List.set_cons_succ]
  refine wpAnyH_take (i := 2) (v := .slice (some ⟨b0 + 1, 0, none⟩) 32 32) rfl (by kernel_rfl) (by kernel_rfl) (by kernel_rfl) (fun _ _ _ h => h) (Or.inl ⟨by rfl, fun w' _ => by go_simp⟩) hS0 ?_
  simp only [Act.put, List.getElem_toArray, List.getElem_cons_zero, List.getElem_cons_succ, List.setIfInBounds_toArray, List.set_cons_zero, List.set_cons_succ]
  refine wpAnyH_ready (rs := [0]) (by kernel_rfl) (by simp) (AllReadyH.cons rfl (fun Kt hK => ?_) AllReadyH.nil)
  refine wanted_pos rfl ?_
  refine wp_byte (b := 1) (by omega) rfl (fun q1 W1 _ ho1 hw1 => hK.out _ _ trivial (fun _ => ?_))
  clear hK Kt
  simp only [Act.put, List.getElem_toArray, List.getElem_cons_zero, List.setIfInBounds_toArray, List.set_cons_zero, List.set_cons_succ]
  have HK1 : Hid (Below X.heap.size X W1) := (Go.Proofs.YteplklbpehkdjaaDoor.K.drew (Below.refl _ X)).trans (hw1.mono (Go.Proofs.YteplklbpehkdjaaDoor.K.drew (Below.refl _ X)).size)
  have HO1 := hide ho1
  clear hw1 ho1
  refine wpAnyH_ready (rs := [3]) (by kernel_rfl) (by simp) (AllReadyH.cons rfl (fun Kt hK => ?_) AllReadyH.nil)
  refine wanted_pos rfl ?_
  refine wp_three rfl (by rfl) (by rfl) (by rfl) (fun q2 W2 _ hc0 hc1 hc2 hw2 => hK.out _ _ trivial (fun _ => ?_))
  clear hK Kt
  simp only [Act.put, List.getElem_toArray, List.getElem_cons_zero, List.getElem_cons_succ, List.setIfInBounds_toArray, List.set_cons_zero, List.set_cons_succ]
  have HK2 : Hid (Below X.heap.size X W2) := K.call HK1.out hw2
  have HS := hide (sum_three_at (HTX.out.keep HK2.out) (HO1.out.keep hw2) (by unfold maxLen; omega) ((RowB.ba HRf.out HF.out.1).keep HK2.out) (by unfold maxLen; omega) ((RowB.ba HRg.out HF.out.2).keep HK2.out) (by unfold maxLen; omega) (by omega) hc0 hc1 hc2)
  rw [hA_nd] at HS
  clear hw2 hc0 hc1 hc2 HO1 HK1
  refine wpAnyH_ready (rs := [4]) (by kernel_rfl) (by simp) (AllReadyH.cons rfl (fun Kt hK => ?_) AllReadyH.nil)
  refine wanted_pos rfl ?_
  refine wp_sum rfl (by rfl) HS.out (fun W3 hw3 => hK.out _ _ trivial (fun _ => ?_))
  clear hK Kt
  simp only [Act.put, List.getElem_toArray, List.getElem_cons_zero, List.getElem_cons_succ, List.setIfInBounds_toArray, List.set_cons_zero, List.set_cons_succ]
  have hX3 : Below X.heap.size X W3 := K.call HK2.out hw3
  have hH3 := Row8.keep HH.out hX3
  have hB3 : Below b0 w W3 := by subst hb0; exact K.call HB.out hX3
  clear hw3 hX3 HH HB HS HK2 HRf HRg
  generalize hs2 : nd f g = s2 at ⊢
  have HS2 := hide hs2
  clear hs2
  have HTH := hide (RowB.there hH3 s2)
  have HST := hide (RowB.stored hH3 s2)
  have HB : Hid (Below b0 w (W3.setCells (b0 + 2) 0 (ab s2 32).toArray.toList)) := by subst hb0; exact below_setCells _ _ hB3 (by omega)
  clear hH3 hB3
  refine wpAnyH_ready (rs := [5]) (by kernel_rfl) (by simp) (AllReadyH.cons rfl (fun Kt hK => ?_) AllReadyH.nil)
  refine wanted_pos rfl ?_
  refine wp_store_mid 32 _ _ rfl (b0 + 2) 0 (ab s2 32).toArray (by rfl) (by rfl) HTH.out (inH _) (all_oneCell_toArray (ab_one _ _)) (hK.out _ _ trivial (fun _ => ?_))
  clear hK Kt
  generalize W3.setCells (b0 + 2) 0 (ab s2 32).toArray.toList = Z at HST HB ⊢
  refine wpAnyH_done (by kernel_rfl) ?_ _
  refine NoPanic.normal ?_
  go_wp2_with fail
  exact bodyPost_ret (results_cell_mid Tryd.results29 _ _ (b0 + 2) (ab s2 32) _ rfl (RowB.range HST.out) Tryd.underlying32 rfl (ilH _)) rfl ⟨by (try unfold hv); rw [HS2.out], by first | exact HB.out | (rw [hb0]; exact HB.out)⟩
end Go.Proofs.YteplklbpehkdjaaDoor
