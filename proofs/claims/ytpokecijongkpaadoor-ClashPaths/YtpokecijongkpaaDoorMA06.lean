/- Layer 16: the program's own Leaf and Node. The tables by which contracts of the library are laid at this program. Layer 16: the program's own Split and Root. What the document's own Two answers. Layer 16: the document's own Leaf, Text, Node. Lists of hashes in rows of one's own, and two lists compared. -/
import Derived.Test.YtpokecijongkpaaDoorMA05
import Derived.Shelf.Small.Bits
import Derived.Test.YtpokecijongkpaaDoorRows
import Derived.Lib.BitFns
import Derived.Deep.MidRow
namespace Go.Proofs.YtpokecijongkpaaDoor
set_option maxRecDepth 100000
open Go.RowKit
attribute [local go_sem ↓] Go.wp_at_zero Go.wp_at_succ

def s3 {α : Type} (a b c : α) (i : Nat) : α := if i = 0 then a else if i = 1 then b else c
/-- The program's own Sum of three parts that lie somewhere. -/
theorem sum_three_at {w : World} {x y z : Option Addr} {n c m d l r q : Nat} {g k h : Nat → Nat} (hT : Tab w) (hb : BA w x n g) (hc : n ≤ c ∧ c ≤ maxLen) (hb2 : BA w y m k) (hc2 : m ≤ d ∧ d ≤ maxLen) (hb3 : BA w z l h) (hc3 : l ≤ r ∧ r ≤ maxLen) (hn : n + (m + l) ≤ 800000) (hq : w.cell? ⟨q, 0, none⟩ = some (.slice x n c)) (hq2 : w.cell? ⟨q, 1, none⟩ = some (.slice y m d)) (hq3 : w.cell? ⟨q, 2, none⟩ = some (.slice z l r)) :
    Calls Tryd.prog 31 #[.slice (some ⟨q, 0, none⟩) 3 3] w fun e w' => e = .returned (.agg (hA (cat g n (cat k m h)) (n + (m + l)))) ∧ Below w.heap.size w w' := by
  have e1 : lenF (s3 n m l) 3 = n + (m + l) := by simp [lenF, s3]; omega
  have hs := sum_any (c := 3) (x := some ⟨q, 0, none⟩) (k := 3) (A := s3 x y z) (L := s3 n m l) (C := s3 c d r) (G := s3 g k h) hT ⟨fun i hi => by
    rcases (show i = 0 ∨ i = 1 ∨ i = 2 by omega) with rfl | rfl | rfl
    · exact hb
    · exact hb2
    · exact hb3, fun i hi => by
    rcases (show i = 0 ∨ i = 1 ∨ i = 2 by omega) with rfl | rfl | rfl
    · exact hc
    · exact hc2
    · exact hc3, Or.inr ⟨_, _, rfl, fun i hi => by
    rcases (show i = 0 ∨ i = 1 ∨ i = 2 by omega) with rfl | rfl | rfl
    · exact hq
    · exact hq2
    · exact hq3⟩⟩ (by omega) (by rw [e1]; exact hn)
  have e : hashS (catF (s3 n m l) (s3 g k h) 3) (lenF (s3 n m l) 3) = hashS (cat g n (cat k m h)) (n + (m + l)) := by
    rw [e1]
    simp [catF, lenF, cat_zero, s3, cat_assoc]
  rw [e] at hs
  unfold hA
  exact hs
theorem wp_byte {op : Oper} {a : Act} {w : World} {Kt : Act → World → Prop} {Q : Exit → Act → World → Prop} {b : Nat} (hb : b < 256) (ho : op.op = .buildSlice 28 1 #[(0, .const (.int .u8 (b : Int)))])
    (h : ∀ p W', p = w.heap.size → BA W' (some ⟨p, 0, none⟩) 1 (fun _ => b) → Below w.heap.size w W' → Kt (a.put op.dst (.slice (some ⟨p, 0, none⟩) 1 1)) W') : Oper.wp Tryd.prog op a w Kt Q := by
  have h' := h w.heap.size (w.alloc (.cells #[.int .u8 (b : Int)] 5)) rfl (one_made w b hb) (K.alloc (Below.refl _ _) _)
  unfold Oper.wp execOp
  simp only [ho, List.map_toArray, List.map_cons, List.map_nil]
  go_simp
  exact h'
theorem wp_three {op : Oper} {a : Act} {w : World} {Kt : Act → World → Prop} {Q : Exit → Act → World → Prop} {x1 x2 x3 : Operand} {y z u : Option Addr} {n c m d l r : Nat} (ho : op.op = .buildSlice 66 3 #[(0, x1), (1, x2), (2, x3)]) (hx : a.eval x1 = .slice y n c) (hz : a.eval x2 = .slice z m d) (hu : a.eval x3 = .slice u l r)
    (h : ∀ p W', p = w.heap.size → W'.cell? ⟨p, 0, none⟩ = some (.slice y n c) → W'.cell? ⟨p, 1, none⟩ = some (.slice z m d) → W'.cell? ⟨p, 2, none⟩ = some (.slice u l r) → Below w.heap.size w W' → Kt (a.put op.dst (.slice (some ⟨p, 0, none⟩) 3 3)) W') : Oper.wp Tryd.prog op a w Kt Q := by
  have h' := h w.heap.size (w.alloc (.cells #[.slice y n c, .slice z m d, .slice u l r] 28)) rfl (by rw [cell_of_row _ _ _ _ _ _ (heap_alloc_new w _)]; rfl) (by rw [cell_of_row _ _ _ _ _ _ (heap_alloc_new w _)]; rfl) (by rw [cell_of_row _ _ _ _ _ _ (heap_alloc_new w _)]; rfl) (K.alloc (Below.refl _ _) _)
  unfold Oper.wp execOp
  simp only [ho, List.map_toArray, List.map_cons, List.map_nil, hx, hz, hu]
  go_simp
  exact h'
theorem hA_lf (f : Nat → Nat) (n : Nat) : hA (cat (fun _ => 0) 1 f) (1 + n) = (ab (lf f n) 32).toArray := rfl
theorem hA_nd (f g : Nat → Nat) : hA (cat (fun _ => 1) 1 (cat f 32 g)) (1 + (32 + 32)) = (ab (nd f g) 32).toArray := rfl
set_option maxRecDepth 100000 in
set_option maxHeartbeats 4000000 in
theorem leaf_any {w : World} {x : Option Addr} {n c : Nat} {f : Nat → Nat} (hT : Tab w) (hb : BA w x n f) (hc : n ≤ c) (hm : c ≤ maxLen) (hn : n ≤ 700000) :
    Calls Tryd.prog 17 #[.slice x n c] w fun e w' => e = .returned (hv (lf f n)) ∧ Below w.heap.size w w' := by
  have HT := hide hT
  have HX := hide hb
  have HC := hide (And.intro hc hm)
  have HN := hide hn
  clear hT hb hc hm hn
  go_enter Tryd.func17, Tryd.ntmps17
  go_upto_region 1 with fail
  refine wp_world (fun X hX => ?_)
  have hB : Below w.heap.size w X := by rw [hX]; exact K.alloc (Below.refl _ _) _
  have hH : RowB X w.heap.size 32 (fun _ => 0) := by rw [hX]; exact RowB.made w 24 32 (fun _ => 0) _ zeros32
  clear hX
  obtain ⟨b0, hb0⟩ : ∃ b0, w.heap.size = b0 := ⟨_, rfl⟩
  have HK1 : Hid (Below X.heap.size X (X.alloc (.cells #[.int .u8 0] 5))) := hide (K.alloc (Below.refl _ X) _)
  have HO : Hid (BA (X.alloc (.cells #[.int .u8 0] 5)) (some ⟨X.heap.size, 0, none⟩) 1 (fun _ => 0)) := hide (one_made X 0 (by omega))
  have HS := hide (sum_two (q := X.heap.size + 1) ((HT.out.keep hB).keep HK1.out) HO.out (Nat.le_refl 1) (by unfold maxLen; omega) ((HX.out.keep hB).keep HK1.out) HC.out.1 HC.out.2 (by have := HN.out; omega) 28 (by simp))
  rw [hb0] at hB hH ⊢
  have HH := hide hH
  have HB := hide hB
  clear hH hB
  go_wp2_with fail
  with_reducible refine Calls.mono HS.out ?_
  rintro e W3 ⟨rfl, hb⟩
  have hX3 : Below X.heap.size X W3 := K.call HK1.out hb
  have hH3 := Row8.keep HH.out hX3
  have hB3 : Below b0 w W3 := by subst hb0; exact K.call HB.out hX3
  clear hb hX3 HH HB HS HO HK1
  rw [hA_lf]
  generalize hs2 : lf f n = s2 at ⊢
  have HS2 := hide hs2
  clear hs2
  have HTH := hide (RowB.there hH3 s2)
  have HST := hide (RowB.stored hH3 s2)
  have HB : Hid (Below b0 w (W3.setCells b0 0 (ab s2 32).toArray.toList)) := by subst hb0; exact below_setCells _ _ hB3 (Nat.le_refl _)
  clear hH3 hB3
  go_wp2_with (refine wpList_store_mid rfl 24 _ _ rfl b0 0 (ab s2 32).toArray rfl rfl HTH.out (inH _) (all_oneCell_toArray (ab_one _ _)) ?_; generalize W3.setCells b0 0 (ab s2 32).toArray.toList = Z at HST HB ⊢)
  exact bodyPost_ret (results_cell_mid Tryd.results17 _ _ b0 (ab s2 32) _ rfl (RowB.range HST.out) Tryd.underlying24 rfl (ilH _)) rfl ⟨by (try unfold hv); rw [HS2.out], by first | exact HB.out | (rw [hb0]; exact HB.out)⟩
set_option maxRecDepth 100000 in
set_option maxHeartbeats 4000000 in
theorem node_any {w : World} {f g : Nat → Nat} (hT : Tab w) (hf : ∀ i, f i < 256) (hg : ∀ i, g i < 256) :
    Calls Tryd.prog 34 #[hv f, hv g] w fun e w' => e = .returned (hv (nd f g)) ∧ Below w.heap.size w w' := by
  have HT := hide hT
  have HF := hide (And.intro hf hg)
  clear hT hf hg
  unfold hv
  go_enter Tryd.func34, Tryd.ntmps34
  go_upto_region 1 with fail
  refine wp_world (fun X hX => ?_)
  have hB : Below w.heap.size w X := by rw [hX]; exact K.alloc (K.alloc (K.alloc (Below.refl _ _) _) _) _
  have hF : RowB X w.heap.size 32 f := by
    rw [hX]
    exact Row8.keep (Row8.keep (RowB.made w 24 32 f _ rfl) (K.alloc (Below.refl _ _) _)) (K.alloc (Below.refl _ _) _)
  have hG : RowB X (w.heap.size + 1) 32 g := by
    rw [hX]
    have h := Row8.keep (RowB.made (w.alloc (.cells (ab f 32).toArray 24)) 24 32 g _ rfl) (K.alloc (Below.refl _ _) (.cells (ab (fun _ => 0) 32).toArray 24))
    rw [← zeros32] at h
    have e : ∀ o, (w.alloc o).heap.size = w.heap.size + 1 := fun o => by simp
    rw [e] at h
    exact h
  have hH : RowB X (w.heap.size + 2) 32 (fun _ => 0) := by
    rw [hX]
    have h := RowB.made ((w.alloc (.cells (ab f 32).toArray 24)).alloc (.cells (ab g 32).toArray 24)) 24 32 (fun _ => 0) _ zeros32
    have e : ∀ o o', ((w.alloc o).alloc o').heap.size = w.heap.size + 2 := fun o o' => by simp
    rw [e] at h
    exact h
  clear hX
  obtain ⟨b0, hb0⟩ : ∃ b0, w.heap.size = b0 := ⟨_, rfl⟩
  have HTX := hide (HT.out.keep hB)
  rw [hb0] at hB hF hG hH ⊢
  have HRf := hide hF
  have HRg := hide hG
  have HH := hide hH
  have HB := hide hB
  clear hB hF hG hH HT
  refine wp_region_noPanic ?_
  refine wp_region_held_drew (S := fun _ => True) (by kernel_rfl) trivial (fun hS0 => ?_)
  refine wpAnyH_take (i := 1) (v := .slice (some ⟨b0, 0, none⟩) 32 32) rfl (by kernel_rfl) (by kernel_rfl) (by kernel_rfl) (fun _ _ _ h => h) (Or.inl ⟨by rfl, fun w' _ => by go_simp⟩) hS0 ?_
  simp only [Act.put, List.getElem_toArray, List.getElem_cons_zero, List.getElem_cons_succ, List.setIfInBounds_toArray, List.set_cons_zero, List.set_cons_succ]
  refine wpAnyH_take (i := 2) (v := .slice (some ⟨b0 + 1, 0, none⟩) 32 32) rfl (by kernel_rfl) (by kernel_rfl) (by kernel_rfl) (fun _ _ _ h => h) (Or.inl ⟨by rfl, fun w' _ => by go_simp⟩) hS0 ?_
  simp only [Act.put, List.getElem_toArray, List.getElem_cons_zero, List.getElem_cons_succ, List.setIfInBounds_toArray, List.set_cons_zero, List.set_cons_succ]
  refine wpAnyH_ready (rs := [0]) (by kernel_rfl) (by simp) (AllReadyH.cons rfl (fun Kt hK => ?_) AllReadyH.nil)
  refine wanted_pos rfl ?_
  refine wp_byte (b := 1) (by omega) rfl (fun q1 W1 _ ho1 hw1 => hK.out _ _ trivial (fun _ => ?_))
  clear hK Kt
  simp only [Act.put, List.getElem_toArray, List.getElem_cons_zero, List.setIfInBounds_toArray, List.set_cons_zero, List.set_cons_succ]
  have HK1 : Hid (Below X.heap.size X W1) := (Go.Proofs.YtpokecijongkpaaDoor.K.drew (Below.refl _ X)).trans (hw1.mono (Go.Proofs.YtpokecijongkpaaDoor.K.drew (Below.refl _ X)).size)
  have HO1 := hide ho1
  clear hw1 ho1
  refine wpAnyH_ready (rs := [3]) (by kernel_rfl) (by simp) (AllReadyH.cons rfl (fun Kt hK => ?_) AllReadyH.nil)
  refine wanted_pos rfl ?_
  refine wp_three rfl (by rfl) (by rfl) (by rfl) (fun q2 W2 _ hc0 hc1 hc2 hw2 => hK.out _ _ trivial (fun _ => ?_))
  clear hK Kt
  simp only [Act.put, List.getElem_toArray, List.getElem_cons_zero, List.getElem_cons_succ, List.setIfInBounds_toArray, List.set_cons_zero, List.set_cons_succ]
  have HK2 : Hid (Below X.heap.size X W2) := K.call HK1.out hw2
  have HS := hide (sum_three_at (HTX.out.keep HK2.out) (HO1.out.keep hw2) (by unfold maxLen; omega) ((RowB.ba HRf.out HF.out.1).keep HK2.out) (by unfold maxLen; omega) ((RowB.ba HRg.out HF.out.2).keep HK2.out) (by unfold maxLen; omega) (by omega) hc0 hc1 hc2)
  rw [hA_nd] at HS
  clear hw2 hc0 hc1 hc2 HO1 HK1
  refine wpAnyH_ready (rs := [4]) (by kernel_rfl) (by simp) (AllReadyH.cons rfl (fun Kt hK => ?_) AllReadyH.nil)
  refine wanted_pos rfl ?_
  refine wp_sum rfl (by rfl) HS.out (fun W3 hw3 => hK.out _ _ trivial (fun _ => ?_))
  clear hK Kt
  simp only [Act.put, List.getElem_toArray, List.getElem_cons_zero, List.getElem_cons_succ, List.setIfInBounds_toArray, List.set_cons_zero, List.set_cons_succ]
  have hX3 : Below X.heap.size X W3 := K.call HK2.out hw3
  have hH3 := Row8.keep HH.out hX3
  have hB3 : Below b0 w W3 := by subst hb0; exact K.call HB.out hX3
  clear hw3 hX3 HH HB HS HK2 HRf HRg
  generalize hs2 : nd f g = s2 at ⊢
  have HS2 := hide hs2
  clear hs2
  have HTH := hide (RowB.there hH3 s2)
  have HST := hide (RowB.stored hH3 s2)
  have HB : Hid (Below b0 w (W3.setCells (b0 + 2) 0 (ab s2 32).toArray.toList)) := by subst hb0; exact below_setCells _ _ hB3 (by omega)
  clear hH3 hB3
  refine wpAnyH_ready (rs := [5]) (by kernel_rfl) (by simp) (AllReadyH.cons rfl (fun Kt hK => ?_) AllReadyH.nil)
  refine wanted_pos rfl ?_
  refine wp_store_mid 24 _ _ rfl (b0 + 2) 0 (ab s2 32).toArray (by rfl) (by rfl) HTH.out (inH _) (all_oneCell_toArray (ab_one _ _)) (hK.out _ _ trivial (fun _ => ?_))
  clear hK Kt
  generalize W3.setCells (b0 + 2) 0 (ab s2 32).toArray.toList = Z at HST HB ⊢
  refine wpAnyH_done (by kernel_rfl) ?_ _
  refine NoPanic.normal ?_
  go_wp2_with fail
  exact bodyPost_ret (results_cell_mid Tryd.results34 _ _ (b0 + 2) (ab s2 32) _ rfl (RowB.range HST.out) Tryd.underlying24 rfl (ilH _)) rfl ⟨by (try unfold hv); rw [HS2.out], by first | exact HB.out | (rw [hb0]; exact HB.out)⟩
end Go.Proofs.YtpokecijongkpaaDoor
namespace Go.Proofs.YtpokecijongkpaaDoor
open Go.Shelf
def lays125_ren : Go.Shelf.Ren := ⟨fun | 125 => 32 | 128 => 48 | 129 => 49 | n => n, fun | 46 => 47 | 3 => 3 | 51 => 57 | 53 => 70 | 4 => 4 | 5 => 5 | 9 => 9 | n => n, fun | n => n⟩
theorem lays125 : Go.Proofs.Lays.n125 Tryd.prog lays125_ren := {
  mixed := by kernel_rfl
  f125 := Tryd.func32.trans (congrArg some (by kernel_rfl))
  f128 := Tryd.func48.trans (congrArg some (by kernel_rfl))
  f129 := Tryd.func49.trans (congrArg some (by kernel_rfl))
  t3 := Tryd.underlying3
  a3 := Tryd.isAgg3
  z3 := Tryd.sizeOf3
  v3 := Tryd.zeroValue3
  t4 := Tryd.underlying4
  a4 := Tryd.isAgg4
  z4 := Tryd.sizeOf4
  v4 := Tryd.zeroValue4
  t5 := Tryd.underlying5
  a5 := Tryd.isAgg5
  z5 := Tryd.sizeOf5
  v5 := Tryd.zeroValue5
  t9 := Tryd.underlying9
  a9 := Tryd.isAgg9
  z9 := Tryd.sizeOf9
  v9 := Tryd.zeroValue9
  t46 := Tryd.underlying47
  a46 := Tryd.isAgg47
  z46 := Tryd.sizeOf47
  v46 := Tryd.zeroValue47
  t51 := Tryd.underlying57
  a51 := Tryd.isAgg57
  z51 := Tryd.sizeOf57
  v51 := Tryd.zeroValue57
  t53 := Tryd.underlying70
  a53 := Tryd.isAgg70
  z53 := Tryd.sizeOf70
  v53 := Tryd.zeroValue70 }
end Go.Proofs.YtpokecijongkpaaDoor
namespace Go.Proofs.YtpokecijongkpaaDoor
set_option maxRecDepth 100000
open Go.RowKit Go.Shelf
attribute [local go_sem ↓] Go.wp_at_zero Go.wp_at_succ

theorem bit_log : ∀ (f x : Nat), x ≠ 0 → x < 2 ^ f → Lib.bitLenAux f x = x.log2 + 1
  | 0, x, h0, h1 => by rw [Nat.pow_zero] at h1; omega
  | f + 1, x, h0, h1 => by
    rw [Lib.bitLenAux, if_neg h0]
    by_cases h2 : x / 2 = 0
    · obtain rfl : x = 1 := by omega
      rw [h2, show Nat.log2 1 = 0 by decide]
      cases f <;> simp [Lib.bitLenAux]
    · have h3 := Nat.log2_self_le h2
      have h4 : x / 2 < 2 ^ ((x / 2).log2 + 1) := Nat.lt_log2_self
      have h5 : x.log2 = (x / 2).log2 + 1 := (Nat.log2_eq_iff h0).2 ⟨by rw [Nat.pow_succ]; omega, by rw [Nat.pow_succ]; omega⟩
      rw [bit_log f (x / 2) h2 (by rw [Nat.pow_succ] at h1; omega), h5]
      omega
theorem sp_log {n : Nat} (h : 2 ≤ n) (h2 : n < 2 ^ 64) : Lib.bitLen (n - 1) = (n - 1).log2 + 1 := bit_log 64 _ (by omega) (by omega)
theorem split_any (w : World) {k : Int} (h1 : -9223372036854775808 ≤ k) (h2 : k < 9223372036854775808) : Calls Tryd.prog 18 #[.int .i64 k] w fun e w' => e = .returned (.int .i64 (sp k.toNat : Int)) ∧ w' = w := by
  by_cases h : k < 2
  · have e : sp k.toNat = 0 := sp_small (by omega)
    rw [e]
    go_enter Tryd.func18, Tryd.ntmps18
    go_wp2_with fail
    go_ret
    exact ⟨rfl, rfl⟩
  · obtain ⟨n, rfl⟩ : ∃ n : Nat, k = (n : Int) := ⟨k.toNat, by omega⟩
    have hn : 2 ≤ n := by omega
    have HL := hide (Any.bits_Len lays125 ((n : Int) - 1) w (by omega) (by omega))
    rw [show ((n : Int) - 1).toNat = n - 1 by omega, sp_log hn (by omega)] at HL
    rw [Int.toNat_natCast, sp_pow hn]
    have hw1 : wrap64 ((n : Int) - 1) = (n : Int) - 1 := by unfold wrap64; omega
    have hw2 : ((n : Int) - 1) % 18446744073709551616 = (n : Int) - 1 := by omega
    have he : (n - 1).log2 ≤ 62 := by
      have h5 := (Nat.log2_lt (n := n - 1) (k := 63) (by omega)).2 (by omega)
      omega
    generalize (n - 1).log2 = e at *
    have hp : (2 : Int) ^ e ≤ 4611686018427387904 := by
      have h6 : 2 ^ e ≤ 2 ^ 62 := Nat.pow_le_pow_right (by decide) he
      have h7 : ((2 ^ e : Nat) : Int) = (2 : Int) ^ e := by simp
      omega
    have hp0 : (0 : Int) ≤ 2 ^ e := Int.pow_nonneg (by decide)
    have hw3 : wrap64 (e : Int) = (e : Int) := by unfold wrap64; omega
    have hw4 : wrap64 ((2 : Int) ^ e) = 2 ^ e := by unfold wrap64; omega
    have hm : min e 64 = e := by omega
    have hneg : ¬ ((e : Int) < 0) := by omega
    clear hp hp0 he hn
    go_enter Tryd.func18, Tryd.ntmps18
    go_wp2_with (go_at_call 32; refine Calls.mono HL.out ?_; rintro e' w ⟨rfl, rfl⟩)
    go_ret
    exact ⟨by show Ending.returned (Value.int .i64 (wrap64 (2 ^ e))) = _; rw [hw4]; simp, rfl⟩
section
variable {w : World} {ops : Array Oper} {rest : List Oper} {o : Oper} {a : Act} {Q : Exit → Act → World → Prop}
theorem wpList_load_h (hgd : o.guard = none) (x : Operand) (hop : o.op = Op.load 24 x) {g off : Nat} {f : Nat → Nat} (hx : a.eval x = .pointer (some ⟨g, off, none⟩)) (ht : w.rangeAt g off (ab f 32)) (hK : wpList Tryd.prog ops Q rest (a.put o.dst (.agg (ab f 32).toArray)) w) : wpList Tryd.prog ops Q (o :: rest) a w :=
  wpList_load_mid hgd 24 x hop g off hx (ab f 32) _ ht Tryd.underlying24 rfl (ilH _) hK
end
theorem HL.tail {w : World} {b o n : Nat} {F : Nat → Nat → Nat} (h : HL w (some ⟨b, o, none⟩) n F) (k : Nat) : HL w (some ⟨b, o + k * 32, none⟩) (n - k) (fun i => F (k + i)) := by
  refine ⟨fun i => h.lt _, ?_⟩
  rcases h.at_ with hn | ⟨b', o', e, hr⟩
  · exact Or.inl (by omega)
  · cases e
    refine Or.inr ⟨b, o + k * 32, rfl, fun i hi => ?_⟩
    have := hr (k + i) (by omega)
    rw [Nat.add_mul, ← Nat.add_assoc] at this
    exact this
theorem hA_e0 : hA (fun _ => 0) 0 = (ab e0 32).toArray := rfl
/-- What is at hand once the result's variable is made. -/
theorem made_h {w X : World} (hX : X = w.alloc (.cells (ab (fun _ => 0) 32).toArray 24)) : Below w.heap.size w X ∧ RowB X w.heap.size 32 (fun _ => 0) := by
  rw [hX]
  exact ⟨K.alloc (Below.refl _ _) _, RowB.made w 24 32 (fun _ => 0) _ rfl⟩
/-- A hash is put into the result's variable. -/
theorem put_h {w X W : World} {b0 : Nat} (hb0 : w.heap.size = b0) (hH : RowB X b0 32 (fun _ => 0)) (hB : Below b0 w X) (hK : Below X.heap.size X W) (f : Nat → Nat) :
    Hid (W.there b0 0 (ab f 32).toArray.size) ∧ Hid (RowB (W.setCells b0 0 (ab f 32).toArray.toList) b0 32 f) ∧ Hid (Below b0 w (W.setCells b0 0 (ab f 32).toArray.toList)) := by
  subst hb0
  have h3 := Row8.keep hH hK
  exact ⟨RowB.there h3 f, RowB.stored h3 f, below_setCells _ _ (K.call hB hK) (Nat.le_refl _)⟩
set_option maxRecDepth 100000 in
set_option maxHeartbeats 8000000 in
theorem root_any : ∀ (n : Nat) {w : World} {x : Option Addr} {c : Nat} {F : Nat → Nat → Nat}, Tab w → HL w x n F → n ≤ c → c ≤ maxLen → n ≤ 1000000 → Calls Tryd.prog 20 #[.slice x n c] w fun e w' => e = .returned (hv (rt F n)) ∧ Below w.heap.size w w' := fun n => by
  induction n using Nat.strongRecOn with
  | ind n ih =>
    intro w x c F hT hL hc hmx hn
    have HT := hide hT
    have HLs := hide hL
    have HC := hide (And.intro hc hmx)
    have HIH := hide ih
    have HN := hide hn
    clear hT hL hmx ih hc hn
    by_cases h0 : n = 0
    · subst h0
      rw [rt_zero]
      go_enter Tryd.func20, Tryd.ntmps20
      go_upto_region 1 with fail
      refine wp_world (fun X hX => ?_)
      rw [zeros32] at hX
      obtain ⟨hB, hH⟩ := made_h hX
      clear hX
      obtain ⟨b0, hb0⟩ : ∃ b0, w.heap.size = b0 := ⟨_, rfl⟩
      have HS := hide (sum_none (HT.out.keep hB) (fun _ => 0))
      rw [hA_e0] at HS
      rw [hb0] at hB hH ⊢
      have HH := hide (And.intro hB hH)
      clear hB hH
      go_wp2_with fail
      with_reducible refine Calls.mono HS.out ?_
      rintro e W3 ⟨rfl, hb⟩
      obtain ⟨HTH, HST, HB⟩ := put_h hb0 HH.out.2 HH.out.1 hb e0
      clear hb HS HH
      generalize hs2 : e0 = s2 at HTH HST HB ⊢
      have HS2 := hide hs2
      clear hs2
      go_wp2_with (refine wpList_store_mid rfl 24 _ _ rfl b0 0 (ab s2 32).toArray rfl rfl HTH.out (inH _) (all_oneCell_toArray (ab_one _ _)) ?_; generalize W3.setCells b0 0 (ab s2 32).toArray.toList = Z at HST HB ⊢)
      exact bodyPost_ret (results_cell_mid Tryd.results20 _ _ b0 (ab s2 32) _ rfl (RowB.range HST.out) Tryd.underlying24 rfl (ilH _)) rfl ⟨by (try unfold hv); rw [HS2.out], by first | exact HB.out | (rw [hb0]; exact HB.out)⟩
    by_cases h1 : n = 1
    · subst h1
      rw [rt_one]
      rcases HLs.out.at_ with h2 | ⟨b, o, rfl, hr⟩
      · omega
      have hr0 := hr 0 (by omega)
      rw [Nat.zero_mul, Nat.add_zero] at hr0
      go_enter Tryd.func20, Tryd.ntmps20
      go_upto_region 1 with fail
      refine wp_world (fun X hX => ?_)
      rw [zeros32] at hX
      obtain ⟨hB, hH⟩ := made_h hX
      clear hX
      obtain ⟨b0, hb0⟩ : ∃ b0, w.heap.size = b0 := ⟨_, rfl⟩
      have HR := hide (range_keep hr0 hB)
      rw [hb0] at hB hH ⊢
      obtain ⟨HTH, HST, HB⟩ := put_h hb0 hH hB (Below.refl _ X) (F 0)
      clear hB hH hr hr0
      generalize hs2 : F 0 = s2 at HTH HST HB HR ⊢
      have HS2 := hide hs2
      clear hs2
      go_upto_region 5 with fail
      go_wp2_with (first
        | refine wpList_load_h rfl _ rfl rfl HR.out ?_
        | (refine wpList_store_mid rfl 24 _ _ rfl b0 0 (ab s2 32).toArray rfl rfl HTH.out (inH _) (all_oneCell_toArray (ab_one _ _)) ?_; generalize X.setCells b0 0 (ab s2 32).toArray.toList = Z at HST HB ⊢))
      exact bodyPost_ret (results_cell_mid Tryd.results20 _ _ b0 (ab s2 32) _ rfl (RowB.range HST.out) Tryd.underlying24 rfl (ilH _)) rfl ⟨by (try unfold hv); rw [HS2.out], by first | exact HB.out | (rw [hb0]; exact HB.out)⟩
    have h2 : 2 ≤ n := by omega
    rcases HLs.out.at_ with h3 | ⟨b, o, rfl, _⟩
    · omega
    have hi0 : ¬ ((n : Int) = 0) := by omega
    have hi1 : ¬ ((n : Int) = 1) := by omega
    have HSp := hide (fun W => split_any W (k := (n : Int)) (by omega) (by have := HN.out; omega))
    rw [Int.toNat_natCast] at HSp
    rw [rt_more F h2]
    have k1 := sp_lt h2
    have k2 := sp_pos h2
    generalize sp n = k at *
    have hkc : k ≤ c := by have := HC.out.1; omega
    have hkn : k ≤ n := by omega
    have hne : ¬ (c = k) := by have := HC.out.1; omega
    have HA := hide (And.intro k1 (show n - k < n by omega))
    have HKk := hide (And.intro k1 k2)
    clear h0 h1 h2 k1 k2
    go_enter Tryd.func20, Tryd.ntmps20
    go_upto_region 1 with fail
    refine wp_world (fun X hX => ?_)
    rw [zeros32] at hX
    obtain ⟨hB, hH⟩ := made_h hX
    clear hX
    obtain ⟨b0, hb0⟩ : ∃ b0, w.heap.size = b0 := ⟨_, rfl⟩
    have HTX := hide (HT.out.keep hB)
    have HLX := hide (HLs.out.keep hB)
    rw [hb0] at hB hH ⊢
    have HH := hide (And.intro hB hH)
    clear hB hH
    go_upto_region 7 with (go_at_call 18; refine Calls.mono (HSp.out _) ?_; rintro e' w' ⟨rfl, hw⟩; replace hw := hw.symm; subst hw)
    have HB : Hid (Below X.heap.size X X.drew) := Go.Proofs.YtpokecijongkpaaDoor.K.drew (Below.refl _ X)
    refine wp_region_noPanic ?_
    refine wp_region_held_drew (S := fun _ => True) (by kernel_rfl) trivial (fun hS0 => ?_)
    refine wpAnyH_take (i := 0) (v := .slice (some ⟨b, o, none⟩) n c) rfl (by kernel_rfl) (by kernel_rfl) (by kernel_rfl) (fun _ _ _ h => h) (Or.inl ⟨by rfl, fun w' _ => by go_simp⟩) trivial ?_
    simp only [Act.put, List.getElem_toArray, List.getElem_cons_zero, List.setIfInBounds_toArray, List.set_cons_zero, List.set_cons_succ]
    refine wpAnyH_take (i := 1) (v := .int .i64 (k : Int)) rfl (by kernel_rfl) (by kernel_rfl) (by kernel_rfl) (fun _ _ _ h => h) (Or.inl ⟨by rfl, fun w' _ => by go_simp⟩) trivial ?_
    simp only [Act.put, List.getElem_toArray, List.getElem_cons_zero, List.getElem_cons_succ, List.setIfInBounds_toArray, List.set_cons_zero, List.set_cons_succ]
    refine wpAnyH_take (i := 2) (v := .slice (some ⟨b, o, none⟩) k c) rfl (by kernel_rfl) (by kernel_rfl) (by kernel_rfl) (fun _ _ _ h => h) (Or.inl ⟨by rfl, fun w' _ => by go_simp⟩) trivial ?_
    simp only [Act.put, List.getElem_toArray, List.getElem_cons_zero, List.getElem_cons_succ, List.setIfInBounds_toArray, List.set_cons_zero, List.set_cons_succ]
    refine wpAnyH_take (i := 4) (v := .slice (some ⟨b, o, none⟩) n c) rfl (by kernel_rfl) (by kernel_rfl) (by kernel_rfl) (fun _ _ _ h => h) (Or.inl ⟨by rfl, fun w' _ => by go_simp⟩) trivial ?_
    simp only [Act.put, List.getElem_toArray, List.getElem_cons_zero, List.getElem_cons_succ, List.setIfInBounds_toArray, List.set_cons_zero, List.set_cons_succ]
    refine wpAnyH_take (i := 5) (v := .int .i64 (k : Int)) rfl (by kernel_rfl) (by kernel_rfl) (by kernel_rfl) (fun _ _ _ h => h) (Or.inl ⟨by rfl, fun w' _ => by go_simp⟩) trivial ?_
    simp only [Act.put, List.getElem_toArray, List.getElem_cons_zero, List.getElem_cons_succ, List.setIfInBounds_toArray, List.set_cons_zero, List.set_cons_succ]
    refine wpAnyH_take (i := 6) (v := .slice (some ⟨b, o + k * 32, none⟩) (n - k) (c - k)) rfl (by kernel_rfl) (by kernel_rfl) (by kernel_rfl) (fun _ _ _ h => h) (Or.inl ⟨by rfl, fun w' _ => by go_simp⟩) trivial ?_
    simp only [Act.put, List.getElem_toArray, List.getElem_cons_zero, List.getElem_cons_succ, List.setIfInBounds_toArray, List.set_cons_zero, List.set_cons_succ]
    refine wpAnyH_ready (rs := [3]) (by kernel_rfl) (by simp) (AllReadyH.cons rfl (fun Kt hK => ?_) AllReadyH.nil)
    refine wanted_pos rfl ?_
    refine wp_call (R := fun r w' => r = hv (rt F k) ∧ Below X.heap.size X w') (vs := #[.slice (some ⟨b, o, none⟩) k c]) rfl (by simp only [List.map_toArray, List.map_cons, List.map_nil]; rfl) (by go_simp) (Calls.mono (HIH.out k HA.out.1 (HTX.out.keep HB.out) ((HLX.out.head k hkn).keep HB.out) hkc HC.out.2 (by have := HN.out; omega)) (fun e w' ⟨he, hb⟩ => ⟨_, he, rfl, K.call HB.out hb⟩)) (fun r W1 ⟨hr, hb⟩ => ?_)
    subst hr
    have HB1 : Hid (Below X.heap.size X W1) := hb
    clear hb
    refine hK.out _ _ trivial (fun _ => ?_)
    clear hK Kt
    simp only [Act.put, List.getElem_toArray, List.getElem_cons_zero, List.getElem_cons_succ, List.setIfInBounds_toArray, List.set_cons_zero, List.set_cons_succ]
    refine wpAnyH_ready (rs := [7]) (by kernel_rfl) (by simp) (AllReadyH.cons rfl (fun Kt hK => ?_) AllReadyH.nil)
    refine wanted_pos rfl ?_
    refine wp_call (R := fun r w' => r = hv (rt (fun i => F (k + i)) (n - k)) ∧ Below X.heap.size X w') (vs := #[.slice (some ⟨b, o + k * 32, none⟩) (n - k) (c - k)]) rfl (by simp only [List.map_toArray, List.map_cons, List.map_nil]; rfl) (by go_simp) (Calls.mono (HIH.out (n - k) HA.out.2 (HTX.out.keep HB1.out) ((HLX.out.tail k).keep HB1.out) (by have := HC.out.1; omega) (by have := HC.out.2; omega) (by have := HN.out; omega)) (fun e w' ⟨he, hb⟩ => ⟨_, he, rfl, K.call HB1.out hb⟩)) (fun r W2 ⟨hr, hb⟩ => ?_)
    subst hr
    have HB2 : Hid (Below X.heap.size X W2) := hb
    clear hb
    refine hK.out _ _ trivial (fun _ => ?_)
    clear hK Kt
    simp only [Act.put, List.getElem_toArray, List.getElem_cons_zero, List.getElem_cons_succ, List.setIfInBounds_toArray, List.set_cons_zero, List.set_cons_succ]
    refine wpAnyH_ready (rs := [8]) (by kernel_rfl) (by simp) (AllReadyH.cons rfl (fun Kt hK => ?_) AllReadyH.nil)
    refine wanted_pos rfl ?_
    refine wp_call (R := fun r w' => r = hv (nd (rt F k) (rt (fun i => F (k + i)) (n - k))) ∧ Below X.heap.size X w') (vs := #[hv (rt F k), hv (rt (fun i => F (k + i)) (n - k))]) rfl (by simp only [List.map_toArray, List.map_cons, List.map_nil]; rfl) (by go_simp) (Calls.mono (node_any (HTX.out.keep HB2.out) (rt_lt HLs.out.lt k) (rt_lt (fun i => HLs.out.lt (k + i)) (n - k))) (fun e w' ⟨he, hb⟩ => ⟨_, he, rfl, K.call HB2.out hb⟩)) (fun r W3 ⟨hr, hb⟩ => ?_)
    subst hr
    have HB3 : Hid (Below X.heap.size X W3) := hb
    clear hb
    refine hK.out _ _ trivial (fun _ => ?_)
    clear hK Kt
    simp only [Act.put, List.getElem_toArray, List.getElem_cons_zero, List.getElem_cons_succ, List.setIfInBounds_toArray, List.set_cons_zero, List.set_cons_succ]
    refine wpAnyH_ready (rs := [9]) (by kernel_rfl) (by simp) (AllReadyH.cons rfl (fun Kt hK => ?_) AllReadyH.nil)
    refine wanted_pos rfl ?_
    obtain ⟨HTH, HST, HB9⟩ := put_h hb0 HH.out.2 HH.out.1 HB3.out (nd (rt F k) (rt (fun i => F (k + i)) (n - k)))
    generalize hs2 : nd (rt F k) (rt (fun i => F (k + i)) (n - k)) = s2 at HTH HST HB9 ⊢
    have HS2 := hide hs2
    clear hs2
    refine wp_store_mid 24 _ _ rfl b0 0 (ab s2 32).toArray (by rfl) (by rfl) HTH.out (inH _) (all_oneCell_toArray (ab_one _ _)) (hK.out _ _ trivial (fun _ => ?_))
    clear hK Kt
    generalize W3.setCells b0 0 (ab s2 32).toArray.toList = Z at HST HB9 ⊢
    refine wpAnyH_done (by kernel_rfl) ?_ _
    refine NoPanic.normal ?_
    go_wp2_with fail
    exact bodyPost_ret (results_cell_mid Tryd.results20 _ _ b0 (ab s2 32) _ rfl (RowB.range HST.out) Tryd.underlying24 rfl (ilH _)) rfl ⟨by (try unfold hv); rw [HS2.out], by first | exact HB9.out | (rw [hb0]; exact HB9.out)⟩
end Go.Proofs.YtpokecijongkpaaDoor
namespace Go.Proofs.YtpokecijongkpaaDoor
set_option maxRecDepth 100000
open Go.RowKit
attribute [local go_sem ↓] Go.wp_at_zero Go.wp_at_succ

end Go.Proofs.YtpokecijongkpaaDoor
namespace Go.Proofs.YtpokecijongkpaaDoor
set_option maxRecDepth 100000
open Go.RowKit
attribute [local go_sem ↓] Go.wp_at_zero Go.wp_at_succ

/-- What Text answers. -/
def TxP (w : World) (f g : Nat → Nat) (e : Ending) (w' : World) : Prop := ∃ a c, e = .returned (.slice a 65 c) ∧ BA w' a 65 (ndT f g) ∧ Below w.heap.size w w'
set_option maxRecDepth 100000 in
set_option maxHeartbeats 4000000 in
theorem refText_any {w : World} {f g : Nat → Nat} (hf : ∀ i, f i < 256) (hg : ∀ i, g i < 256) : Calls Tryd.prog 45 #[.agg (ab f 32).toArray, .agg (ab g 32).toArray] w (TxP w f g) := by
  have HF := hide (And.intro hf hg)
  clear hf hg
  go_enter Tryd.func45, Tryd.ntmps45
  go_upto_region 1 with fail
  refine wp_world (fun X hX => ?_)
  have hB : Below w.heap.size w X := by rw [hX]; exact K.alloc (K.alloc (Below.refl _ _) _) _
  have hF : RowB X w.heap.size 32 f := by
    rw [hX]
    exact Row8.keep (RowB.made w 24 32 f _ rfl) (K.alloc (Below.refl _ _) _)
  have hG : RowB X (w.heap.size + 1) 32 g := by
    rw [hX]
    have h := RowB.made (w.alloc (.cells (ab f 32).toArray 24)) 24 32 g _ rfl
    have e : ∀ o, (w.alloc o).heap.size = w.heap.size + 1 := fun o => by simp
    rw [e] at h
    exact h
  clear hX
  obtain ⟨b0, hb0⟩ : ∃ b0, w.heap.size = b0 := ⟨_, rfl⟩
  rw [hb0] at hF hG ⊢
  have HRf := hide (RowB.ba hF HF.out.1)
  have HRg := hide (RowB.ba hG HF.out.2)
  have HB := hide hB
  clear hB hF hG
  go_upto_region 2 with fail
  refine wp_world (fun Y hY => ?_)
  have hK : Below X.heap.size X Y := by rw [hY]; exact K.alloc (Below.refl _ _) _
  have hO : Y.ownsRow X.heap.size 5 1 (.slice (some ⟨X.heap.size, 0, none⟩) 1 1) 1 (cells8 [1]) := by
    rw [hY]
    exact ⟨rfl, Or.inr ⟨X.heap.size, 1, _, rfl, Nat.le_refl _, heap_alloc_new X _, by decide, by decide, rfl, rfl⟩⟩
  clear hY
  have HO := hide hO
  have HK := hide hK
  have HRf1 := hide (HRf.out.keep hK)
  clear hO hK
  go_upto_region 3 with (at_builtin; refine wpList_app rfl _ _ rfl rfl HO.out rfl HRf1.out (by omega) HK.out.size ?_; intro v1 w1 hO1 hg1)
  have hb1 : Below X.heap.size X w1 := HK.out.grown hg1 HK.out.size (fun k hk => (HO.out.lt k hk).1)
  have HRg1 := hide (HRg.out.keep hb1)
  clear hg1
  go_wp2_with (at_builtin; refine wpList_app rfl _ _ rfl rfl hO1 rfl HRg1.out (by omega) hb1.size ?_; intro v2 w2 hO2 hg2)
  have hb2 : Below X.heap.size X w2 := hb1.grown hg2 hb1.size (fun k hk => (hO1.lt k hk).1)
  rw [show ([1] : List Nat) = fl (fun _ => 1) 1 from rfl, fl_cat, fl_cat] at hO2
  obtain ⟨a2, c2, rfl, _, _⟩ := own_max hO2
  have hA := own_ba hO2 (cat_lt (cat_lt (fun _ => by omega) HF.out.1 1) HF.out.2 33)
  rw [show (1 + 32 + 32 : Nat) = 65 from rfl, show cat (cat (fun _ => 1) 1 f) 33 g = ndT f g from cat_assoc (fun _ => 1) f g 1 32] at hA
  have HAA := hide hA
  have HB2 := hide (K.call HB.out hb2)
  clear hO2 hA hg2 hO1 hb1 hb2
  go_ret
  exact ⟨_, _, rfl, HAA.out, HB2.out⟩
/-- A hash is put into the result's variable, wherever it lies. -/
theorem put_at {w X W : World} {b : Nat} (hb : w.heap.size ≤ b) (hH : RowB X b 32 (fun _ => 0)) (hB : Below w.heap.size w X) (hK : Below X.heap.size X W) (f : Nat → Nat) :
    Hid (W.there b 0 (ab f 32).toArray.size) ∧ Hid (RowB (W.setCells b 0 (ab f 32).toArray.toList) b 32 f) ∧ Hid (Below w.heap.size w (W.setCells b 0 (ab f 32).toArray.toList)) := by
  have h3 := Row8.keep hH hK
  exact ⟨RowB.there h3 f, RowB.stored h3 f, below_setCells _ _ (K.call hB hK) hb⟩
set_option maxRecDepth 100000 in
set_option maxHeartbeats 4000000 in
theorem refNode_any {w : World} {f g : Nat → Nat} (hf : ∀ i, f i < 256) (hg : ∀ i, g i < 256) :
    Calls Tryd.prog 30 #[hv f, hv g] w fun e w' => e = .returned (hv (nd f g)) ∧ Below w.heap.size w w' := by
  have HF := hide (And.intro hf hg)
  clear hf hg
  unfold hv
  go_enter Tryd.func30, Tryd.ntmps30
  go_upto_region 1 with fail
  refine wp_world (fun X hX => ?_)
  have hB : Below w.heap.size w X := by rw [hX]; exact K.alloc (K.alloc (K.alloc (Below.refl _ _) _) _) _
  have hF : RowB X w.heap.size 32 f := by
    rw [hX]
    exact Row8.keep (Row8.keep (RowB.made w 24 32 f _ rfl) (K.alloc (Below.refl _ _) _)) (K.alloc (Below.refl _ _) _)
  have hG : RowB X (w.heap.size + 1) 32 g := by
    rw [hX]
    have h := Row8.keep (RowB.made (w.alloc (.cells (ab f 32).toArray 24)) 24 32 g _ rfl) (K.alloc (Below.refl _ _) (.cells (ab (fun _ => 0) 32).toArray 24))
    rw [← zeros32] at h
    have e : ∀ o, (w.alloc o).heap.size = w.heap.size + 1 := fun o => by simp
    rw [e] at h
    exact h
  have hH : RowB X (w.heap.size + 2) 32 (fun _ => 0) := by
    rw [hX]
    have h := RowB.made ((w.alloc (.cells (ab f 32).toArray 24)).alloc (.cells (ab g 32).toArray 24)) 24 32 (fun _ => 0) _ zeros32
    have e : ∀ o o', ((w.alloc o).alloc o').heap.size = w.heap.size + 2 := fun o o' => by simp
    rw [e] at h
    exact h
  clear hX
  have HRf := hide hF
  have HRg := hide hG
  have HH := hide hH
  have HB := hide hB
  clear hB hF hG hH
  have HT := hide (refText_any (w := X) HF.out.1 HF.out.2)
  go_wp2_with (first
    | refine wpList_load_h rfl _ rfl rfl HRf.out.range ?_
    | refine wpList_load_h rfl _ rfl rfl HRg.out.range ?_)
  with_reducible refine Calls.mono HT.out ?_
  rintro e W1 hTx
  obtain ⟨a1, c1, rfl, hA1, hB1⟩ := hTx
  have HS := hide (refSum_hA (c := c1) hA1 (by omega))
  rw [show hA (ndT f g) 65 = (ab (nd f g) 32).toArray from rfl] at HS
  have HB1 := hide hB1
  clear hA1 hB1 HRf HRg HT
  go_wp2_with fail
  with_reducible refine Calls.mono HS.out ?_
  rintro e W3 ⟨rfl, hb⟩
  obtain ⟨HTH, HST, HB9⟩ := put_at (by omega) HH.out HB.out (K.call HB1.out hb) (nd f g)
  generalize hs2 : nd f g = s2 at HTH HST HB9 ⊢
  have HS2 := hide hs2
  clear hs2 HS hb HB1 HH HB
  go_wp2_with (refine wpList_store_mid rfl 24 _ _ rfl (w.heap.size + 2) 0 (ab s2 32).toArray rfl rfl HTH.out (inH _) (all_oneCell_toArray (ab_one _ _)) ?_; generalize W3.setCells (w.heap.size + 2) 0 (ab s2 32).toArray.toList = Z at HST HB9 ⊢)
  exact bodyPost_ret (results_cell_mid Tryd.results30 _ _ (w.heap.size + 2) (ab s2 32) _ rfl (RowB.range HST.out) Tryd.underlying24 rfl (ilH _)) rfl ⟨by rw [HS2.out], HB9.out⟩
end Go.Proofs.YtpokecijongkpaaDoor
namespace Go.Proofs.YtpokecijongkpaaDoor
set_option maxRecDepth 100000
open Go.RowKit

/-- The cells of n hashes. -/
def hfl (F : Nat → Nat → Nat) (n : Nat) : List Nat := fl (fun k => F (k / 32) (k % 32)) (n * 32)
def hc (F : Nat → Nat → Nat) (n : Nat) : List Value := cells8 (hfl F n)
theorem hc_get (F : Nat → Nat → Nat) {n k : Nat} (h : k < n * 32) : (hc F n)[k]? = some (.int .u8 ((F (k / 32) (k % 32) : Nat) : Int)) := by
  unfold hc hfl
  rw [cells8_at _ k (by rw [fl_len]; exact h), List.getD_eq_getElem?_getD, fl_at _ h]
  rfl
theorem hc_at (F : Nat → Nat → Nat) {n i j : Nat} (hi : i < n) (hj : j < 32) : (hc F n)[i * 32 + j]? = some (.int .u8 ((F i j : Nat) : Int)) := by
  rw [hc_get F (n := n) (by omega), show (i * 32 + j) / 32 = i by omega, show (i * 32 + j) % 32 = j by omega]
/-- F's first n hashes, then G's. -/
def hcat (F : Nat → Nat → Nat) (n : Nat) (G : Nat → Nat → Nat) : Nat → Nat → Nat := fun i => if i < n then F i else G (i - n)
/-- n hashes in a row of one's own. -/
abbrev OH (w : World) (base : Nat) (v : Value) (n : Nat) (F : Nat → Nat → Nat) : Prop := w.ownsRow base 24 32 v n (hc F n)
theorem OH.keep {w w' : World} {base n : Nat} {v : Value} {F : Nat → Nat → Nat} (h : OH w base v n F) (hb : Below w.heap.size w w') : OH w' base v n F := by
  refine ⟨h.1, ?_⟩
  rcases h.2 with h0 | ⟨g, cap, cur, rfl, hg, hh, h1, h2, h3, h4⟩
  · exact Or.inl h0
  · exact Or.inr ⟨g, cap, cur, rfl, hg, by rw [hb.block g (h.lt g rfl).2]; exact hh, h1, h2, h3, h4⟩
theorem OH.form {w : World} {base n : Nat} {v : Value} {F : Nat → Nat → Nat} (h : OH w base v n F) : ∃ a cap, v = .slice a n cap ∧ n ≤ cap ∧ cap ≤ maxLen := by
  rcases h.2 with ⟨rfl, rfl⟩ | ⟨g, cap, cur, rfl, _, _, h1, h2, _⟩
  · exact ⟨_, _, rfl, Nat.le_refl _, by unfold maxLen; omega⟩
  · exact ⟨_, _, rfl, h1, h2⟩
theorem OH.hl {w : World} {base n cap : Nat} {a : Option Addr} {F : Nat → Nat → Nat} (h : OH w base (.slice a n cap) n F) (hF : ∀ i j, F i j < 256) : HL w a n F := by
  refine ⟨hF, ?_⟩
  by_cases h0 : n = 0
  · exact Or.inl h0
  · right
    rcases h.2 with ⟨e, _⟩ | ⟨g, cap', cur, e, hg, _⟩
    · cases e; omega
    · cases e
      refine ⟨g, 0, rfl, fun i hi j v hv => ?_⟩
      have hj : j < 32 := by
        rcases Nat.lt_or_ge j 32 with h' | h'
        · exact h'
        · rw [List.getElem?_eq_none (by rw [ab_len]; exact h')] at hv; cases hv
      rw [ab_at _ hj] at hv
      rw [show 0 + i * 32 + j = i * 32 + j by omega, h.cellAt (i * 32 + j) (by omega), hc_at F hi hj]
      exact hv
theorem OH.nil (w : World) (base : Nat) (F : Nat → Nat → Nat) : OH w base (.slice none 0 0) 0 F := World.ownsRow_nil _ _ _ _
theorem OH.below {w0 w w' : World} {v : Value} {n : Nat} {F : Nat → Nat → Nat} (h : OH w w0.heap.size v n F) (hb : Below w0.heap.size w0 w) (hg : w.grownBy w' v.ownBlock) : Below w0.heap.size w0 w' :=
  hb.grown hg hb.size (fun k hk => (h.lt k hk).1)
/-- Two hashes are compared, in a region that draws its order. -/
theorem yieldsIf_eqH {ops : Array Oper} {S : World → Prop} {op : Oper} {a : Act} (hw : Region.wanted op (yielded ops a.tmps) = true) {x y : Operand} {t : TypeId} (V U : Array Value) (r : Bool) (ho : op.op = .binOp .eql 24 x y t)
    (hx : a.eval x = .agg V) (hy : a.eval y = .agg U) (q : ∀ w, (Op.equalIn 10000 24 (.agg V) (.agg U)).run Tryd.prog w = .ok r w) : YieldsIf Tryd.prog ops S op (.bool r) a :=
  .inl ⟨hw, fun w _ => by
    obtain ⟨h1, h2⟩ := runEq V U x y r w (q w)
    unfold execOp
    simp only [ho, hx, hy, Sem.run_bind, Sem.run_pure, Result.andThen_ok, h1, h2]⟩
theorem yieldsIf_neH {ops : Array Oper} {S : World → Prop} {op : Oper} {a : Act} (hw : Region.wanted op (yielded ops a.tmps) = true) {x y : Operand} {t : TypeId} (V U : Array Value) (r : Bool) (ho : op.op = .binOp .neq 24 x y t)
    (hx : a.eval x = .agg V) (hy : a.eval y = .agg U) (q : ∀ w, (Op.equalIn 10000 24 (.agg V) (.agg U)).run Tryd.prog w = .ok r w) : YieldsIf Tryd.prog ops S op (.bool (!r)) a :=
  .inl ⟨hw, fun w _ => by
    obtain ⟨h1, h2⟩ := runNe V U x y r w (q w)
    unfold execOp
    simp only [ho, hx, hy, Sem.run_bind, Sem.run_pure, Result.andThen_ok, h1, h2]⟩
end Go.Proofs.YtpokecijongkpaaDoor
