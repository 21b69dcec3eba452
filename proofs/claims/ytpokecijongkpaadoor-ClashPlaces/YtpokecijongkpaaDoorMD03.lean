/- The message's blocks, as a list (no function of the program is named). What the program's own ending answers. Texts, one behind the other; rows of bytes of one's own, as bytes that are handed on. Texts, one behind the other; hashes as values (no function of the program is named). Worlds that part in one block alone. A digest in memory: its state, the bytes of its unfinished block, its size. -/
import Derived.Test.YtpokecijongkpaaDoorMD02
import Derived.Test.YtpokecijongkpaaDoorMD01
import Derived.Deep.LoopGhost
import Derived.Deep.DeepCutAuto
import Derived.Laws.IdiomCopy
import Derived.Laws.CopyOwn
namespace Go.Proofs.YtpokecijongkpaaDoor
set_option maxRecDepth 100000

/-- How many noughts. -/
def zs (n : Nat) : Nat := padLen n - 8 - (n + 1)
theorem zs_eq (n : Nat) : n + 1 + zs n = padLen n - 8 ∧ (n + 1 + zs n) % 64 = 56 ∧ padLen n % 64 = 0 ∧ n + 9 ≤ padLen n := by unfold zs padLen; omega
/-- The first i bytes of the number of bits. -/
def lenB (n : Nat) : Nat → List Nat
  | 0 => []
  | i + 1 => lenB n i ++ [8 * n / 256 ^ (7 - i) % 256]
theorem lenB_len (n : Nat) : ∀ i, (lenB n i).length = i
  | 0 => rfl
  | i + 1 => by simp [lenB, lenB_len n i]
theorem lenB_at (n : Nat) : ∀ (i j : Nat), j < i → (lenB n i).getD j 0 = 8 * n / 256 ^ (7 - j) % 256
  | 0, j, h => by omega
  | i + 1, j, h => by
    simp only [lenB]
    by_cases e : j = i
    · subst e
      rw [List.getD_eq_getElem?_getD, List.getElem?_append_right (by rw [lenB_len]; omega), lenB_len, Nat.sub_self]; rfl
    · rw [List.getD_eq_getElem?_getD, List.getElem?_append_left (by rw [lenB_len]; omega), ← List.getD_eq_getElem?_getD]
      exact lenB_at n i j (by omega)
def padL (f : Nat → Nat) (n : Nat) : List Nat := fl f n ++ [128] ++ List.replicate (zs n) 0 ++ lenB n 8
theorem padL_at (f : Nat → Nat) (n i : Nat) (h : i < padLen n) : (padL f n).getD i 0 = pad f n i := by
  have hz := zs_eq n
  unfold pad padL
  by_cases h1 : i < n
  · rw [if_pos h1, List.append_assoc, List.append_assoc, List.getD_eq_getElem?_getD, List.getElem?_append_left (by rw [fl_len]; exact h1), fl_at f h1]; rfl
  · rw [if_neg h1]
    by_cases h2 : i = n
    · rw [if_pos h2, List.append_assoc, List.append_assoc, List.getD_eq_getElem?_getD, List.getElem?_append_right (by rw [fl_len]; omega), fl_len, h2, Nat.sub_self]; rfl
    · rw [if_neg h2]
      by_cases h3 : i < padLen n - 8
      · rw [if_pos h3, List.getD_eq_getElem?_getD, List.getElem?_append_left (by simp only [List.length_append, fl_len, List.length_replicate, List.length_cons, List.length_nil]; omega), List.getElem?_append_right (by simp only [List.length_append, fl_len, List.length_cons, List.length_nil]; omega)]
        simp only [List.length_append, fl_len, List.length_cons, List.length_nil]
        rw [List.getElem?_replicate, if_pos (by omega)]; rfl
      · rw [if_neg h3, List.getD_eq_getElem?_getD, List.getElem?_append_right (by simp only [List.length_append, fl_len, List.length_replicate, List.length_cons, List.length_nil]; omega)]
        simp only [List.length_append, fl_len, List.length_replicate, List.length_cons, List.length_nil]
        rw [← List.getD_eq_getElem?_getD, lenB_at n 8 _ (by omega)]
        congr 2
        congr 1
        omega
end Go.Proofs.YtpokecijongkpaaDoor
namespace Go.Proofs.YtpokecijongkpaaDoor
set_option maxRecDepth 100000
open Go.RowKit
attribute [local go_sem ↓] Go.wp_at_zero Go.wp_at_succ

/-- What stands behind a message, but for the last bytes of its size. -/
def endP (n i : Nat) : List Nat := 128 :: (List.replicate (zs n) 0 ++ lenB n i)
theorem endP_len (n i : Nat) : (endP n i).length = 1 + zs n + i := by simp [endP, lenB_len]; omega
theorem own_room (w : World) {base : Nat} (hb : base ≤ w.heap.size) (n c : Nat) (hn : n ≤ c) (hc : c ≤ maxLen) :
    (w.alloc (.cells (madeCells #[.int .u8 0] (c * 1)) 5)).ownsRow base 5 1 (.slice (some ⟨w.heap.size, 0, none⟩) n c) n (cells8 (List.replicate n 0)) := by
  refine ⟨by simp [cells8], .inr ⟨w.heap.size, c, _, rfl, hb, heap_alloc_new w _, hn, hc, by rw [size_madeCells], ?_⟩⟩
  apply List.ext_getElem?
  intro i
  simp only [cells8, Nat.mul_one, List.getElem?_take, madeCells, List.map_replicate, List.getElem?_replicate]
  by_cases h : i < n
  · have h' : i < c := by omega
    simp [h, h', Nat.mod_one]
  · simp [h]
/-- A row that is made with room behind it. -/
theorem wpList_make_room (w : World) {ops : Array Oper} {rest : List Oper} {o : Oper} {a : Act} {Q : Exit → Act → World → Prop} (hgd : o.guard = none) (l c : Operand) (hop : o.op = Op.makeSlice 28 l c)
    {base : Nat} (kl kc : IntKind) (L C : Int) (n m : Nat) (hl : a.eval l = .int kl L) (hc : a.eval c = .int kc C) (hL : L = (n : Int)) (hC : C = (m : Int)) (hnm : n ≤ m) (hm : m ≤ 1000000) (hb : base ≤ w.heap.size)
    (hK : ∀ w', w'.ownsRow base 5 1 (.slice (some ⟨w.heap.size, 0, none⟩) n m) n (cells8 (List.replicate n 0)) → w.grownBy w' none → wpList Tryd.prog ops Q rest (a.put o.dst (.slice (some ⟨w.heap.size, 0, none⟩) n m)) w') :
    wpList Tryd.prog ops Q (o :: rest) a w := by
  refine wpList_plain hgd fun K hK' => ?_
  subst hL hC
  obtain ⟨i0, hi, hz0, hz1, hz2⟩ := info_parts info8
  have hr := run_make (P := Tryd.prog) w 28 5 i0 (.int .u8 0) Tryd.underlying28 hi hz0 kl kc n m (by omega) (by omega) (by rw [hz2]; omega) (by omega)
  simp only [Int.toNat_natCast, hz1] at hr
  unfold Oper.wp
  simp [execOp, hop, hl, hc, hr, Result.andThen]
  exact hK' _ _ (hK _ (by have h := own_room w hb n m hnm (by unfold maxLen; omega); rwa [Nat.mul_one] at h) (World.grownBy_alloc w _ none))
set_option maxRecDepth 100000 in
set_option maxHeartbeats 8000000 in
theorem ending_any (n : Nat) (hn : n ≤ 900000) (w : World) :
    Calls Tryd.prog 61 #[.int .u64 (n : Int)] w fun e w' => ∃ v, e = .returned v ∧ w'.ownsRow w.heap.size 5 1 v (1 + zs n + 8) (cells8 (endP n 8)) ∧ Below w.heap.size w w' := by
  have hz := zs_eq n
  have hz64 : zs n ≤ 64 := by unfold zs padLen; omega
  have hni : (n : Int) ≤ 900000 := by omega
  obtain ⟨z, hzz⟩ : ∃ z, z = zs n := ⟨_, rfl⟩
  have HZ : Hid (z = zs n) := hzz
  have hn1 : (128 - ((n : Int) % 64 + 9)) % 64 = (z : Int) := by rw [hzz]; unfold zs padLen; omega
  have hn2 : (128 - ((n : Int) % 64 + 1 + 8)) % 64 = (z : Int) := by rw [hzz]; unfold zs padLen; omega
  have hm : n % 64 < 64 := by omega
  obtain ⟨q, hq⟩ : ∃ q, q = n % 64 := ⟨_, rfl⟩
  have hqi : (n : Int) % 64 = (q : Int) := by omega
  rw [hqi] at hn1 hn2
  have hqb : (q : Int) < 64 := by omega
  have hzb : (z : Int) ≤ 64 := by omega
  obtain ⟨M, hM⟩ : ∃ M, M = 8 * n := ⟨_, rfl⟩
  have hM1 : (n : Int) * 8 = (M : Int) := by omega
  have hMb : (M : Int) ≤ 7200000 := by omega
  have HM := hide hM
  clear hz hz64 hm hq hM hzz
  go_enter Tryd.func61, Tryd.ntmps61
  go_upto_region 4 with (at_make; refine wpList_make_room _ rfl _ _ rfl (base := w.heap.size) _ _ _ _ (1 + z) (1 + z + 8) rfl rfl (by omega) (by omega) (by omega) (by omega) (Nat.le_refl _) ?_; intro w1 hO1 hg1)
  have hB1 : Below w.heap.size w w1 := (Below.refl _ w).grown hg1 (Nat.le_refl _) (fun k hk => by cases hk)
  have hc0 := hO1.cellAt 0 (by omega)
  have hz0 := hO1.frozenAt 0
  rw [cells8_at _ 0 (by simp; omega)] at hc0
  have hO2 := (hO1.stored 0 (.int .u8 128)).1
  have hB2 : Below w.heap.size w (w1.setCell ⟨w.heap.size, 0, none⟩ (.int .u8 128)) := K.set hB1 (Nat.le_refl _) _
  have e0 : (cells8 (List.replicate (1 + z) 0)).set 0 (.int .u8 128) = cells8 (endP n 0) := by
    rw [Nat.add_comm 1 z, List.replicate_succ]
    unfold endP
    rw [← HZ.out]
    simp only [lenB, List.append_nil]
    rfl
  rw [e0] at hO2
  have HO := hide hO2
  have HB := hide hB2
  clear hO1 hg1 hB1 hO2 hB2 e0
  have h1z : (0 : Int) < 1 + (z : Int) := by omega
  go_upto_region 5 with fail
  generalize w1.setCell ⟨w.heap.size, 0, none⟩ (.int .u8 128) = X at HO HB ⊢
  clear hc0 hz0
  go_wp2_with fail
  go_loopg [5, 25] 8 (fun g v s25 wr => ∃ (i : Nat) (u : Value), u = v ∧ g = 8 - i ∧ i ≤ 8 ∧ s25 = .int .i64 i ∧ wr.ownsRow w.heap.size 5 1 u (1 + z + i) (cells8 (endP n i)) ∧ Below w.heap.size w wr)
  case atStart => exact ⟨0, _, rfl, rfl, by omega, rfl, HO.out, HB.out⟩
  case round =>
    clear HO HB
    obtain ⟨i, u, hu, rfl, hi, rfl, hO, hB⟩ := hrel
    subst hu
    by_cases hlt : i < 8
    · obtain ⟨bt, hbt⟩ : ∃ bt, bt = 8 * n / 256 ^ (7 - i) % 256 := ⟨_, rfl⟩
      have hb256 : bt < 256 := by rw [hbt]; exact Nat.mod_lt _ (by omega)
      have HLB : Hid (endP n (i + 1) = endP n i ++ [bt]) := by show _ = _; rw [hbt]; unfold endP; simp [lenB]
      have HBT : Hid (bt = M / 256 ^ (7 - i) % 256) := by show _ = _; rw [hbt, HM.out]
      have HL := hide hlt
      have HO := hide hO
      have HB := hide hB
      have hbi : (bt : Int) < 256 := by omega
      clear hbt hi hO hB
      rcases (show i = 0 ∨ i = 1 ∨ i = 2 ∨ i = 3 ∨ i = 4 ∨ i = 5 ∨ i = 6 ∨ i = 7 by omega) with e | e | e | e | e | e | e | e
      · have hv : (M : Int) / 72057594037927936 % 256 = (bt : Int) := by rw [HBT.out, e]; omega
        have hv2 : IntKind.u8.wrap ((M : Int) / 72057594037927936) = (bt : Int) := by rw [IntKind.wrap_u8', hv]
        have hei : (i : Int) = 0 := by omega
        clear e hlt
        go_wp2_with (at_builtin; refine wpList_app rfl _ _ rfl rfl (HO.out.alloc _) rfl (one_made wr bt hb256) (by have := HL.out; omega) (by have := HB.out.size; simp; omega) ?_; intro v2 w2 hO2 hg2)
        have hB2 : Below w.heap.size w w2 := (K.alloc HB.out _).grown hg2 (K.alloc HB.out _).size (fun k hk => (HO.out.lt k hk).1)
        have hO3 : w2.ownsRow w.heap.size 5 1 v2 (1 + z + (i + 1)) (cells8 (endP n (i + 1))) := by
          rw [HLB.out]
          exact hO2
        clear hO2 hg2 HO HB
        go_wp2_with fail
        go_roundg (8 - (i + 1))
        case measure => have := HL.out; omega
        case rel => exact ⟨i + 1, _, rfl, rfl, by have := HL.out; omega, by go_num, hO3, hB2⟩
      · have hv : (M : Int) / 281474976710656 % 256 = (bt : Int) := by rw [HBT.out, e]; omega
        have hv2 : IntKind.u8.wrap ((M : Int) / 281474976710656) = (bt : Int) := by rw [IntKind.wrap_u8', hv]
        have hei : (i : Int) = 1 := by omega
        clear e hlt
        go_wp2_with (at_builtin; refine wpList_app rfl _ _ rfl rfl (HO.out.alloc _) rfl (one_made wr bt hb256) (by have := HL.out; omega) (by have := HB.out.size; simp; omega) ?_; intro v2 w2 hO2 hg2)
        have hB2 : Below w.heap.size w w2 := (K.alloc HB.out _).grown hg2 (K.alloc HB.out _).size (fun k hk => (HO.out.lt k hk).1)
        have hO3 : w2.ownsRow w.heap.size 5 1 v2 (1 + z + (i + 1)) (cells8 (endP n (i + 1))) := by
          rw [HLB.out]
          exact hO2
        clear hO2 hg2 HO HB
        go_wp2_with fail
        go_roundg (8 - (i + 1))
        case measure => have := HL.out; omega
        case rel => exact ⟨i + 1, _, rfl, rfl, by have := HL.out; omega, by go_num, hO3, hB2⟩
      · have hv : (M : Int) / 1099511627776 % 256 = (bt : Int) := by rw [HBT.out, e]; omega
        have hv2 : IntKind.u8.wrap ((M : Int) / 1099511627776) = (bt : Int) := by rw [IntKind.wrap_u8', hv]
        have hei : (i : Int) = 2 := by omega
        clear e hlt
        go_wp2_with (at_builtin; refine wpList_app rfl _ _ rfl rfl (HO.out.alloc _) rfl (one_made wr bt hb256) (by have := HL.out; omega) (by have := HB.out.size; simp; omega) ?_; intro v2 w2 hO2 hg2)
        have hB2 : Below w.heap.size w w2 := (K.alloc HB.out _).grown hg2 (K.alloc HB.out _).size (fun k hk => (HO.out.lt k hk).1)
        have hO3 : w2.ownsRow w.heap.size 5 1 v2 (1 + z + (i + 1)) (cells8 (endP n (i + 1))) := by
          rw [HLB.out]
          exact hO2
        clear hO2 hg2 HO HB
        go_wp2_with fail
        go_roundg (8 - (i + 1))
        case measure => have := HL.out; omega
        case rel => exact ⟨i + 1, _, rfl, rfl, by have := HL.out; omega, by go_num, hO3, hB2⟩
      · have hv : (M : Int) / 4294967296 % 256 = (bt : Int) := by rw [HBT.out, e]; omega
        have hv2 : IntKind.u8.wrap ((M : Int) / 4294967296) = (bt : Int) := by rw [IntKind.wrap_u8', hv]
        have hei : (i : Int) = 3 := by omega
        clear e hlt
        go_wp2_with (at_builtin; refine wpList_app rfl _ _ rfl rfl (HO.out.alloc _) rfl (one_made wr bt hb256) (by have := HL.out; omega) (by have := HB.out.size; simp; omega) ?_; intro v2 w2 hO2 hg2)
        have hB2 : Below w.heap.size w w2 := (K.alloc HB.out _).grown hg2 (K.alloc HB.out _).size (fun k hk => (HO.out.lt k hk).1)
        have hO3 : w2.ownsRow w.heap.size 5 1 v2 (1 + z + (i + 1)) (cells8 (endP n (i + 1))) := by
          rw [HLB.out]
          exact hO2
        clear hO2 hg2 HO HB
        go_wp2_with fail
        go_roundg (8 - (i + 1))
        case measure => have := HL.out; omega
        case rel => exact ⟨i + 1, _, rfl, rfl, by have := HL.out; omega, by go_num, hO3, hB2⟩
      · have hv : (M : Int) / 16777216 % 256 = (bt : Int) := by rw [HBT.out, e]; omega
        have hv2 : IntKind.u8.wrap ((M : Int) / 16777216) = (bt : Int) := by rw [IntKind.wrap_u8', hv]
        have hei : (i : Int) = 4 := by omega
        clear e hlt
        go_wp2_with (at_builtin; refine wpList_app rfl _ _ rfl rfl (HO.out.alloc _) rfl (one_made wr bt hb256) (by have := HL.out; omega) (by have := HB.out.size; simp; omega) ?_; intro v2 w2 hO2 hg2)
        have hB2 : Below w.heap.size w w2 := (K.alloc HB.out _).grown hg2 (K.alloc HB.out _).size (fun k hk => (HO.out.lt k hk).1)
        have hO3 : w2.ownsRow w.heap.size 5 1 v2 (1 + z + (i + 1)) (cells8 (endP n (i + 1))) := by
          rw [HLB.out]
          exact hO2
        clear hO2 hg2 HO HB
        go_wp2_with fail
        go_roundg (8 - (i + 1))
        case measure => have := HL.out; omega
        case rel => exact ⟨i + 1, _, rfl, rfl, by have := HL.out; omega, by go_num, hO3, hB2⟩
      · have hv : (M : Int) / 65536 % 256 = (bt : Int) := by rw [HBT.out, e]; omega
        have hv2 : IntKind.u8.wrap ((M : Int) / 65536) = (bt : Int) := by rw [IntKind.wrap_u8', hv]
        have hei : (i : Int) = 5 := by omega
        clear e hlt
        go_wp2_with (at_builtin; refine wpList_app rfl _ _ rfl rfl (HO.out.alloc _) rfl (one_made wr bt hb256) (by have := HL.out; omega) (by have := HB.out.size; simp; omega) ?_; intro v2 w2 hO2 hg2)
        have hB2 : Below w.heap.size w w2 := (K.alloc HB.out _).grown hg2 (K.alloc HB.out _).size (fun k hk => (HO.out.lt k hk).1)
        have hO3 : w2.ownsRow w.heap.size 5 1 v2 (1 + z + (i + 1)) (cells8 (endP n (i + 1))) := by
          rw [HLB.out]
          exact hO2
        clear hO2 hg2 HO HB
        go_wp2_with fail
        go_roundg (8 - (i + 1))
        case measure => have := HL.out; omega
        case rel => exact ⟨i + 1, _, rfl, rfl, by have := HL.out; omega, by go_num, hO3, hB2⟩
      · have hv : (M : Int) / 256 % 256 = (bt : Int) := by rw [HBT.out, e]; omega
        have hv2 : IntKind.u8.wrap ((M : Int) / 256) = (bt : Int) := by rw [IntKind.wrap_u8', hv]
        have hei : (i : Int) = 6 := by omega
        clear e hlt
        go_wp2_with (at_builtin; refine wpList_app rfl _ _ rfl rfl (HO.out.alloc _) rfl (one_made wr bt hb256) (by have := HL.out; omega) (by have := HB.out.size; simp; omega) ?_; intro v2 w2 hO2 hg2)
        have hB2 : Below w.heap.size w w2 := (K.alloc HB.out _).grown hg2 (K.alloc HB.out _).size (fun k hk => (HO.out.lt k hk).1)
        have hO3 : w2.ownsRow w.heap.size 5 1 v2 (1 + z + (i + 1)) (cells8 (endP n (i + 1))) := by
          rw [HLB.out]
          exact hO2
        clear hO2 hg2 HO HB
        go_wp2_with fail
        go_roundg (8 - (i + 1))
        case measure => have := HL.out; omega
        case rel => exact ⟨i + 1, _, rfl, rfl, by have := HL.out; omega, by go_num, hO3, hB2⟩
      · have hv : (M : Int) % 256 = (bt : Int) := by rw [HBT.out, e]; omega
        have hv2 : IntKind.u8.wrap ((M : Int)) = (bt : Int) := by rw [IntKind.wrap_u8', hv]
        have hei : (i : Int) = 7 := by omega
        clear e hlt
        go_wp2_with (at_builtin; refine wpList_app rfl _ _ rfl rfl (HO.out.alloc _) rfl (one_made wr bt hb256) (by have := HL.out; omega) (by have := HB.out.size; simp; omega) ?_; intro v2 w2 hO2 hg2)
        have hB2 : Below w.heap.size w w2 := (K.alloc HB.out _).grown hg2 (K.alloc HB.out _).size (fun k hk => (HO.out.lt k hk).1)
        have hO3 : w2.ownsRow w.heap.size 5 1 v2 (1 + z + (i + 1)) (cells8 (endP n (i + 1))) := by
          rw [HLB.out]
          exact hO2
        clear hO2 hg2 HO HB
        go_wp2_with fail
        go_roundg (8 - (i + 1))
        case measure => have := HL.out; omega
        case rel => exact ⟨i + 1, _, rfl, rfl, by have := HL.out; omega, by go_num, hO3, hB2⟩
    · obtain rfl : i = 8 := by omega
      have hO3 : wr.ownsRow w.heap.size 5 1 u (1 + zs n + 8) (cells8 (endP n 8)) := by rw [← HZ.out]; exact hO
      clear hO hlt hi
      go_wp2_with fail
      go_ret
      exact ⟨_, rfl, hO3, hB⟩
end Go.Proofs.YtpokecijongkpaaDoor
namespace Go.Proofs.YtpokecijongkpaaDoor
set_option maxRecDepth 100000
open Go.RowKit

/-- Two texts, one behind the other. -/
def cat (f : Nat → Nat) (n : Nat) (g : Nat → Nat) (i : Nat) : Nat := if i < n then f i else g (i - n)
theorem cat_lt {f g : Nat → Nat} (hf : ∀ i, f i < 256) (hg : ∀ i, g i < 256) (n i : Nat) : cat f n g i < 256 := by unfold cat; split; exact hf _; exact hg _
theorem cat_zero (z g : Nat → Nat) : cat z 0 g = g := by funext i; unfold cat; rw [if_neg (by omega), Nat.sub_zero]
theorem cat_assoc (f g h : Nat → Nat) (n m : Nat) : cat (cat f n g) (n + m) h = cat f n (cat g m h) := by
  funext i
  unfold cat
  by_cases h1 : i < n
  · rw [if_pos (by omega), if_pos h1, if_pos h1]
  · rw [if_neg h1, if_neg h1]
    by_cases h2 : i < n + m
    · rw [if_pos h2, if_pos (by omega)]
    · rw [if_neg h2, if_neg (by omega)]
      congr 1
      omega
theorem own_ba {w : World} {base n cap : Nat} {a : Option Addr} {f : Nat → Nat} (h : w.ownsRow base 5 1 (.slice a n cap) n (cells8 (fl f n))) (hf : ∀ i, f i < 256) : BA w a n f := by
  refine ⟨hf, ?_⟩
  by_cases h0 : n = 0
  · exact Or.inl h0
  · obtain ⟨g, cap', hv, hg, hr⟩ := own_rd (f := fun i => ((f i : Nat) : Int)) h (fun j hj => by rw [cells8_at _ j (by rw [fl_len]; exact hj), List.getD_eq_getElem?_getD, fl_at f hj]; rfl) (by omega)
    cases hv
    exact Or.inr ⟨g, 0, rfl, hr.rd⟩
theorem fl_cat (f g : Nat → Nat) (n m : Nat) : fl f n ++ fl g m = fl (cat f n g) (n + m) := by
  apply List.ext_getElem?
  intro i
  by_cases h1 : i < n
  · rw [List.getElem?_append_left (by rw [fl_len]; exact h1), fl_at _ h1, fl_at _ (by omega)]
    unfold cat
    rw [if_pos h1]
  · rw [List.getElem?_append_right (by rw [fl_len]; omega), fl_len]
    by_cases h2 : i < n + m
    · rw [fl_at _ (by omega), fl_at _ h2]
      unfold cat
      rw [if_neg h1]
    · rw [List.getElem?_eq_none (by rw [fl_len]; omega), List.getElem?_eq_none (by rw [fl_len]; omega)]
end Go.Proofs.YtpokecijongkpaaDoor
namespace Go.Proofs.YtpokecijongkpaaDoor
set_option maxRecDepth 100000
open Go.RowKit

theorem word_congr {p q : Nat → Nat} (t : Nat) : ∀ (i : Nat), i ≤ 4 → (∀ j, j < i → p (4 * t + j) = q (4 * t + j)) → wordP p t i = wordP q t i
  | 0, _, _ => rfl
  | i + 1, hi, h => by simp only [wordP]; rw [word_congr t i (by omega) (fun j hj => h j (by omega)), h i (by omega)]
theorem sched_congr {m l : Nat → Wd} (h : ∀ t, t < 16 → m t = l t) : ∀ (t : Nat), t < 64 → sched m t = sched l t := fun t => by
  induction t using Nat.strongRecOn with
  | ind t ih =>
    intro ht
    by_cases e : t < 16
    · rw [sched_low _ e, sched_low _ e, h t e]
    · rw [sched_up _ e, sched_up _ e, ih (t - 2) (by omega) (by omega), ih (t - 7) (by omega) (by omega), ih (t - 15) (by omega) (by omega), ih (t - 16) (by omega) (by omega)]
theorem rnds_congr {k w v : Nat → Wd} (s : St) : ∀ (t : Nat), (∀ i, i < t → w i = v i) → rnds k w s t = rnds k v s t
  | 0, _ => rfl
  | t + 1, h => by simp only [rnds]; rw [rnds_congr s t (fun i hi => h i (by omega)), h t (by omega)]
theorem takeB_congr {p q : Nat → Nat} (s : St) (h : ∀ i, i < 64 → p i = q i) : takeB s p = takeB s q := by
  unfold takeB
  rw [rnds_congr s 64 (fun i hi => sched_congr (fun t ht => word_congr t 4 (by omega) (fun j hj => h _ (by omega))) i hi)]
theorem hs_congr {p q : Nat → Nat} : ∀ (k : Nat), (∀ i, i < 64 * k → p i = q i) → hs p k = hs q k
  | 0, _ => rfl
  | k + 1, h => by
    simp only [hs]
    rw [hs_congr k (fun i hi => h i (by omega)), takeB_congr (q := fun i => q (64 * k + i)) _ (fun i hi => h _ (by omega))]
theorem cat_cat (f g : Nat → Nat) (n k : Nat) : cat (cat f n g) (n + k) (fun i => g (k + i)) = cat f n g := by
  funext i
  unfold cat
  by_cases h1 : i < n + k
  · rw [if_pos h1]
  · rw [if_neg h1, if_neg (by omega)]
    show g (k + (i - (n + k))) = _
    congr 1
    omega
theorem pad_congr {f g : Nat → Nat} {n : Nat} (h : ∀ i, i < n → f i = g i) (i : Nat) : pad f n i = pad g n i := by
  unfold pad
  by_cases h1 : i < n
  · rw [if_pos h1, if_pos h1, h i h1]
  · rw [if_neg h1, if_neg h1]
theorem hashS_congr {f g : Nat → Nat} {n : Nat} (h : ∀ i, i < n → f i = g i) : hashS f n = hashS g n := by
  unfold hashS
  exact hs_congr _ (fun i _ => pad_congr h i)
/-- A hash, as a value. -/
def hA (f : Nat → Nat) (n : Nat) : Array Value := (ab (hByte (hashS f n)) 32).toArray
end Go.Proofs.YtpokecijongkpaaDoor
namespace Go.Proofs.YtpokecijongkpaaDoor
set_option maxRecDepth 100000
open Go.RowKit

theorem grown_of {w w' : World} (h : Below w.heap.size w w') (r : Option Nat) : w.grownBy w' r := ⟨h.os, h.tape, h.output, h.size, fun k hk _ => h.block k hk⟩
theorem grown_trans {w w1 w2 : World} {r : Option Nat} (h : w.grownBy w1 r) (k : w1.grownBy w2 r) : w.grownBy w2 r :=
  ⟨k.os.trans h.os, k.tape.trans h.tape, k.output.trans h.output, Nat.le_trans h.size k.size, fun i hi hn => (k.block i (Nat.lt_of_lt_of_le hi h.size) hn).trans (h.block i hi hn)⟩
theorem grown_set (w : World) (b o : Nat) (u : Value) : w.grownBy (w.setCell ⟨b, o, none⟩ u) (some b) :=
  ⟨rfl, rfl, rfl, by simp [World.setCell], fun k _ hn => Below.heap_setCell _ _ _ _ (fun e => hn (by rw [e]))⟩
theorem grown_sets (b : Nat) : ∀ (vs : List Value) (o : Nat) (w : World), w.grownBy (w.setCells b o vs) (some b)
  | [], _, w => World.grownBy.refl _ _
  | v :: r, o, w => by rw [World.setCells]; exact grown_trans (grown_set w b o v) (grown_sets b r (o + 1) _)
end Go.Proofs.YtpokecijongkpaaDoor
namespace Go.Proofs.YtpokecijongkpaaDoor
set_option maxRecDepth 100000
open Go.RowKit

theorem lt_of_cell {w : World} {p : Addr} {v : Value} (h : w.cell? p = some v) : p.block < w.heap.size := World.block_lt_of_cell? w p h
theorem Tab.kept {W w1 : World} {r : Nat} (h : Tab W) (hg : W.grownBy w1 (some r)) (hr : 4 ≤ r) : Tab w1 :=
  ⟨fun i hi => hg.cell (h.f i hi) (by simp; omega), fun i hi => hg.cell (h.k i hi) (by simp; omega)⟩
theorem Rd.kept {W w1 : World} {b o n r : Nat} {f : Nat → Int} (h : Rd W b o n f) (hg : W.grownBy w1 (some r)) (hr : b ≠ r) : Rd w1 b o n f :=
  ⟨fun i hi => hg.cell (h.c i hi) (by simpa using hr)⟩
theorem BA.kept {W w1 : World} {a : Option Addr} {n r : Nat} {f : Nat → Nat} (h : BA W a n f) (hg : W.grownBy w1 (some r)) (hr : ∀ p, a = some p → p.block ≠ r) : BA w1 a n f :=
  ⟨h.lt, h.at_.elim Or.inl fun ⟨b, o, e, hd⟩ => Or.inr ⟨b, o, e, hd.kept hg (hr _ e)⟩⟩
/-- A digest's cells. -/
structure DigR (w : World) (b : Nat) (s : St) (r : Nat → Nat) (n : Nat) : Prop where
  lt : b < w.heap.size
  st : ∀ i, i < 8 → w.cell? ⟨b, i, none⟩ = some (.int .u32 (wn (s.w i)))
  rs : ∀ i, i < 64 → w.cell? ⟨b, 8 + i, none⟩ = some (.int .u8 ((r i : Nat) : Int))
  sz : w.cell? ⟨b, 72, none⟩ = some (.int .u64 (n : Int))
  z : ∀ i, i < 73 → w.frozen? ⟨b, i, none⟩ = false
theorem DigR.keep {W w1 : World} {b n : Nat} {s : St} {r : Nat → Nat} (h : DigR W b s r n) (hb : Below W.heap.size W w1) : DigR w1 b s r n :=
  ⟨Nat.lt_of_lt_of_le h.lt hb.size, fun i hi => later hb (h.st i hi), fun i hi => later hb (h.rs i hi), later hb h.sz, fun i hi => (hb.frozen (p := ⟨b, i, none⟩) h.lt).trans (h.z i hi)⟩
theorem DigR.kept {W w1 : World} {b n q : Nat} {s : St} {r : Nat → Nat} (h : DigR W b s r n) (hg : W.grownBy w1 (some q)) (hq : b ≠ q) : DigR w1 b s r n := by
  have hne : some b ≠ some q := by simpa using hq
  have hb := hg.block b h.lt hne
  exact ⟨Nat.lt_of_lt_of_le h.lt hg.size, fun i hi => by rw [World.cell?_of_block (w := W) hb]; exact h.st i hi, fun i hi => by rw [World.cell?_of_block (w := W) hb]; exact h.rs i hi, by rw [World.cell?_of_block (w := W) hb]; exact h.sz, fun i hi => by rw [World.frozen?_of_block (w := W) hb]; exact h.z i hi⟩
theorem DigR.there {w : World} {b n : Nat} {s : St} {r : Nat → Nat} (h : DigR w b s r n) (o m : Nat) (hm : o + m ≤ 73) : w.there b o m := fun j hj => by
  refine ⟨?_, h.z (o + j) (by omega)⟩
  rcases (show o + j < 8 ∨ (8 ≤ o + j ∧ o + j < 72) ∨ o + j = 72 by omega) with e | e | e
  · rw [h.st _ e]; rfl
  · have := h.rs (o + j - 8) (by omega)
    rw [show 8 + (o + j - 8) = o + j by omega] at this
    rw [this]; rfl
  · rw [e, h.sz]; rfl
theorem DigR.rangeSt {w : World} {b n : Nat} {s : St} {r : Nat → Nat} (h : DigR w b s r n) : w.rangeAt b 0 (aw s.w 8) := fun j v hv => by
  have hj : j < 8 := by
    rcases Nat.lt_or_ge j 8 with h' | h'
    · exact h'
    · rw [List.getElem?_eq_none (by rw [aw_len]; exact h')] at hv; cases hv
  rw [aw_at _ hj] at hv
  rw [Nat.zero_add, h.st j hj]; exact hv
theorem DigR.rangeRs {w : World} {b n : Nat} {s : St} {r : Nat → Nat} (h : DigR w b s r n) : w.rangeAt b 8 (ab r 64) := fun j v hv => by
  have hj : j < 64 := by
    rcases Nat.lt_or_ge j 64 with h' | h'
    · exact h'
    · rw [List.getElem?_eq_none (by rw [ab_len]; exact h')] at hv; cases hv
  rw [ab_at _ hj] at hv
  rw [h.rs j hj]; exact hv
/-- A digest, as its cells. -/
def dg (s : St) (r : Nat → Nat) (n : Nat) : List Value := aw s.w 8 ++ (ab r 64 ++ [.int .u64 (n : Int)])
theorem dg_len (s : St) (r : Nat → Nat) (n : Nat) : (dg s r n).length = 73 := by simp [dg, aw_len, ab_len]
theorem dg_one (s : St) (r : Nat → Nat) (n : Nat) : ∀ v ∈ dg s r n, v.oneCell' = true := by
  intro v hv
  simp only [dg, List.mem_append, List.mem_singleton] at hv
  rcases hv with h | h | rfl
  · exact aw_one _ _ v h
  · exact ab_one _ _ v h
  · rfl
theorem dg_st (s : St) (r : Nat → Nat) (n : Nat) {i : Nat} (h : i < 8) : (dg s r n)[i]? = some (.int .u32 (wn (s.w i))) := by
  rw [dg, List.getElem?_append_left (by rw [aw_len]; exact h), aw_at _ h]
theorem dg_rs (s : St) (r : Nat → Nat) (n : Nat) {i : Nat} (h : i < 64) : (dg s r n)[8 + i]? = some (.int .u8 ((r i : Nat) : Int)) := by
  rw [dg, List.getElem?_append_right (by rw [aw_len]; omega), aw_len, List.getElem?_append_left (by rw [ab_len]; omega), show 8 + i - 8 = i by omega, ab_at _ h]
theorem dg_sz (s : St) (r : Nat → Nat) (n : Nat) : (dg s r n)[72]? = some (.int .u64 (n : Int)) := by
  rw [dg, List.getElem?_append_right (by rw [aw_len]; omega), aw_len, List.getElem?_append_right (by rw [ab_len]; omega), ab_len]; rfl
theorem DigR.range {w : World} {b n : Nat} {s : St} {r : Nat → Nat} (h : DigR w b s r n) : w.rangeAt b 0 (dg s r n) := fun j v hv => by
  rw [Nat.zero_add]
  rcases (show j < 8 ∨ (8 ≤ j ∧ j < 72) ∨ j = 72 ∨ 73 ≤ j by omega) with e | e | e | e
  · rw [dg_st s r n e] at hv; rw [h.st j e]; exact hv
  · obtain ⟨k, rfl⟩ : ∃ k, j = 8 + k := ⟨j - 8, by omega⟩
    rw [dg_rs s r n (by omega)] at hv; rw [h.rs k (by omega)]; exact hv
  · subst e; rw [dg_sz] at hv; rw [h.sz]; exact hv
  · rw [List.getElem?_eq_none (by rw [dg_len]; exact e)] at hv; cases hv
theorem DigR.of_range {w : World} {b n : Nat} {s : St} {r : Nat → Nat} (hl : b < w.heap.size) (h : w.rangeAt b 0 (dg s r n)) (hz : ∀ i, i < 73 → w.frozen? ⟨b, i, none⟩ = false) : DigR w b s r n :=
  ⟨hl, fun i hi => by have := h i _ (dg_st s r n hi); rwa [Nat.zero_add] at this, fun i hi => by have := h _ _ (dg_rs s r n hi); rwa [Nat.zero_add] at this, by have := h _ _ (dg_sz s r n); rwa [Nat.zero_add] at this, hz⟩
theorem DigR.stored {w : World} {b n : Nat} {s : St} {r : Nat → Nat} (h : DigR w b s r n) (s' : St) (r' : Nat → Nat) (n' : Nat) : DigR (w.setCells b 0 (dg s' r' n')) b s' r' n' :=
  DigR.of_range (by rw [size_setCells]; exact h.lt) (World.rangeAt_setCells_same w b 0 _ (by rw [dg_len]; exact h.there 0 73 (by omega))) (fun i hi => by rw [World.frozen?_setCells]; exact h.z i hi)
theorem DigR.made (w : World) (t : TypeId) (s : St) (r : Nat → Nat) (n : Nat) (cs : Array Value) (h : cs = (dg s r n).toArray) : DigR (w.alloc (.cells cs t)) w.heap.size s r n := by
  subst h
  refine DigR.of_range (by simp) (fun j v hv => ?_) (fun i _ => frozen_of_row _ _ _ _ _ (heap_alloc_new w _))
  rw [cell_of_row _ _ _ _ _ _ (heap_alloc_new w _), Nat.zero_add]
  simpa using hv
theorem DigR.state {w : World} {b n : Nat} {s : St} {r : Nat → Nat} (h : DigR w b s r n) (s' : St) : DigR (w.setCells b 0 (aw s'.w 8)) b s' r n := by
  have hr := World.rangeAt_setCells_same w b 0 (aw s'.w 8) (by rw [aw_len]; exact h.there 0 8 (by omega))
  refine ⟨by rw [size_setCells]; exact h.lt, fun i hi => ?_, fun i hi => ?_, ?_, fun i hi => by rw [World.frozen?_setCells]; exact h.z i hi⟩
  · have := hr i _ (aw_at _ hi); rwa [Nat.zero_add] at this
  · rw [World.cell?_setCells_out b _ 0 w _ (fun _ _ => Or.inr (by rw [aw_len]; simp only; omega))]; exact h.rs i hi
  · rw [World.cell?_setCells_out b _ 0 w _ (fun _ _ => Or.inr (by rw [aw_len]; simp only; omega))]; exact h.sz
theorem DigR.size {w : World} {b n : Nat} {s : St} {r : Nat → Nat} (h : DigR w b s r n) (m : Nat) : DigR (w.setCell ⟨b, 72, none⟩ (.int .u64 (m : Int))) b s r m := by
  refine ⟨by simpa using h.lt, fun i hi => ?_, fun i hi => ?_, World.cell?_setCell_same _ _ _ h.sz, fun i hi => by rw [World.frozen?_setCell]; exact h.z i hi⟩
  · rw [World.cell?_setCell_other _ _ _ _ (by simp only [ne_eq, Addr.mk.injEq, not_and]; omega)]; exact h.st i hi
  · rw [World.cell?_setCell_other _ _ _ _ (by simp only [ne_eq, Addr.mk.injEq, not_and]; omega)]; exact h.rs i hi
/-- Some bytes of the unfinished block, laid anew. -/
def put (r : Nat → Nat) (q k : Nat) (g : Nat → Nat) (i : Nat) : Nat := if q ≤ i ∧ i < q + k then g (i - q) else r i
theorem DigR.rest {w : World} {b n : Nat} {s : St} {r : Nat → Nat} (h : DigR w b s r n) (q k : Nat) (hk : q + k ≤ 64) (g : Nat → Nat) : DigR (w.setCells b (8 + q) (ab g k)) b s (put r q k g) n := by
  have hr := World.rangeAt_setCells_same w b (8 + q) (ab g k) (by rw [ab_len]; exact h.there (8 + q) k (by omega))
  refine ⟨by rw [size_setCells]; exact h.lt, fun i hi => ?_, fun i hi => ?_, ?_, fun i hi => by rw [World.frozen?_setCells]; exact h.z i hi⟩
  · rw [World.cell?_setCells_out b _ (8 + q) w _ (fun _ _ => Or.inl (by simp only; omega))]; exact h.st i hi
  · unfold put
    by_cases e : q ≤ i ∧ i < q + k
    · rw [if_pos e]
      have := hr (i - q) _ (ab_at g (by omega))
      rwa [show 8 + q + (i - q) = 8 + i by omega] at this
    · rw [if_neg e, World.cell?_setCells_out b _ (8 + q) w _ (fun _ _ => by rw [ab_len]; simp only; omega)]; exact h.rs i hi
  · rw [World.cell?_setCells_out b _ (8 + q) w _ (fun _ _ => by rw [ab_len]; simp only; omega)]; exact h.sz

/-- What a digest holds: the state behind all whole blocks, and the bytes behind them. -/
structure DigS (w : World) (b : Nat) (f : Nat → Nat) (n : Nat) (s : St) (r : Nat → Nat) : Prop where
  d : DigR w b s r n
  st : s = hs f (n / 64)
  b : ∀ i, r i < 256
  rs : ∀ i, i < n % 64 → r i = f (n / 64 * 64 + i)
def Dig (w : World) (b : Nat) (f : Nat → Nat) (n : Nat) : Prop := ∃ s r, DigR w b s r n ∧ (n = 0 ∨ s = hs f (n / 64)) ∧ (∀ i, r i < 256) ∧ (∀ i, i < n % 64 → r i = f (n / 64 * 64 + i))
theorem Dig.keep {W w1 : World} {b n : Nat} {f : Nat → Nat} (h : Dig W b f n) (hb : Below W.heap.size W w1) : Dig w1 b f n := by
  obtain ⟨s, r, h1, h2⟩ := h
  exact ⟨s, r, h1.keep hb, h2⟩
theorem Dig.kept {W w1 : World} {b n q : Nat} {f : Nat → Nat} (h : Dig W b f n) (hg : W.grownBy w1 (some q)) (hq : b ≠ q) : Dig w1 b f n := by
  obtain ⟨s, r, h1, h2⟩ := h
  exact ⟨s, r, h1.kept hg hq, h2⟩
theorem Dig.congr {w : World} {b n : Nat} {f g : Nat → Nat} (h : Dig w b f n) (e : ∀ i, i < n → f i = g i) : Dig w b g n := by
  obtain ⟨s, r, h1, h2, h3, h4⟩ := h
  exact ⟨s, r, h1, h2.imp id (fun h => by rw [h]; exact hs_congr _ (fun i hi => e i (by omega))), h3, fun i hi => by rw [h4 i hi, e _ (by omega)]⟩
/-- Bytes that do not fill the block. -/
theorem put_part {f g r : Nat → Nat} {n m : Nat} (h : n % 64 + m < 64) (hr : ∀ i, i < n % 64 → r i = f (n / 64 * 64 + i)) :
    (n + m) / 64 = n / 64 ∧ hs (cat f n g) ((n + m) / 64) = hs f (n / 64) ∧ ∀ i, i < (n + m) % 64 → put r (n % 64) m g i = cat f n g ((n + m) / 64 * 64 + i) := by
  have e : (n + m) / 64 = n / 64 := by omega
  refine ⟨e, ?_, fun i hi => ?_⟩
  · rw [e]; exact hs_congr _ (fun i hi => by unfold cat; rw [if_pos (by omega)])
  · rw [e]
    unfold put cat
    by_cases h1 : n % 64 ≤ i
    · rw [if_pos (by omega), if_neg (by omega)]
      congr 1
      omega
    · rw [if_neg (by omega), if_pos (by omega)]
      exact hr i (by omega)
/-- Bytes that fill it. -/
theorem put_full {f g r : Nat → Nat} {n m : Nat} (h : n % 64 + m = 64) (hr : ∀ i, i < n % 64 → r i = f (n / 64 * 64 + i)) :
    (n + m) % 64 = 0 ∧ takeB (hs f (n / 64)) (put r (n % 64) m g) = hs (cat f n g) ((n + m) / 64) := by
  have e : (n + m) / 64 = n / 64 + 1 := by omega
  refine ⟨by omega, ?_⟩
  rw [e]
  simp only [hs]
  rw [hs_congr (p := cat f n g) (q := f) (n / 64) (fun i hi => by unfold cat; rw [if_pos (by omega)])]
  refine takeB_congr _ (fun i hi => ?_)
  unfold put cat
  by_cases h1 : n % 64 ≤ i
  · rw [if_pos (by omega), if_neg (by omega)]
    congr 1
    omega
  · rw [if_neg (by omega), if_pos (by omega), hr i (by omega)]
    congr 1
    omega
theorem put_lt {r g : Nat → Nat} (hr : ∀ i, r i < 256) (hg : ∀ i, g i < 256) (q k i : Nat) : put r q k g i < 256 := by
  unfold put
  split
  · exact hg _
  · exact hr _
theorem digs_part {W Y : World} {b n j L q N : Nat} {f g r : Nat → Nat} {s : St} (hD : DigS W b (cat f n g) N s r) (hN : N = n + j) (hq : q = N % 64) (hfit : q + L < 64) (hg : ∀ i, g i < 256) (hY : DigR Y b s (put r q L (fun i => g (j + i))) (N + L)) :
    DigS Y b (cat f n g) (n + (j + L)) s (put r q L (fun i => g (j + i))) := by
  subst hN hq
  obtain ⟨_, p2, p3⟩ := put_part (f := cat f n g) (g := fun i => g (j + i)) (n := n + j) (m := L) hfit hD.rs
  rw [cat_cat] at p2 p3
  rw [show n + (j + L) = n + j + L by omega]
  exact ⟨hY, by rw [p2]; exact hD.st, put_lt hD.b (fun i => hg _) _ _, p3⟩
theorem digs_full {W Y : World} {b n j L q N : Nat} {f g r : Nat → Nat} {s s2 : St} (hD : DigS W b (cat f n g) N s r) (hN : N = n + j) (hq : q = N % 64) (hfit : q + L = 64) (hg : ∀ i, g i < 256) (h2 : s2 = takeB s (put r q L (fun i => g (j + i)))) (hY : DigR Y b s2 (put r q L (fun i => g (j + i))) (N + L)) :
    DigS Y b (cat f n g) (n + (j + L)) s2 (put r q L (fun i => g (j + i))) := by
  subst hN hq
  obtain ⟨p1, p2⟩ := put_full (f := cat f n g) (g := fun i => g (j + i)) (n := n + j) (m := L) hfit hD.rs
  rw [cat_cat] at p2
  rw [show n + (j + L) = n + j + L by omega]
  exact ⟨hY, by rw [h2, ← p2, hD.st], put_lt hD.b (fun i => hg _) _ _, fun i hi => by omega⟩
end Go.Proofs.YtpokecijongkpaaDoor
