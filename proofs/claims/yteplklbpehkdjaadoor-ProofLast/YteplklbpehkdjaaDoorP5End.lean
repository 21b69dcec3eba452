/- What the program's own ending answers. -/
import Derived.Test.YteplklbpehkdjaaDoorS5PadP
import Derived.Deep.LoopGhost
import Derived.Deep.DeepCutAuto
namespace Go.Proofs.YteplklbpehkdjaaDoor
set_option maxRecDepth 100000
open Go.RowKit
attribute [local go_sem ↓] Go.wp_at_zero Go.wp_at_succ

/-- What stands behind a message, but for the last bytes of its size. -/
def endP (n i : Nat) : List Nat := 128 :: (List.replicate (zs n) 0 ++ lenB n i)
theorem endP_len (n i : Nat) : (endP n i).length = 1 + zs n + i := by simp [endP, lenB_len]; omega
theorem own_room (w : World) {base : Nat} (hb : base ≤ w.heap.size) (n c : Nat) (hn : n ≤ c) (hc : c ≤ maxLen) :
    (w.alloc (.cells (madeCells #[.int .u8 0] (c * 1)) 5)).ownsRow base 5 1 (.slice (some ⟨w.heap.size, 0, none⟩) n c) n (cells8 (List.replicate n 0)) := by
  refine ⟨by simp [cells8], .inr ⟨w.heap.size, c, _, rfl, hb, heap_alloc_new w _, hn, hc, by rw [size_madeCells], ?_⟩⟩
  apply List.ext_getElem?
  intro i
  simp only [cells8, Nat.mul_one, List.getElem?_take, madeCells, List.map_replicate, List.getElem?_replicate]
  by_cases h : i < n
  · have h' : i < c := by omega
    simp [h, h', Nat.mod_one]
  · simp [h]
/-- A row that is made with room behind it. -/
theorem wpList_make_room (w : World) {ops : Array Oper} {rest : List Oper} {o : Oper} {a : Act} {Q : Exit → Act → World → Prop} (hgd : o.guard = none) (l c : Operand) (hop : o.op = Op.makeSlice 41 l c)
    {base : Nat} (kl kc : IntKind) (L C : Int) (n m : Nat) (hl : a.eval l = .int kl L) (hc : a.eval c = .int kc C) (hL : L = (n : Int)) (hC : C = (m : Int)) (hnm : n ≤ m) (hm : m ≤ 1000000) (hb : base ≤ w.heap.size)
    (hK : ∀ w', w'.ownsRow base 5 1 (.slice (some ⟨w.heap.size, 0, none⟩) n m) n (cells8 (List.replicate n 0)) → w.grownBy w' none → wpList Tryd.prog ops Q rest (a.put o.dst (.slice (some ⟨w.heap.size, 0, none⟩) n m)) w') :
    wpList Tryd.prog ops Q (o :: rest) a w := by
  refine wpList_plain hgd fun K hK' => ?_
  subst hL hC
  obtain ⟨i0, hi, hz0, hz1, hz2⟩ := info_parts info8
  have hr := run_make (P := Tryd.prog) w 41 5 i0 (.int .u8 0) Tryd.underlying41 hi hz0 kl kc n m (by omega) (by omega) (by rw [hz2]; omega) (by omega)
  simp only [Int.toNat_natCast, hz1] at hr
  unfold Oper.wp
  simp [execOp, hop, hl, hc, hr, Result.andThen]
  exact hK' _ _ (hK _ (by have h := own_room w hb n m hnm (by unfold maxLen; omega); rwa [Nat.mul_one] at h) (World.grownBy_alloc w _ none))
set_option maxRecDepth 100000 in
set_option maxHeartbeats 8000000 in
theorem ending_any (n : Nat) (hn : n ≤ 900000) (w : World) :
    Calls Tryd.prog 38 #[.int .u64 (n : Int)] w fun e w' => ∃ v, e = .returned v ∧ w'.ownsRow w.heap.size 5 1 v (1 + zs n + 8) (cells8 (endP n 8)) ∧ Below w.heap.size w w' := by
  have hz := zs_eq n
  have hz64 : zs n ≤ 64 := by unfold zs padLen; omega
  have hni : (n : Int) ≤ 900000 := by omega
  obtain ⟨z, hzz⟩ : ∃ z, z = zs n := ⟨_, rfl⟩
  have HZ : Hid (z = zs n) := hzz
  have hn1 : (128 - ((n : Int) % 64 + 9)) % 64 = (z : Int) := by rw [hzz]; unfold zs padLen; omega
  have hn2 : (128 - ((n : Int) % 64 + 1 + 8)) % 64 = (z : Int) := by rw [hzz]; unfold zs padLen; omega
  have hm : n % 64 < 64 := by omega
  obtain ⟨q, hq⟩ : ∃ q, q = n % 64 := ⟨_, rfl⟩
  have hqi : (n : Int) % 64 = (q : Int) := by omega
  rw [hqi] at hn1 hn2
  have hqb : (q : Int) < 64 := by omega
  have hzb : (z : Int) ≤ 64 := by omega
  obtain ⟨M, hM⟩ : ∃ M, M = 8 * n := ⟨_, rfl⟩
  have hM1 : (n : Int) * 8 = (M : Int) := by omega
  have hMb : (M : Int) ≤ 7200000 := by omega
  have HM := hide hM
  clear hz hz64 hm hq hM hzz
  go_enter Tryd.func38, Tryd.ntmps38
  go_upto_region 4 with (at_make; refine wpList_make_room _ rfl _ _ rfl (base := w.heap.size) _ _ _ _ (1 + z) (1 + z + 8) rfl rfl (by omega) (by omega) (by omega) (by omega) (Nat.le_refl _) ?_; intro w1 hO1 hg1)
  have hB1 : Below w.heap.size w w1 := (Below.refl _ w).grown hg1 (Nat.le_refl _) (fun k hk => by cases hk)
  have hc0 := hO1.cellAt 0 (by omega)
  have hz0 := hO1.frozenAt 0
  rw [cells8_at _ 0 (by simp; omega)] at hc0
  have hO2 := (hO1.stored 0 (.int .u8 128)).1
  have hB2 : Below w.heap.size w (w1.setCell ⟨w.heap.size, 0, none⟩ (.int .u8 128)) := K.set hB1 (Nat.le_refl _) _
  have e0 : (cells8 (List.replicate (1 + z) 0)).set 0 (.int .u8 128) = cells8 (endP n 0) := by
    rw [Nat.add_comm 1 z, List.replicate_succ]
    unfold endP
    rw [← HZ.out]
    simp only [lenB, List.append_nil]
    rfl
  rw [e0] at hO2
  have HO := hide hO2
  have HB := hide hB2
  clear hO1 hg1 hB1 hO2 hB2 e0
  have h1z : (0 : Int) < 1 + (z : Int) := by omega
  go_upto_region 5 with fail
  generalize w1.setCell ⟨w.heap.size, 0, none⟩ (.int .u8 128) = X at HO HB ⊢
  clear hc0 hz0
  go_wp2_with fail
  go_loopg [5, 25] 8 (fun g v s25 wr => ∃ (i : Nat) (u : Value), u = v ∧ g = 8 - i ∧ i ≤ 8 ∧ s25 = .int .i64 i ∧ wr.ownsRow w.heap.size 5 1 u (1 + z + i) (cells8 (endP n i)) ∧ Below w.heap.size w wr)
  case atStart => exact ⟨0, _, rfl, rfl, by omega, rfl, HO.out, HB.out⟩
  case round =>
    clear HO HB
    obtain ⟨i, u, hu, rfl, hi, rfl, hO, hB⟩ := hrel
    subst hu
    by_cases hlt : i < 8
    · obtain ⟨bt, hbt⟩ : ∃ bt, bt = 8 * n / 256 ^ (7 - i) % 256 := ⟨_, rfl⟩
      have hb256 : bt < 256 := by rw [hbt]; exact Nat.mod_lt _ (by omega)
      have HLB : Hid (endP n (i + 1) = endP n i ++ [bt]) := by show _ = _; rw [hbt]; unfold endP; simp [lenB]
      have HBT : Hid (bt = M / 256 ^ (7 - i) % 256) := by show _ = _; rw [hbt, HM.out]
      have HL := hide hlt
      have HO := hide hO
      have HB := hide hB
      have hbi : (bt : Int) < 256 := by omega
      clear hbt hi hO hB
      rcases (show i = 0 ∨ i = 1 ∨ i = 2 ∨ i = 3 ∨ i = 4 ∨ i = 5 ∨ i = 6 ∨ i = 7 by omega) with e | e | e | e | e | e | e | e
      · have hv : (M : Int) / 72057594037927936 % 256 = (bt : Int) := by rw [HBT.out, e]; omega
        have hv2 : IntKind.u8.wrap ((M : Int) / 72057594037927936) = (bt : Int) := by rw [IntKind.wrap_u8', hv]
        have hei : (i : Int) = 0 := by omega
        clear e hlt
        go_wp2_with (at_builtin; refine wpList_app rfl _ _ rfl rfl (HO.out.alloc _) rfl (one_made wr bt hb256) (by have := HL.out; omega) (by have := HB.out.size; simp; omega) ?_; intro v2 w2 hO2 hg2)
        have hB2 : Below w.heap.size w w2 := (K.alloc HB.out _).grown hg2 (K.alloc HB.out _).size (fun k hk => (HO.out.lt k hk).1)
        have hO3 : w2.ownsRow w.heap.size 5 1 v2 (1 + z + (i + 1)) (cells8 (endP n (i + 1))) := by
          rw [HLB.out]
          exact hO2
        clear hO2 hg2 HO HB
        go_wp2_with fail
        go_roundg (8 - (i + 1))
        case measure => have := HL.out; omega
        case rel => exact ⟨i + 1, _, rfl, rfl, by have := HL.out; omega, by go_num, hO3, hB2⟩
      · have hv : (M : Int) / 281474976710656 % 256 = (bt : Int) := by rw [HBT.out, e]; omega
        have hv2 : IntKind.u8.wrap ((M : Int) / 281474976710656) = (bt : Int) := by rw [IntKind.wrap_u8', hv]
        have hei : (i : Int) = 1 := by omega
        clear e hlt
        go_wp2_with (at_builtin; refine wpList_app rfl _ _ rfl rfl (HO.out.alloc _) rfl (one_made wr bt hb256) (by have := HL.out; omega) (by have := HB.out.size; simp; omega) ?_; intro v2 w2 hO2 hg2)
        have hB2 : Below w.heap.size w w2 := (K.alloc HB.out _).grown hg2 (K.alloc HB.out _).size (fun k hk => (HO.out.lt k hk).1)
        have hO3 : w2.ownsRow w.heap.size 5 1 v2 (1 + z + (i + 1)) (cells8 (endP n (i + 1))) := by
          rw [HLB.out]
          exact hO2
        clear hO2 hg2 HO HB
        go_wp2_with fail
        go_roundg (8 - (i + 1))
        case measure => have := HL.out; omega
        case rel => exact ⟨i + 1, _, rfl, rfl, by have := HL.out; omega, by go_num, hO3, hB2⟩
      · have hv : (M : Int) / 1099511627776 % 256 = (bt : Int) := by rw [HBT.out, e]; omega
        have hv2 : IntKind.u8.wrap ((M : Int) / 1099511627776) = (bt : Int) := by rw [IntKind.wrap_u8', hv]
        have hei : (i : Int) = 2 := by omega
        clear e hlt
        go_wp2_with (at_builtin; refine wpList_app rfl _ _ rfl rfl (HO.out.alloc _) rfl (one_made wr bt hb256) (by have := HL.out; omega) (by have := HB.out.size; simp; omega) ?_; intro v2 w2 hO2 hg2)
        have hB2 : Below w.heap.size w w2 := (K.alloc HB.out _).grown hg2 (K.alloc HB.out _).size (fun k hk => (HO.out.lt k hk).1)
        have hO3 : w2.ownsRow w.heap.size 5 1 v2 (1 + z + (i + 1)) (cells8 (endP n (i + 1))) := by
          rw [HLB.out]
          exact hO2
        clear hO2 hg2 HO HB
        go_wp2_with fail
        go_roundg (8 - (i + 1))
        case measure => have := HL.out; omega
        case rel => exact ⟨i + 1, _, rfl, rfl, by have := HL.out; omega, by go_num, hO3, hB2⟩
      · have hv : (M : Int) / 4294967296 % 256 = (bt : Int) := by rw [HBT.out, e]; omega
        have hv2 : IntKind.u8.wrap ((M : Int) / 4294967296) = (bt : Int) := by rw [IntKind.wrap_u8', hv]
        have hei : (i : Int) = 3 := by omega
        clear e hlt
        go_wp2_with (at_builtin; refine wpList_app rfl _ _ rfl rfl (HO.out.alloc _) rfl (one_made wr bt hb256) (by have := HL.out; omega) (by have := HB.out.size; simp; omega) ?_; intro v2 w2 hO2 hg2)
        have hB2 : Below w.heap.size w w2 := (K.alloc HB.out _).grown hg2 (K.alloc HB.out _).size (fun k hk => (HO.out.lt k hk).1)
        have hO3 : w2.ownsRow w.heap.size 5 1 v2 (1 + z + (i + 1)) (cells8 (endP n (i + 1))) := by
          rw [HLB.out]
          exact hO2
        clear hO2 hg2 HO HB
        go_wp2_with fail
        go_roundg (8 - (i + 1))
        case measure => have := HL.out; omega
        case rel => exact ⟨i + 1, _, rfl, rfl, by have := HL.out; omega, by go_num, hO3, hB2⟩
      · have hv : (M : Int) / 16777216 % 256 = (bt : Int) := by rw [HBT.out, e]; omega
        have hv2 : IntKind.u8.wrap ((M : Int) / 16777216) = (bt : Int) := by rw [IntKind.wrap_u8', hv]
        have hei : (i : Int) = 4 := by omega
        clear e hlt
        go_wp2_with (at_builtin; refine wpList_app rfl _ _ rfl rfl (HO.out.alloc _) rfl (one_made wr bt hb256) (by have := HL.out; omega) (by have := HB.out.size; simp; omega) ?_; intro v2 w2 hO2 hg2)
        have hB2 : Below w.heap.size w w2 := (K.alloc HB.out _).grown hg2 (K.alloc HB.out _).size (fun k hk => (HO.out.lt k hk).1)
        have hO3 : w2.ownsRow w.heap.size 5 1 v2 (1 + z + (i + 1)) (cells8 (endP n (i + 1))) := by
          rw [HLB.out]
          exact hO2
        clear hO2 hg2 HO HB
        go_wp2_with fail
        go_roundg (8 - (i + 1))
        case measure => have := HL.out; omega
        case rel => exact ⟨i + 1, _, rfl, rfl, by have := HL.out; omega, by go_num, hO3, hB2⟩
      · have hv : (M : Int) / 65536 % 256 = (bt : Int) := by rw [HBT.out, e]; omega
        have hv2 : IntKind.u8.wrap ((M : Int) / 65536) = (bt : Int) := by rw [IntKind.wrap_u8', hv]
        have hei : (i : Int) = 5 := by omega
        clear e hlt
        go_wp2_with (at_builtin; refine wpList_app rfl _ _ rfl rfl (HO.out.alloc _) rfl (one_made wr bt hb256) (by have := HL.out; omega) (by have := HB.out.size; simp; omega) ?_; intro v2 w2 hO2 hg2)
        have hB2 : Below w.heap.size w w2 := (K.alloc HB.out _).grown hg2 (K.alloc HB.out _).size (fun k hk => (HO.out.lt k hk).1)
        have hO3 : w2.ownsRow w.heap.size 5 1 v2 (1 + z + (i + 1)) (cells8 (endP n (i + 1))) := by
          rw [HLB.out]
          exact hO2
        clear hO2 hg2 HO HB
        go_wp2_with fail
        go_roundg (8 - (i + 1))
        case measure => have := HL.out; omega
        case rel => exact ⟨i + 1, _, rfl, rfl, by have := HL.out; omega, by go_num, hO3, hB2⟩
      · have hv : (M : Int) / 256 % 256 = (bt : Int) := by rw [HBT.out, e]; omega
        have hv2 : IntKind.u8.wrap ((M : Int) / 256) = (bt : Int) := by rw [IntKind.wrap_u8', hv]
        have hei : (i : Int) = 6 := by omega
        clear e hlt
        go_wp2_with (at_builtin; refine wpList_app rfl _ _ rfl rfl (HO.out.alloc _) rfl (one_made wr bt hb256) (by have := HL.out; omega) (by have := HB.out.size; simp; omega) ?_; intro v2 w2 hO2 hg2)
        have hB2 : Below w.heap.size w w2 := (K.alloc HB.out _).grown hg2 (K.alloc HB.out _).size (fun k hk => (HO.out.lt k hk).1)
        have hO3 : w2.ownsRow w.heap.size 5 1 v2 (1 + z + (i + 1)) (cells8 (endP n (i + 1))) := by
          rw [HLB.out]
          exact hO2
        clear hO2 hg2 HO HB
        go_wp2_with fail
        go_roundg (8 - (i + 1))
        case measure => have := HL.out; omega
        case rel => exact ⟨i + 1, _, rfl, rfl, by have := HL.out; omega, by go_num, hO3, hB2⟩
      · have hv : (M : Int) % 256 = (bt : Int) := by rw [HBT.out, e]; omega
        have hv2 : IntKind.u8.wrap ((M : Int)) = (bt : Int) := by rw [IntKind.wrap_u8', hv]
        have hei : (i : Int) = 7 := by omega
        clear e hlt
        go_wp2_with (at_builtin; refine wpList_app rfl _ _ rfl rfl (HO.out.alloc _) rfl (one_made wr bt hb256) (by have := HL.out; omega) (by have := HB.out.size; simp; omega) ?_; intro v2 w2 hO2 hg2)
        have hB2 : Below w.heap.size w w2 := (K.alloc HB.out _).grown hg2 (K.alloc HB.out _).size (fun k hk => (HO.out.lt k hk).1)
        have hO3 : w2.ownsRow w.heap.size 5 1 v2 (1 + z + (i + 1)) (cells8 (endP n (i + 1))) := by
          rw [HLB.out]
          exact hO2
        clear hO2 hg2 HO HB
        go_wp2_with fail
        go_roundg (8 - (i + 1))
        case measure => have := HL.out; omega
        case rel => exact ⟨i + 1, _, rfl, rfl, by have := HL.out; omega, by go_num, hO3, hB2⟩
    · obtain rfl : i = 8 := by omega
      have hO3 : wr.ownsRow w.heap.size 5 1 u (1 + zs n + 8) (cells8 (endP n 8)) := by rw [← HZ.out]; exact hO
      clear hO hlt hi
      go_wp2_with fail
      go_ret
      exact ⟨_, rfl, hO3, hB⟩
end Go.Proofs.YteplklbpehkdjaaDoor
