/- TextNames. -/
import Derived.Test.YtloboidolhpogabPName
import Derived.Test.YtloboidolhpogabPAwake
import Derived.BigRegion
import Derived.BigQuiet
import Derived.Deep.RegionWith
import Derived.Deep.DeepCutAuto
namespace Go.Proofs.Ytloboidolhpogab
open Go.RowKit
attribute [local go_sem ↓] Go.wp_at_zero Go.wp_at_succ
attribute [local go_sem] tx_size tx_append

theorem name_tx (l : List UInt8) : nameB (tx l) = decide ((∀ c ∈ l, okc c.toNat = true) ∧ 0 < l.length ∧ l.length ≤ 40) := by
  unfold nameB
  rw [Bool.eq_iff_iff, decide_eq_true_eq, decide_eq_true_eq]
  have hs := tx_size l
  constructor
  · rintro ⟨h1, h2⟩
    refine ⟨fun c hc => ?_, by omega⟩
    obtain ⟨j, hj, rfl⟩ := List.mem_iff_getElem.1 hc
    exact h1 j (by rw [tx_size]; exact hj)
  · rintro ⟨h1, h2⟩
    refine ⟨fun j h => ?_, by omega⟩
    have hj : j < l.length := by rw [tx_size] at h; exact h
    exact h1 (l[j]'hj) (List.getElem_mem hj)
/-- Signs that may not stand in a name. -/
def bads : List UInt8 := [32, 10, 43, 95, 0, 200, 126, 44]
def badAt (j : Nat) : UInt8 := bads.getD j 0
theorem bad_no : ∀ j, j < 8 → okc (badAt j).toNat = false := by decide
theorem tx_first (l : List UInt8) (n : Nat) : (tx l).extract 0 n = tx (l.take n) := by
  unfold tx
  rw [ByteArray.extract_mk]
  simp
theorem tx_rest (l : List UInt8) (n : Nat) : (tx l).extract n l.length = tx (l.drop n) := by
  unfold tx
  rw [ByteArray.extract_mk, List.take_of_length_le (by simp)]
theorem name_yes {l : List UInt8} (h : nameB (tx l) = true) : (∀ c ∈ l, okc c.toNat = true) ∧ 0 < l.length ∧ l.length ≤ 40 := by rw [name_tx, decide_eq_true_eq] at h; exact h
theorem name_turn {l : List UInt8} (h : nameB (tx l) = true) (k : Nat) : nameB (tx (l.drop k ++ l.take k)) = true := by
  obtain ⟨h1, h2, h3⟩ := name_yes h
  rw [name_tx, decide_eq_true_eq]
  refine ⟨fun c hc => ?_, by simp; omega, by simp; omega⟩
  rcases List.mem_append.1 hc with hc | hc
  · exact h1 c (List.mem_of_mem_drop hc)
  · exact h1 c (List.mem_of_mem_take hc)
theorem name_first {l : List UInt8} (h : nameB (tx l) = true) (k : Nat) : nameB (tx (l.take (k + 1))) = true := by
  obtain ⟨h1, h2, h3⟩ := name_yes h
  rw [name_tx, decide_eq_true_eq]
  exact ⟨fun c hc => h1 c (List.mem_of_mem_take hc), by simp; omega, by simp; omega⟩
theorem name_other {l : List UInt8} (k j : Nat) (hj : j < 8) : nameB (tx (l.take k ++ badAt j :: l.drop (k + 1))) = false := by
  rw [name_tx, decide_eq_false_iff_not]
  intro hh
  have := hh.1 (badAt j) (by simp)
  rw [bad_no j hj] at this
  cases this
theorem name_long {l d : List UInt8} (h : nameB (tx l) = true) (hd : d.length = 40) : nameB (tx (l ++ d)) = false := by
  obtain ⟨h1, h2, h3⟩ := name_yes h
  rw [name_tx, decide_eq_false_iff_not]
  intro hh
  have := hh.2.2
  rw [List.length_append] at this
  omega
def d40 : List UInt8 := [48, 49, 50, 51, 52, 53, 54, 55, 56, 57, 48, 49, 50, 51, 52, 53, 54, 55, 56, 57, 48, 49, 50, 51, 52, 53, 54, 55, 56, 57, 48, 49, 50, 51, 52, 53, 54, 55, 56, 57]
theorem lit_d40 : (⟨#[48, 49, 50, 51, 52, 53, 54, 55, 56, 57, 48, 49, 50, 51, 52, 53, 54, 55, 56, 57, 48, 49, 50, 51, 52, 53, 54, 55, 56, 57, 48, 49, 50, 51, 52, 53, 54, 55, 56, 57]⟩ : ByteArray) = tx d40 := rfl
theorem bad_cell (w : World) (j : Nat) (hj : j < 8) : (w.alloc (.cells #[.int .u8 32, .int .u8 10, .int .u8 43, .int .u8 95, .int .u8 0, .int .u8 200, .int .u8 126, .int .u8 44] 5)).cell? ⟨w.heap.size, j, none⟩ = some (.int .u8 ((badAt j).toNat : Int)) := by
  rw [cell_of_row _ _ _ _ _ _ (heap_alloc_new w _)]
  rcases (show j = 0 ∨ j = 1 ∨ j = 2 ∨ j = 3 ∨ j = 4 ∨ j = 5 ∨ j = 6 ∨ j = 7 by omega) with rfl | rfl | rfl | rfl | rfl | rfl | rfl | rfl <;> rfl
/-- The region ends in one way. -/
def Only (A : Act) (W : World) : Exit → Act → World → Prop
  | .normal, a, w => a = A ∧ w = W
  | _, _, _ => False
theorem Only.intro (A : Act) (W : World) : Only A W .normal A W := ⟨rfl, rfl⟩
theorem Only.out {A : Act} {W : World} {Q : Exit → Act → World → Prop} (h : Q .normal A W) : ∀ e a w, Only A W e a w → Q e a w := by
  intro e a w hq
  cases e <;> first | exact (hq : False).elim | (obtain ⟨rfl, rfl⟩ := hq; exact h)
theorem text_bad (wr : World) (c : UInt8) : (convert 24 9 (.slice (some ⟨wr.heap.size, 0, none⟩) 1 1)).run Try.prog (wr.alloc (.cells #[.int .u8 (c.toNat : Int)] 5)).drew = .ok (.string (tx [c])) (wr.alloc (.cells #[.int .u8 (c.toNat : Int)] 5)).drew := by
  have hload : (loadCells ⟨wr.heap.size, 0, none⟩ 1).run Try.prog (wr.alloc (.cells #[.int .u8 (c.toNat : Int)] 5)).drew = .ok #[.int .u8 (c.toNat : Int)] (wr.alloc (.cells #[.int .u8 (c.toNat : Int)] 5)).drew := by simp [loadCells, go_sem]
  rw [run_convert_bytes_string _ _ _ 5 _ _ _ Try.underlying24 Try.underlying5 Try.underlying9,
    run_bytesToString _ _ 1 1 [(c.toNat : Int)] hload]
  simp [tx, ByteArray.push, ByteArray.empty, ByteArray.emptyWithCapacity]
  rfl

attribute [local go_sem] lit_d40
set_option maxRecDepth 100000 in
set_option maxHeartbeats 8000000 in
theorem textNames_walk (l : List UInt8) (hl : l.length ≤ 9223372036854775807) {at_ c : Int} (ha : 0 ≤ at_ ∧ at_ < 256) (hc : 0 ≤ c ∧ c < 256) (w : World) :
    Calls Try.prog 3 #[.string (tx l), .int .u8 at_, .int .u8 c] w fun e w' => e = .returned (.bool true) ∧ Below w.heap.size w w' := by
  by_cases h40 : l.length ≤ 40
  · have h40i : (l.length : Int) ≤ 40 := by omega
    have HN := name_any (tx l) (by rw [tx_size]; exact hl)
    by_cases hn : nameB (tx l) = true
    · rw [hn] at HN
      have HNAME : Hid (∀ w, Calls Try.prog 5 #[.string (tx l)] w fun e w' => e = .returned (.bool true) ∧ w' = w) := HN
      obtain ⟨_, hp, _⟩ := name_yes hn
      obtain ⟨k, hk⟩ : ∃ k : Nat, (k : Int) = at_ % (l.length : Int) := ⟨(at_ % (l.length : Int)).toNat, by
        have := Int.emod_nonneg at_ (show (l.length : Int) ≠ 0 by omega)
        omega⟩
      have hkl : (k : Int) < l.length := by rw [hk]; exact Int.emod_lt_of_pos _ (by omega)
      obtain ⟨j, hj⟩ : ∃ j : Nat, (j : Int) = c % 8 := ⟨(c % 8).toNat, by omega⟩
      have hj8 : (j : Int) < 8 := by omega
      have N1 : Hid (∀ w, Calls Try.prog 5 #[.string (tx (l.drop k ++ l.take k))] w fun e w' => e = .returned (.bool true) ∧ w' = w) := fun w => by
        have := name_any (tx (l.drop k ++ l.take k)) (by rw [tx_size]; simp; omega) w
        rwa [name_turn hn k] at this
      have N2 : Hid (∀ w, Calls Try.prog 5 #[.string (tx (l.take (k + 1)))] w fun e w' => e = .returned (.bool true) ∧ w' = w) := fun w => by
        have := name_any (tx (l.take (k + 1))) (by rw [tx_size]; simp; omega) w
        rwa [name_first hn k] at this
      have N3 : Hid (∀ w, Calls Try.prog 5 #[.string (tx (l.take k ++ badAt j :: l.drop (k + 1)))] w fun e w' => e = .returned (.bool false) ∧ w' = w) := fun w => by
        have := name_any (tx (l.take k ++ badAt j :: l.drop (k + 1))) (by rw [tx_size]; simp; omega) w
        rwa [name_other k j (by omega)] at this
      have N4 : Hid (∀ w, Calls Try.prog 5 #[.string (tx (l ++ d40))] w fun e w' => e = .returned (.bool false) ∧ w' = w) := fun w => by
        have := name_any (tx (l ++ d40)) (by rw [tx_size]; simp [d40]; omega) w
        rwa [name_long hn rfl] at this
      have x1 := tx_first l k
      have x2 := tx_first l (k + 1)
      have x3 := tx_rest l k
      have x4 := tx_rest l (k + 1)
      have l1 : (l.take k).length ≤ 40 := by simp; omega
      have l2 : (l.take (k + 1)).length ≤ 40 := by simp; omega
      have l3 : (l.drop k).length ≤ 40 := by simp; omega
      have l4 : (l.drop (k + 1)).length ≤ 40 := by simp; omega
      generalize l.take k = A1 at *
      generalize l.take (k + 1) = A2 at *
      generalize l.drop k = A3 at *
      generalize l.drop (k + 1) = A4 at *
      have hkm : at_ % (l.length : Int) = (k : Int) := hk.symm
      have hjm : c % 8 = (j : Int) := hj.symm
      have hkn : k < l.length := by omega
      have hjn : j < 8 := by omega
      clear hk hj hn HN
      go_enter Try.func3, Try.ntmps3
      go_wp2_with fail
      with_reducible refine Calls.mono (awake_any _) ?_
      rintro e w1 ⟨rfl, hb1⟩
      go_wp2_with fail
      with_reducible refine Calls.mono (HNAME.out _) ?_
      rintro e w2 ⟨rfl, rfl⟩
      go_upto_region 5 with fail
      have hcell := bad_cell w2 j hjn
      have hbX := K.alloc hb1 (.cells #[.int .u8 32, .int .u8 10, .int .u8 43, .int .u8 95, .int .u8 0, .int .u8 200, .int .u8 126, .int .u8 44] 5)
      generalize w2.alloc (.cells #[.int .u8 32, .int .u8 10, .int .u8 43, .int .u8 95, .int .u8 0, .int .u8 200, .int .u8 126, .int .u8 44] 5) = X at *
      generalize w2.heap.size = B at *
      have hcv := text_bad X (badAt j)
      have HBX : Hid (Below w.heap.size w X) := hbX
      clear hb1 hbX w2 HNAME
      generalize badAt j = bd at *
      apply wp_mono (Q := Only _ _)
      · go_region
        all_goals exact Only.intro _ _
      refine Only.out ?_
      clear hcv hcell
      have hd40 : d40.length ≤ 40 := by decide
      have HBY : Hid (Below w.heap.size w (X.alloc (.cells #[.int .u8 (bd.toNat : Int)] 5)).drew) := K.drew (K.alloc HBX.out _)
      generalize (X.alloc (.cells #[.int .u8 (bd.toNat : Int)] 5)).drew = Y at *
      simp only [hkm]
      clear hkm
      have hk1 : (k : Int) + 1 ≤ l.length := by omega
      have hk0 : (0 : Int) ≤ (k : Int) + 1 := by omega
      have hwr : IntKind.i64.wrap ((k : Int) + 1) = (k : Int) + 1 := by rw [IntKind.wrap_i64]; omega
      have hkt : ((k : Int) + 1).toNat = k + 1 := by omega
      have hkb : k + 1 ≤ l.length := by omega
      go_upto_region 6 with fail
      apply wp_mono (Q := Only _ _)
      · go_region_with (first
        | (go_at_call 5; with_reducible refine Calls.mono (N1.out _) ?_; rintro e w' ⟨rfl, rfl⟩)
        | (go_at_call 5; with_reducible refine Calls.mono (N2.out _) ?_; rintro e w' ⟨rfl, rfl⟩)
        | (go_at_call 5; with_reducible refine Calls.mono (N3.out _) ?_; rintro e w' ⟨rfl, rfl⟩)
        | (go_at_call 5; with_reducible refine Calls.mono (N4.out _) ?_; rintro e w' ⟨rfl, rfl⟩))
        all_goals exact Only.intro _ _
      refine Only.out ?_
      clear N1 N2 N3 N4
      go_wp2_with fail
      go_ret
      exact ⟨rfl, K.drew HBY.out⟩
    · have hn : nameB (tx l) = false := by simpa using hn
      rw [hn] at HN
      have HNAME : Hid (∀ w, Calls Try.prog 5 #[.string (tx l)] w fun e w' => e = .returned (.bool false) ∧ w' = w) := HN
      clear hn HN
      go_enter Try.func3, Try.ntmps3
      go_wp2_with fail
      with_reducible refine Calls.mono (awake_any _) ?_
      rintro e w1 ⟨rfl, hb1⟩
      go_wp2_with fail
      with_reducible refine Calls.mono (HNAME.out _) ?_
      rintro e w2 ⟨rfl, rfl⟩
      go_wp2_with fail
      with_reducible refine Calls.mono (awake_any _) ?_
      rintro e w3 ⟨rfl, hb2⟩
      go_wp2_with fail
      go_ret
      exact ⟨rfl, K.call hb1 hb2⟩
  · have h40i : ¬ (l.length : Int) ≤ 40 := by omega
    go_enter Try.func3, Try.ntmps3
    go_wp2_with fail
    with_reducible refine Calls.mono (awake_any _) ?_
    rintro e w1 ⟨rfl, hb1⟩
    go_wp2_with fail
    with_reducible refine Calls.mono (awake_any _) ?_
    rintro e w3 ⟨rfl, hb2⟩
    go_wp2_with fail
    go_ret
    exact ⟨rfl, K.call hb1 hb2⟩
end Go.Proofs.Ytloboidolhpogab
