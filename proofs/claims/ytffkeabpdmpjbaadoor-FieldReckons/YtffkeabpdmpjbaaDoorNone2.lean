/- What field.Add, Sub, Pow and Inv answer where there is no modulus: nothing. -/
import Derived.Test.YtffkeabpdmpjbaaDoorNone1
import Derived.Test.YtffkeabpdmpjbaaDoorInv
import Derived.Deep.LoopGhost
import Derived.Deep.DeepCutAuto
namespace Go.Proofs.YtffkeabpdmpjbaaDoor
open Go.RowKit
attribute [local go_sem ↓] Go.wp_at_zero Go.wp_at_succ
attribute [local go_sem] eq4m

theorem add_zero (w : World) : Calls Tryd.prog 25 #[.agg #[.int .u64 0, .int .u64 0, .int .u64 0, .int .u64 0], .agg #[.int .u64 0, .int .u64 0, .int .u64 0, .int .u64 0]] w fun e w' => e = .returned (.tuple #[.agg #[.int .u64 0, .int .u64 0, .int .u64 0, .int .u64 0], .bool false]) ∧ Below w.heap.size w w' := by
  have h := add_any num_zero num_zero w
  rw [show (0 : Int) + 0 = 0 from rfl, L_zero, L_zero, L_zero, L_zero, show over 0 0 = false by decide] at h
  exact h
theorem sub_zero (w : World) : Calls Tryd.prog 26 #[.agg #[.int .u64 0, .int .u64 0, .int .u64 0, .int .u64 0], .agg #[.int .u64 0, .int .u64 0, .int .u64 0, .int .u64 0]] w fun e w' => e = .returned (.tuple #[.agg #[.int .u64 0, .int .u64 0, .int .u64 0, .int .u64 0], .bool false]) ∧ Below w.heap.size w w' := by
  have h := sub_any num_zero num_zero w
  rw [show (0 : Int) - 0 = 0 from rfl, L_zero, L_zero, L_zero, L_zero, show under 0 0 = false by decide] at h
  exact h

set_option maxHeartbeats 4000000 in
theorem f_add0 {k a b : Int} (hn : k < 0 ∨ 3 < k) (ha : Num a) (hb : Num b) (w : World) : Calls Tryd.prog 10 #[.int .i64 k, .agg #[.int .u64 (L 0 a), .int .u64 (L 1 a), .int .u64 (L 2 a), .int .u64 (L 3 a)], .agg #[.int .u64 (L 0 b), .int .u64 (L 1 b), .int .u64 (L 2 b), .int .u64 (L 3 b)]] w fun e w' => e = .returned (.agg #[.int .u64 0, .int .u64 0, .int .u64 0, .int .u64 0]) ∧ Below w.heap.size w w' := by
  have H1 : Hid (∀ w, Calls Tryd.prog 25 #[.agg #[.int .u64 0, .int .u64 0, .int .u64 0, .int .u64 0], .agg #[.int .u64 0, .int .u64 0, .int .u64 0, .int .u64 0]] w fun e w' => e = .returned (.tuple #[.agg #[.int .u64 0, .int .u64 0, .int .u64 0, .int .u64 0], .bool false]) ∧ Below w.heap.size w w') := fun w => add_zero w
  have H2 : Hid (∀ w, Calls Tryd.prog 26 #[.agg #[.int .u64 0, .int .u64 0, .int .u64 0, .int .u64 0], .agg #[.int .u64 0, .int .u64 0, .int .u64 0, .int .u64 0]] w fun e w' => e = .returned (.tuple #[.agg #[.int .u64 0, .int .u64 0, .int .u64 0, .int .u64 0], .bool false]) ∧ Below w.heap.size w w') := fun w => sub_zero w
  have HA : Hid (∀ w, Calls Tryd.prog 22 #[.agg #[.int .u64 0, .int .u64 0, .int .u64 0, .int .u64 0], .agg #[.int .u64 (L 0 a), .int .u64 (L 1 a), .int .u64 (L 2 a), .int .u64 (L 3 a)]] w fun e w' => e = .returned (.agg #[.int .u64 0, .int .u64 0, .int .u64 0, .int .u64 0]) ∧ Below w.heap.size w w') := fun w => fold_none ha w
  have HB : Hid (∀ w, Calls Tryd.prog 22 #[.agg #[.int .u64 0, .int .u64 0, .int .u64 0, .int .u64 0], .agg #[.int .u64 (L 0 b), .int .u64 (L 1 b), .int .u64 (L 2 b), .int .u64 (L 3 b)]] w fun e w' => e = .returned (.agg #[.int .u64 0, .int .u64 0, .int .u64 0, .int .u64 0]) ∧ Below w.heap.size w w') := fun w => fold_none hb w
  clear ha hb
  go_enter Tryd.func10, Tryd.ntmps10
  go_wp2_with fail
  with_reducible refine Calls.mono (modOf_zero hn _) ?_
  rintro e w1 ⟨rfl, hb1⟩
  have A1 := (((Arr.new w w.heap.size rfl 24 (L 0 a) (L 1 a) (L 2 a) (L 3 a)).alloc _).alloc _).keep hb1 |>.alloc (.cells #[.int .u64 0, .int .u64 0, .int .u64 0, .int .u64 0] 34)
  have B1 := ((Arr.new _ (w.heap.size + 1) (by simp) 24 (L 0 b) (L 1 b) (L 2 b) (L 3 b)).alloc _).keep hb1 |>.alloc (.cells #[.int .u64 0, .int .u64 0, .int .u64 0, .int .u64 0] 34)
  have R1 := (ArrW.new _ (w.heap.size + 1 + 1) (by simp) 24 0 0 0 0).keep hb1 |>.alloc (.cells #[.int .u64 0, .int .u64 0, .int .u64 0, .int .u64 0] 34)
  have M1 := Arr.new w1 w1.heap.size rfl 34 0 0 0 0
  have hw1 : Below w.heap.size w (w1.alloc (.cells #[.int .u64 0, .int .u64 0, .int .u64 0, .int .u64 0] 34)) := K.alloc (K.call (K.alloc (K.alloc (K.alloc (Below.refl _ w) _) _) _) hb1) _
  clear hb1
  go_wp2_with fail
  generalize hbm : w1.heap.size = bm at *
  clear hbm
  generalize w1.alloc (.cells #[.int .u64 0, .int .u64 0, .int .u64 0, .int .u64 0] 34) = W0 at *
  clear w1
  have ⟨ka, ka0, ka1, ka2, ka3⟩ := A1
  have ⟨kb, kb0, kb1, kb2, kb3⟩ := B1
  have ⟨km, km0, km1, km2, km3⟩ := M1
  have hS : Hid (∀ w', Below W0.heap.size W0 w' → (Below W0.heap.size W0 w' ∧ w'.cell? ⟨w.heap.size, 0, none⟩ = some (.int .u64 (L 0 a)) ∧ w'.cell? ⟨w.heap.size, 1, none⟩ = some (.int .u64 (L 1 a)) ∧ w'.cell? ⟨w.heap.size, 2, none⟩ = some (.int .u64 (L 2 a)) ∧ w'.cell? ⟨w.heap.size, 3, none⟩ = some (.int .u64 (L 3 a)) ∧ w'.cell? ⟨w.heap.size + 1, 0, none⟩ = some (.int .u64 (L 0 b)) ∧ w'.cell? ⟨w.heap.size + 1, 1, none⟩ = some (.int .u64 (L 1 b)) ∧ w'.cell? ⟨w.heap.size + 1, 2, none⟩ = some (.int .u64 (L 2 b)) ∧ w'.cell? ⟨w.heap.size + 1, 3, none⟩ = some (.int .u64 (L 3 b)) ∧ w'.cell? ⟨bm, 0, none⟩ = some (.int .u64 0) ∧ w'.cell? ⟨bm, 1, none⟩ = some (.int .u64 0) ∧ w'.cell? ⟨bm, 2, none⟩ = some (.int .u64 0) ∧ w'.cell? ⟨bm, 3, none⟩ = some (.int .u64 0))) := fun w' hB => ⟨hB, later hB ka0, later hB ka1, later hB ka2, later hB ka3, later hB kb0, later hB kb1, later hB kb2, later hB kb3, later hB km0, later hB km1, later hB km2, later hB km3⟩
  clear ka ka0 ka1 ka2 ka3 kb kb0 kb1 kb2 kb3 km km0 km1 km2 km3
  go_cut [8, 9] (fun s8 s9 wc => ∃ n, s8 = .pointer (some ⟨n, 0, none⟩) ∧ s9 = .bool false ∧ Below w.heap.size w wc ∧ Arr wc bm 0 0 0 0 ∧ ArrW wc (w.heap.size + 1 + 1) 0 0 0 0 ∧ ArrW wc n 0 0 0 0)
  case first =>
    go_region_held3 (fun w' => Below W0.heap.size W0 w' ∧ w'.cell? ⟨w.heap.size, 0, none⟩ = some (.int .u64 (L 0 a)) ∧ w'.cell? ⟨w.heap.size, 1, none⟩ = some (.int .u64 (L 1 a)) ∧ w'.cell? ⟨w.heap.size, 2, none⟩ = some (.int .u64 (L 2 a)) ∧ w'.cell? ⟨w.heap.size, 3, none⟩ = some (.int .u64 (L 3 a)) ∧ w'.cell? ⟨w.heap.size + 1, 0, none⟩ = some (.int .u64 (L 0 b)) ∧ w'.cell? ⟨w.heap.size + 1, 1, none⟩ = some (.int .u64 (L 1 b)) ∧ w'.cell? ⟨w.heap.size + 1, 2, none⟩ = some (.int .u64 (L 2 b)) ∧ w'.cell? ⟨w.heap.size + 1, 3, none⟩ = some (.int .u64 (L 3 b)) ∧ w'.cell? ⟨bm, 0, none⟩ = some (.int .u64 0) ∧ w'.cell? ⟨bm, 1, none⟩ = some (.int .u64 0) ∧ w'.cell? ⟨bm, 2, none⟩ = some (.int .u64 0) ∧ w'.cell? ⟨bm, 3, none⟩ = some (.int .u64 0))
      ((refine hS.out _ ?_; first | (with_reducible exact K.drew (Below.refl _ _)) | (with_reducible exact K.drew (K.alloc (Below.refl _ _) _)) | (with_reducible exact Below.refl _ _) | (with_reducible exact K.call (by go_split_ands; assumption) hk) | (with_reducible exact K.alloc (by go_split_ands; assumption) _) | (with_reducible exact K.again (by go_split_ands; assumption) (by omega) _) | (with_reducible exact K.set (by go_split_ands; assumption) (by first | omega | (simp; done) | (simp; omega)) _) | (with_reducible exact K.set (K.set (K.set (K.set (by go_split_ands; assumption) (by first | omega | (simp; done) | (simp; omega)) _) (by first | omega | (simp; done) | (simp; omega)) _) (by first | omega | (simp; done) | (simp; omega)) _) (by first | omega | (simp; done) | (simp; omega)) _)))
      (first
        | (go_at_call 22; with_reducible refine Calls.mono (HA.out _) ?_; rintro e w' ⟨rfl, hk⟩; have hz := hk.size; (try simp at hz); obtain ⟨hc, hf⟩ := bcell hk; have hl := lt_keep hk; (try have hlz : W0.heap.size < w'.heap.size := (by omega)); (first | have hX := hX.keep hk | have hX := (ArrW.new _ _ rfl 24 0 0 0 0).keep hk | have hX := (ArrW.new _ _ rfl 24 0 0 0 0).drew.keep hk | skip); (try have ⟨kx, kx0, kx1, kx2, kx3, kxf0, kxf1, kxf2, kxf3⟩ := hX))
        | (go_at_call 22; with_reducible refine Calls.mono (HB.out _) ?_; rintro e w' ⟨rfl, hk⟩; have hz := hk.size; (try simp at hz); obtain ⟨hc, hf⟩ := bcell hk; have hl := lt_keep hk; (try have hlz : W0.heap.size < w'.heap.size := (by omega)); (first | have hX := hX.keep hk | have hX := (ArrW.new _ _ rfl 24 0 0 0 0).keep hk | have hX := (ArrW.new _ _ rfl 24 0 0 0 0).drew.keep hk | skip); (try have ⟨kx, kx0, kx1, kx2, kx3, kxf0, kxf1, kxf2, kxf3⟩ := hX))
        | (go_at_call 25; with_reducible refine Calls.mono (H1.out _) ?_; rintro e w' ⟨rfl, hk⟩; have hz := hk.size; (try simp at hz); obtain ⟨hc, hf⟩ := bcell hk; have hl := lt_keep hk; (try have hlz : W0.heap.size < w'.heap.size := (by omega)); (first | have hX := hX.keep hk | have hX := (ArrW.new _ _ rfl 24 0 0 0 0).keep hk | have hX := (ArrW.new _ _ rfl 24 0 0 0 0).drew.keep hk | skip); (try have ⟨kx, kx0, kx1, kx2, kx3, kxf0, kxf1, kxf2, kxf3⟩ := hX)))
    all_goals
      have hH := ‹Below _ _ _ ∧ _›
      (try go_wp2_with fail)
      go_meet
      first
        | exact ⟨_, rfl, rfl, K.call hw1 hH.1, M1.keep hH.1, R1.keep hH.1, hX.stored _ _ _ _⟩
        | exact ⟨_, rfl, rfl, K.call hw1 hH.1, M1.keep hH.1, R1.keep hH.1, ArrW.new _ _ rfl _ _ _ _ _⟩
        | exact ⟨_, rfl, rfl, K.call hw1 hH.1, M1.keep hH.1, R1.keep hH.1, (ArrW.new _ _ rfl _ _ _ _ _).drew⟩
  case rest =>
  obtain ⟨nx, rfl, rfl, hW, hM, hR, hX⟩ := hcut
  clear A1 B1 R1 M1 hw1 hS
  have ⟨km, km0, km1, km2, km3⟩ := hM
  have ⟨kx, kx0, kx1, kx2, kx3, kxf0, kxf1, kxf2, kxf3⟩ := hX
  go_wp2_with fail
  with_reducible refine Calls.mono (H2.out _) ?_
  clear km km0 km1 km2 km3 kx kx0 kx1 kx2 kx3 kxf0 kxf1 kxf2 kxf3
  rintro e w2 ⟨rfl, hb2⟩
  have Y2 := Arr.new w2 w2.heap.size rfl 24 0 0 0 0
  have X2 := (hX.keep hb2).alloc (.cells #[.int .u64 0, .int .u64 0, .int .u64 0, .int .u64 0] 24)
  have R2 := (hR.keep hb2).alloc (.cells #[.int .u64 0, .int .u64 0, .int .u64 0, .int .u64 0] 24)
  have hw2 : Below w.heap.size w (w2.alloc (.cells #[.int .u64 0, .int .u64 0, .int .u64 0, .int .u64 0] 24)) := K.alloc (K.call hW hb2) _
  clear hb2 hX hR hW hM
  have ⟨ky, ky0, ky1, ky2, ky3⟩ := Y2
  have ⟨kx, kx0, kx1, kx2, kx3, kxf0, kxf1, kxf2, kxf3⟩ := X2
  go_wp2_with fail
  with_reducible refine Calls.mono (pick_true _ _ _ _ _ _ _ _ _) ?_
  clear ky ky0 ky1 ky2 ky3 kx kx0 kx1 kx2 kx3 kxf0 kxf1 kxf2 kxf3
  rintro e w3 ⟨rfl, hb3⟩
  have ⟨kr, kr0, kr1, kr2, kr3, kf0, kf1, kf2, kf3⟩ := R2.keep hb3
  have hw3 : Below w.heap.size w w3 := K.call hw2 hb3
  go_wp2_with fail
  exact bodyPost_ret (v := .agg #[.int .u64 0, .int .u64 0, .int .u64 0, .int .u64 0]) (by simp [results, Tryd.results10, go_sem, kr0, kr1, kr2, kr3]) rfl ⟨rfl, K.set4 hw3 (by omega) _ _ _ _⟩

set_option maxHeartbeats 4000000 in
theorem f_sub0 {k a b : Int} (hn : k < 0 ∨ 3 < k) (ha : Num a) (hb : Num b) (w : World) : Calls Tryd.prog 11 #[.int .i64 k, .agg #[.int .u64 (L 0 a), .int .u64 (L 1 a), .int .u64 (L 2 a), .int .u64 (L 3 a)], .agg #[.int .u64 (L 0 b), .int .u64 (L 1 b), .int .u64 (L 2 b), .int .u64 (L 3 b)]] w fun e w' => e = .returned (.agg #[.int .u64 0, .int .u64 0, .int .u64 0, .int .u64 0]) ∧ Below w.heap.size w w' := by
  have H1 : Hid (∀ w, Calls Tryd.prog 26 #[.agg #[.int .u64 0, .int .u64 0, .int .u64 0, .int .u64 0], .agg #[.int .u64 0, .int .u64 0, .int .u64 0, .int .u64 0]] w fun e w' => e = .returned (.tuple #[.agg #[.int .u64 0, .int .u64 0, .int .u64 0, .int .u64 0], .bool false]) ∧ Below w.heap.size w w') := fun w => sub_zero w
  have H2 : Hid (∀ w, Calls Tryd.prog 25 #[.agg #[.int .u64 0, .int .u64 0, .int .u64 0, .int .u64 0], .agg #[.int .u64 0, .int .u64 0, .int .u64 0, .int .u64 0]] w fun e w' => e = .returned (.tuple #[.agg #[.int .u64 0, .int .u64 0, .int .u64 0, .int .u64 0], .bool false]) ∧ Below w.heap.size w w') := fun w => add_zero w
  have HA : Hid (∀ w, Calls Tryd.prog 22 #[.agg #[.int .u64 0, .int .u64 0, .int .u64 0, .int .u64 0], .agg #[.int .u64 (L 0 a), .int .u64 (L 1 a), .int .u64 (L 2 a), .int .u64 (L 3 a)]] w fun e w' => e = .returned (.agg #[.int .u64 0, .int .u64 0, .int .u64 0, .int .u64 0]) ∧ Below w.heap.size w w') := fun w => fold_none ha w
  have HB : Hid (∀ w, Calls Tryd.prog 22 #[.agg #[.int .u64 0, .int .u64 0, .int .u64 0, .int .u64 0], .agg #[.int .u64 (L 0 b), .int .u64 (L 1 b), .int .u64 (L 2 b), .int .u64 (L 3 b)]] w fun e w' => e = .returned (.agg #[.int .u64 0, .int .u64 0, .int .u64 0, .int .u64 0]) ∧ Below w.heap.size w w') := fun w => fold_none hb w
  clear ha hb
  go_enter Tryd.func11, Tryd.ntmps11
  go_wp2_with fail
  with_reducible refine Calls.mono (modOf_zero hn _) ?_
  rintro e w1 ⟨rfl, hb1⟩
  have A1 := (((Arr.new w w.heap.size rfl 24 (L 0 a) (L 1 a) (L 2 a) (L 3 a)).alloc _).alloc _).keep hb1 |>.alloc (.cells #[.int .u64 0, .int .u64 0, .int .u64 0, .int .u64 0] 34)
  have B1 := ((Arr.new _ (w.heap.size + 1) (by simp) 24 (L 0 b) (L 1 b) (L 2 b) (L 3 b)).alloc _).keep hb1 |>.alloc (.cells #[.int .u64 0, .int .u64 0, .int .u64 0, .int .u64 0] 34)
  have R1 := (ArrW.new _ (w.heap.size + 1 + 1) (by simp) 24 0 0 0 0).keep hb1 |>.alloc (.cells #[.int .u64 0, .int .u64 0, .int .u64 0, .int .u64 0] 34)
  have M1 := Arr.new w1 w1.heap.size rfl 34 0 0 0 0
  have hw1 : Below w.heap.size w (w1.alloc (.cells #[.int .u64 0, .int .u64 0, .int .u64 0, .int .u64 0] 34)) := K.alloc (K.call (K.alloc (K.alloc (K.alloc (Below.refl _ w) _) _) _) hb1) _
  clear hb1
  go_wp2_with fail
  generalize hbm : w1.heap.size = bm at *
  clear hbm
  generalize w1.alloc (.cells #[.int .u64 0, .int .u64 0, .int .u64 0, .int .u64 0] 34) = W0 at *
  clear w1
  have ⟨ka, ka0, ka1, ka2, ka3⟩ := A1
  have ⟨kb, kb0, kb1, kb2, kb3⟩ := B1
  have ⟨km, km0, km1, km2, km3⟩ := M1
  have hS : Hid (∀ w', Below W0.heap.size W0 w' → (Below W0.heap.size W0 w' ∧ w'.cell? ⟨w.heap.size, 0, none⟩ = some (.int .u64 (L 0 a)) ∧ w'.cell? ⟨w.heap.size, 1, none⟩ = some (.int .u64 (L 1 a)) ∧ w'.cell? ⟨w.heap.size, 2, none⟩ = some (.int .u64 (L 2 a)) ∧ w'.cell? ⟨w.heap.size, 3, none⟩ = some (.int .u64 (L 3 a)) ∧ w'.cell? ⟨w.heap.size + 1, 0, none⟩ = some (.int .u64 (L 0 b)) ∧ w'.cell? ⟨w.heap.size + 1, 1, none⟩ = some (.int .u64 (L 1 b)) ∧ w'.cell? ⟨w.heap.size + 1, 2, none⟩ = some (.int .u64 (L 2 b)) ∧ w'.cell? ⟨w.heap.size + 1, 3, none⟩ = some (.int .u64 (L 3 b)) ∧ w'.cell? ⟨bm, 0, none⟩ = some (.int .u64 0) ∧ w'.cell? ⟨bm, 1, none⟩ = some (.int .u64 0) ∧ w'.cell? ⟨bm, 2, none⟩ = some (.int .u64 0) ∧ w'.cell? ⟨bm, 3, none⟩ = some (.int .u64 0))) := fun w' hB => ⟨hB, later hB ka0, later hB ka1, later hB ka2, later hB ka3, later hB kb0, later hB kb1, later hB kb2, later hB kb3, later hB km0, later hB km1, later hB km2, later hB km3⟩
  clear ka ka0 ka1 ka2 ka3 kb kb0 kb1 kb2 kb3 km km0 km1 km2 km3
  go_cut [8, 9] (fun s8 s9 wc => ∃ n, s8 = .pointer (some ⟨n, 0, none⟩) ∧ s9 = .bool false ∧ Below w.heap.size w wc ∧ Arr wc bm 0 0 0 0 ∧ ArrW wc (w.heap.size + 1 + 1) 0 0 0 0 ∧ ArrW wc n 0 0 0 0)
  case first =>
    go_region_held3 (fun w' => Below W0.heap.size W0 w' ∧ w'.cell? ⟨w.heap.size, 0, none⟩ = some (.int .u64 (L 0 a)) ∧ w'.cell? ⟨w.heap.size, 1, none⟩ = some (.int .u64 (L 1 a)) ∧ w'.cell? ⟨w.heap.size, 2, none⟩ = some (.int .u64 (L 2 a)) ∧ w'.cell? ⟨w.heap.size, 3, none⟩ = some (.int .u64 (L 3 a)) ∧ w'.cell? ⟨w.heap.size + 1, 0, none⟩ = some (.int .u64 (L 0 b)) ∧ w'.cell? ⟨w.heap.size + 1, 1, none⟩ = some (.int .u64 (L 1 b)) ∧ w'.cell? ⟨w.heap.size + 1, 2, none⟩ = some (.int .u64 (L 2 b)) ∧ w'.cell? ⟨w.heap.size + 1, 3, none⟩ = some (.int .u64 (L 3 b)) ∧ w'.cell? ⟨bm, 0, none⟩ = some (.int .u64 0) ∧ w'.cell? ⟨bm, 1, none⟩ = some (.int .u64 0) ∧ w'.cell? ⟨bm, 2, none⟩ = some (.int .u64 0) ∧ w'.cell? ⟨bm, 3, none⟩ = some (.int .u64 0))
      ((refine hS.out _ ?_; first | (with_reducible exact K.drew (Below.refl _ _)) | (with_reducible exact K.drew (K.alloc (Below.refl _ _) _)) | (with_reducible exact Below.refl _ _) | (with_reducible exact K.call (by go_split_ands; assumption) hk) | (with_reducible exact K.alloc (by go_split_ands; assumption) _) | (with_reducible exact K.again (by go_split_ands; assumption) (by omega) _) | (with_reducible exact K.set (by go_split_ands; assumption) (by first | omega | (simp; done) | (simp; omega)) _) | (with_reducible exact K.set (K.set (K.set (K.set (by go_split_ands; assumption) (by first | omega | (simp; done) | (simp; omega)) _) (by first | omega | (simp; done) | (simp; omega)) _) (by first | omega | (simp; done) | (simp; omega)) _) (by first | omega | (simp; done) | (simp; omega)) _)))
      (first
        | (go_at_call 22; with_reducible refine Calls.mono (HA.out _) ?_; rintro e w' ⟨rfl, hk⟩; have hz := hk.size; (try simp at hz); obtain ⟨hc, hf⟩ := bcell hk; have hl := lt_keep hk; (try have hlz : W0.heap.size < w'.heap.size := (by omega)); (first | have hX := hX.keep hk | have hX := (ArrW.new _ _ rfl 24 0 0 0 0).keep hk | have hX := (ArrW.new _ _ rfl 24 0 0 0 0).drew.keep hk | skip); (try have ⟨kx, kx0, kx1, kx2, kx3, kxf0, kxf1, kxf2, kxf3⟩ := hX))
        | (go_at_call 22; with_reducible refine Calls.mono (HB.out _) ?_; rintro e w' ⟨rfl, hk⟩; have hz := hk.size; (try simp at hz); obtain ⟨hc, hf⟩ := bcell hk; have hl := lt_keep hk; (try have hlz : W0.heap.size < w'.heap.size := (by omega)); (first | have hX := hX.keep hk | have hX := (ArrW.new _ _ rfl 24 0 0 0 0).keep hk | have hX := (ArrW.new _ _ rfl 24 0 0 0 0).drew.keep hk | skip); (try have ⟨kx, kx0, kx1, kx2, kx3, kxf0, kxf1, kxf2, kxf3⟩ := hX))
        | (go_at_call 26; with_reducible refine Calls.mono (H1.out _) ?_; rintro e w' ⟨rfl, hk⟩; have hz := hk.size; (try simp at hz); obtain ⟨hc, hf⟩ := bcell hk; have hl := lt_keep hk; (try have hlz : W0.heap.size < w'.heap.size := (by omega)); (first | have hX := hX.keep hk | have hX := (ArrW.new _ _ rfl 24 0 0 0 0).keep hk | have hX := (ArrW.new _ _ rfl 24 0 0 0 0).drew.keep hk | skip); (try have ⟨kx, kx0, kx1, kx2, kx3, kxf0, kxf1, kxf2, kxf3⟩ := hX)))
    all_goals
      have hH := ‹Below _ _ _ ∧ _›
      (try go_wp2_with fail)
      go_meet
      first
        | exact ⟨_, rfl, rfl, K.call hw1 hH.1, M1.keep hH.1, R1.keep hH.1, hX.stored _ _ _ _⟩
        | exact ⟨_, rfl, rfl, K.call hw1 hH.1, M1.keep hH.1, R1.keep hH.1, ArrW.new _ _ rfl _ _ _ _ _⟩
        | exact ⟨_, rfl, rfl, K.call hw1 hH.1, M1.keep hH.1, R1.keep hH.1, (ArrW.new _ _ rfl _ _ _ _ _).drew⟩
  case rest =>
  obtain ⟨nx, rfl, rfl, hW, hM, hR, hX⟩ := hcut
  clear A1 B1 R1 M1 hw1 hS
  have ⟨km, km0, km1, km2, km3⟩ := hM
  have ⟨kx, kx0, kx1, kx2, kx3, kxf0, kxf1, kxf2, kxf3⟩ := hX
  go_wp2_with fail
  with_reducible refine Calls.mono (H2.out _) ?_
  clear km km0 km1 km2 km3 kx kx0 kx1 kx2 kx3 kxf0 kxf1 kxf2 kxf3
  rintro e w2 ⟨rfl, hb2⟩
  have Y2 := Arr.new w2 w2.heap.size rfl 24 0 0 0 0
  have X2 := (hX.keep hb2).alloc (.cells #[.int .u64 0, .int .u64 0, .int .u64 0, .int .u64 0] 24)
  have R2 := (hR.keep hb2).alloc (.cells #[.int .u64 0, .int .u64 0, .int .u64 0, .int .u64 0] 24)
  have hw2 : Below w.heap.size w (w2.alloc (.cells #[.int .u64 0, .int .u64 0, .int .u64 0, .int .u64 0] 24)) := K.alloc (K.call hW hb2) _
  clear hb2 hX hR hW hM
  have ⟨ky, ky0, ky1, ky2, ky3⟩ := Y2
  have ⟨kx, kx0, kx1, kx2, kx3, kxf0, kxf1, kxf2, kxf3⟩ := X2
  go_wp2_with fail
  with_reducible refine Calls.mono (pick_false _ _ _ _ _ _ _ _ _) ?_
  clear ky ky0 ky1 ky2 ky3 kx kx0 kx1 kx2 kx3 kxf0 kxf1 kxf2 kxf3
  rintro e w3 ⟨rfl, hb3⟩
  have ⟨kr, kr0, kr1, kr2, kr3, kf0, kf1, kf2, kf3⟩ := R2.keep hb3
  have hw3 : Below w.heap.size w w3 := K.call hw2 hb3
  go_wp2_with fail
  exact bodyPost_ret (v := .agg #[.int .u64 0, .int .u64 0, .int .u64 0, .int .u64 0]) (by simp [results, Tryd.results11, go_sem, kr0, kr1, kr2, kr3]) rfl ⟨rfl, K.set4 hw3 (by omega) _ _ _ _⟩

set_option maxHeartbeats 8000000 in
theorem f_pow0 {k a ex : Int} (hnk : k < 0 ∨ 3 < k) (ha : Num a) (he : Num ex) (w : World) :
    Calls Tryd.prog 13 #[.int .i64 k, .agg #[.int .u64 (L 0 a), .int .u64 (L 1 a), .int .u64 (L 2 a), .int .u64 (L 3 a)], .agg #[.int .u64 (L 0 ex), .int .u64 (L 1 ex), .int .u64 (L 2 ex), .int .u64 (L 3 ex)]] w fun e w' => e = .returned (.agg #[.int .u64 0, .int .u64 0, .int .u64 0, .int .u64 0]) ∧ Below w.heap.size w w' := by
  obtain ⟨y0, hy0⟩ : ∃ y : Int, y = 0 := ⟨0, rfl⟩
  have HRZ : Hid (∀ e : Ending, e = .returned (.agg #[.int .u64 (L 0 y0), .int .u64 (L 1 y0), .int .u64 (L 2 y0), .int .u64 (L 3 y0)]) → e = .returned (.agg #[.int .u64 0, .int .u64 0, .int .u64 0, .int .u64 0])) := fun e h => by rw [h, hy0, L_zero, L_zero, L_zero, L_zero]
  have HF : Hid (∀ w, Calls Tryd.prog 22 #[.agg #[.int .u64 0, .int .u64 0, .int .u64 0, .int .u64 0], .agg #[.int .u64 1, .int .u64 0, .int .u64 0, .int .u64 0]] w fun e w' => e = .returned (.agg #[.int .u64 (L 0 y0), .int .u64 (L 1 y0), .int .u64 (L 2 y0), .int .u64 (L 3 y0)]) ∧ Below w.heap.size w w') := by
    intro w
    have h := fold_none (a := 1) ⟨by decide, by decide⟩ w
    rw [show L 0 1 = 1 by decide, show L 1 1 = 0 by decide, show L 2 1 = 0 by decide, show L 3 1 = 0 by decide] at h
    rw [hy0, L_zero, L_zero, L_zero, L_zero]
    exact h
  have HPR : Hid (∀ a b w, Num a → Num b → Calls Tryd.prog 28 #[.agg #[.int .u64 0, .int .u64 0, .int .u64 0, .int .u64 0], .agg #[.int .u64 (L 0 a), .int .u64 (L 1 a), .int .u64 (L 2 a), .int .u64 (L 3 a)], .agg #[.int .u64 (L 0 b), .int .u64 (L 1 b), .int .u64 (L 2 b), .int .u64 (L 3 b)]] w fun e w' => e = .returned (.agg #[.int .u64 (L 0 y0), .int .u64 (L 1 y0), .int .u64 (L 2 y0), .int .u64 (L 3 y0)]) ∧ Below w.heap.size w w') := fun a b w ha hb => by
    rw [hy0, L_zero, L_zero, L_zero, L_zero]; exact prod_none ha hb w
  have HMO : Hid (∀ w, Calls Tryd.prog 21 #[.int .i64 k] w fun e w' => e = .returned (.agg #[.int .u64 0, .int .u64 0, .int .u64 0, .int .u64 0]) ∧ Below w.heap.size w w') := fun w => modOf_zero hnk w
  have H0 : Hid (Num a ∧ Num ex) := ⟨ha, he⟩
  have HN0 : Hid (Num y0) := by show Num y0; rw [hy0]; exact num_zero
  clear ha he hnk hy0
  go_enter Tryd.func13, Tryd.ntmps13
  go_wp2_with fail
  with_reducible refine Calls.mono (HMO.out _) ?_
  rintro e w1 ⟨rfl, hb1⟩
  clear HMO
  have X1 := (((ArrW.new w w.heap.size rfl 24 (L 0 a) (L 1 a) (L 2 a) (L 3 a)).alloc _).alloc _).keep hb1 |>.alloc (.cells #[.int .u64 0, .int .u64 0, .int .u64 0, .int .u64 0] 34)
  have E1 := ((ArrW.new _ (w.heap.size + 1) (by simp) 24 (L 0 ex) (L 1 ex) (L 2 ex) (L 3 ex)).alloc _).keep hb1 |>.alloc (.cells #[.int .u64 0, .int .u64 0, .int .u64 0, .int .u64 0] 34)
  have R1 := (ArrW.new _ (w.heap.size + 1 + 1) (by simp) 24 0 0 0 0).keep hb1 |>.alloc (.cells #[.int .u64 0, .int .u64 0, .int .u64 0, .int .u64 0] 34)
  have hw1 : Below w.heap.size w (w1.alloc (.cells #[.int .u64 0, .int .u64 0, .int .u64 0, .int .u64 0] 34)) := K.alloc (K.call (K.alloc (K.alloc (K.alloc (Below.refl _ w) _) _) _) hb1) _
  clear hb1
  go_wp2_with fail
  with_reducible refine Calls.mono (HF.out _) ?_
  rintro e w2 ⟨rfl, hb2⟩
  have hS1 : PowS w (w2.alloc (.cells #[.int .u64 (L 0 y0), .int .u64 (L 1 y0), .int .u64 (L 2 y0), .int .u64 (L 3 y0)] 24)) w2.heap.size a ex y0 :=
    ⟨K.alloc (K.call hw1 hb2) _, (X1.keep hb2).alloc _, (E1.keep hb2).alloc _, (R1.keep hb2).alloc _, ArrW.new w2 w2.heap.size rfl 24 _ _ _ _⟩
  have hn : w.heap.size + 1 + 1 < w2.heap.size := by have := R1.lt; have := hb2.size; omega
  clear hb2 X1 E1 R1 hw1 HF
  go_wp2_with fail
  go_loopg [] ex.toNat (fun g wr => ∃ x f : Int, g = f.toNat ∧ Num f ∧ Num x ∧ PowS w wr w2.heap.size x f y0)
  case atStart => exact ⟨a, ex, rfl, H0.out.2, H0.out.1, hS1⟩
  case round =>
    clear hS1
    obtain ⟨x, f, hg, nf, nx, hS⟩ := hrel
    have hS0 := hS
    obtain ⟨hbw, ⟨al, a0, a1, a2, a3, af0, af1, af2, af3⟩, ⟨el, e0, e1, e2, e3, ef0, ef1, ef2, ef3⟩, ⟨rl, r0, r1, r2, r3, rf0, rf1, rf2, rf3⟩, ⟨pl, p0, p1, p2, p3, pf0, pf1, pf2, pf3⟩⟩ := hS0
    by_cases hf : f = 0
    · have HE : ∀ w, (Op.equalIn 10000 24 (.agg #[.int .u64 (L 0 f), .int .u64 (L 1 f), .int .u64 (L 2 f), .int .u64 (L 3 f)]) (.agg #[.int .u64 0, .int .u64 0, .int .u64 0, .int .u64 0])).run Tryd.prog w = .ok true w := by
        intro w; rw [eq4, hf, L_zero, L_zero, L_zero, L_zero]; rfl
      clear hg nf nx hf
      go_wp2_with fail
      refine bodyPost_ret (v := .agg #[.int .u64 (L 0 y0), .int .u64 (L 1 y0), .int .u64 (L 2 y0), .int .u64 (L 3 y0)]) (by simp [results, Tryd.results13, go_sem, r0, r1, r2, r3]) rfl ⟨HRZ.out _ rfl, K.set4 hS.below (by omega) _ _ _ _⟩
    · have HE : ∀ w, (Op.equalIn 10000 24 (.agg #[.int .u64 (L 0 f), .int .u64 (L 1 f), .int .u64 (L 2 f), .int .u64 (L 3 f)]) (.agg #[.int .u64 0, .int .u64 0, .int .u64 0, .int .u64 0])).run Tryd.prog w = .ok false w := by
        intro w; rw [eq4, words_not nf hf]
      have HH : Hid (∀ w, Calls Tryd.prog 30 #[.agg #[.int .u64 (L 0 f), .int .u64 (L 1 f), .int .u64 (L 2 f), .int .u64 (L 3 f)]] w fun e w' => e = .returned (.agg #[.int .u64 (L 0 (f / 2)), .int .u64 (L 1 (f / 2)), .int .u64 (L 2 (f / 2)), .int .u64 (L 3 (f / 2))]) ∧ Below w.heap.size w w') := fun w => half_any nf w
      have HP2 : Hid (∀ w, Calls Tryd.prog 28 #[.agg #[.int .u64 0, .int .u64 0, .int .u64 0, .int .u64 0], .agg #[.int .u64 (L 0 x), .int .u64 (L 1 x), .int .u64 (L 2 x), .int .u64 (L 3 x)], .agg #[.int .u64 (L 0 x), .int .u64 (L 1 x), .int .u64 (L 2 x), .int .u64 (L 3 x)]] w fun e w' => e = .returned (.agg #[.int .u64 (L 0 y0), .int .u64 (L 1 y0), .int .u64 (L 2 y0), .int .u64 (L 3 y0)]) ∧ Below w.heap.size w w') := fun w => HPR.out x x w nx nx
      have fl := nf.lo
      have fh := nf.hi
      have HI : Hid (Num (f / 2) ∧ Num y0 ∧ 0 < f ∧ gk = f.toNat) := ⟨⟨by omega, by omega⟩, HN0.out, by omega, hg⟩
      by_cases ho : f % 2 = 1
      · have HB : ∀ w, Calls Tryd.prog 29 #[.agg #[.int .u64 (L 0 f), .int .u64 (L 1 f), .int .u64 (L 2 f), .int .u64 (L 3 f)], .int .i64 0] w fun e w' => e = .returned (.int .i64 1) ∧ Below w.heap.size w w' := by
          intro w; have h := bit_any f 0 w; rwa [bt_0, ho] at h
        have HP1 : Hid (∀ w, Calls Tryd.prog 28 #[.agg #[.int .u64 0, .int .u64 0, .int .u64 0, .int .u64 0], .agg #[.int .u64 (L 0 y0), .int .u64 (L 1 y0), .int .u64 (L 2 y0), .int .u64 (L 3 y0)], .agg #[.int .u64 (L 0 x), .int .u64 (L 1 x), .int .u64 (L 2 x), .int .u64 (L 3 x)]] w fun e w' => e = .returned (.agg #[.int .u64 (L 0 y0), .int .u64 (L 1 y0), .int .u64 (L 2 y0), .int .u64 (L 3 y0)]) ∧ Below w.heap.size w w') := fun w => HPR.out y0 x w HN0.out nx
        clear hg nf nx hf ho fl fh
        go_wp2_with fail
        with_reducible refine Calls.mono (HB _) ?_
        clear hbw al a0 a1 a2 a3 af0 af1 af2 af3 el e0 e1 e2 e3 ef0 ef1 ef2 ef3 rl r0 r1 r2 r3 rf0 rf1 rf2 rf3 pl p0 p1 p2 p3 pf0 pf1 pf2 pf3
        rintro e w3 ⟨rfl, hb⟩
        have hS3 := hS.call hb
        clear hb hS
        have hS0 := hS3
        obtain ⟨hbw, ⟨al, a0, a1, a2, a3, af0, af1, af2, af3⟩, ⟨el, e0, e1, e2, e3, ef0, ef1, ef2, ef3⟩, ⟨rl, r0, r1, r2, r3, rf0, rf1, rf2, rf3⟩, ⟨pl, p0, p1, p2, p3, pf0, pf1, pf2, pf3⟩⟩ := hS0
        go_wp2_with fail
        with_reducible refine Calls.mono (HP1.out _) ?_
        clear hbw al a0 a1 a2 a3 af0 af1 af2 af3 el e0 e1 e2 e3 ef0 ef1 ef2 ef3 rl r0 r1 r2 r3 rf0 rf1 rf2 rf3 pl p0 p1 p2 p3 pf0 pf1 pf2 pf3
        rintro e w4 ⟨rfl, hb⟩
        have hS4 := hS3.call hb
        clear hb hS3
        have hS0 := hS4
        obtain ⟨hbw, ⟨al, a0, a1, a2, a3, af0, af1, af2, af3⟩, ⟨el, e0, e1, e2, e3, ef0, ef1, ef2, ef3⟩, ⟨rl, r0, r1, r2, r3, rf0, rf1, rf2, rf3⟩, ⟨pl, p0, p1, p2, p3, pf0, pf1, pf2, pf3⟩⟩ := hS0
        go_upto_region 7 with fail
        refine wp_world (fun W => PowS w W w2.heap.size x f y0) (hS4.storeP hn y0) ?_
        clear hbw al a0 a1 a2 a3 af0 af1 af2 af3 el e0 e1 e2 e3 ef0 ef1 ef2 ef3 rl r0 r1 r2 r3 rf0 rf1 rf2 rf3 pl p0 p1 p2 p3 pf0 pf1 pf2 pf3 hS4
        intro w5 hS5
        have hS0 := hS5
        obtain ⟨hbw, ⟨al, a0, a1, a2, a3, af0, af1, af2, af3⟩, ⟨el, e0, e1, e2, e3, ef0, ef1, ef2, ef3⟩, ⟨rl, r0, r1, r2, r3, rf0, rf1, rf2, rf3⟩, ⟨pl, p0, p1, p2, p3, pf0, pf1, pf2, pf3⟩⟩ := hS0
        go_wp2_with fail
        with_reducible refine Calls.mono (HP2.out _) ?_
        clear hbw al a0 a1 a2 a3 af0 af1 af2 af3 el e0 e1 e2 e3 ef0 ef1 ef2 ef3 rl r0 r1 r2 r3 rf0 rf1 rf2 rf3 pl p0 p1 p2 p3 pf0 pf1 pf2 pf3
        rintro e w6 ⟨rfl, hb⟩
        have hS6 := hS5.call hb
        clear hb hS5
        have hS0 := hS6
        obtain ⟨hbw, ⟨al, a0, a1, a2, a3, af0, af1, af2, af3⟩, ⟨el, e0, e1, e2, e3, ef0, ef1, ef2, ef3⟩, ⟨rl, r0, r1, r2, r3, rf0, rf1, rf2, rf3⟩, ⟨pl, p0, p1, p2, p3, pf0, pf1, pf2, pf3⟩⟩ := hS0
        go_upto_region 8 with fail
        refine wp_world (fun W => PowS w W w2.heap.size y0 f y0) (hS6.storeA hn y0) ?_
        clear hbw al a0 a1 a2 a3 af0 af1 af2 af3 el e0 e1 e2 e3 ef0 ef1 ef2 ef3 rl r0 r1 r2 r3 rf0 rf1 rf2 rf3 pl p0 p1 p2 p3 pf0 pf1 pf2 pf3 hS6
        intro w7 hS7
        have hS0 := hS7
        obtain ⟨hbw, ⟨al, a0, a1, a2, a3, af0, af1, af2, af3⟩, ⟨el, e0, e1, e2, e3, ef0, ef1, ef2, ef3⟩, ⟨rl, r0, r1, r2, r3, rf0, rf1, rf2, rf3⟩, ⟨pl, p0, p1, p2, p3, pf0, pf1, pf2, pf3⟩⟩ := hS0
        go_wp2_with fail
        with_reducible refine Calls.mono (HH.out _) ?_
        clear hbw al a0 a1 a2 a3 af0 af1 af2 af3 el e0 e1 e2 e3 ef0 ef1 ef2 ef3 rl r0 r1 r2 r3 rf0 rf1 rf2 rf3 pl p0 p1 p2 p3 pf0 pf1 pf2 pf3
        rintro e w8 ⟨rfl, hb⟩
        have hS8 := hS7.call hb
        clear hb hS7
        have hS0 := hS8
        obtain ⟨hbw, ⟨al, a0, a1, a2, a3, af0, af1, af2, af3⟩, ⟨el, e0, e1, e2, e3, ef0, ef1, ef2, ef3⟩, ⟨rl, r0, r1, r2, r3, rf0, rf1, rf2, rf3⟩, ⟨pl, p0, p1, p2, p3, pf0, pf1, pf2, pf3⟩⟩ := hS0
        go_wp2_with fail
        go_roundg (f / 2).toNat
        case measure => have := HI.out; omega
        case rel => exact ⟨y0, f / 2, rfl, HI.out.1, HI.out.2.1, hS8.storeE hn (f / 2)⟩
      · have hz : f % 2 = 0 := by omega
        have HB : ∀ w, Calls Tryd.prog 29 #[.agg #[.int .u64 (L 0 f), .int .u64 (L 1 f), .int .u64 (L 2 f), .int .u64 (L 3 f)], .int .i64 0] w fun e w' => e = .returned (.int .i64 0) ∧ Below w.heap.size w w' := by
          intro w; have h := bit_any f 0 w; rwa [bt_0, hz] at h
        clear hg nf nx hf ho hz fl fh
        go_wp2_with fail
        with_reducible refine Calls.mono (HB _) ?_
        clear hbw al a0 a1 a2 a3 af0 af1 af2 af3 el e0 e1 e2 e3 ef0 ef1 ef2 ef3 rl r0 r1 r2 r3 rf0 rf1 rf2 rf3 pl p0 p1 p2 p3 pf0 pf1 pf2 pf3
        rintro e w3 ⟨rfl, hb⟩
        have hS3 := hS.call hb
        clear hb hS
        have hS0 := hS3
        obtain ⟨hbw, ⟨al, a0, a1, a2, a3, af0, af1, af2, af3⟩, ⟨el, e0, e1, e2, e3, ef0, ef1, ef2, ef3⟩, ⟨rl, r0, r1, r2, r3, rf0, rf1, rf2, rf3⟩, ⟨pl, p0, p1, p2, p3, pf0, pf1, pf2, pf3⟩⟩ := hS0
        go_wp2_with fail
        with_reducible refine Calls.mono (HP2.out _) ?_
        clear hbw al a0 a1 a2 a3 af0 af1 af2 af3 el e0 e1 e2 e3 ef0 ef1 ef2 ef3 rl r0 r1 r2 r3 rf0 rf1 rf2 rf3 pl p0 p1 p2 p3 pf0 pf1 pf2 pf3
        rintro e w6 ⟨rfl, hb⟩
        have hS6 := hS3.call hb
        clear hb hS3
        have hS0 := hS6
        obtain ⟨hbw, ⟨al, a0, a1, a2, a3, af0, af1, af2, af3⟩, ⟨el, e0, e1, e2, e3, ef0, ef1, ef2, ef3⟩, ⟨rl, r0, r1, r2, r3, rf0, rf1, rf2, rf3⟩, ⟨pl, p0, p1, p2, p3, pf0, pf1, pf2, pf3⟩⟩ := hS0
        go_upto_region 8 with fail
        refine wp_world (fun W => PowS w W w2.heap.size y0 f y0) (hS6.storeA hn y0) ?_
        clear hbw al a0 a1 a2 a3 af0 af1 af2 af3 el e0 e1 e2 e3 ef0 ef1 ef2 ef3 rl r0 r1 r2 r3 rf0 rf1 rf2 rf3 pl p0 p1 p2 p3 pf0 pf1 pf2 pf3 hS6
        intro w7 hS7
        have hS0 := hS7
        obtain ⟨hbw, ⟨al, a0, a1, a2, a3, af0, af1, af2, af3⟩, ⟨el, e0, e1, e2, e3, ef0, ef1, ef2, ef3⟩, ⟨rl, r0, r1, r2, r3, rf0, rf1, rf2, rf3⟩, ⟨pl, p0, p1, p2, p3, pf0, pf1, pf2, pf3⟩⟩ := hS0
        go_wp2_with fail
        with_reducible refine Calls.mono (HH.out _) ?_
        clear hbw al a0 a1 a2 a3 af0 af1 af2 af3 el e0 e1 e2 e3 ef0 ef1 ef2 ef3 rl r0 r1 r2 r3 rf0 rf1 rf2 rf3 pl p0 p1 p2 p3 pf0 pf1 pf2 pf3
        rintro e w8 ⟨rfl, hb⟩
        have hS8 := hS7.call hb
        clear hb hS7
        have hS0 := hS8
        obtain ⟨hbw, ⟨al, a0, a1, a2, a3, af0, af1, af2, af3⟩, ⟨el, e0, e1, e2, e3, ef0, ef1, ef2, ef3⟩, ⟨rl, r0, r1, r2, r3, rf0, rf1, rf2, rf3⟩, ⟨pl, p0, p1, p2, p3, pf0, pf1, pf2, pf3⟩⟩ := hS0
        go_wp2_with fail
        go_roundg (f / 2).toNat
        case measure => have := HI.out; omega
        case rel => exact ⟨y0, f / 2, rfl, HI.out.1, HI.out.2.1, hS8.storeE hn (f / 2)⟩

set_option maxHeartbeats 2000000 in
theorem f_inv0 {k a : Int} (hn : k < 0 ∨ 3 < k) (ha : Num a) {w : World} (hT : Tab w) : Calls Tryd.prog 14 #[.int .i64 k, .agg #[.int .u64 (L 0 a), .int .u64 (L 1 a), .int .u64 (L 2 a), .int .u64 (L 3 a)]] w fun e w' => e = .returned (.agg #[.int .u64 0, .int .u64 0, .int .u64 0, .int .u64 0]) ∧ Below w.heap.size w w' := by
  have ne : Num (115792089237316195423570985008687907853269984665640564039457584007913129639934 : Int) := ⟨by decide, by decide⟩
  have HS : Hid (∀ w, Calls Tryd.prog 26 #[.agg #[.int .u64 0, .int .u64 0, .int .u64 0, .int .u64 0], .agg #[.int .u64 2, .int .u64 0, .int .u64 0, .int .u64 0]] w fun e w' => e = .returned (.tuple #[.agg #[.int .u64 (L 0 115792089237316195423570985008687907853269984665640564039457584007913129639934), .int .u64 (L 1 115792089237316195423570985008687907853269984665640564039457584007913129639934), .int .u64 (L 2 115792089237316195423570985008687907853269984665640564039457584007913129639934), .int .u64 (L 3 115792089237316195423570985008687907853269984665640564039457584007913129639934)], .bool (D 0 2 4 == 1)]) ∧ Below w.heap.size w w') := by
    intro w
    have h := sub_walk 0 2 w
    rw [show L 0 2 = 2 by decide, show L 1 2 = 0 by decide, show L 2 2 = 0 by decide, show L 3 2 = 0 by decide, L_zero, L_zero, L_zero, L_zero,
      show L 0 (0 - 2) = L 0 115792089237316195423570985008687907853269984665640564039457584007913129639934 by decide,
      show L 1 (0 - 2) = L 1 115792089237316195423570985008687907853269984665640564039457584007913129639934 by decide,
      show L 2 (0 - 2) = L 2 115792089237316195423570985008687907853269984665640564039457584007913129639934 by decide,
      show L 3 (0 - 2) = L 3 115792089237316195423570985008687907853269984665640564039457584007913129639934 by decide] at h
    exact h
  have HP : Hid (∀ w, Calls Tryd.prog 13 #[.int .i64 k, .agg #[.int .u64 (L 0 a), .int .u64 (L 1 a), .int .u64 (L 2 a), .int .u64 (L 3 a)], .agg #[.int .u64 (L 0 115792089237316195423570985008687907853269984665640564039457584007913129639934), .int .u64 (L 1 115792089237316195423570985008687907853269984665640564039457584007913129639934), .int .u64 (L 2 115792089237316195423570985008687907853269984665640564039457584007913129639934), .int .u64 (L 3 115792089237316195423570985008687907853269984665640564039457584007913129639934)]] w fun e w' => e = .returned (.agg #[.int .u64 0, .int .u64 0, .int .u64 0, .int .u64 0]) ∧ Below w.heap.size w w') := fun w => f_pow0 hn ha ne w
  have HM : Hid (∀ w, Tab w → Calls Tryd.prog 6 #[.int .i64 k] w fun e w' => e = .returned (.agg #[.int .u64 0, .int .u64 0, .int .u64 0, .int .u64 0]) ∧ Below w.heap.size w w') := fun w hT => by
    have h := f_mod k hT
    rw [md_none hn, L_zero, L_zero, L_zero, L_zero] at h
    exact h
  clear hn ha ne
  generalize (115792089237316195423570985008687907853269984665640564039457584007913129639934 : Int) = ex at *
  generalize (D 0 2 4 == 1) = u at *
  go_enter Tryd.func14, Tryd.ntmps14
  go_wp2_with fail
  with_reducible refine Calls.mono (HM.out _ (hT.keep (K.alloc (K.alloc (Below.refl _ _) _) _))) ?_
  rintro e w1 ⟨rfl, hb1⟩
  have A1 := ((Arr.new w w.heap.size rfl 24 (L 0 a) (L 1 a) (L 2 a) (L 3 a)).alloc _).keep hb1
  have R1 := (ArrW.new _ (w.heap.size + 1) (by simp) 24 0 0 0 0).keep hb1
  have hw1 : Below w.heap.size w w1 := K.call (K.alloc (K.alloc (Below.refl _ w) _) _) hb1
  clear hb1 hT
  go_wp2_with fail
  with_reducible refine Calls.mono (HS.out _) ?_
  rintro e w2 ⟨rfl, hb2⟩
  have A2 := (A1.keep hb2).alloc (.cells #[.int .u64 (L 0 ex), .int .u64 (L 1 ex), .int .u64 (L 2 ex), .int .u64 (L 3 ex)] 24)
  have R2 := (R1.keep hb2).alloc (.cells #[.int .u64 (L 0 ex), .int .u64 (L 1 ex), .int .u64 (L 2 ex), .int .u64 (L 3 ex)] 24)
  have E2 := Arr.new w2 w2.heap.size rfl 24 (L 0 ex) (L 1 ex) (L 2 ex) (L 3 ex)
  have hw2 : Below w.heap.size w (w2.alloc (.cells #[.int .u64 (L 0 ex), .int .u64 (L 1 ex), .int .u64 (L 2 ex), .int .u64 (L 3 ex)] 24)) := K.alloc (K.call hw1 hb2) _
  clear hb2 A1 R1 hw1
  have ⟨ka, ka0, ka1, ka2, ka3⟩ := A2
  have ⟨ke, ke0, ke1, ke2, ke3⟩ := E2
  go_wp2_with fail
  with_reducible refine Calls.mono (HP.out _) ?_
  clear ka ka0 ka1 ka2 ka3 ke ke0 ke1 ke2 ke3
  rintro e w3 ⟨rfl, hb3⟩
  have ⟨kr, kr0, kr1, kr2, kr3, kf0, kf1, kf2, kf3⟩ := R2.keep hb3
  have hw3 : Below w.heap.size w w3 := K.call hw2 hb3
  go_wp2_with fail
  exact bodyPost_ret (v := .agg #[.int .u64 0, .int .u64 0, .int .u64 0, .int .u64 0]) (by simp [results, Tryd.results14, go_sem, kr0, kr1, kr2, kr3]) rfl ⟨rfl, K.set4 hw3 (by omega) _ _ _ _⟩
end Go.Proofs.YtffkeabpdmpjbaaDoor
