/- What the document's own Sub modulo a number answers. -/
import Derived.Test.YtffkeabpdmpjbaaDoorRefMulF
namespace Go.Proofs.YtffkeabpdmpjbaaDoor
open Go.RowKit
attribute [local go_sem ↓] Go.wp_at_zero Go.wp_at_succ

set_option maxRecDepth 100000 in
set_option maxHeartbeats 16000000 in
theorem ref_subf_ge {k a b x y r : Int} {u : Bool} (w : World)
    (HFA : Hid (∀ w, Calls Tryd.prog 9 #[.int .i64 k, .agg #[.int .u64 (L 0 a), .int .u64 (L 1 a), .int .u64 (L 2 a), .int .u64 (L 3 a)]] w fun e w' => e = .returned (.agg #[.int .u64 (L 0 x), .int .u64 (L 1 x), .int .u64 (L 2 x), .int .u64 (L 3 x)]) ∧ Below w.heap.size w w'))
    (HFB : Hid (∀ w, Calls Tryd.prog 9 #[.int .i64 k, .agg #[.int .u64 (L 0 b), .int .u64 (L 1 b), .int .u64 (L 2 b), .int .u64 (L 3 b)]] w fun e w' => e = .returned (.agg #[.int .u64 (L 0 y), .int .u64 (L 1 y), .int .u64 (L 2 y), .int .u64 (L 3 y)]) ∧ Below w.heap.size w w'))
    (HL : Hid (∀ w, Calls Tryd.prog 23 #[.agg #[.int .u64 (L 0 x), .int .u64 (L 1 x), .int .u64 (L 2 x), .int .u64 (L 3 x)], .agg #[.int .u64 (L 0 y), .int .u64 (L 1 y), .int .u64 (L 2 y), .int .u64 (L 3 y)]] w fun e w' => e = .returned (.bool false) ∧ Below w.heap.size w w'))
    (HS2 : Hid (∀ w, Calls Tryd.prog 24 #[.agg #[.int .u64 (L 0 x), .int .u64 (L 1 x), .int .u64 (L 2 x), .int .u64 (L 3 x)], .agg #[.int .u64 (L 0 y), .int .u64 (L 1 y), .int .u64 (L 2 y), .int .u64 (L 3 y)]] w fun e w' => e = .returned (.tuple #[.agg #[.int .u64 (L 0 r), .int .u64 (L 1 r), .int .u64 (L 2 r), .int .u64 (L 3 r)], .bool u]) ∧ Below w.heap.size w w')) :
    Calls Tryd.prog 17 #[.int .i64 k, .agg #[.int .u64 (L 0 a), .int .u64 (L 1 a), .int .u64 (L 2 a), .int .u64 (L 3 a)], .agg #[.int .u64 (L 0 b), .int .u64 (L 1 b), .int .u64 (L 2 b), .int .u64 (L 3 b)]] w fun e w' => e = .returned (.agg #[.int .u64 (L 0 r), .int .u64 (L 1 r), .int .u64 (L 2 r), .int .u64 (L 3 r)]) ∧ Below w.heap.size w w' := by
  have A1 := ((Arr.new w w.heap.size rfl 24 (L 0 a) (L 1 a) (L 2 a) (L 3 a)).alloc (.cells #[.int .u64 (L 0 b), .int .u64 (L 1 b), .int .u64 (L 2 b), .int .u64 (L 3 b)] 24)).alloc (.cells #[.int .u64 0, .int .u64 0, .int .u64 0, .int .u64 0] 24)
  have B1 := (Arr.new (w.alloc (.cells #[.int .u64 (L 0 a), .int .u64 (L 1 a), .int .u64 (L 2 a), .int .u64 (L 3 a)] 24)) (w.heap.size + 1) (by simp) 24 (L 0 b) (L 1 b) (L 2 b) (L 3 b)).alloc (.cells #[.int .u64 0, .int .u64 0, .int .u64 0, .int .u64 0] 24)
  have R1 := ArrW.new ((w.alloc (.cells #[.int .u64 (L 0 a), .int .u64 (L 1 a), .int .u64 (L 2 a), .int .u64 (L 3 a)] 24)).alloc (.cells #[.int .u64 (L 0 b), .int .u64 (L 1 b), .int .u64 (L 2 b), .int .u64 (L 3 b)] 24)) (w.heap.size + 1 + 1) (by simp) 24 0 0 0 0
  have hw1 : Below w.heap.size w (((w.alloc (.cells #[.int .u64 (L 0 a), .int .u64 (L 1 a), .int .u64 (L 2 a), .int .u64 (L 3 a)] 24)).alloc (.cells #[.int .u64 (L 0 b), .int .u64 (L 1 b), .int .u64 (L 2 b), .int .u64 (L 3 b)] 24)).alloc (.cells #[.int .u64 0, .int .u64 0, .int .u64 0, .int .u64 0] 24)) := K.alloc (K.alloc (K.alloc (Below.refl _ _) _) _) _
  go_enter Tryd.func17, Tryd.ntmps17
  go_wp2_with fail
  generalize ((w.alloc (.cells #[.int .u64 (L 0 a), .int .u64 (L 1 a), .int .u64 (L 2 a), .int .u64 (L 3 a)] 24)).alloc (.cells #[.int .u64 (L 0 b), .int .u64 (L 1 b), .int .u64 (L 2 b), .int .u64 (L 3 b)] 24)).alloc (.cells #[.int .u64 0, .int .u64 0, .int .u64 0, .int .u64 0] 24) = W0 at *
  have ⟨ka, ka0, ka1, ka2, ka3⟩ := A1
  have ⟨kb, kb0, kb1, kb2, kb3⟩ := B1
  have hS : Hid (∀ w', Below W0.heap.size W0 w' → (Below W0.heap.size W0 w' ∧ w'.cell? ⟨w.heap.size, 0, none⟩ = some (.int .u64 (L 0 a)) ∧ w'.cell? ⟨w.heap.size, 1, none⟩ = some (.int .u64 (L 1 a)) ∧ w'.cell? ⟨w.heap.size, 2, none⟩ = some (.int .u64 (L 2 a)) ∧ w'.cell? ⟨w.heap.size, 3, none⟩ = some (.int .u64 (L 3 a)) ∧ w'.cell? ⟨w.heap.size + 1, 0, none⟩ = some (.int .u64 (L 0 b)) ∧ w'.cell? ⟨w.heap.size + 1, 1, none⟩ = some (.int .u64 (L 1 b)) ∧ w'.cell? ⟨w.heap.size + 1, 2, none⟩ = some (.int .u64 (L 2 b)) ∧ w'.cell? ⟨w.heap.size + 1, 3, none⟩ = some (.int .u64 (L 3 b)))) := fun w' hB => ⟨hB, later hB ka0, later hB ka1, later hB ka2, later hB ka3, later hB kb0, later hB kb1, later hB kb2, later hB kb3⟩
  clear ka ka0 ka1 ka2 ka3 kb kb0 kb1 kb2 kb3
  go_cut [7, 8] (fun s8 s9 wc => ∃ n8 n9, s8 = .pointer (some ⟨n8, 0, none⟩) ∧ s9 = .pointer (some ⟨n9, 0, none⟩) ∧ Below W0.heap.size W0 wc ∧ W0.heap.size ≤ n8 ∧ W0.heap.size ≤ n9 ∧ Arr wc n8 (L 0 x) (L 1 x) (L 2 x) (L 3 x) ∧ Arr wc n9 (L 0 y) (L 1 y) (L 2 y) (L 3 y))
  case first =>
    go_region_held3 (fun w' => Below W0.heap.size W0 w' ∧ w'.cell? ⟨w.heap.size, 0, none⟩ = some (.int .u64 (L 0 a)) ∧ w'.cell? ⟨w.heap.size, 1, none⟩ = some (.int .u64 (L 1 a)) ∧ w'.cell? ⟨w.heap.size, 2, none⟩ = some (.int .u64 (L 2 a)) ∧ w'.cell? ⟨w.heap.size, 3, none⟩ = some (.int .u64 (L 3 a)) ∧ w'.cell? ⟨w.heap.size + 1, 0, none⟩ = some (.int .u64 (L 0 b)) ∧ w'.cell? ⟨w.heap.size + 1, 1, none⟩ = some (.int .u64 (L 1 b)) ∧ w'.cell? ⟨w.heap.size + 1, 2, none⟩ = some (.int .u64 (L 2 b)) ∧ w'.cell? ⟨w.heap.size + 1, 3, none⟩ = some (.int .u64 (L 3 b)))
      ((refine hS.out _ ?_; first | (with_reducible exact (K.drew (Below.refl _ _))) | (with_reducible exact (K.drew (K.alloc (Below.refl _ _) _))) | (with_reducible exact (K.drew (K.alloc (K.alloc (Below.refl _ _) _) _))) | (with_reducible exact (K.alloc (K.drew (Below.refl _ _)) _)) | (with_reducible exact (K.alloc (K.alloc (K.drew (Below.refl _ _)) _) _)) | (with_reducible exact hQ) | (with_reducible exact (K.alloc hQ _)) | (with_reducible exact (K.alloc (K.alloc hQ _) _)) | (with_reducible exact (K.set4 hQ (by first | omega | (simp; done) | (simp; omega)) _ _ _ _)) | (with_reducible exact (K.alloc (K.set4 hQ (by first | omega | (simp; done) | (simp; omega)) _ _ _ _) _)) | (with_reducible exact (K.set4 (K.set4 hQ (by first | omega | (simp; done) | (simp; omega)) _ _ _ _) (by first | omega | (simp; done) | (simp; omega)) _ _ _ _)) | (with_reducible exact (K.set4 (K.alloc hQ _) (by first | omega | (simp; done) | (simp; omega)) _ _ _ _)) | (with_reducible exact (K.alloc (K.set4 (K.alloc hQ _) (by first | omega | (simp; done) | (simp; omega)) _ _ _ _) _)) | (with_reducible exact (K.set4 (K.alloc (K.alloc hQ _) _) (by first | omega | (simp; done) | (simp; omega)) _ _ _ _))))
      (first
        | (go_at_call 9; with_reducible refine Calls.mono (HFA.out _) ?_; rintro e w' ⟨rfl, hk⟩; have hz := hk.size; (try simp at hz); have hQ : Below W0.heap.size W0 w' := K.call (by go_split_ands; with_reducible assumption) hk; (try have hlz : W0.heap.size < w'.heap.size := (by omega)); (first | (with_reducible have hN := (ArrW.new _ _ rfl 24 0 0 0 0).keep hk) | (with_reducible have hN := (ArrW.new _ _ rfl 24 0 0 0 0).drew.keep hk) | skip); (first | (with_reducible have hP := ((ArrW.new _ _ rfl 24 0 0 0 0).alloc _).keep hk) | (with_reducible have hP := ((ArrW.new _ _ rfl 24 0 0 0 0).alloc _).drew.keep hk) | skip); (try rw [size_alloc1] at hN); (try rw [size_drew] at hN); (try rw [size_alloc1] at hP); (try rw [size_drew] at hP); (try have ⟨kn, kn0, kn1, kn2, kn3, knf0, knf1, knf2, knf3⟩ := hN); (try have ⟨kp, kp0, kp1, kp2, kp3, kpf0, kpf1, kpf2, kpf3⟩ := hP))
        | (go_at_call 9; with_reducible refine Calls.mono (HFB.out _) ?_; rintro e w' ⟨rfl, hk⟩; have hz := hk.size; (try simp at hz); have hQ : Below W0.heap.size W0 w' := K.call (by go_split_ands; with_reducible assumption) hk; (try have hlz : W0.heap.size < w'.heap.size := (by omega)); (first | (with_reducible have hN := hN.keep hk) | (with_reducible have hN := (hN.alloc _).keep hk) | (with_reducible have hN := ((hN.alloc _).alloc _).keep hk) | skip); (first | (with_reducible have hP := hP.keep hk) | (with_reducible have hP := (hP.alloc _).keep hk) | skip); (try rw [size_alloc1] at hN); (try rw [size_drew] at hN); (try rw [size_alloc1] at hP); (try rw [size_drew] at hP); (try have ⟨kn, kn0, kn1, kn2, kn3, knf0, knf1, knf2, knf3⟩ := hN); (try have ⟨kp, kp0, kp1, kp2, kp3, kpf0, kpf1, kpf2, kpf3⟩ := hP); (first | (with_reducible have hG := (ArrW.new _ _ rfl 24 0 0 0 0).keep hk) | (with_reducible have hG := (ArrW.new _ _ rfl 24 0 0 0 0).drew.keep hk) | skip); (first | (with_reducible have hJ := ((ArrW.new _ _ rfl 24 0 0 0 0).alloc _).keep hk) | (with_reducible have hJ := ((ArrW.new _ _ rfl 24 0 0 0 0).alloc _).drew.keep hk) | skip); (try rw [size_alloc1] at hG); (try rw [size_drew] at hG); (try rw [size_alloc1] at hJ); (try rw [size_drew] at hJ); (try have ⟨kg, kg0, kg1, kg2, kg3, kgf0, kgf1, kgf2, kgf3⟩ := hG); (try have ⟨kj, kj0, kj1, kj2, kj3, kjf0, kjf1, kjf2, kjf3⟩ := hJ)))
    all_goals
      have hH := ‹Below _ _ _ ∧ _›
      (try go_wp2_with fail)
      go_meet
      refine ⟨_, _, rfl, rfl, hH.1, (by first | omega | (simp; done) | (simp; omega)), (by first | omega | (simp; done) | (simp; omega)), ?_, ?_⟩
      all_goals
        constructor
        · (try simp only [World.size_setCell, size_alloc1]); first | omega | (simp; omega)
        all_goals simp [go_sem, *]
  case rest =>
  obtain ⟨nx, ny, rfl, rfl, hb, hnx, hny, hX, hY⟩ := hcut
  have hrl := R1.lt
  have hR := R1.keep hb
  have hWw : Below w.heap.size w wc := K.call hw1 hb
  clear A1 B1 R1 hw1 hS hb
  have ⟨kx, kx0, kx1, kx2, kx3⟩ := hX
  have ⟨ky, ky0, ky1, ky2, ky3⟩ := hY
  go_wp2_with fail
  with_reducible refine Calls.mono (HL.out _) ?_
  rintro e w1 ⟨rfl, hb⟩
  have hX := hX.keep hb
  have hY := hY.keep hb
  have hR := hR.keep hb
  have hWw : Below w.heap.size w w1 := K.call hWw hb
  clear hb kx kx0 kx1 kx2 kx3 ky ky0 ky1 ky2 ky3
  have ⟨kx, kx0, kx1, kx2, kx3⟩ := hX
  have ⟨ky, ky0, ky1, ky2, ky3⟩ := hY
  go_wp2_with fail
  with_reducible refine Calls.mono (HS2.out _) ?_
  rintro e w2 ⟨rfl, hb⟩
  clear kx kx0 kx1 kx2 kx3 ky ky0 ky1 ky2 ky3
  have ⟨kr, kr0, kr1, kr2, kr3, kf0, kf1, kf2, kf3⟩ := (hR.keep hb).alloc (.cells #[.int .u64 (L 0 r), .int .u64 (L 1 r), .int .u64 (L 2 r), .int .u64 (L 3 r)] 24)
  have hw2 : Below w.heap.size w (w2.alloc (.cells #[.int .u64 (L 0 r), .int .u64 (L 1 r), .int .u64 (L 2 r), .int .u64 (L 3 r)] 24)) := K.alloc (K.call hWw hb) _
  go_wp2_with fail
  exact bodyPost_ret (v := .agg #[.int .u64 (L 0 r), .int .u64 (L 1 r), .int .u64 (L 2 r), .int .u64 (L 3 r)]) (by simp [results, Tryd.results17, go_sem, kr0, kr1, kr2, kr3]) rfl ⟨rfl, by first | exact K.set4 hw2 (by omega) _ _ _ _ | exact K.alloc (K.set4 (K.call hWw hb) (by omega) _ _ _ _) _⟩

set_option maxRecDepth 100000 in
set_option maxHeartbeats 16000000 in
theorem ref_subf_lt {k a b x y m t r : Int} {u : Bool} (w : World)
    (HFA : Hid (∀ w, Calls Tryd.prog 9 #[.int .i64 k, .agg #[.int .u64 (L 0 a), .int .u64 (L 1 a), .int .u64 (L 2 a), .int .u64 (L 3 a)]] w fun e w' => e = .returned (.agg #[.int .u64 (L 0 x), .int .u64 (L 1 x), .int .u64 (L 2 x), .int .u64 (L 3 x)]) ∧ Below w.heap.size w w'))
    (HFB : Hid (∀ w, Calls Tryd.prog 9 #[.int .i64 k, .agg #[.int .u64 (L 0 b), .int .u64 (L 1 b), .int .u64 (L 2 b), .int .u64 (L 3 b)]] w fun e w' => e = .returned (.agg #[.int .u64 (L 0 y), .int .u64 (L 1 y), .int .u64 (L 2 y), .int .u64 (L 3 y)]) ∧ Below w.heap.size w w'))
    (HL : Hid (∀ w, Calls Tryd.prog 23 #[.agg #[.int .u64 (L 0 x), .int .u64 (L 1 x), .int .u64 (L 2 x), .int .u64 (L 3 x)], .agg #[.int .u64 (L 0 y), .int .u64 (L 1 y), .int .u64 (L 2 y), .int .u64 (L 3 y)]] w fun e w' => e = .returned (.bool true) ∧ Below w.heap.size w w'))
    (HMO : Hid (∀ w, Calls Tryd.prog 7 #[.int .i64 k] w fun e w' => e = .returned (.agg #[.int .u64 (L 0 m), .int .u64 (L 1 m), .int .u64 (L 2 m), .int .u64 (L 3 m)]) ∧ Below w.heap.size w w'))
    (HS1 : Hid (∀ w, Calls Tryd.prog 24 #[.agg #[.int .u64 (L 0 m), .int .u64 (L 1 m), .int .u64 (L 2 m), .int .u64 (L 3 m)], .agg #[.int .u64 (L 0 y), .int .u64 (L 1 y), .int .u64 (L 2 y), .int .u64 (L 3 y)]] w fun e w' => e = .returned (.tuple #[.agg #[.int .u64 (L 0 t), .int .u64 (L 1 t), .int .u64 (L 2 t), .int .u64 (L 3 t)], .bool u]) ∧ Below w.heap.size w w'))
    (HPL : Hid (∀ w, Calls Tryd.prog 32 #[.agg #[.int .u64 (L 0 m), .int .u64 (L 1 m), .int .u64 (L 2 m), .int .u64 (L 3 m)], .agg #[.int .u64 (L 0 x), .int .u64 (L 1 x), .int .u64 (L 2 x), .int .u64 (L 3 x)], .agg #[.int .u64 (L 0 t), .int .u64 (L 1 t), .int .u64 (L 2 t), .int .u64 (L 3 t)]] w fun e w' => e = .returned (.agg #[.int .u64 (L 0 r), .int .u64 (L 1 r), .int .u64 (L 2 r), .int .u64 (L 3 r)]) ∧ Below w.heap.size w w')) :
    Calls Tryd.prog 17 #[.int .i64 k, .agg #[.int .u64 (L 0 a), .int .u64 (L 1 a), .int .u64 (L 2 a), .int .u64 (L 3 a)], .agg #[.int .u64 (L 0 b), .int .u64 (L 1 b), .int .u64 (L 2 b), .int .u64 (L 3 b)]] w fun e w' => e = .returned (.agg #[.int .u64 (L 0 r), .int .u64 (L 1 r), .int .u64 (L 2 r), .int .u64 (L 3 r)]) ∧ Below w.heap.size w w' := by
  have A1 := ((Arr.new w w.heap.size rfl 24 (L 0 a) (L 1 a) (L 2 a) (L 3 a)).alloc (.cells #[.int .u64 (L 0 b), .int .u64 (L 1 b), .int .u64 (L 2 b), .int .u64 (L 3 b)] 24)).alloc (.cells #[.int .u64 0, .int .u64 0, .int .u64 0, .int .u64 0] 24)
  have B1 := (Arr.new (w.alloc (.cells #[.int .u64 (L 0 a), .int .u64 (L 1 a), .int .u64 (L 2 a), .int .u64 (L 3 a)] 24)) (w.heap.size + 1) (by simp) 24 (L 0 b) (L 1 b) (L 2 b) (L 3 b)).alloc (.cells #[.int .u64 0, .int .u64 0, .int .u64 0, .int .u64 0] 24)
  have R1 := ArrW.new ((w.alloc (.cells #[.int .u64 (L 0 a), .int .u64 (L 1 a), .int .u64 (L 2 a), .int .u64 (L 3 a)] 24)).alloc (.cells #[.int .u64 (L 0 b), .int .u64 (L 1 b), .int .u64 (L 2 b), .int .u64 (L 3 b)] 24)) (w.heap.size + 1 + 1) (by simp) 24 0 0 0 0
  have hw1 : Below w.heap.size w (((w.alloc (.cells #[.int .u64 (L 0 a), .int .u64 (L 1 a), .int .u64 (L 2 a), .int .u64 (L 3 a)] 24)).alloc (.cells #[.int .u64 (L 0 b), .int .u64 (L 1 b), .int .u64 (L 2 b), .int .u64 (L 3 b)] 24)).alloc (.cells #[.int .u64 0, .int .u64 0, .int .u64 0, .int .u64 0] 24)) := K.alloc (K.alloc (K.alloc (Below.refl _ _) _) _) _
  go_enter Tryd.func17, Tryd.ntmps17
  go_wp2_with fail
  generalize ((w.alloc (.cells #[.int .u64 (L 0 a), .int .u64 (L 1 a), .int .u64 (L 2 a), .int .u64 (L 3 a)] 24)).alloc (.cells #[.int .u64 (L 0 b), .int .u64 (L 1 b), .int .u64 (L 2 b), .int .u64 (L 3 b)] 24)).alloc (.cells #[.int .u64 0, .int .u64 0, .int .u64 0, .int .u64 0] 24) = W0 at *
  have ⟨ka, ka0, ka1, ka2, ka3⟩ := A1
  have ⟨kb, kb0, kb1, kb2, kb3⟩ := B1
  have hS : Hid (∀ w', Below W0.heap.size W0 w' → (Below W0.heap.size W0 w' ∧ w'.cell? ⟨w.heap.size, 0, none⟩ = some (.int .u64 (L 0 a)) ∧ w'.cell? ⟨w.heap.size, 1, none⟩ = some (.int .u64 (L 1 a)) ∧ w'.cell? ⟨w.heap.size, 2, none⟩ = some (.int .u64 (L 2 a)) ∧ w'.cell? ⟨w.heap.size, 3, none⟩ = some (.int .u64 (L 3 a)) ∧ w'.cell? ⟨w.heap.size + 1, 0, none⟩ = some (.int .u64 (L 0 b)) ∧ w'.cell? ⟨w.heap.size + 1, 1, none⟩ = some (.int .u64 (L 1 b)) ∧ w'.cell? ⟨w.heap.size + 1, 2, none⟩ = some (.int .u64 (L 2 b)) ∧ w'.cell? ⟨w.heap.size + 1, 3, none⟩ = some (.int .u64 (L 3 b)))) := fun w' hB => ⟨hB, later hB ka0, later hB ka1, later hB ka2, later hB ka3, later hB kb0, later hB kb1, later hB kb2, later hB kb3⟩
  clear ka ka0 ka1 ka2 ka3 kb kb0 kb1 kb2 kb3
  go_cut [7, 8] (fun s8 s9 wc => ∃ n8 n9, s8 = .pointer (some ⟨n8, 0, none⟩) ∧ s9 = .pointer (some ⟨n9, 0, none⟩) ∧ Below W0.heap.size W0 wc ∧ W0.heap.size ≤ n8 ∧ W0.heap.size ≤ n9 ∧ Arr wc n8 (L 0 x) (L 1 x) (L 2 x) (L 3 x) ∧ Arr wc n9 (L 0 y) (L 1 y) (L 2 y) (L 3 y))
  case first =>
    go_region_held3 (fun w' => Below W0.heap.size W0 w' ∧ w'.cell? ⟨w.heap.size, 0, none⟩ = some (.int .u64 (L 0 a)) ∧ w'.cell? ⟨w.heap.size, 1, none⟩ = some (.int .u64 (L 1 a)) ∧ w'.cell? ⟨w.heap.size, 2, none⟩ = some (.int .u64 (L 2 a)) ∧ w'.cell? ⟨w.heap.size, 3, none⟩ = some (.int .u64 (L 3 a)) ∧ w'.cell? ⟨w.heap.size + 1, 0, none⟩ = some (.int .u64 (L 0 b)) ∧ w'.cell? ⟨w.heap.size + 1, 1, none⟩ = some (.int .u64 (L 1 b)) ∧ w'.cell? ⟨w.heap.size + 1, 2, none⟩ = some (.int .u64 (L 2 b)) ∧ w'.cell? ⟨w.heap.size + 1, 3, none⟩ = some (.int .u64 (L 3 b)))
      ((refine hS.out _ ?_; first | (with_reducible exact (K.drew (Below.refl _ _))) | (with_reducible exact (K.drew (K.alloc (Below.refl _ _) _))) | (with_reducible exact (K.drew (K.alloc (K.alloc (Below.refl _ _) _) _))) | (with_reducible exact (K.alloc (K.drew (Below.refl _ _)) _)) | (with_reducible exact (K.alloc (K.alloc (K.drew (Below.refl _ _)) _) _)) | (with_reducible exact hQ) | (with_reducible exact (K.alloc hQ _)) | (with_reducible exact (K.alloc (K.alloc hQ _) _)) | (with_reducible exact (K.set4 hQ (by first | omega | (simp; done) | (simp; omega)) _ _ _ _)) | (with_reducible exact (K.alloc (K.set4 hQ (by first | omega | (simp; done) | (simp; omega)) _ _ _ _) _)) | (with_reducible exact (K.set4 (K.set4 hQ (by first | omega | (simp; done) | (simp; omega)) _ _ _ _) (by first | omega | (simp; done) | (simp; omega)) _ _ _ _)) | (with_reducible exact (K.set4 (K.alloc hQ _) (by first | omega | (simp; done) | (simp; omega)) _ _ _ _)) | (with_reducible exact (K.alloc (K.set4 (K.alloc hQ _) (by first | omega | (simp; done) | (simp; omega)) _ _ _ _) _)) | (with_reducible exact (K.set4 (K.alloc (K.alloc hQ _) _) (by first | omega | (simp; done) | (simp; omega)) _ _ _ _))))
      (first
        | (go_at_call 9; with_reducible refine Calls.mono (HFA.out _) ?_; rintro e w' ⟨rfl, hk⟩; have hz := hk.size; (try simp at hz); have hQ : Below W0.heap.size W0 w' := K.call (by go_split_ands; with_reducible assumption) hk; (try have hlz : W0.heap.size < w'.heap.size := (by omega)); (first | (with_reducible have hN := (ArrW.new _ _ rfl 24 0 0 0 0).keep hk) | (with_reducible have hN := (ArrW.new _ _ rfl 24 0 0 0 0).drew.keep hk) | skip); (first | (with_reducible have hP := ((ArrW.new _ _ rfl 24 0 0 0 0).alloc _).keep hk) | (with_reducible have hP := ((ArrW.new _ _ rfl 24 0 0 0 0).alloc _).drew.keep hk) | skip); (try rw [size_alloc1] at hN); (try rw [size_drew] at hN); (try rw [size_alloc1] at hP); (try rw [size_drew] at hP); (try have ⟨kn, kn0, kn1, kn2, kn3, knf0, knf1, knf2, knf3⟩ := hN); (try have ⟨kp, kp0, kp1, kp2, kp3, kpf0, kpf1, kpf2, kpf3⟩ := hP))
        | (go_at_call 9; with_reducible refine Calls.mono (HFB.out _) ?_; rintro e w' ⟨rfl, hk⟩; have hz := hk.size; (try simp at hz); have hQ : Below W0.heap.size W0 w' := K.call (by go_split_ands; with_reducible assumption) hk; (try have hlz : W0.heap.size < w'.heap.size := (by omega)); (first | (with_reducible have hN := hN.keep hk) | (with_reducible have hN := (hN.alloc _).keep hk) | (with_reducible have hN := ((hN.alloc _).alloc _).keep hk) | skip); (first | (with_reducible have hP := hP.keep hk) | (with_reducible have hP := (hP.alloc _).keep hk) | skip); (try rw [size_alloc1] at hN); (try rw [size_drew] at hN); (try rw [size_alloc1] at hP); (try rw [size_drew] at hP); (try have ⟨kn, kn0, kn1, kn2, kn3, knf0, knf1, knf2, knf3⟩ := hN); (try have ⟨kp, kp0, kp1, kp2, kp3, kpf0, kpf1, kpf2, kpf3⟩ := hP); (first | (with_reducible have hG := (ArrW.new _ _ rfl 24 0 0 0 0).keep hk) | (with_reducible have hG := (ArrW.new _ _ rfl 24 0 0 0 0).drew.keep hk) | skip); (first | (with_reducible have hJ := ((ArrW.new _ _ rfl 24 0 0 0 0).alloc _).keep hk) | (with_reducible have hJ := ((ArrW.new _ _ rfl 24 0 0 0 0).alloc _).drew.keep hk) | skip); (try rw [size_alloc1] at hG); (try rw [size_drew] at hG); (try rw [size_alloc1] at hJ); (try rw [size_drew] at hJ); (try have ⟨kg, kg0, kg1, kg2, kg3, kgf0, kgf1, kgf2, kgf3⟩ := hG); (try have ⟨kj, kj0, kj1, kj2, kj3, kjf0, kjf1, kjf2, kjf3⟩ := hJ)))
    all_goals
      have hH := ‹Below _ _ _ ∧ _›
      (try go_wp2_with fail)
      go_meet
      refine ⟨_, _, rfl, rfl, hH.1, (by first | omega | (simp; done) | (simp; omega)), (by first | omega | (simp; done) | (simp; omega)), ?_, ?_⟩
      all_goals
        constructor
        · (try simp only [World.size_setCell, size_alloc1]); first | omega | (simp; omega)
        all_goals simp [go_sem, *]
  case rest =>
  obtain ⟨nx, ny, rfl, rfl, hb, hnx, hny, hX, hY⟩ := hcut
  have hrl := R1.lt
  have hR := R1.keep hb
  have hWw : Below w.heap.size w wc := K.call hw1 hb
  clear A1 B1 R1 hw1 hS hb
  have ⟨kx, kx0, kx1, kx2, kx3⟩ := hX
  have ⟨ky, ky0, ky1, ky2, ky3⟩ := hY
  go_wp2_with fail
  with_reducible refine Calls.mono (HL.out _) ?_
  rintro e w1 ⟨rfl, hb⟩
  have hX := hX.keep hb
  have hY := hY.keep hb
  have hR := hR.keep hb
  have hWw : Below w.heap.size w w1 := K.call hWw hb
  clear hb kx kx0 kx1 kx2 kx3 ky ky0 ky1 ky2 ky3
  go_wp2_with fail
  have HX : Hid (Arr w1 nx (L 0 x) (L 1 x) (L 2 x) (L 3 x)) := hX
  have HR : Hid (ArrW w1 (w.heap.size + 1 + 1) 0 0 0 0) := hR
  have HW : Hid (Below w.heap.size w w1) := hWw
  clear hX hR hWw
  have ⟨ky, ky0, ky1, ky2, ky3⟩ := hY
  have hS : Hid (∀ w', Below w1.heap.size w1 w' → (Below w1.heap.size w1 w' ∧ w'.cell? ⟨ny, 0, none⟩ = some (.int .u64 (L 0 y)) ∧ w'.cell? ⟨ny, 1, none⟩ = some (.int .u64 (L 1 y)) ∧ w'.cell? ⟨ny, 2, none⟩ = some (.int .u64 (L 2 y)) ∧ w'.cell? ⟨ny, 3, none⟩ = some (.int .u64 (L 3 y)))) := fun w' hB => ⟨hB, later hB ky0, later hB ky1, later hB ky2, later hB ky3⟩
  clear ky ky0 ky1 ky2 ky3 hY
  go_cut [9, 10] (fun s9 s10 wc => ∃ n, s9 = .pointer (some ⟨n, 0, none⟩) ∧ s10 = .bool u ∧ Below w1.heap.size w1 wc ∧ w1.heap.size ≤ n ∧ Arr wc n (L 0 t) (L 1 t) (L 2 t) (L 3 t))
  case first =>
    go_region_held3 (fun w' => Below w1.heap.size w1 w' ∧ w'.cell? ⟨ny, 0, none⟩ = some (.int .u64 (L 0 y)) ∧ w'.cell? ⟨ny, 1, none⟩ = some (.int .u64 (L 1 y)) ∧ w'.cell? ⟨ny, 2, none⟩ = some (.int .u64 (L 2 y)) ∧ w'.cell? ⟨ny, 3, none⟩ = some (.int .u64 (L 3 y)))
      ((refine hS.out _ ?_; first | (with_reducible exact (K.drew (Below.refl _ _))) | (with_reducible exact (K.drew (K.alloc (Below.refl _ _) _))) | (with_reducible exact (K.drew (K.alloc (K.alloc (Below.refl _ _) _) _))) | (with_reducible exact (K.alloc (K.drew (Below.refl _ _)) _)) | (with_reducible exact (K.alloc (K.alloc (K.drew (Below.refl _ _)) _) _)) | (with_reducible exact hQ) | (with_reducible exact (K.alloc hQ _)) | (with_reducible exact (K.alloc (K.alloc hQ _) _)) | (with_reducible exact (K.set4 hQ (by first | omega | (simp; done) | (simp; omega)) _ _ _ _)) | (with_reducible exact (K.alloc (K.set4 hQ (by first | omega | (simp; done) | (simp; omega)) _ _ _ _) _)) | (with_reducible exact (K.set4 (K.set4 hQ (by first | omega | (simp; done) | (simp; omega)) _ _ _ _) (by first | omega | (simp; done) | (simp; omega)) _ _ _ _)) | (with_reducible exact (K.set4 (K.alloc hQ _) (by first | omega | (simp; done) | (simp; omega)) _ _ _ _)) | (with_reducible exact (K.alloc (K.set4 (K.alloc hQ _) (by first | omega | (simp; done) | (simp; omega)) _ _ _ _) _)) | (with_reducible exact (K.set4 (K.alloc (K.alloc hQ _) _) (by first | omega | (simp; done) | (simp; omega)) _ _ _ _))))
      (first
        | (go_at_call 7; with_reducible refine Calls.mono (HMO.out _) ?_; rintro e w' ⟨rfl, hk⟩; have hz := hk.size; (try simp at hz); have hQ : Below w1.heap.size w1 w' := K.call (by go_split_ands; with_reducible assumption) hk; (try have hlz : w1.heap.size < w'.heap.size := (by omega)); (first | (with_reducible have hX := hX.keep hk) | (with_reducible have hX := (ArrW.new _ _ rfl 24 0 0 0 0).keep hk) | (with_reducible have hX := (ArrW.new _ _ rfl 24 0 0 0 0).drew.keep hk) | skip); (try rw [size_alloc1] at hX); (try rw [size_drew] at hX); (try have ⟨kx, kx0, kx1, kx2, kx3, kxf0, kxf1, kxf2, kxf3⟩ := hX))
        | (go_at_call 24; with_reducible refine Calls.mono (HS1.out _) ?_; rintro e w' ⟨rfl, hk⟩; have hz := hk.size; (try simp at hz); have hQ : Below w1.heap.size w1 w' := K.call (by go_split_ands; with_reducible assumption) hk; (try have hlz : w1.heap.size < w'.heap.size := (by omega)); (first | (with_reducible have hX := hX.keep hk) | (with_reducible have hX := (ArrW.new _ _ rfl 24 0 0 0 0).keep hk) | (with_reducible have hX := (ArrW.new _ _ rfl 24 0 0 0 0).drew.keep hk) | skip); (try rw [size_alloc1] at hX); (try rw [size_drew] at hX); (try have ⟨kx, kx0, kx1, kx2, kx3, kxf0, kxf1, kxf2, kxf3⟩ := hX)))
    all_goals
      have hH := ‹Below _ _ _ ∧ _›
      (try go_wp2_with fail)
      go_meet
      refine ⟨_, rfl, rfl, hH.1, (by first | omega | (simp; done) | (simp; omega)), ?_⟩
      constructor
      · (try simp only [World.size_setCell, size_alloc1]); first | omega | (simp; omega)
      all_goals simp [go_sem, *]
  case rest =>
  obtain ⟨nt, rfl, rfl, hb, hnt, hTt⟩ := hcut
  have hrl2 := HR.out.lt
  have hX := HX.out.keep hb
  have hR := (HR.out.keep hb).drew
  have hWw : Below w.heap.size w wc := K.call HW.out hb
  clear HX HR HW hS hb
  go_wp2_with fail
  have ⟨kx, kx0, kx1, kx2, kx3⟩ := hX.drew
  have ⟨ky, ky0, ky1, ky2, ky3⟩ := hTt.drew
  clear hX hTt
  have hn2 : nx ≠ w.heap.size + 1 + 1 := by omega
  have hn3 : nt ≠ w.heap.size + 1 + 1 := by omega
  go_region_held3 (fun w' => Below w.heap.size w w' ∧ w'.cell? ⟨nx, 0, none⟩ = some (.int .u64 (L 0 x)) ∧ w'.cell? ⟨nx, 1, none⟩ = some (.int .u64 (L 1 x)) ∧ w'.cell? ⟨nx, 2, none⟩ = some (.int .u64 (L 2 x)) ∧ w'.cell? ⟨nx, 3, none⟩ = some (.int .u64 (L 3 x)) ∧ w'.cell? ⟨nt, 0, none⟩ = some (.int .u64 (L 0 t)) ∧ w'.cell? ⟨nt, 1, none⟩ = some (.int .u64 (L 1 t)) ∧ w'.cell? ⟨nt, 2, none⟩ = some (.int .u64 (L 2 t)) ∧ w'.cell? ⟨nt, 3, none⟩ = some (.int .u64 (L 3 t)))
    ((go_split_ands; (repeat' apply And.intro) <;> first | (with_reducible assumption) | (with_reducible exact later hk (by assumption)) | (with_reducible exact K.call (by assumption) hk) | (with_reducible exact later_a (by assumption)) | (with_reducible exact later_ad (by assumption)) | (with_reducible exact set4_other (by omega) _ _ _ _ (by assumption)) | (with_reducible exact K.set4 (by assumption) (by omega) _ _ _ _) | (simp [go_sem]; done) | (repeat' (first | (with_reducible assumption) | (with_reducible exact Below.refl _ _) | (with_reducible refine K.drewN ?_ _) | (with_reducible refine K.drew ?_) | (with_reducible refine K.alloc ?_ _)))))
    (first
      | (go_at_call 7; with_reducible refine Calls.mono (HMO.out _) ?_; rintro e w' ⟨rfl, hk⟩; have hz := hk.size; (try simp at hz); have hR := hR.keep hk; have ⟨kr, kr0, kr1, kr2, kr3, kf0, kf1, kf2, kf3⟩ := hR)
      | (go_at_call 32; with_reducible refine Calls.mono (HPL.out _) ?_; rintro e w' ⟨rfl, hk⟩; have hz := hk.size; (try simp at hz); have hR := hR.keep hk; have ⟨kr, kr0, kr1, kr2, kr3, kf0, kf1, kf2, kf3⟩ := hR))
  all_goals
    have hH := ‹Below _ _ _ ∧ _›
    go_wp2_with fail
    exact bodyPost_ret (v := .agg #[.int .u64 (L 0 r), .int .u64 (L 1 r), .int .u64 (L 2 r), .int .u64 (L 3 r)]) (by simp [results, Tryd.results17, go_sem, kr0, kr1, kr2, kr3]) rfl ⟨rfl, hH.1⟩

theorem ref_subf_any {k a b : Int} (hk : 0 ≤ k ∧ k ≤ 3) (ha : Num a) (hb : Num b) (w : World) :
    Calls Tryd.prog 17 #[.int .i64 k, .agg #[.int .u64 (L 0 a), .int .u64 (L 1 a), .int .u64 (L 2 a), .int .u64 (L 3 a)], .agg #[.int .u64 (L 0 b), .int .u64 (L 1 b), .int .u64 (L 2 b), .int .u64 (L 3 b)]] w fun e w' => e = .returned (.agg #[.int .u64 (L 0 ((a - b) % md k)), .int .u64 (L 1 ((a - b) % md k)), .int .u64 (L 2 ((a - b) % md k)), .int .u64 (L 3 ((a - b) % md k))]) ∧ Below w.heap.size w w' := by
  have hm := md_pos hk
  have hl := md_odd hk
  have nm := md_num k
  have x0 := Int.emod_nonneg a (b := md k) (by omega)
  have x1 := Int.emod_lt_of_pos a hm
  have y0 := Int.emod_nonneg b (b := md k) (by omega)
  have y1 := Int.emod_lt_of_pos b hm
  have hmod := Int.sub_emod a b (md k)
  by_cases h : a % md k < b % md k
  · refine ref_subf_lt (m := md k) (t := md k - b % md k) w (fun w => ref_fold_any ha hm hl w) (fun w => ref_fold_any hb hm hl w) (fun w => less_true (num_mod nm hm) (num_mod nm hm) h w) (fun w => ref_mod_any k w) (fun w => ref_sub_walk (md k) (b % md k) w) (fun w => ?_)
    have hp := ref_plus_any nm x0 x1 (show 0 ≤ md k - b % md k by omega) (show md k - b % md k < md k by omega) w
    rw [show a % md k + (md k - b % md k) = a % md k - b % md k + md k by omega, Int.add_emod_right, ← hmod] at hp
    exact hp
  · have e : (a - b) % md k = a % md k - b % md k := by rw [hmod]; exact mod_low (by omega) (by omega)
    rw [e]
    exact ref_subf_ge w (fun w => ref_fold_any ha hm hl w) (fun w => ref_fold_any hb hm hl w) (fun w => less_false (num_mod nm hm) (num_mod nm hm) h w) (fun w => ref_sub_walk (a % md k) (b % md k) w)
end Go.Proofs.YtffkeabpdmpjbaaDoor
