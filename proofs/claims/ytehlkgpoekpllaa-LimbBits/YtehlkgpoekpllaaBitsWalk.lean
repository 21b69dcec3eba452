/- The walk of the statement LimbBits: of all numbers, and all numbers of 8 bits, it answers true. -/
import Derived.Test.YtehlkgpoekpllaaHalfBit
namespace Go.Proofs.Ytehlkgpoekpllaa
open Go.RowKit
attribute [local go_sem ↓] Go.wp_at_zero Go.wp_at_succ
attribute [local go_sem] eq4

theorem half_num {a : Int} (h : Num a) : Num (a / 2) := by
  obtain ⟨h1, h2⟩ := h
  exact ⟨by omega, by omega⟩
theorem twice_num {a : Int} (h : Num a) : Num (a / 2 + a / 2) := by
  obtain ⟨h1, h2⟩ := h
  exact ⟨by omega, by omega⟩
theorem bt_num (a i : Int) : Num (bt a i) := by
  have h1 := bt_lo a i
  have h2 := bt_hi a i
  exact ⟨h1, by unfold M; omega⟩
theorem bt_0 (a i : Int) : L 0 (bt a i) = bt a i := by
  have h1 := bt_lo a i
  have h2 := bt_hi a i
  rw [L0]; omega
theorem bt_1 (a i : Int) : L 1 (bt a i) = 0 := by
  have h1 := bt_lo a i
  have h2 := bt_hi a i
  rw [L1]; omega
theorem bt_2 (a i : Int) : L 2 (bt a i) = 0 := by
  have h1 := bt_lo a i
  have h2 := bt_hi a i
  rw [L2]; omega
theorem bt_3 (a i : Int) : L 3 (bt a i) = 0 := by
  have h1 := bt_lo a i
  have h2 := bt_hi a i
  rw [L3]; omega
theorem bt_zero (a : Int) : bt a 0 = a % 2 := by rw [bt_in a 0 (by omega) (by omega)]; simp
theorem add_halves {a : Int} (h : Num a) (w : World) :
    Calls Try.prog 9 #[.agg #[.int .u64 (L 0 (a / 2)), .int .u64 (L 1 (a / 2)), .int .u64 (L 2 (a / 2)), .int .u64 (L 3 (a / 2))], .agg #[.int .u64 (L 0 (a / 2)), .int .u64 (L 1 (a / 2)), .int .u64 (L 2 (a / 2)), .int .u64 (L 3 (a / 2))]] w fun e w' =>
      e = .returned (.tuple #[.agg #[.int .u64 (L 0 (a / 2 + a / 2)), .int .u64 (L 1 (a / 2 + a / 2)), .int .u64 (L 2 (a / 2 + a / 2)), .int .u64 (L 3 (a / 2 + a / 2))], .bool false]) ∧ Below w.heap.size w w' := by
  have g := add_any (half_num h) (half_num h) w
  have o : over (a / 2) (a / 2) = false := by
    obtain ⟨h1, h2⟩ := h
    unfold over; simp; omega
  rw [o] at g
  exact g
theorem add_last {a : Int} (h : Num a) (w : World) :
    Calls Try.prog 9 #[.agg #[.int .u64 (L 0 (a / 2 + a / 2)), .int .u64 (L 1 (a / 2 + a / 2)), .int .u64 (L 2 (a / 2 + a / 2)), .int .u64 (L 3 (a / 2 + a / 2))], .agg #[.int .u64 (bt a 0), .int .u64 0, .int .u64 0, .int .u64 0]] w fun e w' =>
      e = .returned (.tuple #[.agg #[.int .u64 (L 0 a), .int .u64 (L 1 a), .int .u64 (L 2 a), .int .u64 (L 3 a)], .bool false]) ∧ Below w.heap.size w w' := by
  have g := add_any (twice_num h) (bt_num a 0) w
  have e : a / 2 + a / 2 + bt a 0 = a := by rw [bt_zero]; omega
  have o : over (a / 2 + a / 2) (bt a 0) = false := by
    unfold over; rw [e]
    obtain ⟨h1, h2⟩ := h
    simp; omega
  rw [o, e, bt_0, bt_1, bt_2, bt_3] at g
  exact g
theorem bt_down {a i : Int} (h : Num a) (h0 : 0 ≤ i) (h1 : i < 256) : bt a (i + 1) = bt (a / 2) i := by
  obtain ⟨n, rfl⟩ := Int.eq_ofNat_of_zero_le h0
  have e : a / 2 ^ (n + 1) = a / 2 / 2 ^ n := by rw [Int.ediv_ediv_of_nonneg (by omega), Int.pow_succ, Int.mul_comm]
  rw [bt_in (a / 2) n h0 h1, Int.toNat_natCast, ← e]
  by_cases hn : n = 255
  · subst hn
    rw [bt_high a _ (by omega)]
    obtain ⟨h2, h3⟩ := h
    have : a / 2 ^ (255 + 1) = 0 := Int.ediv_eq_zero_of_lt h2 h3
    rw [this]; rfl
  · rw [bt_in a _ (by omega) (by omega)]
    rw [show ((n : Int) + 1).toNat = n + 1 by omega]
theorem bit_next {a i : Int} (h : Num a) (h0 : 0 ≤ i) (h1 : i < 256) (w : World) :
    Calls Try.prog 20 #[.agg #[.int .u64 (L 0 a), .int .u64 (L 1 a), .int .u64 (L 2 a), .int .u64 (L 3 a)], .int .i64 (i + 1)] w fun e w' => e = .returned (.int .i64 (bt (a / 2) i)) ∧ Below w.heap.size w w' := by
  rw [← bt_down h h0 h1]; exact bit_any a (i + 1) w

set_option maxHeartbeats 4000000 in
theorem bits_walk {a i : Int} (h : Num a) (h0 : 0 ≤ i) (h1 : i < 256) (w : World) :
    Calls Try.prog 7 #[.agg #[.int .u64 (L 0 a), .int .u64 (L 1 a), .int .u64 (L 2 a), .int .u64 (L 3 a)], .int .u8 i] w fun e w' => e = .returned (.bool true) ∧ Below w.heap.size w w' := by
  have q1 := bt_lo a 0
  have q2 := bt_hi a 0
  have q4 : wrap64 i = i := IntWalk.wrap64_in _ (by omega)
  have q5 : IntKind.i64.wrap i = i := IntWalk.i64_in _ (by omega)
  have q6 : wrap64 (i + 1) = i + 1 := IntWalk.wrap64_in _ (by omega)
  have q7 : IntKind.i64.wrap (i + 1) = i + 1 := IntWalk.i64_in _ (by omega)
  have q3 : IntKind.u64.wrap (bt a 0) = bt a 0 := IntWalk.u64_in _ (by omega)
  go_enter Try.func7, Try.ntmps7
  go_wp2_with fail
  with_reducible refine Calls.mono (half_any h _) ?_
  rintro e w1 ⟨rfl, hb1⟩
  have A1 := (Arr.new w (w.heap.size) rfl 24 (L 0 a) (L 1 a) (L 2 a) (L 3 a)).keep hb1
  go_wp2_with fail
  with_reducible refine Calls.mono (add_halves h _) ?_
  rintro e w2 ⟨rfl, hb2⟩
  have A2 := ((A1.alloc _).keep hb2).alloc (.cells #[.int .u64 (L 0 (a / 2 + a / 2)), .int .u64 (L 1 (a / 2 + a / 2)), .int .u64 (L 2 (a / 2 + a / 2)), .int .u64 (L 3 (a / 2 + a / 2))] 24)
  have H2 := ((Arr.new w1 w1.heap.size rfl 24 (L 0 (a / 2)) (L 1 (a / 2)) (L 2 (a / 2)) (L 3 (a / 2))).keep hb2).alloc (.cells #[.int .u64 (L 0 (a / 2 + a / 2)), .int .u64 (L 1 (a / 2 + a / 2)), .int .u64 (L 2 (a / 2 + a / 2)), .int .u64 (L 3 (a / 2 + a / 2))] 24)
  have D2 := (Arr.new w2 w2.heap.size rfl 24 (L 0 (a / 2 + a / 2)) (L 1 (a / 2 + a / 2)) (L 2 (a / 2 + a / 2)) (L 3 (a / 2 + a / 2)))
  have hw : Below w.heap.size w (w2.alloc (.cells #[.int .u64 (L 0 (a / 2 + a / 2)), .int .u64 (L 1 (a / 2 + a / 2)), .int .u64 (L 2 (a / 2 + a / 2)), .int .u64 (L 3 (a / 2 + a / 2))] 24)) := K.alloc (K.call (K.alloc (K.call (K.alloc (Below.refl _ w) _) hb1) _) hb2) _
  clear A1 hb1 hb2
  go_wp2_with fail
  generalize w2.alloc (.cells #[.int .u64 (L 0 (a / 2 + a / 2)), .int .u64 (L 1 (a / 2 + a / 2)), .int .u64 (L 2 (a / 2 + a / 2)), .int .u64 (L 3 (a / 2 + a / 2))] 24) = W0 at *
  have hS : Hid (∀ w', Below W0.heap.size W0 w' → (Below W0.heap.size W0 w' ∧ w'.cell? ⟨w.heap.size, 0, none⟩ = some (.int .u64 (L 0 a)) ∧ w'.cell? ⟨w.heap.size, 1, none⟩ = some (.int .u64 (L 1 a)) ∧ w'.cell? ⟨w.heap.size, 2, none⟩ = some (.int .u64 (L 2 a)) ∧ w'.cell? ⟨w.heap.size, 3, none⟩ = some (.int .u64 (L 3 a)) ∧ w'.cell? ⟨w1.heap.size, 0, none⟩ = some (.int .u64 (L 0 (a / 2))) ∧ w'.cell? ⟨w1.heap.size, 1, none⟩ = some (.int .u64 (L 1 (a / 2))) ∧ w'.cell? ⟨w1.heap.size, 2, none⟩ = some (.int .u64 (L 2 (a / 2))) ∧ w'.cell? ⟨w1.heap.size, 3, none⟩ = some (.int .u64 (L 3 (a / 2))) ∧ w'.cell? ⟨w2.heap.size, 0, none⟩ = some (.int .u64 (L 0 (a / 2 + a / 2))) ∧ w'.cell? ⟨w2.heap.size, 1, none⟩ = some (.int .u64 (L 1 (a / 2 + a / 2))) ∧ w'.cell? ⟨w2.heap.size, 2, none⟩ = some (.int .u64 (L 2 (a / 2 + a / 2))) ∧ w'.cell? ⟨w2.heap.size, 3, none⟩ = some (.int .u64 (L 3 (a / 2 + a / 2))))) := fun w' hB => ⟨hB, later hB A2.c0, later hB A2.c1, later hB A2.c2, later hB A2.c3, later hB H2.c0, later hB H2.c1, later hB H2.c2, later hB H2.c3, later hB D2.c0, later hB D2.c1, later hB D2.c2, later hB D2.c3⟩
  go_region_held3 (fun w' => Below W0.heap.size W0 w' ∧ w'.cell? ⟨w.heap.size, 0, none⟩ = some (.int .u64 (L 0 a)) ∧ w'.cell? ⟨w.heap.size, 1, none⟩ = some (.int .u64 (L 1 a)) ∧ w'.cell? ⟨w.heap.size, 2, none⟩ = some (.int .u64 (L 2 a)) ∧ w'.cell? ⟨w.heap.size, 3, none⟩ = some (.int .u64 (L 3 a)) ∧ w'.cell? ⟨w1.heap.size, 0, none⟩ = some (.int .u64 (L 0 (a / 2))) ∧ w'.cell? ⟨w1.heap.size, 1, none⟩ = some (.int .u64 (L 1 (a / 2))) ∧ w'.cell? ⟨w1.heap.size, 2, none⟩ = some (.int .u64 (L 2 (a / 2))) ∧ w'.cell? ⟨w1.heap.size, 3, none⟩ = some (.int .u64 (L 3 (a / 2))) ∧ w'.cell? ⟨w2.heap.size, 0, none⟩ = some (.int .u64 (L 0 (a / 2 + a / 2))) ∧ w'.cell? ⟨w2.heap.size, 1, none⟩ = some (.int .u64 (L 1 (a / 2 + a / 2))) ∧ w'.cell? ⟨w2.heap.size, 2, none⟩ = some (.int .u64 (L 2 (a / 2 + a / 2))) ∧ w'.cell? ⟨w2.heap.size, 3, none⟩ = some (.int .u64 (L 3 (a / 2 + a / 2))))
    ((refine hS.out _ ?_; first | (with_reducible exact K.drew (Below.refl _ _)) | (with_reducible exact K.drew (K.alloc (Below.refl _ _) _)) | (with_reducible exact Below.refl _ _) | (with_reducible exact K.call (by go_split_ands; assumption) hk) | (with_reducible exact K.alloc (by go_split_ands; assumption) _) | (with_reducible exact K.again (by go_split_ands; assumption) (by omega) _) | (with_reducible exact K.set (by go_split_ands; assumption) (by first | omega | (simp; done) | (simp; omega)) _) | (with_reducible exact K.set (K.set (K.set (K.set (by go_split_ands; assumption) (by first | omega | (simp; done) | (simp; omega)) _) (by first | omega | (simp; done) | (simp; omega)) _) (by first | omega | (simp; done) | (simp; omega)) _) (by first | omega | (simp; done) | (simp; omega)) _)))
    (first
      | (go_at_call 20; with_reducible refine Calls.mono (bit_any a 0 _) ?_; rintro e wB ⟨rfl, hk⟩; have hz := hk.size; (try simp at hz); obtain ⟨hc, hf⟩ := bcell hk; have hl := lt_keep hk; have hkB := hk)
      | (go_at_call 9; with_reducible refine Calls.mono (add_last h _) ?_; rintro e wA ⟨rfl, hk⟩; have hz := hk.size; (try simp at hz); obtain ⟨hc, hf⟩ := bcell hk; have hl := lt_keep hk; have hkA := hk))
  · have E := Arr.new wA wA.heap.size rfl 24 (L 0 a) (L 1 a) (L 2 a) (L 3 a)
    have hH := ‹Below _ _ _ ∧ _›
    have A3 := A2.keep hH.1
    have H3 := H2.keep hH.1
    have hw3 := K.call hw hH.1
    clear hH hS A2 H2 D2 hw
    generalize wA.alloc (.cells #[.int .u64 (L 0 a), .int .u64 (L 1 a), .int .u64 (L 2 a), .int .u64 (L 3 a)] 24) = W1 at *
    have hS : Hid (∀ w', Below W1.heap.size W1 w' → (Below W1.heap.size W1 w' ∧ w'.cell? ⟨w.heap.size, 0, none⟩ = some (.int .u64 (L 0 a)) ∧ w'.cell? ⟨w.heap.size, 1, none⟩ = some (.int .u64 (L 1 a)) ∧ w'.cell? ⟨w.heap.size, 2, none⟩ = some (.int .u64 (L 2 a)) ∧ w'.cell? ⟨w.heap.size, 3, none⟩ = some (.int .u64 (L 3 a)) ∧ w'.cell? ⟨w1.heap.size, 0, none⟩ = some (.int .u64 (L 0 (a / 2))) ∧ w'.cell? ⟨w1.heap.size, 1, none⟩ = some (.int .u64 (L 1 (a / 2))) ∧ w'.cell? ⟨w1.heap.size, 2, none⟩ = some (.int .u64 (L 2 (a / 2))) ∧ w'.cell? ⟨w1.heap.size, 3, none⟩ = some (.int .u64 (L 3 (a / 2))) ∧ w'.cell? ⟨wA.heap.size, 0, none⟩ = some (.int .u64 (L 0 a)) ∧ w'.cell? ⟨wA.heap.size, 1, none⟩ = some (.int .u64 (L 1 a)) ∧ w'.cell? ⟨wA.heap.size, 2, none⟩ = some (.int .u64 (L 2 a)) ∧ w'.cell? ⟨wA.heap.size, 3, none⟩ = some (.int .u64 (L 3 a)))) := fun w' hB => ⟨hB, later hB A3.c0, later hB A3.c1, later hB A3.c2, later hB A3.c3, later hB H3.c0, later hB H3.c1, later hB H3.c2, later hB H3.c3, later hB E.c0, later hB E.c1, later hB E.c2, later hB E.c3⟩
    go_wp2_with fail
    go_region_held3 (fun w' => Below W1.heap.size W1 w' ∧ w'.cell? ⟨w.heap.size, 0, none⟩ = some (.int .u64 (L 0 a)) ∧ w'.cell? ⟨w.heap.size, 1, none⟩ = some (.int .u64 (L 1 a)) ∧ w'.cell? ⟨w.heap.size, 2, none⟩ = some (.int .u64 (L 2 a)) ∧ w'.cell? ⟨w.heap.size, 3, none⟩ = some (.int .u64 (L 3 a)) ∧ w'.cell? ⟨w1.heap.size, 0, none⟩ = some (.int .u64 (L 0 (a / 2))) ∧ w'.cell? ⟨w1.heap.size, 1, none⟩ = some (.int .u64 (L 1 (a / 2))) ∧ w'.cell? ⟨w1.heap.size, 2, none⟩ = some (.int .u64 (L 2 (a / 2))) ∧ w'.cell? ⟨w1.heap.size, 3, none⟩ = some (.int .u64 (L 3 (a / 2))) ∧ w'.cell? ⟨wA.heap.size, 0, none⟩ = some (.int .u64 (L 0 a)) ∧ w'.cell? ⟨wA.heap.size, 1, none⟩ = some (.int .u64 (L 1 a)) ∧ w'.cell? ⟨wA.heap.size, 2, none⟩ = some (.int .u64 (L 2 a)) ∧ w'.cell? ⟨wA.heap.size, 3, none⟩ = some (.int .u64 (L 3 a)))
      ((refine hS.out _ ?_; first | (with_reducible exact K.drew (Below.refl _ _)) | (with_reducible exact K.drew (K.alloc (Below.refl _ _) _)) | (with_reducible exact Below.refl _ _) | (with_reducible exact K.call (by go_split_ands; assumption) hk) | (with_reducible exact K.alloc (by go_split_ands; assumption) _) | (with_reducible exact K.again (by go_split_ands; assumption) (by omega) _) | (with_reducible exact K.set (by go_split_ands; assumption) (by first | omega | (simp; done) | (simp; omega)) _) | (with_reducible exact K.set (K.set (K.set (K.set (by go_split_ands; assumption) (by first | omega | (simp; done) | (simp; omega)) _) (by first | omega | (simp; done) | (simp; omega)) _) (by first | omega | (simp; done) | (simp; omega)) _) (by first | omega | (simp; done) | (simp; omega)) _)))
      (first
        | (go_at_call 13; with_reducible refine Calls.mono (awake_any _) ?_; rintro e w' ⟨rfl, hk⟩; have hz := hk.size; (try simp at hz); obtain ⟨hc, hf⟩ := bcell hk; have hl := lt_keep hk)
        | (go_at_call 20; with_reducible refine Calls.mono (bit_any (a / 2) i _) ?_; rintro e w' ⟨rfl, hk⟩; have hz := hk.size; (try simp at hz); obtain ⟨hc, hf⟩ := bcell hk; have hl := lt_keep hk)
        | (go_at_call 20; with_reducible refine Calls.mono (bit_next h h0 h1 _) ?_; rintro e w' ⟨rfl, hk⟩; have hz := hk.size; (try simp at hz); obtain ⟨hc, hf⟩ := bcell hk; have hl := lt_keep hk)
        | (go_at_call 20; with_reducible refine Calls.mono (bit_below a (-1) (by omega) _) ?_; rintro e w' ⟨rfl, hk⟩; have hz := hk.size; (try simp at hz); obtain ⟨hc, hf⟩ := bcell hk; have hl := lt_keep hk)
        | (go_at_call 20; with_reducible refine Calls.mono (bit_above a 256 (by omega) _) ?_; rintro e w' ⟨rfl, hk⟩; have hz := hk.size; (try simp at hz); obtain ⟨hc, hf⟩ := bcell hk; have hl := lt_keep hk))
    have hH := ‹Below _ _ _ ∧ _›
    go_wp2
    go_ret
    exact ⟨rfl, K.call hw3 hH.1⟩
  · have E := Arr.stored ((Arr.new _ _ rfl _ 0 0 0 0).keep hkA) (L 0 a) (L 1 a) (L 2 a) (L 3 a)
    have hH := ‹Below _ _ _ ∧ _›
    have A3 := A2.keep hH.1
    have H3 := H2.keep hH.1
    have hw3 := K.call hw hH.1
    clear hH hS A2 H2 D2 hw
    generalize ((((wA.setCell ⟨wB.heap.size, 0, none⟩ (.int .u64 (L 0 a))).setCell ⟨wB.heap.size, 1, none⟩ (.int .u64 (L 1 a))).setCell ⟨wB.heap.size, 2, none⟩ (.int .u64 (L 2 a))).setCell ⟨wB.heap.size, 3, none⟩ (.int .u64 (L 3 a))) = W1 at *
    have hS : Hid (∀ w', Below W1.heap.size W1 w' → (Below W1.heap.size W1 w' ∧ w'.cell? ⟨w.heap.size, 0, none⟩ = some (.int .u64 (L 0 a)) ∧ w'.cell? ⟨w.heap.size, 1, none⟩ = some (.int .u64 (L 1 a)) ∧ w'.cell? ⟨w.heap.size, 2, none⟩ = some (.int .u64 (L 2 a)) ∧ w'.cell? ⟨w.heap.size, 3, none⟩ = some (.int .u64 (L 3 a)) ∧ w'.cell? ⟨w1.heap.size, 0, none⟩ = some (.int .u64 (L 0 (a / 2))) ∧ w'.cell? ⟨w1.heap.size, 1, none⟩ = some (.int .u64 (L 1 (a / 2))) ∧ w'.cell? ⟨w1.heap.size, 2, none⟩ = some (.int .u64 (L 2 (a / 2))) ∧ w'.cell? ⟨w1.heap.size, 3, none⟩ = some (.int .u64 (L 3 (a / 2))) ∧ w'.cell? ⟨wB.heap.size, 0, none⟩ = some (.int .u64 (L 0 a)) ∧ w'.cell? ⟨wB.heap.size, 1, none⟩ = some (.int .u64 (L 1 a)) ∧ w'.cell? ⟨wB.heap.size, 2, none⟩ = some (.int .u64 (L 2 a)) ∧ w'.cell? ⟨wB.heap.size, 3, none⟩ = some (.int .u64 (L 3 a)))) := fun w' hB => ⟨hB, later hB A3.c0, later hB A3.c1, later hB A3.c2, later hB A3.c3, later hB H3.c0, later hB H3.c1, later hB H3.c2, later hB H3.c3, later hB E.c0, later hB E.c1, later hB E.c2, later hB E.c3⟩
    go_wp2_with fail
    go_region_held3 (fun w' => Below W1.heap.size W1 w' ∧ w'.cell? ⟨w.heap.size, 0, none⟩ = some (.int .u64 (L 0 a)) ∧ w'.cell? ⟨w.heap.size, 1, none⟩ = some (.int .u64 (L 1 a)) ∧ w'.cell? ⟨w.heap.size, 2, none⟩ = some (.int .u64 (L 2 a)) ∧ w'.cell? ⟨w.heap.size, 3, none⟩ = some (.int .u64 (L 3 a)) ∧ w'.cell? ⟨w1.heap.size, 0, none⟩ = some (.int .u64 (L 0 (a / 2))) ∧ w'.cell? ⟨w1.heap.size, 1, none⟩ = some (.int .u64 (L 1 (a / 2))) ∧ w'.cell? ⟨w1.heap.size, 2, none⟩ = some (.int .u64 (L 2 (a / 2))) ∧ w'.cell? ⟨w1.heap.size, 3, none⟩ = some (.int .u64 (L 3 (a / 2))) ∧ w'.cell? ⟨wB.heap.size, 0, none⟩ = some (.int .u64 (L 0 a)) ∧ w'.cell? ⟨wB.heap.size, 1, none⟩ = some (.int .u64 (L 1 a)) ∧ w'.cell? ⟨wB.heap.size, 2, none⟩ = some (.int .u64 (L 2 a)) ∧ w'.cell? ⟨wB.heap.size, 3, none⟩ = some (.int .u64 (L 3 a)))
      ((refine hS.out _ ?_; first | (with_reducible exact K.drew (Below.refl _ _)) | (with_reducible exact K.drew (K.alloc (Below.refl _ _) _)) | (with_reducible exact Below.refl _ _) | (with_reducible exact K.call (by go_split_ands; assumption) hk) | (with_reducible exact K.alloc (by go_split_ands; assumption) _) | (with_reducible exact K.again (by go_split_ands; assumption) (by omega) _) | (with_reducible exact K.set (by go_split_ands; assumption) (by first | omega | (simp; done) | (simp; omega)) _) | (with_reducible exact K.set (K.set (K.set (K.set (by go_split_ands; assumption) (by first | omega | (simp; done) | (simp; omega)) _) (by first | omega | (simp; done) | (simp; omega)) _) (by first | omega | (simp; done) | (simp; omega)) _) (by first | omega | (simp; done) | (simp; omega)) _)))
      (first
        | (go_at_call 13; with_reducible refine Calls.mono (awake_any _) ?_; rintro e w' ⟨rfl, hk⟩; have hz := hk.size; (try simp at hz); obtain ⟨hc, hf⟩ := bcell hk; have hl := lt_keep hk)
        | (go_at_call 20; with_reducible refine Calls.mono (bit_any (a / 2) i _) ?_; rintro e w' ⟨rfl, hk⟩; have hz := hk.size; (try simp at hz); obtain ⟨hc, hf⟩ := bcell hk; have hl := lt_keep hk)
        | (go_at_call 20; with_reducible refine Calls.mono (bit_next h h0 h1 _) ?_; rintro e w' ⟨rfl, hk⟩; have hz := hk.size; (try simp at hz); obtain ⟨hc, hf⟩ := bcell hk; have hl := lt_keep hk)
        | (go_at_call 20; with_reducible refine Calls.mono (bit_below a (-1) (by omega) _) ?_; rintro e w' ⟨rfl, hk⟩; have hz := hk.size; (try simp at hz); obtain ⟨hc, hf⟩ := bcell hk; have hl := lt_keep hk)
        | (go_at_call 20; with_reducible refine Calls.mono (bit_above a 256 (by omega) _) ?_; rintro e w' ⟨rfl, hk⟩; have hz := hk.size; (try simp at hz); obtain ⟨hc, hf⟩ := bcell hk; have hl := lt_keep hk))
    have hH := ‹Below _ _ _ ∧ _›
    go_wp2
    go_ret
    exact ⟨rfl, K.call hw3 hH.1⟩
  · have E := Arr.stored (((Arr.new _ _ rfl _ 0 0 0 0).drew.keep hkB).keep hkA) (L 0 a) (L 1 a) (L 2 a) (L 3 a)
    have hH := ‹Below _ _ _ ∧ _›
    have A3 := A2.keep hH.1
    have H3 := H2.keep hH.1
    have hw3 := K.call hw hH.1
    clear hH hS A2 H2 D2 hw
    generalize ((((wA.setCell ⟨W0.heap.size, 0, none⟩ (.int .u64 (L 0 a))).setCell ⟨W0.heap.size, 1, none⟩ (.int .u64 (L 1 a))).setCell ⟨W0.heap.size, 2, none⟩ (.int .u64 (L 2 a))).setCell ⟨W0.heap.size, 3, none⟩ (.int .u64 (L 3 a))) = W1 at *
    have hS : Hid (∀ w', Below W1.heap.size W1 w' → (Below W1.heap.size W1 w' ∧ w'.cell? ⟨w.heap.size, 0, none⟩ = some (.int .u64 (L 0 a)) ∧ w'.cell? ⟨w.heap.size, 1, none⟩ = some (.int .u64 (L 1 a)) ∧ w'.cell? ⟨w.heap.size, 2, none⟩ = some (.int .u64 (L 2 a)) ∧ w'.cell? ⟨w.heap.size, 3, none⟩ = some (.int .u64 (L 3 a)) ∧ w'.cell? ⟨w1.heap.size, 0, none⟩ = some (.int .u64 (L 0 (a / 2))) ∧ w'.cell? ⟨w1.heap.size, 1, none⟩ = some (.int .u64 (L 1 (a / 2))) ∧ w'.cell? ⟨w1.heap.size, 2, none⟩ = some (.int .u64 (L 2 (a / 2))) ∧ w'.cell? ⟨w1.heap.size, 3, none⟩ = some (.int .u64 (L 3 (a / 2))) ∧ w'.cell? ⟨W0.heap.size, 0, none⟩ = some (.int .u64 (L 0 a)) ∧ w'.cell? ⟨W0.heap.size, 1, none⟩ = some (.int .u64 (L 1 a)) ∧ w'.cell? ⟨W0.heap.size, 2, none⟩ = some (.int .u64 (L 2 a)) ∧ w'.cell? ⟨W0.heap.size, 3, none⟩ = some (.int .u64 (L 3 a)))) := fun w' hB => ⟨hB, later hB A3.c0, later hB A3.c1, later hB A3.c2, later hB A3.c3, later hB H3.c0, later hB H3.c1, later hB H3.c2, later hB H3.c3, later hB E.c0, later hB E.c1, later hB E.c2, later hB E.c3⟩
    go_wp2_with fail
    go_region_held3 (fun w' => Below W1.heap.size W1 w' ∧ w'.cell? ⟨w.heap.size, 0, none⟩ = some (.int .u64 (L 0 a)) ∧ w'.cell? ⟨w.heap.size, 1, none⟩ = some (.int .u64 (L 1 a)) ∧ w'.cell? ⟨w.heap.size, 2, none⟩ = some (.int .u64 (L 2 a)) ∧ w'.cell? ⟨w.heap.size, 3, none⟩ = some (.int .u64 (L 3 a)) ∧ w'.cell? ⟨w1.heap.size, 0, none⟩ = some (.int .u64 (L 0 (a / 2))) ∧ w'.cell? ⟨w1.heap.size, 1, none⟩ = some (.int .u64 (L 1 (a / 2))) ∧ w'.cell? ⟨w1.heap.size, 2, none⟩ = some (.int .u64 (L 2 (a / 2))) ∧ w'.cell? ⟨w1.heap.size, 3, none⟩ = some (.int .u64 (L 3 (a / 2))) ∧ w'.cell? ⟨W0.heap.size, 0, none⟩ = some (.int .u64 (L 0 a)) ∧ w'.cell? ⟨W0.heap.size, 1, none⟩ = some (.int .u64 (L 1 a)) ∧ w'.cell? ⟨W0.heap.size, 2, none⟩ = some (.int .u64 (L 2 a)) ∧ w'.cell? ⟨W0.heap.size, 3, none⟩ = some (.int .u64 (L 3 a)))
      ((refine hS.out _ ?_; first | (with_reducible exact K.drew (Below.refl _ _)) | (with_reducible exact K.drew (K.alloc (Below.refl _ _) _)) | (with_reducible exact Below.refl _ _) | (with_reducible exact K.call (by go_split_ands; assumption) hk) | (with_reducible exact K.alloc (by go_split_ands; assumption) _) | (with_reducible exact K.again (by go_split_ands; assumption) (by omega) _) | (with_reducible exact K.set (by go_split_ands; assumption) (by first | omega | (simp; done) | (simp; omega)) _) | (with_reducible exact K.set (K.set (K.set (K.set (by go_split_ands; assumption) (by first | omega | (simp; done) | (simp; omega)) _) (by first | omega | (simp; done) | (simp; omega)) _) (by first | omega | (simp; done) | (simp; omega)) _) (by first | omega | (simp; done) | (simp; omega)) _)))
      (first
        | (go_at_call 13; with_reducible refine Calls.mono (awake_any _) ?_; rintro e w' ⟨rfl, hk⟩; have hz := hk.size; (try simp at hz); obtain ⟨hc, hf⟩ := bcell hk; have hl := lt_keep hk)
        | (go_at_call 20; with_reducible refine Calls.mono (bit_any (a / 2) i _) ?_; rintro e w' ⟨rfl, hk⟩; have hz := hk.size; (try simp at hz); obtain ⟨hc, hf⟩ := bcell hk; have hl := lt_keep hk)
        | (go_at_call 20; with_reducible refine Calls.mono (bit_next h h0 h1 _) ?_; rintro e w' ⟨rfl, hk⟩; have hz := hk.size; (try simp at hz); obtain ⟨hc, hf⟩ := bcell hk; have hl := lt_keep hk)
        | (go_at_call 20; with_reducible refine Calls.mono (bit_below a (-1) (by omega) _) ?_; rintro e w' ⟨rfl, hk⟩; have hz := hk.size; (try simp at hz); obtain ⟨hc, hf⟩ := bcell hk; have hl := lt_keep hk)
        | (go_at_call 20; with_reducible refine Calls.mono (bit_above a 256 (by omega) _) ?_; rintro e w' ⟨rfl, hk⟩; have hz := hk.size; (try simp at hz); obtain ⟨hc, hf⟩ := bcell hk; have hl := lt_keep hk))
    have hH := ‹Below _ _ _ ∧ _›
    go_wp2
    go_ret
    exact ⟨rfl, K.call hw3 hH.1⟩
end Go.Proofs.Ytehlkgpoekpllaa
